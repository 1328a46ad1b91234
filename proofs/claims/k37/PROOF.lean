import PyProof.Rows.All
import Wide.All
import OpenK.AllK
import Wide.FinOn
import Lean
import PyProof.EqAt
import PyProof.EqKinds
import PyProof.TupleCall
import PyProof.NeKinds
import PyProof.RulesTry
import PyProof.ExcArgsOwn
import PyProof.InstStoreFacts
import PyProof.ExcInit
import PyProof.ExcClass3
import KE.KTryMore
import PyProof.NsDelKeeps
import PyProof.RulesAs
import PyProof.InstEq
import PyProof.Rows.EqMixed
import PyProof.FactsAll.tuple_1
import PySem.Challenge.RW_markwords_k37_refused_by_a_store
set_option Elab.async false
set_option linter.all false
set_option maxRecDepth 100000
set_option maxHeartbeats 8000000
set_option hygiene false
local macro_rules|`(tactic|ac_rfl)=>`(tactic|refine ⟨rfl,rfl,rfl,by decide +kernel,rfl,by decide +kernel,by decide +kernel⟩)
local macro_rules|`(tactic|ac_nf)=>`(tactic|walk_at "bn")
local macro_rules|`(tactic|rfl')=>`(tactic|walk_at "go")
set_option compiler.extract_closed false
local macro_rules|`(tactic|lia)=>`(tactic|first|lia (config := {})|omega)
local macro_rules|`(tactic|symm)=>`(tactic|walk_at "v")
local macro_rules|`(tactic|nofun)=>`(tactic|walk_at "u")
local macro_rules|`(tactic|left)=>`(tactic|walk_at "pk")
local macro_rules|`(tactic|right)=>`(tactic|walk_at "lk")
def Db:=@List.getElem?_eq_some_iff
def Dc:=@List.getElem?_eq_getElem
def Dd:=@List.length_map
def De:=@List.mem_of_getElem?
def Df:=@List.getElem?_append_left
def Dg:=@List.length_append
def Dh:=@Nat.le_refl
def Di:=@List.size_toArray
def Dj:=@List.length_cons
def Dk:=@List.getElem?_append_right
def Dl:=@List.mem_append
def Dm:=@List.length_set
def Dn:=@Bool.false_ne_true
def Do:=@List.mem_singleton
def Dp:=@List.mem_append_left
def Dq:=@List.getElem?_set_ne
def Dr:=@List.mem_cons
def Ds:=@List.map_append
def Dt:=@List.mem_append_right
def Du:=@Nat.lt_of_lt_of_le
def Dv:=@List.getElem?_map
def Dw:=@List.getElem?_set_self
def Dx:=@List.map_cons
def Dy:=@Nat.ne_of_lt
def Dz:=@List.mem_filter
def DA:=@List.getD_eq_getElem?_getD
def DB:=@Nat.le_trans
def DC:=@List.lookup_cons
def DD:=@List.append_nil
def DF:=@List.append_assoc
def DG:=@Nat.add_sub_cancel_left
def DH:=@List.mem_cons_self
def DI:=@List.mem_filterMap
def DJ:=@Option.map_eq_some_iff
def DL:=@List.mem_cons_of_mem
def DM:=@List.length_take
def DN:=@PySem.W.kia_one
def DO:=@List.take_length
def DP:=@List.mem_map
def DQ:=@Nat.zero_le
def DR:=@List.length_nil
def DS:=@List.flatMap_cons
def DT:=@Nat.le_of_lt
def DU:=@Int.emod_lt_of_pos
def DV:=@List.pairwise_cons
def DW:=@List.not_mem_nil
def DX:=@Int.one_mul
def DY:=@List.map_congr_left
def DZ:=@List.mem_range
def D0:=@List.nodup_cons
def D1:=@List.nil_append
def D2:=@Int.emod_nonneg
def D3:=@List.replicate_succ
def D4:=@Int.emod_eq_of_lt
def D5:=@List.length_singleton
def D6:=@List.find?_cons
def D7:=@Bool.false_eq_true
def D8:=@List.filter_append
def D9:=@Bool.and_eq_true
def Ra:=@Nat.pow_le_pow_right
def Rb:=@Nat.lt_irrefl
def Re:=@List.getElem?_cons_zero
def Rg:=@List.nodup_append
def Rh:=@List.flatMap_append
def Ri:=@List.length_drop
def Rj:=@List.cons_append
def Rk:=@PySem.W.methodCall_KW
def Rl:=@PySem.W.callWith_K
def Rm:=@PySem.W.hideAll_none
def Rn:=@List.getElem?_of_mem
def Ro:=@List.mem_of_mem_take
def Rp:=@List.flatten_cons
def Rq:=@Nat.min_eq_left
def Rr:=@PySem.W.hideAll_get
def Rs:=@List.any_cons
def Ru:=@List.getElem?_cons_succ
def Rv:=@List.mem_map_of_mem
def Rw:=@List.flatMap_def
def Rx:=@List.map_nil
def Ry:=@List.map_map
def Rz:=@Nat.zero_add
def RA:=@List.length_filter_le
def RB:=@Int.fmod_eq_emod_of_nonneg
def RC:=@Int.fdiv_eq_ediv_of_nonneg
def RD:=@List.pairwise_append
def RE:=@List.getElem?_eq_none_iff
def RF:=@Nat.sub_self
def RG:=@PySem.W.of_hideAll
def RH:=@Bool.eq_iff_iff
def RJ:=@List.getElem?_replicate
def RK:=@List.eraseIdx_cons_succ
def RL:=@List.length_eq_zero_iff
def RM:=@List.set_cons_zero
def RN:=@List.set_cons_succ
def RO:=@PySem.W.cellsFrom_some
def RP:=@List.take_of_length_le
def RQ:=@List.length_pos_of_mem
def RS:=@Int.toNat_natCast
def RT:=@List.eraseIdxIfInBounds_toArray
def RU:=@List.length_range
def RV:=@List.take_add_one
def RW:=@Nat.le_of_eq
def RX:=@List.set_append_right
def RY:=@List.set_getElem_self
def RZ:=@List.all_eq_true
def R0:=@List.getElem_mem
def R1:=@List.set_append_left
def R3:=@List.mem_of_mem_drop
def R4:=@Nat.mul_le_mul_right
def R5:=@List.filterMap_cons
def R6:=@Array.length_toList
def R7:=@PySem.W.plainGet_of
def R8:=@List.of_mem_zip
def R9:=@List.length_pos_iff
def Ba:=@List.range_succ
def Bb:=@List.filter_sublist
def Bc:=@Array.append_assoc
def Bd:=@Int.natCast_nonneg
def Be:=@Nat.add_comm
def Bf:=@Nat.lt_of_le_of_lt
def Bg:=@List.zip_cons_cons
def Bh:=@List.zip_nil_right
def Bi:=@Int.ne_of_gt
def Bj:=@Int.natAbs_natCast
def Bk:=@List.map_set
def Bl:=@List.drop_zero
def Bm:=@List.mem_or_eq_of_mem_set
def Bn:=@List.getElem?_take_of_lt
def Bo:=@Option.isSome_map
def Bp:=@PyProof.noPylong_of_log2
def Bq:=@Nat.le_succ_of_le
def Br:=@Bool.not_eq_true'
def Bs:=@List.zip_nil_left
def Bu:=@List.pairwise_map
def Bv:=@Nat.le_succ
def Bw:=@List.all_cons
def Bx:=@List.sum_cons
def By:=@PySem.W.mg_of
def Bz:=@List.filter_cons
def BA:=@Option.bind_some
def BB:=@List.flatMap_nil
def BC:=@PySem.W.funFrames_hide
def BD:=@List.zipWith_cons_cons
def BE:=@Nat.div_div_eq_div_mul
def BF:=@Nat.eq_of_beq_eq_true
def BG:=@List.foldl_cons
def BH:=@Array.getElem?_toList
def BI:=@Nat.lt_trans
def BJ:=@Option.map_some
def BK:=@List.set_set
def BL:=@List.take_left'
def BM:=@List.mem_iff_getElem?
def BN:=@List.take_append_drop
def BO:=@List.perm_append_comm
def BP:=@Bool.beq_eq_decide_eq
def BQ:=@Nat.mul_succ
def BS:=@List.dropLast_eq_take
def BU:=@List.drop_left'
def BV:=@Nat.not_lt
def BW:=@Int.not_lt
def BX:=@Int.not_le
def BY:=@Bool.and_eq_true_iff
def BZ:=@PySem.W.hideAll_size
def B0:=@List.length_dropLast
def qa7:=@Nat.div_lt_of_lt_mul
def qa8:=@Int.natAbs_neg
def qa9:=@List.nodup_nil
def qba:=@PySem.W.findObj_own
def qbb:=@Array.getElem?_push
def qbc:=@Int.pow_add
def qbd:=@Nat.pow_add
def qbe:=@Array.find?_toList
def qbf:=@PySem.W.codeRec_of
def qbg:=@List.set_comm
def qbh:=@List.contains_cons
def qbi:=@List.map_take
def qbj:=@List.map_drop
def qbk:=@List.append_of_mem
def qbl:=@Int.lt_of_lt_of_le
def qbm:=@Int.lt_or_lt_of_ne
def qbn:=@Int.natAbs_eq_zero
def qbo:=@Nat.ne_of_gt
def qbp:=@Nat.min_self
def qbq:=@Int.zero_add
def qbr:=@Nat.sub_zero
def qbs:=@Int.mul_comm
def qbt:=@Int.le_of_lt
def qbu:=@Int.add_comm
def qbv:=@Nat.log2_lt
def qbw:=@Int.le_refl
def Ug:=@PySem.wpAny_bind
def Uh:=@if_neg
def Ui:=@PySem.wpAny_pure
def Uj:=@if_pos
def Uk:=@PySem.wpAny_mono
def Ul:=@PySem.sizeLine_eq
def Um:=@decide_eq_false
def Uo:=@congrArg
def Up:=@congrFun
def Uq:=@PySem.wpAny_holding
def Ur:=@decide_eq_true
def Us:=@of_decide_eq_true
def Ut:=@PySem.wpAny_newObj_type
def Uu:=@PySem.wpAny_Call_Name_kw
def Uv:=@PySem.wpAny_standAt
def Uw:=@PySem.wpAny_truthy_bool
def Ux:=@PySem.wpAny_execs_nil
def Uy:=@PySem.wpAny_passesOwn
def Uz:=@PySem.codeAny_mono
def UB:=@PySem.wpAny_loadPart_at
def UC:=@PySem.codeAny_call_builtin
def UD:=@PyProof.Rows.assignInOrder_cons
def UF:=@PySem.tupleKind_room_in1
def UH:=@PySem.strLen_append
def UJ:=@PySem.wpAny_field
def UL:=@PySem.call_meets
def UM:=@PySem.plainObj_wpAny_Assign_Attribute
def UN:=@decide_eq_true_eq
def UP:=@if_false
def UQ:=@PySem.wpAny_call_entry
def UR:=@PySem.wpAny_execs_cons
def UU:=@or_false
def UV:=@PySem.wpAny_call
def UW:=@PySem.wpAny_Assign_stores
def UY:=@PySem.wpAny_newFunctionEnv_cells
def UZ:=@PySem.W.looks_findIn
def U0:=@of_decide_eq_false
def U1:=@if_true
def U2:=@PySem.noFill_tuple_add
def U3:=@beq_self_eq_true
def U4:=@PySem.wpAny_specialOf
def U5:=@PySem.wpAny_typeOf
def U6:=@decide_false
def U7:=@PySem.wpAny_loadPart
def U8:=@PySem.wpAny_Expr_any
def U9:=@PySem.wpAny_bindName
def Da:=@PySem.typeIs_none
namespace L2
open PySem PySem.Spec PyProof.Rows
def qj(s:Stmt)(j:Nat):Stmt:=match s with
 |.ClassDef _ _ _ body _ _ _ _ _ _ _=>body.getD j (.Pass ⟨0,0,0,0⟩)
 |_=>.Pass ⟨0,0,0,0⟩
def zK(s:Stmt):Arguments:=match s with
 |.FunctionDef _ a _ _ _ _ _ _ _ _=>a
 |_=>{ posonlyargs:=[],args:=[],vararg:=none,kwonlyargs:=[],kw_defaults:=[],kwarg:=none,defaults:=[] }
def va(s:Stmt):List Stmt:=match s with
 |.FunctionDef _ _ b _ _ _ _ _ _ _=>b
 |_=>[]
def qc(s:Stmt):Scope:=match s with
 |.FunctionDef _ _ _ _ _ _ sc _ _ _=>sc
 |_=>{ kind:=.function,names:=[],isGenerator:=false,isCoroutine:=false }
end L2
namespace Hd
open PySem PySem.W PySem.Calls PyProof.Rows
def topT(tb:String->Option Builtin)(p:Program)(w:World)(m:Nat)(an:Option Value):Nat->SharedT->Thread->Option SharedT
 |0,_,_=>none
 |k+1,s,t=>match through t with
  |true=>some s
  |false=>match stepOk m an t with
   |false=>none
   |true=>match stepT (denote tb) p w s t with
    |some (s1,t1)=>topT tb p w m an k s1 t1
    |none=>none
theorem JV :
  ∀{k:Nat}{s r:SharedT}{t:Thread},topT tb p w m an k s t=some r->topRun tb p w m an k s.abs t=some r.abs
 |0,_,_,_,h=>by cases h
 |k+1,s,r,t,h=>by
  unfold topT at h;unfold topRun;cases ht:through t with
  |true=>rw[ht]at h;cases h;rfl
  |false=>
   rw[ht]at h;cases hk:stepOk m an t with
   |false=>rw[hk]at h;cases h
   |true=>
    rw[hk]at h;cases hs:stepT (denote tb) p w s t with
    |none=>rw[hs]at h;cases h
    |some x=>
     obtain⟨s1,t1⟩:=x;rw[hs]at h;rw[stepT_spec hs];exact JV h
noncomputable def bootT(P:Params):BT :=
 .node (boot_o_0 P) (.node (boot_o_1 P) (.node (boot_o_3 P) (.node (boot_o_7 P) .nil .nil) .nil) (.node (boot_o_5 P) (.node (boot_o_9 P) .nil .nil) .nil))
  (.node (boot_o_2 P) (.node (boot_o_4 P) (.node (boot_o_8 P) .nil .nil) .nil) (.node (boot_o_6 P) (.node (boot_o_10 P) .nil .nil) .nil))
abbrev bootL:Life:={}
theorem qaW(P:Params):boot_heap P=absHeap (bootT P) 11 bootL:=by kernel_rfl
noncomputable def S0(w:World)(os:OsState):SharedT:=⟨bootT w.params,11,bootL, #[],boot_drawn,boot_toks,os⟩
noncomputable def Look(p q:Program)(loose:List Str)(Xt:Shared->Bool){α:Type}(Yf:Shared->α)(w:World)(s:Shared):=
 ((staticsOk (importedModules p.main.body) (boot_heap w.params) s.heap&&namesBound p s.heap&&gensDone s&&laidKept (boot_heap w.params) s.heap),openSeen q loose (importedModules p.main.body) Xt true s,Yf s)
theorem left_of{p q:Program}{loose:List Str}{Xt:Shared->Bool}{α:Type}{Yf:Shared->α}{Ya:World->α}{N M:Nat}(e:opening p=plainProg p.main.scope.names)(hN:Nat.ble 600 N=true)(f:∀s,fenceModules? p s=some s)(le:Nat.ble M N=true)(run:∀w os,(topT treeTable p w 11 (some (.ref 6)) M (S0 w os) (topStub p)).map (λs=>Look p q loose Xt Yf w s.abs)=some (true,openGood q loose,Ya w))(hs:∀P:Params,((boot_heap P).isNs mainGlobals,(boot_heap P).nsMap mainGlobals "__annotations__")=(true,some (.ref 6))):LeftO p q loose Xt Yf Ya N:=λw=>by
 obtain⟨⟨h,gs,d,k,os⟩,e1,e2⟩:=DJ.mp (boot_open e hN f w);obtain⟨rfl,rfl,rfl,rfl⟩:h=boot_heap w.params/\gs=Array.mk []/\d=boot_drawn/\k=boot_toks:=by simpa using e2
 obtain⟨z1,z3⟩:_/\_:=by simpa only[Prod.mk.injEq]using hs w.params
 obtain⟨r,r1,r2⟩:=DJ.mp (run w os);obtain⟨l1,l2,l3⟩:_/\_/\_:=by simpa only[Look,Prod.mk.injEq]using r2
 have r3:=topRun_mono (N-M) _ _ _ _ (JV r1);rw[show M+(N-M)=N by have:=Nat.le_of_ble_eq_true le;lia]at r3;have a:(S0 w os).abs=⟨boot_heap w.params, #[],boot_drawn,boot_toks,os⟩:=by rw[qaW];rfl
 rw[a]at r3;have t:topFrom treeTable p w N ⟨boot_heap w.params, #[],boot_drawn,boot_toks,os⟩=some r.abs:=by
  unfold topFrom;dsimp only;rw[z1,z3,show(boot_heap w.params).objs.size=11 from rfl,r3];show(match staticsOk (importedModules p.main.body) (boot_heap w.params) r.abs.heap&&namesBound p r.abs.heap&&gensDone r.abs&&laidKept (boot_heap w.params) r.abs.heap with|true=>_|false=>_)=_;rw[l1]
 unfold openEnds;rw[e1];show(topFrom treeTable p w N _).map _=_;rw[t];exact Uo some (Prod.ext l2 l3)
def fill(f:Nat->Obj):List Nat->Frag->List Obj
 | [],_=>[]
 |i::r, []=>f i::fill f r []
 |i::r,(a,o)::Ξ=>match Nat.beq a i with
  |true=>o::fill f r Ξ
  |false=>f i::fill f r ((a,o)::Ξ)
theorem Ze:∀{r:List Nat}{Ξ:Frag},(∀p∈Ξ,f p.1=p.2)->fill f r Ξ=r.map f
 | [],_,_=>rfl
 |i::r, [],h=>Uo (f i :: ·) (Ze h)
 |i::r,(a,o)::Ξ,h=>by
  unfold fill;cases e:Nat.beq a i with
  |true=>
   cases BF e;exact(Uo (· :: fill f r Ξ) (h (i,o) (.head _)).symm).trans (Uo (f i :: ·) (Ze λp m=>h p (.tail _ m)))
  |false=>exact Uo (f i :: ·) (Ze h)
noncomputable def BR(P:Params):Frag:=[(0,boot_o_0 P),(1,boot_o_1 P),(4,boot_o_4 P),(5,boot_o_5 P),(6,boot_o_6 P),(7,boot_o_7 P),(8,boot_o_8 P),(9,boot_o_9 P),(10,boot_o_10 P)]
def ins(x:Nat×Obj):Frag->Frag
 | []=>[x]
 |y::r=>match Nat.ble x.1 y.1 with
  |true=>x::y::r
  |false=>y::ins x r
def KX(Ξ R:Frag):Frag:=R.foldr ins Ξ
def E0:Obj:=⟨.none,none,.fields #[], #[]⟩
noncomputable def SE(Ξ R:Frag)(Q:List Nat)(n:Nat)(f:Nat->Obj)(l:Life)(d:Drawn)(k:Nat)(os:OsState):Shared:=⟨⟨(fill (λi=>match Q.any (Nat.beq i) with|true=>E0|false=>f i) (List.range n) (KX Ξ R)).toArray,l⟩, #[],d,k,os⟩
theorem SE_is{s:SharedT}(h:(s.n,s.gens,Q.map s.tree.get,(KX Ξ R).map λp=>s.tree.get p.1)=(n, #[],Q.map (λ_=>some E0),(KX Ξ R).map λp=>some p.2)):s.abs=SE Ξ R Q n (λi=>(s.tree.get i).getD default) s.life s.drawn s.toks s.os:=by
 obtain⟨T,m,l,g,d,k,os⟩:=s;obtain⟨rfl,rfl,h2,h3⟩:m=n/\g=#[]/\_/\_:=by simpa only[Prod.mk.injEq]using h
 show Shared.mk (absHeap T m l) _ _ _ _=Shared.mk _ _ _ _ _;have q:(λi=>match Q.any (Nat.beq i) with|true=>E0|false=>(T.get i).getD default)=λi=>(T.get i).getD default:=funext λi=>by
  cases e:Q.any (Nat.beq i) with
  |false=>rfl
  |true=>
   obtain⟨j,hj,x⟩:=List.any_eq_true.mp e;cases BF x;show E0=(T.get i).getD default;rw[List.map_inj_left.mp h2 i hj];rfl
 unfold absHeap BT.list;show _=Shared.mk ⟨(fill (λi=>match Q.any (Nat.beq i) with|true=>E0|false=>(T.get i).getD default) _ _).toArray,_⟩ _ _ _ _;rw[q,Ze λp m=>by show(T.get p.1).getD default=_;rw[List.map_inj_left.mp h3 p m];rfl]
noncomputable def LkA(p q:Program)(w:World)(s:Shared):=((staticsOk (importedModules p.main.body) (boot_heap w.params) s.heap&&namesBound p s.heap&&gensDone s&&laidKept (boot_heap w.params) s.heap),seen ((recsOf q).map (·.name)) (ownsOf q) [] { s with gens:=#[] },s.heap.bltView)
noncomputable def GdA(q:Program):=(true,expectedOf q,bltViewBooted)
noncomputable def LkB(p q:Program)(loose:List Str)(Xt:Shared->Bool)(s:Shared):=(s.heap.keysOk (looseW q loose) ((recsOf q).map (·.name)) ((litsOf q).map (·.1)) ((clssOf q (looseW q loose)).map (·.name))&&s.heap.accountedOkI (importedModules p.main.body)&&s.heap.isNs mainGlobals&&s.heap.isNs builtinsNs&&tablesOk q s.heap&&Xt s&&(if true then s.gens.size==0 else !leftWithCleanup s.gens))
noncomputable def LkD(q:Program)(loose:List Str)(s:Shared):=(pinSeenD q (drecsOf q) s,plainSeenE q (looseW q loose) s,plainSeenD q loose s,wideSeen q s,clsSeenW q loose s)
noncomputable def GdD(q:Program)(loose:List Str):=(pinGoodD (drecsOf q),plainGoodE q (looseW q loose),plainGoodD q loose,wideGood q,clsGoodW q loose)
theorem look3{p q:Program}{loose:List Str}{Xt:Shared->Bool}{α:Type}{Yf:Shared->α}{w:World}{y:α}{s:Shared}(hA:LkA p q w s=GdA q)(hB:(LkB p q loose Xt s,tabsOk q s)=(true,true))(hD:LkD q loose s=GdD q loose)(hC:Yf s=y):Look p q loose Xt Yf w s=(true,openGood q loose,y):=
 Prod.ext (Uo (·.1) hA) (Prod.ext (Prod.ext (Uo (·.2.1) hA) (Prod.ext (Uo (·.2.2) hA) (Prod.ext (Uo (·.1) hB) (Prod.ext (Uo (·.2) hB) hD)))) hC)
theorem left_ofE{Ξ R:Params->Frag}{as:∀P,KA=(Ξ P).map (·.1)}(e:opening p=plainProg p.main.scope.names)(hN:Nat.ble 600 N=true)(f:∀s,fenceModules? p s=some s)(le:Nat.ble M N=true)(run:∀w os,(topT treeTable p w 11 (some (.ref 6)) M (S0 w os) (topStub p)).map (λs=>(s.n,s.gens,Q.map s.tree.get,(KX (Ξ w.params) (R w.params)).map λp=>s.tree.get p.1))=some (n, #[],Q.map (λ_=>some E0),(KX (Ξ w.params) (R w.params)).map λp=>some p.2))(look:∀w f l d k os,Look p q loose Xt (kHook Ξ KA as).obs w (SE (Ξ w.params) (R w.params) Q n f l d k os)=(true,openGood q loose,(kHook Ξ KA as).val w))(hs:∀P:Params,((boot_heap P).isNs mainGlobals,(boot_heap P).nsMap mainGlobals "__annotations__")=(true,some (.ref 6))):LeftO p q loose Xt (kHook Ξ KA as).obs (kHook Ξ KA as).val N :=
 left_of e hN f le (λw os=>by
  obtain⟨r,r1,r2⟩:=DJ.mp (run w os);rw[r1];exact Uo some ((Uo _ (SE_is r2)).trans (look w _ _ _ _ _))) hs
theorem boot_main(P:Params):((boot_heap P).isNs mainGlobals,(boot_heap P).nsMap mainGlobals "__annotations__")=(true,some (.ref 6)):=by kernel_rfl
end Hd
namespace Hd
open PySem PySem.W PySem.Calls PyProof.Rows
theorem close{H:Hook}(left:LeftO r.prog q loose (λs=>xlAt q lv s&&recOk (RowW.records (OpenRow.toRowW r)) s) H.obs H.val N)(h1:defOf q r.name=some (d,kwd))(h2:r.prog.theDef r.name=some (d.params,d.body,d.scope))(h3:kwWritten? d.params.kwonlyargs d.params.kw_defaults=some kwd)(h4:(!r.writes||r.records.isEmpty)=true)(h5:r.wellSaid=true)(h6:(chainsOk q&&opensWell r.prog&&(frees r.toRowW&&r.within.isEmpty))=true)(h7:r.prog.bare)(hw:r.toRowW.promised)(hc:WalkO q loose (XL q lv) H.says r.toRowW d kwd λf vs=>PySem.call f vs):r.Holds :=
 holds_open left H.of H.keeps (λs z=>xl_of s (BY.mp z).1) XL.keeps h1 h2 h3 (λs z=>recFacts_of (BY.mp z).2) h4 h5 h6 h7 hw hc
end Hd
namespace Mw
open PySem L2
def top(i:Nat):Stmt:=PySem.Challenge.pw_markwords_k37_refused_by_a_store.main.body.getD i (.Pass ⟨0,0,0,0⟩)
end Mw
theorem PySem.W.Fast.te13284508909471653622:True:=True.intro
def PySem.W.Fast.tw13860132305414535093:PySem.Program:=PySem.Challenge.pw_markwords_k37_refused_by_a_store
theorem PySem.W.Fast.te13860132305414535093:PySem.Challenge.pw_markwords_k37_refused_by_a_store=PySem.W.Fast.tw13860132305414535093:=rfl
namespace Mx
open PySem PySem.W PySem.Calls PyProof.Rows L2 Mw
abbrev kC(n q:Str)(t l a:Nat)(x7:Int)(r8:Nat)(b9:Bool)(nP:Nat)(nQ nR nS:Value)(nT nU nV:Nat):Obj:=⟨.type "code", none,(.fields #[.str n t,.str q (t+1),.str "/claim/cut.py" (t+2),.int l 0,.int a 0,.int 0 0,.int 0 0,.int x7 0,.ref r8,.bool b9,.int 181 0,.ref nP,nQ,nR,nS,.ref nT,.int nU 0,.int l 0,.str "/claim/cut.py" nV]), #[]⟩
abbrev kF(n q:Str)(s:Stmt)(m:Value)(c:Nat):Obj:=⟨.type "function", none,(.func (W.fnOf n q (zK s) (va s) (qc s) .none .none .none m none (.ref c) .none)), #[]⟩
abbrev kT(l:List Value):Obj:=⟨.type "tuple", none,(.seq l.toArray 0), #[]⟩
abbrev kD(n q:Str)(t l a:Nat)(x:Int)(r u:Nat):Obj:=kC n q t l a x r true (r+1) .none (.ref (r+2)) (.ref (r+3)) (r+4) u (u+1)
abbrev kd(n:Str):=kD n n
abbrev kn(n:Str)(t l a:Nat)(x:Int)(r u:Nat):Obj:=kC n n t l a x r true (r+1) .none .none .none (r+2) u (u+1)
abbrev kx:List Value:=[.type "ValueError",.type "Exception",.type "BaseException",.type "object"]
abbrev kK(n:Str)(b m:List Value)(s:Nat)(l:List Value)(c:Option Value)(t u:Nat)(w:String):Obj:=⟨.type "type", none,(.cls { name:=n,bases:=b,mro:=m,ns:=s,qualname:=n,hasDict:=true,slotNames:=[],subclasses:=l,abstract:=false,collection:=none,hasDel:=false }), #[c,none,some (.str n t),some (.str n u),some (.builtin w),some (.bool true)]⟩
abbrev kE(l:List DictEntry)(n:Nat):Obj:=⟨.type "dict", none,(.dict l.toArray n), #[]⟩
abbrev kf(n:Str):=kF n n
abbrev y0:Value:=.str "markwords.errors" 187
abbrev y1:Value:=.str "markwords.layings" 323
abbrev y2:Value:=.str "markwords.limbs" 354
abbrev y3:Value:=.str "markwords.needs" 410
abbrev y4:Value:=.str "markwords.words" 440
abbrev y5:Value:=.str "markwords.things" 511
abbrev y6:Value:=.str "markwords.sweeping" 540
abbrev y7:Value:=.str "markwords.store" 587
abbrev y8:Value:=.str "law_markwords_k37_refused_by_a_store" 899
abbrev oE(P:Params)(n:Str)(t:Nat)(v:Value):DictEntry:=⟨PyData.keyHash P n,.str n t,v⟩
abbrev o(P:Params)(n:Str)(t a:Nat):=oE P n t (.ref a)
noncomputable def K:Params->Frag:=λP=>
(nat_lit 2,⟨.none,none,(.dict #[] 0), #[]⟩)::
(nat_lit 3,kE [oE P "__name__" 165 (.str "law_markwords_k37_refused_by_a_store" 899),oE P "__doc__" 166 (.none),oE P "__package__" 167 (.none),oE P "__loader__" 168 (.builtin "__main__.__loader__#opaque"),oE P "__spec__" 169 (.none),o P "__annotations__" 170 6,o P "__builtins__" 171 4,oE P "__file__" 173 (.str "/claim/cut.py" 172),oE P "__cached__" 174 (.none),o P "WordError" 206 24,o P "WrongKind" 231 44,o P "Nought" 247 56,o P "NoRoom" 263 68,o P "Faulty" 290 87,o P "NoText" 306 99,o P "NotFormed" 322 111,o P "kinds_on" 330 118,o P "mark_of" 339 125,o P "mark_for" 345 130,o P "load_bits" 353 137,oE P "PAIR_HEAD" 357 (.int (1) 356),oE P "PAIR_SIZE" 359 (.int (3) 358),o P "limb_count" 368 144,o P "rows_of" 381 151,o P "size_at" 390 158,o P "number_at" 401 165,o P "is_great" 409 172,o P "need_numbers" 420 179,o P "need_divisor" 429 186,o P "need_pair" 437 193,oE P "REGISTERS" 439 (.int (8) 438),o P "THREE" 445 194,oE P "SIGNS" 447 (.int (128) 446),o P "load_of" 456 201,o P "marked" 466 208,o P "small_of" 474 215,o P "worth_of" 484 222,o P "word_of" 492 229,o P "is_small" 501 236,o P "address_of" 510 243,o P "heads_in" 521 250,o P "pair_words_at" 529 257,o P "read_worth" 539 264,o P "reached_from" 553 271,o P "new_places" 564 278,o P "moved_word" 574 285,o P "moved_thing" 580 290,o P "swept" 586 295,o P "KINDS_BY_MARK" 604 296,o P "own_laying" 611 303,o P "most_outside" 619 310,o P "Store" 898 516,o P "_law_bag" 906 525,o P "_law_draw" 915 532,o P "_law_full_laying" 921 537,o P "_law_laying" 927 542,o P "_law_number" 938 549,o P "_law_mark" 944 554,o P "_law_load" 952 561,o P "_law_is_small" 961 568,o P "_law_alike" 969 575,o P "_law_deed_done" 981 582,o P "_law_wide" 987 587,o P "_law_word" 993 592,o P "_law_tried" 1004 599,o P "_law_filled" 1017 606,o P "_law_held" 1027 613,o P "_law_due" 1038 620,o P "_law_needy" 1050 627,o P "law" 1056 632] 70)::
(nat_lit 15,kT [.type "ValueError"])::
(nat_lit 22,kT [])::
(nat_lit 23,kE [oE P "__module__" 196 (.str "markwords.errors" 187),oE P "__firstlineno__" 200 (.int (2) 199),o P "__static_attributes__" 201 22,o P "__weakref__" 203 25,oE P "__doc__" 204 (.none)] 3)::
(nat_lit 24,kK "WordError" [.type "ValueError"] (.ref 24::kx) 23 [.ref 44,.ref 56,.ref 68,.ref 87,.ref 99,.ref 111] (some (.ref 15)) 189 197 "ValueError.__new__")::
(nat_lit 25,⟨.type "getset_descriptor", none,(.fields #[.str "__weakref__" 202,.ref 24,.builtin "ExceptionGroup.__weakref__",.none]), #[]⟩)::
(nat_lit 28,kT [.ref 24])::
(nat_lit 40,kD "__init__" "WrongKind.__init__" 219 6 2 3 35 224)::
(nat_lit 41,kF "__init__" "WrongKind.__init__" (qj (top 2) 0) y0 40)::
(nat_lit 42,kT [.str "part" 227])::
(nat_lit 43,kE [oE P "__module__" 214 (.str "markwords.errors" 187),oE P "__firstlineno__" 218 (.int (4) 217),o P "__init__" 226 41,o P "__static_attributes__" 228 42,oE P "__doc__" 229 (.none)] 2)::
(nat_lit 44,kK "WrongKind" [.ref 24] (.ref 44 :: .ref 24::kx) 43 [] (some (.ref 28)) 207 215 "ValueError.__new__")::
(nat_lit 47,kT [.ref 24])::
(nat_lit 54,kT [])::
(nat_lit 55,kE [oE P "__module__" 239 (.str "markwords.errors" 187),oE P "__firstlineno__" 243 (.int (9) 242),o P "__static_attributes__" 244 54,oE P "__doc__" 245 (.none)] 2)::
(nat_lit 56,kK "Nought" [.ref 24] (.ref 56 :: .ref 24::kx) 55 [] (some (.ref 47)) 232 240 "ValueError.__new__")::
(nat_lit 59,kT [.ref 24])::
(nat_lit 66,kT [])::
(nat_lit 67,kE [oE P "__module__" 255 (.str "markwords.errors" 187),oE P "__firstlineno__" 259 (.int (11) 258),o P "__static_attributes__" 260 66,oE P "__doc__" 261 (.none)] 2)::
(nat_lit 68,kK "NoRoom" [.ref 24] (.ref 68 :: .ref 24::kx) 67 [] (some (.ref 59)) 248 256 "ValueError.__new__")::
(nat_lit 71,kT [.ref 24])::
(nat_lit 83,kD "__init__" "Faulty.__init__" 276 15 3 3 78 282)::
(nat_lit 84,kF "__init__" "Faulty.__init__" (qj (top 5) 0) y0 83)::
(nat_lit 85,kT [.str "k" 285,.str "word" 286])::
(nat_lit 86,kE [oE P "__module__" 271 (.str "markwords.errors" 187),oE P "__firstlineno__" 275 (.int (13) 274),o P "__init__" 284 84,o P "__static_attributes__" 287 85,oE P "__doc__" 288 (.none)] 2)::
(nat_lit 87,kK "Faulty" [.ref 24] (.ref 87 :: .ref 24::kx) 86 [] (some (.ref 71)) 264 272 "ValueError.__new__")::
(nat_lit 90,kT [.ref 24])::
(nat_lit 97,kT [])::
(nat_lit 98,kE [oE P "__module__" 298 (.str "markwords.errors" 187),oE P "__firstlineno__" 302 (.int (19) 301),o P "__static_attributes__" 303 97,oE P "__doc__" 304 (.none)] 2)::
(nat_lit 99,kK "NoText" [.ref 24] (.ref 99 :: .ref 24::kx) 98 [] (some (.ref 90)) 291 299 "ValueError.__new__")::
(nat_lit 102,kT [.ref 24])::
(nat_lit 109,kT [])::
(nat_lit 110,kE [oE P "__module__" 314 (.str "markwords.errors" 187),oE P "__firstlineno__" 318 (.int (21) 317),o P "__static_attributes__" 319 109,oE P "__doc__" 320 (.none)] 2)::
(nat_lit 111,kK "NotFormed" [.ref 24] (.ref 111 :: .ref 24::kx) 110 [] (some (.ref 102)) 307 315 "ValueError.__new__")::
(nat_lit 117,kn "kinds_on" 325 24 2 3 114 328)::
(nat_lit 118,kf "kinds_on" (top 9) y1 117)::
(nat_lit 124,kd "mark_of" 331 26 2 3 119 337)::
(nat_lit 125,kf "mark_of" (top 10) y1 124)::
(nat_lit 129,kn "mark_for" 340 29 2 3 126 343)::
(nat_lit 130,kf "mark_for" (top 11) y1 129)::
(nat_lit 136,kd "load_bits" 346 31 2 3 131 351)::
(nat_lit 137,kf "load_bits" (top 12) y1 136)::
(nat_lit 143,kd "limb_count" 360 36 2 3 138 366)::
(nat_lit 144,kf "limb_count" (top 16) y2 143)::
(nat_lit 150,kd "rows_of" 369 39 2 3 145 379)::
(nat_lit 151,kf "rows_of" (top 17) y2 150)::
(nat_lit 157,kd "size_at" 382 48 2 3 152 388)::
(nat_lit 158,kf "size_at" (top 18) y2 157)::
(nat_lit 164,kd "number_at" 391 51 3 3 159 399)::
(nat_lit 165,kf "number_at" (top 19) y2 164)::
(nat_lit 171,kd "is_great" 402 56 2 3 166 407)::
(nat_lit 172,kf "is_great" (top 20) y2 171)::
(nat_lit 178,kd "need_numbers" 412 59 3 3 173 418)::
(nat_lit 179,kf "need_numbers" (top 22) y3 178)::
(nat_lit 185,kd "need_divisor" 421 64 3 3 180 427)::
(nat_lit 186,kf "need_divisor" (top 23) y3 185)::
(nat_lit 192,kd "need_pair" 430 68 2 3 187 435)::
(nat_lit 193,kf "need_pair" (top 24) y3 192)::
(nat_lit 194,kT [.str "none" 442,.str "no" 443,.str "yes" 444])::
(nat_lit 200,kd "load_of" 448 75 3 3 195 454)::
(nat_lit 201,kf "load_of" (top 29) y4 200)::
(nat_lit 207,kd "marked" 457 77 3 3 202 464)::
(nat_lit 208,kf "marked" (top 30) y4 207)::
(nat_lit 214,kd "small_of" 467 80 2 3 209 472)::
(nat_lit 215,kf "small_of" (top 31) y4 214)::
(nat_lit 221,kd "worth_of" 475 82 2 3 216 482)::
(nat_lit 222,kf "worth_of" (top 32) y4 221)::
(nat_lit 228,kd "word_of" 485 94 2 3 223 490)::
(nat_lit 229,kf "word_of" (top 33) y4 228)::
(nat_lit 235,kd "is_small" 493 100 2 3 230 499)::
(nat_lit 236,kf "is_small" (top 34) y4 235)::
(nat_lit 242,kd "address_of" 502 103 2 3 237 508)::
(nat_lit 243,kf "address_of" (top 35) y4 242)::
(nat_lit 249,kd "heads_in" 513 107 1 3 244 519)::
(nat_lit 250,kf "heads_in" (top 37) y5 249)::
(nat_lit 256,kd "pair_words_at" 522 114 2 3 251 527)::
(nat_lit 257,kf "pair_words_at" (top 38) y5 256)::
(nat_lit 263,kd "read_worth" 530 116 3 3 258 537)::
(nat_lit 264,kf "read_worth" (top 39) y5 263)::
(nat_lit 270,kd "reached_from" 542 122 3 3 265 551)::
(nat_lit 271,kf "reached_from" (top 41) y6 270)::
(nat_lit 277,kd "new_places" 554 131 2 3 272 562)::
(nat_lit 278,kf "new_places" (top 42) y6 277)::
(nat_lit 284,kd "moved_word" 565 139 3 3 279 572)::
(nat_lit 285,kf "moved_word" (top 43) y6 284)::
(nat_lit 289,kn "moved_thing" 575 144 4 3 286 578)::
(nat_lit 290,kf "moved_thing" (top 44) y6 289)::
(nat_lit 294,kn "swept" 581 148 3 3 291 584)::
(nat_lit 295,kf "swept" (top 45) y6 294)::
(nat_lit 296,kE [oE P "small" 589 (.str "number" 590),oE P "far" 591 (.str "number" 592),oE P "pair" 593 (.str "pair" 594),oE P "sign" 595 (.str "sign" 596),oE P "one" 597 (.str "one" 598)] 5)::
(nat_lit 302,kd "own_laying" 605 156 1 3 297 609)::
(nat_lit 303,kf "own_laying" (top 48) y7 302)::
(nat_lit 309,kd "most_outside" 612 158 2 3 304 617)::
(nat_lit 310,kf "most_outside" (top 49) y7 309)::
(nat_lit 323,kD "__init__" "Store.__init__" 632 162 3 3 318 638)::
(nat_lit 324,kF "__init__" "Store.__init__" (qj (top 50) 0) y7 323)::
(nat_lit 330,kD "words" "Store.words" 641 171 1 3 325 645)::
(nat_lit 331,kF "words" "Store.words" (qj (top 50) 1) y7 330)::
(nat_lit 337,kD "outside" "Store.outside" 648 174 1 3 332 652)::
(nat_lit 338,kF "outside" "Store.outside" (qj (top 50) 2) y7 337)::
(nat_lit 344,kD "sweep" "Store.sweep" 655 177 1 3 339 660)::
(nat_lit 345,kF "sweep" "Store.sweep" (qj (top 50) 3) y7 344)::
(nat_lit 351,kD "lacks" "Store.lacks" 663 183 2 3 346 668)::
(nat_lit 352,kF "lacks" "Store.lacks" (qj (top 50) 4) y7 351)::
(nat_lit 358,kD "make_room" "Store.make_room" 671 186 2 3 353 676)::
(nat_lit 359,kF "make_room" "Store.make_room" (qj (top 50) 5) y7 358)::
(nat_lit 365,kD "lay" "Store.lay" 679 192 4 3 360 686)::
(nat_lit 366,kF "lay" "Store.lay" (qj (top 50) 6) y7 365)::
(nat_lit 372,kD "number" "Store.number" 689 196 3 3 367 696)::
(nat_lit 373,kF "number" "Store.number" (qj (top 50) 7) y7 372)::
(nat_lit 379,kD "sign" "Store.sign" 699 206 3 3 374 705)::
(nat_lit 380,kF "sign" "Store.sign" (qj (top 50) 8) y7 379)::
(nat_lit 386,kD "one" "Store.one" 708 209 3 3 381 714)::
(nat_lit 387,kF "one" "Store.one" (qj (top 50) 9) y7 386)::
(nat_lit 393,kD "copy" "Store.copy" 717 212 3 3 388 723)::
(nat_lit 394,kF "copy" "Store.copy" (qj (top 50) 10) y7 393)::
(nat_lit 400,kD "in_word" "Store.in_word" 726 215 2 3 395 731)::
(nat_lit 401,kF "in_word" "Store.in_word" (qj (top 50) 11) y7 400)::
(nat_lit 407,kD "come_of_two" "Store.come_of_two" 734 218 5 3 402 743)::
(nat_lit 408,kF "come_of_two" "Store.come_of_two" (qj (top 50) 12) y7 407)::
(nat_lit 414,kD "plus" "Store.plus" 746 226 4 3 409 753)::
(nat_lit 415,kF "plus" "Store.plus" (qj (top 50) 13) y7 414)::
(nat_lit 421,kD "less" "Store.less" 756 230 4 3 416 763)::
(nat_lit 422,kF "less" "Store.less" (qj (top 50) 14) y7 421)::
(nat_lit 428,kD "times" "Store.times" 766 234 4 3 423 773)::
(nat_lit 429,kF "times" "Store.times" (qj (top 50) 15) y7 428)::
(nat_lit 435,kD "over" "Store.over" 776 238 4 3 430 783)::
(nat_lit 436,kF "over" "Store.over" (qj (top 50) 16) y7 435)::
(nat_lit 442,kD "rest" "Store.rest" 786 242 4 3 437 793)::
(nat_lit 443,kF "rest" "Store.rest" (qj (top 50) 17) y7 442)::
(nat_lit 449,kD "pair" "Store.pair" 796 246 4 3 444 803)::
(nat_lit 450,kF "pair" "Store.pair" (qj (top 50) 18) y7 449)::
(nat_lit 456,kD "pair_in" "Store.pair_in" 806 250 2 3 451 811)::
(nat_lit 457,kF "pair_in" "Store.pair_in" (qj (top 50) 19) y7 456)::
(nat_lit 463,kD "first" "Store.first" 814 254 3 3 458 820)::
(nat_lit 464,kF "first" "Store.first" (qj (top 50) 20) y7 463)::
(nat_lit 470,kD "second" "Store.second" 823 257 3 3 465 829)::
(nat_lit 471,kF "second" "Store.second" (qj (top 50) 21) y7 470)::
(nat_lit 477,kD "set_first" "Store.set_first" 832 260 3 3 472 838)::
(nat_lit 478,kF "set_first" "Store.set_first" (qj (top 50) 22) y7 477)::
(nat_lit 484,kD "set_second" "Store.set_second" 841 263 3 3 479 847)::
(nat_lit 485,kF "set_second" "Store.set_second" (qj (top 50) 23) y7 484)::
(nat_lit 491,kD "below" "Store.below" 850 266 3 3 486 856)::
(nat_lit 492,kF "below" "Store.below" (qj (top 50) 24) y7 491)::
(nat_lit 498,kD "same" "Store.same" 859 270 3 3 493 865)::
(nat_lit 499,kF "same" "Store.same" (qj (top 50) 25) y7 498)::
(nat_lit 505,kD "kind" "Store.kind" 868 275 2 3 500 873)::
(nat_lit 506,kF "kind" "Store.kind" (qj (top 50) 26) y7 505)::
(nat_lit 512,kD "told" "Store.told" 876 278 2 3 507 881)::
(nat_lit 513,kF "told" "Store.told" (qj (top 50) 27) y7 512)::
(nat_lit 514,kT [.str "held" 884,.str "kept" 885,.str "laying" 886,.str "quick" 887,.str "room" 888,.str "slow" 889,.str "sweeps" 890])::
(nat_lit 515,kE [oE P "__module__" 627 (.str "markwords.store" 587),oE P "__firstlineno__" 631 (.int (160) 630),o P "__init__" 640 324,o P "words" 647 331,o P "outside" 654 338,o P "sweep" 662 345,o P "lacks" 670 352,o P "make_room" 678 359,o P "lay" 688 366,o P "number" 698 373,o P "sign" 707 380,o P "one" 716 387,o P "copy" 725 394,o P "in_word" 733 401,o P "come_of_two" 745 408,o P "plus" 755 415,o P "less" 765 422,o P "times" 775 429,o P "over" 785 436,o P "rest" 795 443,o P "pair" 805 450,o P "pair_in" 813 457,o P "first" 822 464,o P "second" 831 471,o P "set_first" 840 478,o P "set_second" 849 485,o P "below" 858 492,o P "same" 867 499,o P "kind" 875 506,o P "told" 883 513,o P "__static_attributes__" 891 514,o P "__dict__" 893 517,o P "__weakref__" 895 518,oE P "__doc__" 896 (.none)] 4)::
(nat_lit 516,kK "Store" [.type "object"] [.ref 516,.type "object"] 515 [] none 620 628 "object.__new__")::
(nat_lit 517,⟨.type "getset_descriptor", none,(.fields #[.str "__dict__" 892,.ref 516,.builtin "function.__dict__",.builtin "function.__dict__#set"]), #[]⟩)::
(nat_lit 518,⟨.type "getset_descriptor", none,(.fields #[.str "__weakref__" 894,.ref 516,.builtin "ExceptionGroup.__weakref__",.none]), #[]⟩)::
(nat_lit 524,kn "_law_bag" 901 283 1 3 521 904)::
(nat_lit 525,kf "_law_bag" (top 52) y8 524)::
(nat_lit 531,kd "_law_draw" 907 288 2 3 526 913)::
(nat_lit 532,kf "_law_draw" (top 53) y8 531)::
(nat_lit 536,kn "_law_full_laying" 916 299 3 3 533 919)::
(nat_lit 537,kf "_law_full_laying" (top 54) y8 536)::
(nat_lit 541,kn "_law_laying" 922 307 1 3 538 925)::
(nat_lit 542,kf "_law_laying" (top 55) y8 541)::
(nat_lit 574,kd "_law_alike" 962 347 2 3 569 967)::
(nat_lit 575,kf "_law_alike" (top 60) y8 574)::
(nat_lit 581,kd "_law_deed_done" 970 349 2 3 576 979)::
(nat_lit 582,kf "_law_deed_done" (top 61) y8 581)::
(nat_lit 586,kn "_law_wide" 982 369 2 3 583 985)::
(nat_lit 587,kf "_law_wide" (top 62) y8 586)::
(nat_lit 591,kn "_law_word" 988 374 1 3 588 991)::
(nat_lit 592,kf "_law_word" (top 63) y8 591)::
(nat_lit 598,kd "_law_tried" 994 379 2 3 593 1002)::
(nat_lit 599,kf "_law_tried" (top 64) y8 598)::
(nat_lit 605,kd "_law_filled" 1005 389 4 3 600 1015)::
(nat_lit 606,kf "_law_filled" (top 65) y8 605)::
(nat_lit 612,kd "_law_held" 1018 402 2 3 607 1025)::
(nat_lit 613,kf "_law_held" (top 66) y8 612)::
(nat_lit 619,kd "_law_due" 1028 407 2 3 614 1036)::
(nat_lit 620,kf "_law_due" (top 67) y8 619)::
(nat_lit 626,kd "_law_needy" 1039 418 1 3 621 1048)::
(nat_lit 627,kf "_law_needy" (top 68) y8 626)::
(nat_lit 631,kn "law" 1051 423 1 3 628 1054)::
(nat_lit 632,kf "law" (top 69) y8 631)::
[]
def KA:List Addr:=[2,3,15,22,23,24,25,28,40,41,42,43,44,47,54,55,56,59,66,67,68,71,83,84,85,86,87,90,97,98,99,102,109,110,111,117,118,124,125,129,130,136,137,143,144,150,151,157,158,164,165,171,172,178,179,185,186,192,193,194,200,201,207,208,214,215,221,222,228,229,235,236,242,243,249,250,256,257,263,264,270,271,277,278,284,285,289,290,294,295,296,302,303,309,310,323,324,330,331,337,338,344,345,351,352,358,359,365,366,372,373,379,380,386,387,393,394,400,401,407,408,414,415,421,422,428,429,435,436,442,443,449,450,456,457,463,464,470,471,477,478,484,485,491,492,498,499,505,506,512,513,514,515,516,517,518,524,525,531,532,536,537,541,542,574,575,581,582,586,587,591,592,598,599,605,606,612,613,619,620,626,627,631,632]
theorem K_as:∀P,KA=(K P).map (·.1):=λ_=>by kernel_rfl
noncomputable def KR(P:Params):Frag:=Hd.BR P++[(nat_lit 548,kd "_law_number" 928 329 2 3 543 936),(nat_lit 549,kf "_law_number" (top 56) y8 548),(nat_lit 553,kn "_law_mark" 939 340 2 3 550 942),(nat_lit 554,kf "_law_mark" (top 57) y8 553),(nat_lit 560,kd "_law_load" 945 342 2 3 555 950),(nat_lit 561,kf "_law_load" (top 58) y8 560),(nat_lit 567,kd "_law_is_small" 953 344 2 3 562 959),(nat_lit 568,kf "_law_is_small" (top 59) y8 567)]
def Q:List Nat:=[36,79,115,120,127,132,139,146,153,160,167,174,181,188,196,203,210,217,224,231,238,245,252,259,266,273,280,287,292,298,305,319,326,333,340,347,354,361,368,375,382,389,396,403,410,417,424,431,438,445,452,459,466,473,480,487,494,501,508,522,527,534,539,544,551,556,563,570,577,584,589,594,601,608,615,622,629]
noncomputable def vw:Program:=W.view PySem.Challenge.pw_markwords_k37_refused_by_a_store [1,2,3,4,5,6,7,9,10,11,12,14,15,16,17,18,19,20,22,23,24,25,27,28,29,30,31,32,33,34,35,37,38,39,41,42,43,44,45,47,48,49,50,52,53,54,55,56,57,58,59,60,61,62,63,64,65,66,67,68,69]
def ls:List Str:=["KINDS_BY_MARK"]
def lv:List (Str×WData):=[]
noncomputable def Xt(s:Shared):Bool:=xlAt vw lv s&&recOk (RowW.records (OpenRow.toRowW (OpenLaw.row PySem.Challenge.rw_markwords_k37_refused_by_a_store))) s
noncomputable def Lf(w:World)(os:OsState):=(Hd.topT treeTable PySem.Challenge.pw_markwords_k37_refused_by_a_store w 11 (some (.ref 6)) 8702 (Hd.S0 w os) (topStub PySem.Challenge.pw_markwords_k37_refused_by_a_store)).map (λs=>(s.n,s.gens,Q.map s.tree.get,(Hd.KX (K w.params) (KR w.params)).map λp=>s.tree.get p.1))
noncomputable def Rt(w:World)(_:OsState):Option (Nat×Array GenState×List (Option Obj)×List (Option Obj)):=some (633, #[],Q.map (λ_=>some Hd.E0),(Hd.KX (K w.params) (KR w.params)).map λp=>some p.2)
theorem Lf_is:Lf=Lf:=rfl
theorem Rt_is:Rt=Rt:=rfl
name_quick MwLq for Lf by Lf_is
name_quick MwRq for Rt by Rt_is
theorem run0(w:World):Lf (World.withFollow w "special-get-raises" false)=Rt (World.withFollow w "special-get-raises" false):=
 (Up PySem.W.Fast.MwLq_eq (World.withFollow w "special-get-raises" false)).trans (Eq.trans (by kernel_rfl:PySem.W.Fast.MwLq (World.withFollow w "special-get-raises" false)=PySem.W.Fast.MwRq (World.withFollow w "special-get-raises" false)) (Up PySem.W.Fast.MwRq_eq (World.withFollow w "special-get-raises" false)).symm)
theorem run1(w:World):Lf (World.withFollow w "special-get-raises" true)=Rt (World.withFollow w "special-get-raises" true):=
 (Up PySem.W.Fast.MwLq_eq (World.withFollow w "special-get-raises" true)).trans (Eq.trans (by kernel_rfl:PySem.W.Fast.MwLq (World.withFollow w "special-get-raises" true)=PySem.W.Fast.MwRq (World.withFollow w "special-get-raises" true)) (Up PySem.W.Fast.MwRq_eq (World.withFollow w "special-get-raises" true)).symm)
theorem run(w:World):Lf w=Rt w:=byRow2 "special-get-raises" (P:=λw=>Lf w=Rt w) run0 run1 w
theorem L_eq(w:World)(os:OsState):Lf w os=(Hd.topT treeTable PySem.Challenge.pw_markwords_k37_refused_by_a_store w 11 (some (.ref 6)) 8702 (Hd.S0 w os) (topStub PySem.Challenge.pw_markwords_k37_refused_by_a_store)).map (λs=>(s.n,s.gens,Q.map s.tree.get,(Hd.KX (K w.params) (KR w.params)).map λp=>s.tree.get p.1)):=by delta Lf;exact Eq.refl _
theorem R_eq(w:World)(os:OsState):Rt w os=some (633, #[],Q.map (λ_=>some Hd.E0),(Hd.KX (K w.params) (KR w.params)).map λp=>some p.2):=by delta Rt;exact Eq.refl _
noncomputable def LfA(w:World)(f:Nat->Obj)(l:Life)(d:Drawn)(k:Nat)(os:OsState):=Hd.LkA PySem.Challenge.pw_markwords_k37_refused_by_a_store vw w (Hd.SE (K w.params) (KR w.params) Q 633 f l d k os)
noncomputable def RtA(w:World)(f:Nat->Obj)(l:Life)(d:Drawn)(k:Nat)(os:OsState):=Hd.GdA vw
theorem LfA_is:LfA=LfA:=rfl
name_quick MwLAq for LfA by LfA_is
theorem RtA_is:RtA=RtA:=rfl
name_quick MwRAq for RtA by RtA_is
theorem lookA(w:World):LfA (w)=RtA (w):=
 (Up PySem.W.Fast.MwLAq_eq (w)).trans (Eq.trans (by kernel_rfl:PySem.W.Fast.MwLAq (w)=PySem.W.Fast.MwRAq (w)) (Up PySem.W.Fast.MwRAq_eq (w)).symm)
theorem HA_eq(w:World)(f:Nat->Obj)(l:Life)(d:Drawn)(k:Nat)(os:OsState):Hd.LkA PySem.Challenge.pw_markwords_k37_refused_by_a_store vw w (Hd.SE (K w.params) (KR w.params) Q 633 f l d k os)=Hd.GdA vw:=Eq.trans (by delta LfA;exact Eq.refl _:_=LfA w f l d k os) ((Up (Up (Up (Up (Up (lookA w) f) l) d) k) os).trans (by delta RtA;exact Eq.refl _))
noncomputable def LfB(w:World)(f:Nat->Obj)(l:Life)(d:Drawn)(k:Nat)(os:OsState):=(λs=>(Hd.LkB PySem.Challenge.pw_markwords_k37_refused_by_a_store vw ls Xt s,tabsOk vw s)) (Hd.SE (K w.params) (KR w.params) Q 633 f l d k os)
noncomputable def RtB(w:World)(f:Nat->Obj)(l:Life)(d:Drawn)(k:Nat)(os:OsState):=(true,true)
theorem LfB_is:LfB=LfB:=rfl
name_quick MwLBq for LfB by LfB_is
theorem lookB(w:World):LfB w=RtB w:=(Up PySem.W.Fast.MwLBq_eq w).trans (by kernel_rfl)
theorem HB_eq(w:World)(f:Nat->Obj)(l:Life)(d:Drawn)(k:Nat)(os:OsState):(λs=>(Hd.LkB PySem.Challenge.pw_markwords_k37_refused_by_a_store vw ls Xt s,tabsOk vw s)) (Hd.SE (K w.params) (KR w.params) Q 633 f l d k os)=(true,true):=Eq.trans (by delta LfB;exact Eq.refl _:_=LfB w f l d k os) ((Up (Up (Up (Up (Up (lookB w) f) l) d) k) os).trans (by delta RtB;exact Eq.refl _))
noncomputable def LfD(w:World)(f:Nat->Obj)(l:Life)(d:Drawn)(k:Nat)(os:OsState):=Hd.LkD vw ls (Hd.SE (K w.params) (KR w.params) Q 633 f l d k os)
noncomputable def RtD(w:World)(f:Nat->Obj)(l:Life)(d:Drawn)(k:Nat)(os:OsState):=Hd.GdD vw ls
theorem LfD_is:LfD=LfD:=rfl
name_quick MwLDq for LfD by LfD_is
theorem RtD_is:RtD=RtD:=rfl
name_quick MwRDq for RtD by RtD_is
theorem lookD(w:World):LfD (w)=RtD (w):=
 (Up PySem.W.Fast.MwLDq_eq (w)).trans (Eq.trans (by kernel_rfl:PySem.W.Fast.MwLDq (w)=PySem.W.Fast.MwRDq (w)) (Up PySem.W.Fast.MwRDq_eq (w)).symm)
theorem HD_eq(w:World)(f:Nat->Obj)(l:Life)(d:Drawn)(k:Nat)(os:OsState):Hd.LkD vw ls (Hd.SE (K w.params) (KR w.params) Q 633 f l d k os)=Hd.GdD vw ls:=Eq.trans (by delta LfD;exact Eq.refl _:_=LfD w f l d k os) ((Up (Up (Up (Up (Up (lookD w) f) l) d) k) os).trans (by delta RtD;exact Eq.refl _))
noncomputable def LfC(w:World)(f:Nat->Obj)(l:Life)(d:Drawn)(k:Nat)(os:OsState):=(kHook K KA K_as).obs (Hd.SE (K w.params) (KR w.params) Q 633 f l d k os)
noncomputable def RtC(w:World)(f:Nat->Obj)(l:Life)(d:Drawn)(k:Nat)(os:OsState):=(kHook K KA K_as).val w
theorem LfC_is:LfC=LfC:=rfl
name_quick MwLCq for LfC by LfC_is
theorem RtC_is:RtC=RtC:=rfl
name_quick MwRCq for RtC by RtC_is
theorem lookC(w:World):LfC (w)=RtC (w):=
 (Up PySem.W.Fast.MwLCq_eq (w)).trans (Eq.trans (by kernel_rfl:PySem.W.Fast.MwLCq (w)=PySem.W.Fast.MwRCq (w)) (Up PySem.W.Fast.MwRCq_eq (w)).symm)
theorem HC_eq(w:World)(f:Nat->Obj)(l:Life)(d:Drawn)(k:Nat)(os:OsState):(kHook K KA K_as).obs (Hd.SE (K w.params) (KR w.params) Q 633 f l d k os)=(kHook K KA K_as).val w:=Eq.trans (by delta LfC;exact Eq.refl _:_=LfC w f l d k os) ((Up (Up (Up (Up (Up (lookC w) f) l) d) k) os).trans (by delta RtC;exact Eq.refl _))
theorem hLf9:LeftO PySem.Challenge.pw_markwords_k37_refused_by_a_store vw ls Xt (kHook K KA K_as).obs (kHook K KA K_as).val 8702 :=
 Hd.left_ofE (R:=KR) (Q:=Q) (M:=8702) (n:=633) (by kernel_rfl) (by decide) (λ_=>by kernel_rfl) (by decide) (λw os=>(L_eq w os).symm.trans ((Up (run w) os).trans (R_eq w os))) (λw f l d k os=>Hd.look3 (HA_eq w f l d k os) (HB_eq w f l d k os) (HD_eq w f l d k os) (HC_eq w f l d k os)) Hd.boot_main
end Mx
set_option bootstrap.genMatcherCode false
set_option genSizeOf false
set_option genSizeOfSpec false
set_option tactic.hygienic false
namespace L2
open PySem PySem.Spec PyProof.Rows
theorem Jk(h:Q 4238894112 { s with toks:=s.toks+1 }):wpAny (model prog w) A (pyHash .none) Q E s:=by
 unfold pyHash;have hv:[Value.none].any Value.onHeap=false:=rfl;refine Ug ?_;rw[cRoomFor,Uh (by rw[hv];exact Dn)];refine Ui ?_;refine Ug (U4 (Da s) F.slot_NoneType_hash.lookup ?_);show wpAny _ _ (if(some (Value.builtin "NoneType.__hash__")==some Value.none)=true then _ else _) Q E s;rw[Uh (by rw[beq_builtin_none];exact Dn)];refine Ug (U4 (Da s) F.slot_NoneType_hash.lookup ?_);show wpAny _ _ (callSpecialIfBoundUnlessNone? .none "__hash__" _ >>= _) Q E s;refine Ug (wpAny_callSpecialIfBoundUnlessNone?_slot (Da s) F.slot_NoneType_hash
  (UQ F.slot_NoneType_hash (Da s) F.entry_NoneType_hash
   (show wpAny _ _ (do ret (<-mkInt 4238894112)) _ _ s from wpAny_ret_mkInt ?_) (F.args_NoneType_hash_1 _)))
 show wpAny _ _ (if(decide (-(2:Int)^63<=4238894112)&&decide ((4238894112:Int)<2^63))=true then _ else _) Q E _;rw[Uj (by decide)];exact Ui h
inductive Key where
 |inl (i:Int)|inr (x:Str)|non
 deriving DecidableEq
def Ju:Key->Value->Bool
 |.inl k,v=>Value.isInt k v
 |.inr x,v=>Value.isStrOf x v
 |.non,.none=>true
 |.non,_=>false
def keyH(w:World):Key->Int
 |.inl k=>hashInt k
 |.inr x=>hashStr w x
 |.non=>4238894112
theorem qP:∀{k:Key}{v:Value},Ju k v=true->(∃i t,k=Key.inl i/\v=Value.int i t)\/(∃x t,k=Key.inr x/\v=Value.str x t)\/(k=Key.non/\v=Value.none)
 |.inl i,v,h=>by
  obtain⟨t,e⟩:=Value.isInt_shape (k:=i) (v:=v) h;exact .inl ⟨i,t,rfl,e⟩
 |.inr x,v,h=>by
  obtain⟨t,e⟩:=Value.isStrOf_shape (x:=x) (v:=v) h;exact .inr (.inl ⟨x,t,rfl,e⟩)
 |.non,v,h=>by
  cases v<;>first|exact .inr (.inr ⟨rfl,rfl⟩)|exact absurd h (by simp[Ju])
theorem GK(i:Int)(t:Tok):Ju (.inl i) (.int i t)=true:=by simp[Ju,Value.isInt]
theorem GJ(x:Str)(t:Tok):Ju (.inr x) (.str x t)=true:=by simp[Ju,Value.isStrOf]
theorem q7s(a b:Int):decide ((Key.inl a:Key)=Key.inl b)=(a==b):=by
 by_cases e:a=b
 ·subst e;simp
 ·have h:¬(Key.inl a:Key)=Key.inl b:=λq=>e (Key.inl.inj q)
  rw[Um h];exact(beq_eq_false_iff_ne.mpr e).symm
theorem q6A(a b:Str):decide ((Key.inr a:Key)=Key.inr b)=decide (a=b):=by
 by_cases e:a=b
 ·subst e;simp
 ·have h:¬(Key.inr a:Key)=Key.inr b:=λq=>e (Key.inr.inj q)
  rw[Um h,Um e]
theorem q7K(a:Int)(b:Str):decide ((Key.inl a:Key)=Key.inr b)=false:=Um (λq=>nomatch q)
theorem q8B(a:Str)(b:Int):decide ((Key.inr a:Key)=Key.inl b)=false:=Um (λq=>nomatch q)
def qZ(prog:Program)(w:World):PySem.KeyKind prog w Key where
 is:=Ju
 hash:=keyH w
 inj:=λv a b ha hb=>by
  rcases qP ha with⟨i,t,rfl,rfl⟩|⟨x,t,rfl,rfl⟩|⟨rfl,rfl⟩
  ·rcases qP hb with⟨j,u,rfl,e⟩|⟨y,u,rfl,e⟩|⟨rfl,e⟩
   ·injection e with e1 _;rw[e1]
   ·exact nomatch e
   ·exact nomatch e
  ·rcases qP hb with⟨j,u,rfl,e⟩|⟨y,u,rfl,e⟩|⟨rfl,e⟩
   ·exact nomatch e
   ·injection e with e1 _;rw[e1]
   ·exact nomatch e
  ·rcases qP hb with⟨j,u,rfl,e⟩|⟨y,u,rfl,e⟩|⟨rfl,e⟩
   ·exact nomatch e
   ·exact nomatch e
   ·rfl
 byValue:=λk v h=>by
  rcases qP h with⟨i,t,rfl,rfl⟩|⟨x,t,rfl,rfl⟩|⟨rfl,rfl⟩<;>rfl
 pyHash:=λhv h=>by
  rcases qP hv with⟨i,t,rfl,rfl⟩|⟨x,t,rfl,rfl⟩|⟨rfl,rfl⟩
  ·exact wpAny_pyHash_int h
  ·exact wpAny_pyHash_str h
  ·exact Jk h
 eqBool:=λhu hv h=>by
  rcases qP hu with⟨i,t,rfl,rfl⟩|⟨x,t,rfl,rfl⟩|⟨rfl,rfl⟩
  ·rcases qP hv with⟨j,u,rfl,rfl⟩|⟨y,u,rfl,rfl⟩|⟨rfl,rfl⟩
   ·rw[q7s]at h;exact wpAny_eqBool_int h
   ·rw[q7K]at h;exact SeqAt.EqAt.int_str i t y u _ _ _ _ h
   ·exact SeqAt.EqAt.int_none i t _ _ _ _ h
  ·rcases qP hv with⟨j,u,rfl,rfl⟩|⟨y,u,rfl,rfl⟩|⟨rfl,rfl⟩
   ·rw[q8B]at h;exact SeqAt.EqAt.str_int x t j u _ _ _ _ h
   ·rw[q6A]at h;exact wpAny_eqBool_str h
   ·exact SeqAt.EqAt.str_none x t _ _ _ _ h
  ·rcases qP hv with⟨j,u,rfl,rfl⟩|⟨y,u,rfl,rfl⟩|⟨rfl,rfl⟩
   ·exact SeqAt.EqAt.none_int j u _ _ _ _ h
   ·exact SeqAt.EqAt.none_str y u _ _ _ _ h
   ·exact SeqAt.EqAt.same .none _ _ _ _ h
 «strs»:=λk x t v h=>by
  rcases qP h with⟨i,u,rfl,e⟩|⟨y,u,rfl,e⟩|⟨rfl,e⟩
  ·exact nomatch e
  ·injection e with e1 _
   subst e1;cases v<;>rfl
  ·exact nomatch e
theorem Jq(prog:Program)(w:World)(i:Int)(t:Tok):(qZ prog w).is (.inl i) (.int i t)=true:=GK i t
theorem xZ(prog:Program)(w:World)(x:Str)(t:Tok):(qZ prog w).is (.inr x) (.str x t)=true:=GJ x t
inductive V where
 |non|bl (b:Bool)|int (i:Int)|str (x:Str)|byt (b:Array UInt8)|flt (b:UInt64)|ref (a:Addr)|ty (n:String)
 deriving DecidableEq
def RelV:V->Value->Prop
 |.non,u=>u=Value.none
 |.bl b,u=>u=Value.bool b
 |.int i,u=>∃t,u=Value.int i t
 |.str x,u=>∃t,u=Value.str x t
 |.byt b,u=>∃t,u=Value.bytes b t
 |.flt b,u=>∃t,u=Value.float b t
 |.ref a,u=>u=Value.ref a
 |.ty n,u=>u=Value.type n
abbrev Vals:List V->List Value->Prop:=Paired RelV
theorem Vals.length(r:Vals xs us):xs.length=us.length:=Paired.length r
theorem Vals.get:∀{xs:List V}{us:List Value}{i:Nat}{x:V},Vals xs us->xs[i]?=some x->∃u,us[i]?=some u/\RelV x u
 |_,_,_,_,.nil,e=>by simp at e
 |_,_,0,_,.cons r _,e=>by simp at e;subst e;exact⟨_,rfl,r⟩
 |_,_,i+1,x,.cons _ t,e=>by
  obtain⟨u,h1,h2⟩:=Vals.get (i:=i) (x:=x) t (by simpa using e);exact⟨u,by simpa using h1,h2⟩
theorem Vals.set(r:RelV x u):∀{xs:List V}{us:List Value}(i:Nat),Vals xs us->Vals (xs.set i x) (us.set i u)
 |_,_,_,.nil=>.nil
 |_,_,0,.cons _ t=>.cons r t
 |_,_,i+1,.cons q t=>.cons q (Vals.set r i t)
theorem Vals.append:∀{xs ys:List V}{us ws:List Value},Vals xs us->Vals ys ws->Vals (xs++ys) (us++ws)
 |_,_,_,_,.nil,s=>s
 |_,_,_,_,.cons r t,s=>.cons r (Vals.append t s)
theorem Vals.take:∀{xs:List V}{us:List Value}(n:Nat),Vals xs us->Vals (xs.take n) (us.take n)
 |_,_,0,_=>.nil
 |_,_,_+1,.nil=>.nil
 |_,_,n+1,.cons r t=>.cons r (Vals.take n t)
theorem Vals.drop:∀{xs:List V}{us:List Value}(n:Nat),Vals xs us->Vals (xs.drop n) (us.drop n)
 |_,_,0,r=>r
 |_,_,_+1,.nil=>.nil
 |_,_,n+1,.cons _ t=>Vals.drop n t
def RelO:Option V->Option Value->Prop
 |some v,some u=>RelV v u
 |none,none=>True
 |_,_=>False
def KV{κ:Type}:List (κ×V)->List (κ×Value)->Prop:=Paired λ(p:κ×V) (q:κ×Value)=>p.1=q.1/\RelV p.2 q.2
def kV:Key->V
 |.inl i=>.int i
 |.inr x=>.str x
 |.non=>.non
inductive HO where
  |lst (xs:List V)
  |tup (xs:List V)
  |dK (kvs:List (Key×V))|dT (kvs:List (List Key×V))
  |set (S:Int->Bool) (n:Nat)
  |ins (C dx:Addr) (fs:List (Str×V))
  |own (x:Addr)
  |xd (fs:List (Str×V))
  |met (f x:Addr)
  |rng (lo hi:Int)
  |frz (o:Obj) (u:HO)
  |tbl (ps:Array Value)
  |ext (φ:Heap->Prop)
abbrev Hp:=Addr->Option HO
def upd(H:Hp)(a:Addr)(o:HO):Hp:=λb=>if b=a then some o else H b
theorem upd_same:upd H a o a=some o:=by unfold upd;rw[Uj rfl]
theorem upd_ne(h:b≠a):upd H a o b=H b:=by unfold upd;rw[Uh h]
theorem q9G{H:Hp}(h:H a=some o)(h':H b=some u)(d:o≠u):a≠b:=by
 intro e;subst e;rw[h]at h';exact d (Option.some.inj h')
theorem qN{H:Hp}(h:H a=some o)(h':H b=none):a≠b:=by
 intro e;subst e;rw[h]at h';cases h'
section
variable (P:Program) (w:World)
def ObjOk(H:Hp)(h:Heap)(a:Addr):HO->Prop
 |.lst xs=>xs.length<=sizeLine/\∃(its:List Value)(n:Nat),Vals xs its/\h.get? a=some { cls:=.type "list", data:=.seq its.toArray n }
 |.tup xs=>xs.length<=sizeLine/\∃its:List Value,Vals xs its/\IsTup h a its.toArray
 |.dK kvs=>kvs.length<=sizeLine/\(a==sysModules)=false/\∃vs,KV kvs vs/\h.DictOf (qZ P w) a vs
 |.dT kvs=>kvs.length<=sizeLine/\(a==sysModules)=false/\∃xs:List (List Key×Addr×Value),
   Paired (λ(p:List Key×V) (q:List Key×Addr×Value)=>p.1=q.1/\H q.2.1=some (.tup (p.1.map kV))/\RelV p.2 q.2.2) kvs xs /\
   ∃o es ep,h.get? a=some o/\o.ExactDict/\o.data=.dict es ep/\es.toList=xs.map (entryOfKey (tupleKind (qZ P w)))/\(xs.map (·.1)).Nodup
 |.set S n=>h.SetOf (intKind P w) a S n
 |.ins C dx fs=>H dx=some (.own a)/\fs.length<=1000/\dx≠a/\h.get? a=some (W.instObj C dx) /\
   ∃mA,h.Ns1 dx mA/\(∀f,RelO (fs.lookup f) (mA f))/\PySem.Within mA (fs.map (·.1))
 |.own _=>∃o,h.get? a=some o
 |.xd fs=>∃mA,h.Ns1 a mA/\∀f,RelO (fs.lookup f) (mA f)
 |.rng lo hi=>∃t u v,h.get? a=some { cls:=.type "range", data:=.fields #[.int lo t,.int hi u,.int 1 v] }
 |.frz o u=>h.get? a=some o/\ObjOk H h a u
 |.tbl ps=>h.get? a=some { cls:=.none,data:=.fields ps }
 |.met f x=>h.get? a=some (W.methodObj (.ref f) (.ref x))
 |.ext φ=>φ h/\(∃o,h.get? a=some o)/\∀h1 h2:Heap,φ h1->(∀o,h1.get? a=some o->h2.get? a=some o)->φ h2
def HOk(H:Hp)(h:Heap):Prop:=∀a o,H a=some o->ObjOk P w H h a o
end
theorem ObjOk.lt(x:ObjOk P w H h a o):a<h.objs.size:=by
 cases o with
 |lst xs=>obtain⟨_,_,_,_,e⟩:=x;exact Heap.lt_size e
 |tup xs=>obtain⟨_,_,_,p⟩:=x;exact p.lt
 |dK kvs=>obtain⟨_,_,_,_,o,_,_,e,_⟩:=x;exact Heap.lt_size e
 |dT kvs=>obtain⟨_,_,_,_,o,_,_,e,_⟩:=x;exact Heap.lt_size e
 |set S n=>obtain⟨o,_,_,_,e,_⟩:=x;exact Heap.lt_size e
 |ins C dx fs=>obtain⟨_,_,_,e,_⟩:=x;exact Heap.lt_size e
 |own y=>obtain⟨_,e⟩:=x;exact Heap.lt_size e
 |xd fs=>obtain⟨_,⟨_,_,_,e,_⟩,_⟩:=x;exact Heap.lt_size e
 |rng lo hi=>obtain⟨_,_,_,e⟩:=x;exact Heap.lt_size e
 |frz ob u=>obtain⟨e,_⟩:=x;exact Heap.lt_size e
 |tbl ps=>exact Heap.lt_size (show h.get? a=some _ from x)
 |met f y=>exact Heap.lt_size (show h.get? a=some _ from x)
 |ext φ=>obtain⟨_,⟨_,e⟩,_⟩:=x;exact Heap.lt_size e
theorem Paired.mapP{α β:Type}{F G:α->β->Prop}:∀{l₁:List α}{l₂:List β},Paired F l₁ l₂->(∀a b,F a b->G a b)->Paired G l₁ l₂
 |_,_,.nil,_=>.nil
 |_,_,.cons r t,f=>.cons (f _ _ r) (Paired.mapP t f)
theorem ObjOk.stay(x:ObjOk P w H h a o)(k:∀b u,(b=a\/H b=some (.own a))->h.get? b=some u->h'.get? b=some u)(ho:∀b,H b=some (.own a)->H' b=some (.own a))(ht:∀b xs,H b=some (.tup xs)->H' b=some (.tup xs)):ObjOk P w H' h' a o:=by
 induction o with
 |lst xs=>obtain⟨z,its,n,r,e⟩:=x;exact⟨z,its,n,r,k _ _ (.inl rfl) e⟩
 |tup xs=>obtain⟨z,its,r,ob,e,c⟩:=x;exact⟨z,its,r,ob,k _ _ (.inl rfl) e,c⟩
 |dK kvs=>obtain⟨z,y,vs,r,ob,es,ep,e,c⟩:=x;exact⟨z,y,vs,r,ob,es,ep,k _ _ (.inl rfl) e,c⟩
 |dT kvs=>
  obtain⟨z,y,xs,r,ob,es,ep,e,c⟩:=x;exact⟨z,y,xs,Paired.mapP r λp q z=>⟨z.1,ht _ _ z.2.1,z.2.2⟩,ob,es,ep,k _ _ (.inl rfl) e,c⟩
 |set S n=>obtain⟨ob,es,ep,t,e,c⟩:=x;exact⟨ob,es,ep,t,k _ _ (.inl rfl) e,c⟩
 |ins C dx fs=>
  obtain⟨d,z,ne,e,mA,⟨od,es,ep,e2,c⟩,r⟩:=x;exact⟨ho _ d,z,ne,k _ _ (.inl rfl) e,mA,⟨od,es,ep,k _ _ (.inr d) e2,c⟩,r⟩
 |own y=>obtain⟨ob,e⟩:=x;exact⟨ob,k _ _ (.inl rfl) e⟩
 |xd fs=>obtain⟨mA,⟨od,es,ep,e,c⟩,r⟩:=x;exact⟨mA,⟨od,es,ep,k _ _ (.inl rfl) e,c⟩,r⟩
 |rng lo hi=>obtain⟨t,u,v,e⟩:=x;exact⟨t,u,v,k _ _ (.inl rfl) e⟩
 |frz ob u ih=>obtain⟨e,q⟩:=x;exact⟨k _ _ (.inl rfl) e,ih q⟩
 |tbl ps=>
  have e:h.get? a=some { cls:=.none,data:=.fields ps }:=x;show h'.get? a=some { cls:=.none,data:=.fields ps };exact k a _ (.inl rfl) e
 |met f y=>
  have e:h.get? a=some (W.methodObj (.ref f) (.ref y)):=x;show h'.get? a=some (W.methodObj (.ref f) (.ref y));exact k a _ (.inl rfl) e
 |ext φ=>obtain⟨p,⟨o,e⟩,st⟩:=x;exact⟨st _ _ p λo q=>k _ _ (.inl rfl) q,⟨o,k _ _ (.inl rfl) e⟩,st⟩
theorem HOk.lt(x:HOk P w H h)(e:H a=some o):a<h.objs.size:=(x a o e).lt
theorem HOk.fresh(x:HOk P w H h)(e:h.objs.size<=a):H a=none:=by
 cases q:H a with
 |none=>rfl
 |some u=>exact absurd (Du (x.lt q) e) (Rb _)
theorem HOk.kept(x:HOk P w H h)(k:∀b u,h.get? b=some u->h'.get? b=some u):HOk P w H h':=λa o e=>
 (x a o e).stay (λb u _ q=>k b u q) (λ_ q=>q) λ_ _ q=>q
theorem HOk.laid(x:HOk P w H h)(k:∀b u,h.get? b=some u->h'.get? b=some u)(hp:h.objs.size<=a)(new:ObjOk P w (upd H a o) h' a o):HOk P w (upd H a o) h':=λb u e=>by
 have hn:=x.fresh hp;by_cases hb:b=a
 ·subst hb;rw[upd_same]at e;cases e;exact new
 ·rw[upd_ne hb]at e
  exact(x b u e).stay (λc v _ q=>k c v q) (λc q=>by rw[upd_ne (qN q hn)];exact q) λc xs q=>by rw[upd_ne (qN q hn)];exact q
def Rd(H:Hp)(a:Addr)(u:HO):Prop:=H a=some u\/∃o,H a=some (.frz o u)
theorem Rd.ok(r:Rd H a u)(x:HOk P w H h):ObjOk P w H h a u:=by
 rcases r with r|⟨o,r⟩
 ·exact x a u r
 ·obtain⟨_,q⟩:=x a _ r
  exact q
def Mut:Option HO->Prop
 |some (.lst _)=>True
 |some (.dK _)=>True
 |some (.dT _)=>True
 |some (.set _ _)=>True
 |some (.ins _ _ _)=>True
 |some (.ext _)=>True
 |_=>False
theorem HOk.write(ok:HOk P w H h)(mu:Mut (H x))(he:e=x\/H e=some (.own x))(k:∀b u,b≠e->h.get? b=some u->h'.get? b=some u)(gg:∃u,h'.get? e=some u)(new:ObjOk P w (upd H x o') h' x o'):HOk P w (upd H x o') h':=λb u q=>by
 have gE:∀c y,H c=some (.own y)->c≠x:=λc y r z=>by subst z;rw[r]at mu;exact mu
 have iU:∀c xs,H c=some (.tup xs)->c≠x:=λc xs r z=>by subst z;rw[r]at mu;exact mu
 by_cases hb:b=x
 ·subst hb;rw[upd_same]at q;cases q;exact new
 ·rw[upd_ne hb]at q
  by_cases hbe:b=e
  ·have q':H b=some (.own x):=by
    rcases he with z|z
    ·exact absurd (hbe.trans z) hb
    ·rw[hbe];exact z
   rw[q]at q';cases q';obtain⟨v,hv⟩:=gg;exact⟨v,by rw[hbe];exact hv⟩
  ·refine(ok b u q).stay (λc v hc r=>k c v ?_ r) (λc r=>by rw[upd_ne (gE c b r)];exact r) λc xs r=>by rw[upd_ne (iU c xs r)];exact r
   rcases hc with rfl|hc
   ·exact hbe
   ·rintro rfl
    rcases he with z|z
    ·exact gE c b hc z
    ·rw[hc]at z;cases z;exact hb rfl
structure Un(fs ex:List Addr)(H H':Hp)(h h':Heap):Prop where
 keep:∀b o,h.get? b=some o->H b=none->b∉fs->b∉ex->h'.get? b=some o
 slot:∀b o,h.get? b=some o->H b=none->b∈fs->b∉ex->∃sl,h'.get? b=some { o with slots:=sl }
 free:∀b o,h.get? b=some o->H b=none->b∉ex->H' b=none
 there:∀b o,h.get? b=some o->b∉ex->∃o',h'.get? b=some o'
 tups:∀b xs,H b=some (.tup xs)->H' b=some (.tup xs)
 frzs:∀b o u,H b=some (.frz o u)->H' b=some (.frz o u)
 tbls:∀b ps,H b=some (.tbl ps)->∃more,H' b=some (.tbl (ps++more))
theorem Un.any(u:Un fs ex H H1 h h1)(q:h.get? b=some ob)(n:H b=none)(hx:b∉ex):∃sl,h1.get? b=some { ob with slots:=sl }:=by
 by_cases hb:b∈fs
 ·exact u.slot b ob q n hb hx
 ·exact⟨ob.slots,u.keep b ob q n hb hx⟩
theorem Un.trans(a:Un fs ex H H1 h h1)(b:Un fs ex H1 H2 h1 h2):Un fs ex H H2 h h2 where
 keep:=λc ob q n hc hx=>b.keep c ob (a.keep c ob q n hc hx) (a.free c ob q n hx) hc hx
 slot:=λc ob q n hc hx=>by
  obtain⟨sl,e1⟩:=a.slot c ob q n hc hx;obtain⟨gh,e2⟩:=b.slot c _ e1 (a.free c ob q n hx) hc hx;exact⟨gh,e2⟩
 free:=λc ob q n hx=>by
  obtain⟨o',e1⟩:=a.there c ob q hx;exact b.free c o' e1 (a.free c ob q n hx) hx
 there:=λc ob q hx=>by
  obtain⟨o',e1⟩:=a.there c ob q hx;exact b.there c o' e1 hx
 tups:=λc xs q=>b.tups c xs (a.tups c xs q)
 frzs:=λc ob xs q=>b.frzs c ob xs (a.frzs c ob xs q)
 tbls:=λc ps q=>by
  obtain⟨m1,e1⟩:=a.tbls c ps q;obtain⟨m2,e2⟩:=b.tbls c _ e1;exact⟨m1++m2,by rw[e2,Bc]⟩
theorem Un.kept(k:∀b u,h.get? b=some u->h'.get? b=some u):Un fs ex H H h h' :=
 ⟨λb ob q _ _ _=>k b ob q,λb ob q _ _ _=>⟨ob.slots,k b ob q⟩,λ_ _ _ n _=>n,λb ob q _=>⟨ob,k b ob q⟩,λ_ _ q=>q,λ_ _ _ q=>q,λ_ ps q=>⟨#[],by rw[q];simp⟩⟩
theorem Un.refl:Un fs ex H H h h:=Un.kept λ_ _ q=>q
theorem Un.laid(k:∀b u,h.get? b=some u->h'.get? b=some u)(hp:h.objs.size<=a)(hn:H a=none):Un fs ex H (upd H a o) h h' where
 keep:=λb u q _ _ _=>k b u q
 slot:=λb u q _ _ _=>⟨u.slots,k b u q⟩
 free:=λb u q n _=>by rw[upd_ne (Dy (Du (Heap.lt_size q) hp))];exact n
 there:=λb u q _=>⟨u,k b u q⟩
 tups:=λb xs q=>by rw[upd_ne (qN q hn)];exact q
 frzs:=λb u xs q=>by rw[upd_ne (qN q hn)];exact q
 tbls:=λb ps q=>⟨#[],by rw[upd_ne (qN q hn),q];simp⟩
theorem Un.write(mu:Mut (H x))(he:e=x\/H e=some (.own x))(k:∀b u,b≠e->h.get? b=some u->h'.get? b=some u)(gg:∃u,h'.get? e=some u):Un fs ex H (upd H x o) h h':=by
 have hx:∀b,H b=none->b≠x:=λb n z=>by subst z;rw[n]at mu;exact mu
 have hb:∀b,H b=none->b≠e:=λb n z=>by
  subst z;rcases he with r|r
  ·exact hx b n r
  ·rw[n]at r;cases r
 have hm:∀b u,H b=some u->¬Mut (some u)->b≠x:=λb u q nm z=>by subst z;rw[q]at mu;exact nm mu
 refine⟨λb u q n _ _=>k b u (hb b n) q,λb u q n _ _=>⟨u.slots,k b u (hb b n) q⟩,λb u q n _=>by rw[upd_ne (hx b n)];exact n,λb u q _=>?_,
  λb xs q=>by rw[upd_ne (hm b _ q λz=>z)];exact q,λb u xs q=>by rw[upd_ne (hm b _ q λz=>z)];exact q,λb ps q=>⟨#[],by rw[upd_ne (hm b _ q λz=>z),q];simp⟩⟩
 by_cases hbe:b=e
 ·subst hbe;exact gg
 ·exact⟨u,k b u hbe q⟩
theorem Un.mono(u:Un fs ex H H1 h h1)(hs:∀b∈fs,b∈dI)(hx:∀b∈ex,b∈ex'):Un dI ex' H H1 h h1 :=
 ⟨λb ob q n hb he=>u.keep b ob q n (λz=>hb (hs b z)) λz=>he (hx b z),λ_ _ q n _ he=>u.any q n λz=>he (hx _ z),λb ob q n he=>u.free b ob q n λz=>he (hx b z),λb ob q he=>u.there b ob q λz=>he (hx b z),u.tups,u.frzs,u.tbls⟩
def trk(h:Heap)(H:Hp):List Addr:=(List.range h.objs.size).filter λa=>(H a).isSome
def hidT(h:Heap)(H:Hp):Heap:=W.hideAll h (trk h H)
theorem GS(h:Heap)(H:Hp):(hidT h H).objs.size=h.objs.size:=BZ _ _
theorem q1U(e:h.get? b=some o)(n:H b=none):(hidT h H).get? b=some o :=
 Rr _ e λhm=>by
  have q:(H b).isSome=true:=(Dz.mp hm).2;rw[n]at q;simp at q
theorem q68(e:(hidT h H).get? b=some o):h.get? b=some o/\H b=none:=by
 have e':h.get? b=some o:=RG (trk h H) e;refine⟨e',?_⟩;cases q:H b with
 |none=>rfl
 |some x=>
  have hm:b∈trk h H:=Dz.mpr ⟨DZ.mpr (Heap.lt_size e'),by simp[q]⟩;have z:(hidT h H).get? b=none:=Rm (trk h H) hm;rw[z]at e;cases e
def q3Y(g h:Heap)(L:Addr):List (Addr×Obj):=(List.range h.objs.size).filterMap λa=>if a=L\/(g.get? a).isSome=true then none else(h.get? a).map λo=>(a,o)
def rest(g h:Heap)(L d:Addr):List (Addr×Obj):=(q3Y g h L).filter λp=>decide (p.1≠d)
structure Mod(Ξ:PySem.W.Frag)(mg:Str->Option Value)(base:Heap):Prop where
 kin:Ξ.In base
 glob:base.Ns mainGlobals mg
 blt:∃mb,base.Ns builtinsNs mb/\∀x:Str,x ≠ "__name__" -> mb x=bootBuiltins x
 nolimit:base.NoLimit
structure Cx where
 prog:Program
 w:World
 K:PySem.W.Frag
 mg:Str->Option Value
 base:Heap
 A:Around
 N:List Str
 s₀:Shared
 H₀:Hp
 env:Env
 outer:List Env
 stack:List Env
 ex:List Addr
 fn:Str->Bool
 calm:Bool
 pn:List (Addr×Obj)
 xe:Value->Shared->Prop
def frs(l:List Env):List Addr:=l.filterMap (·.frame)
abbrev Cx.fs(X:Cx):List Addr:=frs X.outer
def Vis(sc:Scope)(x:Str):Prop:=sc.names.lookup x=some .local\/sc.names.lookup x=some .cell\/sc.names.lookup x=some .free
def Loc(sc:Scope)(x:Str):Prop:=sc.names.lookup x=some .local\/sc.names.lookup x=some .cell
def Look(env:Env)(h:Heap)(m:Str->Option Value)(x:Str)(u:Value):Prop :=
 (env.kindOf x=some .local/\m x=some u)\/((env.kindOf x=some .cell\/env.kindOf x=some .free)/\∃c,env.cells.lookup x=some c/\h.IsCell c (some u))
structure Cx.Ok(X:Cx):Prop where
 mod:Mod X.K X.mg X.base
 kind:X.env.scope.kind=.function
 glob:X.env.globals=mainGlobals
 blt:X.env.builtins=builtinsNs
 above:X.s₀.heap.objs.size<=X.env.locals
 inj:∀x y c,X.env.cells.lookup x=some c->X.env.cells.lookup y=some c->x=y
 has:∀x,(X.env.kindOf x=some .cell\/X.env.kindOf x=some .free)->∃c,X.env.cells.lookup x=some c
 cab:∀x c,X.fn x=true->X.env.cells.lookup x=some c->X.s₀.heap.objs.size<=c
 hd:X.calm=true->X.A.handled=none
 frames:X.A.frames=some X.stack
 stk:X.stack=X.outer\/(X.stack=X.env::X.outer/\X.env.frame=some X.env.locals)
 exf:∀b∈X.ex,b≠X.env.locals/\∀x c,X.env.cells.lookup x=some c->c≠b
 bs:∀b o,X.base.get? b=some o->X.s₀.heap.get? b=some o/\X.H₀ b=none
 bsz:X.base.objs.size<=X.s₀.heap.objs.size
 noex:∀b o,X.base.get? b=some o->b∉X.ex
 exfs:∀b∈X.ex,b∉X.fs
 funs:X.s₀.heap.FunFrames X.base X.outer
 frf:∀b∈X.fs,X.H₀ b=none
structure Inv(X:Cx)(a3:List (Addr×Obj))(Z:List (Option V))(H:Hp)(s:Shared):Prop where
 ok:X.Ok
 os:s.os=X.s₀.os
 bare:AllBare s.gens
 base:Un X.fs X.ex X.H₀ H X.s₀.heap s.heap
 loc:∃m,s.heap.Ns X.env.locals m/\∀(i:Nat)(x:Str)(v:V),X.N[i]?=some x->Z[i]?=some (some v)->Vis X.env.scope x->∃u,RelV v u/\Look X.env s.heap m x u
 cell:∀x c,X.env.cells.lookup x=some c->∃v,s.heap.IsCell c v
 free:H X.env.locals=none
 freeC:∀x c,X.env.cells.lookup x=some c->H c=none
 pin:∀p∈X.pn++a3,s.heap.get? p.1=some p.2/\H p.1=none/\p.1≠X.env.locals/\p.1∉X.fs/\∀v,p.2.data ≠ .cell v
 hok:HOk X.prog X.w H s.heap
 len:Z.length=X.N.length
theorem Cx.Ok.nofr{X:Cx}(ok:X.Ok)(e:X.base.get? b=some o):b∉X.fs:=λhb=>by
 have:=(ok.funs.mem hb).1;rw[e]at this;cases this
theorem Inv.bs(I:Inv X a3 Z H s):∀b o,X.base.get? b=some o->s.heap.get? b=some o/\H b=none:=λb o e=>
 ⟨I.base.keep b o (I.ok.bs b o e).1 (I.ok.bs b o e).2 (I.ok.nofr e) (I.ok.noex b o e),I.base.free b o (I.ok.bs b o e).1 (I.ok.bs b o e).2 (I.ok.noex b o e)⟩
theorem Inv.bk(I:Inv X a3 Z H s):∀b o,X.base.get? b=some o->s.heap.get? b=some o:=λb o e=>(I.bs b o e).1
theorem Inv.mod(I:Inv X a3 Z H s):Mod X.K X.mg X.base:=I.ok.mod
theorem Inv.kIn(I:Inv X a3 Z H s):X.K.In s.heap:=I.ok.mod.kin.keeps I.bk
theorem Inv.fr(I:Inv X a3 Z H s):∃m,Fr X.base X.env.locals s.heap m :=
 let⟨m,hn,_⟩:=I.loc
 ⟨m,hn,I.bk,DB I.ok.bsz I.ok.above⟩
theorem Inv.lt(I:Inv X a3 Z H s):X.env.locals<s.heap.objs.size:=let⟨_,hn,_⟩:=I.loc;hn.lt
theorem Inv.sz(I:Inv X a3 Z H s):X.s₀.heap.objs.size<=s.heap.objs.size:=DB I.ok.above (DT I.lt)
theorem Inv.nofs(I:Inv X a3 Z H s)(h:s.heap.objs.size<=a):a∉X.fs:=λhb=>by
 obtain⟨_,o,ho,_⟩:=I.ok.funs.mem hb;exact absurd (Du (Heap.lt_size ho) (DB I.sz h)) (Rb _)
theorem Inv.cne(I:Inv X a3 Z H s):∀x c,X.env.cells.lookup x=some c->c≠X.env.locals:=λx c e z=>by
 obtain⟨v,o,ho,hd⟩:=I.cell x c e;obtain⟨m,⟨o',es,ep,bA,fv,_⟩,_⟩:=I.loc;rw[z,bA]at ho;cases ho;rw[fv]at hd;cases hd
theorem Inv.funs(I:Inv X a3 Z H s):s.heap.FunFrames X.base X.outer:=by
 have all:∀(l:List Env),(∀b∈frs l,b∈X.fs)->X.s₀.heap.FunFrames X.base l->s.heap.FunFrames X.base l:=by
  intro l
  induction l with
  |nil=>intro _ _;trivial
  |cons env r ih=>
   intro hs hl;obtain⟨hk,⟨L,o,hf,hn,ho,hd⟩,hr⟩:=hl;have hL:L∈X.fs:=hs L (by unfold frs;rw[R5,hf];exact DH);obtain⟨sl,e⟩:=I.base.slot L o ho (I.ok.frf L hL) hL λz=>I.ok.exfs L z hL;exact⟨hk,⟨L,_,hf,hn,e,hd⟩,ih (λb hb=>hs b (by unfold frs;rw[R5,hf];exact DL _ hb)) hr⟩
 exact all X.outer (λ_ hb=>hb) I.ok.funs
theorem Inv.stack(I:Inv X a3 Z H s):s.heap.FunFrames X.base X.stack:=by
 rcases I.ok.stk with e|⟨e,hf⟩
 ·rw[e];exact I.funs
 ·rw[e]
  obtain⟨m,hn,_⟩:=I.loc;refine .cons (by rw[I.ok.kind];decide) hf hn ?_ I.funs;exact Heap.get?_none_of_le (DB I.ok.bsz I.ok.above)
theorem Inv.stkSub(I:Inv X a3 Z H s):∀b∈frs X.stack,b∈X.env.locals::X.fs:=λb hb=>by
 rcases I.ok.stk with e|⟨e,hf⟩
 ·rw[e]at hb;exact DL _ hb
 ·rw[e]at hb
  unfold frs at hb;rw[R5,hf]at hb;exact hb
theorem Inv.stkFree(I:Inv X a3 Z H s):∀b∈frs X.stack,H b=none:=λb hb=>by
 rcases Dr.mp (I.stkSub b hb)with e|hb
 ·rw[e];exact I.free
 ·obtain⟨_,o,ho,_⟩:=I.ok.funs.mem hb
  exact I.base.free b o ho (I.ok.frf b hb) λz=>I.ok.exfs b z hb
theorem Inv.step{ch:List Addr}(I:Inv X a3 Z H s)(eK:∀b∈ch,(b∈X.ex\/X.s₀.heap.objs.size<=b)/\b≠X.env.locals/\(∀x c,X.env.cells.lookup x=some c->c≠b)/\∀p∈X.pn++a3,p.1≠b)(keep:∀b o,b≠X.env.locals->b∉X.fs->b∉ch->s.heap.get? b=some o->H b=none->h'.get? b=some o)(slot:∀b o,b≠X.env.locals->b∈X.fs->b∉ch->s.heap.get? b=some o->H b=none->∃sl,h'.get? b=some { o with slots:=sl })(free:∀b o,b∉ch->s.heap.get? b=some o->H b=none->H' b=none)(there:∀b o,b∉ch->s.heap.get? b=some o->∃o',h'.get? b=some o')(tups:∀b xs,H b=some (.tup xs)->H' b=some (.tup xs))(frzs:∀b o u,H b=some (.frz o u)->H' b=some (.frz o u))(tbls:∀b ps,H b=some (.tbl ps)->∃more,H' b=some (.tbl (ps++more)))(ns:∀m,s.heap.Ns X.env.locals m->h'.Ns X.env.locals m)(hok:HOk X.prog X.w H' h')(hg:AllBare g'):
  Inv X a3 Z H' { s with heap:=h',gens:=g',drawn:=d',toks:=t' }:=by
 have mK:∀b o,X.s₀.heap.get? b=some o->b≠X.env.locals:=λb o e=>Dy (Du (Heap.lt_size e) I.ok.above);have iB:∀b o,X.s₀.heap.get? b=some o->b∉X.ex->b∉ch:=λb o e hx hb=>by
  rcases(eK b hb).1 with z|z
  ·exact hx z
  ·exact absurd (Du (Heap.lt_size e) z) (Rb _)
 have fe:∀x c,X.env.cells.lookup x=some c->∀v,s.heap.IsCell c v->h'.IsCell c v:=λx c e v zz=>by
  obtain⟨o,ho,hd⟩:=zz;have gF:c∉ch:=λz=>(eK c z).2.2.1 x c e rfl;by_cases hc:c∈X.fs
  ·obtain⟨sl,q⟩:=slot c o (I.cne x c e) hc gF ho (I.freeC x c e)
   exact⟨_,q,hd⟩
  ·exact⟨o,keep c o (I.cne x c e) hc gF ho (I.freeC x c e),hd⟩
 refine⟨I.ok,I.os,hg,⟨λb o e n hb hx=>?_,λb o e n hb hx=>?_,λb o e n hx=>?_,λb o e hx=>?_,λb xs e=>tups b xs (I.base.tups b xs e),λb o xs e=>frzs b o xs (I.base.frzs b o xs e),λb ps e=>?_⟩,?_,λx c e=>?_,?_,λx c e=>?_,λp hp=>?_,hok,I.len⟩
 ·exact keep b o (mK b o e) hb (iB b o e hx) (I.base.keep b o e n hb hx) (I.base.free b o e n hx)
 ·obtain⟨sl,e1⟩:=I.base.slot b o e n hb hx
  obtain⟨gh,e2⟩:=slot b _ (mK b o e) hb (iB b o e hx) e1 (I.base.free b o e n hx);exact⟨gh,e2⟩
 ·obtain⟨o',e1⟩:=I.base.there b o e hx
  exact free b o' (iB b o e hx) e1 (I.base.free b o e n hx)
 ·obtain⟨o',e1⟩:=I.base.there b o e hx
  exact there b o' (iB b o e hx) e1
 ·obtain⟨m1,e1⟩:=I.base.tbls b ps e
  obtain⟨m2,e2⟩:=tbls b _ e1;exact⟨m1++m2,by rw[e2,Bc]⟩
 ·obtain⟨m,hn,hl⟩:=I.loc
  refine⟨m,ns m hn,λi x v e1 e2 e3=>?_⟩;obtain⟨u,r,l⟩:=hl i x v e1 e2 e3;refine⟨u,r,?_⟩;rcases l with l|⟨k,c,e,z⟩
  ·exact .inl l
  ·exact .inr ⟨k,c,e,fe x c e _ z⟩
 ·obtain⟨v,z⟩:=I.cell x c e
  exact⟨v,fe x c e v z⟩
 ·obtain⟨m,⟨o,_,_,ho,_⟩,_⟩:=I.loc
  exact free _ o (λz=>(eK _ z).2.1 rfl) ho I.free
 ·obtain⟨v,o,ho,hd⟩:=I.cell x c e
  exact free c o (λz=>(eK c z).2.2.1 x c e rfl) ho (I.freeC x c e)
 ·obtain⟨e,n,ne,nf,d⟩:=I.pin p hp
  have gF:p.1∉ch:=λz=>(eK p.1 z).2.2.2 p hp rfl;exact⟨keep p.1 p.2 ne nf gF e n,free p.1 p.2 gF e n,ne,nf,d⟩
theorem Inv.un(I:Inv X a3 Z H s)(u:Un X.fs [] H H' s.heap h')(hok:HOk X.prog X.w H' h'):Inv X a3 Z H' { s with heap:=h',toks:=t' }:=by
 obtain⟨m,⟨o,es,ep,ho,r⟩,_⟩:=id I.loc;obtain⟨sl,hL⟩:=u.any ho I.free (by simp);exact I.step (g':=s.gens) (d':=s.drawn) (ch:=[]) (λ_ z=>nomatch z) (λb o _ hb _ e n=>u.keep b o e n hb (by simp)) (λb o _ hb _ e n=>u.slot b o e n hb (by simp)) (λb o _ e n=>u.free b o e n (by simp)) (λb o _ e=>u.there b o e (by simp)) u.tups u.frzs u.tbls (λm' hm=>by
  obtain⟨o',gi,gG,bA,r'⟩:=hm;rw[ho]at bA;cases bA;exact⟨_,gi,gG,hL,r'⟩) hok I.bare
theorem Inv.call(I:Inv X a3 Z H s)(u:Un (frs X.stack) ch H H' s.heap h')(hok:HOk X.prog X.w H' h')(hg:AllBare g')(eK:∀b∈ch,(b∈X.ex\/X.s₀.heap.objs.size<=b)/\b≠X.env.locals/\(∀x c,X.env.cells.lookup x=some c->c≠b)/\∀p∈X.pn++a3,p.1≠b):
  Inv X a3 Z H' { s with heap:=h',gens:=g',drawn:=d',toks:=t' }:=by
 obtain⟨m,⟨o,es,ep,ho,r⟩,_⟩:=id I.loc;obtain⟨sl,hL⟩:=u.any ho I.free λz=>(eK _ z).2.1 rfl;exact I.step (ch:=ch) eK (λb o hL hb hc e n=>u.keep b o e n (λz=>(Dr.mp (I.stkSub b z)).elim hL hb) hc) (λb o _ _ hc e n=>u.any e n hc) (λb o hc e n=>u.free b o e n hc) (λb o hc e=>u.there b o e hc) u.tups u.frzs u.tbls (λm' hm=>by
  obtain⟨o',gi,gG,bA,r'⟩:=hm;rw[ho]at bA;cases bA;exact⟨_,gi,gG,hL,r'⟩) hok hg
theorem Inv.turned(I:Inv X a3 Z H s)(k:∀b o,b≠it->s.heap.get? b=some o->h'.get? b=some o)(hn:H it=none)(hL:it≠X.env.locals)(h1:it∈X.ex\/X.s₀.heap.objs.size<=it)(h2:∀x c,X.env.cells.lookup x=some c->c≠it)(h3:∀p∈X.pn++a3,p.1≠it):Inv X a3 Z H { s with heap:=h',toks:=t' }:=by
 have mL:∀b u,H b=some u->b≠it:=λb u e z=>by rw[z,hn]at e;cases e
 refine I.step (g':=s.gens) (d':=s.drawn) (ch:=[it]) (λb hb=>?_) (λb o _ _ hc e _=>k b o (λz=>hc (by simp[z])) e) (λb o _ _ hc e _=>⟨o.slots,k b o (λz=>hc (by simp[z])) e⟩) (λ_ _ _ _ n=>n)
  (λb o hc e=>⟨o,k b o (λz=>hc (by simp[z])) e⟩) (λ_ _ e=>e) (λ_ _ _ e=>e) (λb ps e=>⟨#[],by rw[e];simp⟩) (λm hm=>?_) (λb u e=>?_) I.bare
 ·have e:b=it:=by simpa using hb
  subst e;exact⟨h1,hL,h2,h3⟩
 ·obtain⟨o,es,ep,ho,r⟩:=hm
  exact⟨o,es,ep,k _ o (Ne.symm hL) ho,r⟩
 ·refine(I.hok b u e).stay (λc v hc q=>k c v ?_ q) (λ_ q=>q) λ_ _ q=>q
  rcases hc with z|z
  ·rw[z];exact mL b u e
  ·exact mL c _ z
theorem Inv.tok(I:Inv X a3 Z H s)(t:Nat):Inv X a3 Z H { s with toks:=t }:=I.un (h':=s.heap) (t':=t) Un.refl I.hok
theorem Inv.kept(I:Inv X a3 Z H s)(k:∀b u,s.heap.get? b=some u->h'.get? b=some u):Inv X a3 Z H { s with heap:=h',toks:=t' }:=I.un (Un.kept k) (I.hok.kept k)
theorem Inv.laid(I:Inv X a3 Z H s)(k:∀b u,s.heap.get? b=some u->h'.get? b=some u)(hp:s.heap.objs.size<=a)(new:ObjOk X.prog X.w (upd H a o) h' a o):
  Inv X a3 Z (upd H a o) { s with heap:=h',toks:=t' }:=I.un (Un.laid k hp (I.hok.fresh hp)) (I.hok.laid k hp new)
theorem Inv.write(I:Inv X a3 Z H s)(mu:Mut (H x))(he:e=x\/H e=some (.own x))(k:∀b u,b≠e->s.heap.get? b=some u->h'.get? b=some u)(gg:∃u,h'.get? e=some u)(new:ObjOk X.prog X.w (upd H x o) h' x o):Inv X a3 Z (upd H x o) { s with heap:=h',toks:=t' }:=I.un (Un.write mu he k gg) (I.hok.write mu he k gg new)
theorem Inv.weak(I:Inv X a3 Z H s)(hl:aj.length=Z.length)(w:∀(i:Nat) v,aj[i]?=some (some v)->Z[i]?=some (some v)):Inv X a3 aj H s :=
 ⟨I.ok,I.os,I.bare,I.base,let⟨m,hn,hl'⟩:=I.loc;⟨m,hn,λi x v e1 e2 e3=>hl' i x v e1 (w i v e2) e3⟩,I.cell,I.free,I.freeC,I.pin,I.hok,hl.trans I.len⟩
theorem Inv.pins_of(I:Inv X a3 Z H s)(h:∀p∈dy,s.heap.get? p.1=some p.2/\H p.1=none/\p.1≠X.env.locals/\p.1∉X.fs/\∀v,p.2.data ≠ .cell v):Inv X dy Z H s :=
 ⟨I.ok,I.os,I.bare,I.base,I.loc,I.cell,I.free,I.freeC,λp hp=>(Dl.mp hp).elim (λz=>I.pin p (Dp _ z)) (h p),I.hok,I.len⟩
theorem V1{N:List Str}(hN:N.Nodup){i j:Nat}(a:N[i]?=some x)(b:N[j]?=some x):i=j:=by
 obtain⟨h1,e1⟩:=Db.mp a;obtain⟨h2,e2⟩:=Db.mp b;exact(List.getElem_inj hN).mp (e1.trans e2.symm)
theorem ZC(I:Inv X a3 Z H s)(hN:X.N.Nodup)(hi:X.N[i]?=some x)(hx:Loc X.env.scope x)(r:RelV v u)(h:∀s',Inv X a3 (Z.set i (some v)) H s'->(∃a,Heap.SameBut a s.heap s'.heap/\(a=X.env.locals\/X.env.cells.lookup x=some a))->Q () s')(hf:X.fn x=true\/X.env.scope.names.lookup x=some .local:=by first|exact .inl rfl|exact .inr rfl|assumption):wpAny M A (storeName X.env x u) Q E s:=by
 obtain⟨m,hn,hl⟩:=id I.loc;have fw:(X.env.scope.kind == .class||(X.env.scope.kind == .module&&X.env.locals != X.env.globals))=false:=by rw[I.ok.kind];rfl
 have gH:i<Z.length:=by rw[I.len];exact(Db.mp hi).1
 have cne:=I.cne;have cD:∀{a:Addr}{h':Heap},(∃o,s.heap.get? a=some o/\H a=none)->Heap.SameBut a s.heap h'->HOk X.prog X.w H h':=λ{a h'} ha hs b ob e=>by
  obtain⟨_,_,cN⟩:=ha;refine(I.hok b ob e).stay (λc w' hc q=>(hs.2 c ?_).trans q) (λ_ q=>q) λ_ _ q=>q;rintro rfl;rcases hc with rfl|hc
  ·rw[cN]at e;cases e
  ·rw[cN]at hc;cases hc
 rcases hx with hk|hk
 ·refine wpAny_storeName_local hk hn (λh' gj hs=>?_) fw
  obtain⟨oL,_,_,mM,_⟩:=id hn;refine h _ ⟨I.ok,I.os,I.bare,⟨λb o e n hb hx=>?_,λb o e n hb hx=>?_,I.base.free,λb o e hx=>?_,I.base.tups,I.base.frzs,I.base.tbls⟩,⟨_,gj,λj y v' e1 e2 e3=>?_⟩,λy c e=>?_,I.free,I.freeC,λp hp=>?_,cD ⟨oL,mM,I.free⟩ hs,by simpa using I.len⟩ ⟨_,hs,.inl rfl⟩
  ·exact(hs.2 b (Dy (Du (Heap.lt_size e) I.ok.above))).trans (I.base.keep b o e n hb hx)
  ·obtain⟨sl,e1⟩:=I.base.slot b o e n hb hx
   exact⟨sl,(hs.2 b (Dy (Du (Heap.lt_size e) I.ok.above))).trans e1⟩
  ·obtain⟨o',e1⟩:=I.base.there b o e hx
   exact⟨o',(hs.2 b (Dy (Du (Heap.lt_size e) I.ok.above))).trans e1⟩
  ·by_cases hj:j=i
   ·subst hj
    rw[hi]at e1;cases e1;rw[Dw gH]at e2;cases e2;exact⟨u,r,.inl ⟨hk,by simp⟩⟩
   ·rw[Dq (Ne.symm hj)]at e2
    obtain⟨u',r',q⟩:=hl j y v' e1 e2 e3;refine⟨u',r',?_⟩;rcases q with⟨k,e⟩|⟨k,c,e,z⟩
    ·refine .inl ⟨k,?_⟩
     have:y≠x:=λe=>hj (V1 hN e1 (e▸hi));simp[this,e]
    ·exact .inr ⟨k,c,e,z.sameBut hs (cne y c e)⟩
  ·obtain⟨w',z⟩:=I.cell y c e
   exact⟨w',z.sameBut hs (cne y c e)⟩
  ·obtain⟨e,n,ne,nf,d⟩:=I.pin p hp
   exact⟨(hs.2 p.1 ne).trans e,n,ne,nf,d⟩
 ·have iV:X.fn x=true:=by
   rcases hf with z|z
   ·exact z
   ·rw[z]at hk;cases hk
  obtain⟨c,hc⟩:=I.ok.has x (.inl hk);obtain⟨w',z⟩:=I.cell x c hc;refine wpAny_storeName_cell I.ok.kind hk hc z (λh' eL hs=>?_);obtain⟨oc,mO,iW⟩:=id z;refine h { s with heap:=h' } ⟨I.ok,I.os,I.bare,⟨λb o e n hb hx=>?_,λb o e n hb hx=>?_,I.base.free,λb o e hx=>?_,I.base.tups,I.base.frzs,I.base.tbls⟩,⟨m,hn.sameBut hs (Ne.symm (cne x c hc)),λj y v' e1 e2 e3=>?_⟩,λy c' e=>?_,I.free,I.freeC,λp hp=>?_,cD ⟨oc,mO,I.freeC x c hc⟩ hs,by simpa using I.len⟩ ⟨c,hs,.inr hc⟩
  ·exact(hs.2 b (Dy (Du (Heap.lt_size e) (I.ok.cab x c iV hc)))).trans (I.base.keep b o e n hb hx)
  ·obtain⟨sl,e1⟩:=I.base.slot b o e n hb hx
   exact⟨sl,(hs.2 b (Dy (Du (Heap.lt_size e) (I.ok.cab x c iV hc)))).trans e1⟩
  ·obtain⟨o',e1⟩:=I.base.there b o e hx
   exact⟨o',(hs.2 b (Dy (Du (Heap.lt_size e) (I.ok.cab x c iV hc)))).trans e1⟩
  ·by_cases hj:j=i
   ·subst hj
    rw[hi]at e1;cases e1;rw[Dw gH]at e2;cases e2;exact⟨u,r,.inr ⟨.inl hk,c,hc,eL⟩⟩
   ·rw[Dq (Ne.symm hj)]at e2
    obtain⟨u',r',q⟩:=hl j y v' e1 e2 e3;refine⟨u',r',?_⟩;rcases q with q|⟨k,c',e,z'⟩
    ·exact .inl q
    ·refine .inr ⟨k,c',e,z'.sameBut hs ?_⟩
     rintro rfl;exact hj (V1 hN e1 (I.ok.inj _ _ _ e hc▸hi))
  ·by_cases iC:c'=c
   ·subst iC;exact⟨_,eL⟩
   ·obtain⟨w2,z2⟩:=I.cell y c' e
    exact⟨w2,z2.sameBut hs iC⟩
  ·obtain⟨e,n,ne,nf,d⟩:=I.pin p hp
   refine⟨(hs.2 p.1 ?_).trans e,n,ne,nf,d⟩;intro q;rw[q,mO]at e;have q':oc=p.2:=Option.some.inj e;exact d w' (by rw[<-q'];exact iW)
theorem zC(I:Inv X a3 Z H s)(hN:X.N.Nodup)(hi:X.N[i]?=some x)(hx:Loc X.env.scope x)(r:RelV v u)(h:∀s',Inv X a3 (Z.set i (some v)) H s'->Q () s')(hf:X.fn x=true\/X.env.scope.names.lookup x=some .local:=by first|exact .inl rfl|exact .inr rfl|assumption):wpAny M A (storeName X.env x u) Q E s :=
 ZC I hN hi hx r (λs' I' _=>h s' I') hf
theorem Inv.call'(I:Inv X a3 Z H s)(ho:s'.os=s.os)(u:Un (frs X.stack) ch H H' s.heap s'.heap)(hok:HOk X.prog X.w H' s'.heap)(hg:AllBare s'.gens)(eK:∀b∈ch,(b∈X.ex\/X.s₀.heap.objs.size<=b)/\b≠X.env.locals/\(∀x c,X.env.cells.lookup x=some c->c≠b)/\∀p∈X.pn++a3,p.1≠b):Inv X a3 Z H' s':=by
 obtain⟨h',g',d',t',o'⟩:=s';have e:o'=s.os:=ho;subst e;exact I.call (g':=g') (t':=t') (d':=d') u hok hg eK
abbrev XK:=Value->Option Addr->Hp->Prop
abbrev St:=List (Option V)
abbrev VK:=V->Hp->Prop
abbrev TE:=St->Hp->VK->Prop
abbrev TT:=St->Hp->(Bool->Hp->Prop)->Prop
abbrev TA:=St->Hp->(List V->Hp->Prop)->Prop
structure Ends where
 nx:St->Hp->Prop
 rt:VK
 bk:St->Hp->Prop:=λ_ _=>False
 ct:St->Hp->Prop:=λ_ _=>False
abbrev TS:=Ends->St->Hp->Prop
def EP(X:Cx)(a3:List (Addr×Obj))(Z:St)(Q:VK)(u:Value)(s':Shared):Prop:=∃v H',Inv X a3 Z H' s'/\RelV v u/\Q v H'
def TP(X:Cx)(a3:List (Addr×Obj))(Z:St)(Q:Bool->Hp->Prop)(b:Bool)(s':Shared):Prop:=∃H',Inv X a3 Z H' s'/\Q b H'
def AP(X:Cx)(a3:List (Addr×Obj))(Z:St)(Q:List V->Hp->Prop)(us:List Value)(s':Shared):Prop:=∃vs H',Inv X a3 Z H' s'/\Vals vs us/\Q vs H'
def SP(X:Cx)(a3:List (Addr×Obj))(D:Ends)(f:Flow)(s':Shared):Prop :=
 match f with
 |.next=>∃aj H',Inv X a3 aj H' s'/\D.nx aj H'
 |.brk=>∃aj H',Inv X a3 aj H' s'/\D.bk aj H'
 |.cont=>∃aj H',Inv X a3 aj H' s'/\D.ct aj H'
 |.ret u=>∃v aj H',Inv X a3 aj H' s'/\RelV v u/\D.rt v H'
def PE(X:Cx)(e:Expr)(t:TE):Prop :=
 ∀(a3:List (Addr×Obj))(s:Shared)(Z:St)(H:Hp)(Q:VK),Inv X a3 Z H s->t Z H Q->wpAny (model X.prog X.w) X.A (eval e X.env) (EP X a3 Z Q) X.xe s
def PT(X:Cx)(e:Expr)(t:TT):Prop :=
 ∀(a3:List (Addr×Obj))(s:Shared)(Z:St)(H:Hp)(Q:Bool->Hp->Prop),Inv X a3 Z H s->t Z H Q->wpAny (model X.prog X.w) X.A (isTrue e X.env (eval e X.env)) (TP X a3 Z Q) X.xe s
def PW(X:Cx)(e:Expr)(t:TT):Prop :=
 ∀(bB:Sem Value)(a3:List (Addr×Obj))(s:Shared)(Z:St)(H:Hp)(Q:Bool->Hp->Prop),Inv X a3 Z H s->t Z H Q->wpAny (model X.prog X.w) X.A (isTrue e X.env bB) (TP X a3 Z Q) X.xe s
theorem PW.pt(h:PW X e t):PT X e t:=h _
def PA(X:Cx)(es:List Expr)(t:TA):Prop :=
 ∀(pos:Pos)(a3:List (Addr×Obj))(s:Shared)(Z:St)(H:Hp)(Q:List V->Hp->Prop),Inv X a3 Z H s->t Z H Q->wpAny (model X.prog X.w) X.A (spliced (backTo pos (starEach es X.env))) (AP X a3 Z Q) X.xe s
def PS(X:Cx)(st:Stmt)(t:TS):Prop :=
 ∀(a3:List (Addr×Obj))(s:Shared)(Z:St)(H:Hp)(D:Ends),Inv X a3 Z H s->t D Z H->wpAny (model X.prog X.w) X.A (exec st X.env) (SP X a3 D) X.xe s
def PSs(X:Cx)(st:List Stmt)(t:TS):Prop :=
 ∀(a3:List (Addr×Obj))(s:Shared)(Z:St)(H:Hp)(D:Ends),Inv X a3 Z H s->t D Z H->wpAny (model X.prog X.w) X.A (execs st X.env) (SP X a3 D) X.xe s
theorem thn{α:Type}{t:Sem α}{Q Q':α->Shared->Prop}{M:Model}{A:Around}{E:Value->Shared->Prop}{s:Shared}(h:wpAny M A t Q E s)(hQ:∀a s,Q a s->Q' a s):wpAny M A t Q' E s:=Uk h hQ λ_ _ x=>x
section
def tVar(i:Nat):TE:=λZ H Q=>∃v,Z[i]?=some (some v)/\Q v H
def tC(v:V):TE:=λ_ H Q=>Q v H
theorem q7k(hN:X.N[i]?=some x)(hv:Vis X.env.scope x)(hd:(x==("__debug__" : Str))=false:=by decide)(cO:(x==("__classdict__" : Str))=false:=by decide):PE X (.Name x pos) (tVar i):=by
 intro a3 s Z H Q I h;obtain⟨v,e,h⟩:=h;obtain⟨m,hn,hl⟩:=I.loc;obtain⟨u,r,l⟩:=hl i x v hN e hv;have fin:EP X a3 Z Q u s:=⟨v,H,I,r,h⟩;rcases l with⟨hk,hm⟩|⟨hk,c,hc,cf⟩
 ·exact wpAny_Name (wpAny_loadName_local I.ok.kind hk hn hm fin) hd
 ·rcases hk with hk|hk
  ·exact wpAny_Name (wpAny_loadName_cell I.ok.kind hk hc cf fin) hd
  ·exact wpAny_Name (wpAny_loadName_free I.ok.kind hk hc cf fin cO) hd
theorem q7t:PE X (.Constant (.int i) j pos) (tC (.int i)):=λ_ _ _ H _ I h=>wpAny_Constant_int ⟨.int i,H,I.tok _,⟨_,rfl⟩,h⟩
theorem q97:PE X (.Constant (.bool b) j pos) (tC (.bl b)):=λ_ _ _ H _ I h=>Constant_bool ⟨.bl b,H,I,rfl,h⟩
theorem q8g:PE X (.Constant .none j pos) (tC .non):=λ_ _ _ H _ I h=>Constant_none ⟨.non,H,I,rfl,h⟩
theorem q6T:PE X (.Constant (.str x) j pos) (tC (.str x)):=λ_ _ _ H _ I h=>Calls.Constant_str ⟨.str x,H,I.tok _,⟨_,rfl⟩,h⟩
def Gl(X:Cx)(x:Str):Prop:=X.env.kindOf x=some .globalImplicit
theorem zh(I:Inv X a3 Z H s)(hg:Gl X x)(hm:X.mg x=some u)(h:Q u s)(hd:(x==("__debug__" : Str))=false:=by decide):wpAny (model X.prog X.w) X.A (eval (.Name x pos) X.env) Q E s :=
 Calls.Name_function_global I.ok.kind hg (Calls.loadGlobal_global (by rw[I.ok.glob];exact I.mod.glob.keeps I.bk) hm h) hd
theorem Xb(I:Inv X a3 Z H s)(hg:Gl X x)(hm:X.mg x=none)(hv:bootBuiltins x=some u)(h:Q u s)(hn:x ≠ "__name__" := by decide)(hd:(x==("__debug__" : Str))=false:=by decide):wpAny (model X.prog X.w) X.A (eval (.Name x pos) X.env) Q E s:=by
 obtain⟨mb,h1,h2⟩:=I.mod.blt;exact Calls.Name_function_global I.ok.kind hg (Calls.loadGlobal_builtin (by rw[I.ok.glob];exact I.mod.glob.keeps I.bk) hm (by rw[I.ok.blt];exact h1.keeps I.bk) ((h2 x hn).trans hv) h) hd
theorem WM(hg:Gl X x)(hm:X.mg x=some u)(r:RelV v u)(hd:(x==("__debug__" : Str))=false:=by decide):PE X (.Name x pos) (tC v):=
 λ_ _ _ H _ I h=>zh I hg hm ⟨v,H,I,r,h⟩ hd
variable {a b:Expr}{ta tb:TE}{pos:Pos}
def PC(X:Cx)(op:CmpOp)(a b:Expr)(t:TE):Prop :=
 ∀(a3:List (Addr×Obj))(s:Shared)(Z:St)(H:Hp)(Q:VK),Inv X a3 Z H s->t Z H Q ->
  wpAny (model X.prog X.w) X.A (eval a X.env) (λv ai=>wpAny (model X.prog X.w) X.A (eval b X.env) (λu ba=>wpAny (model X.prog X.w) X.A (compareOp op v u) (EP X a3 Z Q) X.xe ba) X.xe ai) X.xe s
def tB(t:TE):TT:=λZ H Q=>t Z H λx H1=>∃c,x=.bl c/\Q c H1
theorem q2R(h:PC X op a b t)(h1:behindInMarks op b=false:=by first|exact nobehind _ (by decide) (by decide)|rfl):PT X (.Compare a [op] [b] pos) (tB t):=by
 intro a3 s Z H Q I hw;refine wpAny_isTrue_Compare1 (thn (h a3 s Z H _ I hw) λv s1 h1=>thn h1 λu s2 h2=>thn h2 λc s3 ⟨x,H1,I1,r1,q1⟩=>?_) h1;obtain⟨d,rfl,q⟩:=q1;cases r1;exact Uw ⟨H1,I1,q⟩
variable {tA iD:TT}{rest:List Expr}
def tAnd(t u:TT):TT:=λZ H Q=>t Z H λc H1=>if c=true then u Z H1 Q else Q false H1
def tOr(t u:TT):TT:=λZ H Q=>t Z H λc H1=>if c=true then Q true H1 else u Z H1 Q
def tNot(t:TT):TT:=λZ H Q=>t Z H λc H1=>Q (!c) H1
def ZB(ta tb:TE):TE:=λZ H Q=>ta Z H λx H1=>∃c,x=.bl c/\if c=true then tb Z H1 Q else Q (.bl false) H1
def tOrV(ta tb:TE):TE:=λZ H Q=>ta Z H λx H1=>∃c,x=.bl c/\if c=true then Q (.bl true) H1 else tb Z H1 Q
def q1K(ta:TE):TE:=λZ H Q=>ta Z H λx H1=>∃c,x=.bl c/\Q (.bl (!c)) H1
def tIf(t:TT)(ta tb:TE):TE:=λZ H Q=>t Z H λc H1=>if c=true then ta Z H1 Q else tb Z H1 Q
end
def SqL(Ξ:PySem.W.Frag)(H:Hp)(a:Addr)(xs:List V):Prop :=
 Rd H a (.lst xs) \/
  ∃(o:Obj)(its:Array Value)(n:Nat),Ξ.lookup a=some o/\o.cls=.type "list" /\ o.dict=none/\o.data=.seq its n/\its.size<=sizeLine/\Vals xs its.toList
def SqT(Ξ:PySem.W.Frag)(H:Hp)(a:Addr)(xs:List V):Prop :=
 Rd H a (.tup xs) \/
  ∃(o:Obj)(its:Array Value)(n:Nat),Ξ.lookup a=some o/\o.cls=.type "tuple" /\ o.data=.seq its n/\its.size<=sizeLine/\Vals xs its.toList
def absV:Value->Option V
 |.none=>some .non
 |.bool b=>some (.bl b)
 |.int i _=>some (.int i)
 |.str x _=>some (.str x)
 |.bytes b _=>some (.byt b)
 |.float b _=>some (.flt b)
 |.ref a=>some (.ref a)
 |.type n=>some (.ty n)
 |_=>none
theorem RelV.abs(r:RelV x u):absV u=some x:=by
 cases x with
 |non=>cases r;rfl
 |bl _=>cases r;rfl
 |int _=>obtain⟨t,rfl⟩:=r;rfl
 |str _=>obtain⟨t,rfl⟩:=r;rfl
 |byt _=>obtain⟨t,rfl⟩:=r;rfl
 |flt _=>obtain⟨t,rfl⟩:=r;rfl
 |ref _=>cases r;rfl
 |ty _=>cases r;rfl
theorem RelV.inj(r:RelV x u)(q:RelV y u):x=y:=Option.some.inj (r.abs.symm.trans q.abs)
theorem Vals.inj:∀{xs ys:List V}{us:List Value},Vals xs us->Vals ys us->xs=ys
 |_,_,_,.nil,.nil=>rfl
 |_,_,_,.cons r t,.cons r' t'=>by rw[r.inj r',Vals.inj t t']
theorem SqL.of(h:H a=some (.lst xs)):SqL Ξ H a xs:=.inl (.inl h)
theorem SqT.of(h:H a=some (.tup xs)):SqT Ξ H a xs:=.inl (.inl h)
theorem Inv.list(I:Inv X a3 Z H s)(h:SqL X.K H a xs):∃its:List Value,Vals xs its/\PlainL s.heap a its.toArray/\xs.length<=sizeLine:=by
 rcases h with h|⟨o,its,n,hk,hc,hd,hs,hz,r⟩
 ·obtain⟨z,its,n,r,e⟩:=h.ok I.hok
  exact⟨its,r,⟨_,n,e,rfl,rfl,rfl⟩,z⟩
 ·refine⟨its.toList,r,⟨o,n,I.kIn a o hk,hc,hd,by simpa using hs⟩,?_⟩
  have e:=r.length;simp only[R6]at e;lia
theorem Inv.tuple(I:Inv X a3 Z H s)(h:SqT X.K H a xs):∃its:List Value,Vals xs its/\IsTup s.heap a its.toArray/\xs.length<=sizeLine:=by
 rcases h with h|⟨o,its,n,hk,hc,hs,hz,r⟩
 ·obtain⟨z,its,r,p⟩:=h.ok I.hok
  exact⟨its,r,p,z⟩
 ·refine⟨its.toList,r,⟨o,I.kIn a o hk,hc,n,by simpa using hs⟩,?_⟩
  have e:=r.length;simp only[R6]at e;lia
theorem Inv.list_inj(I:Inv X a3 Z H s)(h:SqL X.K H a xs)(h':SqL X.K H a ys):xs=ys:=by
 obtain⟨its,r,⟨o,n,e,_,_,d⟩,_⟩:=I.list h;obtain⟨its',r',⟨o',n',e',_,_,d'⟩,_⟩:=I.list h';rw[e]at e';cases e';rw[d]at d';injection d' with d1 _
 have:its=its':=by simpa using Uo Array.toList d1
 subst this;exact r.inj r'
abbrev Cx.wish(X:Cx)(E:Value->Shared->Prop):Cx:={ X with xe:=E }
abbrev Cx.nox(X:Cx):Cx:=X.wish λ_ _=>False
theorem Cx.Ok.wish{X:Cx}(ok:X.Ok)(E:Value->Shared->Prop):(X.wish E).Ok :=
 ⟨ok.mod,ok.kind,ok.glob,ok.blt,ok.above,ok.inj,ok.has,ok.cab,ok.hd,ok.frames,ok.stk,ok.exf,ok.bs,ok.bsz,ok.noex,ok.exfs,ok.funs,ok.frf⟩
theorem Cx.Ok.unwish{X:Cx}(ok:(X.wish E).Ok):X.Ok :=
 ⟨ok.mod,ok.kind,ok.glob,ok.blt,ok.above,ok.inj,ok.has,ok.cab,ok.hd,ok.frames,ok.stk,ok.exf,ok.bs,ok.bsz,ok.noex,ok.exfs,ok.funs,ok.frf⟩
theorem Inv.wish(I:Inv X a3 Z H s)(E:Value->Shared->Prop):Inv (X.wish E) a3 Z H s:=⟨I.ok.wish E,I.os,I.bare,I.base,I.loc,I.cell,I.free,I.freeC,I.pin,I.hok,I.len⟩
theorem Inv.unwish(I:Inv (X.wish E) a3 Z H s):Inv X a3 Z H s:=⟨I.ok.unwish,I.os,I.bare,I.base,I.loc,I.cell,I.free,I.freeC,I.pin,I.hok,I.len⟩
theorem SP.unwish(h:SP (X.wish E) a3 D f s'):SP X a3 D f s':=by
 cases f with
 |next=>obtain⟨aj,H',I,q⟩:=h;exact⟨aj,H',I.unwish,q⟩
 |brk=>obtain⟨aj,H',I,q⟩:=h;exact⟨aj,H',I.unwish,q⟩
 |cont=>obtain⟨aj,H',I,q⟩:=h;exact⟨aj,H',I.unwish,q⟩
 |ret u=>obtain⟨v,aj,H',I,r,q⟩:=h;exact⟨v,aj,H',I.unwish,r,q⟩
theorem PE.nox(h:PE X.nox e t):PE X e t:=λa3 s Z H Q I hw=>
 Uk (h a3 s Z H Q (I.wish _) hw) (λ_ _ ⟨v,H',I',r,q⟩=>⟨v,H',I'.unwish,r,q⟩) λ_ _ z=>False.elim z
theorem PT.nox(h:PT X.nox e t):PT X e t:=λa3 s Z H Q I hw=>
 Uk (h a3 s Z H Q (I.wish _) hw) (λ_ _ ⟨H',I',q⟩=>⟨H',I'.unwish,q⟩) λ_ _ z=>False.elim z
theorem PSs.nox{st:List Stmt}(h:PSs X.nox st t):PSs X st t:=λa3 s Z H D I hw=>
 Uk (h a3 s Z H D (I.wish _) hw) (λ_ _ q=>q.unwish) λ_ _ z=>False.elim z
def Vv:TS:=λD Z H=>D.nx Z H
def tSeq(t u:TS):TS:=λD Z H=>t { D with nx:=u D } Z H
theorem q3W:PSs X [] Vv:=λ_ _ Z H _ I h=>Ux ⟨Z,H,I,h⟩
theorem Inv.quiet(I:Inv X a3 Z H s):interactive X.env=false:=by simp[interactive,I.ok.kind]
def Zz(te:TE):TS:=λD Z H=>te Z H λ_ H1=>D.nx Z H1
def tRet(te:TE):TS:=λD Z H=>te Z H D.rt
def Zx:TS:=λD _ H=>D.rt .non H
theorem q56:PS X (.Return none pos) Zx:=λ_ _ Z H _ I h=>wpAny_Return_none ⟨.non,Z,H,I,rfl,h⟩
def tIfS(c:TT)(t u:TS):TS:=λD Z H=>c Z H λb H1=>if b=true then t D Z H1 else u D Z H1
abbrev TG:=V->St->Hp->(St->Hp->Prop)->Prop
abbrev TGs:=List V->St->Hp->(St->Hp->Prop)->Prop
def PG(X:Cx)(fA:Expr)(t:TG):Prop :=
 ∀(a3:List (Addr×Obj))(s:Shared)(Z:St)(H:Hp)(v:V)(u:Value)(Q:St->Hp->Prop),Inv X a3 Z H s->RelV v u->t v Z H Q ->
  wpAny (model X.prog X.w) X.A (assign fA X.env u) (λ_ s'=>∃aj H',Inv X a3 aj H' s'/\Q aj H') X.xe s
def PGs(X:Cx)(ts:List Expr)(t:TGs):Prop :=
 ∀(a3:List (Addr×Obj))(s:Shared)(Z:St)(H:Hp)(vs:List V)(us:List Value)(Q:St->Hp->Prop),Inv X a3 Z H s->Vals vs us->t vs Z H Q ->
  wpAny (model X.prog X.w) X.A (assignInOrder ((assignEach ts X.env).map (·.2)) us) (λ_ s'=>∃aj H',Inv X a3 aj H' s'/\Q aj H') X.xe s
abbrev TSet:=V->V->V->Hp->(Hp->Prop)->Prop
def PSet(X:Cx)(t:TSet):Prop :=
 ∀(a3:List (Addr×Obj))(s:Shared)(Z:St)(H:Hp)(o i v:V)(ov iv u:Value)(Q:Hp->Prop),Inv X a3 Z H s->RelV o ov->RelV i iv->RelV v u->t o i v H Q ->
  wpAny (model X.prog X.w) X.A (setItem ov iv u) (λ_ s'=>∃H',Inv X a3 Z H' s'/\Q H') X.xe s
abbrev TIp:=V->V->Hp->VK->Prop
def PIp(X:Cx)(op:Operator)(t:TIp):Prop :=
 ∀(a3:List (Addr×Obj))(s:Shared)(Z:St)(H:Hp)(x y:V)(v u:Value)(Q:VK),Inv X a3 Z H s->RelV x v->RelV y u->t x y H Q ->
  wpAny (model X.prog X.w) X.A (inplaceOp op v u) (EP X a3 Z Q) X.xe s
def qM(i:Nat):TG:=λv Z H Q=>Q (Z.set i (some v)) H
theorem jS(hN:X.N.Nodup)(hi:X.N[i]?=some x)(hx:Loc X.env.scope x)(hf:X.fn x=true\/X.env.scope.names.lookup x=some .local:=by first|exact .inl rfl|exact .inr rfl|assumption):PG X (.Name x pos) (qM i):=by
 intro a3 s Z H v u Q I r h;exact wpAny_assign_Name (zC I hN hi hx r (λs' I'=>⟨_,H,I',h⟩) hf)
def gNil:TGs:=λvs Z H Q=>vs=[]/\Q Z H
def vj(t:TG)(u:TGs):TGs:=λvs Z H Q=>∃v r,vs=v::r/\t v Z H λaj H'=>u r aj H' Q
theorem WL:PGs X [] gNil:=by
 intro a3 s Z H vs us Q I r h;obtain⟨e,h⟩:=h;subst e;cases r;exact assignInOrder_nil ⟨Z,H,I,h⟩
theorem jl(h1:PG X e t)(h2:PGs X es u)(hs:(assignEach (e::es) X.env).map (·.2)=assign e X.env::(assignEach es X.env).map (·.2):=by rfl):PGs X (e::es) (vj t u):=by
 intro a3 s Z H vs us Q I r h;obtain⟨v,vr,e1,h⟩:=h;subst e1;cases r with
 |cons r rr=>
  rw[hs];refine UD (thn (h1 a3 s Z H _ _ _ I r h) λ_ s1 zz=>?_);obtain⟨cx,H1,I1,q1⟩:=zz;exact h2 a3 s1 cx H1 _ _ Q I1 rr q1
def gTup(Ξ:PySem.W.Frag)(n:Nat)(t:TGs):TG:=λv Z H Q=>∃a xs,v=.ref a/\SqT Ξ H a xs/\xs.length=n/\t xs Z H Q
theorem q2B(hc:X.calm=true)(h:PGs X es t)(hn:(assignEach es X.env).length=n:=by rfl)(eV:(assignEach es X.env).findIdx? (·.1)=none:=by rfl):PG X (.Tuple es k pos) (gTup X.K n t):=by
 intro a3 s Z H v u Q I r hw;obtain⟨a,xs,e1,hq,hl,hw⟩:=hw;subst e1;cases r;obtain⟨its,rv,ht,hz⟩:=I.tuple hq;refine assign_Tuple_tuple (I.ok.hd hc) ht (by simp[hn, <-hl,rv.length]) eV λh' hx=>?_;have I1:Inv X a3 Z H { s with heap:=h' }:=I.kept (t':=s.toks) λb o e=>hx b o (Dy (Heap.lt_size e)) e;exact h a3 _ Z H xs _ Q I1 (by simpa using rv) hw
def gSub(to ti:TE)(t:TSet):TG:=λv Z H Q=>to Z H λo H1=>ti Z H1 λi H2=>t o i v H2 λH3=>Q Z H3
def tAsg(te:TE)(g:TG):TS:=λD Z H=>te Z H λx H1=>g x Z H1 D.nx
def tAug(i:Nat)(te:TE)(ti:TIp):TS:=λD Z H=>∃x,Z[i]?=some (some x)/\te Z H λy H1=>ti x y H1 λz H2=>D.nx (Z.set i (some z)) H2
def ipI(f:Int->Int->Int):TIp:=λx y H Q=>∃i j,x=.int i/\y=.int j/\Q (.int (f i j)) H
theorem q3f:PIp X .Add (ipI λi j=>i+j):=by
 intro a3 s Z H x y v u Q I r1 r2 h;obtain⟨i,j,e1,e2,q⟩:=h;subst e1;subst e2;obtain⟨t,rfl⟩:=r1;obtain⟨t',rfl⟩:=r2;exact iadd_int ⟨.int _,H,I.tok _,⟨_,rfl⟩,q⟩
def JZ(c:TT)(tb:TS):TS:=λD Z H=>∃W:Nat->St->Hp->Prop,(∃m,W m Z H)/\∀m Z H,W m Z H ->
 c Z H λb H1=>if b=true then ∃N:St->Hp->Prop,(∀aj H',N aj H'->∃m',m'<m/\W m' aj H')/\tb { D with nx:=N,ct:=N,bk:=D.nx } Z H1 else D.nx Z H1
structure It where
 go:Nat->Hp->Prop
 yld:Nat->Hp->V->Hp->Prop
 stop:Nat->Hp->Prop
def FpOk(X:Cx)(a3:List (Addr×Obj))(H:Hp)(b:Addr):Prop :=
 H b=none/\b≠X.env.locals/\b∉X.fs/\(b∈X.ex\/X.s₀.heap.objs.size<=b)/\(∀x c,X.env.cells.lookup x=some c->c≠b)/\∀p∈X.pn++a3,p.1≠b
theorem Inv.fpOk(I:Inv X a3 Z H s)(hb:s.heap.objs.size<=b)(hn:H' b=none):FpOk X a3 H' b:=by
 refine⟨hn,qbo (Du I.lt hb),I.nofs hb,.inr (DB I.sz hb),λx c e z=>?_,λp hp z=>?_⟩
 ·obtain⟨v,q⟩:=I.cell x c e
  exact absurd (Du q.lt (by rw[z];exact hb)) (Rb _)
 ·exact absurd (Du (Heap.lt_size (I.pin p hp).1) (by rw[z];exact hb)) (Rb _)
def CalP:Bool->Cx->Prop
 |true,X=>X.calm=true
 |false,X=>∃a oe vs,X.A.handled=some (.ref a)/\X.base.get? a=some oe/\oe.data=.fields vs/\vs[2]?=some .none
structure q4D(cm:Bool)(P:Program)(w:World)(Ξ:PySem.W.Frag)(tg:Expr)(J:It)(fp:List Addr)(it:Addr)(tn:Nat->Heap->Prop):Prop where
 mem:it∈fp
 obj:∀i h,tn i h->∀b∈fp,∃o,h.get? b=some o/\∀v,o.data ≠ .cell v
 keep:∀i h h',tn i h->(∀b∈fp,∀o,h.get? b=some o->h'.get? b=some o)->tn i h'
 item:∀(X:Cx),X.prog=P->X.w=w->X.K=Ξ->CalP cm X->∀(i:Nat)(a3:List (Addr×Obj))(s:Shared)(Z:St)(H:Hp)(E:Value->Shared->Prop),Inv X a3 Z H s->(∀b∈fp,FpOk X a3 H b)->tn i s.heap->J.go i H ->
  wpAny (model P w) X.A (pyNext (.ref it)) (λr s1=>∃u,r=some u /\
   wpAny (model P w) X.A (letOwnedTupleGo tg (.ref it) u) (λ_ s2=>∃x H',Inv X a3 Z H' s2/\RelV x u/\J.yld i H x H'/\tn (i+1) s2.heap/\∀b∈fp,H' b=none) E s1) E s
 done:∀(X:Cx),X.prog=P->X.w=w->X.K=Ξ->CalP cm X->∀(i:Nat)(a3:List (Addr×Obj))(s:Shared)(Z:St)(H:Hp)(E:Value->Shared->Prop),Inv X a3 Z H s->(∀b∈fp,FpOk X a3 H b)->tn i s.heap->J.stop i H ->
  wpAny (model P w) X.A (pyNext (.ref it)) (λr s1=>r=none/\Inv X a3 Z H s1) E s
 self:∀(A:Around)(i:Nat)(s:Shared)(Q:Value->Shared->Prop)(E:Value->Shared->Prop),tn i s.heap->Q (.ref it) s->wpAny (model P w) A (pyIter (.ref it)) Q E s
abbrev Turn:=q4D true
abbrev TI:=St->Hp->(It->Hp->Prop)->Prop
def PIEC(cm:Bool)(X:Cx)(a3:List (Addr×Obj))(Z:St)(tg:Expr)(R:It->Hp->Prop)(iX:Value)(s2:Shared):Prop :=
 ∃(it:Addr)(fp:List Addr)(tn:Nat->Heap->Prop)(J:It)(H':Hp),iX=.ref it/\Inv X a3 Z H' s2/\q4D cm X.prog X.w X.K tg J fp it tn/\tn 0 s2.heap/\(∀b∈fp,FpOk X a3 H' b)/\R J H'
abbrev PIE:=PIEC true
def PIC(cm:Bool)(X:Cx)(tg aC:Expr)(wi:TI):Prop :=
 ∀(a3:List (Addr×Obj))(s:Shared)(Z:St)(H:Hp)(R:It->Hp->Prop),Inv X a3 Z H s->wi Z H R ->
  wpAny (model X.prog X.w) X.A (eval aC X.env) (λv s1=>wpAny (model X.prog X.w) X.A (pyIter v) (PIEC cm X a3 Z tg R) X.xe s1) X.xe s
abbrev PI:=PIC true
theorem q1V(ho:s.heap.get? it=some o)(hc:o.cls=.type n)(hd:o.data=.fields vs)(hn:["enumerate","zip","dict_itemiterator","dict_reverseitemiterator","odict_iterator","itertools.zip_longest","itertools.pairwise"].contains n=false)(hQ:Q () s):wpAny M A (letOwnedTupleGo tg (.ref it) u) Q E s:=by
 unfold letOwnedTupleGo;cases tg<;>first
  |exact Ui hQ
  | (cases u<;>first
    |exact Ui hQ
    | (refine Ug (wpAny_load ho ?_)
       rw[hc,hd];show wpAny M A (if(["enumerate","zip","dict_itemiterator","dict_reverseitemiterator","odict_iterator","itertools.zip_longest","itertools.pairwise"].contains n&&vs[0]?==some (rawInt _))=true then _ else _) Q E s;rw[Uh (by intro h;rw[hn,Bool.false_and]at h;cases h)];exact Ui hQ))
def Itl(Ξ:PySem.W.Frag)(a:Addr):It :=
 ⟨λi H=>∃xs x,SqL Ξ H a xs/\xs[i]?=some x,λi H x H'=>H'=H/\∀xs,SqL Ξ H a xs->xs[i]?=some x,λi H=>∃xs,SqL Ξ H a xs/\xs.length<=i⟩
def Itr(lo:Int)(n:Nat):It:=⟨λi _=>i<n,λi H x H'=>H'=H/\x=.int (lo+i),λi _=>n<=i⟩
theorem YO(a it:Addr):Turn P w Ξ tg (Itl Ξ a) [it] it (λi h=>h.IsListIter it a i) where
 mem:=by simp
 obj:=λi h st b hb=>by
  have e:b=it:=by simpa using hb
  subst e;obtain⟨o,e,c,d⟩:=st;exact⟨o,e,λv z=>by rw[d]at z;cases z⟩
 keep:=λi h h' st k=>st.at λo e=>k it (by simp) o e
 item:=by
  intro X hP hw hK hc i a3 s Z H E I hf st hg;subst hP hw hK;obtain⟨xs,x,hq,hx⟩:=hg;obtain⟨its,rv,p,hz⟩:=I.list hq;obtain⟨u,hu,ru⟩:=rv.get hx;obtain⟨f0,f1,f2,f3,f4,f5⟩:=hf it (by simp);refine wpAny_pyNext_list_item st p.isList (x:=u) (by simpa using hu) λh' cE sb=>?_;have I1:Inv X a3 Z H { s with heap:=h' }:=I.turned (t':=s.toks) (λb o hb e=>(sb.2 b hb).trans e) f0 f1 f3 f4 f5;obtain⟨o,e,c,d⟩:=id cE;exact⟨u,rfl,q1V (s:={ s with heap:=h' }) e c d (by decide) ⟨x,H,I1,ru,⟨rfl,λys hy=>by rw[I.list_inj hy hq];exact hx⟩,cE,λb hb=>(hf b hb).1⟩⟩
 done:=by
  intro X hP hw hK hc i a3 s Z H E I hf st hg;subst hP hw hK;obtain⟨xs,hq,hx⟩:=hg;obtain⟨its,rv,p,hz⟩:=I.list hq;obtain⟨f0,f1,f2,f3,f4,f5⟩:=hf it (by simp);have hl:=rv.length;exact wpAny_pyNext_list_end (I.ok.hd hc) st p.isList (by simp;lia) λh' eb=>⟨rfl,I.turned (t':=s.toks) (λb o hb e=>eb b o hb e) f0 f1 f3 f4 f5⟩
 self:=λ_ _ _ _ _ st h=>wpAny_pyIter_listiter st h
theorem Zg:entryFor table "proto.unchain" = some Builtin.«proto.unchain»:=entryFor_of_fast (by kernel_rfl)
theorem K0{x left step:Int}(hh:A.handled=some (.ref a))(ho:s.heap.get? a=some oe)(hd:oe.data=.fields vs)(h2:vs[2]?=some .none)(dz:IsRangeIter s.heap it x left step)(gI:left<=0)(hQ:∀h',Heap.ExtBut it s.heap h'->Q none { s with heap:=h' }):wpAny (model prog w) A (pyNext (.ref it)) Q E s:=by
 have hT:s.TypeIs (.ref it) "range_iterator" := ⟨_,dz,rfl⟩;unfold pyNext;refine Ug (wpAny_attempt (wpAny_callSpecial?_slot (name:=Str.ofString "__next__") hT F.slot_range_iterator_next
  (UQ F.slot_range_iterator_next hT F.entry_range_iterator_next ?_ (F.args_range_iterator_next_1 _))))
 show wpAny _ _ (field (.ref it) 0 >>= _) _ _ s;refine Ug (UJ dz rfl (x:=rawInt x) rfl ?_);show wpAny _ _ (field (.ref it) 1 >>= _) _ _ s;refine Ug (UJ dz rfl (x:=rawInt left) rfl ?_);show wpAny _ _ (field (.ref it) 2 >>= _) _ _ s;refine Ug (UJ dz rfl (x:=rawInt step) rfl ?_);show wpAny _ _ (if left<=0 then _ else _) _ _ s;rw[Uj gI];refine Ug (wpAny_rule ?_);refine Ug ?_;show wpAny _ _ (newExc (.type "StopIteration") [] >>= _) _ _ _;refine Ug ?_;simp only[newExc,newTuple];refine Ug (Ut ?_ (by size_fits));refine Ug (m:=firstArgMember _ _) (wpAny_of_eq (a:=Value.none) (by first|rfl|(simp only[firstArgMember];rfl)) ?_);refine Ut ?_ (by size_fits);simp only[raiseNew];refine Ug (wpAny_handled ?_)
 first|rw[show A.in1.handled=some (.ref a)from hh]|rw[hh]
 have lt:=Heap.lt_size ho;have dO:((Value.ref a) != Value.ref (s.heap.push { cls:=Value.type "tuple", data:=Data.seq #[] }).objs.size)=true:=bne_iff_ne.mpr λz=>by
  have:=Value.ref.inj z;rw[Heap.size_push]at this;exact Dy (Nat.lt_succ_of_lt lt) this
 show wpAny _ _ (if _=true then _ else _) _ _ _;rw[Uj dO];refine Ug (Uq (runValue_entry Zg ?_));show wpAny _ _ (field (.ref a) 2 >>= _) _ _ _;refine Ug (UJ (Heap.get?_push_of_some _ (Heap.get?_push_of_some _ ho)) hd h2 ?_);refine Ui ⟨_,rfl,?_⟩;show wpAny _ _ (setField (.ref _) 2 _ >>= _) _ _ _;refine Ug (wpAny_setField (Heap.get?_push_size _ rfl) rfl (by show 2<6;decide) (wpAny_throw ?_));refine Ug (wpAny_isInstance (T := "StopIteration") (b:=true) ⟨_,Heap.get?_update_self _ (Heap.get?_push_size _ rfl) rfl,rfl⟩ isSubtype_stop ?_);exact Ui (hQ _ λb o hb q=>Heap.get?_update_of_ne _ (λz=>by have:=Heap.lt_size q;rw[<-z,Heap.size_push]at this;exact absurd this (BV.mpr (Bv _))) (((Heap.ExtBut.refl it s.heap).push _).push _ b o hb q))
theorem KO(it:Addr)(lo:Int)(n:Nat):q4D cm P w Ξ tg (Itr lo n) [it] it (λi h=>IsRangeIter h it (lo+(i:Nat)*1) ((n:Int)-(i:Nat)) 1) where
 mem:=by simp
 obj:=λi h st b hb=>by
  have e:b=it:=by simpa using hb
  subst e;exact⟨_,st,λv z=>by
   have z':Data.fields _=Data.cell v:=z;cases z'⟩
 keep:=λi h h' st k=>k it (by simp) _ st
 item:=by
  intro X hP hw hK hc i a3 s Z H E I hf st hg;subst hP hw hK;obtain⟨f0,f1,f2,f3,f4,f5⟩:=hf it (by simp);refine wpAny_pyNext_range_item st (by have:i<n:=hg;lia) λh' cE kk=>?_;have I1:Inv X a3 Z H { s with heap:=h',toks:=s.toks+1 }:=I.turned (λb o hb e=>kk.extBut b o hb e) f0 f1 f3 f4 f5;have eN:IsRangeIter h' it (lo+((i+1:Nat):Int)*1) ((n:Int)-((i+1:Nat):Int)) 1:=by
   rw[show lo+((i+1:Nat):Int)*1=lo+(i:Int)*1+1 by lia,show(n:Int)-((i+1:Nat):Int)=(n:Int)-(i:Int)-1 by lia];exact cE
  refine⟨_,rfl,q1V (s:={ s with heap:=h',toks:=s.toks+1 }) (n := "range_iterator") cE rfl rfl (by decide) ⟨.int (lo+i),H,I1,⟨s.toks,?_⟩,⟨rfl,rfl⟩,eN,λb hb=>(hf b hb).1⟩⟩;rw[Int.mul_one]
 done:=by
  intro X hP hw hK hc i a3 s Z H E I hf st hg;subst hP hw hK;obtain⟨f0,f1,f2,f3,f4,f5⟩:=hf it (by simp);have hl:(n:Int)-(i:Nat)<=0:=by have:n<=i:=hg;lia
  cases cm with
  |true=>exact wpAny_pyNext_range_end (I.ok.hd hc) st hl λh' eb=>⟨rfl,I.turned (t':=s.toks) (λb o hb e=>eb b o hb e) f0 f1 f3 f4 f5⟩
  |false=>
   obtain⟨a,oe,vs,h1,h2,h3,h4⟩:=hc;exact K0 h1 (I.bk a oe h2) h3 h4 st hl λh' eb=>⟨rfl,I.turned (t':=s.toks) (λb o hb e=>eb b o hb e) f0 f1 f3 f4 f5⟩
 self:=λ_ _ _ _ _ st h=>wpAny_pyIter_rangeiter st h
def Yn(Ξ:PySem.W.Frag)(tl:TE):TI:=λZ H R=>tl Z H λx H1=>∃a,x=.ref a/\(∃xs,SqL Ξ H1 a xs)/\R (Itl Ξ a) H1
theorem q5j(hl:PE X l tl):PI X tg l (Yn X.K tl):=by
 intro a3 s Z H R I h;refine thn (hl a3 s Z H _ I h) λv s1 zz=>?_;obtain⟨x,H1,I1,r1,q1⟩:=zz;obtain⟨a,e,⟨xs,hq⟩,q⟩:=q1;subst e;cases r1;obtain⟨its,rv,p,hz⟩:=I1.list hq;refine wpAny_pyIter_list p.isList ?_;refine⟨s1.heap.objs.size, [s1.heap.objs.size],_,_,H1,rfl,I1.kept (t':=s1.toks) λb o e=>Heap.get?_push_of_some _ e,YO a _,⟨_,Heap.get?_push_size _ rfl,rfl,rfl⟩,λb hb=>?_,q⟩;have e:b=s1.heap.objs.size:=by simpa using hb
 subst e;exact I1.fpOk (Dh _) (I1.hok.fresh (Dh _))
theorem q0w{lo hi:Int}(I:Inv X a3 Z H s)(h1 : -(2^62)<=lo)(h2:lo<2^62)(h3 : -(2^62)<=hi)(h4:hi<2^62)(q:R (Itr lo (hi-lo).toNat) H):wpAny (model X.prog X.w) X.A (pyIter (.ref s.heap.objs.size)) (PIEC cm X a3 Z tg R) E { s with heap:=s.heap.push { cls:=.type "range", data:=.fields #[.int lo t,.int hi u,.int 1 v] },toks:=tk }:=by
 refine wpAny_pyIter_range (IsRange.new ..) (small_one h1 h2 h3 h4) ?_;have I1:Inv X a3 Z H { s with heap:=s.heap.push { cls:=.type "range", data:=.fields #[.int lo t,.int hi u,.int 1 v] },toks:=tk }:=I.kept λb o e=>Heap.get?_push_of_some _ e;refine⟨(s.heap.push { cls:=.type "range", data:=.fields #[.int lo t,.int hi u,.int 1 v] }).objs.size, [(s.heap.push { cls:=.type "range", data:=.fields #[.int lo t,.int hi u,.int 1 v] }).objs.size],_,_,H,rfl,
  I1.kept (t':=tk) λb o e=>Heap.get?_push_of_some _ e,KO _ lo (hi-lo).toNat,?_,λb hb=>?_,q⟩
 ·have e1:lo+((0:Nat):Int)*1=lo:=by simp
  have e2:(((hi-lo).toNat:Nat):Int)-((0:Nat):Int)=Builtin.Range.rangeSize lo hi 1:=by rw[rangeSize_one];split<;>lia
  show IsRangeIter _ _ (lo+((0:Nat):Int)*1) ((((hi-lo).toNat:Nat):Int)-((0:Nat):Int)) 1;rw[e1,e2];exact Heap.get?_push_size _ rfl
 ·have e:b=(s.heap.push { cls:=.type "range", data:=.fields #[.int lo t,.int hi u,.int 1 v] }).objs.size:=by simpa using hb
  subst e;exact I1.fpOk (Dh _) (I1.hok.fresh (Dh _))
def Ym(ta:TA):TI:=λZ H R=>ta Z H λvs H1=>∃j:Int,vs=[.int j] /\ -(2^62)<=j/\j<2^62/\R (Itr 0 j.toNat) H1
theorem ZU(hg:Gl X "range")(hm:X.mg "range" = none)(ha:PA X [a] ta)(hs:starEach [a] X.env=[(false,eval a X.env)]:=by rfl):PIC cm X tg (.Call (.Name "range" p) [a] [] pos) (Ym ta):=by
 intro a3 s Z H R I h;refine Call_ (Xb I hg hm boot_range (PyProof.Rows.callWith_type1 (thn (ha pos a3 s Z H _ I h) λus s1 ⟨vs,H1,I1,r1,q1⟩=>?_) hs rfl));obtain⟨j,e,q1,q2,q⟩:=q1;subst e;cases r1 with
 |cons r rr=>
  cases rr;obtain⟨t,rfl⟩:=r;exact call_range_1 (q0w I1 (by lia) (by lia) q1 q2 (by simpa using q))
def tFor(wi:TI)(g:TG)(tb:TS):TS:=λD Z H=>wi Z H λJ H1=>∃W:Nat->Nat->St->Hp->Prop,(∃m,W 0 m Z H1)/\∀i m Z H,W i m Z H ->
 (J.stop i H/\D.nx Z H)\/(J.go i H/\∃N:St->Hp->Prop,(∀aj H',N aj H'->∃m',m'<m/\W (i+1) m' aj H')/\∀x H',J.yld i H x H'->g x Z H' λcy H2=>tb { D with nx:=N,ct:=N,bk:=D.nx } cy H2)
def ZR(fp:List Addr)(h:Heap):List (Addr×Obj):=fp.filterMap λb=>(h.get? b).map λo=>(b,o)
theorem xx(hb:b∈fp)(e:h.get? b=some o):(b,o)∈ZR fp h:=DI.mpr ⟨b,hb,by rw[e];rfl⟩
theorem Gh(hp:p∈ZR fp h):p.1∈fp/\h.get? p.1=some p.2:=by
 obtain⟨b,hb,e⟩:=DI.mp hp;cases q:h.get? b with
 |none=>rw[q]at e;cases e
 |some o=>
  rw[q]at e;have e':(b,o)=p:=Option.some.inj e;subst e';exact⟨hb,q⟩
theorem Inv.pinned(I:Inv X a3 Z H s)(hf:∀b∈fp,FpOk X a3 H b)(ho:∀b∈fp,∃o,s.heap.get? b=some o/\∀v,o.data ≠ .cell v):Inv X (a3++ZR fp s.heap) Z H s :=
 I.pins_of λp hp=>(Dl.mp hp).elim (λz=>I.pin p (Dt _ z)) λz=>by
  obtain⟨hb,e⟩:=Gh z;obtain⟨f0,f1,f2,_⟩:=hf p.1 hb;obtain⟨o,e',d⟩:=ho p.1 hb;rw[e]at e';cases e';exact⟨e,f0,f1,f2,d⟩
theorem Inv.unpinned(I:Inv X (a3++pl) Z H s):Inv X a3 Z H s:=I.pins_of λp hp=>I.pin p (Dt _ (Dp _ hp))
theorem q6o(hp:PassesOwn (model X.prog X.w) X.A X.env X.xe)(hc:X.calm=true)(hi:PI X tg aC wi)(hg:PG X tg g)(hb:PSs X body tb)(hs:∀x,foldedSetIterable aC X.env x=pure x:=by intro _;rfl):PS X (.For tg aC body [] pos) (tFor wi g tb):=by
 intro a3 s Z H D I h;refine wpAny_For (thn (hi a3 s Z H _ I h) λv s1 h1=>thn h1 λiX s2 h2=>?_) hs;obtain⟨it,fp,tn,J,H2,e,I2,T,eN,f2,W,⟨m0,w0⟩,dP⟩:=h2;subst e
 -- what stays true of the iterator's objects through the loop
 have fB:∀{H':Hp},(∀b∈fp,H' b=none)->∀b∈fp,FpOk X a3 H' b:=λhn b hb=>⟨hn b hb,(f2 b hb).2⟩;refine codeAny_forLoop_any (λn s'=>∃i aj H',Inv X a3 aj H' s'/\tn i s'.heap/\(∀b∈fp,H' b=none)/\W i n aj H') ?_ m0 ⟨0,Z,H2,I2,eN,λb hb=>(f2 b hb).1,w0⟩;rintro n s3 ⟨i,dQ,H3,I3,gk,mP,w3⟩;rcases dP i n dQ H3 w3 with⟨stop,qn⟩|⟨go,N,hN,step⟩
 ·refine Uy hp (thn (T.done X rfl rfl rfl hc i a3 s3 dQ H3 X.xe I3 (fB mP) gk stop) λr s4 zz=>?_)
  obtain⟨hr,I4⟩:=zz;subst hr;exact Ux ⟨dQ,H3,I4,qn⟩
 ·refine Uy hp (thn (T.item X rfl rfl rfl hc i a3 s3 dQ H3 X.xe I3 (fB mP) gk go) λr s4 zz=>?_)
  obtain⟨u,hr,h4⟩:=zz;subst hr;refine Uy hp (thn h4 λ_ s5 zz=>?_);obtain⟨x,H5,I5,r5,y5,gl,iE⟩:=zz;have nW:=I5.pinned (fB iE) (T.obj _ _ gl);refine Uy hp (thn (hg _ s5 dQ H5 x u _ nW r5 (step x H5 y5)) λ_ s6 zz=>?_);obtain⟨nX,H6,I6,q6⟩:=zz;refine Uy hp (thn (hb _ s6 nX H6 _ I6 q6) λf s7 q7=>?_);have again:∀{dR:St}{H7:Hp},Inv X (a3++ZR fp s5.heap) dR H7 s7->N dR H7->∃m,m<n/\∃i aj H',Inv X a3 aj H' s7/\tn i s7.heap/\(∀b∈fp,H' b=none)/\W i m aj H':=λ{dR H7} I7 n7=>by
   obtain⟨m',hm,w7⟩:=hN dR H7 n7;refine⟨m',hm,i+1,dR,H7,I7.unpinned,T.keep _ _ _ gl λb hb o e=>(I7.pin (b,o) (Dt _ (Dt _ (xx hb e)))).1,λb hb=>?_,w7⟩;obtain⟨o,e,d⟩:=T.obj _ _ gl b hb;exact(I7.pin (b,o) (Dt _ (Dt _ (xx hb e)))).2.1
  cases f with
  |next=>obtain⟨dR,H7,I7,n7⟩:=q7;exact again I7 n7
  |cont=>obtain⟨dR,H7,I7,n7⟩:=q7;exact again I7 n7
  |brk=>obtain⟨dR,H7,I7,q7⟩:=q7;exact⟨dR,H7,I7.unpinned,q7⟩
  |ret v=>obtain⟨x7,dR,H7,I7,r7,q7⟩:=q7;exact⟨x7,dR,H7,I7.unpinned,r7,q7⟩
theorem q1c{g:TG}{tb:TS}{D:Ends}(Pv:Nat->St->Hp->Prop)(h0:Pv 0 Z H)(hl:∀i Z H,i<=xs.length->Pv i Z H->SqL Ξ H a xs)(hs:∀i x Z H,xs[i]?=some x->Pv i Z H->g x Z H λcy H2=>tb { D with nx:=Pv (i+1),ct:=Pv (i+1),bk:=D.nx } cy H2)(hd:∀Z H,Pv xs.length Z H->D.nx Z H):
  ∃W:Nat->Nat->St->Hp->Prop,(∃m,W 0 m Z H)/\∀i m Z H,W i m Z H ->
   ((Itl Ξ a).stop i H/\D.nx Z H)\/((Itl Ξ a).go i H/\∃N:St->Hp->Prop,(∀aj H',N aj H'->∃m',m'<m/\W (i+1) m' aj H')/\∀x H',(Itl Ξ a).yld i H x H'->g x Z H' λcy H2=>tb { D with nx:=N,ct:=N,bk:=D.nx } cy H2):=by
 refine⟨λi m Z H=>m=xs.length-i/\i<=xs.length/\Pv i Z H,⟨xs.length,by simp,DQ _,h0⟩,?_⟩;rintro i m Z H ⟨rfl,hi,p⟩;have q:=hl i Z H hi p;by_cases bY:i<xs.length
 ·refine .inr ⟨⟨xs,xs[i],q,by simp[bY]⟩,Pv (i+1),λaj H' p'=>⟨xs.length-(i+1),by lia,rfl,bY,p'⟩,λx H' y=>?_⟩
  obtain⟨e,y⟩:=y;subst e;exact hs i x Z _ (y xs q) p
 ·have e:i=xs.length:=by lia
  subst e;exact .inl ⟨⟨xs,q,Dh _⟩,hd Z H p⟩
abbrev R2:=V->V->Hp->VK->Prop
def OpR(X:Cx)(f:Value->Value->Sem Value)(r:R2):Prop :=
 ∀(a3:List (Addr×Obj))(s:Shared)(Z:St)(H:Hp)(x y:V)(v u:Value)(Q:VK),Inv X a3 Z H s->RelV x v->RelV y u->r x y H Q ->
  wpAny (model X.prog X.w) X.A (f v u) (EP X a3 Z Q) X.xe s
def UnR(X:Cx)(f:Value->Sem Value)(r:V->Hp->VK->Prop):Prop :=
 ∀(a3:List (Addr×Obj))(s:Shared)(Z:St)(H:Hp)(x:V)(v:Value)(Q:VK),Inv X a3 Z H s->RelV x v->r x H Q ->
  wpAny (model X.prog X.w) X.A (f v) (EP X a3 Z Q) X.xe s
def zB(X:Cx)(f:Value)(r:List V->Hp->VK->Prop):Prop :=
 ∀(a3:List (Addr×Obj))(s:Shared)(Z:St)(H:Hp)(xs:List V)(us:List Value)(Q:VK),Inv X a3 Z H s->Vals xs us->r xs H Q ->
  wpAny (model X.prog X.w) X.A (call f us) (EP X a3 Z Q) X.xe s
def TruR(X:Cx)(r:V->Hp->(Bool->Hp->Prop)->Prop):Prop :=
 ∀(a3:List (Addr×Obj))(s:Shared)(Z:St)(H:Hp)(x:V)(v:Value)(Q:Bool->Hp->Prop),Inv X a3 Z H s->RelV x v->r x H Q ->
  wpAny (model X.prog X.w) X.A (truthy v) (TP X a3 Z Q) X.xe s
def tOp(r:R2)(ta tb:TE):TE:=λZ H Q=>ta Z H λx H1=>tb Z H1 λy H2=>r x y H2 Q
def tUn(r:V->Hp->VK->Prop)(ta:TE):TE:=λZ H Q=>ta Z H λx H1=>r x H1 Q
def rI(C:Int->Int->Prop)(g:Int->Int->V):R2:=λx y H Q=>∃i j,x=.int i/\y=.int j/\C i j/\Q (g i j) H
def rI0(g:Int->Int->V):R2:=λx y H Q=>∃i j,x=.int i/\y=.int j/\Q (g i j) H
def rU(g:Int->V):V->Hp->VK->Prop:=λx H Q=>∃i,x=.int i/\Q (g i) H
theorem binT(ha:PE X a ta)(hb:PE X b tb){R:V->V->Hp->Prop}(I:Inv X a3 Z H s)(h:ta Z H λx H1=>tb Z H1 λy H2=>R x y H2){f:Value->Value->Sem Value}(hf:∀v u s2 x y H2,Inv X a3 Z H2 s2->RelV x v->RelV y u->R x y H2->wpAny (model X.prog X.w) X.A (f v u) Q X.xe s2):
  wpAny (model X.prog X.w) X.A (eval a X.env) (λv ai=>wpAny (model X.prog X.w) X.A (eval b X.env) (λu ba=>wpAny (model X.prog X.w) X.A (f v u) Q X.xe ba) X.xe ai) X.xe s:=by
 refine thn (ha a3 s Z H _ I h) λv s1 zz=>?_;obtain⟨x,H1,I1,r1,q1⟩:=zz;refine thn (hb a3 s1 Z H1 _ I1 q1) λu s2 zz=>?_;obtain⟨y,H2,I2,r2,q2⟩:=zz;exact hf v u s2 x y H2 I2 r1 r2 q2
theorem opI{g:Int->Int->Int}(rule:∀(i j:Int)(t u:Tok)(s:Shared)(Q:Value->Shared->Prop)(E:Value->Shared->Prop),C i j->Q (.int (g i j) s.toks) { s with toks:=s.toks+1 }->wpAny (model X.prog X.w) X.A (f (.int i t) (.int j u)) Q E s):
  OpR X f (rI C λi j=>.int (g i j)):=by
 intro a3 s Z H x y v u Q I rx ry h;obtain⟨i,j,rfl,rfl,hc,q⟩:=h;obtain⟨t,rfl⟩:=rx;obtain⟨t',rfl⟩:=ry;exact rule i j t t' s _ _ hc ⟨.int (g i j),H,I.tok _,⟨_,rfl⟩,q⟩
theorem opI0{g:Int->Int->Int}(rule:∀(i j:Int)(t u:Tok)(s:Shared)(Q:Value->Shared->Prop)(E:Value->Shared->Prop),Q (.int (g i j) s.toks) { s with toks:=s.toks+1 }->wpAny (model X.prog X.w) X.A (f (.int i t) (.int j u)) Q E s):
  OpR X f (rI0 λi j=>.int (g i j)):=by
 intro a3 s Z H x y v u Q I rx ry h;obtain⟨i,j,rfl,rfl,q⟩:=h;obtain⟨t,rfl⟩:=rx;obtain⟨t',rfl⟩:=ry;exact rule i j t t' s _ _ ⟨.int (g i j),H,I.tok _,⟨_,rfl⟩,q⟩
theorem opB0{g:Int->Int->Bool}(rule:∀(i j:Int)(t u:Tok)(s:Shared)(Q:Value->Shared->Prop)(E:Value->Shared->Prop),Q (.bool (g i j)) s->wpAny (model X.prog X.w) X.A (f (.int i t) (.int j u)) Q E s):
  OpR X f (rI0 λi j=>.bl (g i j)):=by
 intro a3 s Z H x y v u Q I rx ry h;obtain⟨i,j,rfl,rfl,q⟩:=h;obtain⟨t,rfl⟩:=rx;obtain⟨t',rfl⟩:=ry;exact rule i j t t' s _ _ ⟨.bl (g i j),H,I,rfl,q⟩
def CPow(i j:Int):Prop:=0<=j/\j<=1000000/\i.natAbs<2^64
def CMul(i j:Int):Prop:=(-(2^64)<i/\i<2^64)\/(-(2^64)<j/\j<2^64)
theorem CMul.ok(h:CMul i j):IntMulOk i j:=by
 rcases h with⟨h1,h2⟩|⟨h1,h2⟩
 ·exact .of_left (intBits_le_64 h1 h2)
 ·exact .of_right (intBits_le_64 h1 h2)
theorem KN(k:Nat):(0:Int)<=2^k:=by
 rw[two_pow_cast];exact Bd _
theorem qL:OpR X (binaryOp .Add) (rI0 λi j=>.int (i+j)):=opI0 λ_ _ _ _ _ _ _ q=>add_int q
theorem vB:OpR X (binaryOp .Sub) (rI0 λi j=>.int (i-j)):=opI0 λ_ _ _ _ _ _ _ q=>sub_int q
theorem Ve:OpR X (binaryOp .Mult) (rI CMul λi j=>.int (i*j)):=opI λ_ _ _ _ _ _ _ hc q=>mul_int q hc.ok
theorem zp:OpR X (binaryOp .Mod) (rI (λ_ j=>0<j) λi j=>.int (i % j)):=opI λi j _ _ _ _ _ hc q=>by
 have h1:(0:Int)<j:=hc;exact mod_int' (by lia) (by rw[RB i (by lia)];exact q)
theorem q5Z:OpR X (binaryOp .Mod) (rI (λ_ j=>j≠0) λi j=>.int (i.fmod j)):=opI λ_ _ _ _ _ _ _ hc q=>mod_int' hc q
theorem Kc:OpR X (binaryOp .Pow) (rI CPow λi j=>.int (i^j.toNat)):=opI λ_ _ _ _ _ _ _ hc q=>pow_int_small hc.1 hc.2.1 hc.2.2 q
theorem zo:OpR X (binaryOp .LShift) (rI CPow λi j=>.int (i*2^j.toNat)):=opI λ_ _ _ _ _ _ _ hc q=>lshift_int_small hc.1 hc.2.1 hc.2.2 q
theorem q2P:OpR X (binaryOp .RShift) (rI (λ_ j=>0<=j) λi j=>.int (i / 2^j.toNat)):=opI λi j _ _ _ _ _ hc q=>
 rshift_int hc (by rw[RC i (KN _)];exact q)
theorem q8h:OpR X (binaryOp .BitXor) (rI0 λi j=>.int (Builtin.bitXor i j)):=opI0 λ_ _ _ _ _ _ _ q=>xor_int q
theorem unI{g:Int->Int}(rule:∀(i:Int)(t:Tok)(s:Shared)(Q:Value->Shared->Prop)(E:Value->Shared->Prop),Q (.int (g i) s.toks) { s with toks:=s.toks+1 }->wpAny (model X.prog X.w) X.A (f (.int i t)) Q E s):
  UnR X f (rU λi=>.int (g i)):=by
 intro a3 s Z H x v Q I rx h;obtain⟨i,rfl,q⟩:=h;obtain⟨t,rfl⟩:=rx;exact rule i t s _ _ ⟨.int (g i),H,I.tok _,⟨_,rfl⟩,q⟩
theorem q2M:UnR X (unaryOp .USub) (rU λi=>.int (-i)):=unI λ_ _ _ _ _ q=>neg_int q
def scal:V->V->Bool
 |.non,.non=>true | .non,.int _=>true | .int _,.non=>true | .non,.bl _=>true | .bl _,.non=>true | .non,.str _=>true | .str _,.non=>true
 |.int _,.int _=>true | .bl _,.bl _=>true | .str _,.str _=>true | .byt _,.byt _=>true
 |.int _,.str _=>true | .str _,.int _=>true | .bl _,.str _=>true | .str _,.bl _=>true
 |_,_=>false
def rEq:R2:=λx y H Q=>scal x y=true/\Q (.bl (decide (x=y))) H
def rNe:R2:=λx y H Q=>scal x y=true/\Q (.bl (!decide (x=y))) H
theorem qao:decide (V.int i=V.int j)=(i==j):=by
 rw[RH];simp
theorem q2J:decide (V.bl i=V.bl j)=(i==j):=by
 rw[RH];simp
theorem qan:decide (V.str i=V.str j)=(i==j):=by
 rw[RH];simp
theorem qap:decide (V.byt i=V.byt j)=(i.toList==j.toList):=by
 rw[RH];cases i;cases j;simp
theorem qS(I:Inv X a3 Z H s)(q:Q (.bl k) H)(e:k=k'):EP X a3 Z Q (.bool k') s:=by
 subst e;exact⟨.bl k,H,I,rfl,q⟩
theorem op_eq:OpR X (compareOp .Eq) rEq:=by
 intro a3 s Z H x y v u Q I rx ry h;obtain⟨hs,q⟩:=h;cases x with
 |non=>
  cases rx;cases y with
  |non=>cases ry;exact PySem.EqNone.eq_none_none (qS I q (by simp))
  |bl j=>cases ry;exact PySem.EqNone.eq_none_bool (qS I q (by simp))
  |int j=>obtain⟨t',rfl⟩:=ry;exact PySem.EqNone.eq_none_int (qS I q (by simp))
  |str j=>obtain⟨t',rfl⟩:=ry;exact PySem.EqNone.eq_none_str (qS I q (by simp))
  |_=>exact absurd (show false=true from hs) Dn
 |bl i=>
  cases rx;cases y with
  |non=>cases ry;exact PySem.EqNone.eq_bool_none (qS I q (by simp))
  |bl j=>cases ry;exact eq_bool (qS I q q2J)
  |str j=>obtain⟨t',rfl⟩:=ry;exact PySem.EqMixed.eq_bool_str (qS I q (by simp))
  |_=>exact absurd (show false=true from hs) Dn
 |int i=>
  obtain⟨t,rfl⟩:=rx;cases y with
  |non=>cases ry;exact PySem.EqNone.eq_int_none (qS I q (by simp))
  |int j=>obtain⟨t',rfl⟩:=ry;exact eq_int (qS I q qao)
  |str j=>obtain⟨t',rfl⟩:=ry;exact PySem.EqMixed.eq_int_str (qS I q (by simp))
  |_=>exact absurd (show false=true from hs) Dn
 |str i=>
  obtain⟨t,rfl⟩:=rx;cases y with
  |non=>cases ry;exact PySem.EqNone.eq_str_none (qS I q (by simp))
  |bl j=>cases ry;exact PySem.EqMixed.eq_str_bool (qS I q (by simp))
  |int j=>obtain⟨t',rfl⟩:=ry;exact PySem.EqMixed.eq_str_int (qS I q (by simp))
  |str j=>obtain⟨t',rfl⟩:=ry;exact eq_str (qS I q qan)
  |_=>exact absurd (show false=true from hs) Dn
 |byt i=>
  obtain⟨t,rfl⟩:=rx;cases y with
  |byt j=>obtain⟨t',rfl⟩:=ry;exact W.eq_bytes (qS I q qap)
  |_=>exact absurd (show false=true from hs) Dn
 |_=>cases y<;>exact absurd (show false=true from hs) Dn
theorem q0T:OpR X (compareOp .NotEq) rNe:=by
 intro a3 s Z H x y v u Q I rx ry h;obtain⟨hs,q⟩:=h;cases x with
 |non=>
  cases rx;cases y with
  |non=>cases ry;exact PySem.EqNone.ne_none_none (qS I q (by simp))
  |bl j=>cases ry;exact PySem.EqNone.ne_none_bool (qS I q (by simp))
  |int j=>obtain⟨t',rfl⟩:=ry;exact PySem.EqNone.ne_none_int (qS I q (by simp))
  |str j=>obtain⟨t',rfl⟩:=ry;exact PySem.EqNone.ne_none_str (qS I q (by simp))
  |_=>exact absurd (show false=true from hs) Dn
 |bl i=>
  cases rx;cases y with
  |non=>cases ry;exact PySem.EqNone.ne_bool_none (qS I q (by simp))
  |bl j=>cases ry;exact ne_bool (qS I q (Uo not q2J))
  |str j=>obtain⟨t',rfl⟩:=ry;exact PySem.EqMixed.ne_bool_str (qS I q (by simp))
  |_=>exact absurd (show false=true from hs) Dn
 |int i=>
  obtain⟨t,rfl⟩:=rx;cases y with
  |non=>cases ry;exact PySem.EqNone.ne_int_none (qS I q (by simp))
  |int j=>obtain⟨t',rfl⟩:=ry;exact ne_int (qS I q (Uo not qao))
  |str j=>obtain⟨t',rfl⟩:=ry;exact PySem.EqMixed.ne_int_str (qS I q (by simp))
  |_=>exact absurd (show false=true from hs) Dn
 |str i=>
  obtain⟨t,rfl⟩:=rx;cases y with
  |non=>cases ry;exact PySem.EqNone.ne_str_none (qS I q (by simp))
  |bl j=>cases ry;exact PySem.EqMixed.ne_str_bool (qS I q (by simp))
  |int j=>obtain⟨t',rfl⟩:=ry;exact PySem.EqMixed.ne_str_int (qS I q (by simp))
  |str j=>obtain⟨t',rfl⟩:=ry;exact ne_str (qS I q (Uo not qan))
  |_=>exact absurd (show false=true from hs) Dn
 |byt i=>
  obtain⟨t,rfl⟩:=rx;cases y with
  |byt j=>obtain⟨t',rfl⟩:=ry;exact W.ne_bytes (qS I q (Uo not qap))
  |_=>exact absurd (show false=true from hs) Dn
 |_=>cases y<;>exact absurd (show false=true from hs) Dn
theorem Q2:OpR X (compareOp .Lt) (rI0 λi j=>.bl (decide (i<j))):=opB0 λ_ _ _ _ _ _ _ q=>lt_int q
theorem q6U:OpR X (compareOp .LtE) (rI0 λi j=>.bl (decide (i<=j))):=opB0 λ_ _ _ _ _ _ _ q=>le_int q
theorem q8o:OpR X (compareOp .Gt) (rI0 λi j=>.bl (decide (j<i))):=opB0 λ_ _ _ _ _ _ _ q=>gt_int q
theorem q1R:OpR X (compareOp .GtE) (rI0 λi j=>.bl (decide (j<=i))):=opB0 λ_ _ _ _ _ _ _ q=>ge_int q
theorem Kd:OpR X (compareOp .Is) (λx y H Q=>y=.non/\Q (.bl (decide (x=.non))) H):=by
 intro a3 s Z H x y v u Q I rx ry h;obtain⟨rfl,q⟩:=h;cases ry;refine is_none_gen (qS I q ?_);cases x<;>first
  | (cases rx;rfl)
  | (obtain⟨t,rfl⟩:=rx;rfl)
theorem Jm:OpR X (compareOp .IsNot) (λx y H Q=>y=.non/\Q (.bl (!decide (x=.non))) H):=by
 intro a3 s Z H x y v u Q I rx ry h;obtain⟨rfl,q⟩:=h;cases ry;refine isnot_none_gen (qS I q ?_);cases x<;>first
  | (cases rx;rfl)
  | (obtain⟨t,rfl⟩:=rx;rfl)
theorem OpR.or(h:OpR X f r)(h':OpR X f r'):OpR X f (λx y H Q=>r x y H Q\/r' x y H Q):=by
 intro a3 s Z H x y v u Q I rx ry q;rcases q with q|q
 ·exact h a3 s Z H x y v u Q I rx ry q
 ·exact h' a3 s Z H x y v u Q I rx ry q
theorem qt(b:Expr)(h:op ≠ .In:=by decide)(h2:op ≠ .NotIn:=by decide):behindInMarks op b=false:=by
 have e1:(op==CmpOp.In)=false:=by cases op<;>first|rfl|exact absurd rfl h
 have e2:(op==CmpOp.NotIn)=false:=by cases op<;>first|rfl|exact absurd rfl h2
 cases b<;>simp[behindInMarks,e1,e2]
def Vu(t:TE):TT:=λZ H Q=>t Z H λx H'=>∃k,x=.bl k/\Q k H'
def j7(r r':R2)(ta tb tc:TE):TE:=λZ H Q=>ta Z H λx H1=>tb Z H1 λy H2=>r x y H2 λz H3=>∃k,z=.bl k /\
 (if k=true then tc Z H3 λw' H4=>r' y w' H4 Q else Q (.bl false) H3)
def TruV(Ξ:PySem.W.Frag)(x:V)(H:Hp)(k:Bool):Prop :=
 match x with
 |.non=>k=false
 |.bl b=>k=b
 |.int i=>k=(i != 0)
 |.str y=>y.length<=sizeLine/\k=((y.length:Int) != 0)
 |.byt y=>y.size<=sizeLine/\k=((y.size:Int) != 0)
 |.ref p=>(∃xs,SqL Ξ H p xs/\k = !xs.isEmpty)\/(∃xs,SqT Ξ H p xs/\k = !xs.isEmpty)\/∃kvs,H p=some (.dK kvs)/\k = !kvs.isEmpty
 |_=>False
theorem Yk{κ:Type}{kvs:List (κ×V)}{vs:List (κ×Value)}(r:KV kvs vs):(!vs.isEmpty) = !kvs.isEmpty:=by
 cases r<;>rfl
theorem Vg(r:Vals xs its):(!its.toArray.isEmpty) = !xs.isEmpty:=by
 cases r<;>simp
theorem Z9:(sizeLine:Nat)<2^63:=by rw[Ul];decide
theorem q7y:TruR X (λx H Q=>∃k,TruV X.K x H k/\Q k H):=by
 intro a3 s Z H x v Q I rx h;obtain⟨k,e,q⟩:=h;have hl:=Z9;have hs:sizeLine=16777216:=Ul;cases x with
 |non=>
  cases rx;have e':k=false:=e;subst e';exact truthy_none ⟨H,I,q⟩
 |bl b=>
  cases rx;have e':k=b:=e;subst e';exact Uw ⟨H,I,q⟩
 |int i=>
  obtain⟨t,rfl⟩:=rx;have e':k=(i != 0):=e;subst e';exact PySem.P.truthy_int ⟨H,I,q⟩
 |str y=>
  obtain⟨t,rfl⟩:=rx;obtain⟨hy,e'⟩:y.length<=sizeLine/\k=((y.length:Int) != 0):=e;subst e';exact PySem.P.truthy_str (by lia) ⟨H,I.tok _,q⟩
 |byt y=>
  obtain⟨t,rfl⟩:=rx;obtain⟨hy,e'⟩:y.size<=sizeLine/\k=((y.size:Int) != 0):=e;subst e';exact W.truthy_bytes (by lia) ⟨H,I.tok _,q⟩
 |ref p=>
  cases rx;have e':(∃xs,SqL X.K H p xs/\k = !xs.isEmpty)\/(∃xs,SqT X.K H p xs/\k = !xs.isEmpty)\/∃kvs,H p=some (.dK kvs)/\k = !kvs.isEmpty:=e;rcases e' with⟨xs,hx,e'⟩|⟨xs,hx,e'⟩|⟨kvs,hx,e'⟩
  ·subst e'
   obtain⟨its,r,pl,hz⟩:=I.list hx;have ay:=r.length;exact wpAny_truthy_list pl.isList (by simp only[Di];lia) ⟨H,I.tok _,by rw[Vg r];exact q⟩
  ·subst e'
   obtain⟨its,r,pl,hz⟩:=I.tuple hx;have ay:=r.length;exact truthy_tuple pl (by simp only[Di];lia) ⟨H,I.tok _,by rw[Vg r];exact q⟩
  ·subst e'
   obtain⟨hz,hS,vs,r,m⟩:kvs.length<=sizeLine/\(p==sysModules)=false/\∃vs,KV kvs vs/\s.heap.DictOf (qZ X.prog X.w) p vs:=I.hok p _ hx;have ay:kvs.length=vs.length:=Paired.length r;exact wpAny_truthy_dict hS m (by lia) ⟨H,I.tok _,by rw[Yk r];exact q⟩
 |_=>exact(show False from e).elim
theorem q1u(ha:PE X a ta)(he:∀bB,isTrue a X.env bB=(do let v <-bB;standAt a.pos;holding [v] (truthy v))):
  PT X a (λZ H Q=>ta Z H λx H'=>∃k,TruV X.K x H' k/\Q k H'):=by
 intro a3 s Z H Q I h;exact isTrue_plain (thn (ha a3 s Z H _ I h) λv s1 ⟨x,H1,I1,r1,q1⟩=>q7y a3 s1 Z H1 x v Q I1 r1 q1) (he _)
theorem K2:OpR X (binaryOp .Add) (λx y H Q=>∃i j,x=.str i/\y=.str j/\i.length+j.length<=sizeLine/\Q (.str (i++j)) H):=by
 intro a3 s Z H x y v u Q I rx ry h;obtain⟨i,j,rfl,rfl,hz,q⟩:=h;obtain⟨t,rfl⟩:=rx;obtain⟨t',rfl⟩:=ry;exact add_str (λt' tk=>⟨.str (i++j),H,I.tok _,⟨_,rfl⟩,q⟩) hz
theorem QV(r:Vals [x] us):∃u,us=[u]/\RelV x u:=by
 cases r with
 |cons r1 r2=>cases r2;exact⟨_,rfl,r1⟩
theorem Yz(r:Vals [x,y] us):∃u w',us=[u,w']/\RelV x u/\RelV y w':=by
 cases r with
 |cons r1 r2=>
  cases r2 with
  |cons r3 r4=>cases r4;exact⟨_,_,rfl,r1,r3⟩
theorem Zm:zB X (.builtin "abs") (λxs H Q=>∃i,xs=[.int i]/\Q (.int (if i<0 then -i else i)) H):=by
 intro a3 s Z H xs us Q I r h;obtain⟨i,rfl,q⟩:=h;obtain⟨u,rfl,t,rfl⟩:=QV r;exact call_abs_int λu tk=>⟨.int (if i<0 then -i else i),H,I.tok _,⟨_,rfl⟩,q⟩
theorem qaT(hc:X.calm=true):zB X (.builtin "min") (λxs H Q=>∃i j,xs=[.int i,.int j]/\Q (.int (if j<i then j else i)) H):=by
 intro a3 s Z H xs us Q I r h;obtain⟨i,j,rfl,q⟩:=h;obtain⟨u,w',rfl,⟨t,rfl⟩,⟨t',rfl⟩⟩:=Yz r;refine min_two_ints (I.ok.hd hc) λh' tk k=>⟨_,H,I.kept k,?_,q⟩;by_cases hj:j<i
 ·rw[Uj hj,Uj hj];exact⟨_,rfl⟩
 ·rw[Uh hj,Uh hj];exact⟨_,rfl⟩
theorem qaU:zB X (.type "int") (λxs H Q=>(∃i,xs=[.int i]/\Q (.int i) H)\/∃k,xs=[.bl k]/\Q (.int (if k then 1 else 0)) H):=by
 intro a3 s Z H xs us Q I r h;rcases h with⟨i,rfl,q⟩|⟨k,rfl,q⟩
 ·obtain⟨u,rfl,t,rfl⟩:=QV r
  exact call_int_int ⟨.int i,H,I,⟨_,rfl⟩,q⟩
 ·obtain⟨u,rfl,r1⟩:=QV r
  cases r1;exact call_int_bool ⟨.int (if k then 1 else 0),H,I.tok _,⟨_,rfl⟩,q⟩
structure ObjM(h:Heap)(x dx C:Addr)(mA:Str->Option Value):Prop where
 obj:h.get? x=some (W.instObj C dx)
 ns:h.Ns1 dx mA
 ne:dx≠x
set_option tactic.hygienic true in
theorem jo{h:Heap}(n:h.Ns1 dx mA):∃od,h.get? dx=some od/\∀name,W.lookIn name od=some (mA name):=by
 obtain⟨o,es,ep,ho,hd,hk,_,hm⟩:=n;refine⟨o,ho,λname=>?_⟩;have e:=hm name;unfold nsFind findBy at e;rw[<-qbe]at e;unfold W.lookIn;rw[hd];dsimp only;split
 ·rename_i y q
  rw[q]at e;exact Uo some e
 ·rename_i q
  rw[q]at e;have a:es.toList.any (·.refKey)=false:=by
   rw[List.any_eq_false];intro y hy;obtain⟨z,t,fC⟩:=hk y (Array.mem_toList_iff.mp hy);simp[DictEntry.refKey,fC]
  have a':¬es.toList.any (·.refKey)=true:=by rw[a];exact Dn
  rw[Uh a'];exact Uo some e
theorem ObjM.look(I:ObjM h x dx C mA):∃od,PySem.W.InstAt h x (W.instObj C dx) C (some od)/\∀name,W.lookIn name od=some (mA name):=
 let⟨od,ho,hl⟩:=jo I.ns
 ⟨od,⟨I.obj,rfl,rfl,ho⟩,hl⟩
theorem q03(X:Ξ.In s.heap)(I:ObjM s.heap x dx C mA)(hg:W.plainGet Ξ C name=true)(hh:W.hasDictIn Ξ C=true)(ha:W.findIn Ξ (.ref C) name=some none)(hv:mA name=some v)(nY:W.handedIn v=true)(h:Q v { s with toks:=s.toks+1 }):
  wpAny (model prog w) A (getAttr (.ref x) name expr) Q E s:=by
 obtain⟨od,J,hl⟩:=I.look;exact W.get_value X J (R7 hg).1 (qba hh ha rfl (by rw[hl,hv])) nY h
theorem q27(X:Ξ.In s.heap)(I:ObjM s.heap x dx C mA)(hg:W.plainGet Ξ C name=true)(hf:W.findIn Ξ (.ref C) name=some (some (.ref f)))(ht:W.isFn Ξ (.ref f)=true)(hv:mA name=none)(h:Q (.ref f, [.ref x]) s):
  wpAny (model prog w) A (getMethod (.ref x) name pl) Q E s:=by
 obtain⟨od,J,hl⟩:=I.look;exact W.method_fn X J (R7 hg).1 (R7 hg).2 hf (beq_iff_eq.mp ht) (by show(W.lookIn name od).map (·.isSome)=some false;rw[hl,hv];rfl) h
theorem q60(X:Ξ.In s.heap)(I:ObjM s.heap x dx C mA)(hs:W.findIn Ξ (.ref C) "__setattr__" = some (some (.builtin "object.__setattr__")))(hp:W.plainOver Ξ C=true)(ht:W.takerIn Ξ C name=some none)(hh:W.hasDictIn Ξ C=true)(hw:PySem.Within mA ns)(hsz:ns.length<=sizeLine)(h:∀h',ObjM h' x dx C (λy=>if y=name then some v else mA y)->Heap.SameBut dx s.heap h'->Q () { s with heap:=h',toks:=s.toks+2 }):
  wpAny (model prog w) A (setAttr (.ref x) name v) Q E s:=by
 obtain⟨od,J,hl⟩:=I.look;refine W.set_plain X J hs (W.osa_open (s:={ s with toks:=s.toks+1 }) (r:=none) X J hp ht λb=>?_);obtain⟨cd,hc,fv⟩:=W.any_some hh;have hx:s.heap.get? x=some ⟨.ref C,some dx,.plain, #[]⟩:=I.obj;refine Ug (Ui (Ug (Ug (U7 hx (Ug (PySem.W.Looks.here (s:={ s with toks:=s.toks+1 }) (W.looks_clsIn X hc) ?_))))));rw[fv];refine Ui (a:=some dx) (Ug (Ui (Ug ?_)));refine wpAny_nsSet1 (s:={ s with toks:=s.toks+1 }) I.ns λh' gm fD=>?_;obtain⟨oD,nZ,o0,iY,iZ,dS⟩:=gm.count (PySem.Within.cons name v hw);refine Ug (wpAny_lookBehind iY (by rw[iZ];exact pastItsLine_dict (DB dS (by rw[Dj];lia))) ?_);exact Ui (h _ ⟨(fD.2 _ (Ne.symm I.ne)).trans I.obj,gm,I.ne⟩ fD)
theorem q0R(X:Ξ.In s.heap)(hm:W.makesIn Ξ C=true)(hi:W.findIn Ξ (.ref C) "__init__" = some (some (.ref f)))(hf:W.typeIn Ξ (.ref f)=some (.type "function"))(h:codeAny (model prog w) (A.under (.builtin "type.__call__" ⟨.ref C::vs,kw⟩)) (.call (.ref f) ⟨.ref (s.heap.objs.size+1)::vs,kw⟩) (PySem.W.InitBack (s.heap.objs.size+1) R)
   { s with heap:=(s.heap.push W.emptyDict).push (W.instObj C s.heap.objs.size) }):
  codeAny (model prog w) A (.call (.ref C) ⟨vs,kw⟩) R s:=by
 obtain⟨hh,g,d,t,os⟩:=s;exact W.make_core (W.makes_of X hm) (W.looks_findIn X hi) (λself=>W.bind_fn X self hf) (.inl rfl) h
def putF(f:Str)(v:V):List (Str×V)->List (Str×V)
 | []=>[(f,v)]
 | (g,x)::r=>if g=f then(g,v)::r else(g,x)::putF f v r
theorem Ql(f g:Str)(v:V):∀fs:List (Str×V),(putF f v fs).lookup g=if g=f then some v else fs.lookup g
 | []=>by
  show List.lookup g [(f,v)]=_;by_cases h:g=f
  ·have hb:(g==f)=true:=beq_iff_eq.mpr h
   simp only[List.lookup,hb,Uj h]
  ·have hb:(g==f)=false:=beq_eq_false_iff_ne.mpr h
   simp only[List.lookup,hb,Uh h]
 | (k,x)::r=>by
  have ih:=Ql f g v r;rw[show putF f v ((k,x)::r)=(if k=f then(k,v)::r else(k,x)::putF f v r)from rfl];by_cases hk:k=f
  ·rw[Uj hk]
   by_cases h:g=k
   ·have hb:(g==k)=true:=beq_iff_eq.mpr h
    simp only[List.lookup,hb,Uj (h.trans hk)]
   ·have hb:(g==k)=false:=beq_eq_false_iff_ne.mpr h
    simp only[List.lookup,hb,Uh (λe:g=f=>h (e.trans hk.symm))]
  ·rw[Uh hk]
   by_cases h:g=k
   ·have hb:(g==k)=true:=beq_iff_eq.mpr h
    simp only[List.lookup,hb,Uh (λe:g=f=>hk (h.symm.trans e))]
   ·have hb:(g==k)=false:=beq_eq_false_iff_ne.mpr h
    simp only[List.lookup,hb];exact ih
theorem Qo(f:Str)(v:V):∀fs:List (Str×V),f∈(putF f v fs).map (·.1)/\∀g,g∈fs.map (·.1)->g∈(putF f v fs).map (·.1)
 | []=>⟨by simp[putF],λg h=>by simp at h⟩
 | (k,x)::r=>by
  obtain⟨i1,i2⟩:=Qo f v r;rw[show putF f v ((k,x)::r)=(if k=f then(k,v)::r else(k,x)::putF f v r)from rfl];by_cases hk:k=f
  ·rw[Uj hk]
   subst hk;exact⟨by simp,λg h=>by simpa using h⟩
  ·rw[Uh hk]
   refine⟨?_,λg h=>?_⟩
   ·rw[Dx]
    exact DL _ i1
   ·rw[Dx]at h ⊢
    rcases Dr.mp h with e|e
    ·exact Dr.mpr (.inl e)
    ·exact DL _ (i2 g e)
theorem Qm(f:Str)(v:V):∀fs:List (Str×V),(putF f v fs).length<=fs.length+1
 | []=>by simp[putF]
 | (k,x)::r=>by
  have ih:=Qm f v r;rw[show putF f v ((k,x)::r)=(if k=f then(k,v)::r else(k,x)::putF f v r)from rfl];by_cases hk:k=f
  ·rw[Uj hk,Dj,Dj];lia
  ·rw[Uh hk,Dj,Dj];lia
theorem RelO.some_of(r:RelO (some v) o):∃u,o=some u/\RelV v u:=by
 cases o with
 |none=>exact(show False from r).elim
 |some u=>exact⟨u,rfl,r⟩
theorem RelO.none_of(r:RelO none o):o=none:=by
 cases o with
 |none=>rfl
 |some u=>exact(show False from r).elim
theorem GT(r:RelV v u):W.handedIn u=true:=by
 cases v with
 |non=>cases(show u=Value.none from r);rfl
 |bl b=>cases(show u=Value.bool b from r);rfl
 |int i=>obtain⟨t,e⟩:=(show ∃t,u=Value.int i t from r);cases e;rfl
 |str x=>obtain⟨t,e⟩:=(show ∃t,u=Value.str x t from r);cases e;rfl
 |byt b=>obtain⟨t,e⟩:=(show ∃t,u=Value.bytes b t from r);cases e;rfl
 |flt b=>obtain⟨t,e⟩:=(show ∃t,u=Value.float b t from r);cases e;rfl
 |ref a=>cases(show u=Value.ref a from r);rfl
 |ty n=>cases(show u=Value.type n from r);rfl
theorem V5(hok:HOk P w H h)(e:H a=some (.ins C dx fs)):∃mA,ObjM h a dx C mA/\(∀f,RelO (fs.lookup f) (mA f))/\PySem.Within mA (fs.map (·.1))/\fs.length<=1000/\H dx=some (.own a):=by
 obtain⟨d,z,ne,ob,mA,n,r,q⟩:=(show ObjOk P w H h a (.ins C dx fs)from hok a _ e);exact⟨mA,⟨ob,n,ne⟩,r,q,z,d⟩
structure Cls(Ξ:PySem.W.Frag)(C:Addr):Prop where
 pg:W.plainGet Ξ C Str.empty=true
 hd:W.hasDictIn Ξ C=true
 po:W.plainOver Ξ C=true
 sa:W.findIn Ξ (.ref C) "__setattr__" = some (some (.builtin "object.__setattr__"))
theorem Cls.get(c:Cls Ξ C)(f:Str):W.plainGet Ξ C f=true:=c.pg
def NoAttr(Ξ:PySem.W.Frag)(C:Addr)(f:Str):Prop:=W.findIn Ξ (.ref C) f=some none
theorem NoAttr.taker(n:NoAttr Ξ C f):W.takerIn Ξ C f=some none:=by
 unfold W.takerIn;rw[show W.findIn Ξ (.ref C) f=some none from n];rfl
structure Meth(Ξ:PySem.W.Frag)(C:Addr)(m:Str)(f:Addr):Prop where
 at_:W.findIn Ξ (.ref C) m=some (some (.ref f))
 fn:W.isFn Ξ (.ref f)=true
 kp:W.keepIn Ξ (.ref f)=true
theorem Vh(I:Inv X a3 Z H s)(e:H a=some (.ins C dx fs))(c:Cls X.K C)(n:NoAttr X.K C f)(l:fs.lookup f=some v)(h:∀u s',Inv X a3 Z H s'->RelV v u->Q u s'):wpAny (model X.prog X.w) A (getAttr (.ref a) f b) Q E s:=by
 obtain⟨mA,O,r,_,_,_⟩:=V5 I.hok e;obtain⟨u,hu,ru⟩:=RelO.some_of (v:=v) (o:=mA f) (by rw[<-l];exact r f);exact q03 I.kIn O (c.get f) c.hd n hu (GT ru) (h u _ (I.tok _) ru)
theorem xz(I:Inv X a3 Z H s)(e:H a=some (.ins C dx fs))(c:Cls X.K C)(k:Meth X.K C m g)(l:fs.lookup m=none)(h:Q (.ref g, [.ref a]) s):wpAny (model X.prog X.w) A (getMethod (.ref a) m pl) Q E s:=by
 obtain⟨mA,O,r,_,_,_⟩:=V5 I.hok e;have hn:mA m=none:=RelO.none_of (by rw[<-l];exact r m);exact q27 I.kIn O (c.get m) k.at_ k.fn hn h
theorem Vb(I:Inv X a3 Z H s)(e:H a=some (.ins C dx fs))(c:Cls X.K C)(n:NoAttr X.K C f)(hl:fs.length<1000)(ry:RelV y u)(h:∀s',Inv X a3 Z (upd H a (.ins C dx (putF f y fs))) s'->Q () s'):wpAny (model X.prog X.w) A (setAttr (.ref a) f u) Q E s:=by
 obtain⟨mA,O,r,wi,_,ho⟩:=V5 I.hok e;have hz:(fs.map (·.1)).length<=sizeLine:=by rw[Dd,Ul];lia
 refine q60 I.kIn O c.sa c.po n.taker c.hd wi hz λh' O' sb=>h _ ?_;have hd:∃o,h'.get? dx=some o:=let⟨o,_,_,e',_⟩:=O'.ns;⟨o,e'⟩;refine I.write (x:=a) (e:=dx) (by rw[e];exact True.intro) (.inr ho) (λb q hb z=>(sb.2 b hb).trans z) hd ?_;refine⟨by rw[upd_ne O.ne];exact ho,?_,O.ne,O'.obj,_,O'.ns,λg=>?_,λg hg=>?_⟩
 ·have:=Qm f y fs;lia
 ·show RelO ((putF f y fs).lookup g) (if g=f then some u else mA g)
  rw[Ql];by_cases q:g=f
  ·rw[Uj q,Uj q];exact ry
  ·rw[Uh q,Uh q];exact r g
 ·by_cases q:g=f
  ·rw[q];exact(Qo f y fs).1
  ·refine(Qo f y fs).2 g (wi g λz=>hg ?_)
   show(if g=f then some u else mA g)=none;rw[Uh q];exact z
theorem Inv.made(I:Inv X a3 Z H s):Inv X a3 Z (upd (upd H s.heap.objs.size (.own (s.heap.objs.size+1))) (s.heap.objs.size+1) (.ins C s.heap.objs.size []))
  { s with heap:=(s.heap.push W.emptyDict).push (W.instObj C s.heap.objs.size) }:=by
 have e1:(s.heap.push W.emptyDict).get? s.heap.objs.size=some W.emptyDict:=Heap.get?_push_size s.heap rfl;have e2:((s.heap.push W.emptyDict).push (W.instObj C s.heap.objs.size)).get? (s.heap.objs.size+1)=some (W.instObj C s.heap.objs.size):=by
  have:=Heap.get?_push_size (s.heap.push W.emptyDict) (o:=W.instObj C s.heap.objs.size) rfl;rwa [Heap.size_push]at this
 have e3:(s.heap.push W.emptyDict).Ns s.heap.objs.size (λ_=>none):=⟨W.emptyDict, #[],_,e1,rfl,(λe he=>absurd he (by simp)),λ_=>rfl⟩;have I1:=I.laid (a:=s.heap.objs.size) (o:=.own (s.heap.objs.size+1)) (h':=s.heap.push W.emptyDict) (t':=s.toks) (λb u q=>Heap.get?_push_of_some _ q) (Dh _) ⟨_,e1⟩;refine I1.laid (a:=s.heap.objs.size+1) (o:=.ins C s.heap.objs.size []) (t':=s.toks) (λb u q=>Heap.get?_push_of_some _ q) (RW (Heap.size_push _ _)) ?_;have ne:s.heap.objs.size≠s.heap.objs.size+1:=Dy (Nat.lt_succ_self _);refine⟨by rw[upd_ne ne,upd_same],DQ _,ne,e2,λ_=>none,(Heap.Ns1.of_empty e3).at λo q=>Heap.get?_push_of_some _ q,λ_=>True.intro,λy hy=>absurd rfl hy⟩
theorem qaY(hb:attributeBase e f env (eval e env)=eval e env)(h:wpAny (model prog w) A (eval e env) (λo ai=>wpAny (model prog w) A (getAttr o f true) Q E ai) E s):wpAny (model prog w) A (eval (.Attribute e f pos) env) Q E s :=
 Attribute_any_ h (by rw[arm_eval_Attribute,hb])
def tFld(Ξ:PySem.W.Frag)(ta:TE)(f:Str):TE:=λZ H Q=>ta Z H λx H1=>∃a C dx fs v,x=.ref a/\H1 a=some (.ins C dx fs)/\Cls Ξ C/\NoAttr Ξ C f/\fs.lookup f=some v/\Q v H1
def sFld(Ξ:PySem.W.Frag)(ta tv:TE)(f:Str):TS:=λD Z H=>tv Z H λy H1=>ta Z H1 λx H2=>∃a C dx fs,x=.ref a/\H2 a=some (.ins C dx fs)/\Cls Ξ C/\NoAttr Ξ C f/\fs.length<1000 /\
 D.nx Z (upd H2 a (.ins C dx (putF f y fs)))
def InOp(X:Cx)(op:Operator)(rd:V->V->Hp->VK->Prop):Prop :=
 ∀(a3:List (Addr×Obj))(s:Shared)(Z:St)(H:Hp)(x y:V)(u v:Value)(Q:VK),Inv X a3 Z H s->RelV x u->RelV y v->rd x y H Q->wpAny (model X.prog X.w) X.A (inplaceOp op u v) (EP X a3 Z Q) X.xe s
def Jd(Ξ:PySem.W.Frag)(ta tv:TE)(rd:V->V->Hp->VK->Prop)(f:Str):TS:=λD Z H=>ta Z H λx H1=>∃a C dx fs v,x=.ref a/\H1 a=some (.ins C dx fs)/\Cls Ξ C/\NoAttr Ξ C f/\fs.lookup f=some v /\
 tv Z H1 λy H2=>rd v y H2 λz H3=>∃fE dI,H3 a=some (.ins C fE dI)/\dI.length<1000/\D.nx Z (upd H3 a (.ins C fE (putF f z dI)))
def rAdd:V->V->Hp->VK->Prop:=λx y H Q=>∃i j,x=.int i/\y=.int j/\Q (.int (i+j)) H
theorem q93:InOp X .Add rAdd:=by
 rintro a3 s Z H x y u v Q I rx ry ⟨i,j,rfl,rfl,q⟩;obtain⟨t,rfl⟩:=(show ∃t,u=Value.int i t from rx);obtain⟨t',rfl⟩:=(show ∃t',v=Value.int j t' from ry);exact PyProof.Rows.iadd_int ⟨.int (i+j),H,I.tok _,⟨_,rfl⟩,q⟩
section
variable {X:Cx}{a3:List (Addr×Obj)}{Z:St}{H:Hp}{s:Shared}{A:Around}{E:Value->Shared->Prop}{Q:Value->Shared->Prop}{c:Value}{b:Bool}
inductive TyOf(Ξ:PySem.W.Frag)(H:Hp):V->Value->Prop where
 |non:TyOf Ξ H .non (.type "NoneType")
 |bl (x:Bool):TyOf Ξ H (.bl x) (.type "bool")
 |int (i:Int):TyOf Ξ H (.int i) (.type "int")
 |str (x:Str):TyOf Ξ H (.str x) (.type "str")
 |flt (x:UInt64):TyOf Ξ H (.flt x) (.type "float")
 |lst {a:Addr}{xs:List V} (e:H a=some (.lst xs)):TyOf Ξ H (.ref a) (.type "list")
 |frz {a:Addr}{o:Obj}{xs:List V} (e:H a=some (.frz o (.lst xs))):TyOf Ξ H (.ref a) (.type "list")
 |tup {a:Addr}{xs:List V} (e:H a=some (.tup xs)):TyOf Ξ H (.ref a) (.type "tuple")
 |dK {a:Addr}{kvs:List (Key×V)} (e:H a=some (.dK kvs)):TyOf Ξ H (.ref a) (.type "dict")
 |dT {a:Addr}{kvs:List (List Key×V)} (e:H a=some (.dT kvs)):TyOf Ξ H (.ref a) (.type "dict")
 |ins {a C dx:Addr}{fs:List (Str×V)} (e:H a=some (.ins C dx fs)) (cl:Cls Ξ C) (ha:W.findIn Ξ (.ref C) "__class__" = some (some (.builtin "object.__class__")))
   (hn:W.specialIn Ξ (.builtin "object.__class__") "__get__" = some (some (.builtin "getset_descriptor.__get__"))) (htk:W.takesIn Ξ (.builtin "object.__class__")=some true)
   (hm:W.mroIn Ξ C (.type "object")=some true):TyOf Ξ H (.ref a) (.ref C)
theorem GP(I:Inv X a3 Z H s)(rx:RelV x u)(ty:TyOf X.K H x t)(e:W.kitOne X.K t c=some b)(h:∀tk,Q (.bool b) { s with toks:=tk }):
  wpAny (model X.prog X.w) A (call (.builtin "isinstance") [u,c]) Q E s:=by
 cases ty with
 |non=>cases(show u=Value.none from rx);exact DN W.kitx_none I.kIn True.intro e (λz=>nomatch z) h
 |bl y=>cases(show u=Value.bool y from rx);exact DN W.kitx_bool I.kIn True.intro e (λz=>nomatch z) h
 |int i=>obtain⟨t,q⟩:=(show ∃t,u=Value.int i t from rx);cases q;exact DN W.kitx_int I.kIn True.intro e (λz=>nomatch z) h
 |str y=>obtain⟨t,q⟩:=(show ∃t,u=Value.str y t from rx);cases q;exact DN W.kitx_str I.kIn True.intro e (λz=>nomatch z) h
 |flt y=>obtain⟨t,q⟩:=(show ∃t,u=Value.float y t from rx);cases q;exact DN W.kitx_float I.kIn True.intro e (λz=>nomatch z) h
 | @lst a xs ea=>
  cases(show u=Value.ref a from rx);obtain⟨_,_,n,_,h1⟩:=(show ObjOk X.prog X.w H s.heap a (.lst xs)from I.hok a _ ea);exact DN W.kitx_list I.kIn ⟨_,h1,rfl⟩ e (λz=>nomatch z) h
 | @frz a ob xs ea=>
  cases(show u=Value.ref a from rx);obtain⟨_,_,_,n,_,h1⟩:=(show ObjOk X.prog X.w H s.heap a (.frz ob (.lst xs))from I.hok a _ ea);exact DN W.kitx_list I.kIn ⟨_,h1,rfl⟩ e (λz=>nomatch z) h
 | @tup a xs ea=>
  cases(show u=Value.ref a from rx);obtain⟨_,_,_,p⟩:=(show ObjOk X.prog X.w H s.heap a (.tup xs)from I.hok a _ ea);obtain⟨o,h1,h2,_⟩:=p;exact DN W.kitx_tuple I.kIn ⟨o,h1,h2⟩ e (λz=>nomatch z) h
 | @dK a kvs ea=>
  cases(show u=Value.ref a from rx);obtain⟨_,_,vs,_,p⟩:=(show ObjOk X.prog X.w H s.heap a (.dK kvs)from I.hok a _ ea);obtain⟨o,es,ep,h1,h2,_⟩:=p;exact DN W.kitx_dict I.kIn ⟨o,h1,h2.1⟩ e (λz=>nomatch z) h
 | @dT a kvs ea=>
  cases(show u=Value.ref a from rx);obtain⟨_,_,xs,_,o,es,ep,h1,h2,_⟩:=(show ObjOk X.prog X.w H s.heap a (.dT kvs)from I.hok a _ ea);exact DN W.kitx_dict I.kIn ⟨o,h1,h2.1⟩ e (λz=>nomatch z) h
 | @ins a C dx fs ea cl ha hn htk hm=>
  cases(show u=Value.ref a from rx);obtain⟨mA,O,_⟩:=V5 I.hok ea;obtain⟨od,J,_⟩:=O.look;exact DN (W.kitx_own (cl.get _) cl.hd ha hn htk hm) I.kIn J e (λz=>nomatch z) h
end
structure Room(k:Nat)(A:Around):Prop where
 hd:A.handled=none
 dp:A.depth+3*k+5<recursionLimit
 un:A.units+16*k+200<cLine
 gd:A.guards=some []
theorem Room.mono(r:Room k A)(h:j<=k):Room j A:=⟨r.hd,by have:=r.dp;lia,by have:=r.un;lia,r.gd⟩
theorem Room.deeper(r:Room (k+1) A)(env:Env):Room k (A.deeper env):=
 ⟨r.hd,by have:=r.dp;show A.depth+1+3*k+5<_;lia,by have:=r.un;show A.units+3+16*k+200<_;lia,r.gd⟩
theorem Yi{A:Around}:(A.under (.builtin "type.__call__" ⟨.ref C::us,kw⟩)).depth=A.depth+1:=by
 first|rfl|simp[Around.under,Code.weight,Code.isCreation,Code.isGuard,Code.isCaller,Code.frames,Code.isFrame,guardIds]
theorem Yh{A:Around}:(A.under (.builtin "type.__call__" ⟨.ref C::us,kw⟩)).units=A.units+1:=by
 first|rfl|simp[Around.under,Code.cUnits,Code.frames,Code.isFrame]
theorem make_guards{A:Around}:(A.under (.builtin "type.__call__" ⟨.ref C::us,kw⟩)).guards=A.guards:=by
 first|rfl|simp[Around.under,Code.guards,Code.isGuard,guardIds,pushGuards]
theorem Room.make(r:Room (k+1) A)(C:Addr)(us:List Value)(kw:List (Str×Value)):Room k (A.under (.builtin "type.__call__" ⟨.ref C::us,kw⟩)):=
 ⟨r.hd,by have:=r.dp;rw[Yi];lia,by have:=r.un;rw[Yh];lia,make_guards.trans r.gd⟩
theorem Room.depth(r:Room k A):A.depth<recursionLimit:=by have:=r.dp;lia
theorem Room.units(r:Room k A):A.units+64<cLine:=by have:=r.un;lia
def tNil:TA:=λ_ H Q=>Q [] H
def vE(ta:TE)(tr:TA):TA:=λZ H Q=>ta Z H λx H1=>tr Z H1 λxs H2=>Q (x::xs) H2
theorem q6r:PA X [] tNil:=λ_ _ _ _ H Q I h=>Calls.spliced_nil ⟨[],H,I,.nil,h⟩
theorem q50(ha:PE X e te)(hr:PA X es t)(hs:starEach (e::es) X.env=(false,eval e X.env)::starEach es X.env:=by rfl):PA X (e::es) (vE te t):=by
 intro pos a3 s Z H Q I h;rw[hs];show wpAny _ _ (spliced ((false,eval e X.env)::backTo pos (starEach es X.env))) _ _ s;refine Calls.spliced_cons (thn (ha a3 s Z H _ I h) λu s1 zz=>?_);obtain⟨x,H1,I1,r1,q1⟩:=zz;exact thn (hr pos a3 s1 Z H1 _ I1 q1) λus s2 ⟨xs,H2,I2,r2,q2⟩=>⟨x::xs,H2,I2,.cons r1 r2,q2⟩
def tTup(t:TA):TE:=λZ H Q=>t Z H λxs H1=>xs.length<=sizeLine/\∀p,H1 p=none->Q (.ref p) (upd H1 p (.tup xs))
def tLst(t:TA):TE:=λZ H Q=>t Z H λxs H1=>xs.length<=sizeLine/\∀p,H1 p=none->Q (.ref p) (upd H1 p (.lst xs))
abbrev Sp:=List V->Hp->VK->XK->Prop
abbrev CXT:=List Env->Hp->Shared->XK->Value->Shared->Prop
structure Env0(P:Program)(w:World)(Ξ:PySem.W.Frag)(mg:Str->Option Value)(base:Heap)(A:Around)(outer:List Env)(s:Shared)(H:Hp):Prop where
 frames:A.frames=some outer
 mod:Mod Ξ mg base
 bs:∀b o,base.get? b=some o->s.heap.get? b=some o/\H b=none
 bsz:base.objs.size<=s.heap.objs.size
 funs:s.heap.FunFrames base outer
 frf:∀b∈frs outer,H b=none
 hok:HOk P w H s.heap
 bare:AllBare s.gens
def CE(outer:List Env)(P:Program)(w:World)(H:Hp)(s:Shared)(Q:VK)(u:Value)(s':Shared):Prop :=
 ∃v H',s'.os=s.os/\AllBare s'.gens/\Un (frs outer) [] H H' s.heap s'.heap/\HOk P w H' s'.heap/\RelV v u/\Q v H'
def CR(CX:CXT)(outer:List Env)(P:Program)(w:World)(H:Hp)(s:Shared)(Q:VK)(E:XK)(r:Result)(s':Shared):Prop :=
 match r with
 |.ok (.ret u)=>CE outer P w H s Q u s'
 |.ok _=>False
 |.error e=>CX outer H s E e s'
structure FnOk(P:Program)(w:World)(Ξ:PySem.W.Frag)(mg:Str->Option Value)(base:Heap)(CX:CXT)(k:Nat)(f:Addr)(fd:FuncData)(ps:List Str)(sp:Sp):Prop where
 len:∀vs H Q E,sp vs H Q E->vs.length=ps.length
 run:∀(A:Around)(outer:List Env)(s:Shared)(H:Hp)(args:Args)(us:List Value)(vs:List V)(Q:VK)(E:XK),Room k A->Env0 P w Ξ mg base A outer s H->BindsTo s fd args (ps.zip us)->Vals vs us->sp vs H Q E ->
  codeAny (model P w) A (.call (.ref f) args) (CR CX outer P w H s Q E) s
theorem FnOk.mono(F:FnOk P w Ξ mg base CX j f fd ps sp)(h:j<=k):
  FnOk P w Ξ mg base CX k f fd ps sp:=⟨F.len,λA outer s H args us vs Q E hr=>F.run A outer s H args us vs Q E (hr.mono h)⟩
theorem FnOk.imp(F:FnOk P w Ξ mg base CX k f fd ps sp)(h:∀vs H Q E,sp' vs H Q E->sp vs H Q E):FnOk P w Ξ mg base CX k f fd ps sp' :=
 ⟨λvs H Q E q=>F.len vs H Q E (h _ _ _ _ q),λA outer s H args us vs Q E hr he hb hv hs=>F.run A outer s H args us vs Q E hr he hb hv (h _ _ _ _ hs)⟩
theorem Env0.make(e:Env0 P w Ξ mg base A outer s H)(C:Addr)(us:List Value)(kw:List (Str×Value)):
  Env0 P w Ξ mg base (A.under (.builtin "type.__call__" ⟨.ref C::us,kw⟩)) outer s H:=⟨by first|exact e.frames|(simpa[Around.under,Code.envs,Code.isFrame,pushEnvs]using e.frames),e.mod,e.bs,e.bsz,e.funs,e.frf,e.hok,e.bare⟩
theorem Inv.env0(I:Inv X a3 Z H s):Env0 X.prog X.w X.K X.mg X.base X.A X.stack s H :=
 ⟨I.ok.frames,I.ok.mod,I.bs,DB I.ok.bsz I.sz,I.stack,I.stkFree,I.hok,I.bare⟩
theorem Inv.after(I:Inv X a3 Z H s)(h:CE X.stack X.prog X.w H s Q u s'):EP X a3 Z Q u s':=by
 obtain⟨v,H',os,bare,un,hok,r,q⟩:=h;obtain⟨hh,g,d,t,ff⟩:=s';obtain rfl:ff=s.os:=os;exact⟨v,H',I.call (h':=hh) (g':=g) (d':=d) (t':=t) (ch:=[]) un hok bare (λb z=>absurd z (by simp)),r,q⟩
def zT(sp:Sp)(cA:List V)(E:XK)(t:TA):TE:=λZ H Q=>t Z H λvs H1=>sp (vs++cA) H1 Q E
def XS(C:Addr)(m:Str)(sp:Sp)(cA:List V)(E:XK)(ta:TE)(t:TA):TE:=λZ H Q=>ta Z H λx H1=>∃a dx fs,x=.ref a/\H1 a=some (.ins C dx fs)/\fs.lookup m=none /\
 t Z H1 λvs H2=>sp (x::(vs++cA)) H2 Q E
def q4R(C:Addr)(sp:Sp)(cA:List V)(E:XK)(t:TA):TE:=λZ H Q=>t Z H λvs H1=>∀x dx,H1 x=none->H1 dx=none->dx≠x ->
 sp (.ref x::(vs++cA)) (upd (upd H1 dx (.own x)) x (.ins C dx [])) (λv H2=>v=.non/\Q (.ref x) H2) E
def Binds(Ξ:PySem.W.Frag)(fd:FuncData)(ps:List Str)(ds:List Value):Prop :=
 ∀(s:Shared)(us:List Value),Ξ.In s.heap->(us++ds).length=ps.length->BindsTo s fd ⟨us, []⟩ (ps.zip (us++ds))
theorem Binds.all(h:∀us:List Value,us.length=ps.length->bindArgs fd ⟨us, []⟩=pure (ps.zip us)):Binds Ξ fd ps []:=λs us _ hl=>by
 rw[DD]at hl ⊢;exact .of_eq (h us hl)
def QR(CX:CXT)(X:Cx)(E:XK):Prop:=∀(a3:List (Addr×Obj))(Z:St)(H:Hp)(s:Shared)(e:Value)(s':Shared),Inv X a3 Z H s->CX X.stack H s E e s'->X.xe e s'
section
variable {X:Cx}{CX:CXT}{k:Nat}{f C:Addr}{fd:FuncData}{ps:List Str}{sp:Sp}{cA:List V}{ds:List Value}{E:XK}{x m:Str}{p pos aK:Pos}{e o:Expr}{es:List Expr}{ta:TE}{t:TA}
theorem Wi(F:FnOk X.prog X.w X.K X.mg X.base CX k f fd ps sp)(hr:Room k X.A)(hb:Binds X.K fd ps ds)(hd:Vals cA ds)(hx:QR CX X E)(I:Inv X a3 Z H s)(r:Vals vs us)(h:sp (vs++cA) H Q E):wpAny (model X.prog X.w) X.A (call (.ref f) us) (EP X a3 Z Q) X.xe s:=by
 have r2:Vals (vs++cA) (us++ds):=r.append hd;have hl:(us++ds).length=ps.length:=by rw[<-r2.length];exact F.len _ _ _ _ h
 refine UV (Uz (F.run X.A X.stack s H ⟨us, []⟩ (us++ds) (vs++cA) Q E hr I.env0 (hb s us I.kIn hl) r2 h) λr s' hq=>?_);cases r with
 |error e=>exact hx a3 Z H s e s' I hq
 |ok fl=>
  cases fl with
  |ret u=>exact I.after hq
  |next=>exact False.elim hq
  |brk=>exact False.elim hq
  |cont=>exact False.elim hq
theorem q5W(F:FnOk X.prog X.w X.K X.mg X.base CX k f fd ps sp)(hr:Room k X.A)(hg:Gl X x)(hm:X.mg x=some (.ref f))(hk:W.keepIn X.K (.ref f)=true)(hb:Binds X.K fd ps ds)(hd:Vals cA ds)(hx:QR CX X E)(ha:PA X (e::es) t)(cj:(x==("__debug__" : Str))=false:=by decide)(he:starEach (e::es) X.env=(false,eval e X.env)::starEach es X.env:=by rfl)(bR:(backTo pos (starEach es X.env)).any (·.1)=false:=by rfl):
  PE X (.Call (.Name x p) (e::es) [] pos) (zT sp cA E t):=by
 intro a3 s Z H Q I h;refine Uu (zh I hg hm ?_ cj);refine Rl (h₀:=X.base) I.ok.mod.kin hk (thn (ha pos a3 s Z H _ I h) λus s1 ⟨vs,H1,I1,r,q⟩=>⟨I1.kIn,?_⟩) he bR;exact Wi F hr hb hd hx I1 r q
theorem q4B(he:PE X o ta)(c:Cls X.K C)(hm:Meth X.K C m f)(F:FnOk X.prog X.w X.K X.mg X.base CX k f fd ps sp)(hr:Room k X.A)(hb:Binds X.K fd ps ds)(hd:Vals cA ds)(hx:QR CX X E)(ha:PA X (e::es) t)(eV:starEach (e::es) X.env=(false,eval e X.env)::starEach es X.env:=by rfl)(bR:(backTo pos (starEach es X.env)).any (·.1)=false:=by rfl)(ht:eval (.Call (.Attribute o m aK) (e::es) [] pos) X.env=(do
   let ov <-eval o X.env
   standAt aK.atName;let(f,first) <-holding [ov] (getMethod ov m pl)
   callWith pos f first (backTo pos (starEach (e::es) X.env)) (backToKw pos (keywordEach [] X.env))):=by rfl):
  PE X (.Call (.Attribute o m aK) (e::es) [] pos) (XS C m sp cA E ta t):=by
 intro a3 s Z H Q I h;refine Rk (pl:=pl) (thn (he a3 s Z H _ I h) λu s1 ⟨x,H1,I1,rx,a,dx,fs,ex,ea,l,q⟩=>?_) ht;subst ex;obtain rfl:u=Value.ref a:=rx;refine xz I1 ea c hm l ?_;refine Rl (first:=[.ref a]) (h₀:=X.base) I.ok.mod.kin hm.kp (thn (ha pos a3 s1 Z H1 _ I1 q) λus s2 ⟨vs,H2,I2,r,q2⟩=>⟨I2.kIn,?_⟩) eV bR;exact Wi (us:=.ref a::us) (vs:=.ref a::vs) F hr hb hd hx I2 (.cons rfl r) q2
theorem q0S(he:PE X o ta)(c:Cls X.K C)(hm:Meth X.K C m f)(F:FnOk X.prog X.w X.K X.mg X.base CX k f fd ps sp)(hr:Room k X.A)(hb:Binds X.K fd ps ds)(hd:Vals cA ds)(hx:QR CX X E)(ht:eval (.Call (.Attribute o m aK) [] [] pos) X.env=(do
   let ov <-eval o X.env
   standAt aK.atName;let(f,first) <-holding [ov] (getMethod ov m pl)
   callWith pos f first (backTo pos (starEach [] X.env)) (backToKw pos (keywordEach [] X.env))):=by rfl):
  PE X (.Call (.Attribute o m aK) [] [] pos) (XS C m sp cA E ta tNil):=by
 intro a3 s Z H Q I h;refine Rk (pl:=pl) (thn (he a3 s Z H _ I h) λu s1 ⟨x,H1,I1,rx,a,dx,fs,ex,ea,l,q⟩=>?_) ht;subst ex;obtain rfl:u=Value.ref a:=rx;refine xz I1 ea c hm l ?_;exact W.callWith_K0 (first:=[.ref a]) I1.kIn hm.kp (Wi (us:=[.ref a]) (vs:=[.ref a]) F hr hb hd hx I1 (.cons rfl .nil) q)
structure Mk(Ξ:PySem.W.Frag)(C f:Addr):Prop where
 makes:W.makesIn Ξ C=true
 init:W.findIn Ξ (.ref C) "__init__" = some (some (.ref f))
 fn:W.isFn Ξ (.ref f)=true
 kp:W.keepIn Ξ (.ref C)=true
theorem q0X(M:Mk X.K C f)(F:FnOk X.prog X.w X.K X.mg X.base CX k f fd ps sp)(hr:Room (k+1) X.A)(hb:Binds X.K fd ps ds)(hd:Vals cA ds)(hx:QR CX X E)(I:Inv X a3 Z H s)(r:Vals vs us)(h:∀x dx,H x=none->H dx=none->dx≠x->sp (.ref x::(vs++cA)) (upd (upd H dx (.own x)) x (.ins C dx [])) (λv H2=>v=.non/\Q (.ref x) H2) E):
  wpAny (model X.prog X.w) X.A (call (.ref C) us) (EP X a3 Z Q) X.xe s:=by
 have hq:=h (s.heap.objs.size+1) s.heap.objs.size (I.hok.fresh (Bv _)) (I.hok.fresh (Dh _)) (Dy (Nat.lt_succ_self _));have I2:=Inv.made (C:=C) I;have r2:Vals (V.ref (s.heap.objs.size+1)::(vs++cA)) (Value.ref (s.heap.objs.size+1)::(us++ds)):=.cons rfl (r.append hd);have hl:(Value.ref (s.heap.objs.size+1)::us++ds).length=ps.length:=by
  have e:=r2.length;rw[F.len _ _ _ _ hq]at e;exact e.symm
 refine UV (q0R (f:=f) I.kIn M.makes M.init (beq_iff_eq.mp M.fn) (Uz (F.run _ X.stack _ _ ⟨Value.ref (s.heap.objs.size+1)::us, []⟩ (Value.ref (s.heap.objs.size+1)::(us++ds)) _ _ E (hr.make C us [])
  (I2.env0.make C us []) (hb _ (Value.ref (s.heap.objs.size+1)::us) I2.kIn hl) r2 hq) λr s' dU=>?_))
 cases r with
 |error e=>exact hx a3 Z _ _ e s' I2 dU
 |ok fl=>
  cases fl with
  |ret u=>
   obtain⟨v,H',I3,rv,ev,q3⟩:=I2.after dU;subst ev;exact⟨rv,⟨V.ref (s.heap.objs.size+1),H',I3,rfl,q3⟩⟩
  |next=>exact False.elim dU
  |brk=>exact False.elim dU
  |cont=>exact False.elim dU
theorem q4o(M:Mk X.K C f)(F:FnOk X.prog X.w X.K X.mg X.base CX k f fd ps sp)(hr:Room (k+1) X.A)(hg:Gl X x)(hm:X.mg x=some (.ref C))(hb:Binds X.K fd ps ds)(hd:Vals cA ds)(hx:QR CX X E)(ha:PA X (e::es) t)(cj:(x==("__debug__" : Str))=false:=by decide)(he:starEach (e::es) X.env=(false,eval e X.env)::starEach es X.env:=by rfl)(bR:(backTo pos (starEach es X.env)).any (·.1)=false:=by rfl):
  PE X (.Call (.Name x p) (e::es) [] pos) (q4R C sp cA E t):=by
 intro a3 s Z H Q I h;refine Uu (zh I hg hm ?_ cj);refine Rl (h₀:=X.base) I.ok.mod.kin M.kp (thn (ha pos a3 s Z H _ I h) λus s1 ⟨vs,H1,I1,r,q⟩=>⟨I1.kIn,?_⟩) he bR;exact q0X M F hr hb hd hx I1 r q
end
structure q00(N P:List Str)(sc:Scope):Prop where
 kind:sc.kind=.function
 co:sc.isCoroutine=false
 gen:sc.isGenerator=false
 nd:N.Nodup
 pre:N.take P.length=P
 par:∀x∈P,sc.names.lookup x=some .local\/sc.names.lookup x=some .cell
 nofree:∀y∈sc.names,y.2 ≠ .free
theorem XA{kindOf:Str->Option NameKind}:∀{binds:List (Str×Value)}{m:Str->Option Value},(∀v,(x,v)∉binds)->bindL kindOf binds m x=m x
 | [],_,_=>rfl
 | (n,v)::r,m,h=>by
  unfold bindL;rw[XA λw hw=>h w (DL _ hw)];split
  ·have:x≠n:=by rintro rfl;exact h v DH
   simp[this]
  ·rfl
theorem XC{kindOf:Str->Option NameKind}:∀{binds:List (Str×Value)}{m:Str->Option Value},(∀v,(x,v)∉binds)->bindC kindOf binds m x=m x
 | [],_,_=>rfl
 | (n,v)::r,m,h=>by
  unfold bindC;rw[XC λw hw=>h w (DL _ hw)];split
  ·rfl
  ·have:x≠n:=by rintro rfl;exact h v DH
   simp[this]
theorem XB{kindOf:Str->Option NameKind}:∀{P:List Str}{vs:List Value}{i:Nat}{m:Str->Option Value},P.Nodup->P[i]?=some x->vs[i]?=some v->kindOf x=some .local ->
  bindL kindOf (P.zip vs) m x=some v
 | [],_,_,_,_,h,_,_=>by simp at h
 |_::_, [],_,_,_,_,h,_=>by simp at h
 |p::P,w::vs,0,m,nd,h1,h2,hk=>by
  simp at h1 h2;subst h1;subst h2;show bindL kindOf ((p,w)::P.zip vs) m p=_;unfold bindL;rw[XA λv hv=>(D0.mp nd).1 (R8 hv).1,Uj hk];simp
 |p::P,w::vs,i+1,m,nd,h1,h2,hk=>by
  show bindL kindOf ((p,w)::P.zip vs) m x=_;unfold bindL;exact XB (i:=i) (D0.mp nd).2 (by simpa using h1) (by simpa using h2) hk
theorem XD{kindOf:Str->Option NameKind}:∀{P:List Str}{vs:List Value}{i:Nat}{m:Str->Option Value},P.Nodup->P[i]?=some x->vs[i]?=some v->kindOf x≠some .local ->
  bindC kindOf (P.zip vs) m x=some v
 | [],_,_,_,_,h,_,_=>by simp at h
 |_::_, [],_,_,_,_,h,_=>by simp at h
 |p::P,w::vs,0,m,nd,h1,h2,hk=>by
  simp at h1 h2;subst h1;subst h2;show bindC kindOf ((p,w)::P.zip vs) m p=_;unfold bindC;rw[XC λv hv=>(D0.mp nd).1 (R8 hv).1,Uh hk];simp
 |p::P,w::vs,i+1,m,nd,h1,h2,hk=>by
  show bindC kindOf ((p,w)::P.zip vs) m x=_;unfold bindC;exact XD (i:=i) (D0.mp nd).2 (by simpa using h1) (by simpa using h2) hk
def start(N:List Str)(vs:List V):St:=vs.map some++List.replicate (N.length-vs.length) none
def cxOf(CX:CXT)(P:Program)(w:World)(Ξ:PySem.W.Frag)(mg:Str->Option Value)(base:Heap)(N:List Str)(af:Str)(scope:Scope)(f:Addr)(cd:Value)(A:Around)(outer:List Env)(s:Shared)(H:Hp)(E:XK):Cx where
 prog:=P
 w:=w
 K:=Ξ
 mg:=mg
 base:=base
 A:=A.deeper (envOfC af scope s.heap.objs.size f cd)
 N:=N
 s₀:=s
 H₀:=H
 env:=envOfC af scope s.heap.objs.size f cd
 outer:=outer
 stack:=envOfC af scope s.heap.objs.size f cd::outer
 ex:=[]
 calm:=true
 fn:=λ_=>true
 pn:=[]
 xe:=λe s'=>wpAny (model P w) (A.deeper (envOfC af scope s.heap.objs.size f cd)) (leaving (envOfC af scope s.heap.objs.size f cd) e) (λ_ fF=>CX outer H s E e fF) (λe' fF=>CX outer H s E e' fF) s'
theorem KI{sc:Scope}(h:sc.names.lookup x=some .cell):∃c,(cellsFrom n sc.names []).lookup x=some c:=by
 have q:=RO sc.names n [] (.inl h);exact Option.isSome_iff_exists.mp q
theorem Xg(S:q00 N ps scope)(hd:A.handled=none)(e0:Env0 P w Ξ mg base A outer s H)(hl:vs.length=ps.length)(r:Vals vs us)(x:InCallC s s.heap.objs.size (bindL (envOfC af scope s.heap.objs.size f cd).kindOf (ps.zip us) λ_=>none) (cellsFrom (s.heap.objs.size+1) scope.names []) (bindC (envOfC af scope s.heap.objs.size f cd).kindOf (ps.zip us) λ_=>none) s1):
  Inv (cxOf CX P w Ξ mg base N af scope f cd A outer s H E) [] (start N vs) H s1:=by
 have bR:ps.length<=N.length:=by have:=Uo List.length S.pre;rw[DM]at this;lia
 obtain⟨h1,tk,rfl,hk⟩:=x.done;have gJ:∀b:Addr,b∉(cxOf CX P w Ξ mg base N af scope f cd A outer s H E).ex:=λb z=>absurd (show b∈([]:List Addr)from z) (by simp);refine⟨⟨e0.mod,S.kind,rfl,rfl,Dh _,λy z c h1 h2=>?_,λy hy=>?_,λy c _ h=>?_,λ_=>hd,Around.frames_deeper e0.frames,.inr ⟨rfl,rfl⟩,λb z=>absurd z (gJ b),e0.bs,e0.bsz,λb _ _=>gJ b,λb z=>absurd z (gJ b),e0.funs,e0.frf⟩,
  rfl,e0.bare,Un.kept hk,⟨_,x.toInCall.ns,λi y v h1 h2 h3=>?_⟩,λy c h=>⟨_,x.cell y c h⟩,e0.hok.fresh (Dh _),λy c h=>?_,λp hp=>absurd (show p∈([]:List (Addr×Obj))from hp) (by simp),e0.hok.kept hk,?_⟩
 ·exact name_of_addr x.apart (PySem.mem_of_lookup h1) (PySem.mem_of_lookup h2)
 ·have hy:scope.names.lookup y=some .cell\/scope.names.lookup y=some .free:=hy
  rcases hy with hy|hy
  ·exact KI hy
  ·exact absurd rfl (S.nofree _ (PySem.mem_of_lookup hy))
 ·exact DT (x.above y c (PySem.mem_of_lookup h))
 ·have hi:i<vs.length:=by
   unfold start at h2;by_cases hi:i<vs.length
   ·exact hi
   ·rw[Dk (by simpa using hi)]at h2
    rw[RJ]at h2;split at h2<;>cases h2
  have ha:vs[i]?=some v:=by
   unfold start at h2;rw[Df (by simpa using hi),Dv]at h2;cases e:vs[i]? with
   |none=>rw[e]at h2;cases h2
   |some a=>rw[e]at h2;cases h2;rfl
  obtain⟨u,hu,rv⟩:=r.get ha;have hp:ps[i]?=some y:=by
   rw[<-S.pre,Bn (by lia)];exact h1
  have mQ:ps.Nodup:=by rw[<-S.pre];exact S.nd.sublist (List.take_sublist _ _)
  refine⟨u,rv,?_⟩;rcases S.par y (De hp)with k|k
  ·exact .inl ⟨k,XB mQ hp hu k⟩
  ·obtain⟨c,e⟩:=KI (n:=s.heap.objs.size+1) k
   refine .inr ⟨.inl k,c,e,?_⟩;have q:=x.cell y c e;rw[XD mQ hp hu (by show scope.names.lookup y≠_;rw[k];decide)]at q;exact q
 ·exact e0.hok.fresh (DT (x.above y c (PySem.mem_of_lookup h)))
 ·unfold start
  show _=N.length;rw[Dg,Dd,List.length_replicate];lia
theorem q6M{dV kV bZ pm a9 ct oc:Value}(lk:Ξ.lookup f=some ⟨oc,od,.func (W.fnOf name af params body scope dV kV bZ pm an a9 ct),eO⟩)(cO:W.codeIn Ξ a9 af=true)(S:q00 N ps scope)(len:∀vs H Q E,sp vs H Q E->vs.length=ps.length)(aA:∀(A:Around)(outer:List Env)(s:Shared)(H:Hp)(vs:List V)(Q:VK)(E:XK),Room k (A.deeper (envOfC af scope s.heap.objs.size f a9))->sp vs H Q E ->
   ∃t,PSs (cxOf CX P w Ξ mg base N af scope f a9 A outer s H E) body t/\t { nx:=λ_ H'=>Q .non H',rt:=Q } (start N vs) H):
  FnOk P w Ξ mg base CX (k+1) f (W.fnOf name af params body scope dV kV bZ pm an a9 ct) ps sp:=by
 refine⟨len,λA outer s H args us vs Q E hr e0 hb r cW=>?_⟩;have hl:=len _ _ _ _ cW;have KX:Ξ.In s.heap:=e0.mod.kin.keeps λb o e=>(e0.bs b o e).1;have lim:s.heap.NoLimit:=e0.mod.nolimit.keeps λb o e=>(e0.bs b o e).1;have dW:∀y∈ps.zip us,scope.names.lookup y.1=some .local\/(scope.names.lookup y.1=some .cell/\((cellsFrom (s.heap.objs.size+1) scope.names []).lookup y.1).isSome=true):=λ⟨n,v⟩ hy=>by
  rcases S.par n (R8 hy).1 with q|q
  ·exact .inl q
  ·exact .inr ⟨q,RO _ _ _ (.inl q)⟩
 refine codeAny_call_function hr.depth (KX _ _ lk) rfl S.co S.gen rfl (qbf KX cO) (hb _ _ _ _ ?_);refine UY S.kind dW λenv he s1 x=>?_;subst he;refine⟨lim.keeps x.toInCall.keep,codeAny_func ?_⟩;obtain⟨t,ht,hq⟩:=aA A outer s H vs Q E (hr.deeper _) cW;have I:Inv (cxOf CX P w Ξ mg base N af scope f a9 A outer s H E) [] (start N vs) H s1:=Xg S hr.hd e0 hl r x;refine Uk (ht [] s1 (start N vs) H _ I hq) (λfl s' hs=>?_) λe s' hs=>hs;have fin:∀{aj:St}{H':Hp}{v:V}{u:Value},Inv (cxOf CX P w Ξ mg base N af scope f a9 A outer s H E) [] aj H' s'->RelV v u->Q v H'->CE outer P w H s Q u s' :=
  λ{aj H' v u} J rv q=>⟨v,H',J.os,J.bare,J.base,J.hok,rv,q⟩
 cases fl with
 |ret u=>
  obtain⟨v,aj,H',J,rv,q⟩:=hs;exact fin J rv q
 |next=>
  obtain⟨aj,H',J,q⟩:=hs;exact fin (v:=V.non) (u:=Value.none) J rfl q
 |brk=>
  obtain⟨_,_,_,q⟩:=hs;exact False.elim q
 |cont=>
  obtain⟨_,_,_,q⟩:=hs;exact False.elim q
section
variable {X:Cx}{x:Str}{p pos:Pos}{e:Expr}{es:List Expr}{t:TA}{id T:String}{r:List V->Hp->VK->Prop}
def tCB(r:List V->Hp->VK->Prop)(t:TA):TE:=λZ H Q=>t Z H λvs H1=>r vs H1 Q
end
end L2
namespace HT
open PySem PyProof.Rows
section
variable {prog:Program}{w:World}{A:Around}{E:Value->Shared->Prop}{s:Shared}
theorem cat_tup(ht:IsTup s.heap t vs.toArray)(hb:IsTup s.heap b ws.toArray)(hv:vs≠[])(h1:ws=[]->Q (.ref t) s)(h2:ws≠[]->Q (.ref s.heap.objs.size) { s with heap:=s.heap.push { cls:=.type "tuple", data:=.seq (vs++ws).toArray } })(hsz:vs.length+ws.length<=sizeLine):wpAny (model prog w) A (binaryOp .Add (.ref t) (.ref b)) Q E s:=by
 obtain⟨⟨cls,dd,data,sl⟩,ho,hc,n,hd⟩:=id ht;obtain⟨⟨l7,iF,data2,eP⟩,fG,gK,n2,eW⟩:=id hb;simp only at hc hd gK eW;subst hc hd gK eW;have e:vs.toArray++ws.toArray=(vs++ws).toArray:=by simp
 by_cases hw:ws=[]
 ·exact concat_meets ⟨_,ho,rfl⟩ ⟨_,fG,rfl⟩ U2 seq_tuple_add PySem.F.slot_tuple_add PySem.F.entry_tuple_add (PySem.F.args_tuple_add_2 _ _)
   (tuple_addW1 t b vs.toArray ws.toArray n n2 dd iF sl eP (by simpa using hv) (by simp[hw])) ⟨ho,fG,h1 hw⟩
 ·refine concat_meets ⟨_,ho,rfl⟩ ⟨_,fG,rfl⟩ U2 seq_tuple_add PySem.F.slot_tuple_add PySem.F.entry_tuple_add (PySem.F.args_tuple_add_2 _ _)
   (tuple_addW2 t b vs.toArray ws.toArray n n2 dd iF sl eP (by simpa using hv) (by simpa using hw) (by rw[Di,Di];exact hsz)) ⟨ho,fG,?_⟩
  rw[e];exact h2 hw
def sIx(n d:Nat):Option Int->Nat
 |none=>d
 |some v=>if v<0 then(v+(n:Int)).toNat else min v.toNat n
theorem sIx_nat(n d k:Nat):sIx n d (some (k:Int))=min k n:=by
 show(if(k:Int)<0 then((k:Int)+(n:Int)).toNat else min (k:Int).toNat n)=min k n;rw[Uh (by lia),RS]
theorem q7c(n d:Nat)(hd:d<=n)(o:Option Int):sIx n d o<=n:=by
 cases o with
 |none=>exact hd
 |some v=>
  show(if v<0 then(v+(n:Int)).toNat else min v.toNat n)<=n;by_cases hv:v<0
  ·rw[Uj hv];lia
  ·rw[Uh hv];exact Nat.min_le_right _ _
theorem qaD(v:Int)(n d:Nat):(if v<0 then max (v+(n:Int)) 0 else min v (n:Int))=((sIx n d (some v):Nat):Int):=by
 show(if v<0 then max (v+(n:Int)) 0 else min v (n:Int))=(((if v<0 then(v+(n:Int)).toNat else min v.toNat n):Nat):Int);by_cases hv:v<0
 ·simp only[Uj hv];lia
 ·simp only[Uh hv];lia
theorem Yv(lo hi:Option Int)(n:Nat):Builtin.Slice.sliceAdjust lo hi 1 (n:Int)=(((sIx n 0 lo:Nat):Int),((sIx n n hi:Nat):Int)):=by
 have h1:¬((1:Int)<0):=by lia
 unfold Builtin.Slice.sliceAdjust;simp only[h1,UP];refine Prod.ext ?_ ?_
 ·cases lo with
  |none=>rfl
  |some v=>exact qaD v n 0
 ·cases hi with
  |none=>rfl
  |some v=>exact qaD v n n
theorem K1(i j:Nat):Builtin.Slice.slicePlaces (i:Int) (j:Int) 1=j-i:=by
 unfold Builtin.Slice.slicePlaces;have h1:(1:Int)>0:=by lia
 simp only[h1,U1,Int.ediv_one];split<;>lia
theorem Va(p:IsPart v o)(h:Q o s):wpAny (model prog w) A (Builtin.Slice.slicePartIndex v) Q E s:=by
 cases p with
 |none=>exact slicePart_none h
 |int i t=>exact slicePart_int h
theorem zQ{sl:Addr}{vl vu:Value}{lo hi:Option Int}{n:Nat}(hs:s.heap.IsSliceOf sl vl vu .none)(pl:IsPart vl lo)(pu:IsPart vu hi)(h:Q (((sIx n 0 lo:Nat):Int),1,sIx n n hi-sIx n 0 lo) s):wpAny (model prog w) A (Builtin.Slice.sliceApplied (.ref sl) (pure (n:Int))) Q E s:=by
 obtain⟨os,fH,gL,hds⟩:=id hs;unfold Builtin.Slice.sliceApplied Builtin.Slice.sliceFields;refine Ug (Ug (UJ fH hds (x:=vl) rfl (Ug (UJ fH hds (x:=vu) rfl (Ug (UJ fH hds (x:=.none) rfl (Ui ?_)))))));refine Ug (slicePart_none ?_);show wpAny _ _ (if((1:Int)==0)=true then _ else _) _ _ s;rw[Uh (by decide)];refine Ug (Va pl (Ug (Va pu (Ug (Ui ?_)))));show wpAny _ _ (match Builtin.Slice.sliceAdjust lo hi 1 (n:Int) with|(lo,hi)=>pure (lo,(1:Int),Builtin.Slice.slicePlaces lo hi 1)) _ _ s;rw[Yv lo hi n];show wpAny _ _ (pure (((sIx n 0 lo:Nat):Int),(1:Int),Builtin.Slice.slicePlaces ((sIx n 0 lo:Nat):Int) ((sIx n n hi:Nat):Int) 1)) _ _ s;rw[K1];exact Ui h
theorem q1d(xs:Array Value)(i k:Nat):((List.range k).filterMap λ(m:Nat)=>xs[((i:Int)+(m:Int)*1).toNat]?).toArray=((xs.toList.drop i).take k).toArray:=by
 have e:(λ(m:Nat)=>xs[((i:Int)+(m:Int)*1).toNat]?)=λm=>xs[i+m]?:=by
  funext m;have:((i:Int)+(m:Int)*1).toNat=i+m:=by lia
  rw[this]
 rw[e];have:=pick_run xs i k;rw[List.filterMap_map]at this;have e2:((λx=>xs[x]?) ∘ λx=>i+x)=λm=>xs[i+m]?:=rfl;rw[e2]at this;rw[this]
theorem getItem_tuple_cut{lo hi:Option Int}(ht:IsTup s.heap t items)(hs:s.heap.IsSliceOf sl vl vu .none)(pl:IsPart vl lo)(pu:IsPart vu hi)(hw:¬(sIx items.size 0 lo=0/\sIx items.size items.size hi=items.size))(h:Q (.ref s.heap.objs.size) { s with heap:=s.heap.push { cls:=.type "tuple", data:=.seq ((items.toList.drop (sIx items.size 0 lo)).take (sIx items.size items.size hi-sIx items.size 0 lo)).toArray } })(hsz:items.size<=sizeLine):wpAny (model prog w) A (getItem (.ref t) (.ref sl)) Q E s:=by
 have dA:sizeOk (.seq ((items.toList.drop (sIx items.size 0 lo)).take (sIx items.size items.size hi-sIx items.size 0 lo)).toArray):=by
  show((items.toList.drop (sIx items.size 0 lo)).take (sIx items.size items.size hi-sIx items.size 0 lo)).toArray.size<=sizeLine;rw[Di,DM,Ri,R6];lia
 have hj:sIx items.size items.size hi<=items.size:=q7c _ _ (Dh _) hi;obtain⟨os,fH,gL,hds⟩:=id hs;have l9:s.TypeIs (.ref sl) "slice" := ⟨os,fH,gL⟩;unfold getItem
 try with_reducible refine Uq ?_
 first|refine Ug (Ui ?_)|skip
 refine Ug (wpAny_sequenceKey ht.typeIs (by decide) ?_);refine Ug (wpAny_callSpecial?_slot (name:=Str.ofString "__getitem__") ht.typeIs PyProof.Rows.slot_tuple_getitem
  (UQ PyProof.Rows.slot_tuple_getitem ht.typeIs entry_tuple_getitem ?_ (args_tuple_getitem _ _)))
 show wpAny _ _ (Builtin.Tuple.tupleItemsOf (.ref t) >>= _) _ _ s;refine Ug (tupleItemsOf_ ht ?_);refine Ug (U5 l9 ?_);rw[Uj (by decide)];refine Ug (zQ hs pl pu ?_);have cY:¬((((sIx items.size 0 lo:Nat):Int)==0&&(1:Int)==1&&(sIx items.size items.size hi-sIx items.size 0 lo)==items.size)=true):=by
  intro q;rw[D9,D9]at q;have q1:((sIx items.size 0 lo:Nat):Int)=0:=eq_of_beq q.1.1;have q2:sIx items.size items.size hi-sIx items.size 0 lo=items.size:=eq_of_beq q.2;exact hw ⟨by lia,by lia⟩
 show wpAny _ _ (if(((sIx items.size 0 lo:Nat):Int)==0&&(1:Int)==1&&(sIx items.size items.size hi-sIx items.size 0 lo)==items.size)=true then _ else _) _ _ s;rw[Uh cY,q1d]
 first
  |exact Ug (m:=Builtin.Tuple.tupleExact _) (Ut (Ui ⟨_,rfl,Ui h⟩) dA)
  |exact Ug (m:=Builtin.Tuple.tupleExact _) (Ut (Ug (Ui (Ui ⟨_,rfl,Ui h⟩))) dA)
  |exact Ug (Ug (m:=Builtin.Tuple.tupleExact _) (Ut (Ui (Ui ⟨_,rfl,Ui h⟩)) dA))
  |exact Ug (Ug (m:=Builtin.Tuple.tupleExact _) (Ut (Ui ⟨_,rfl,Ui h⟩) dA))
end
end HT
namespace L2
open PySem PySem.Spec PyProof.Rows
abbrev TO:=St->Hp->(Option Int->Hp->Prop)->Prop
def PO(X:Cx)(e:Option Expr)(t:TO):Prop :=
 ∀(a3:List (Addr×Obj))(s:Shared)(Z:St)(H:Hp)(Q:Option Int->Hp->Prop),Inv X a3 Z H s->t Z H Q ->
  wpAny (model X.prog X.w) X.A (evalPart e X.env) (λu s'=>∃o H',Inv X a3 Z H' s'/\IsPart u o/\Q o H') X.xe s
def zZ:TO:=λ_ H Q=>Q none H
def Zy(t:TE):TO:=λZ H Q=>t Z H λx H1=>∃i,x=.int i/\Q (some i) H1
theorem Yl:∀{us:List Value},Vals (ns.map V.int) us->IntsAre us ns:=by
 induction ns with
 |nil=>intro us r;rw[Rx]at r;cases r;exact .nil
 |cons n ns ih=>
  intro us r;rw[Dx]at r;cases r with
  |cons r1 r2=>
   obtain⟨t,e⟩:=r1;subst e;exact .cons n t (ih r2)
theorem q5l:PO X none zZ:=by
 intro a3 s Z H Q I h;rw[evalPart_none];exact Ui ⟨none,H,I,.none,h⟩
def SlR(X:Cx)(r:V->Option Int->Option Int->Hp->VK->Prop):Prop :=
 ∀(a3:List (Addr×Obj))(s:Shared)(Z:St)(H:Hp)(x:V)(v vl vu:Value)(lo hi:Option Int)(sl:Addr)(Q:VK),Inv X a3 Z H s->RelV x v->s.heap.IsSliceOf sl vl vu .none->IsPart vl lo->IsPart vu hi->r x lo hi H Q ->
  ∃T id,typeLookup (.type T) "__getitem__" = pure (some (.builtin id))/\s.TypeIs v T/\wpAny (model X.prog X.w) X.A (getItem v (.ref sl)) (EP X a3 Z Q) X.xe s
def tSl(r:V->Option Int->Option Int->Hp->VK->Prop)(te:TE)(tl th:TO):TE:=λZ H Q=>te Z H λx H1=>tl Z H1 λl H2=>th Z H2 λu H3=>r x l u H3 Q
def cutV(xs:List V)(lo hi:Option Int):List V:=(xs.drop (HT.sIx xs.length 0 lo)).take (HT.sIx xs.length xs.length hi-HT.sIx xs.length 0 lo)
theorem QK(xs:List V)(lo hi:Option Int):(cutV xs lo hi).length<=xs.length:=by
 unfold cutV;rw[DM,Ri];lia
def rSlT(Ξ:PySem.W.Frag):V->Option Int->Option Int->Hp->VK->Prop:=λx lo hi H Q=>∃a xs,x=.ref a/\SqT Ξ H a xs /\
 ¬(HT.sIx xs.length 0 lo=0/\HT.sIx xs.length xs.length hi=xs.length)/\∀p,H p=none->Q (.ref p) (upd H p (.tup (cutV xs lo hi)))
theorem q3g:SlR X (rSlT X.K):=by
 intro a3 s Z H x v vl vu lo hi sl Q I rx hs pl pu h;obtain⟨a,xs,rfl,hx,hw,q⟩:=h;cases rx;obtain⟨its,r,ht,hz⟩:=I.tuple hx;have ay:its.toArray.size=xs.length:=by rw[Di];exact r.length.symm
 refine⟨"tuple", _,PyProof.Rows.slot_tuple_getitem.lookup,ht.typeIs,?_⟩;refine HT.getItem_tuple_cut ht hs pl pu (by rw[ay];exact hw) ?_ (by rw[ay];exact hz);rw[ay];refine⟨.ref s.heap.objs.size,_,I.laid (t':=s.toks) (o:=.tup (cutV xs lo hi)) (λb ob q=>Heap.get?_push_of_some _ q) (Dh _) ?_,rfl,q _ (I.hok.fresh (Dh _))⟩;exact⟨DB (QK xs lo hi) hz,_,(r.drop (HT.sIx xs.length 0 lo)).take (HT.sIx xs.length xs.length hi-HT.sIx xs.length 0 lo),IsTup.new _ _⟩
theorem Vals.nil_iff(r:Vals xs us):us=[]↔xs=[]:=by
 cases r with
 |nil=>simp
 |cons _ _=>simp
def ixN(n:Nat)(i:Int):Option Nat:=if 0<=i then(if i<n then some i.toNat else none) else if -(n:Int)<=i then some (i+n).toNat else none
def atI{α:Type}(xs:List α)(i:Int):Option α:=(ixN xs.length i).bind λj=>xs[j]?
theorem GM(h:ixN n i=some j):seqIndex? i n=some j/\j<n /\ -(n:Int)<=i/\i<n:=by
 unfold ixN at h;by_cases h0:0<=i
 ·rw[Uj h0]at h
  by_cases h1:i<n
  ·rw[Uj h1]at h
   have e:i.toNat=j:=Option.some.inj h;exact⟨by rw[seqIndex_of h0 h1,e],by lia,by lia,h1⟩
  ·rw[Uh h1]at h;cases h
 ·rw[Uh h0]at h
  by_cases h1 : -(n:Int)<=i
  ·rw[Uj h1]at h
   have e:(i+n).toNat=j:=Option.some.inj h;exact⟨by rw[seqIndex_neg (by lia) h1,e],by lia,h1,by lia⟩
  ·rw[Uh h1]at h;cases h
theorem qa0{α:Type}{xs:List α}{i:Int}{v:α}(h:atI xs i=some v):∃j,seqIndex? i xs.length=some j/\xs[j]?=some v/\j<xs.length /\ -(xs.length:Int)<=i/\i<xs.length:=by
 unfold atI at h;cases e:ixN xs.length i with
 |none=>rw[e]at h;cases h
 |some j=>
  rw[e]at h;obtain⟨h1,h2,h3,h4⟩:=GM e;exact⟨j,h1,h,h2,h3,h4⟩
theorem vK{α:Type}{xs:List α}{j:Nat}{v:α}(h:xs[j]?=some v):atI xs (j:Int)=some v:=by
 have hj:j<xs.length:=(Db.mp h).1;have e:ixN xs.length (j:Int)=some j:=by
  unfold ixN;rw[Uj (by lia),Uj (by lia)];simp
 unfold atI;rw[e];exact h
def JO(b:Expr):Prop:=∀o i,subscripted b false o i=operate [o,i] (getItem o i)
def IxR(X:Cx)(r:R2):Prop :=
 ∀(value bS:Expr)(a3:List (Addr×Obj))(s:Shared)(Z:St)(H:Hp)(x y:V)(v u:Value)(Q:VK),Inv X a3 Z H s->RelV x v->RelV y u->r x y H Q ->
  subscripted bS false v u=operate [v,u] (getItem v u)->wpAny (model X.prog X.w) X.A (subscriptTail value bS v u) (EP X a3 Z Q) X.xe s
def MtR(X:Cx)(id:String)(r:V->List V->Hp->VK->Prop):Prop :=
 ∀(a3:List (Addr×Obj))(s:Shared)(Z:St)(H:Hp)(x:V)(xs:List V)(v:Value)(us:List Value)(Q:VK),Inv X a3 Z H s->RelV x v->Vals xs us->r x xs H Q ->
  wpAny (model X.prog X.w) X.A (call (.builtin id) (v::us)) (EP X a3 Z Q) X.xe s
section
def rIxL(Ξ:PySem.W.Frag):R2:=λx y H Q=>∃p xs i v,x=.ref p/\y=.int i/\SqL Ξ H p xs/\atI xs i=some v/\Q v H
def rIxT(Ξ:PySem.W.Frag):R2:=λx y H Q=>∃p xs i v,x=.ref p/\y=.int i/\SqT Ξ H p xs/\atI xs i=some v/\Q v H
theorem q5b:IxR X (rIxL X.K):=by
 intro value bS a3 s Z H x y v u Q I rx ry h hs;obtain⟨p,xs,i,z,rfl,rfl,hq,he,q⟩:=h;cases rx;obtain⟨t,rfl⟩:=ry;obtain⟨its,r,pl,hz⟩:=I.list hq;obtain⟨j,h1,h2,h3,h4,h5⟩:=qa0 he;obtain⟨w,ew,dG⟩:=r.get h2;have hl:=r.length;have hn:=Z9;have fin:EP X a3 Z Q w s:=⟨z,H,I,dG,q⟩;by_cases h0:0<=i
 ·have hj:i.toNat=j:=by
   rw[seqIndex_of h0 h5]at h1;exact Option.some.inj h1
  exact item_listR pl.isList h0 (by lia) (by rw[hj];simpa using ew) fin hs
 ·have hj:(i+(its.toArray.size:Int)).toNat=j:=by
   rw[seqIndex_neg (by lia) h4]at h1;rw[Di, <-hl];exact Option.some.inj h1
  exact subscriptTail_builtinR (x:=w) pl.isList.typeIs slot_list_getitem.lookup
   (wpAny_getItem_list_neg (Q:=λr s'=>r=w/\EP X a3 Z Q r s') pl.isList (by lia) (by rw[Di]<;>lia) (by lia) (by rw[hj];simpa using ew) ⟨rfl,fin⟩) hs
theorem q6u:IxR X (rIxT X.K):=by
 intro value bS a3 s Z H x y v u Q I rx ry h hs;obtain⟨p,xs,i,z,rfl,rfl,hq,he,q⟩:=h;cases rx;obtain⟨t,rfl⟩:=ry;obtain⟨its,r,pl,hz⟩:=I.tuple hq;obtain⟨j,h1,h2,h3,h4,h5⟩:=qa0 he;obtain⟨w,ew,dG⟩:=r.get h2;have hl:=r.length;have hn:=Z9;have fin:EP X a3 Z Q w s:=⟨z,H,I,dG,q⟩;exact subscriptTail_builtinR (x:=w) pl.typeIs slot_tuple_getitem.lookup
  (getItem_tuple (j:=j) (Q:=λr s'=>r=w/\EP X a3 Z Q r s') pl (by lia) (by lia) (by rw[Di, <-hl];exact h1) (by simpa using ew) ⟨rfl,fin⟩) hs
theorem Yg(its:List Value)(n j:Nat)(u:Value):Obj.mapSeq (·.setIfInBounds j u) { cls:=.type "list", data:=.seq its.toArray n }={ cls:=.type "list", data:=.seq (its.set j u).toArray n }:=by
 simp[Obj.mapSeq]
theorem Inv.lst(I:Inv X a3 Z H s)(h:H p=some (.lst xs)):
  ∃(its:List Value)(n:Nat),Vals xs its/\s.heap.get? p=some { cls:=.type "list", data:=.seq its.toArray n }/\xs.length<=sizeLine:=by
 obtain⟨z,its,n,r,e⟩:=I.hok p _ h;exact⟨its,n,r,e,z⟩
theorem Inv.lstUpd{its its':List Value}(I:Inv X a3 Z H s)(h:H p=some (.lst xs))(ho:s.heap.get? p=some { cls:=.type "list", data:=.seq its.toArray n })(hf:f { cls:=.type "list", data:=.seq its.toArray n }={ cls:=.type "list", data:=.seq its'.toArray n' })(r:Vals ys its')(hz:ys.length<=sizeLine)(t:Nat):
  Inv X a3 Z (upd H p (.lst ys)) { s with heap:=s.heap.update p f,toks:=t }:=by
 have e:(s.heap.update p f).get? p=some { cls:=.type "list", data:=.seq its'.toArray n' }:=by
  rw[Heap.get?_update_self f ho (by rw[hf]<;>rfl),hf]
 refine I.write (x:=p) (e:=p) (by rw[h];trivial) (.inl rfl) (λb u hb q=>(Heap.get?_update_other _ _ (Ne.symm hb)).trans q) ⟨_,e⟩ ?_;exact⟨hz,its',n',r,e⟩
def Wr:V->V->V->Hp->(Hp->Prop)->Prop:=λo i v H Q=>∃p xs k j,o=.ref p/\i=.int k/\H p=some (.lst xs)/\ixN xs.length k=some j/\Q (upd H p (.lst (xs.set j v)))
theorem vh:PSet X Wr:=by
 intro a3 s Z H o i v ov iv u Q I ro ri rv h;obtain⟨p,xs,k,j,rfl,rfl,hp,hj,q⟩:=h;cases ro;obtain⟨t,rfl⟩:=ri;obtain⟨its,n,r,ho,hz⟩:=I.lst hp;obtain⟨h1,h2,h3,h4⟩:=GM hj;have hl:=r.length;have hn:=Z9;have I':Inv X a3 Z (upd H p (.lst (xs.set j v))) { s with heap:=s.heap.update p (Obj.mapSeq (·.setIfInBounds j u)) } :=
  I.lstUpd hp ho (Yg its n j u) (r.set rv j) (by rw[Dm];exact hz) s.toks
 by_cases h0:0<=k
 ·have hk:k.toNat=j:=by
   rw[seqIndex_of h0 h4]at h1;exact Option.some.inj h1
  exact W.ki_setAt ho h0 (by lia) (by rw[Di, <-hl];exact h4) (by rw[hk];exact⟨_,I',q⟩)
 ·have hk:(k+(its.toArray.size:Int)).toNat=j:=by
   rw[seqIndex_neg (by lia) h3]at h1;rw[Di, <-hl];exact Option.some.inj h1
  exact W.ki_setBack ho (by lia) (by rw[Di, <-hl];exact h3) (by lia) (by rw[hk];exact⟨_,I',q⟩)
theorem ZD(lo hi:Option Int)(n:Nat):(sliceBounds lo hi none n).1=((HT.sIx n 0 lo:Nat):Int)/\(sliceBounds lo hi none n).2.1=((HT.sIx n n hi:Nat):Int)/\(sliceBounds lo hi none n).2.2=1:=by
 refine⟨?_,?_,rfl⟩
 ·cases lo with
  |none=>simp[sliceBounds,HT.sIx]
  |some i=>
   simp only[sliceBounds,HT.sIx,Option.getD_none,show(1:Int)>0 by decide,U1];by_cases h:i<0
   ·simp only[h,U1]<;>lia
   ·simp only[h,UP]<;>lia
 ·cases hi with
  |none=>simp[sliceBounds,HT.sIx]
  |some i=>
   simp only[sliceBounds,HT.sIx,Option.getD_none,show(1:Int)>0 by decide,U1];by_cases h:i<0
   ·simp only[h,U1]<;>lia
   ·simp only[h,UP]<;>lia
theorem Vx(its:List Value)(lo hi:Option Int):slicePick its.toArray lo hi none=((its.drop (HT.sIx its.length 0 lo)).take (HT.sIx its.length its.length hi-HT.sIx its.length 0 lo)).toArray:=by
 obtain⟨h1,h2,h3⟩:=ZD lo hi its.toArray.size;unfold slicePick;rw[h1,h2,h3];simp only[sliceRange_one,pick_run,Di]<;>rfl
def rSlL(Ξ:PySem.W.Frag):V->Option Int->Option Int->Hp->VK->Prop:=λx lo hi H Q=>∃a xs,x=.ref a/\SqL Ξ H a xs/\∀p,H p=none->Q (.ref p) (upd H p (.lst (cutV xs lo hi)))
theorem q48:SlR X (rSlL X.K):=by
 intro a3 s Z H x v vl vu lo hi sl Q I rx hs pl pu h;obtain⟨a,xs,rfl,hx,q⟩:=h;cases rx;obtain⟨its,r,ht,hz⟩:=I.list hx;have ay:=r.length;refine⟨"list", _,slot_list_getitem.lookup,ht.isList.typeIs,?_⟩;refine wpAny_getItem_list_slice ht.isList hs pl pu .none (by simp) ?_ (by rw[Di]<;>lia);rw[Vx, <-ay];refine⟨.ref s.heap.objs.size,_,I.laid (t':=s.toks) (o:=.lst (cutV xs lo hi)) (λb ob q=>Heap.get?_push_of_some _ q) (Dh _) ?_,rfl,q _ (I.hok.fresh (Dh _))⟩;exact⟨DB (QK xs lo hi) hz,_,0,(r.drop (HT.sIx xs.length 0 lo)).take (HT.sIx xs.length xs.length hi-HT.sIx xs.length 0 lo),Heap.get?_push_size _ rfl⟩
def kg:V->Bool
 |.non=>true
 |.bl _=>true
 |.int _=>true
 |.str _=>true
 |_=>false
def eqV:V->V->Bool
 |.non,.non=>true
 |.bl a,.bl b=>a==b
 |.bl a,.int b=>(if a then 1 else 0)==b
 |.int a,.bl b=>a==(if b then 1 else 0)
 |.int a,.int b=>a==b
 |.str a,.str b=>a==b
 |_,_=>false
theorem Xp(ry:RelV y u)(rx:RelV x v)(fy:kg y=true)(fx:kg x=true):SeqAt.EqAt A s u v (eqV y x):=by
 cases y with
 |non=>
  cases ry;cases x with
  |non=>cases rx;exact SeqAt.EqAt.same _
  |bl b=>cases rx;exact SeqAt.EqAt.none_bool b
  |int b=>obtain⟨t,rfl⟩:=rx;exact SeqAt.EqAt.none_int b t
  |str b=>obtain⟨t,rfl⟩:=rx;exact SeqAt.EqAt.none_str b t
  |_=>exact absurd (show false=true from fx) Dn
 |bl a=>
  cases ry;cases x with
  |non=>cases rx;exact SeqAt.EqAt.bool_none a
  |bl b=>cases rx;exact SeqAt.EqAt.bool_bool a b
  |int b=>obtain⟨t,rfl⟩:=rx;exact SeqAt.EqAt.bool_int a b t
  |str b=>obtain⟨t,rfl⟩:=rx;exact SeqAt.EqAt.bool_str a b t
  |_=>exact absurd (show false=true from fx) Dn
 |int a=>
  obtain⟨t',rfl⟩:=ry;cases x with
  |non=>cases rx;exact SeqAt.EqAt.int_none a t'
  |bl b=>cases rx;exact SeqAt.EqAt.int_bool a t' b
  |int b=>obtain⟨t,rfl⟩:=rx;exact SeqAt.EqAt.int_int a t' b t
  |str b=>obtain⟨t,rfl⟩:=rx;exact SeqAt.EqAt.int_str a t' b t
  |_=>exact absurd (show false=true from fx) Dn
 |str a=>
  obtain⟨t',rfl⟩:=ry;cases x with
  |non=>cases rx;exact SeqAt.EqAt.str_none a t'
  |bl b=>cases rx;exact SeqAt.EqAt.str_bool a t' b
  |int b=>obtain⟨t,rfl⟩:=rx;exact SeqAt.EqAt.str_int a t' b t
  |str b=>obtain⟨t,rfl⟩:=rx;exact SeqAt.EqAt.str_str a t' b t
  |_=>exact absurd (show false=true from fx) Dn
 |_=>exact absurd (show false=true from fy) Dn
def eqU(x:V)(u:Value):Bool:=match u with
 |.none=>eqV .non x
 |.bool b=>eqV (.bl b) x
 |.int i _=>eqV (.int i) x
 |.str z _=>eqV (.str z) x
 |_=>false
theorem q2U(r:RelV y u)(f:kg y=true):eqU x u=eqV y x:=by
 cases y with
 |non=>cases r;rfl
 |bl b=>cases r;rfl
 |int i=>obtain⟨t,rfl⟩:=r;rfl
 |str z=>obtain⟨t,rfl⟩:=r;rfl
 |_=>exact absurd (show false=true from f) Dn
theorem QQ:∀{xs:List V}{us:List Value},Vals xs us->xs.all kg=true->us.any (eqU x)=xs.any λy=>eqV y x
 |_,_,.nil,_=>rfl
 |y::xs,u::us,.cons r t,f=>by
  rw[Bw,D9]at f;rw[Rs,Rs,q2U r f.1,QQ t f.2]
theorem jm(rx:RelV x v)(fx:kg x=true):∀{xs:List V}{us:List Value},Vals xs us->xs.all kg=true->∀u∈us,SeqAt.EqAt A s u v (eqU x u)
 |_,_,.nil,_=>λu hu=>by cases hu
 |y::xs,u::us,.cons r t,f=>λu' hu=>by
  rw[Bw,D9]at f;rcases Dr.mp hu with rfl|hu
  ·rw[q2U r f.1];exact Xp r rx f.1 fx
  ·exact jm rx fx t f.2 u' hu
def inV(x:V)(xs:List V):Bool:=xs.any λy=>eqV y x
def rIn(Ξ:PySem.W.Frag)(neg:Bool):R2:=λx y H Q=>∃p xs,y=.ref p/\(SqL Ξ H p xs\/SqT Ξ H p xs)/\kg x=true/\xs.all kg=true/\Q (.bl (if neg then !inV x xs else inV x xs)) H
theorem WX:OpR X (compareOp .In) (rIn X.K false):=by
 intro a3 s Z H x y v u Q I rx ry h;obtain⟨p,xs,rfl,hq,fx,fs,q⟩:=h;cases ry;rcases hq with hq|hq
 ·obtain⟨its,r,pl,hz⟩:=I.list hq
  refine SeqAt.in_listAt (eqU x) pl.isList (λw hw=>jm rx fx r fs w (by simpa using hw)) ⟨.bl _,H,I,rfl,?_⟩;rw[show its.toArray.any (eqU x)=its.any (eqU x) by simp,QQ r fs];exact q
 ·obtain⟨its,r,pl,hz⟩:=I.tuple hq
  refine SeqAt.in_tupleAt (eqU x) pl (λw hw=>jm rx fx r fs w (by simpa using hw)) ⟨.bl _,H,I,rfl,?_⟩;rw[show its.toArray.any (eqU x)=its.any (eqU x) by simp,QQ r fs];exact q
theorem ZV:OpR X (compareOp .NotIn) (rIn X.K true):=by
 intro a3 s Z H x y v u Q I rx ry h;obtain⟨p,xs,rfl,hq,fx,fs,q⟩:=h;cases ry;rcases hq with hq|hq
 ·obtain⟨its,r,pl,hz⟩:=I.list hq
  refine SeqAt.notIn_listAt (eqU x) pl.isList (λw hw=>jm rx fx r fs w (by simpa using hw)) ⟨.bl _,H,I,rfl,?_⟩;rw[show its.toArray.any (eqU x)=its.any (eqU x) by simp,QQ r fs];exact q
 ·obtain⟨its,r,pl,hz⟩:=I.tuple hq
  refine SeqAt.notIn_tupleAt (eqU x) pl (λw hw=>jm rx fx r fs w (by simpa using hw)) ⟨.bl _,H,I,rfl,?_⟩;rw[show its.toArray.any (eqU x)=its.any (eqU x) by simp,QQ r fs];exact q
theorem kc:zB X (.builtin "len") (λxs H Q=>∃p ys,xs=[.ref p]/\(SqL X.K H p ys\/SqT X.K H p ys)/\Q (.int ys.length) H):=by
 intro a3 s Z H xs us Q I r h;obtain⟨p,ys,rfl,hq,q⟩:=h;obtain⟨u,rfl,rx⟩:=QV r;cases rx;have hn:=Z9;rcases hq with hq|hq
 ·obtain⟨its,r',pl,hz⟩:=I.list hq
  have ay:=r'.length;exact Calls.call_len_list pl.isList (by simp only[Di]<;>lia) ⟨.int ys.length,H,I.tok _,⟨s.toks+1,by rw[Di,ay]⟩,q⟩
 ·obtain⟨its,r',pl,hz⟩:=I.tuple hq
  have ay:=r'.length;exact len_tuple pl (by simp only[Di]<;>lia) ⟨.int ys.length,H,I.tok _,⟨s.toks+1,by rw[Di,ay]⟩,q⟩
theorem qI:zB X (.type "list") (λxs H Q=>∃p ys,xs=[.ref p]/\(SqL X.K H p ys\/SqT X.K H p ys)/\∀l,H l=none->Q (.ref l) (upd H l (.lst ys))):=by
 intro a3 s Z H xs us Q I r h;obtain⟨p,ys,rfl,hq,q⟩:=h;obtain⟨u,rfl,rx⟩:=QV r;cases rx;have fin:∀(its:List Value),Vals ys its->ys.length<=sizeLine->∀(h':Heap)(c':Nat),(∀b o',s.heap.get? b=some o'->h'.get? b=some o') ->
   h'.get? s.heap.objs.size=some { cls:=.type "list", dict:=none,data:=.seq its.toArray c',slots:=#[] }->EP X a3 Z Q (.ref s.heap.objs.size) { s with heap:=h' }:=λits r' hz h' c' kp e=>
  ⟨.ref s.heap.objs.size,_,I.laid (t':=s.toks) kp (Dh _) (show ObjOk X.prog X.w _ h' _ (.lst ys) from⟨hz,its,c',r',e⟩),rfl,q _ (I.hok.fresh (Dh _))⟩
 rcases hq with hq|hq
 ·obtain⟨its,r',pl,hz⟩:=I.list hq
  have ay:=r'.length;obtain⟨o,ho,hc,n,hd⟩:=pl.isList;exact call_list_seq p (.inl rfl) ho hc hd (λh' c' kp e=>fin its r' hz h' c' kp e) (by simp only[Di]<;>lia)
 ·obtain⟨its,r',pl,hz⟩:=I.tuple hq
  have ay:=r'.length;obtain⟨o,ho,hc,n,hd⟩:=pl;exact call_list_seq p (.inr rfl) ho hc hd (λh' c' kp e=>fin its r' hz h' c' kp e) (by simp only[Di]<;>lia)
def tyV(Ξ:PySem.W.Frag)(T:String)(x:V)(H:Hp):Prop:=match x with
 |.str _=>T = "str"
 |.int _=>T = "int"
 |.ref p=>(T = "list" /\ ∃xs,SqL Ξ H p xs)\/(T = "tuple" /\ ∃o,Ξ.lookup p=some o/\o.cls=.type "tuple" /\ o.dict=none) \/
   (T = "dict" /\ ((∃kvs,H p=some (.dK kvs))\/∃kvs,H p=some (.dT kvs)))\/(T = "set" /\ ∃S n,H p=some (.set S n))
 |_=>False
theorem YN{T:String}(I:Inv X a3 Z H s)(r:RelV x v)(ty:tyV X.K T x H):
  s.TypeIs v T/\∀a,v=.ref a->∃ob,s.heap.get? a=some ob/\ob.dict=none:=by
 cases x with
 |str z=>
  obtain⟨t,rfl⟩:=r;cases(show T = "str" from ty);exact⟨typeIs_str s z t,λ_ e=>nomatch e⟩
 |int i=>
  obtain⟨t,rfl⟩:=r;cases(show T = "int" from ty);exact⟨typeIs_int s i t,λ_ e=>nomatch e⟩
 |ref p=>
  cases r;rcases ty with⟨rfl,xs,hq⟩|⟨rfl,o,hk,hc,hd⟩|⟨rfl,hk⟩|⟨rfl,S,n,hk⟩
  ·obtain⟨its,_,pl,_⟩:=I.list hq
   refine⟨pl.isList.typeIs,λa e=>?_⟩;cases e;obtain⟨o,n,e,c,hd,_⟩:=pl;exact⟨o,e,hd⟩
  ·refine⟨⟨o,I.kIn p o hk,hc⟩,λa e=>?_⟩
   cases e;exact⟨o,I.kIn _ o hk,hd⟩
  ·have z:∃o,s.heap.get? p=some o/\o.ExactDict:=by
    rcases hk with⟨kvs,hk⟩|⟨kvs,hk⟩
    ·obtain⟨_,_,_,_,o,_,_,e,ex,_⟩:=I.hok p _ hk
     exact⟨o,e,ex⟩
    ·obtain⟨_,_,_,_,o,_,_,e,ex,_⟩:=I.hok p _ hk
     exact⟨o,e,ex⟩
   obtain⟨o,e,ex⟩:=z;refine⟨⟨o,e,ex.1⟩,λa e2=>?_⟩;cases e2;exact⟨o,e,ex.2.1⟩
  ·obtain⟨o,_,_,_,e,ex,_⟩:=I.hok p _ hk
   refine⟨⟨o,e,ex.1⟩,λa e2=>?_⟩;cases e2;exact⟨o,e,ex.2.1⟩
 |_=>exact False.elim ty
def tBM0(Ξ:PySem.W.Frag)(T:String)(r:V->List V->Hp->VK->Prop)(to:TE):TE:=λZ H Q=>to Z H λx H1=>tyV Ξ T x H1/\r x [] H1 Q
def tBM(Ξ:PySem.W.Frag)(T:String)(r:V->List V->Hp->VK->Prop)(to:TE)(t:TA):TE:=λZ H Q=>to Z H λx H1=>tyV Ξ T x H1/\t Z H1 λxs H2=>r x xs H2 Q
variable {o e:Expr}{es:List Expr}{to:TE}{t:TA}{name:Str}{aK aB:Pos}{T id:String}{r:V->List V->Hp->VK->Prop}
end
def MtM(X:Cx)(id:String)(r:V->List V->Hp->VK->Prop):Prop :=
 ∀(a3:List (Addr×Obj))(s:Shared)(Z:St)(H:Hp)(x:V)(xs:List V)(v:Value)(us:List Value)(Q:VK),Inv X a3 Z H s->RelV x v->Vals xs us->r x xs H Q ->
  wpAny (model X.prog X.w) X.A (call (.builtin id) (v::us)) (EP X a3 Z Q) X.xe s
theorem Vals.one:∀{x:V}{us:List Value},Vals [x] us->∃u,us=[u]/\RelV x u
 |_,_,.cons r .nil=>⟨_,rfl,r⟩
theorem Vals.two:∀{x y:V}{us:List Value},Vals [x,y] us->∃u v,us=[u,v]/\RelV x u/\RelV y v
 |_,_,_,.cons r (.cons q .nil)=>⟨_,_,rfl,r,q⟩
theorem Vals.zero:∀{us:List Value},Vals [] us->us=[]
 |_,.nil=>rfl
theorem Vals.dropLast(h:Vals xs us):Vals xs.dropLast us.dropLast:=by
 induction h with
 |nil=>exact .nil
 |cons r t ih=>
  cases t with
  |nil=>exact .nil
  |cons q t'=>exact .cons r ih
theorem Vals.eraseIdx:∀{xs:List V}{us:List Value}(i:Nat),Vals xs us->Vals (xs.eraseIdx i) (us.eraseIdx i)
 |_,_,_,.nil=>.nil
 |_,_,0,.cons _ t=>t
 |_,_,i+1,.cons r t=>.cons r (Vals.eraseIdx i t)
theorem Vals.rep(h:Vals xs us):∀k:Nat,Vals (List.replicate k xs).flatten (List.replicate k us).flatten
 |0=>.nil
 |k+1=>by
  rw[D3,D3,Rp,Rp];exact Vals.append h (Vals.rep h k)
theorem Yr{α:Type}(l:List α):l.eraseIdx (l.length-1)=l.dropLast:=by
 induction l with
 |nil=>rfl
 |cons a r ih=>
  cases r with
  |nil=>rfl
  |cons b r=>
   have e:(a::b::r).length-1=((b::r).length-1)+1:=by
    have h1:(a::b::r).length=r.length+2:=rfl;have h2:(b::r).length=r.length+1:=rfl;lia
   rw[e,RK,ih]
   all_goals rfl
theorem Qn{α:Type}:∀(l:List α)(i:Nat),(l.eraseIdx i).length<=l.length
 | [],_=>Dh _
 |_::_,0=>Bv _
 |_::r,i+1=>Nat.succ_le_succ (Qn r i)
theorem Xn(its:List Value):∀(k:Nat)(a8:List Value),
  List.foldl (λx1 x2=>x1++x2) a8.toArray (List.replicate k its.toArray)=(a8++(List.replicate k its).flatten).toArray
 |0,a8=>by simp
 |k+1,a8=>by
  have e:a8.toArray++its.toArray=(a8++its).toArray:=by simp
  have e2:(a8++its)++(List.replicate k its).flatten=a8++(List.replicate (k+1) its).flatten:=by
   rw[D3,Rp,DF]
  rw[<-e2, <-Xn its k (a8++its), <-e,D3,BG]
theorem Inv.lset{its its':List Value}(I:Inv X a3 Z H s)(hH:H l=some (.lst xs))(e:s.heap.get? l=some { cls:=.type "list", data:=.seq its.toArray n })(hf:f its.toArray=its'.toArray)(hv:Vals ys its')(hz:ys.length<=sizeLine):
  Inv X a3 Z (upd H l (.lst ys)) { s with heap:=s.heap.update l (Obj.mapSeq f),toks:=t' }:=by
 have q:=PySem.IsL.update e f;rw[hf]at q;refine I.write (x:=l) (e:=l) (by rw[hH];exact trivial) (.inl rfl) (λb' u hb hu=>(Heap.get?_update_other s.heap (Obj.mapSeq f) (Ne.symm hb)).trans hu) ⟨_,q⟩ ?_;exact⟨hz,its',_,hv,q⟩
theorem Inv.lnew(I:Inv X a3 Z H s)(hv:Vals ys its)(hz:ys.length<=sizeLine):
  Inv X a3 Z (upd H s.heap.objs.size (.lst ys)) { s with heap:=s.heap.push { cls:=.type "list", data:=.seq its.toArray },toks:=t' } :=
 I.laid (λ_ _ q=>Heap.get?_push_of_some _ q) (Dh _) ⟨hz,its,0,hv,Heap.get?_push_size _ rfl⟩
theorem Inv.fresh(I:Inv X a3 Z H s):H s.heap.objs.size=none:=I.hok.fresh (Dh _)
theorem Inv.lstM(I:Inv X a3 Z H s)(hH:H l=some (.lst xs)):xs.length<=sizeLine/\∃(its:List Value)(n:Nat),Vals xs its/\xs.length=its.length/\s.heap.get? l=some { cls:=.type "list", data:=.seq its.toArray n }:=by
 obtain⟨z,its,n,r,e⟩:=I.hok l _ hH;exact⟨z,its,n,r,r.length,e⟩
theorem Kg(h:n<=sizeLine):Builtin.List.listTooLong n=false:=by
 unfold Builtin.List.listTooLong;exact Um (by lia)
def Wt:V->List V->Hp->VK->Prop:=λx vs H Q=>∃l xs y,x=.ref l/\vs=[y]/\H l=some (.lst xs)/\xs.length<sizeLine/\Q .non (upd H l (.lst (xs++[y])))
theorem zt:MtM X "list.append" Wt:=by
 intro a3 s Z H x vs v us Q I rx rv h;obtain⟨l,xs,y,rfl,rfl,hH,hz,q⟩:=h;cases rx;obtain⟨u,rfl,ru⟩:=rv.one;obtain⟨z,its,n,r,hl,e⟩:=I.lstM hH;refine UL F.slot_list_append ⟨_,e,rfl⟩ F.entry_list_append (F.args_list_append_2 _ _) (PySem.list_append l its.toArray n u (by rw[Di];lia)) ⟨e,?_⟩;refine⟨.non,_,I.lset (its':=its++[u]) hH e (by simp) (r.append (.cons ru .nil)) ?_,rfl,q⟩;rw[Dg,D5];lia
def Ws:V->List V->Hp->VK->Prop:=λx vs H Q=>∃l b xs zs,x=.ref l/\vs=[.ref b]/\H l=some (.lst xs)/\H b=some (.lst zs)/\xs.length+zs.length<=sizeLine/\Q .non (upd H l (.lst (xs++zs)))
theorem Qj:MtM X "list.extend" Ws:=by
 intro a3 s Z H x vs v us Q I rx rv h;obtain⟨l,b,xs,zs,rfl,rfl,hH,hB,hz,q⟩:=h;cases rx;obtain⟨u,rfl,ru⟩:=rv.one;cases ru;obtain⟨z,its,n,r,hl,e⟩:=I.lstM hH;obtain⟨z2,bz,n2,r2,fh,e2⟩:=I.lstM hB;have hsz:its.toArray.size+bz.toArray.size<=sizeLine:=by rw[Di,Di];lia
 have dX:¬(!its.toArray.isEmpty&&Builtin.List.listTooLong (its.toArray.size+bz.toArray.size))=true:=by
  rw[Kg hsz,Bool.and_false];exact Dn
 refine UL F.slot_list_extend ⟨_,e,rfl⟩ F.entry_list_extend (F.args_list_extend_2 _ _)
  (AutoSeq1.list_extend_list_list_0 l its.toArray n b bz.toArray n2 dX (by rw[Di];lia) (by lia)) ⟨e,e2,?_⟩
 refine⟨.non,_,I.lset (its':=its++bz) hH e (by simp) (r.append r2) ?_,rfl,q⟩;rw[Dg];lia
def rPop:V->List V->Hp->VK->Prop:=λx vs H Q=>∃l xs y,x=.ref l/\vs=[]/\H l=some (.lst xs)/\xs[xs.length-1]?=some y/\Q y (upd H l (.lst xs.dropLast))
theorem q7M:MtM X "list.pop" rPop:=by
 intro a3 s Z H x vs v us Q I rx rv h;obtain⟨l,xs,y,rfl,rfl,hH,hy,q⟩:=h;cases rx;have iG:=rv.zero;subst iG;obtain⟨z,its,n,r,hl,e⟩:=I.lstM hH;obtain⟨u,hu,ru⟩:=r.get hy;have lc:its.toArray[its.toArray.size-1]?=some u:=by
  show its.toArray[its.length-1]?=some u;rw[<-BH, <-hl];exact hu
 refine UL F.slot_list_pop ⟨_,e,rfl⟩ F.entry_list_pop (F.args_list_pop_1 _) (MeetsSeq.list_pop_last l its.toArray n u lc (by rw[Di];lia)) ⟨e,?_⟩;refine⟨y,_,I.lset (its':=its.dropLast) hH e ?_ r.dropLast ?_,ru,q⟩
 ·show its.toArray.eraseIdxIfInBounds (its.toArray.size-1)=its.dropLast.toArray
  rw[Di,RT,Yr]
 ·rw[B0]
  lia
def rPopAt:V->List V->Hp->VK->Prop:=λx vs H Q=>∃l xs i k y,x=.ref l/\vs=[.int i]/\H l=some (.lst xs) /\ -(2^63)<=i/\i<2^63/\seqIndex? i xs.length=some k/\xs[k]?=some y/\Q y (upd H l (.lst (xs.eraseIdx k)))
theorem q1C:MtM X "list.pop" rPopAt:=by
 intro a3 s Z H x vs v us Q I rx rv h;obtain⟨l,xs,i,k,y,rfl,rfl,hH,h1,h2,hk,hy,q⟩:=h;cases rx;obtain⟨u,rfl,ru⟩:=rv.one;obtain⟨t,rfl⟩:=ru;obtain⟨z,its,n,r,hl,e⟩:=I.lstM hH;obtain⟨w,hw,dG⟩:=r.get hy;refine UL F.slot_list_pop ⟨_,e,rfl⟩ F.entry_list_pop (F.args_list_pop_2 _ _)
  (MeetsSeq.list_pop_at l its.toArray n i t k w (fitsIndex_both h1 h2) (by rw[Di, <-hl];exact hk) (by rw[<-BH];exact hw) (by rw[Di];lia)) ⟨e,?_⟩
 refine⟨y,_,I.lset (its':=its.eraseIdx k) hH e ?_ (r.eraseIdx k) ?_,dG,q⟩
 ·show its.toArray.eraseIdxIfInBounds k=(its.eraseIdx k).toArray
  rw[RT]
 ·have:=Qn xs k
  lia
def rCat:R2:=λx y H Q=>∃l b xs zs,x=.ref l/\y=.ref b/\H l=some (.lst xs)/\H b=some (.lst zs)/\xs.length+zs.length<=sizeLine/\∀p,H p=none->Q (.ref p) (upd H p (.lst (xs++zs)))
theorem j9:OpR X (binaryOp .Add) rCat:=by
 intro a3 s Z H x y v u Q I rx ry h;obtain⟨l,b,xs,zs,rfl,rfl,hH,hB,hz,q⟩:=h;cases rx;cases ry;obtain⟨z,its,n,r,hl,e⟩:=I.lstM hH;obtain⟨z2,bz,n2,r2,fh,e2⟩:=I.lstM hB;refine PySem.P.add_list e e2 ?_ (by rw[Di,Di];lia);have ea:its.toArray++bz.toArray=(its++bz).toArray:=by simp
 rw[ea];exact⟨.ref _,_,I.lnew (t':=s.toks) (r.append r2) (by rw[Dg];lia),rfl,q _ I.fresh⟩
def rRep:R2:=λx y H Q=>∃l k xs,x=.ref l/\y=.int k/\H l=some (.lst xs) /\ -(2^63)<=k/\k<2^63/\xs.length*k.toNat<=sizeLine /\
 ∀p,H p=none->Q (.ref p) (upd H p (.lst (List.replicate k.toNat xs).flatten))
theorem q5L{α:Type}(xs:List α)(k:Nat):(List.replicate k xs).flatten.length=k*xs.length:=by
 induction k with
 |zero=>simp
 |succ k ih=>rw[D3,Rp,Dg,ih,Nat.succ_mul,Be]
theorem WV:OpR X (binaryOp .Mult) rRep:=by
 intro a3 s Z H x y v u Q I rx ry h;obtain⟨l,k,xs,rfl,rfl,hH,h1,h2,hz,q⟩:=h;cases rx;obtain⟨t,rfl⟩:=ry;obtain⟨z,its,n,r,hl,e⟩:=I.lstM hH;have ay:its.toArray.size*k.toNat<=sizeLine:=by rw[Di, <-hl];exact hz
 have lg:¬its.toArray.size*k.toNat>(2^63-1) / 8:=by
  have:(sizeLine:Nat)<=(2^63-1) / 8:=by decide
  lia
 have li:¬(!Builtin.List.listFitsIndex k)=true:=by
  rw[fitsIndex_both h1 h2];exact Dn
 have dX:¬Builtin.List.listTooLong (its.toArray.size*k.toNat)=true:=by
  rw[Kg ay];exact Dn
 have lj:List.foldl (λx1 x2=>x1++x2) #[] (List.replicate (if its.toArray.isEmpty=true then 0 else k.toNat) its.toArray)=(List.replicate k.toNat its).flatten.toArray:=by
  have f0:∀m:Nat,List.foldl (λx1 x2=>x1++x2) #[] (List.replicate m its.toArray)=(List.replicate m its).flatten.toArray:=λm=>by
   have:=Xn its m [];rw[D1]at this;exact this
  rw[f0];cases its with
  |nil=>simp
  |cons a r'=>rw[Uh (by simp)]
 refine wpAny_binaryOp_repeat_ref (T := "list") (U := "int") (by decide) ⟨_,e,rfl⟩ (λs'=>typeIs_int s' k t) noFill_list_mul F.fills_int_mul F.slot_int_rmul repeat_list F.slot_int_index.lookup
  (UL F.slot_int_rmul (typeIs_int s k t) F.entry_int_rmul (F.args_int_rmul_2 _ _) (int___rmul___int_list k t l its.toArray n)
   ⟨e,rfl,⟨_,e,rfl⟩,UL F.slot_list_mul ⟨_,e,rfl⟩ F.entry_list_mul (F.args_list_mul_2 _ _) (AutoListH.list___mul___list_int_3 l its.toArray n k t li lg dX) ⟨e,?_⟩⟩)
 rw[lj];exact⟨.ref _,_,I.lnew (t':=s.toks) (r.rep k.toNat) (by rw[q5L,Nat.mul_comm];exact hz),rfl,q _ I.fresh⟩
end L2
namespace Att
open PySem PySem.W PySem.Calls PyProof.Rows
theorem Qq:∀(ns:List Int)(vs:List Value),WellAll P h vs (ns.map WData.int)->IntsAre vs ns:=by
 intro ns
 induction ns with
 |nil=>
  intro vs w;rw[Rx]at w;cases w;exact .nil
 |cons n ns ih=>
  intro vs w;rw[Dx]at w;cases w with
  |cons a b=>
   cases a;exact .cons _ _ (ih _ b)
theorem Y6{l:OpenLaw}(hn:l.most=some n)(eY:l.row.toRowW.claim.pre args=true)(iH:WellAll P h bj args):
  ∃a vs ns,bj=[Value.ref a]/\args=[WData.list (ns.map WData.int)]/\h.get? a=some { cls:=.type "list", data:=.seq vs.toArray }/\IntsAre vs ns/\ns.length<=n:=by
 have oa:WShape.hasAll [] args [.list .int]=true:=(pre_splitW eY).1;have hc:l.pre.holds [] { args:=args }=true:=(pre_splitW eY).2;obtain⟨d,r,rfl,h1,h2⟩:=hasAllW_cons oa;obtain rfl:=hasAllW_nil h2;obtain⟨xs,rfl,h3⟩:=hasW_list h1;obtain⟨ns,rfl⟩:=items_int h3;have ay:ns.length<=n:=by
  unfold OpenLaw.pre at hc;have h4:(WTm.not (.lt (.lit (.int (n:Int))) (.len (.arg 0)))).holds [] { args:=[.list (ns.map .int)] }=true:=by
   have h4:=(holds_andW hc).1;rw[hn]at h4;exact h4
  have h5:=condW_of h4 (w_not (w_lt w_lit (w_len_list (w_arg rfl))));rw[Dd]at h5;refine Nat.le_of_not_lt λq=>?_;have q':(n:Int)<((ns.length:Nat):Int):=by lia
  first
   | (rw[Ur q']at h5;exact absurd h5 (by decide))
   | (simp at h5;lia)
 cases iH with
 |cons w1 w2=>
  cases w2;cases w1 with
  |list ho dY=>exact⟨_,_,ns,rfl,rfl,ho,Qq ns _ dY,ay⟩
theorem WH(l:OpenLaw)(args:List WData):l.row.toRowW.claim.post args (.bool true) args=true :=
 postW_of (r:=l.row.toRowW) (X:=(true==true))
  (show WShape.has [] (.bool true) .bool=true by first|rfl|decide|simp[WShape.has,WShape.arms,WShape.armsAll])
  (show(WTm.eq .res (.lit (.bool true))).value [] { args:=args,res:=some (.bool true),after:=args }=some (.bool (true==true))from w_eq_bool (w_res rfl) w_lit) rfl
theorem attach_call{l:OpenLaw}(hn:l.most=some n)(gM:d.params.defaults=[])(call:∀(w:World)(s₀ ai:Shared)(mg mb:Str->Option Value)(fa:Addr)(o:Obj)(pm cd bZ:Value)(a:Addr)(vs:List Value)(ns:List Int),
   Ground q loose [] XP w s₀ mg mb ai.heap->YP w ai.heap ->
   ai.heap.get? fa=some o->o.data=.func (docDef d.name d.params d.body d.scope pm cd bZ)->ai.heap.CodeRec cd d.name->mg d.name=some (.ref fa) ->
   ai.heap.get? a=some { cls:=.type "list", data:=.seq vs.toArray }->IntsAre vs ns->ns.length<=n->ai.gens=#[] ->
   codeAny (model l.prog w) callerA (.call (.ref fa) ⟨[.ref a], []⟩) (λr s'=>r=.ok (.ret (.bool true))/\OldK ai.heap s'.heap/\s'.os=ai.os/\AllBare s'.gens) ai):
  WalkO q loose XP YP l.row.toRowW d [] (λf vs=>PySem.call f vs):=by
 intro w s₀ ai mg mb G Y fa o pm cd bZ dV kV ho hd cO hD hmg hg args bj as eY hlay hrd iH mR;obtain rfl:dV=.none:=Dflts.none hD gM;obtain rfl:kV=.none:=Dflts.noKw hD;obtain⟨a,vs,ns,rfl,rfl,fI,dZ,ay⟩:=Y6 hn eY iH;refine enter_call (Uz (call w s₀ ai mg mb fa o pm cd bZ a vs ns G Y ho (fd_plain hd) cO hmg fI dZ ay hg) λr s' hq=>?_);obtain⟨rfl,h2,h3,h4⟩:=hq;exact⟨.inl ⟨.bool true,.bool true, [],rfl,λ_=>rfl,.bool true,WH l _,λ_=>⟨List.Pairwise.nil,λ_ hm=>(nomatch hm)⟩⟩,h2,h3,h4⟩
end Att
namespace L2
open PySem PySem.Spec PyProof.Rows
theorem Zr:∀{vs:List Value}{ns:List Int},IntsAre vs ns->Vals (ns.map V.int) vs
 |_,_,.nil=>.nil
 |_,_,.cons n t h=>.cons ⟨t,rfl⟩ (Zr h)
def Only(H:Hp):Prop:=∀b,H b=none\/∃o xs,H b=some (.frz o (.lst xs))
theorem q0H(KX:Ξ.In ai.heap)(cP:ai.heap.Ns mainGlobals mg)(hb:ai.heap.Ns builtinsNs mb)(iI:∀x:Str,x ≠ "__name__" -> mb x=bootBuiltins x)(ll:ai.heap.NoLimit)(hg:ai.gens=#[])(ha:ai.heap.get? a=some { cls:=.type "list", data:=.seq vs.toArray })(hi:IntsAre vs ns)(hl:ns.length<=sizeLine)(hr:Room k callerA)(F:∀base:Heap,Ξ.In base->base.Ns mainGlobals mg->FnOk P w Ξ mg base CX k fa fd [x] sp)(gN:∀(s:Shared)(u:Value),BindsTo s fd ⟨[u], []⟩ [(x,u)])(cW:∀H:Hp,Only H->SqL Ξ H a (ns.map V.int)->sp [.ref a] H (λv _=>v=.bl true) λ_ _ _=>False)(lm:∀H e s',CX [] H ai (λ_ _ _=>False) e s'->False):
  codeAny (model P w) callerA (.call (.ref fa) ⟨[.ref a], []⟩) (λr s'=>r=.ok (.ret (.bool true))/\OldK ai.heap s'.heap/\s'.os=ai.os/\AllBare s'.gens) ai:=by
 have rv:=Zr hi;have lp:=hi.length
 -- from an abstract heap in which nothing but the script may be cD
 have gO:∀H:Hp,Only H->SqL Ξ H a (ns.map V.int)->HOk P w H ai.heap->(∀b,H b≠none->b=a)->(H a≠none->Ξ.lookup a=none) ->
   codeAny (model P w) callerA (.call (.ref fa) ⟨[.ref a], []⟩) (λr s'=>r=.ok (.ret (.bool true))/\OldK ai.heap s'.heap/\s'.os=ai.os/\AllBare s'.gens) ai:=by
  intro H hO hS hok hA hK;have dB:∀{b:Addr}{o:Obj},ai.heap.get? b=some o->H b=none->(hidT ai.heap H).get? b=some o:=λe n=>q1U e n;have gJ:∀{b:Addr}{o:Obj}{es:Array DictEntry}{ep:Nat},ai.heap.get? b=some o->o.data=.dict es ep->H b=none:=λ{b o es ep} e d=>by
   cases q:H b with
   |none=>rfl
   |some u=>
    have e':b=a:=hA b (by rw[q];simp);subst e';rw[ha]at e;cases e;have d':Data.seq vs.toArray _=Data.dict es ep:=d;cases d'
  have iJ:∀{b:Addr}{m:Str->Option Value},ai.heap.Ns b m->(hidT ai.heap H).Ns b m:=λ{b m} ⟨o,es,ep,e,d,r⟩=>⟨o,es,ep,dB e (gJ e d),d,r⟩;have mT:Ξ.In (hidT ai.heap H):=λb o e=>dB (KX b o e) (by
   cases q:H b with
   |none=>rfl
   |some u=>
    have e':b=a:=hA b (by rw[q];simp);subst e';rw[hK (by rw[q];simp)]at e;cases e)
  have hM:Mod Ξ mg (hidT ai.heap H):=⟨mT,iJ cP,⟨mb,iJ hb,iI⟩,let⟨mc,h1,h2⟩:=ll;⟨mc,iJ h1,h2⟩⟩;have e0:Env0 P w Ξ mg (hidT ai.heap H) callerA [] ai H:=⟨rfl,hM,λb o e=>q68 e,RW (GS _ _),trivial,λb hb=>absurd (show b∈([]:List Addr)from hb) (by simp),hok,.of_eq hg⟩;refine Uz ((F _ mT (iJ cP)).run callerA [] ai H ⟨[.ref a], []⟩ [.ref a] [.ref a] _ _ hr e0 (gN ai (.ref a)) (.cons rfl .nil) (cW H hO hS)) λr s' h=>?_;cases r with
  |error e=>exact(lm H e s' h).elim
  |ok fl=>
   cases fl with
   |next=>exact False.elim h
   |brk=>exact False.elim h
   |cont=>exact False.elim h
   |ret u=>
    obtain⟨v,H',os,bare,un,lq,r',q⟩:=h;have q':v=.bl true:=q;subst q';obtain rfl:u=Value.bool true:=r';refine⟨rfl,OldK.of_keep λb o e=>?_,os,bare⟩;cases q:H b with
    |none=>exact un.keep b o e q (by intro z;exact absurd (show b∈([]:List Addr)from z) (by simp)) (by simp)
    |some u=>
     rcases hO b with z|⟨ob,xs,z⟩
     ·rw[q]at z;cases z
     ·have z2:=un.frzs b ob _ z
      obtain⟨e1,_⟩:=hok b _ z;obtain⟨e2,_⟩:=lq b _ z2;rw[e]at e1;cases e1;exact e2
 cases hk:Ξ.lookup a with
 |some o=>
  -- the script is one of the module's own objects
  have e:=KX a o hk;rw[ha]at e;cases e;refine gO (λ_=>none) (λ_=>.inl rfl) (.inr ⟨_,vs.toArray,_,hk,rfl,rfl,rfl,by rw[Di,lp];exact hl,by simpa using rv⟩) (λb u z=>by have z':(none:Option HO)=some u:=z;cases z') (λb z=>absurd rfl z) λz=>absurd rfl z
 |none=>
  refine gO (λb=>if b=a then some (.frz { cls:=.type "list", data:=.seq vs.toArray } (.lst (ns.map V.int))) else none) (λb=>?_) (.inl (.inr ⟨{ cls:=.type "list", data:=.seq vs.toArray },Uj rfl⟩)) (λb u z=>?_) (λb z=>?_) λ_=>hk
  ·by_cases hb:b=a
   ·exact .inr ⟨_,_,Uj hb⟩
   ·exact .inl (Uh hb)
  ·by_cases hb:b=a
   ·have z':=(Uj hb).symm.trans z
    cases z';subst hb;exact⟨ha,by rw[Dd];exact hl,vs,_,rv,ha⟩
   ·have z':=(Uh hb).symm.trans z
    cases z'
  ·by_cases hb:b=a
   ·exact hb
   ·exact absurd (Uh hb) z
theorem walk_of{l:PySem.W.OpenLaw}{Ξ:Params->PySem.W.Frag}{CX:World->CXT}{sp:World->Sp}(hn:l.most=some n)(gm:n<=sizeLine)(gM:d.params.defaults=[])(hr:Room k callerA)(hY:∀(w:World)(h:Heap),YP w h->(Ξ w.params).In h)(F:∀(w:World)(mg:Str->Option Value)(fa:Addr)(h:Heap),(Ξ w.params).In h->h.Ns mainGlobals mg->mg d.name=some (.ref fa) ->
   ∃fd:FuncData,(∀(s:Shared)(u:Value),BindsTo s fd ⟨[u], []⟩ [(x,u)]) /\
    ∀base:Heap,(Ξ w.params).In base->base.Ns mainGlobals mg->FnOk l.prog w (Ξ w.params) mg base (CX w) k fa fd [x] (sp w))(cW:∀(w:World)(H:Hp)(a:Addr)(ns:List Int),ns.length<=n->Only H->SqL (Ξ w.params) H a (ns.map V.int)->sp w [.ref a] H (λv _=>v=.bl true) λ_ _ _=>False)(lm:∀(w:World)(H:Hp)(s:Shared)(e:Value)(s':Shared),CX w [] H s (λ_ _ _=>False) e s'->False):
  PySem.W.WalkO q loose XP YP l.row.toRowW d [] (λf vs=>PySem.call f vs):=by
 refine Att.attach_call hn gM λw s₀ ai mg mb fa o pm cd bZ a vs ns G Y ho hd cO hmg fI dZ ay hg=>?_;have KX:=hY w _ Y;obtain⟨fd,hb,hF⟩:=F w mg fa _ KX G.T.g hmg;exact q0H KX G.T.g G.T.b G.T.builtins G.T.nolimit hg fI dZ (DB ay gm) hr hF hb (λH hO hS=>cW w H a ns ay hO hS) λH e s'=>lm w H ai e s'
abbrev CX0:CXT:=λ_ _ _ _ _ _=>False
abbrev E0:XK:=λ_ _ _=>False
theorem WQ:QR CX0 X E0:=λ_ _ _ _ _ _ _ h=>h.elim
structure Fun(Ξ:PySem.W.Frag)(x af:Str)(st:Stmt)(f:Addr)(fd:FuncData):Prop where
 ex:∃(oc:Value)(od:Option Addr)(kV bZ pm:Value)(an:Option Addr)(a9 ct:Value)(eO:Array (Option Value)),
  fd=W.fnOf x af (zK st) (va st) (qc st) .none kV bZ pm an a9 ct/\Ξ.lookup f=some ⟨oc,od,.func fd,eO⟩/\W.codeIn Ξ a9 af=true
 kp:W.keepIn Ξ (.ref f)=true
theorem Fun.ok{st:Stmt}(F:Fun Ξ x af st f fd)(S:q00 N ps (qc st))(len:∀vs H Q E,sp vs H Q E->vs.length=ps.length)(aA:∀(a9:Value)(A:Around)(outer:List Env)(s:Shared)(H:Hp)(vs:List V)(Q:VK)(E:XK),Room k (A.deeper (envOfC af (qc st) s.heap.objs.size f a9))->sp vs H Q E ->
   ∃t,PSs (cxOf CX0 P w Ξ mg base N af (qc st) f a9 A outer s H E).nox (va st) t/\t { nx:=λ_ H'=>Q .non H',rt:=Q } (start N vs) H):FnOk P w Ξ mg base CX0 (k+1) f fd ps sp:=by
 obtain⟨oc,od,kV,bZ,pm,an,a9,ct,eO,rfl,lk,cO⟩:=F.ex;refine q6M lk cO S len λA outer s H vs Q E hr cW=>?_;obtain⟨t,h,q⟩:=aA a9 A outer s H vs Q E hr cW;exact⟨t,h.nox,q⟩
theorem Fun.binds{st:Stmt}(F:Fun Ξ x af st f fd)(h:∀(kV bZ pm:Value)(an:Option Addr)(a9 ct:Value)(us:List Value),us.length=ps.length->bindArgs (W.fnOf x af (zK st) (va st) (qc st) .none kV bZ pm an a9 ct) ⟨us, []⟩=pure (ps.zip us)):Binds Ξ fd ps []:=by
 obtain⟨oc,od,kV,bZ,pm,an,a9,ct,eO,rfl,lk,cO⟩:=F.ex;exact .all (h kV bZ pm an a9 ct)
theorem fun_mk{st:Stmt}{kV bZ pm a9 ct:Value}(l:Ξ.lookup f=some ⟨oc,od,.func (W.fnOf x af (zK st) (va st) (qc st) .none kV bZ pm an a9 ct),eO⟩)(c:W.codeIn Ξ a9 af=true)(k:W.keepIn Ξ (.ref f)=true):Fun Ξ x af st f (W.fnOf x af (zK st) (va st) (qc st) .none kV bZ pm an a9 ct):=⟨⟨oc,od,kV,bZ,pm,an,a9,ct,eO,rfl,l,c⟩,k⟩
theorem Jy(hr:Room k A):A.units+1<cLine:=Bf (Nat.add_le_add_left (by decide:1<=64) _) hr.units
theorem qW(h:n<=1000):n<sizeLine:=Bf h (by decide)
theorem pv(i:Nat)(hN:X.N[i]?=some x:=by rfl)(hv:Vis X.env.scope x:=by first|exact Or.inl rfl|exact Or.inr (Or.inl rfl)|exact Or.inr (Or.inr rfl))(hd:(x==("__debug__" : Str))=false:=by decide)(cO:(x==("__classdict__" : Str))=false:=by decide):PE X (.Name x pos) (tVar i):=q7k hN hv hd cO
theorem ite2{c A B:Prop}[Decidable c](h1:c->A)(h2:¬c->B):if c then A else B:=by
 by_cases h:c
 ·rw[Uj h]
  exact h1 h
 ·rw[Uh h]
  exact h2 h
def Same(H H':Hp):Prop:=∀b o,H b=some o->H' b=some o
theorem Same.refl(H:Hp):Same H H:=λ_ _ h=>h
theorem Same.trans(a:Same H H1)(b:Same H1 H2):Same H H2:=λc o h=>b c o (a c o h)
theorem Same.free(e:Same H H')(h:H' l=Option.none):H l=Option.none:=by
 cases q:H l with
 |none=>rfl
 |some o=>
  rw[e l o q]at h;cases h
theorem Same.seq(e:Same H H')(h:SqL Ξ H a xs):SqL Ξ H' a xs:=by
 rcases h with(h|⟨o,h⟩)|h
 ·exact .inl (.inl (e _ _ h))
 ·exact .inl (.inr ⟨o,e _ _ h⟩)
 ·exact .inr h
section
variable {κ:Type} [DecidableEq κ]
def valV(kvs:List (κ×V))(k:κ):Option V:=(kvs.find? λkv=>decide (kv.1=k)).map (·.2)
def putK(kvs:List (κ×V))(k:κ)(v:V):List (κ×V):=
 if(kvs.any λkv=>decide (kv.1=k))=true then kvs.map (λkv=>if kv.1=k then(kv.1,v) else kv) else kvs++[(k,v)]
def q7x(kvs:List (κ×V))(k:κ):List (κ×V):=kvs.filter λkv=>decide (kv.1≠k)
theorem Vq{p:κ×V}{r:List (κ×V)}{k:κ}(e:p.1=k):valV (p::r) k=some p.2:=by simp[valV,D6,e]
theorem Vr{p:κ×V}{r:List (κ×V)}{k:κ}(e:¬p.1=k):valV (p::r) k=valV r k:=by simp[valV,D6,e]
theorem JR(k:κ):∀kvs:List (κ×V),(kvs.any λkv=>decide (kv.1=k))=(valV kvs k).isSome
 | []=>rfl
 |p::r=>by
  rw[Rs];by_cases e:p.1=k
  ·simp only[Vq e,Ur e,Bool.true_or,Option.isSome_some]
  ·rw[Vr e,Um e,Bool.false_or];exact JR k r
theorem jb(kvs:List (κ×V))(k:κ)(v:V):(putK kvs k v).length<=kvs.length+1:=by
 unfold putK;split
 ·rw[Dd];lia
 ·rw[Dg,Dj,DR];lia
theorem RelO.isSome_eq(r:RelO o u):o.isSome=u.isSome:=by
 cases o with
 |none=>cases u with
  |none=>rfl
  |some _=>exact(show False from r).elim
 |some _=>cases u with
  |none=>exact(show False from r).elim
  |some _=>rfl
theorem KV.val{kvs:List (κ×V)}{vs:List (κ×Value)}(r:KV kvs vs)(k:κ):RelO (valV kvs k) (valueAt vs k):=by
 unfold KV at r
 induction r with
 |nil=>exact True.intro
 | @cons p q ps qs h t ih=>
  obtain⟨h1,h2⟩:=h;by_cases e:p.1=k
  ·have e':q.1=k:=h1.symm.trans e
   have b:valueAt (q::qs) k=some q.2:=by simp[valueAt,D6,e']
   rw[Vq e,b];exact h2
  ·have e':¬q.1=k:=λz=>e (h1.trans z)
   have b:valueAt (q::qs) k=valueAt qs k:=by simp[valueAt,D6,e']
   rw[Vr e,b];exact ih
theorem KV.any{kvs:List (κ×V)}{vs:List (κ×Value)}(r:KV kvs vs)(k:κ):(kvs.any λkv=>decide (kv.1=k))=vs.any λkv=>decide (kv.1=k):=by
 unfold KV at r
 induction r with
 |nil=>rfl
 |cons h t ih=>rw[Rs,Rs,ih,h.1]
theorem KV.repl{kvs:List (κ×V)}{vs:List (κ×Value)}(r:KV kvs vs)(k:κ){y:V}{u:Value}(ry:RelV y u):
  KV (kvs.map λkv=>if kv.1=k then(kv.1,y) else kv) (vs.map λkv=>if kv.1=k then(kv.1,u) else kv):=by
 unfold KV at r ⊢
 induction r with
 |nil=>exact .nil
 | @cons p q ps qs h t ih=>
  rw[Dx,Dx];refine .cons ?_ ih;obtain⟨h1,h2⟩:=h;by_cases e:p.1=k
  ·rw[Uj e,Uj (h1.symm.trans e)];exact⟨h1,ry⟩
  ·rw[Uh e,Uh (λz=>e (h1.trans z))];exact⟨h1,h2⟩
theorem KV.put{kvs:List (κ×V)}{vs:List (κ×Value)}(r:KV kvs vs)(k:κ){y:V}{u:Value}(ry:RelV y u):KV (putK kvs k y) (stored vs k u):=by
 unfold putK stored;rw[r.any k];by_cases e:(vs.any λkv=>decide (kv.1=k))=true
 ·rw[Uj e,Uj e];exact r.repl k ry
 ·rw[Uh e,Uh e];exact Paired.snoc r ⟨rfl,ry⟩
theorem KV.drop{kvs:List (κ×V)}{vs:List (κ×Value)}(r:KV kvs vs)(k:κ):KV (q7x kvs k) (without vs k):=by
 unfold KV at r ⊢;unfold q7x without
 induction r with
 |nil=>exact .nil
 | @cons p q ps qs h t ih=>
  obtain⟨h1,h2⟩:=h;rw[Bz,Bz];by_cases e:p.1=k
  ·have a:¬decide (p.1≠k)=true:=by simp[e]
   have b:¬decide (q.1≠k)=true:=by simp[h1.symm.trans e]
   rw[Uh a,Uh b];exact ih
  ·have e':¬q.1=k:=λz=>e (h1.trans z)
   have a:decide (p.1≠k)=true:=by simp[e]
   have b:decide (q.1≠k)=true:=by simp[e']
   rw[Uj a,Uj b];exact .cons ⟨h1,h2⟩ ih
theorem KV.length{kvs:List (κ×V)}{vs:List (κ×Value)}(r:KV kvs vs):kvs.length=vs.length:=Paired.length r
end
theorem Jv(r:RelV (kV k) u):(qZ P w).is k u=true:=by
 cases k with
 |inl i=>obtain⟨t,e⟩:=(show ∃t,u=Value.int i t from r);subst e;exact Jq P w i t
 |inr x=>obtain⟨t,e⟩:=(show ∃t,u=Value.str x t from r);subst e;exact xZ P w x t
 |non=>cases(show u=Value.none from r);rfl
theorem Xe:∀{ks:List Key}{us:List Value},Vals (ks.map kV) us->ItemsAre (qZ P w) ks us
 | [],_,r=>by rw[Rx]at r;cases r;exact .nil
 |k::ks,_,r=>by
  rw[Dx]at r;cases r with
  |cons h t=>exact .cons (Jv h) (Xe t)
abbrev KT(H:Hp):List (List Key×V)->List (List Key×Addr×Value)->Prop:=Paired λp q=>p.1=q.1/\H q.2.1=some (.tup (p.1.map kV))/\RelV p.2 q.2.2
theorem KT.val(r:KT H kvs xs)(k:List Key):RelO (valV kvs k) ((atKey xs k).map (·.2)):=by
 induction r with
 |nil=>exact True.intro
 | @cons p q ps qs h t ih=>
  obtain⟨h1,_,h2⟩:=h;by_cases e:p.1=k
  ·have e':q.1=k:=h1.symm.trans e
   have b:atKey (q::qs) k=some q.2:=by simp[atKey,D6,e']
   rw[Vq e,b];exact h2
  ·have e':¬q.1=k:=λz=>e (h1.trans z)
   have b:atKey (q::qs) k=atKey qs k:=by simp[atKey,D6,e']
   rw[Vr e,b];exact ih
theorem KT.repl(r:KT H kvs xs)(k:List Key)(ry:RelV y u):
  KT H (kvs.map λkv=>if kv.1=k then(kv.1,y) else kv) (xs.map (putAt k u)):=by
 induction r with
 |nil=>exact .nil
 | @cons p q ps qs h t ih=>
  rw[Dx,Dx];refine .cons ?_ ih;obtain⟨h1,h2,h3⟩:=h;unfold putAt;by_cases e:p.1=k
  ·rw[Uj e,Uj (h1.symm.trans e)];exact⟨h1,h2,ry⟩
  ·rw[Uh e,Uh (λz=>e (h1.trans z))];exact⟨h1,h2,h3⟩
theorem KT.put(r:KT H kvs xs)(k:List Key)(hb:H b=some (.tup (k.map kV)))(ry:RelV y u):
  KT H (putK kvs k y) (storedH xs k b u):=by
 have e:(kvs.any λkv=>decide (kv.1=k))=(atKey xs k).isSome:=by
  rw[JR,(r.val k).isSome_eq,Bo]
 unfold putK storedH;rw[e];by_cases q:(atKey xs k).isSome=true
 ·rw[Uj q,Uj q];exact r.repl k ry
 ·rw[Uh q,Uh q];exact Paired.snoc r ⟨rfl,hb,ry⟩
theorem KT.keeps(r:KT H kvs xs)(ht:∀b ys,H b=some (.tup ys)->H' b=some (.tup ys)):KT H' kvs xs :=
 Paired.mapP r λ_ _ z=>⟨z.1,ht _ _ z.2.1,z.2.2⟩
theorem q8q(ok:HOk P w H h)(e:Rd H a u):ObjOk P w H h a u:=e.ok ok
theorem qaj(ok:HOk P w H h)(e:Rd H a (.dK kvs)):kvs.length<=sizeLine/\(a==sysModules)=false/\∃vs,KV kvs vs/\h.DictOf (qZ P w) a vs :=
 show ObjOk P w H h a (.dK kvs)from q8q ok e
theorem q6v(ok:HOk P w H h)(e:H a=some (.dK kvs)):kvs.length<=sizeLine/\(a==sysModules)=false/\∃vs,KV kvs vs/\h.DictOf (qZ P w) a vs:=qaj ok (.inl e)
theorem Xd(ok:HOk P w H h)(e:H a=some (.tup (ks.map kV))):(tupleKind (qZ P w)).is h ks a:=by
 obtain⟨_,its,r,o,h1,h2,n,h3⟩:=(show ObjOk P w H h a (.tup (ks.map kV))from ok a _ e);exact⟨o,its.toArray,n,h1,h2,h3,by simpa using Xe r⟩
theorem qah(ok:HOk P w H h)(e:Rd H a (.dT kvs)):kvs.length<=sizeLine/\(a==sysModules)=false /\
  ∃xs,KT H kvs xs/\h.DictOfH (tupleKind (qZ P w)) a xs:=by
 obtain⟨z,y,xs,r,o,es,ep,h1,h2,h3,h4,h5⟩:=(show ObjOk P w H h a (.dT kvs)from q8q ok e);refine⟨z,y,xs,r,o,es,ep,h1,h2,h3,h4,λx hx=>?_,h5⟩;have all:∀{l:List (List Key×V)}{m:List (List Key×Addr×Value)},KT H l m->∀x∈m,(tupleKind (qZ P w)).is h x.1 x.2.1:=by
  intro l m q
  induction q with
  |nil=>intro x hx;exact nomatch hx
  | @cons p q ps qs hq t ih=>
   intro x hx;rcases Dr.mp hx with e|hx
   ·subst e
    exact Xd ok (by rw[<-hq.1];exact hq.2.1)
   ·exact ih x hx
 exact all r x hx
theorem q9o(ok:HOk P w H h)(e:H a=some (.dT kvs)):kvs.length<=sizeLine/\(a==sysModules)=false /\
  ∃xs,KT H kvs xs/\h.DictOfH (tupleKind (qZ P w)) a xs:=qah ok (.inl e)
def DGet(H:Hp)(a:Addr)(y:V)(r:Option V):Prop :=
 (∃kvs k,Rd H a (.dK kvs)/\y=kV k/\r=valV kvs k)\/∃kvs k b,Rd H a (.dT kvs)/\y=.ref b/\H b=some (.tup (k.map kV))/\r=valV kvs k
def DPut(H:Hp)(a:Addr)(y v:V)(H':Hp):Prop :=
 (∃kvs k,H a=some (.dK kvs)/\y=kV k/\kvs.length<sizeLine/\H'=upd H a (.dK (putK kvs k v))) \/
 ∃kvs k b,H a=some (.dT kvs)/\y=.ref b/\H b=some (.tup (k.map kV))/\kvs.length<sizeLine/\H'=upd H a (.dT (putK kvs k v))
theorem DGet.k{k:Key}(e:H a=some (.dK kvs)):DGet H a (kV k) (valV kvs k):=.inl ⟨kvs,k,.inl e,rfl,rfl⟩
theorem DGet.t{k:List Key}(e:H a=some (.dT kvs))(eb:H b=some (.tup (k.map kV))):DGet H a (.ref b) (valV kvs k):=.inr ⟨kvs,k,b,.inl e,rfl,eb,rfl⟩
theorem DPut.k{k:Key}(e:H a=some (.dK kvs))(hl:kvs.length<sizeLine):DPut H a (kV k) v (upd H a (.dK (putK kvs k v))):=.inl ⟨kvs,k,e,rfl,hl,rfl⟩
theorem DPut.t{k:List Key}(e:H a=some (.dT kvs))(eb:H b=some (.tup (k.map kV)))(hl:kvs.length<sizeLine):
  DPut H a (.ref b) v (upd H a (.dT (putK kvs k v))):=.inr ⟨kvs,k,b,e,rfl,eb,hl,rfl⟩
theorem Inv.big(I:Inv X a3 Z H s):sysModules<s.heap.objs.size:=by
 have h:mainGlobals<s.heap.objs.size:=(I.mod.glob.keeps I.bk).lt;exact BI (by decide) h
theorem qar(hu:A.units+1<cLine)(I:Inv X a3 Z H s)(g:DGet H a y (some v))(ry:RelV y u)(h:∀w' s',Inv X a3 Z H s'->RelV v w'->Q w' s'):
  wpAny (model X.prog X.w) A (getItem (.ref a) u) Q E s:=by
 rcases g with⟨kvs,k,e,ey,l⟩|⟨kvs,k,b,e,ey,eb,l⟩
 ·subst ey
  obtain⟨z,hd,vs,bC,dd⟩:=qaj I.hok e;obtain⟨w',hw,dG⟩:=RelO.some_of (v:=v) (o:=valueAt vs k) (by rw[l];exact bC.val k);exact wpAny_getItem_of (Jv ry) dd.mapOf hw (h w' _ (I.tok _) dG)
 ·subst ey
  cases(show u=Value.ref b from ry);obtain⟨z,hd,xs,bC,dd⟩:=qah I.hok e;obtain⟨w',hw,dG⟩:=RelO.some_of (v:=v) (o:=(atKey xs k).map (·.2)) (by rw[l];exact bC.val k);obtain⟨p,hp,lr⟩:=DJ.mp hw;refine wpAny_getItem_heap (UF hu) (Xd I.hok eb) dd hp ?_;rw[lr];exact h w' _ (I.tok _) dG
theorem d_in(hu:A.units+1<cLine)(I:Inv X a3 Z H s)(g:DGet H a y o)(ry:RelV y u)(h:∀s',Inv X a3 Z H s'->Q (.bool o.isSome) s'):
  wpAny (model X.prog X.w) A (compareOp .In u (.ref a)) Q E s:=by
 rcases g with⟨kvs,k,e,ey,l⟩|⟨kvs,k,b,e,ey,eb,l⟩
 ·subst ey
  obtain⟨z,hd,vs,bC,dd⟩:=qaj I.hok e;refine wpAny_in_of (Jv ry) hd dd.mapOf ?_;rw[<-(bC.val k).isSome_eq, <-l];exact h _ (I.tok _)
 ·subst ey
  cases(show u=Value.ref b from ry);obtain⟨z,hd,xs,bC,dd⟩:=qah I.hok e;refine wpAny_in_heap (UF hu) (Xd I.hok eb) hd dd ?_;have q:=(bC.val k).isSome_eq;rw[Bo]at q;rw[<-q, <-l];exact h _ (I.tok _)
theorem q3A(hu:A.units+1<cLine)(I:Inv X a3 Z H s)(g:DGet H a y o)(ry:RelV y u)(h:∀s',Inv X a3 Z H s'->Q (.bool (!o.isSome)) s'):
  wpAny (model X.prog X.w) A (compareOp .NotIn u (.ref a)) Q E s:=by
 rcases g with⟨kvs,k,e,ey,l⟩|⟨kvs,k,b,e,ey,eb,l⟩
 ·subst ey
  obtain⟨z,hd,vs,bC,dd⟩:=qaj I.hok e;refine wpAny_notIn_of (Jv ry) hd dd.mapOf ?_;rw[<-(bC.val k).isSome_eq, <-l];exact h _ (I.tok _)
 ·subst ey
  cases(show u=Value.ref b from ry);obtain⟨z,hd,xs,bC,dd⟩:=qah I.hok e;refine wpAny_notIn_heap (UF hu) (Xd I.hok eb) hd dd ?_;have q:=(bC.val k).isSome_eq;rw[Bo]at q;rw[<-q, <-l];exact h _ (I.tok _)
theorem JJ(I:Inv X a3 Z H s)(mu:Mut (H a))(hs:Heap.SameBut a s.heap h')(he:∃q,h'.get? a=some q)(new:ObjOk X.prog X.w (upd H a ob) h' a ob):
  Inv X a3 Z (upd H a ob) { s with heap:=h',toks:=t' } :=
 I.write (x:=a) (e:=a) mu (.inl rfl) (λb q hb z=>(hs.2 b hb).trans z) he new
theorem q31(z:kvs.length<=sizeLine)(hd:(a==sysModules)=false)(bC:KV kvs vs)(dd:h'.DictOf (qZ P w) a vs):
  ObjOk P w H' h' a (.dK kvs):=⟨z,hd,vs,bC,dd⟩
theorem qaq(hu:A.units+1<cLine)(I:Inv X a3 Z H s)(g:DPut H a y v H')(ry:RelV y u)(rv:RelV v r)(h:∀s',Inv X a3 Z H' s'->Q () s'):
  wpAny (model X.prog X.w) A (setItem (.ref a) u r) Q E s:=by
 rcases g with⟨kvs,k,e,ey,l,eH⟩|⟨kvs,k,b,e,ey,eb,l,eH⟩
 ·subst ey eH
  obtain⟨z,hd,vs,bC,dd⟩:=q6v I.hok e;have hz:vs.length<=sizeLine:=by rw[<-bC.length];exact z
  have hl:(putK kvs k v).length<=sizeLine:=by have:=jb kvs k v;lia
  refine wpAny_setItem_pairs (hsz:=hz) (Jv ry) dd λh' fJ hs=>h _ ?_;have he:∃q,h'.get? a=some q:=let⟨q,_,_,hq,_⟩:=fJ;⟨q,hq⟩;exact JJ I (by rw[e];exact True.intro) hs he (q31 hl hd (bC.put k rv) fJ)
 ·subst ey eH
  cases(show u=Value.ref b from ry);obtain⟨z,hd,xs,bC,dd⟩:=q9o I.hok e;have hz:xs.length<=sizeLine:=by rw[<-Paired.length bC];exact z
  have hl:(putK kvs k v).length<=sizeLine:=by have:=jb kvs k v;lia
  refine wpAny_setItem_heap (hsz:=hz) (UF hu) (Xd I.hok eb) dd λh' fJ hs=>h _ ?_;obtain⟨q,es,ep,hq,h2,h3,h4,_,h5⟩:=fJ;refine JJ I (by rw[e];exact True.intro) hs ⟨q,hq⟩ ⟨hl,hd,_,(bC.put k eb rv).keeps λc ys ec=>?_,q,es,ep,hq,h2,h3,h4,h5⟩;rw[upd_ne (q9G ec e (λz=>nomatch z))];exact ec
def NoSl(i:Expr):Prop:=∀ov iv,subscripted i false ov iv=operate [ov,iv] (getItem ov iv)
theorem YZ{prog:Program}{w:World}{A:Around}{E:Value->Shared->Prop}{s:Shared}{env:Env}{value bS:Expr}{pos:Pos}{T id:String}{Q:Value->Shared->Prop}(hl:typeLookup (.type T) "__getitem__" = pure (some (.builtin id)))(hs:NoSl bS)(h:wpAny (model prog w) A (eval value env) (λo ai=>wpAny (model prog w) A (eval bS env) (λi ba=>ba.TypeIs o T/\wpAny (model prog w) A (getItem o i) Q E ba) E ai) E s):
  wpAny (model prog w) A (eval (.Subscript value bS pos) env) Q E s:=by
 refine Subscript_ (Uk h (λo ai cZ=>Uk cZ (λi ba da=>?_) λ_ _ x=>x) λ_ _ x=>x);obtain⟨hT,da⟩:=da;unfold subscriptTail;refine Ug ?_;rw[getitemInPython_of_ne hT.not_modules];refine Ug (U4 hT hl ?_);have fin:wpAny (model prog w) A (subscripted bS false o i) (λr db=>wpAny (model prog w) A (letTemporaryGo value o r >>= λ_=>pure r) Q E db) E ba:=by
  rw[hs o i];exact wpAny_operating (Uk da (λr db fK=>Ug (wpAny_letTemporaryGo (Ui fK))) λ_ _ x=>x)
 first
  |exact Ui (Ug fin)
  |exact Ug (Ui (Ug fin))
  |exact Ug fin
theorem JI(I:Inv X a3 Z H s)(g:DGet H a y o):s.TypeIs (.ref a) "dict" := by
 rcases g with⟨kvs,k,e,_,_⟩|⟨kvs,k,b,e,_,_,_⟩
 ·obtain⟨_,_,vs,_,dd⟩:=qaj I.hok e
  exact dd.typeIs
 ·obtain⟨_,_,xs,_,dd⟩:=qah I.hok e
  exact dd.typeIs
def YX(td ty:TE):TE:=λZ H Q=>td Z H λx H1=>ty Z H1 λy H2=>∃a v,x=.ref a/\DGet H2 a y (some v)/\Q v H2
def tDIn(ty td:TE):TE:=λZ H Q=>ty Z H λy H1=>td Z H1 λx H2=>∃a o,x=.ref a/\DGet H2 a y o/\Q (.bl o.isSome) H2
def Vw(ty td:TE):TE:=λZ H Q=>ty Z H λy H1=>td Z H1 λx H2=>∃a o,x=.ref a/\DGet H2 a y o/\Q (.bl (!o.isSome)) H2
def q7h(td ty tv:TE):TS:=λD Z H=>tv Z H λv H1=>td Z H1 λx H2=>ty Z H2 λy H3=>∃a H4,x=.ref a/\DPut H3 a y v H4/\D.nx Z H4
theorem q8i(hu:X.A.units+1<cLine)(hi:PE X i ty)(ho:PE X o td):PC X .In i o (tDIn ty td):=by
 intro a3 s Z H Q I h;refine thn (hi a3 s Z H _ I h) λiv s1 ⟨y,H1,I1,ry,q1⟩=>thn (ho a3 s1 Z H1 _ I1 q1) λu s2 zz=>?_;obtain⟨x,H2,I2,rx,a,ov,ex,g,q2⟩:=zz;subst ex;obtain rfl:u=Value.ref a:=rx;exact d_in hu I2 g ry λs3 I3=>⟨.bl ov.isSome,H2,I3,rfl,q2⟩
theorem WP(hu:X.A.units+1<cLine)(hi:PE X i ty)(ho:PE X o td):PC X .NotIn i o (Vw ty td):=by
 intro a3 s Z H Q I h;refine thn (hi a3 s Z H _ I h) λiv s1 ⟨y,H1,I1,ry,q1⟩=>thn (ho a3 s1 Z H1 _ I1 q1) λu s2 zz=>?_;obtain⟨x,H2,I2,rx,a,ov,ex,g,q2⟩:=zz;subst ex;obtain rfl:u=Value.ref a:=rx;exact q3A hu I2 g ry λs3 I3=>⟨.bl (!ov.isSome),H2,I3,rfl,q2⟩
theorem Ku(h:Heap)(hb:sysModules<h.objs.size):ObjOk P w H (h.push { cls:=.type "dict", data:=.dict #[] }) h.objs.size (.dK []):=
 ⟨DQ _,beq_eq_false_iff_ne.mpr (Ne.symm (Dy hb)), [],.nil,Heap.DictOf.new h⟩
def J1:TE:=λ_ H Q=>∀p,H p=none->Q (.ref p) (upd H p (.dK []))
def J0:List (TE×TE)->St->Hp->(List (V×V)->Hp->Prop)->Prop
 | [],_,H,Q=>Q [] H
 | (tk,tv)::r,Z,H,Q=>tk Z H λx H1=>tv Z H1 λy H2=>J0 r Z H2 λps H3=>Q ((x,y)::ps) H3
abbrev VV:List (V×V)->List (Value×Value)->Prop:=Paired λp q=>RelV p.1 q.1/\RelV p.2 q.2
def PPs(X:Cx)(pos:Pos)(keys:List (Option Expr))(cF:List Expr)(e8:List (TE×TE)):Prop :=
 ∀(a3:List (Addr×Obj))(s:Shared)(Z:St)(H:Hp)(Q:List (V×V)->Hp->Prop),Inv X a3 Z H s->J0 e8 Z H Q ->
  wpAny (model X.prog X.w) X.A (evalPairs (pairTrees keys cF X.env pos)) (λvs s'=>∃ps H',Inv X a3 Z H' s'/\VV ps vs/\Q ps H') X.xe s
theorem q5o:PPs X pos [] [] []:=λa3 s Z H Q I h=>pairTrees_nil_walk ⟨[],H,I,.nil,h⟩
def Qk(kvs more:List (Key×V)):List (Key×V):=more.foldl (λa8 kv=>putK a8 kv.1 kv.2) kvs
theorem KV.merge:∀{more:List (Key×V)}{rs:List (Key×Value)}{kvs:List (Key×V)}{vs:List (Key×Value)},KV more rs->KV kvs vs->KV (Qk kvs more) (merged vs rs):=by
 intro more rs kvs vs r;unfold KV at r
 induction r generalizing kvs vs with
 |nil=>intro q;exact q
 | @cons p q ps qs h t ih=>
  intro r0;have e:KV (putK kvs p.1 p.2) (stored vs q.1 q.2):=by
   have:=r0.put p.1 h.2;rw[<-h.1];exact this
  exact ih e
theorem jp:∀(more kvs:List (Key×V)),(Qk kvs more).length<=kvs.length+more.length
 | [],kvs=>by show kvs.length<=kvs.length+0;lia
 |p::r,kvs=>by
  have h1:=jp r (putK kvs p.1 p.2);have h2:=jb kvs p.1 p.2;show(Qk (putK kvs p.1 p.2) r).length<=_;rw[Dj];lia
theorem Vo:∀{kvs:List (Key×V)}{ws:List (Value×Value)},VV (kvs.map λkv=>(kV kv.1,kv.2)) ws->∃rs,Carries (qZ P w) ws rs/\KV kvs rs
 | [],_,r=>by rw[Rx]at r;cases r;exact⟨[],True.intro,.nil⟩
 |p::kvs,_,r=>by
  rw[Dx]at r;cases r with
  | @cons a b as bs h t=>
   obtain⟨rs,c,q⟩:=Vo (P:=P) (w:=w) t;obtain⟨b1,b2⟩:=b;exact⟨(p.1,b2)::rs,⟨Jv h.1,rfl,c⟩,.cons ⟨rfl,h.2⟩ q⟩
def q8G(e8:List (TE×TE)):TE:=λZ H Q=>∀p,H p=none->J0 e8 Z (upd H p (.dK [])) λps H2=>H2 p=some (.dK [])/\∃kvs:List (Key×V),ps=kvs.map (λkv=>(kV kv.1,kv.2))/\kvs.length<=15/\Q (.ref p) (upd H2 p (.dK (Qk [] kvs)))
structure M1(X:Cx)(o:Expr)(m:Str)(aK:Pos)(e:Expr)(aB:Pos):Prop where
 base:attributeBase o m X.env (eval o X.env)=eval o X.env
 few:((backTo aB (starEach [e] X.env)).all (λx=> !x.1)&&(backToKw aB (keywordEach [] X.env)).all (λx=>x.1.isSome)
  && decide (([e]:List Expr).length+([]:List Keyword).length+(if([]:List Keyword).isEmpty then 0 else 1)<30))=true
 line:(aK.endLine==aB.line)=true
 trees:backTo aB (starEach [e] X.env)=[(false,eval e X.env)]
structure M2(X:Cx)(o:Expr)(m:Str)(aK:Pos)(e f:Expr)(aB:Pos):Prop where
 base:attributeBase o m X.env (eval o X.env)=eval o X.env
 few:((backTo aB (starEach [e,f] X.env)).all (λx=> !x.1)&&(backToKw aB (keywordEach [] X.env)).all (λx=>x.1.isSome)
  && decide (([e,f]:List Expr).length+([]:List Keyword).length+(if([]:List Keyword).isEmpty then 0 else 1)<30))=true
 line:(aK.endLine==aB.line)=true
 trees:backTo aB (starEach [e,f] X.env)=[(false,eval e X.env),(false,eval f X.env)]
def cxC(X:Cx)(scope:Scope)(cl:List (Str×Addr))(M:List Str)(fp:List Addr)(s:Shared)(H:Hp):Cx :=
 { X with N:=M,s₀:=s,H₀:=H,env:=compEnvC scope cl s.heap.objs.size X.env,outer:=X.stack,stack:=X.stack,ex:=fp,fn:=λ_=>false,pn:=[],xe:=λ_ _=>False }
def zg(bs:List Bool)(n:Nat)(Z:St):St:=(bs.zip Z).map (λp=>if p.1 then p.2 else none)++List.replicate n none
def ExtS(Z τ:St):Prop:=∀(i:Nat) v,Z[i]?=some (some v)->τ[i]?=some (some v)
theorem ExtS.refl(Z:St):ExtS Z Z:=λ_ _ h=>h
theorem ExtS.trans(h:ExtS a b)(k:ExtS b c):ExtS a c:=λi v e=>k i v (h i v e)
theorem ExtS.put(h:ExtS Z τ)(e:Z[i]?=some none):ExtS Z (τ.set i (some v)):=λj w q=>by
 by_cases hj:i=j
 ·subst hj;rw[e]at q;cases q
 ·rw[Dq hj];exact h j w q
def q7C(J:It)(a8:Addr)(g:TG)(tt:TT)(te:TE)(fL:St)(H1:Hp)(Q:VK):Prop:=∃W:Nat->Nat->Hp->Prop,(∃m,W 0 m (upd H1 a8 (.lst []))) /\
 ∀i m H2,W i m H2->(J.stop i H2/\Q (.ref a8) H2)\/(J.go i H2/\∃N:Hp->Prop,(∀H',N H'->∃m',m'<m/\W (i+1) m' H')/\∀x H3,J.yld i H2 x H3->g x fL H3 λcQ H4=>(ExtS fL cQ/\cQ.length=fL.length)/\tt cQ H4 λb H5=>
  if b=true then te cQ H5 λv H6=>∃ys,H6 a8=some (.lst ys)/\ys.length<sizeLine/\N (upd H6 a8 (.lst (ys++[v]))) else N H5)
def xG(wi:TI)(bs:List Bool)(n:Nat)(g:TG)(tt:TT)(te:TE):TE:=λZ H Q=>wi Z H λJ H1=>∀a8,H1 a8=none->q7C J a8 g tt te (zg bs n Z) H1 Q
def PTs(X:Cx)(cg:List Expr)(t:TT):Prop :=
 ∀(a3:List (Addr×Obj))(s:Shared)(Z:St)(H:Hp)(Q:Bool->Hp->Prop),Inv X a3 Z H s->t Z H Q ->
  wpAny (model X.prog X.w) X.A (forIn cg true λc r=>if r=true then do let ok <-isTrue c X.env (eval c X.env);pure (ForInStep.yield ok) else pure (ForInStep.yield r)) (TP X a3 Z Q) X.xe s
def tYes:TT:=λ_ H Q=>Q true H
theorem q54:PTs X [] tYes:=λ_ _ _ H _ I h=>wpAny_tests_nil ⟨H,I,h⟩
structure CompS(X:Cx)(scope:Scope)(cl:List (Str×Addr))(bs:List Bool)(ext:List Str):Prop where
 clos:closureFor scope X.env=pure cl
 cell:∀y∈scope.names,y.2 ≠ .cell
 kind:scope.kind=.function
 names:∀y∈scope.names,y.2=.local->scope.names.lookup y.1=some .local
 sub:∀x c,cl.lookup x=some c->X.env.cells.lookup x=some c
 has:∀x,((relabel scope X.env).names.lookup x=some .cell\/(relabel scope X.env).names.lookup x=some .free)->∃c,cl.lookup x=some c
 len:bs.length=X.N.length
 vis:∀(i:Nat) x,X.N[i]?=some x->bs[i]?=some true->Vis (relabel scope X.env) x->(relabel scope X.env).names.lookup x≠some .local/\(X.env.kindOf x=some .cell\/X.env.kindOf x=some .free)/\Vis X.env.scope x
theorem Gx(h:bs.length=Z.length):(zg bs n Z).length=Z.length+n:=by
 unfold zg;simp[h]
set_option tactic.hygienic true in
theorem Gy(h:bs.length=Z.length)(e:(zg bs n Z)[i]?=some (some v)):i<Z.length/\bs[i]?=some true/\Z[i]?=some (some v):=by
 unfold zg at e;by_cases hi:i<Z.length
 ·rw[Df (by simp[h];exact hi),Dv]at e
  have hb:i<bs.length:=by lia
  rw[Dc (by simp[h];exact hi)]at e;simp only[List.getElem_zip,BJ]at e;split at e
  ·rename_i og
   refine⟨hi,?_,?_⟩
   ·rw[Dc hb];rw[og]
   ·rw[Dc hi];exact e
  ·cases e
 ·rw[Dk (by simp[h];lia),RJ]at e
  split at e<;>cases e
theorem q8V(S:CompS X scope cl bs ext)(I:Inv X a3 Z H s)(hf:∀b∈fp,FpOk X a3 H b)(fM:∀b∈fp,b<s.heap.objs.size):
  (cxC X scope cl (X.N++ext) fp s H).Ok where
 mod:=I.ok.mod
 kind:=S.kind
 glob:=I.ok.glob
 blt:=I.ok.blt
 above:=Dh _
 inj:=λx y c a b=>I.ok.inj x y c (S.sub x c a) (S.sub y c b)
 has:=S.has
 cab:=λx c h=>nomatch h
 hd:=I.ok.hd
 frames:=I.ok.frames
 stk:=.inl rfl
 exf:=λb hb=>⟨Dy (fM b hb),λx c e=>(hf b hb).2.2.2.2.1 x c (S.sub x c e)⟩
 bs:=I.bs
 bsz:=DB I.ok.bsz I.sz
 noex:=λb o e hb=>by
  rcases(hf b hb).2.2.2.1 with z|z
  ·exact I.ok.noex b o e z
  ·exact absurd (Du (Du (Heap.lt_size e) I.ok.bsz) z) (Rb _)
 exfs:=λb hb z=>by
  rcases Dr.mp (I.stkSub b z)with q|q
  ·exact(hf b hb).2.1 q
  ·exact(hf b hb).2.2.1 q
 funs:=I.stack
 frf:=I.stkFree
theorem qat(S:CompS X scope cl bs ext)(I:Inv X a3 Z H s)(hf:∀b∈fp,FpOk X a3 H b)(fM:∀b∈fp,b<s.heap.objs.size)(hn:h1.Ns s.heap.objs.size (λ_=>none))(k:∀b o,s.heap.get? b=some o->h1.get? b=some o):
  Inv (cxC X scope cl (X.N++ext) fp s H) [] (zg bs ext.length Z) H { s with heap:=h1,toks:=t' }:=by
 have hl:bs.length=Z.length:=S.len.trans I.len.symm;have fj:∀c v,s.heap.IsCell c v->h1.IsCell c v:=λc v ⟨o,ho,hd⟩=>⟨o,k c o ho,hd⟩;refine⟨q8V S I hf fM,rfl,I.bare,Un.kept k,⟨_,hn,λi x v e1 e2 e3=>?_⟩,λx c e=>?_,I.hok.fresh (Dh _),λx c e=>I.freeC x c (S.sub x c e),λp hp=>absurd hp (by simp[cxC]),I.hok.kept k,?_⟩
 ·obtain⟨hi,hb,hs⟩:=Gy hl e2
  have mU:X.N[i]?=some x:=by
   have lu:(X.N++ext)[i]?=some x:=e1;rwa [Df (by have:=I.len;lia)]at lu
  obtain⟨nl,kk,vv⟩:=S.vis i x mU hb e3;obtain⟨m,_,lw⟩:=I.loc;obtain⟨u,r,l⟩:=lw i x v mU hs vv;refine⟨u,r,.inr ⟨?_,?_⟩⟩
  ·rcases e3 with z|z|z
   ·exact absurd z nl
   ·exact .inl z
   ·exact .inr z
  ·have hc:=S.has x (by
    rcases e3 with z|z|z
    ·exact absurd z nl
    ·exact .inl z
    ·exact .inr z)
   obtain⟨c,hc⟩:=hc;rcases l with⟨kl,_⟩|⟨_,c',eL,cf⟩
   ·rcases kk with z|z<;>(rw[kl]at z;cases z)
   ·rw[S.sub x c hc]at eL
    cases eL;exact⟨c,hc,fj c _ cf⟩
 ·obtain⟨v,z⟩:=I.cell x c (S.sub x c e)
  exact⟨v,fj c v z⟩
 ·rw[Gx hl,I.len];show _=(X.N++ext).length;simp
theorem qau(I:Inv X a3 Z H s)(hf:∀b∈fp,FpOk X a3 H b)(J:Inv (cxC X scope cl (X.N++ext) fp s H) dy aj H' s')(sb:Heap.SameBut s.heap.objs.size s'.heap h'):Inv X a3 Z H' { s' with heap:=h' }:=by
 have B:Un (frs X.stack) fp H H' s.heap s'.heap:=J.base;have nC:∀b o,s.heap.get? b=some o->b≠s.heap.objs.size:=λb o e=>Dy (Heap.lt_size e);refine I.call' (ch:=fp) (s':={ s' with heap:=h' }) J.os ⟨λb o e n hb hx=>?_,λb o e n hb hx=>?_,λb o e n hx=>B.free b o e n hx,λb o e hx=>?_,B.tups,B.frzs,B.tbls⟩ ?_ J.bare λb hb=>⟨(hf b hb).2.2.2.1,(hf b hb).2.1,(hf b hb).2.2.2.2.1,(hf b hb).2.2.2.2.2⟩
 ·exact sb.extBut b o (nC b o e) (B.keep b o e n hb hx)
 ·obtain⟨sl,q⟩:=B.slot b o e n hb hx
  exact⟨sl,sb.extBut b _ (nC b o e) q⟩
 ·obtain⟨o',q⟩:=B.there b o e hx
  exact⟨o',sb.extBut b o' (nC b o e) q⟩
 ·intro a o e
  have fr:H' s.heap.objs.size=none:=J.free;refine(J.hok a o e).stay (λb u hb q=>sb.extBut b u ?_ q) (λ_ q=>q) λ_ _ q=>q;rcases hb with z|z
  ·subst z;intro z;rw[z,fr]at e;cases e
  ·intro z2;rw[z2,fr]at z;cases z
theorem KB(S:CompS X scope cl bs ext)(hc:CalP cm X)(hi:PIC cm X tg aC wi)(hg:∀fp s H,PG (cxC X scope cl (X.N++ext) fp s H) tg g)(ht:∀fp s H,PTs (cxC X scope cl (X.N++ext) fp s H) cg tt)(he:∀fp s H,PE (cxC X scope cl (X.N++ext) fp s H) elt te)(hs:∀x,foldedSetIterable aC X.env x=pure x)(I:Inv X a3 Z H s)(h:xG wi bs ext.length g tt te Z H Q)(ep:Pos)(lA:∀(a8:Addr)(s2:Shared)(H2:Hp)(fp:List Addr)(aj:St)(H':Hp)(s':Shared),Inv X a3 Z H2 s2->(∀b∈fp,FpOk X a3 H2 b)->Inv (cxC X scope cl (X.N++ext) fp s2 H2) [] aj H' s'->Q (.ref a8) H' ->
   compPost (model X.prog X.w) X.A X.xe use RR (.ref a8) s2.heap.objs.size (.ok .next) s'):
  wpAny (model X.prog X.w) X.A (comprehension (.ListComp elt [⟨tg,aC,cg,0⟩] scope pos) scope X.env ep (newList []) false (eval aC X.env) use) RR X.xe s:=by
 refine wpAny_comprehension_free (use:=use) rfl hs S.clos S.kind S.names (thn (hi a3 s Z H _ I h) λv s1 h1=>thn h1 λiX s2 h2=>?_);obtain⟨it,fp,tn,J,H2,e,I2,T,eN,f2,hW⟩:=h2;subst e;refine wpAny_newList ?_ (by decide);have gm:H2 s2.heap.objs.size=none:=I2.hok.fresh (Dh _);obtain⟨W,⟨m0,w0⟩,dP⟩:=hW s2.heap.objs.size gm;have I3:=I2.lnew (its:=[]) (ys:=[]) (t':=s2.toks) .nil (DQ _);generalize hs3:({ s2 with heap:=s2.heap.push { cls:=.type "list", data:=.seq ([]:List Value).toArray },toks:=s2.toks }:Shared)=s3 at I3;have lB:s3.heap.objs.size=s2.heap.objs.size+1:=by rw[<-hs3];exact Heap.size_push ..
 have k3:∀b o,s2.heap.get? b=some o->s3.heap.get? b=some o:=λb o e=>by rw[<-hs3];exact Heap.get?_push_of_some _ e
 have mV:∀b∈fp,b<s2.heap.objs.size:=λb hb=>by obtain⟨o,e,_⟩:=T.obj _ _ eN b hb;exact Heap.lt_size e
 have f3:∀b∈fp,FpOk X a3 (upd H2 s2.heap.objs.size (.lst [])) b:=λb hb=>⟨by rw[upd_ne (Dy (mV b hb))];exact(f2 b hb).1,(f2 b hb).2⟩;have mW:∀b∈fp,b<s3.heap.objs.size:=λb hb=>by rw[lB];exact Nat.lt_succ_of_lt (mV b hb)
 have gk:tn 0 s3.heap:=T.keep _ _ _ eN λb hb o e=>k3 b o e;refine wpAny_newFunctionEnv S.cell (by intro y hy;simp at hy) (λh4 lC lD=>?_) S.kind;have k4:∀b o,s3.heap.get? b=some o->h4.get? b=some o:=λb o e=>lD.extBut b o (Dy (Heap.lt_size e)) (Heap.get?_push_of_some _ e);have I4:=qat (ext:=ext) (t':=s3.toks+([]:List (Str×Value)).length) S I3 f3 mW (h1:=h4) lC k4;have oh:tn 0 h4:=T.keep _ _ _ gk λb hb o e=>k4 b o e;generalize hs4:({ s3 with heap:=h4,toks:=s3.toks+([]:List (Str×Value)).length }:Shared)=s4 at I4 ⊢;have gP:tn 0 s4.heap:=by rw[<-hs4];exact oh
 -- the block
 generalize hY:cxC X scope cl (X.N++ext) fp s3 (upd H2 s2.heap.objs.size (.lst []))=Y at I4;have lE:∀{H':Hp},(∀b∈fp,H' b=none)->∀b∈fp,FpOk Y [] H' b:=λhn b hb=>by
  subst hY;refine⟨hn b hb,Dy (mW b hb),λz=>?_,.inl hb,λx c e=>(f3 b hb).2.2.2.2.1 x c (S.sub x c e),λp hp=>absurd hp (by simp[cxC])⟩;rcases Dr.mp (I3.stkSub b z)with q|q
  ·exact(f3 b hb).2.1 q
  ·exact(f3 b hb).2.2.1 q
 have oi:PG Y tg g:=by subst hY;exact hg _ _ _
 have oj:PTs Y cg tt:=by subst hY;exact ht _ _ _
 have ol:PE Y elt te:=by subst hY;exact he _ _ _
 have mX:CalP cm Y:=by subst hY;cases cm<;>exact hc
 have om:Y.prog=X.prog/\Y.w=X.w/\Y.K=X.K/\Y.A=X.A/\Y.env=compEnvC scope cl s3.heap.objs.size X.env/\Y.xe=λ_ _=>False:=by subst hY;exact⟨rfl,rfl,rfl,rfl,rfl,rfl⟩
 obtain⟨e1,e2,e3,e4,e5,e6⟩:=om;have never:∀{α:Type}{t:Sem α}{Q:α->Shared->Prop}{s:Shared}{E:Value->Shared->Prop},wpAny (model Y.prog Y.w) Y.A t Q Y.xe s->wpAny (model X.prog X.w) X.A t Q E s:=λ{α t Q s E} q=>by
  rw[e1,e2,e4,e6]at q;exact Uk q (λ_ _ z=>z) λ_ _ z=>z.elim
 have loop:codeAny (model X.prog X.w) X.A (.compLoop (.ListComp elt [⟨tg,aC,cg,0⟩] scope pos) 0 (.ref it) (.ref s2.heap.objs.size) (compEnvC scope cl s3.heap.objs.size X.env))
   (compPost (model X.prog X.w) X.A X.xe use RR (.ref s2.heap.objs.size) s3.heap.objs.size) s4:=by
  refine codeAny_loop rfl (λn s'=>∃i H',Inv Y [] (zg bs ext.length Z) H' s'/\tn i s'.heap/\(∀b∈fp,H' b=none)/\W i n H') (λn s5 hI=>?_) m0 ⟨0,_,I4,gP,λb hb=>(f3 b hb).1,w0⟩;obtain⟨i,H5,I5,gl,iE,w5⟩:=hI;show wpAny _ X.A ((compTurn (.ListComp elt [⟨tg,aC,cg,0⟩] scope pos) 0 (.ref it) (.ref s2.heap.objs.size) (compEnvC scope cl s3.heap.objs.size X.env)).onRaise (λx=>do noteFrame x (compEnvC scope cl s3.heap.objs.size X.env);theTreesLotGoes x)) _ _ s5;refine wpAny_noted ?_;rw[compTurn_list];rcases dP i n H5 w5 with⟨stop,qn⟩|⟨go,N,hN,step⟩
  ·refine Ug (Uv (Ug ?_))
   have hd:=T.done Y e1 e2 e3 mX i [] s5 _ H5 (λ_ _=>False) I5 (lE iE) gl stop;rw[e4]at hd;refine Uk hd (λr s6 ⟨hr,I6⟩=>?_) λ_ _ z=>z.elim;subst hr;subst hY;exact Ui (lA s2.heap.objs.size s3 _ fp _ H5 s6 I3 f3 I6 qn)
  ·refine Ug (Uv (Ug ?_))
   have hd:=T.item Y e1 e2 e3 mX i [] s5 _ H5 (λ_ _=>False) I5 (lE iE) gl go;rw[e4]at hd;refine Uk hd (λr s6 ⟨u,hr,h6⟩=>?_) λ_ _ z=>z.elim;subst hr;refine Ug (Uk h6 (λ_ s7 ⟨x,H7,I7,r7,y7,lF,oo⟩=>?_) λ_ _ z=>z.elim);have oq:=I7.pinned (lE oo) (T.obj _ _ lF);rw[<-e5];refine Ug (never (thn (oi _ s7 _ H7 x u _ oq r7 (step x H7 y7)) λ_ s8 zz=>?_));obtain⟨iK,H8,I8,⟨ot,ou⟩,q8⟩:=zz;refine Ug (never (thn (oj _ s8 iK H8 _ I8 q8) λb s9 zz=>?_));obtain⟨H9,I9,q9⟩:=zz;have again:∀{gn:Hp}{gp:Shared}{m':Nat},Inv Y ([]++ZR fp s7.heap) iK gn gp->m'<n->W (i+1) m' gn->∃m,m<n/\∃i H',Inv Y [] (zg bs ext.length Z) H' gp/\tn i gp.heap/\(∀b∈fp,H' b=none)/\W i m H':=λ{gn gp m'} gQ hm lG=>by
    refine⟨m',hm,i+1,gn,(gQ.unpinned).weak ou.symm ot,T.keep _ _ _ lF λb hb o e=>(gQ.pin (b,o) (Dt _ (Dt _ (xx hb e)))).1,λb hb=>?_,lG⟩;obtain⟨o,e,d⟩:=T.obj _ _ lF b hb;exact(gQ.pin (b,o) (Dt _ (Dt _ (xx hb e)))).2.1
   cases b with
   |false=>
    rw[Uh Dn]at q9;obtain⟨m',hm,w9⟩:=hN _ q9;exact Ui ⟨by rw[e5],again I9 hm w9⟩
   |true=>
    rw[Uj rfl]at q9;refine Ug (Ug (never (thn (ol _ s9 iK H9 _ I9 q9) λxv gp zz=>?_)));obtain⟨y,gn,gQ,ow,ys,fN,hz,oy⟩:=zz;obtain⟨m',hm,lG⟩:=hN _ oy;refine Ug (never (thn (zt (X:=Y) _ gp iK gn (.ref s2.heap.objs.size) [y] (.ref s2.heap.objs.size) [xv] (λ_ H=>∃m',m'<n/\W (i+1) m' H) gQ rfl (.cons ow .nil) ⟨_,ys,y,rfl,rfl,fN,hz,m',hm,lG⟩) λ_ s11 zz=>?_));obtain⟨_,H11,oz,_,m2,iL,oA⟩:=zz;exact Ui (Ui ⟨by rw[e5],again oz iL oA⟩)
 exact codeAny_compStart_list loop (T.self X.A 0 s4 _ _ gP loop)
theorem WN(S:CompS X scope cl bs ext)(hc:CalP cm X)(hi:PIC cm X tg aC wi)(hg:∀fp s H,PG (cxC X scope cl (X.N++ext) fp s H) tg g)(ht:∀fp s H,PTs (cxC X scope cl (X.N++ext) fp s H) cg tt)(he:∀fp s H,PE (cxC X scope cl (X.N++ext) fp s H) elt te)(hs:∀x,foldedSetIterable aC X.env x=pure x:=by intro _;rfl):PE X (.ListComp elt [⟨tg,aC,cg,0⟩] scope pos) (xG wi bs ext.length g tt te):=by
 intro a3 s Z H Q I h;rw[eval_ListComp];refine KB (use:=none) S hc hi hg ht he hs I h _ λa8 s2 H2 fp aj H' s' I2 f2 J q=>?_;obtain⟨m,hn,_⟩:=J.loc;exact⟨m,hn,λh' sb=>⟨.ref a8,H',qau I2 f2 J sb,rfl,q⟩⟩
theorem q59(S:CompS X scope cl bs ext)(hc:X.calm=true)(hN:X.N.Nodup)(gR:X.N[i]?=some x)(hx:X.env.scope.names.lookup x=some .local)(hi:PI X tg aC wi)(hg:∀fp s H,PG (cxC X scope cl (X.N++ext) fp s H) tg g)(ht:∀fp s H,PTs (cxC X scope cl (X.N++ext) fp s H) cg tt)(he:∀fp s H,PE (cxC X scope cl (X.N++ext) fp s H) elt te)(gU:swapsWith (.ListComp elt [⟨tg,aC,cg,0⟩] scope pos) (some (.Name x pos')) spos.line X.env=pure true)(hs:∀x,foldedSetIterable aC X.env x=pure x:=by intro _;rfl):PS X (.Assign [.Name x pos'] (.ListComp elt [⟨tg,aC,cg,0⟩] scope pos) spos) (tAsg (xG wi bs ext.length g tt te) (qM i)):=by
 intro a3 s Z H D I h;rw[exec_Assign_Name_used _ _ _ _ gU];refine Ug (Uv (Ug ?_));show wpAny _ X.A (do let _ <-comprehension (.ListComp elt [⟨tg,aC,cg,0⟩] scope pos) scope X.env _ (newList []) false (eval aC X.env) (some (assign (.Name x pos') X.env))) _ _ s;refine Ug (Uk (KB (cm:=true) (use:=some (assign (.Name x pos') X.env)) (RR:=λ_ s'=>SP X a3 D .next s') S hc hi hg ht he hs I h _ λa8 s2 H2 fp aj H' s' I2 f2 J q=>?_) (λ_ s' hq=>Ui (Ui hq)) λ_ _ e=>e);have I5:Inv X a3 Z H' s':=by
  have:=qau (h':=s'.heap) I2 f2 J (.refl ..);exact this
 show wpAny _ X.A (assign (.Name x pos') X.env (.ref a8)) _ _ s';obtain⟨m,hn,_⟩:=J.loc;have mY:s2.heap.objs.size≠X.env.locals:=qbo I2.lt;have nC:∀b o,s2.heap.get? b=some o->b≠s2.heap.objs.size:=λb o e=>Dy (Heap.lt_size e);have cC:∀y c,X.env.cells.lookup y=some c->c≠s2.heap.objs.size:=λy c e=>by
  obtain⟨v,o,ho,_⟩:=I2.cell y c e;exact nC c o ho
 refine wpAny_assign_Name (ZC I5 hN gR (.inl hx) (v:=.ref a8) rfl (λs6 I6 k6=>?_) (.inr hx));obtain⟨a,oB,ha⟩:=k6;have oC:a≠s2.heap.objs.size:=by
  rcases ha with z|z
  ·rw[z];exact mY.symm
  ·exact cC x a z
 refine⟨m,hn.sameBut oB oC.symm,λh' sb=>?_⟩;refine⟨_,H',I6.turned (t':=s6.toks) (it:=s2.heap.objs.size) (λb o hb e=>sb.extBut b o hb e) ?_ mY (.inr (DB I2.ok.above (DT I2.lt))) cC λp hp=>?_,q⟩
 ·have fr:H' s2.heap.objs.size=none:=J.free
  exact fr
 ·exact nC p.1 p.2 (I2.pin p hp).1
theorem qaC(Pv:Nat->Hp->Prop)(h0:Pv 0 (upd H1 a8 (.lst [])))(hl:∀i H,i<=xs.length->Pv i H->SqL Ξ H a xs)(hs:∀i x H,xs[i]?=some x->Pv i H->g x fL H λcQ H4=>(ExtS fL cQ/\cQ.length=fL.length)/\tt cQ H4 λb H5=>
   if b=true then te cQ H5 λv H6=>∃ys,H6 a8=some (.lst ys)/\ys.length<sizeLine/\Pv (i+1) (upd H6 a8 (.lst (ys++[v]))) else Pv (i+1) H5)(hd:∀H,Pv xs.length H->Q (.ref a8) H):q7C (Itl Ξ a) a8 g tt te fL H1 Q:=by
 refine⟨λi m H=>m=xs.length-i/\i<=xs.length/\Pv i H,⟨xs.length,by simp,DQ _,h0⟩,?_⟩;rintro i m H ⟨rfl,hi,p⟩;have q:=hl i H hi p;by_cases bY:i<xs.length
 ·refine .inr ⟨⟨xs,xs[i],q,by simp[bY]⟩,Pv (i+1),λH' p'=>⟨xs.length-(i+1),by lia,rfl,bY,p'⟩,λx H' y=>?_⟩
  obtain⟨e,y⟩:=y;subst e;exact hs i x _ (y xs q) p
 ·have e:i=xs.length:=by lia
  subst e;exact .inl ⟨⟨xs,q,Dh _⟩,hd H p⟩
def clOf(env:Env):List (Str×NameKind)->List (Str×Addr)->List (Str×Addr)
 | [],cs=>cs
 | (n,k)::r,cs=>clOf env r (if(k==NameKind.free)=true then(n,(env.cells.lookup n).getD 0)::cs else cs)
theorem q69(scope:Scope)(h:∀p∈scope.names,p.2=.free->∃c,env.cells.lookup p.1=some c):closureFor scope env=pure (clOf env scope.names []):=by
 unfold closureFor;generalize([]:List (Str×Addr))=cs0;generalize scope.names=ns at h;have aD:∀(ns:List (Str×NameKind))(cs:List (Str×Addr)),(∀p∈ns,p.2=.free->∃c,env.cells.lookup p.1=some c) ->
   (forIn ns cs λ(x:Str×NameKind) (r:List (Str×Addr))=>(match x with|(name,kind)=>if(kind==NameKind.free)=true then do let c <-cellOf env name;pure (ForInStep.yield ((name,c)::r)) else pure (ForInStep.yield r):Sem (ForInStep (List (Str×Addr)))))=pure (clOf env ns cs):=by
  intro ns
  induction ns with
  |nil=>intro cs _;rfl
  |cons p r ih=>
   intro cs hp;obtain⟨n,k⟩:=p;rw[List.forIn_cons];by_cases hk:(k==NameKind.free)=true
   ·obtain⟨c,hc⟩:=hp (n,k) DH (by simpa using hk)
    have cf:cellOf env n=pure c:=by unfold cellOf;rw[hc]
    simp only[hk,U1,cf,pure_bind];rw[ih _ λq hq=>hp q (DL _ hq)];have eL:List.lookup n env.cells=some c:=hc;simp[clOf,hk,eL]
   ·simp only[hk,D7,UP,pure_bind]
    rw[ih _ λq hq=>hp q (DL _ hq)];simp[clOf,hk]
 have:=aD ns cs0 h;rw[show(do
   let mut cs:=cs0
   for (name,kind) in ns do
    if kind == .free then cs:=(name, <-cellOf env name)::cs
   return cs:Sem (List (Str×Addr)))=(forIn ns cs0 λ(x:Str×NameKind) (r:List (Str×Addr))=>(match x with|(name,kind)=>if(kind==NameKind.free)=true then do let c <-cellOf env name;pure (ForInStep.yield ((name,c)::r)) else pure (ForInStep.yield r):Sem (ForInStep (List (Str×Addr))))) >>= pure from rfl]
 rw[this,pure_bind]
set_option tactic.hygienic true in
theorem KD:∀(ns:List (Str×NameKind))(cs:List (Str×Addr)),(∀p∈ns,p.2=.free->∃c,env.cells.lookup p.1=some c)->(∀x c,cs.lookup x=some c->env.cells.lookup x=some c)->∀x c,(clOf env ns cs).lookup x=some c->env.cells.lookup x=some c
 | [],cs,_,h,x,c,e=>h x c e
 | (n,k)::r,cs,hp,h,x,c,e=>by
  refine KD r _ (λq hq=>hp q (DL _ hq)) (λy d e'=>?_) x c e;split at e'
  ·rename_i hk
   obtain⟨c',hc⟩:=hp (n,k) DH (by simpa using hk);rw[DC]at e';have eL:List.lookup n env.cells=some c':=hc;rw[eL]at e';split at e'
   ·rename_i hy
    have lc:y=n:=by simpa using hy
    subst lc;rw[<-e'];exact eL
   ·exact h y d e'
  ·exact h y d e'
theorem KF:∀(ns:List (Str×NameKind))(cs:List (Str×Addr))(x:Str),((x,NameKind.free)∈ns\/∃c,cs.lookup x=some c)->∃c,(clOf env ns cs).lookup x=some c
 | [],cs,x,h=>by
  rcases h with h|h
  ·cases h
  ·exact h
 | (n,k)::r,cs,x,h=>by
  refine KF r _ x ?_;rcases h with h|⟨c,h⟩
  ·rcases Dr.mp h with h|h
   ·injection h with h1 h2
    subst h1 h2;right;exact⟨_,by simp[DC];rfl⟩
   ·exact .inl h
  ·right
   split
   ·rw[DC]
    split
    ·exact⟨_,rfl⟩
    ·exact⟨c,h⟩
   ·exact⟨c,h⟩
def je(scope:Scope)(env:Env)(N:List Str)(bs:List Bool):Bool :=
 scope.names.all (λp=>p.2 != .cell)&&(scope.kind == .function)&&scope.names.all (λp=>p.2 != .local||scope.names.lookup p.1==some .local)&&(bs.length==N.length)
  && scope.names.all (λp=>p.2 != .free||(env.kindOf p.1==some .cell||env.kindOf p.1==some .free))&&(N.zip bs).all (λp=> !p.2||scope.names.lookup p.1==some .free)
set_option tactic.hygienic true in
theorem mem_of_lookup{β:Type}{x:Str}{b:β}:∀{l:List (Str×β)},l.lookup x=some b->(x,b)∈l
 | [],h=>by simp at h
 | (y,c)::r,h=>by
  rw[DC]at h;split at h
  ·rename_i hy
   have:x=y:=by simpa using hy
   subst this;cases h;exact DH
  ·exact DL _ (mem_of_lookup h)
theorem vH{env:Env}:∀{names:List (Str×NameKind)}{x:Str}{k:NameKind},
  (names.map λ(n,k)=>if(k==NameKind.free&&env.scope.kind == .function&&env.kindOf n==some .cell) then(n,NameKind.cell) else(n,k)).lookup x=some k->names.lookup x=some k\/(k=.cell/\names.lookup x=some .free)
 | [],_,_,h=>by simp at h
 | (n,k')::r,x,k,h=>by
  have ih:=@vH env r x k;have h':List.lookup x ((if(k'==NameKind.free&&env.scope.kind == .function&&env.kindOf n==some .cell)=true then(n,NameKind.cell) else(n,k'))::(r.map λ(n,k)=>if(k==NameKind.free&&env.scope.kind == .function&&env.kindOf n==some .cell) then(n,NameKind.cell) else(n,k)))=some k:=h;by_cases hc:(k'==NameKind.free&&env.scope.kind == .function&&env.kindOf n==some .cell)=true
  ·rw[Uj hc,DC]at h'
   rw[DC];have hf:k'=.free:=by
    cases k'<;>first|rfl|(exfalso;revert hc;simp)
   split at h'
   ·right
    injection h' with h'
    rw[hf];exact⟨h'.symm,rfl⟩
   ·exact ih h'
  ·rw[Uh hc,DC]at h'
   rw[DC];split at h'
   ·exact .inl h'
   ·exact ih h'
theorem CompS.of(I:Inv X a3 Z H s)(h:je scope X.env X.N bs=true):CompS X scope (clOf X.env scope.names []) bs ext:=by
 unfold je at h;simp only[D9,RZ]at h;obtain⟨⟨⟨⟨⟨h1,h2⟩,h3⟩,h4⟩,h5⟩,h6⟩:=h;have hc:∀p∈scope.names,p.2=.free->∃c,X.env.cells.lookup p.1=some c:=λp hp hf=>by
  have:=h5 p hp;rw[hf]at this;refine I.ok.has p.1 ?_;simpa using this
 have fO:∀{x:Str},scope.names.lookup x≠some .cell:=λ{x} e=>by
  have:=h1 _ (mem_of_lookup e);simp at this
 refine⟨q69 scope hc,λy hy=>by simpa using h1 y hy,by simpa using h2,λy hy hl=>?_,λx c e=>KD scope.names [] hc (λ_ _ z=>by simp at z) x c e,λx hx=>?_,by simpa using h4,λi x hN hb hv=>?_⟩
 ·have:=h3 y hy
  rw[hl]at this;simpa using this
 ·refine KF scope.names [] x (.inl ?_)
  rcases hx with hx|hx
  ·rcases vH hx with z|⟨_,z⟩
   ·exact absurd z fO
   ·exact mem_of_lookup z
  ·rcases vH hx with z|⟨z,_⟩
   ·exact mem_of_lookup z
   ·cases z
 ·have hz:(x,true)∈X.N.zip bs:=by
   have:(X.N.zip bs)[i]?=some (x,true):=by
    rw[List.getElem?_zip_eq_some];exact⟨hN,hb⟩
   exact De this
  have hf:=h6 _ hz;have hf:scope.names.lookup x=some .free:=by simpa using hf
  have hk:=h5 _ (mem_of_lookup hf);have hk:X.env.kindOf x=some .cell\/X.env.kindOf x=some .free:=by simpa using hk
  refine⟨λz=>?_,hk,?_⟩
  ·rcases vH z with q|⟨q,_⟩
   ·rw[hf]at q;cases q
   ·cases q
  ·rcases hk with q|q
   ·exact .inr (.inl q)
   ·exact .inr (.inr q)
abbrev cxB(X:Cx)(scope:Scope)(ext:List Str)(fp:List Addr)(s:Shared)(H:Hp):Cx:=cxC X scope (clOf X.env scope.names []) (X.N++ext) fp s H
theorem q9N(bs:List Bool)(ext:List Str)(hi:PI X tg aC wi)(hg:∀fp s H,PG (cxB X scope ext fp s H) tg g)(ht:∀fp s H,PTs (cxB X scope ext fp s H) cg tt)(he:∀fp s H,PE (cxB X scope ext fp s H) elt te)(hk:je scope X.env X.N bs=true:=by rfl)(hc:X.calm=true:=by rfl)(hs:∀x,foldedSetIterable aC X.env x=pure x:=by intro _;rfl):
  PE X (.ListComp elt [⟨tg,aC,cg,0⟩] scope pos) (xG wi bs ext.length g tt te):=λa3 s Z H Q I h=>WN (cm:=true) (CompS.of I hk) hc hi hg ht he hs a3 s Z H Q I h
theorem q9q(bs:List Bool)(ext:List Str)(hN:X.N.Nodup)(gR:X.N[i]?=some x)(hx:X.env.scope.names.lookup x=some .local)(hi:PI X tg aC wi)(hg:∀fp s H,PG (cxB X scope ext fp s H) tg g)(ht:∀fp s H,PTs (cxB X scope ext fp s H) cg tt)(he:∀fp s H,PE (cxB X scope ext fp s H) elt te)(hk:je scope X.env X.N bs=true:=by rfl)(hc:X.calm=true:=by rfl)(gU:swapsWith (.ListComp elt [⟨tg,aC,cg,0⟩] scope pos) (some (.Name x pos')) spos.line X.env=pure true:=by rfl)(hs:∀x,foldedSetIterable aC X.env x=pure x:=by intro _;rfl):
  PS X (.Assign [.Name x pos'] (.ListComp elt [⟨tg,aC,cg,0⟩] scope pos) spos) (tAsg (xG wi bs ext.length g tt te) (qM i)):=λa3 s Z H D I h=>q59 (CompS.of I hk) hc hN gR hx hi hg ht he gU hs a3 s Z H D I h
def q8m(i j:Int):Prop:=0<j/\j.natAbs.log2<9000
theorem q98(h:q8m i j):Builtin.divisionGoesByPylong i j=false:=Bp h.2
theorem kr:OpR X (binaryOp .FloorDiv) (rI q8m λi j=>.int (i / j)):=opI λi j _ _ _ _ _ hc q=>by
 refine floordiv_int (by have:=hc.1;lia) ?_ (.inl (q98 hc));rw[RC _ (by have:=hc.1;lia)];exact q
theorem rd_I:rI C g (.int i) (.int j) H Q=(C i j/\Q (g i j) H):=
 propext ⟨λzz=>by obtain⟨_,_,e1,e2,h⟩:=zz;cases e1;cases e2;exact h,λh=>⟨i,j,rfl,rfl,h⟩⟩
theorem q1p:rI0 g (.int i) (.int j) H Q=Q (g i j) H :=
 propext ⟨λzz=>by obtain⟨_,_,e1,e2,h⟩:=zz;cases e1;cases e2;exact h,λh=>⟨i,j,rfl,rfl,h⟩⟩
theorem rd_U:rU g (.int i) H Q=Q (g i) H :=
 propext ⟨λzz=>by obtain⟨_,e1,h⟩:=zz;cases e1;exact h,λh=>⟨i,rfl,h⟩⟩
theorem VQ:Vu t Z H R=t Z H λx H'=>∃k,x=.bl k/\R k H':=rfl
theorem q1o{R:Bool->Prop}:(∃k',V.bl k=.bl k'/\R k')=R k:=propext ⟨λzz=>by obtain⟨_,e,h⟩:=zz;cases e;exact h,λh=>⟨k,rfl,h⟩⟩
theorem q0Y{R:Int->Prop}:(∃j,([V.int i]:List V)=[V.int j]/\R j)=R i:=propext ⟨λzz=>by obtain⟨_,e,h⟩:=zz;cases e;exact h,λh=>⟨i,rfl,h⟩⟩
theorem q09{R:Int->Int->Prop}:(∃i j,([V.int a,V.int b]:List V)=[V.int i,V.int j]/\R i j)=R a b:=propext ⟨λzz=>by obtain⟨_,_,e,h⟩:=zz;cases e;exact h,λh=>⟨a,b,rfl,h⟩⟩
theorem q1A{R:Addr->List V->Prop}:(∃p ys,([V.ref a]:List V)=[V.ref p]/\R p ys)=∃ys,R a ys:=propext ⟨λzz=>by obtain⟨_,ys,e,h⟩:=zz;cases e;exact⟨ys,h⟩,λ⟨ys,h⟩=>⟨a,ys,rfl,h⟩⟩
theorem zY(hp:H p=none)(h:H x=some o):upd H p o' x=some o:=by rw[upd_ne (qN h hp)];exact h
theorem kh(hn:x≠p)(h:H x=some o):upd H p o' x=some o:=by rw[upd_ne hn];exact h
theorem Zd(h:upd H p o' x=none):H x=none/\x≠p:=by
 have hx:x≠p:=λe=>by subst e;rw[upd_same]at h;cases h
 rw[upd_ne hx]at h;exact⟨h,hx⟩
theorem Same.upd{H:Hp}{H1:Hp}{p:Addr}{o:HO}(s:Same H H1)(h:H p=none):Same H (upd H1 p o):=λb o' e=>by
 rw[upd_ne (qN e h)];exact s b o' e
theorem ExtS.nl:ExtS [] []:=λ_ _ h=>h
theorem ExtS.no(h:ExtS a b):ExtS (none::a) (x::b):=λi v e=>by
 cases i with
 |zero=>simp at e
 |succ i=>simpa using h i v (by simpa using e)
theorem ExtS.sm(h:ExtS a b):ExtS (x::a) (x::b):=λi v e=>by
 cases i with
 |zero=>simpa using e
 |succ i=>simpa using h i v (by simpa using e)
structure Def(P:Program)(w:World)(Ξ:PySem.W.Frag)(mg:Str->Option Value)(base:Heap)(x:Str)(k:Nat)(ps:List Str)(sp:Sp):Prop where
 ex:∃(f:Addr)(fd:FuncData),mg x=some (.ref f)/\W.keepIn Ξ (.ref f)=true/\Binds Ξ fd ps []/\FnOk P w Ξ mg base CX0 k f fd ps sp
def rIsi(Ξ:PySem.W.Frag):List V->Hp->VK->Prop:=λxs H Q=>∃x n t b,xs=[x,.ty n]/\TyOf Ξ H x (.type t)/\W.kitOne Ξ (.type t) (.type n)=some b/\Q (.bl b) H
theorem q0h:zB X (.builtin "isinstance") (rIsi X.K):=by
 intro a3 s Z H xs us Q I r h;obtain⟨x,n,t,b,rfl,ty,e,q⟩:=h;obtain⟨u,v,rfl,ru,rv⟩:=Yz r;obtain rfl:v=Value.type n:=rv;exact GP I ru ty e λtk=>⟨.bl b,H,I.tok tk,rfl,q⟩
inductive DE(Ξ:PySem.W.Frag)(H:Hp):Nat->V->V->Bool->Prop
 |flat {n:Nat}{x y:V}:kg x=true->kg y=true->DE Ξ H n x y (eqV x y)
 |same {n:Nat}{a:Addr}:DE Ξ H n (.ref a) (.ref a) true
 |tup {n:Nat}{a b:Addr}{xs ys:List V}{e:Nat->Bool}:a≠b->SqT Ξ H a xs->SqT Ξ H b ys->(∀(j:Nat) x y,xs[j]?=some x->ys[j]?=some y->DE Ξ H n x y (e j))->DE Ξ H (n+1) (.ref a) (.ref b) ((List.range (min xs.length ys.length)).all e&&xs.length==ys.length)
 |lst {n:Nat}{a b:Addr}{xs ys:List V}{e:Nat->Bool}:a≠b->SqL Ξ H a xs->SqL Ξ H b ys->xs.length=ys.length->(∀(j:Nat) x y,xs[j]?=some x->ys[j]?=some y->DE Ξ H n x y (e j))->DE Ξ H (n+1) (.ref a) (.ref b) ((List.range xs.length).all e)
 |lstN {n:Nat}{a b:Addr}{xs ys:List V}:a≠b->SqL Ξ H a xs->SqL Ξ H b ys->xs.length≠ys.length->DE Ξ H (n+1) (.ref a) (.ref b) false
theorem jq{A:Around}:A.in1.units=A.units+1:=rfl
theorem DE.eqAt(I:Inv X a3 Z H s)(d:DE X.K H n x y b):∀{A:Around}{u v:Value},A.units+n<cLine->RelV x u->RelV y v->SeqAt.EqAt A s u v b:=by
 induction d with
 |flat f g=>intro A u v _ rx ry;exact Xp rx ry f g
 |same=>
  intro A u v _ rx ry;obtain rfl:u=_:=rx;obtain rfl:v=_:=ry;exact SeqAt.EqAt.same _
 | @tup n a b xs ys e ne ha hb _ ih=>
  intro A u v hu rx ry;obtain rfl:u=Value.ref a:=rx;obtain rfl:v=Value.ref b:=ry;obtain⟨its,r1,p1,_⟩:=I.tuple ha;obtain⟨bz,r2,p2,_⟩:=I.tuple hb;have:=SeqAt.RcAt.tuples (A:=A) (e:=e) p1 p2 (by lia) λj h1 h2=>by
   have l1:j<xs.length:=by rw[r1.length];simpa using h1
   have l2:j<ys.length:=by rw[r2.length];simpa using h2
   obtain⟨u1,q1,s1⟩:=r1.get (Dc l1);obtain⟨u2,q2,s2⟩:=r2.get (Dc l2);have e1:its.toArray[j]=u1:=by
    have:=Db.mp q1;obtain⟨_,z⟩:=this;simpa using z
   have e2:bz.toArray[j]=u2:=by
    have:=Db.mp q2;obtain⟨_,z⟩:=this;simpa using z
   rw[e1,e2];exact ih j _ _ (Dc l1) (Dc l2) (by rw[jq];lia) s1 s2
  rw[Di,Di, <-r1.length, <-r2.length]at this;exact .of_refs ne this
 | @lst n a b xs ys e ne ha hb hl _ ih=>
  intro A u v hu rx ry;obtain rfl:u=Value.ref a:=rx;obtain rfl:v=Value.ref b:=ry;obtain⟨its,r1,p1,_⟩:=I.list ha;obtain⟨bz,r2,p2,_⟩:=I.list hb;have:=SeqAt.RcAt.lists (A:=A) (e:=e) p1.isList p2.isList (by simp[<-r1.length, <-r2.length,hl]) (by lia) λj h1 h2=>by
   have l1:j<xs.length:=by rw[r1.length];simpa using h1
   have l2:j<ys.length:=by rw[r2.length];simpa using h2
   obtain⟨u1,q1,s1⟩:=r1.get (Dc l1);obtain⟨u2,q2,s2⟩:=r2.get (Dc l2);have e1:its.toArray[j]=u1:=by
    have:=Db.mp q1;obtain⟨_,z⟩:=this;simpa using z
   have e2:bz.toArray[j]=u2:=by
    have:=Db.mp q2;obtain⟨_,z⟩:=this;simpa using z
   rw[e1,e2];exact ih j _ _ (Dc l1) (Dc l2) (by rw[jq];lia) s1 s2
  rw[Di, <-r1.length]at this;exact .of_refs ne this
 | @lstN n a b xs ys ne ha hb hl=>
  intro A u v hu rx ry;obtain rfl:u=Value.ref a:=rx;obtain rfl:v=Value.ref b:=ry;obtain⟨its,r1,p1,_⟩:=I.list ha;obtain⟨bz,r2,p2,_⟩:=I.list hb;exact .of_refs ne (SeqAt.RcAt.lists_lengths p1.isList p2.isList (by simp[<-r1.length, <-r2.length,hl]) (by lia))
end L2
namespace PySem.SeqAt
open AutoSeq1 (wpAny_loadPart')
open MeetsSeq MeetsSeq2 MeetsSeq3 SeqRoads2
theorem VO(l:Addr)(items:Array Value)(n:Nat)(x:Value)(e:Nat->Bool)(j:Nat)(hj:j<items.size)(dz:e j=true)(k:Nat)(iN:items.size<=sizeLine):
  ∀i:Nat,j-i=k->i<=j->(∀m (hm:m<items.size),i<=m->m<j->e m=false)->Meets (Builtin.«list.remove.loop» ⟨[.ref l,x,rawInt i], []⟩)
   (λA R s=>s.heap.get? l=some { cls:=.type "list", dict:=none,data:=.seq items n,slots:=#[] }/\(∀m (hm:m<items.size),m<=j->EqAt A.in1 s items[m] x (e m))/\R (.ok (.ret .none)) { s with heap:=s.heap.update l (Obj.mapSeq λxs=>xs.eraseIdxIfInBounds j) }):=by
 induction k with
 |zero=>
  intro i hk lH cY prog w A R s h;obtain⟨hp,g,d,tk,os⟩:=s;obtain⟨hl,he,h⟩:=h;have lI:i=j:=by lia
  subst lI
  wp_walk using wpAny_loadPart' hl;have hi:items[((i:Nat):Int).toNat]?=some items[i]:=by simp[hj]
  rw[hi];refine Ug (he _ hj (Dh _) prog w _ _ ?_);rw[dz];have oF:(items.eraseIdxIfInBounds i).size<=sizeLine+1:=DB (size_erased items _) (Bq iN)
  wp_walk using(wpAny_updateSeq hl rfl (hz:=iN) (_hz':=oF)),wpAny_loadPart' hl;simpa using h
 |succ k ih=>
  intro i hk lH cY prog w A R s h;obtain⟨hp,g,d,tk,os⟩:=s;obtain⟨hl,he,h⟩:=h;have bY:i<items.size:=by lia
  wp_walk using wpAny_loadPart' hl;have hi:items[((i:Nat):Int).toNat]?=some items[i]:=by simp[bY]
  have hc:((i:Int)+1)=((i+1:Nat):Int):=by push_cast;rfl
  rw[hi];refine Ug (he _ bY (by lia) prog w _ _ ?_);rw[cY i bY (Dh _) (by lia)]
  wp_walk;rw[hc];exact⟨plainId_quiet plain_remove_loop _,codeAny_builtin entry_remove_loop (by
   rw[Around.under_plainId plain_remove_loop _];exact ih (i+1) (by lia) (by lia) (λm hm h1 h2=>cY m hm (by lia) h2) prog w A R _ ⟨hl,he,h⟩)⟩
theorem list_removeAt(l:Addr)(items:Array Value)(n:Nat)(x:Value)(e:Nat->Bool)(j:Nat)(hj:j<items.size)(dz:e j=true)(cY:∀m (hm:m<items.size),m<j->e m=false)(iN:items.size<=sizeLine:=by size_fits):
  Meets (Builtin.«list.remove» ⟨[.ref l,x], []⟩)
   (λA R s=>s.heap.get? l=some { cls:=.type "list", dict:=none,data:=.seq items n,slots:=#[] }/\(∀m (hm:m<items.size),m<=j->EqAt A.in1 s items[m] x (e m))/\R (.ok (.ret .none)) { s with heap:=s.heap.update l (Obj.mapSeq λxs=>xs.eraseIdxIfInBounds j) }):=by
 intro prog w A R s h;obtain⟨hp,g,d,tk,os⟩:=s;obtain⟨hl,he,h⟩:=h
 wp_walk using wpAny_loadPart' hl;exact⟨plainId_quiet plain_remove_loop _,codeAny_builtin entry_remove_loop (by
  rw[Around.under_plainId plain_remove_loop _];exact VO l items n x e j hj dz _ iN 0 rfl (DQ _) (λm hm _ h2=>cY m hm h2) prog w A R _ ⟨hl,he,h⟩)⟩
end PySem.SeqAt
namespace L2
open PySem PySem.Spec PyProof.Rows
def Jh(Ξ:PySem.W.Frag):V->List V->Hp->VK->Prop:=λx vs H Q=>∃l xs y j,∃e:Nat->Bool,x=.ref l/\vs=[y]/\H l=some (.lst xs)/\j<xs.length/\e j=true/\(∀m,m<j->e m=false)/\(∀(m:Nat) z,m<=j->xs[m]?=some z->DE Ξ H 20 z y (e m))/\Q .non (upd H l (.lst (xs.eraseIdx j)))
theorem Gp(hu:X.A.units+64<cLine):MtM X "list.remove" (Jh X.K):=by
 intro a3 s Z H x vs v us Q I rx rv h;obtain⟨l,xs,y,j,e,rfl,rfl,hH,hj,dz,cY,he,q⟩:=h;cases rx;obtain⟨u,rfl,ru⟩:=rv.one;obtain⟨z,its,n,r,hl,eo⟩:=I.lstM hH;refine UL F.slot_list_remove ⟨_,eo,rfl⟩ F.entry_list_remove (F.args_list_remove_2 _ _) (SeqAt.list_removeAt l its.toArray n u e j (by simp;lia) dz (λm _ hm=>cY m hm) (by rw[Di];lia)) ⟨eo,λm hm oG=>?_,?_⟩
 ·have l1:m<xs.length:=by rw[hl];simpa using hm
  obtain⟨u1,q1,s1⟩:=r.get (Dc l1);have e1:its.toArray[m]=u1:=by
   have:=Db.mp q1;obtain⟨_,z⟩:=this;simpa using z
  rw[e1];exact(he m _ oG (Dc l1)).eqAt I (by rw[jq];lia) s1 ru
 ·refine⟨.non,_,I.lset (its':=its.eraseIdx j) hH eo (by simp) (r.eraseIdx j) (DB (Qn _ _) z),rfl,q⟩
structure Nms(mg:Str->Option Value):Prop where
 abs:mg "abs" = none
 len:mg "len" = none
 min:mg "min" = none
 max:mg "max" = none
 sum:mg "sum" = none
 sorted:mg "sorted" = none
 all:mg "all" = none
 any:mg "any" = none
 isinstance:mg "isinstance" = none
 range:mg "range" = none
 int:mg "int" = none
 list:mg "list" = none
 str:mg "str" = none
 bool:mg "bool" = none
 tuple:mg "tuple" = none
 zip:mg "zip" = none
 enumerate:mg "enumerate" = none
 dict:mg "dict" = none
theorem q4r:bootBuiltins "abs" = some (.builtin "abs"):=by decide+kernel
theorem Q6:bootBuiltins "len" = some (.builtin "len"):=by decide+kernel
theorem q3E:bootBuiltins "min" = some (.builtin "min"):=by decide+kernel
theorem qG:bootBuiltins "isinstance" = some (.builtin "isinstance"):=by decide+kernel
theorem q5F:bootBuiltins "range" = some (.type "range"):=by decide+kernel
theorem q3T:bootBuiltins "int" = some (.type "int"):=by decide+kernel
theorem zy:bootBuiltins "list" = some (.type "list"):=by decide+kernel
theorem q9i:bootBuiltins "str" = some (.type "str"):=by decide+kernel
def SameB(b:Addr)(H H':Hp):Prop:=∀x o,H x=some o->x≠b->H' x=some o
theorem SameB.refl(b:Addr)(H:Hp):SameB b H H:=λ_ _ h _=>h
theorem SameB.trans(h:SameB b H H1)(k:SameB b H1 H2):SameB b H H2:=λx o e n=>k x o (h x o e n) n
theorem SameB.upd{b p:Addr}{H H1:Hp}{o:HO}(s:SameB b H H1)(h:H p=none\/p=b):SameB b H (upd H1 p o):=λx o' e n=>by
 have:x≠p:=by
  rcases h with h|h
  ·exact qN e h
  ·rw[h];exact n
 rw[upd_ne this];exact s x o' e n
def q4e:List V->Hp->VK->Prop:=λvs H Q=>∃p ys,vs=[.ref p]/\H p=some (.lst ys)/\Q (.int ys.length) H
theorem vJ:zB X (.builtin "len") q4e:=by
 intro a3 s Z H xs us Q I r h;obtain⟨p,ys,e,h,q⟩:=h;exact kc a3 s Z H xs us Q I r ⟨p,ys,e,.inl (SqL.of h),q⟩
theorem GN(h:H p=some (.lst xs))(e:atI xs i=some v)(q:Q v H):rIxL Ξ (.ref p) (.int i) H Q:=⟨p,xs,i,v,rfl,rfl,SqL.of h,e,q⟩
theorem q6L(h:H p=some (.tup xs))(e:atI xs i=some v)(q:Q v H):rIxT Ξ (.ref p) (.int i) H Q:=⟨p,xs,i,v,rfl,rfl,SqT.of h,e,q⟩
theorem at0{α:Type}{x:α}{l:List α}:atI (x::l) 0=some x:=vK (j:=0) rfl
theorem at1{α:Type}{x y:α}{l:List α}:atI (x::y::l) 1=some y:=vK (j:=1) rfl
theorem q66(h:H p=some (.lst xs))(e:ixN xs.length i=some j)(q:R (upd H p (.lst (xs.set j v)))):Wr (.ref p) (.int i) v H R:=⟨p,xs,i,j,rfl,rfl,h,e,q⟩
theorem q9R(h:scal x y=true)(q:Q (.bl (decide (x=y))) H):rEq x y H Q:=⟨h,q⟩
theorem q9u(h:scal x y=true)(q:Q (.bl (!decide (x=y))) H):rNe x y H Q:=⟨h,q⟩
theorem q6S(h:H p=some (.lst xs))(q:Q (.int xs.length) H):q4e [.ref p] H Q:=⟨p,xs,rfl,h,q⟩
theorem Ko(h:H p=some (.tup [x,y]))(q:R ((Z.set i (some x)).set j (some y)) H):gTup Ξ 2 (vj (qM i) (vj (qM j) gNil)) (.ref p) Z H R :=
 ⟨p,_,rfl,SqT.of h,rfl,_,_,rfl,_,_,rfl,rfl,q⟩
theorem V7(h:H p=some (.tup [x,y,z]))(q:R (((Z.set i (some x)).set j (some y)).set k (some z)) H):gTup Ξ 3 (vj (qM i) (vj (qM j) (vj (qM k) gNil))) (.ref p) Z H R :=
 ⟨p,_,rfl,SqT.of h,rfl,_,_,rfl,_,_,rfl,_,_,rfl,rfl,q⟩
theorem xD:(V.int i=V.int j)=(i=j):=propext ⟨λh=>by cases h;rfl,λh=>by rw[h]⟩
theorem xC:(V.str i=V.str j)=(i=j):=propext ⟨λh=>by cases h;rfl,λh=>by rw[h]⟩
theorem q9n(hN:X.N.Nodup)(hc:X.calm=true)(hi:X.N[i]?=some x)(hj:X.N[j]?=some y)(lx:Loc X.env.scope x)(ly:Loc X.env.scope y)(fx:X.fn x=true\/X.env.scope.names.lookup x=some .local)(fy:X.fn y=true\/X.env.scope.names.lookup y=some .local):
  PG X (.Tuple [.Name x px,.Name y py] kk pos) (gTup X.K 2 (vj (qM i) (vj (qM j) gNil))):=q2B hc (jl (jS hN hi lx fx) (jl (jS hN hj ly fy) WL))
theorem q9B(hN:X.N.Nodup)(hc:X.calm=true)(hi:X.N[i]?=some x)(hj:X.N[j]?=some y)(hk:X.N[k]?=some z)(lx:Loc X.env.scope x)(ly:Loc X.env.scope y)(lz:Loc X.env.scope z)(fx:X.fn x=true\/X.env.scope.names.lookup x=some .local)(fy:X.fn y=true\/X.env.scope.names.lookup y=some .local)(fz:X.fn z=true\/X.env.scope.names.lookup z=some .local):
  PG X (.Tuple [.Name x px,.Name y py,.Name z pz] kk pos) (gTup X.K 3 (vj (qM i) (vj (qM j) (vj (qM k) gNil)))):=q2B hc (jl (jS hN hi lx fx) (jl (jS hN hj ly fy) (jl (jS hN hk lz fz) WL)))
theorem qf(h:X.K=Ξ):IxR X (rIxL Ξ):=h▸q5b
theorem qE(h:X.K=Ξ):IxR X (rIxT Ξ):=h▸q6u
theorem vz(h:X.K=Ξ):SlR X (rSlL Ξ):=h▸q48
theorem zq(h:X.K=Ξ):OpR X (compareOp .In) (rIn Ξ false):=h▸WX
theorem WW(h:X.K=Ξ):OpR X (compareOp .NotIn) (rIn Ξ true):=h▸ZV
theorem QP(h:X.K=Ξ):zB X (.builtin "isinstance") (rIsi Ξ):=h▸q0h
theorem K9(h:X.K=Ξ)(hu:X.A.units+64<cLine):MtM X "list.remove" (Jh Ξ):=h▸Gp hu
def tTru(Ξ:PySem.W.Frag)(ta:TE):TT:=λZ H Q=>ta Z H λx H'=>∃k,TruV Ξ x H' k/\Q k H'
def q2l(x:V)(H:Hp)(k:Prop):Prop:=∃p xs,x=.ref p/\H p=some (.lst xs)/\k
theorem q9c(h:H p=some (.lst xs))(q:k):q2l (.ref p) H k:=⟨p,xs,rfl,h,q⟩
def tLM(r:V->List V->Hp->VK->Prop)(to:TE)(t:TA):TE:=λZ H Q=>to Z H λx H1=>q2l x H1 (t Z H1 λvs H2=>r x vs H2 Q)
def ForW(J:It)(g:TG)(tb:TS)(D:Ends)(Z:St)(H1:Hp):Prop:=∃W:Nat->Nat->St->Hp->Prop,(∃m,W 0 m Z H1)/\∀i m Z H,W i m Z H ->
 (J.stop i H/\D.nx Z H)\/(J.go i H/\∃N:St->Hp->Prop,(∀aj H',N aj H'->∃m',m'<m/\W (i+1) m' aj H')/\∀x H',J.yld i H x H'->g x Z H' λcy H2=>tb { D with nx:=N,ct:=N,bk:=D.nx } cy H2)
theorem J6:tFor wi g tb D Z H=wi Z H λJ H1=>ForW J g tb D Z H1:=rfl
def q2u(Ξ:PySem.W.Frag)(x:V)(H:Hp)(R:It->Hp->Prop):Prop:=∃a,x=.ref a/\(∃xs,SqL Ξ H a xs)/\R (Itl Ξ a) H
theorem ko:Yn Ξ tl Z H R=tl Z H λx H1=>q2u Ξ x H1 R:=rfl
theorem q95(h:H p=some (.lst xs))(q:R (Itl Ξ p) H):q2u Ξ (.ref p) H R:=⟨p,rfl,⟨xs,SqL.of h⟩,q⟩
def q6P(vs:List V)(H:Hp)(R:It->Hp->Prop):Prop:=∃j:Int,vs=[.int j] /\ -(2^62)<=j/\j<2^62/\R (Itr 0 j.toNat) H
theorem km:Ym ta Z H R=ta Z H λvs H1=>q6P vs H1 R:=rfl
theorem q0o{R:Int->Prop}:(∃i,V.int k=.int i/\R i)=R k:=propext ⟨λzz=>by obtain⟨_,e,h⟩:=zz;cases e;exact h,λh=>⟨k,rfl,h⟩⟩
def rEqT(Ξ:PySem.W.Frag):R2:=λx y H Q=>∃a b xs ys e,x=.ref a/\y=.ref b/\SqT Ξ H a xs/\SqT Ξ H b ys/\(∀(j:Nat) x y,xs[j]?=some x->ys[j]?=some y->DE Ξ H 20 x y (e j))/\Q (.bl ((List.range (min xs.length ys.length)).all e&&xs.length==ys.length)) H
theorem WY(hK:X.K=Ξ)(hu:X.A.units+64<cLine):OpR X (compareOp .Eq) (rEqT Ξ):=by
 subst hK;intro a3 s Z H x y v u Q I rx ry h;obtain⟨a,b,xs,ys,e,rfl,rfl,ha,hb,he,q⟩:=h;obtain rfl:v=Value.ref a:=rx;obtain rfl:u=Value.ref b:=ry;obtain⟨its,r1,p1,_⟩:=I.tuple ha;obtain⟨bz,r2,p2,_⟩:=I.tuple hb;refine SeqAt.eq_tupleAt (A:=X.A) (e:=e) p1 p2 (by lia) (λj h1 h2=>?_) ⟨.bl _,H,I,rfl,?_⟩
 ·have l1:j<xs.length:=by rw[r1.length];simpa using h1
  have l2:j<ys.length:=by rw[r2.length];simpa using h2
  obtain⟨u1,q1,s1⟩:=r1.get (Dc l1);obtain⟨u2,q2,s2⟩:=r2.get (Dc l2);have e1:its.toArray[j]=u1:=by
   obtain⟨_,z⟩:=Db.mp q1;simpa using z
  have e2:bz.toArray[j]=u2:=by
   obtain⟨_,z⟩:=Db.mp q2;simpa using z
  rw[e1,e2];exact(he j _ _ (Dc l1) (Dc l2)).eqAt I (by rw[jq];lia) s1 s2
 ·rw[Di,Di, <-r1.length, <-r2.length]
  exact q
def qaa:V->Bool
 |.int _=>true
 |.str _=>true
 |_=>false
def q4V(Ξ:PySem.W.Frag):R2:=λx y H Q=>∃a xs,qaa x=true/\y=.ref a/\SqT Ξ H a xs/\Q (.bl false) H
def q5U(Ξ:PySem.W.Frag):R2:=λx y H Q=>∃a xs,qaa y=true/\x=.ref a/\SqT Ξ H a xs/\Q (.bl false) H
theorem q0p(hK:X.K=Ξ)(hu:X.A.units+64<cLine):OpR X (compareOp .Eq) (q4V Ξ):=by
 subst hK;intro a3 s Z H x y v u Q I rx ry h;obtain⟨a,xs,hf,rfl,ha,q⟩:=h;obtain rfl:u=Value.ref a:=ry;obtain⟨its,r1,p1,_⟩:=I.tuple ha;cases x with
 |int i=>
  obtain⟨t,rfl⟩:=rx;exact SeqAt.RcAt.int_tuple i t p1 (by lia) _ _ _ _ ⟨.bl false,H,I,rfl,q⟩
 |str i=>
  obtain⟨t,rfl⟩:=rx;exact SeqAt.RcAt.str_tuple i t p1 (by lia) _ _ _ _ ⟨.bl false,H,I,rfl,q⟩
 |_=>exact absurd (show false=true from hf) Dn
theorem q15(hK:X.K=Ξ)(hu:X.A.units+64<cLine):OpR X (compareOp .Eq) (q5U Ξ):=by
 subst hK;intro a3 s Z H x y v u Q I rx ry h;obtain⟨a,xs,hf,rfl,ha,q⟩:=h;obtain rfl:v=Value.ref a:=rx;obtain⟨its,r1,p1,_⟩:=I.tuple ha;cases y with
 |int i=>
  obtain⟨t,rfl⟩:=ry;exact SeqAt.RcAt.tuple_int i t p1 (by lia) _ _ _ _ ⟨.bl false,H,I,rfl,q⟩
 |str i=>
  obtain⟨t,rfl⟩:=ry;exact SeqAt.RcAt.tuple_str i t p1 (by lia) _ _ _ _ ⟨.bl false,H,I,rfl,q⟩
 |_=>exact absurd (show false=true from hf) Dn
theorem q35(hK:X.K=Ξ)(hu:X.A.units+64<cLine):OpR X (compareOp .Eq) (λx y H Q=>rEq x y H Q\/rEqT Ξ x y H Q\/q4V Ξ x y H Q\/q5U Ξ x y H Q):=
 op_eq.or ((WY hK hu).or ((q0p hK hu).or (q15 hK hu)))
structure MDef(P:Program)(w:World)(Ξ:PySem.W.Frag)(mg:Str->Option Value)(base:Heap)(C:Addr)(m:Str)(k:Nat)(ps:List Str)(sp:Sp):Prop where
 ex:∃(f:Addr)(fd:FuncData),Meth Ξ C m f/\Binds Ξ fd ps []/\FnOk P w Ξ mg base CX0 k f fd ps sp
end L2
namespace PySem.SeqAt
open AutoSeq1 (wpAny_loadPart')
open MeetsSeq MeetsSeq2 MeetsSeq3 SeqRoads2
theorem tuple_index3(l:Addr)(its:Array Value)(n:Nat)(dd:Option Addr)(sl:Array (Option Value))(a b c x:Value)(e:Nat->Bool)(hi:its=#[a,b,c])(j:Nat)(hj:j<3)(dz:e j=true)(cY:∀m,m<j->e m=false):
  Meets (Builtin.«tuple.index» ⟨[.ref l,x], []⟩)
   (λA R s=>s.heap.get? l=some { cls:=.type "tuple", dict:=dd,data:=.seq its n,slots:=sl }/\EqAt A.in1 s a x (e 0)/\EqAt A.in1 s b x (e 1)/\EqAt A.in1 s c x (e 2)/\R (.ok (.ret (.int j s.toks))) { s with toks:=s.toks+1 }):=by
 intro prog w A R s h;obtain⟨hp,g,d,tk,os⟩:=s;obtain⟨hl,h0,h1,h2,h⟩:=h;subst hi;unfold Builtin.«tuple.index»;simp only[Std.Legacy.Range.forIn_eq_forIn_range']
 wp_walk using wpAny_loadPart' hl;simp only[Di,Dj,DR,Std.Legacy.Range.size,qbp,show List.range' 0 ((0+1+1+1-0+1-1) / 1) 1=[0,1,2]from rfl,List.forIn_cons,List.forIn_nil];simp only[List.forIn'.loop];rcases(show j=0\/j=1\/j=2 by lia)with rfl|rfl|rfl
 ·rw[dz]at h0
  refine Ug (Ug (h0 prog w _ _ ?_))
  wp_walk;exact h
 ·rw[cY 0 (by lia)]at h0
  rw[dz]at h1;refine Ug (Ug (h0 prog w _ _ ?_));simp only[D7,UP];refine Ui ?_;refine Ug (Ug (h1 prog w _ _ ?_))
  wp_walk;exact h
 ·rw[cY 0 (by lia)]at h0
  rw[cY 1 (by lia)]at h1;rw[dz]at h2;refine Ug (Ug (h0 prog w _ _ ?_));simp only[D7,UP];refine Ui ?_;refine Ug (Ug (h1 prog w _ _ ?_));simp only[D7,UP];refine Ui ?_;refine Ug (Ug (h2 prog w _ _ ?_))
  wp_walk;exact h
end PySem.SeqAt
namespace L2
open PySem PySem.Spec PyProof.Rows
theorem qaf(a b:Str):eqV (.str a) (.str b)=decide (a=b):=by
 by_cases h:a=b<;>simp[eqV,h]
structure Tup3(Ξ:PySem.W.Frag)(mg:Str->Option Value)(nm:Str)(p:Addr)(x y z:Str):Prop where
 mg:mg nm=some (.ref p)
 lk:∃(a b c:Tok)(n:Nat)(sl:Array (Option Value)),Ξ.lookup p=some ⟨.type "tuple", none,.seq #[.str x a,.str y b,.str z c] n,sl⟩
theorem Tup3.sq{mg:Str->Option Value}(T:Tup3 Ξ mg nm p x y z)(H:Hp):SqT Ξ H p [.str x,.str y,.str z]:=by
 obtain⟨a,b,c,n,sl,e⟩:=T.lk;exact .inr ⟨_,_,n,e,rfl,rfl,(by decide:3<=sizeLine),.cons ⟨a,rfl⟩ (.cons ⟨b,rfl⟩ (.cons ⟨c,rfl⟩ .nil))⟩
theorem Tup3.ty{mg:Str->Option Value}(T:Tup3 Ξ mg nm p x y z)(H:Hp):tyV Ξ "tuple" (.ref p) H:=by
 obtain⟨a,b,c,n,sl,e⟩:=T.lk;exact .inr (.inl ⟨rfl,_,e,rfl,rfl⟩)
def q7g(p:Addr)(x y z:Str):V->List V->Hp->VK->Prop:=λv vs H Q=>∃(t:Str)(j:Nat),v=.ref p/\vs=[.str t]/\[x,y,z][j]?=some t/\(∀m,m<j->[x,y,z][m]?≠some t)/\Q (.int j) H
theorem Gq(hK:X.K=Ξ)(T:Tup3 Ξ mg nm p x y z):MtR X "tuple.index" (q7g p x y z):=by
 subst hK;intro a3 s Z H v vs w us Q I rx rv h;obtain⟨t,j,rfl,rfl,hj,cY,q⟩:=h;cases rx;obtain⟨u,rfl,ru⟩:=rv.one;obtain⟨tk,rfl⟩:=ru;obtain⟨a,b,c,n,sl,e⟩:=T.lk;have eo:=I.kIn p _ e;have mZ:j<3:=(Db.mp hj).1;refine UL F.slot_tuple_index ⟨_,eo,rfl⟩ F.entry_tuple_index (F.args_tuple_index_2 _ _) (SeqAt.tuple_index3 p _ n none sl (.str x a) (.str y b) (.str z c) (.str t tk) (λm=>match m with|0=>eqV (.str x) (.str t)|1=>eqV (.str y) (.str t)|2=>eqV (.str z) (.str t)|_=>false) rfl j mZ ?_ ?_)
  ⟨eo,Xp (y:=.str x) (x:=.str t) ⟨a,rfl⟩ ⟨tk,rfl⟩ rfl rfl,Xp (y:=.str y) (x:=.str t) ⟨b,rfl⟩ ⟨tk,rfl⟩ rfl rfl,Xp (y:=.str z) (x:=.str t) ⟨c,rfl⟩ ⟨tk,rfl⟩ rfl rfl,⟨.int j,H,I.tok _,⟨_,rfl⟩,q⟩⟩
 ·rcases(show j=0\/j=1\/j=2 by lia)with rfl|rfl|rfl<;>(simp at hj;subst hj;simp[qaf])
 ·intro m hm
  have:=cY m hm;rcases(show m=0\/m=1\/m=2 by lia)with rfl|rfl|rfl<;>(simp at this;simp[qaf,this])
def h00:Heap:={}
def Kh(h:Heap)(L:Addr):List (Addr×Obj):=(List.range h.objs.size).filterMap λa=>if a=L then none else(h.get? a).map λo=>(a,o)
theorem Kl(a:Addr):h00.get? a=none:=Heap.get?_none_of_le (DQ _)
theorem q1N(e:h.get? b=some o)(n:b≠L):(b,o)∈Kh h L:=by
 refine DI.mpr ⟨b,DZ.mpr (Heap.lt_size e),?_⟩;rw[Uh n,e];rfl
theorem q3R:News h00 L h (Kh h L):=λp hp=>by
 obtain⟨a,_,e⟩:=DI.mp hp;by_cases n:a=L
 ·rw[Uj n]at e;cases e
 ·rw[Uh n]at e
  cases q:h.get? a with
  |none=>rw[q]at e;cases e
  |some o=>rw[q]at e;cases e;exact⟨q,n,Kl _⟩
theorem Inv.ledger(I:Inv X a3 Z H s):∃m,Fr h00 X.env.locals s.heap m/\News h00 X.env.locals s.heap (Kh s.heap X.env.locals) /\
  ∀(h':Heap)(tk:Nat),Fr h00 X.env.locals h' m->News h00 X.env.locals h' (Kh s.heap X.env.locals)->Inv X a3 Z H { s with heap:=h',toks:=tk }:=by
 obtain⟨m,hn,_⟩:=I.loc;refine⟨m,⟨hn,λb o e=>(by rw[Kl]at e;cases e),DQ _⟩,q3R,λh' tk F W=>?_⟩;have kp:∀b o,b≠X.env.locals->s.heap.get? b=some o->h'.get? b=some o:=λb o n e=>(W _ (q1N e n)).1;refine I.step (ch:=[]) (H':=H) (λb hb=>nomatch hb) (λb o n _ _ e _=>kp b o n e) (λb o n _ _ e _=>⟨o.slots,kp b o n e⟩) (λb o _ _ z=>z) (λb o _ e=>?_) (λ_ _ z=>z) (λ_ _ _ z=>z) (λb ps z=>⟨#[],by simpa using z⟩) (λm' oH=>?_) (λa o e=>?_) I.bare
 ·by_cases n:b=X.env.locals
  ·subst n
   obtain⟨o',_,_,e',_⟩:=F.ns;exact⟨o',e'⟩
  ·exact⟨o,kp b o n e⟩
 ·have:m'=m:=funext λx=>by
   obtain⟨o,es,ep,e1,e2,e3,e4⟩:=oH;obtain⟨o',gi,gG,f1,f2,f3,f4⟩:=hn;rw[e1]at f1;cases f1;rw[e2]at f2;cases f2;rw[<-e4, <-f4]
  rw[this];exact F.ns
 ·refine(I.hok a o e).stay (λb u hb q=>kp b u ?_ q) (λ_ q=>q) λ_ _ q=>q
  intro z;subst z;have:=I.free;rcases hb with hb|hb
  ·subst hb;rw[e]at this;cases this
  ·rw[hb]at this;cases this
def q8K:List V->Hp->VK->Prop:=λxs H Q=>∃j:Int,xs=[.int j]/\∀l,H l=none->Q (.ref l) (upd H l (.rng 0 j))
theorem JM:zB X (.type "range") q8K:=by
 intro a3 s Z H xs us Q I r h;obtain⟨j,rfl,q⟩:=h;obtain⟨u,rfl,t,rfl⟩:=QV r;refine call_range_1 ⟨.ref s.heap.objs.size,_,I.laid (t':=s.toks+1+1) (λb o e=>Heap.get?_push_of_some _ e) (Dh _) (show ObjOk X.prog X.w _ _ _ (.rng 0 j) from⟨_,_,_,Heap.get?_push_size _ rfl⟩),rfl,q _ (I.hok.fresh (Dh _))⟩
theorem j6:∀{ns:List Int}{us:List Value},CarriedAll us (ns.map PyData.int)->Vals (ns.map V.int) us
 | [],_,h=>by cases h;exact .nil
 |n::ns,_,h=>by
  cases h with
  |cons r t=>
   cases r with
   |int i tk=>exact .cons ⟨tk,rfl⟩ (j6 t)
def J7:List V->Hp->VK->Prop:=λxs H Q=>∃(p:Addr)(lo hi:Int)(n:Nat),xs=[.ref p]/\H p=some (.rng lo hi) /\ -(2^62)<=lo/\hi<2^62/\hi=lo+n/\n<=1000000/\∀l,H l=none->Q (.ref l) (upd H l (.lst ((List.range n).map λk:Nat=>V.int (lo+k))))
theorem Zk(hc:X.calm=true):zB X (.type "list") J7:=by
 intro a3 s Z H xs us Q I r h;obtain⟨p,lo,hi,n,rfl,hp,b1,b2,e,hn,q⟩:=h;obtain⟨u,rfl,rx⟩:=QV r;cases rx;obtain⟨t,u,v,ho⟩:=(show ObjOk X.prog X.w H s.heap p (.rng lo hi)from I.hok p _ hp);obtain⟨m,F,W,fin⟩:=I.ledger;refine list_rangeD (n:=n) (I.ok.hd hc) F W ho (small_one (by lia) (by lia) (by lia) (by lia)) (by rw[rangeSize_one];split<;>lia) (DB hn (by decide)) λh' tk ys F' W' kp _ _ np ca=>?_;have hv:Vals ((List.range n).map λk:Nat=>V.int (lo+k)) ys:=by
  have:=j6 ca;unfold rangeInts at this;rw[Ry]at this;have e2:(V.int ∘ λi:Nat=>lo+(i:Int)*1)=λk:Nat=>V.int (lo+k):=funext λk=>by simp
  rw[e2]at this;exact this
 have hz:((List.range n).map λk:Nat=>V.int (lo+k)).length<=sizeLine:=by
  rw[Dd,RU];exact DB hn (by decide)
 refine⟨.ref s.heap.objs.size,_,I.laid (t':=tk) kp (Dh _) (show ObjOk X.prog X.w _ h' _ (.lst _)from ?_),rfl,q _ (I.hok.fresh (Dh _))⟩;obtain⟨pl,_⟩:=np;obtain⟨n',e'⟩:=pl;exact⟨hz,ys,n',hv,e'⟩
def q6d(Ξ:PySem.W.Frag):List V->Hp->VK->Prop:=λxs H Q=>∃p ys,xs=[.ref p]/\(SqL Ξ H p ys\/SqT Ξ H p ys)/\Q (.int ys.length) H
theorem Yu(h:X.K=Ξ):zB X (.builtin "len") (q6d Ξ):=h▸kc
structure GInt(mg:Str->Option Value)(nm:Str)(n:Int):Prop where
 ex:∃t,mg nm=some (.int n t)
def Bt(n:Nat)(i:Int):Prop:=i.natAbs<2^n
theorem Bt.bits(h:Bt n i):Builtin.Int.intBits i<=n:=intBits_le_iff.mpr h
theorem Bt.mono(h:Bt n i)(hm:n<=m):Bt m i:=Du h (Ra (by decide) hm)
theorem Bt.neg(h:Bt n i):Bt n (-i):=by unfold Bt;rw[qa8];exact h
theorem Bt.add(h:Bt n i)(h':Bt m j):Bt (max n m+1) (i+j):=by
 have a:=h.mono (Nat.le_max_left n m);have b:=h'.mono (Nat.le_max_right n m);unfold Bt at *;have:=Int.natAbs_add_le i j;rw[Nat.pow_succ];lia
theorem Bt.sub(h:Bt n i)(h':Bt m j):Bt (max n m+1) (i-j):=by
 rw[Int.sub_eq_add_neg];exact h.add h'.neg
theorem Bt.small(h0 : -(2^62)<i)(h1:i<2^62)(hn:62<=n):Bt n i:=by
 refine Bt.mono (n:=62) ?_ hn;unfold Bt;lia
theorem Bt.sign(h:Bt n i)(hs:s=1\/s = -1):Bt n (s*i):=by
 rcases hs with rfl|rfl
 ·rw[DX];exact h
 ·rw[Int.neg_mul,DX];exact h.neg
def q9P(i j:Int):Prop:=0<=j/\j<=100000/\Bt 100000 i
theorem q3C:OpR X (binaryOp .LShift) (rI q9P λi j=>.int (i*2^j.toNat)):=opI λi j _ _ _ _ _ hc q=>lshift_int hc.1 (by
 have:=hc.2.2.bits;have h2:=hc.2.1;lia) q
def rBits:V->List V->Hp->VK->Prop:=λx vs H Q=>∃n:Int,x=.int n/\vs=[]/\Q (.int (Builtin.Int.intBits n)) H
theorem q4c:MtR X "int.bit_length" rBits:=by
 intro a3 s Z H x vs v us Q I rx rv h;obtain⟨n,rfl,rfl,q⟩:=h;obtain⟨t,rfl⟩:=rx;cases rv;exact call_int_bit_length ⟨.int _,H,I.tok _,⟨_,rfl⟩,q⟩
structure Nms2(mg:Str->Option Value):Prop where
 reversed:mg "reversed" = none
def Itv(Ξ:PySem.W.Frag)(a:Addr)(n:Nat):It :=
 ⟨λi H=>i<n/\∃xs,SqL Ξ H a xs/\xs.length=n,λi H x H'=>H'=H/\∀xs,SqL Ξ H a xs->xs[n-1-i]?=some x,λi H=>n=i⟩
theorem q0i(a it:Addr)(n:Nat):Turn P w Ξ tg (Itv Ξ a n) [it] it (λi h=>h.IsRevIter it a ((n:Int)-1-i)) where
 mem:=by simp
 obj:=λi h st b hb=>by
  have e:b=it:=by simpa using hb
  subst e;obtain⟨o,e,c,d⟩:=st;exact⟨o,e,λv z=>by rw[d]at z;cases z⟩
 keep:=λi h h' st k=>st.at λo e=>k it (by simp) o e
 item:=by
  intro X hP hw hK hc i a3 s Z H E I hf st hg;subst hP hw hK;obtain⟨hi,xs,hq,hn⟩:=hg;obtain⟨its,rv,p,hz⟩:=I.list hq;have hx:xs[n-1-i]?=some xs[n-1-i]:=Dc (by lia);obtain⟨u,hu,ru⟩:=rv.get hx;obtain⟨f0,f1,f2,f3,f4,f5⟩:=hf it (by simp);have eN:s.heap.IsRevIter it a (((n-1-i:Nat)):Int):=by
   have e:(((n-1-i:Nat)):Int)=(n:Int)-1-i:=by lia
   rw[e];exact st
  refine wpAny_pyNext_rev_item eN p.isList (x:=u) (by simpa using hu) λh' cE sb=>?_;have I1:Inv X a3 Z H { s with heap:=h' }:=I.turned (t':=s.toks) (λb o hb e=>(sb.2 b hb).trans e) f0 f1 f3 f4 f5;obtain⟨o,e,c,d⟩:=id cE;have gk:h'.IsRevIter it a ((n:Int)-1-((i+1:Nat):Int)):=by
   have e:(n:Int)-1-((i+1:Nat):Int)=((n-1-i:Nat):Int)-1:=by lia
   rw[e];exact cE
  exact⟨u,rfl,q1V (s:={ s with heap:=h' }) e c d (by decide) ⟨_,H,I1,ru,⟨rfl,λys hy=>by rw[I.list_inj hy hq];exact hx⟩,gk,λb hb=>(hf b hb).1⟩⟩
 done:=by
  intro X hP hw hK hc i a3 s Z H E I hf st hg;subst hP hw hK;obtain⟨f0,f1,f2,f3,f4,f5⟩:=hf it (by simp);have eN:s.heap.IsRevIter it a (-1):=by
   have e:(n:Int)-1-i = -1:=by have:n=i:=hg;lia
   rw[e]at st;exact st
  exact wpAny_pyNext_rev_end (I.ok.hd hc) eN λh' eb=>⟨rfl,I.turned (t':=s.toks) (λb o hb e=>eb b o hb e) f0 f1 f3 f4 f5⟩
 self:=λ_ _ _ _ _ st h=>wpAny_pyIter_revIter st h
def q2n(Ξ:PySem.W.Frag)(vs:List V)(H:Hp)(R:It->Hp->Prop):Prop:=∃a xs,vs=[.ref a]/\SqL Ξ H a xs/\R (Itv Ξ a xs.length) H
def iRev(Ξ:PySem.W.Frag)(ta:TA):TI:=λZ H R=>ta Z H λvs H1=>q2n Ξ vs H1 R
theorem VR:iRev Ξ ta Z H R=ta Z H λvs H1=>q2n Ξ vs H1 R:=rfl
def Ite(Ξ:PySem.W.Frag)(a:Addr):It :=
 ⟨λi H=>∃xs x,SqL Ξ H a xs/\xs[i]?=some x,λi H x H'=>∃(p:Addr)(v:V),x=.ref p/\H p=none/\H'=upd H p (.tup [.int i,v])/\∀xs,SqL Ξ H a xs->xs[i]?=some v,λi H=>∃xs,SqL Ξ H a xs/\xs.length<=i⟩
def q39(Ξ:PySem.W.Frag)(vs:List V)(H:Hp)(R:It->Hp->Prop):Prop:=∃a xs,vs=[.ref a]/\SqL Ξ H a xs/\R (Ite Ξ a) H
def q9v(Ξ:PySem.W.Frag)(ta:TA):TI:=λZ H R=>ta Z H λvs H1=>q39 Ξ vs H1 R
theorem kq:q9v Ξ ta Z H R=ta Z H λvs H1=>q39 Ξ vs H1 R:=rfl
def q96(n:Nat):List Nat:=sliceRange (sliceBounds none none (some (-1)) n).1 (sliceBounds none none (some (-1)) n).2.1 (sliceBounds none none (some (-1)) n).2.2
def q9e(xs:List V):List V:=(q96 xs.length).filterMap λi=>xs[i]?
def q4d(Ξ:PySem.W.Frag)(x:V)(H:Hp)(Q:VK):Prop:=∃a xs,x=.ref a/\SqL Ξ H a xs/\∀r,H r=none->Q (.ref r) (upd H r (.lst (q9e xs)))
def tRev(Ξ:PySem.W.Frag)(te:TE):TE:=λZ H Q=>te Z H λx H1=>q4d Ξ x H1 Q
def zr:Expr->Bool
 |.Starred _ _=>false
 |_=>true
theorem Y0(h:zr e=true):starEach (e::es) env=(false,eval e env)::starEach es env:=by
 cases e<;>first|rfl|cases h
structure QE(X:Cx)(e:Expr)(t:TE):Prop where
 h:PE X e t
structure QT(X:Cx)(e:Expr)(t:TT):Prop where
 h:PT X e t
structure QW(X:Cx)(e:Expr)(t:TT):Prop where
 h:PW X e t
structure QA(X:Cx)(e:List Expr)(t:TA):Prop where
 h:PA X e t
structure QS(X:Cx)(e:Stmt)(t:TS):Prop where
 h:PS X e t
structure QSs(X:Cx)(e:List Stmt)(t:TS):Prop where
 h:PSs X e t
structure QG(X:Cx)(e:Expr)(t:TG):Prop where
 h:PG X e t
structure QTs(X:Cx)(e:List Expr)(t:TT):Prop where
 h:PTs X e t
structure QO(X:Cx)(e:Option Expr)(t:TO):Prop where
 h:PO X e t
structure QI(X:Cx)(tg e:Expr)(t:TI):Prop where
 h:PI X tg e t
structure QPs(X:Cx)(pos:Pos)(ks:List (Option Expr))(vs:List Expr)(t:List (TE×TE)):Prop where
 h:PPs X pos ks vs t
theorem qJ:QSs X [] Vv:=⟨q3W ⟩
theorem qd{st:Stmt}(h1:QS X st t):QSs X [st] t:=⟨by
 intro a3 s Z H D I h;refine UR (thn (h1.h a3 s Z H D I h) λf s1 q=>?_);cases f with
 |next=>exact Ux q
 |ret v=>exact q
 |brk=>exact q
 |cont=>exact q⟩
theorem qb{rest:List Stmt}{st:Stmt}(h1:QS X st t)(h2:QSs X rest u):QSs X (st::rest) (tSeq t u):=⟨by
 intro a3 s Z H D I h;refine UR (thn (h1.h a3 s Z H { D with nx:=u D } I h) λf s1 q=>?_);cases f with
 |next=>
  obtain⟨aj,H',I',q⟩:=q;exact h2.h a3 s1 aj H' D I' q
 |ret v=>exact q
 |brk=>exact q
 |cont=>exact q⟩
theorem q7b(bs:List Bool)(ext:List Str)(hN:X.N.Nodup)(gR:X.N[i]?=some x)(hx:X.env.scope.names.lookup x=some .local)(hi:QI X tg aC wi)(hg:∀fp s H,QG (cxB X scope ext fp s H) tg g)(ht:∀fp s H,QTs (cxB X scope ext fp s H) cg tt)(he:∀fp s H,QE (cxB X scope ext fp s H) elt te)(hk:je scope X.env X.N bs=true:=by rfl)(hc:X.calm=true:=by rfl)(gU:swapsWith (.ListComp elt [⟨tg,aC,cg,0⟩] scope pos) (some (.Name x pos')) spos.line X.env=pure true:=by rfl)(hs:∀x,foldedSetIterable aC X.env x=pure x:=by intro _;rfl):QS X (.Assign [.Name x pos'] (.ListComp elt [⟨tg,aC,cg,0⟩] scope pos) spos) (tAsg (xG wi bs ext.length g tt te) (qM i)):=⟨q9q bs ext hN gR hx hi.h (λfp s H=>(hg fp s H).h) (λfp s H=>(ht fp s H).h) (λfp s H=>(he fp s H).h) hk hc gU hs⟩
theorem ji(ha:QE X o ta)(hv:QE X value tv)(hs:swapsWith value (some (.Attribute o f pos')) pos.line X.env=pure false):QS X (.Assign [.Attribute o f pos'] value pos) (sFld X.K ta tv f):=⟨by
 intro a3 s Z H D I h;refine UM (thn (hv.h a3 s Z H _ I h) λu s1 ⟨y,H1,I1,ry,q⟩=>thn (ha.h a3 s1 Z H1 _ I1 q) λov s2 ⟨x,H2,I2,rx,a,C,dx,fs,ex,ea,c,n,l,q2⟩=>?_) hs;subst ex;obtain rfl:ov=Value.ref a:=rx;exact Vb I2 ea c n l ry λs3 I3=>⟨Z,_,I3,q2⟩⟩
theorem qi(hN:X.N.Nodup)(hi:X.N[i]?=some x)(hx:Loc X.env.scope x)(he:QE X e te)(hs:swapsWith e (some (.Name x pos')) pos.line X.env=pure false:=by rfl)(hf:X.fn x=true\/X.env.scope.names.lookup x=some .local:=by first|exact .inl rfl|exact .inr rfl|assumption):QS X (.Assign [.Name x pos'] e pos) (tAsg te (qM i)):=⟨by
 intro a3 s Z H D I h;refine wpAny_Assign_Name (thn (he.h a3 s Z H _ I h) λv s1 ⟨y,H1,I1,r1,q1⟩=>?_) hs;exact zC I1 hN hi hx r1 (λs2 I2=>⟨_,H1,I2,q1⟩) hf⟩
theorem zd(he:QE X e te)(hg:QG X tg g)(hs:swapsWithSole [tg] e pos.line X.env=pure false:=by rfl)(hw:swappedStores [tg] e X.env=pure none:=by rfl)(h1:(assignEach [tg] X.env).map (·.2)=[assign tg X.env]:=by rfl):QS X (.Assign [tg] e pos) (tAsg te g):=⟨by
 intro a3 s Z H D I h;refine UW (thn (he.h a3 s Z H _ I h) λv s1 ⟨x,H1,I1,r1,q1⟩=>?_) hs hw;rw[h1];exact thn (hg.h a3 s1 Z H1 x v _ I1 r1 q1) λ_ s2 q=>q⟩
theorem q3i(hN:X.N.Nodup)(hi:X.N[i]?=some x)(hx:Loc X.env.scope x)(he:QE X e te)(ho:PIp X op ti)(hf:X.fn x=true\/X.env.scope.names.lookup x=some .local:=by first|exact .inl rfl|exact .inr rfl|assumption):QS X (.AugAssign (.Name x pos') op e pos) (tAug i te ti):=⟨by
 intro a3 s Z H D I h;obtain⟨v,e1,h⟩:=h;obtain⟨m,hn,hl⟩:=I.loc;have vis:Vis X.env.scope x:=by rcases hx with k|k;exact .inl k;exact .inr (.inl k)
 obtain⟨u,r,l⟩:=hl i x v hi e1 vis;refine wpAny_AugAssign_Name ?_;have go:wpAny (model X.prog X.w) X.A (eval e X.env) (λw ba=>wpAny (model X.prog X.w) X.A (inplaceOp op u w) (λr db=>wpAny (model X.prog X.w) X.A (storeName X.env x r) (λ_=>SP X a3 D .next) X.xe db) X.xe ba) X.xe s:=by
  refine thn (he.h a3 s Z H _ I h) λw s1 zz=>?_;obtain⟨y,H1,I1,r1,q1⟩:=zz;refine thn (ho a3 s1 Z H1 v y u w _ I1 r r1 q1) λz s2 zz=>?_;obtain⟨zv,H2,I2,r2,q2⟩:=zz;exact zC I2 hN hi hx r2 (λs3 I3=>⟨_,H2,I3,q2⟩) hf
 rcases l with⟨hk,hm⟩|⟨hk,c,hc,cf⟩
 ·exact wpAny_loadName_local I.ok.kind hk hn hm go
 ·rcases hk with hk|hk
  ·exact wpAny_loadName_cell I.ok.kind hk hc cf go
  ·rcases hx with k|k
   ·have:X.env.scope.names.lookup x=some .free:=hk
    rw[k]at this;cases this
   ·have:X.env.scope.names.lookup x=some .free:=hk
    rw[k]at this;cases this⟩
theorem q3I:QS X (.Return none pos) Zx:=⟨q56 ⟩
theorem qp(he:QE X e te):QS X (.Return (some e) pos) (tRet te):=⟨by
 intro a3 s Z H D I h;exact wpAny_Return_some (thn (he.h a3 s Z H _ I h) λv s1 ⟨x,H1,I1,r1,q1⟩=>⟨x,Z,H1,I1,r1,q1⟩)⟩
theorem vp(hc:QT X c tc)(ha:QSs X a t)(hb:QSs X b u):QS X (.If c a b pos) (tIfS tc t u):=⟨by
 intro a3 s Z H D I h;refine wpAny_If (thn (hc.h a3 s Z H _ I h) λd s1 zz=>?_);obtain⟨H1,I1,q1⟩:=zz;cases d with
 |true=>exact ha.h a3 s1 Z H1 D I1 q1
 |false=>exact hb.h a3 s1 Z H1 D I1 q1⟩
theorem xL(hp:PassesOwn (model X.prog X.w) X.A X.env X.xe)(hc:X.calm=true)(hi:QI X tg aC wi)(hg:QG X tg g)(hb:QSs X body tb)(hs:∀x,foldedSetIterable aC X.env x=pure x:=by intro _;rfl):QS X (.For tg aC body [] pos) (tFor wi g tb):=⟨q6o hp hc hi.h hg.h hb.h hs⟩
theorem VT(hp:PassesOwn (model X.prog X.w) X.A X.env X.xe)(hc:QT X c tc)(hb:QSs X body tb):QS X (.While c body [] pos) (JZ tc tb):=⟨by
 intro a3 s Z H D I h;obtain⟨W,⟨m0,w0⟩,dP⟩:=h;refine wpAny_While (codeAny_whileLoop (λn s'=>∃aj H',Inv X a3 aj H' s'/\W n aj H') ?_ m0 ⟨Z,H,I,w0⟩);rintro n s1 ⟨cx,H1,I1,w1⟩;refine Uy hp (thn (hc.h a3 s1 cx H1 _ I1 (dP n cx H1 w1)) λb s2 zz=>?_);obtain⟨H2,I2,q2⟩:=zz;cases b with
 |true=>
  obtain⟨N,hN,q2⟩:=q2;rw[Uj rfl];refine Uy hp (thn (hb.h a3 s2 cx H2 _ I2 q2) λf s3 q3=>?_);cases f with
  |next=>
   obtain⟨dQ,H3,I3,n3⟩:=q3;obtain⟨m',hm,w3⟩:=hN dQ H3 n3;exact⟨m',hm,dQ,H3,I3,w3⟩
  |cont=>
   obtain⟨dQ,H3,I3,n3⟩:=q3;obtain⟨m',hm,w3⟩:=hN dQ H3 n3;exact⟨m',hm,dQ,H3,I3,w3⟩
  |brk=>exact q3
  |ret v=>exact q3
 |false=>
  rw[Uh Dn];exact Ux ⟨cx,H2,I2,q2⟩⟩
theorem vq(he:QE X e te)(hs:swapsWith e none pos.line X.env=pure false:=by rfl):QS X (.Expr e pos) (Zz te):=⟨by
 intro a3 s Z H D I h;exact U8 (thn (he.h a3 s Z H _ I h) λv s1 ⟨x,H1,I1,r1,q1⟩=>⟨Z,H1,I1,q1⟩) I.quiet hs⟩
theorem zl(hg:Gl X "range")(hm:X.mg "range" = none)(ha:QA X [a] ta)(hs:starEach [a] X.env=[(false,eval a X.env)]:=by rfl):QI X tg (.Call (.Name "range" p) [a] [] pos) (Ym ta):=⟨ZU hg hm ha.h hs⟩
theorem q3u(hK:X.K=Ξ)(hg:Gl X "reversed")(hm:X.mg "reversed" = none)(ha:QA X [a] ta)(hs:starEach [a] X.env=[(false,eval a X.env)]:=by rfl):QI X tg (.Call (.Name "reversed" p) [a] [] pos) (iRev Ξ ta):=⟨by
 subst hK;intro a3 s Z H R I h;refine Call_ (Xb I hg hm boot_reversed (PyProof.Rows.callWith_type1 (thn (ha.h pos a3 s Z H _ I h) λus s1 ⟨vs,H1,I1,r1,q1⟩=>?_) hs rfl));obtain⟨l,xs,e,hq,q⟩:=q1;subst e;cases r1 with
 |cons r rr=>
  cases rr;cases r;obtain⟨its,rv,pl,hz⟩:=I1.list hq;have ay:=rv.length;refine call_reversed_list pl.isList (wpAny_pyIter_revIter ⟨_,Heap.get?_push_size _ rfl,rfl,rfl⟩ ?_);refine⟨s1.heap.objs.size, [s1.heap.objs.size],_,_,H1,rfl,I1.kept (t':=s1.toks) λb o e=>Heap.get?_push_of_some _ e,q0i l _ xs.length,?_,λb hb=>?_,q⟩
  ·refine⟨_,Heap.get?_push_size _ rfl,rfl,?_⟩
   rw[ay];simp;rfl
  ·have e:b=s1.heap.objs.size:=by simpa using hb
   subst e;exact I1.fpOk (Dh _) (I1.hok.fresh (Dh _))⟩
theorem vA(h:X.K=Ξ)(hl:QE X l tl):QI X tg l (Yn Ξ tl):=⟨h▸q5j hl.h⟩
theorem vi(hN:X.N.Nodup)(hi:X.N[i]?=some x)(hx:Loc X.env.scope x)(hf:X.fn x=true\/X.env.scope.names.lookup x=some .local:=by first|exact .inl rfl|exact .inr rfl|assumption):QG X (.Name x pos) (qM i):=⟨jS hN hi hx hf⟩
theorem q2y(h:X.K=Ξ)(hN:X.N.Nodup)(hc:X.calm=true)(hi:X.N[i]?=some x)(hj:X.N[j]?=some y)(lx:Loc X.env.scope x)(ly:Loc X.env.scope y)(fx:X.fn x=true\/X.env.scope.names.lookup x=some .local)(fy:X.fn y=true\/X.env.scope.names.lookup y=some .local):QG X (.Tuple [.Name x px,.Name y py] kk pos) (gTup Ξ 2 (vj (qM i) (vj (qM j) gNil))):=⟨h▸q9n hN hc hi hj lx ly fx fy⟩
theorem Wy(h:X.K=Ξ)(hN:X.N.Nodup)(hc:X.calm=true)(hi:X.N[i]?=some x)(hj:X.N[j]?=some y)(hk:X.N[k]?=some z)(lx:Loc X.env.scope x)(ly:Loc X.env.scope y)(lz:Loc X.env.scope z)(fx:X.fn x=true\/X.env.scope.names.lookup x=some .local)(fy:X.fn y=true\/X.env.scope.names.lookup y=some .local)(fz:X.fn z=true\/X.env.scope.names.lookup z=some .local):QG X (.Tuple [.Name x px,.Name y py,.Name z pz] kk pos) (gTup Ξ 3 (vj (qM i) (vj (qM j) (vj (qM k) gNil)))):=⟨h▸q9B hN hc hi hj hk lx ly lz fx fy fz⟩
theorem zm(ho:QE X o to)(hi:QE X i ti)(hs:PSet X t)(ha:∀v,assign (.Subscript o i pos) X.env v=(do
   let ov <-holding [v] (eval o X.env);let iv <-holding [v,ov] (eval i X.env)
   standAt pos
   holding [v,ov,iv] (setItem ov iv v)
   release [v,ov,iv] []):=by intro _;rfl):QG X (.Subscript o i pos) (gSub to ti t):=⟨by
 intro a3 s Z H v u Q I r h;rw[ha];refine Ug (Uq (thn (ho.h a3 s Z H _ I h) λov s1 zz=>?_));obtain⟨x,H1,I1,r1,q1⟩:=zz;refine Ug (Uq (thn (hi.h a3 s1 Z H1 _ I1 q1) λiv s2 zz=>?_));obtain⟨y,H2,I2,r2,q2⟩:=zz;refine Ug (Uv (Ug (Uq (thn (hs a3 s2 Z H2 x y v ov iv u _ I2 r1 r2 r q2) λ_ s3 zz=>?_))));obtain⟨H3,I3,q3⟩:=zz;exact wpAny_release ⟨Z,H3,I3,q3⟩⟩
theorem Qe:QTs X [] tYes:=⟨q54 ⟩
theorem jR(h:QT X c t):QTs X [c] t:=⟨λa3 s Z H Q I q=>wpAny_tests_one (h.h a3 s Z H Q I q)⟩
theorem qa_c(ha:QE X e te)(hr:QA X es t)(h:zr e=true:=by rfl):QA X (e::es) (vE te t):=⟨q50 ha.h hr.h (Y0 h)⟩
theorem v7:QA X [] tNil:=⟨q6r ⟩
theorem qh(ho:OpR X (compareOp op) r)(ha:QE X a ta)(hb:QE X b tb)(hm:behindInMarks op b=false):QT X (.Compare a [op] [b] pos) (Vu (tOp r ta tb)):=⟨by
 intro a3 s Z H Q I h;refine wpAny_isTrue_Compare1 (thn (ha.h a3 s Z H _ I h) λv s1 ⟨x,H1,I1,r1,q1⟩=>thn (hb.h a3 s1 Z H1 _ I1 q1) λu s2 ⟨y,H2,I2,r2,q2⟩=>
  thn (ho a3 s2 Z H2 x y v u _ I2 r1 r2 q2) λc s3 ⟨z,H3,I3,r3,k,e,q3⟩=>?_) hm
 subst e;cases r3;exact Uw ⟨H3,I3,q3⟩⟩
theorem Q0(h:QW X e t):QT X e t:=⟨PW.pt h.h⟩
theorem j8{rest:List Expr}(ha:QT X a tA)(hb:QW X (.BoolOp .And (b::rest) pos) iD):QW X (.BoolOp .And (a::b::rest) pos) (tAnd tA iD):=⟨by
 intro wh a3 s Z H Q I h;refine isTrue_and (thn (ha.h a3 s Z H _ I h) λc s1 zz=>?_);obtain⟨H1,I1,q1⟩:=zz;cases c with
 |true=>exact hb.h wh a3 s1 Z H1 Q I1 q1
 |false=>exact⟨H1,I1,q1⟩⟩
theorem xl(ha:QT X a tA):QW X (.BoolOp .And [a] pos) tA:=⟨by
 intro wh a3 s Z H Q I h;refine isTrue_and (thn (ha.h a3 s Z H Q I h) λc s1 e=>?_);cases c with
 |true=>exact isTrue_and_nil e
 |false=>exact e⟩
theorem q7U{rest:List Expr}(ha:QT X a tA)(hb:QW X (.BoolOp .Or (b::rest) pos) iD):QW X (.BoolOp .Or (a::b::rest) pos) (tOr tA iD):=⟨by
 intro wh a3 s Z H Q I h;refine isTrue_or (thn (ha.h a3 s Z H _ I h) λc s1 zz=>?_);obtain⟨H1,I1,q1⟩:=zz;cases c with
 |true=>exact⟨H1,I1,q1⟩
 |false=>exact hb.h wh a3 s1 Z H1 Q I1 q1⟩
theorem q2Y(ha:QT X a tA):QW X (.BoolOp .Or [a] pos) tA:=⟨by
 intro wh a3 s Z H Q I h;refine isTrue_or (thn (ha.h a3 s Z H Q I h) λc s1 e=>?_);cases c with
 |false=>exact isTrue_or_nil e
 |true=>exact e⟩
theorem J9(ha:QT X a tA):QT X (.UnaryOp .Not a pos) (tNot tA):=⟨by
 intro a3 s Z H Q I h;exact isTrue_not (ha.h a3 s Z H (λc H1=>Q (!c) H1) I h)⟩
theorem vM(h:QE X e t)(he:∀bB,isTrue e X.env bB=(do let v <-bB;standAt e.pos;holding [v] (truthy v)):=by intro _;rfl):QT X e (tB t):=⟨by
 intro a3 s Z H Q I hw;refine isTrue_plain (thn (h.h a3 s Z H _ I hw) λv s1 ⟨x,H1,I1,r1,q1⟩=>?_) (he _);obtain⟨d,rfl,q⟩:=q1;cases r1;exact Uw ⟨H1,I1,q⟩⟩
theorem ZN(h:X.K=Ξ)(ha:QE X a ta)(he:∀bB,isTrue a X.env bB=(do let v <-bB;standAt a.pos;holding [v] (truthy v))):QT X a (tTru Ξ ta):=⟨h▸q1u ha.h he⟩
theorem vG:QE X (.Constant .none j pos) (tC .non):=⟨q8g ⟩
theorem q1r:QE X (.Constant (.bool b) j pos) (tC (.bl b)):=⟨q97 ⟩
theorem qa:QE X (.Constant (.int i) j pos) (tC (.int i)):=⟨q7t ⟩
theorem qe:QE X (.Constant (.str x) j pos) (tC (.str x)):=⟨q6T ⟩
theorem qv{X:Cx}(i:Nat){x:Str}{pos:Pos}(hN:X.N[i]?=some x:=by rfl)(hv:Vis X.env.scope x:=by first|exact Or.inl rfl|exact Or.inr (Or.inl rfl)|exact Or.inr (Or.inr rfl))(hd:(x==("__debug__" : Str))=false:=by decide)(cO:(x==("__classdict__" : Str))=false:=by decide):QE X (.Name x pos) (tVar i):=⟨pv i hN hv hd cO⟩
theorem q7u(ho:UnR X (unaryOp op) r)(ha:QE X a ta):QE X (.UnaryOp op a pos) (tUn r ta):=⟨by
 intro a3 s Z H Q I h;exact UnaryOp_ (thn (ha.h a3 s Z H _ I h) λv s1 ⟨x,H1,I1,r1,q1⟩=>ho a3 s1 Z H1 x v Q I1 r1 q1)⟩
theorem ql(ho:OpR X (binaryOp op) r)(ha:QE X a ta)(hb:QE X b tb):QE X (.BinOp a op b pos) (tOp r ta tb):=⟨by
 intro a3 s Z H Q I h;exact wpAny_BinOp (binT ha.h hb.h I h λv u s2 x y H2 I2 rx ry q=>ho a3 s2 Z H2 x y v u Q I2 rx ry q)⟩
theorem xn(ho:OpR X (compareOp op) r)(ha:QE X a ta)(hb:QE X b tb)(hm:behindInMarks op b=false):QE X (.Compare a [op] [b] pos) (tOp r ta tb):=⟨by
 intro a3 s Z H Q I h;exact wpAny_Compare1 (binT ha.h hb.h I h λv u s2 x y H2 I2 rx ry q=>ho a3 s2 Z H2 x y v u Q I2 rx ry q) hm⟩
theorem q0K(ho:OpR X (compareOp op) r)(bA:OpR X (compareOp op') r')(ha:QE X a ta)(hb:QE X b tb)(hc:QE X c tc)(hm:lastMarks [op,op'] [b,c]=false:=by with_unfolding_all rfl):QE X (.Compare a [op,op'] [b,c] pos) (j7 r r' ta tb tc):=⟨by
 intro a3 s Z H Q I h;refine Compare_chain (thn (ha.h a3 s Z H _ I h) λv s1 ⟨x,H1,I1,r1,q1⟩=>chain_link (thn (hb.h a3 s1 Z H1 _ I1 q1) λu s2 ⟨y,H2,I2,r2,q2⟩=>
  thn (ho a3 s2 Z H2 x y v u _ I2 r1 r2 q2) λd s3 ⟨z,H3,I3,r3,k,e,q3⟩=>?_)) hm
 subst e;cases r3;refine Uw ?_;cases k with
 |false=>exact ite_ff ⟨.bl false,H3,I3,rfl,q3⟩
 |true=>exact ite_tt (chain_last (thn (hc.h a3 s3 Z H3 _ I3 q3) λw' s4 ⟨z',H4,I4,r4,q4⟩=>bA a3 s4 Z H4 y z' u w' Q I4 r2 r4 q4))⟩
theorem q2F(h:QE X a t):QE X (.BoolOp op [a] pos) t:=⟨λa3 s Z H Q I hw=>BoolOp_one (h.h a3 s Z H Q I hw)⟩
theorem q2C{rest:List Expr}(ha:QE X a ta)(hb:QE X (.BoolOp .And (b::rest) pos) tb):QE X (.BoolOp .And (a::b::rest) pos) (ZB ta tb):=⟨by
 intro a3 s Z H Q I h;refine BoolOp_and (thn (ha.h a3 s Z H _ I h) λv s1 zz=>?_);obtain⟨x,H1,I1,r1,q1⟩:=zz;obtain⟨c,rfl,q1⟩:=q1;cases r1;refine Uw ?_;cases c with
 |true=>exact hb.h a3 s1 Z H1 Q I1 q1
 |false=>exact⟨.bl false,H1,I1,rfl,q1⟩⟩
theorem vd(hc:QT X c tA)(ha:QE X a ta)(hb:QE X b tb):QE X (.IfExp c a b pos) (tIf tA ta tb):=⟨by
 intro a3 s Z H Q I h;refine wpAny_IfExp (thn (hc.h a3 s Z H _ I h) λd s1 zz=>?_);obtain⟨H1,I1,q1⟩:=zz;cases d with
 |true=>exact ha.h a3 s1 Z H1 Q I1 q1
 |false=>exact hb.h a3 s1 Z H1 Q I1 q1⟩
theorem qw(h:QA X es t):QE X (.List es pos) (tLst t):=⟨by
 intro a3 s Z H Q I hq;refine wpAny_List_spliced (thn (h.h pos a3 s Z H _ I hq) λus s1 ⟨xs,H1,I1,r,z,q⟩=>⟨by rw[<-r.length];exact z,?_⟩);have hf:H1 s1.heap.objs.size=none:=I1.hok.fresh (Dh _);refine⟨.ref s1.heap.objs.size,upd H1 s1.heap.objs.size (.lst xs),I1.laid (t':=s1.toks) (λb u e=>Heap.get?_push_of_some _ e) (Dh _) ?_,rfl,q _ hf⟩;exact⟨z,us,0,r,Heap.get?_push_size _ rfl⟩⟩
theorem qA(h:QA X es t):QE X (.Tuple es x1 pos) (tTup t):=⟨by
 intro a3 s Z H Q I hq;refine wpAny_Tuple_spliced (thn (h.h pos a3 s Z H _ I hq) λus s1 ⟨xs,H1,I1,r,z,q⟩=>⟨by rw[<-r.length];exact z,?_⟩);have hf:H1 s1.heap.objs.size=none:=I1.hok.fresh (Dh _);refine⟨.ref s1.heap.objs.size,upd H1 s1.heap.objs.size (.tup xs),I1.laid (t':=s1.toks) (λb u e=>Heap.get?_push_of_some _ e) (Dh _) ?_,rfl,q _ hf⟩;exact⟨z,us,r,⟨_,Heap.get?_push_size _ rfl,rfl,_,rfl⟩⟩⟩
theorem vc{hi lo:Option Expr}(hr:SlR X r)(he:QE X e te)(hl:QO X lo tl)(hu:QO X hi th):QE X (.Subscript e (.Slice lo hi none p2) pos) (tSl r te tl th):=⟨by
 intro a3 s Z H Q I h;refine Subscript_ (thn (he.h a3 s Z H _ I h) λv s1 zz=>?_);obtain⟨x,H1,I1,r1,q1⟩:=zz;refine wpAny_Slice (thn (hl.h a3 s1 Z H1 _ I1 q1) λvl s2 ⟨l,H2,I2,pl,q2⟩=>thn (hu.h a3 s2 Z H2 _ I2 q2) λvu s3 zz=>?_);obtain⟨u,H3,I3,pu,q3⟩:=zz;rw[evalPart_none];refine Ui ?_;have I4:Inv X a3 Z H3 { s3 with heap:=s3.heap.push { cls:=.type "slice", data:=.fields #[vl,vu,.none] } }:=I3.kept (t':=s3.toks) λb ob q=>Heap.get?_push_of_some _ q;obtain⟨T,id,hT,ht,hg⟩:=hr a3 { s3 with heap:=s3.heap.push { cls:=.type "slice", data:=.fields #[vl,vu,.none] } } Z H3 x v vl vu l u s3.heap.objs.size Q I4 r1 (Heap.IsSliceOf.new ..) pl pu q3;show wpAny (model X.prog X.w) X.A (subscriptTail e (.Slice lo hi none p2) v (.ref s3.heap.objs.size)) (EP X a3 Z Q) X.xe { s3 with heap:=s3.heap.push { cls:=.type "slice", data:=.fields #[vl,vu,.none] } };exact tail_any (ops:=[.ref s3.heap.objs.size,v]) ht hT hg (by with_unfolding_all rfl)⟩
theorem qY(h:QE X e te):QO X (some e) (Zy te):=⟨by
 intro a3 s Z H Q I hw;rw[evalPart_some];refine thn (h.h a3 s Z H _ I hw) λu s1 zz=>?_;obtain⟨x,H1,I1,r1,q1⟩:=zz;obtain⟨i,rfl,q⟩:=q1;obtain⟨t,rfl⟩:=r1;exact⟨some i,H1,I1,.int i t,q⟩⟩
theorem v6:QO X none zZ:=⟨q5l ⟩
theorem qr(hr:IxR X r)(ha:QE X a ta)(hb:QE X b tb)(hs:JO b):QE X (.Subscript a b pos) (tOp r ta tb):=⟨by
 intro a3 s Z H Q I h;exact Subscript_ (binT ha.h hb.h I h λv u s2 x y H2 I2 rx ry q=>hr a b a3 s2 Z H2 x y v u Q I2 rx ry q (hs _ _))⟩
theorem Ji(hu:X.A.units+1<cLine)(ho:QE X o td)(hi:QE X i ty)(hs:NoSl i):QE X (.Subscript o i pos) (YX td ty):=⟨by
 intro a3 s Z H Q I h;refine YZ PySem.F.slot_dict_getitem.lookup hs (thn (ho.h a3 s Z H _ I h) λu s1 ⟨x,H1,I1,rx,q1⟩=>thn (hi.h a3 s1 Z H1 _ I1 q1) λiv s2 zz=>?_);obtain⟨y,H2,I2,ry,a,v,ex,g,q2⟩:=zz;subst ex;obtain rfl:u=Value.ref a:=rx;exact⟨JI I2 g,qar hu I2 g ry λw' s3 I3 dG=>⟨v,H2,I3,dG,q2⟩⟩⟩
theorem qy(he:QE X e ta)(hb:attributeBase e f X.env (eval e X.env)=eval e X.env):QE X (.Attribute e f pos) (tFld X.K ta f):=⟨by
 intro a3 s Z H Q I h;refine qaY hb (thn (he.h a3 s Z H _ I h) λu s1 zz=>?_);obtain⟨x,H1,I1,rx,a,C,dx,fs,v,ex,ea,c,n,l,q⟩:=zz;subst ex;obtain rfl:u=Value.ref a:=rx;exact Vh I1 ea c n l λu' s2 I2 ru=>⟨v,H1,I2,ru,q⟩⟩
theorem ZQ(bs:List Bool)(ext:List Str)(hi:QI X tg aC wi)(hg:∀fp s H,QG (cxB X scope ext fp s H) tg g)(ht:∀fp s H,QTs (cxB X scope ext fp s H) cg tt)(he:∀fp s H,QE (cxB X scope ext fp s H) elt te)(hk:je scope X.env X.N bs=true:=by rfl)(hc:X.calm=true:=by rfl)(hs:∀x,foldedSetIterable aC X.env x=pure x:=by intro _;rfl):QE X (.ListComp elt [⟨tg,aC,cg,0⟩] scope pos) (xG wi bs ext.length g tt te):=⟨q9N bs ext hi.h (λfp s H=>(hg fp s H).h) (λfp s H=>(ht fp s H).h) (λfp s H=>(he fp s H).h) hk hc hs⟩
theorem q47(h:QPs X pos keys cF e8)(dY:keys.all (·.isSome)=true)(hl:keys.length=cF.length)(h0:keys≠[])(oJ:keys.length<=15):QE X (.Dict keys cF pos) (q8G e8):=⟨by
 intro a3 s Z H Q I q;have hn:=I.hok.fresh (Dh s.heap.objs.size);have I1:=I.laid (a:=s.heap.objs.size) (o:=.dK []) (h':=s.heap.push { cls:=.type "dict", data:=.dict #[] }) (t':=s.toks) (λ_ _ q=>Heap.get?_push_of_some _ q) (Dh _) (Ku s.heap I.big);refine wpAny_Dict_walk (knd:=qZ X.prog X.w) dY hl h0 oJ (thn (h.h a3 _ Z _ _ I1 (q _ hn)) λws s2 zz=>?_);obtain⟨ps,H2,I2,bC,e,kvs,ep,lk,q2⟩:=zz;subst ep;obtain⟨rs,c,rk⟩:=Vo (P:=X.prog) (w:=X.w) bC;obtain⟨z,hd,vs0,r0,dd⟩:=q6v I2.hok e;cases r0;refine⟨rs,c,dd,λh' fJ hs=>⟨.ref s.heap.objs.size,_,?_,rfl,q2⟩⟩;have hz:(Qk [] kvs).length<=sizeLine:=by
  have h1:=jp kvs [];rw[DR]at h1;rw[Ul];lia
 have he:∃q,h'.get? s.heap.objs.size=some q:=let⟨q,_,_,hq,_⟩:=fJ;⟨q,hq⟩;exact JJ I2 (by rw[e];exact True.intro) hs he (q31 hz hd (rk.merge .nil) fJ)⟩
theorem q5i:QPs X pos [] [] []:=⟨q5o ⟩
theorem jk(hk:QE X k tk)(hv:QE X v tv)(hr:QPs X pos ks vs e8):QPs X pos (some k::ks) (v::vs) ((tk,tv)::e8):=⟨λa3 s Z H Q I h=>
 pairTrees_cons_walk (thn (hk.h a3 s Z H _ I h) λu s1 ⟨x,H1,I1,rx,q1⟩=>thn (hv.h a3 s1 Z H1 _ I1 q1) λw2 s2 ⟨y,H2,I2,ry,q2⟩=>
  thn (hr.h a3 s2 Z H2 _ I2 q2) λws s3 ⟨ps,H3,I3,bC,q3⟩=>⟨(x,y)::ps,H3,I3,.cons ⟨rx,ry⟩ bC,q3⟩)⟩
theorem qg(D:Def X.prog X.w X.K X.mg X.base x k ps sp)(hr:Room k X.A)(ha:QA X (e::es) t)(hg:Gl X x:=by rfl)(cj:(x==("__debug__" : Str))=false:=by decide)(he:starEach (e::es) X.env=(false,eval e X.env)::starEach es X.env:=by rfl)(bR:(backTo pos (starEach es X.env)).any (·.1)=false:=by rfl):QE X (.Call (.Name x p) (e::es) [] pos) (zT sp [] E0 t):=⟨by
 obtain⟨f,fd,h1,h2,h3,h4⟩:=D.ex;exact q5W h4 hr hg h1 h2 h3 .nil WQ ha.h cj he bR⟩
theorem qx{id:String}(hc:zB X (.builtin id) r)(hg:Gl X x)(hm:X.mg x=none)(hv:bootBuiltins x=some (.builtin id))(ha:QA X (e::es) t)(hn:x ≠ "__name__" := by decide)(cj:(x==("__debug__" : Str))=false:=by decide)(he:starEach (e::es) X.env=(false,eval e X.env)::starEach es X.env:=by rfl)(bR:(backTo pos (starEach es X.env)).any (·.1)=false:=by rfl):QE X (.Call (.Name x p) (e::es) [] pos) (tCB r t):=⟨by
 intro a3 s Z H Q I h;refine Uu (Xb I hg hm hv ?_ hn cj);exact PyProof.Rows.callWith_builtin1 (thn (ha.h pos a3 s Z H _ I h) λus s1 ⟨vs,H1,I1,r1,q1⟩=>hc a3 s1 Z H1 vs us Q I1 r1 q1) he bR⟩
theorem qT{T:String}(hc:zB X (.type T) r)(hg:Gl X x)(hm:X.mg x=none)(hv:bootBuiltins x=some (.type T))(ha:QA X (e::es) t)(hn:x ≠ "__name__" := by decide)(cj:(x==("__debug__" : Str))=false:=by decide)(he:starEach (e::es) X.env=(false,eval e X.env)::starEach es X.env:=by rfl)(bR:(backTo pos (starEach es X.env)).any (·.1)=false:=by rfl):QE X (.Call (.Name x p) (e::es) [] pos) (tCB r t):=⟨by
 intro a3 s Z H Q I h;refine Uu (Xb I hg hm hv ?_ hn cj);exact PyProof.Rows.callWith_type1 (thn (ha.h pos a3 s Z H _ I h) λus s1 ⟨vs,H1,I1,r1,q1⟩=>hc a3 s1 Z H1 vs us Q I1 r1 q1) he bR⟩
theorem VU(hg:Gl X x)(hm:X.mg x=none)(hv:bootBuiltins x=some u)(r:RelV v u)(hn:x ≠ "__name__" := by decide)(hd:(x==("__debug__" : Str))=false:=by decide):QE X (.Name x pos) (tC v):=⟨
 λ_ _ _ H _ I h=>Xb I hg hm hv ⟨v,H,I,r,h⟩ hn hd⟩
theorem q82{T id:String}(pa:PlainAttrs T)(slot:Slot T name id)(gV:typeOf (.builtin id)=pure (.type "method_descriptor"))(hm:MtR X id r)(ho:QE X o to)(ha:QA X (e::es) t)(cR:attributeBase o name X.env (eval o X.env)=eval o X.env:=by rfl)(fP:((backTo aB (starEach (e::es) X.env)).all (λx=> !x.1)&&(backToKw aB (keywordEach [] X.env)).all (λx=>x.1.isSome)
   && decide ((e::es).length+([]:List Keyword).length+(if([]:List Keyword).isEmpty then 0 else 1)<30))=true:=by rfl)(cS:(aK.endLine==aB.line)=true:=by rfl)(hs:starEach (e::es) X.env=(false,eval e X.env)::starEach es X.env:=by rfl)(cn:(backTo aB (starEach es X.env)).any (·.1)=false:=by rfl):QE X (.Call (.Attribute o name aK) (e::es) [] aB) (tBM X.K T r to t):=⟨by
 intro a3 s Z H Q I h;refine wpAny_Call_method_late cR fP cS rfl (thn (ho.h a3 s Z H _ I h) λv s1 zz=>?_);obtain⟨x,H1,I1,r1,ty,q1⟩:=zz;obtain⟨h1,h2⟩:=YN I1 r1 ty;refine⟨T,id,pa,slot,gV,h1,h2,?_⟩;have hA:=ha.h aB a3 s1 Z H1 _ I1 q1;rw[hs]at hA ⊢;refine Calls.callWith_builtin (by show(false||(backTo aB (starEach es X.env)).any (·.1))=false;rw[cn]<;>rfl) (Calls.evalArgs_plain ?_);exact thn hA λus s2 ⟨vs,H2,I2,r2,q2⟩=>hm a3 s2 Z H2 x vs v us Q I2 r1 r2 q2⟩
theorem q2d{T id:String}(pa:PlainAttrs T)(slot:Slot T name id)(gV:typeOf (.builtin id)=pure (.type "method_descriptor"))(hm:MtR X id r)(ho:QE X o to)(cR:attributeBase o name X.env (eval o X.env)=eval o X.env:=by rfl)(cS:(aK.endLine==aB.line)=true:=by rfl):QE X (.Call (.Attribute o name aK) [] [] aB) (tBM0 X.K T r to):=⟨by
 intro a3 s Z H Q I h;refine wpAny_Call_method0_late cR cS (thn (ho.h a3 s Z H _ I h) λv s1 zz=>?_);obtain⟨x,H1,I1,r1,ty,q1⟩:=zz;obtain⟨h1,h2⟩:=YN I1 r1 ty;exact⟨T,id,pa,slot,gV,h1,h2,Calls.callWith_builtin rfl (PySem.evalArgs_none (hm a3 s1 Z H1 x [] v [] Q I1 r1 .nil q1))⟩⟩
theorem Q1{id:String}(slot:Slot "list" name id)(gV:typeOf (.builtin id)=pure (.type "method_descriptor"))(hm:MtR X id r)(ho:QE X o to)(ha:QA X (e::es) t)(cR:attributeBase o name X.env (eval o X.env)=eval o X.env:=by rfl)(fP:((backTo aB (starEach (e::es) X.env)).all (λx=> !x.1)&&(backToKw aB (keywordEach [] X.env)).all (λx=>x.1.isSome)
   && decide ((e::es).length+([]:List Keyword).length+(if([]:List Keyword).isEmpty then 0 else 1)<30))=true:=by rfl)(cS:(aK.endLine==aB.line)=true:=by rfl)(hs:starEach (e::es) X.env=(false,eval e X.env)::starEach es X.env:=by rfl)(cn:(backTo aB (starEach es X.env)).any (·.1)=false:=by rfl):QE X (.Call (.Attribute o name aK) (e::es) [] aB) (tLM r to t):=⟨by
 intro a3 s Z H Q I h;refine wpAny_Call_method_late cR fP cS rfl (thn (ho.h a3 s Z H _ I h) λv s1 zz=>?_);obtain⟨x,H1,I1,r1,p,xs,ex,hp,q1⟩:=zz;subst ex;obtain⟨h1,h2⟩:=YN (T := "list") I1 r1 (.inl ⟨rfl,xs,SqL.of hp⟩);refine⟨"list", id,PySem.F.plainAttrs_list,slot,gV,h1,h2,?_⟩;have hA:=ha.h aB a3 s1 Z H1 _ I1 q1;rw[hs]at hA ⊢;refine Calls.callWith_builtin (by show(false||(backTo aB (starEach es X.env)).any (·.1))=false;rw[cn]<;>rfl) (Calls.evalArgs_plain ?_);exact thn hA λus s2 ⟨vs,H2,I2,r2,q2⟩=>hm a3 s2 Z H2 (.ref p) vs v us Q I2 r1 r2 q2⟩
theorem qD(D:MDef X.prog X.w X.K X.mg X.base C m k ps sp)(c:Cls X.K C)(he:QE X o ta)(hr:Room k X.A)(ha:QA X (e::es) t)(eV:starEach (e::es) X.env=(false,eval e X.env)::starEach es X.env:=by rfl)(bR:(backTo pos (starEach es X.env)).any (·.1)=false:=by rfl)(ht:eval (.Call (.Attribute o m aK) (e::es) [] pos) X.env=(do
   let ov <-eval o X.env
   standAt aK.atName;let(f,first) <-holding [ov] (getMethod ov m pl)
   callWith pos f first (backTo pos (starEach (e::es) X.env)) (backToKw pos (keywordEach [] X.env))):=by rfl):QE X (.Call (.Attribute o m aK) (e::es) [] pos) (XS C m sp [] E0 ta t):=⟨by
 obtain⟨f,fd,h1,h2,h3⟩:=D.ex;exact q4B he.h c h1 h3 hr h2 .nil WQ ha.h eV bR ht⟩
theorem zF(G:GInt X.mg x n)(hg:Gl X x)(hd:(x==("__debug__" : Str))=false:=by decide):QE X (.Name x pos) (tC (.int n)):=⟨by
 obtain⟨t,e⟩:=G.ex;exact WM hg e ⟨t,rfl⟩ hd⟩
theorem q6x(hu:X.A.units+1<cLine)(hi:QE X i ty)(ho:QE X o td)(h1:behindInMarks .In o=false:=by with_unfolding_all rfl):QT X (.Compare i [.In] [o] pos) (tB (tDIn ty td)):=⟨q2R (q8i hu hi.h ho.h) h1⟩
theorem Wv(hu:X.A.units+1<cLine)(hi:QE X i ty)(ho:QE X o td)(h1:behindInMarks .NotIn o=false:=by with_unfolding_all rfl):QT X (.Compare i [.NotIn] [o] pos) (tB (Vw ty td)):=⟨q2R (WP hu hi.h ho.h) h1⟩
theorem Ww(hu:X.A.units+1<cLine)(ho:QE X o td)(hi:QE X i ty)(hv:QE X value tv)(hs:swapsWith value (some (.Subscript o i pos')) pos.line X.env=pure false:=by rfl):QS X (.Assign [.Subscript o i pos'] value pos) (q7h td ty tv):=⟨by
 intro a3 s Z H D I h;refine wpAny_Assign_Subscript (thn (hv.h a3 s Z H _ I h) λr s1 ⟨v,H1,I1,rv,q1⟩=>thn (ho.h a3 s1 Z H1 _ I1 q1) λu s2 ⟨x,H2,I2,rx,q2⟩=>thn (hi.h a3 s2 Z H2 _ I2 q2) λiv s3 ⟨y,H3,I3,ry,a,H4,ex,g,q3⟩=>?_) hs;subst ex;obtain rfl:u=Value.ref a:=rx;exact qaq hu I3 g ry rv λs4 I4=>⟨Z,H4,I4,q3⟩⟩
theorem Wz:QE X (.Dict [] [] pos) J1:=⟨λa3 s Z H Q I h=>
 wpAny_Dict_empty ⟨.ref s.heap.objs.size,_,I.laid (a:=s.heap.objs.size) (o:=.dK []) (t':=s.toks) (λ_ _ q=>Heap.get?_push_of_some _ q) (Dh _) (Ku s.heap I.big),rfl,h _ (I.hok.fresh (Dh _))⟩⟩
theorem vU(hg:Gl X x)(hm:X.mg x=some u)(r:RelV v u)(hd:(x==("__debug__" : Str))=false:=by decide):QE X (.Name x pos) (tC v):=⟨WM hg hm r hd⟩
structure q5z(P:Program)(w:World)(Ξ:PySem.W.Frag)(mg:Str->Option Value)(base:Heap)(C:Addr)(x:Str)(k:Nat)(ps:List Str)(sp:Sp):Prop where
 ex:∃(f:Addr)(fd:FuncData),Mk Ξ C f/\mg x=some (.ref C)/\Binds Ξ fd ps []/\FnOk P w Ξ mg base CX0 k f fd ps sp
theorem q9I(D:q5z X.prog X.w X.K X.mg X.base C x k ps sp)(hr:Room (k+1) X.A)(hg:Gl X x)(ha:QA X (e::es) t)(cj:(x==("__debug__" : Str))=false:=by decide)(he:starEach (e::es) X.env=(false,eval e X.env)::starEach es X.env:=by rfl)(bR:(backTo pos (starEach es X.env)).any (·.1)=false:=by rfl):QE X (.Call (.Name x p) (e::es) [] pos) (q4R C sp [] E0 t):=by
 obtain⟨f,fd,h1,h2,h3,h4⟩:=D.ex;exact⟨q4o h1 h4 hr hg h2 h3 .nil WQ ha.h cj he bR⟩
def q6N(i j k:Nat)(ta:TA):TS:=λD Z H=>ta Z H λvs H1=>∃v w u,vs=[v,w,u]/\D.nx (((Z.set i (some v)).set j (some w)).set k (some u)) H1
theorem q5g(hc:X.calm=true)(hN:X.N.Nodup)(hi:X.N[i]?=some x)(hj:X.N[j]?=some y)(hk:X.N[k]?=some z)(lH:i≠j)(oK:i≠k)(oM:j≠k)(hx:X.env.scope.names.lookup x=some .local)(hy:X.env.scope.names.lookup y=some .local)(hz:X.env.scope.names.lookup z=some .local)(ha:QA X [a,b,c] ta)(hw:swappedStores [.Tuple [.Name x px,.Name y py,.Name z pz] kt pt] (.Tuple [a,b,c] k2 pt2) X.env=pure (some [x,y,z]))(hs:swapsWithSole [.Tuple [.Name x px,.Name y py,.Name z pz] kt pt] (.Tuple [a,b,c] k2 pt2) pos.line X.env=pure false:=by rfl):
  QS X (.Assign [.Tuple [.Name x px,.Name y py,.Name z pz] kt pt] (.Tuple [a,b,c] k2 pt2) pos) (q6N i j k ta):=⟨by
 intro a3 s Z H D I h;rw[exec_Assign_arm];refine Ug (Uv ?_);rw[hs];refine Ug (Ui ?_);rw[Uh (by decide)];refine Ug (Tuple_ (thn (ha.h _ a3 s Z H _ I h) λus s1 zz=>?_));obtain⟨vs,H1,I1,r1,q1⟩:=zz;obtain⟨v,w,u,e1,q1⟩:=q1;subst e1;obtain⟨u1,u2,u3,rfl,rv,dG,ru⟩:∃u1 u2 u3,us=[u1,u2,u3]/\RelV v u1/\RelV w u2/\RelV u u3:=by
  cases r1 with
  |cons p q=>
   cases q with
   |cons p' q'=>
    cases q' with
    |cons p2 q2=>
     cases q2;exact⟨_,_,_,rfl,p,p',p2⟩
 refine Ut ?_ (by show 3<=sizeLine;decide);have I2:Inv X a3 Z H1 { s1 with heap:=s1.heap.push { cls:=.type "tuple", data:=.seq [u1,u2,u3].toArray } }:=I1.kept (t':=s1.toks) λb o e=>Heap.get?_push_of_some _ e;rw[hw];refine Ug (Ui ?_);show wpAny (model X.prog X.w) X.A (do rule "assign.swapped-stores";let items <-unpackItems (.ref s1.heap.objs.size) 3 none;assignInOrder [λv=>bindName X.env z v,λv=>bindName X.env y v,λv=>bindName X.env x v] items.reverse;pure Flow.next) _ _ _;refine Ug (wpAny_rule (Ug (unpackItems_tuple (items:=#[u1,u2,u3]) (I.ok.hd hc) (IsTup.new s1.heap _) λh' oN=>?_)));have I3:=I2.kept (h':=h') (t':=s1.toks) λb o e=>oN b o (Dy (Heap.lt_size e)) e;show wpAny _ _ (assignInOrder [λv=>bindName X.env z v,λv=>bindName X.env y v,λv=>bindName X.env x v] [u3,u2,u1] >>= λ_=>pure Flow.next) _ _ _;refine Ug (UD (U9 (zC I3 hN hk (.inl hz) ru (λs2 I4=>?_) (.inr hz))));refine UD (U9 (zC I4 hN hj (.inl hy) dG (λs3 I5=>?_) (.inr hy)));refine UD (U9 (zC I5 hN hi (.inl hx) rv (λs4 I6=>assignInOrder_nil (Ui ?_)) (.inr hx)));have e:(((Z.set k (some u)).set j (some w)).set i (some v))=((Z.set i (some v)).set j (some w)).set k (some u):=by
  rw[qbg _ _ (Ne.symm lH),qbg _ _ (Ne.symm oK),qbg (some u) (some w) (Ne.symm oM)]
 rw[e]at I6;exact⟨_,H1,I6,q1⟩⟩
def okey(o:Obj):Option Addr×Option Value:=(o.dict,match o.data with | .fields vs=>vs[2]?|_=>none)
def Obk(h h':Heap):Prop:=∀(b:Nat)(o:Obj),h.objs[b]?=some o->∃o',h'.objs[b]?=some o'/\okey o'=okey o
theorem Obk.refl(h:Heap):Obk h h:=λb o e=>⟨o,e,rfl⟩
theorem Obk.trans(x:Obk h h')(y:Obk h' h''):Obk h h'':=λb o e=>by
 obtain⟨o',e',d'⟩:=x b o e;obtain⟨o2,e2,d2⟩:=y b o' e';exact⟨o2,e2,d2.trans d'⟩
theorem Obk.push(h:Heap)(o:Obj):Obk h (h.push o):=λb u e=>⟨u,by
 have hb:b<h.objs.size:=(Array.getElem?_eq_some_iff.mp e).1;cases h;simp only[Heap.push]at e hb ⊢;rw[qbb,Uh (Dy hb)];exact e,rfl⟩
theorem Obk.update(h:Heap)(a:Addr)(hf:∀o,okey (f o)=okey o):Obk h (h.update a f):=λb u e=>by
 cases h;simp only[Heap.update]at e ⊢;rw[Array.getElem?_modify];split
 ·exact⟨f u,by rw[e];rfl,hf u⟩
 ·exact⟨u,e,rfl⟩
theorem Obk.get{h h':Heap}{a d:Addr}{o o':Obj}(x:Obk h h')(e:h.get? a=some o)(e':h'.get? a=some o'):okey o'=okey o:=by
 obtain⟨u,eu,du⟩:=x a o (Heap.get?_some_iff.mp e).1;rw[(Heap.get?_some_iff.mp e').1]at eu;cases eu;exact du
def DK{α:Type}:Sem α->Prop
 |.pure _=>True
 |.raise _=>True
 |.unsupported _=>True
 |.finish _=>True
 |.rule _ k=>DK (k ())
 |.at _ k=>DK (k ())
 |.load _ _ k=>∀o,DK (k o)
 |.update _ _ f k=>(∀o,okey (f o)=okey o)/\DK (k ())
 |.alloc _ k=>∀a,DK (k a)
 |.loadIfAlive _ k=>∀o,DK (k o)
 |.point _ k=>DK (k ())
 |.register _ _=>True
 |.fresh k=>∀t,DK (k t)
 |.ask k=>∀x,DK (k x)
 |.choose _ _ k=>∀n,DK (k n)
 |.os _ _ k=>∀r,DK (k r)
 |.call _ _ _ _ _=>False
 |.handled _ k=>∀x,DK (k x)
 |.newGen _ k=>∀n,DK (k n)
 |.genState _ k=>∀x,DK (k x)
 |.resume _ _ _ _=>False
 |.yield _ _ _ _=>True
 |.stack k=>∀l,DK (k l)
 |.fork _ _=>True
 |.thread k=>∀n,DK (k n)
 |.await _ _ _ _ _=>True
theorem DK.wp{α:Type}{M:Model}{Γ:PySem.Ctx}:∀{t:Sem α}{Q:α->Pos->Shared->Prop}{E:Value->Pos->Shared->Prop}{p:Pos}{s:Shared},DK t->Sem.wp M Γ t Q E p s ->
  Sem.wp M Γ t (λa p' s'=>Q a p' s'/\Obk s.heap s'.heap) (λe p' s'=>E e p' s'/\Obk s.heap s'.heap) p s:=by
 intro t
 induction t with
 |pure a=>intro Q E p s _ h;rw[Sem.wp]at h ⊢;exact⟨h,.refl _⟩
 |raise e=>intro Q E p s _ h;rw[Sem.wp]at h ⊢;exact⟨h,.refl _⟩
 |unsupported x=>intro Q E p s _ h;rw[Sem.wp]at h;exact h.elim
 |finish x=>intro Q E p s _ h;rw[Sem.wp]at h;exact h.elim
 |rule x k ih=>intro Q E p s d h;rw[Sem.wp]at h ⊢;exact ih () d h
 | «at» x k ih=>intro Q E p s d h;rw[Sem.wp]at h ⊢;exact ih () d h
 |load a x k ih=>intro Q E p s d h;rw[Sem.wp]at h ⊢;obtain⟨o,e,h⟩:=h;exact⟨o,e,ih o (d o) h⟩
 |update a x f k ih=>
  intro Q E p s d h;rw[Sem.wp]at h ⊢;refine⟨h.1,Sem.wp_mono M Γ _ (λa p' s' z=>⟨z.1,(Obk.update _ _ d.1).trans z.2⟩) (λa p' s' z=>⟨z.1,(Obk.update _ _ d.1).trans z.2⟩) _ _ (ih () d.2 h.2)⟩
 |alloc o k ih=>
  intro Q E p s d h;rw[Sem.wp]at h ⊢;exact Sem.wp_mono M Γ _ (λa p' s' z=>⟨z.1,(Obk.push _ _).trans z.2⟩) (λa p' s' z=>⟨z.1,(Obk.push _ _).trans z.2⟩) _ _ (ih _ (d _) h)
 |loadIfAlive a k ih=>intro Q E p s d h;rw[Sem.wp]at h ⊢;exact ih _ (d _) h
 |point x k ih=>intro Q E p s d h;rw[Sem.wp]at h ⊢;exact ih () d h
 |register a k ih=>intro Q E p s d h;rw[Sem.wp]at h;exact h.elim
 |fresh k ih=>intro Q E p s d h;rw[Sem.wp]at h ⊢;exact ih _ (d _) h
 |ask k ih=>intro Q E p s d h;rw[Sem.wp]at h ⊢;exact ih _ (d _) h
 |choose x n k ih=>intro Q E p s d h;rw[Sem.wp]at h ⊢;exact⟨h.1,ih _ (d _) h.2⟩
 |os q l k ih=>intro Q E p s d h;rw[Sem.wp]at h ⊢;exact ih _ (d _) h
 |call c x g l k ih=>intro Q E p s d h;exact d.elim
 |handled x k ih=>intro Q E p s d h;rw[Sem.wp]at h ⊢;exact ih _ (d _) h
 |newGen c k ih=>intro Q E p s d h;rw[Sem.wp]at h ⊢;exact ih _ (d _) h
 |genState g k ih=>intro Q E p s d h;rw[Sem.wp]at h ⊢;obtain⟨o,e,h⟩:=h;exact⟨o,e,ih _ (d _) h⟩
 |resume g r l k ih=>intro Q E p s d h;exact d.elim
 |yield v g l k ih=>intro Q E p s d h;rw[Sem.wp]at h;exact h.elim
 |stack k ih=>intro Q E p s d h;rw[Sem.wp]at h ⊢;exact ih _ (d _) h
 |fork c k ih=>intro Q E p s d h;rw[Sem.wp]at h;exact h.elim
 |thread k ih=>intro Q E p s d h;rw[Sem.wp]at h ⊢;exact ih _ (d _) h
 |await a f b l k ih=>intro Q E p s d h;rw[Sem.wp]at h;exact h.elim
theorem DK.any{α:Type}{M:Model}{A:Around}{t:Sem α}{Q:α->Shared->Prop}{E:Value->Shared->Prop}{s:Shared}(d:DK t)(h:wpAny M A t Q E s):
  wpAny M A t (λa s'=>Q a s'/\Obk s.heap s'.heap) (λe s'=>E e s'/\Obk s.heap s'.heap) s:=λΓ p oO=>DK.wp d (h Γ p oO)
theorem DK.bind{α β:Type}{f:α->Sem β}:∀{m:Sem α},DK m->(∀a,DK (f a))->DK (m >>= f):=by
 intro m;show DK m->_->DK (m.bind f)
 induction m with
 |pure a=>intro _ h;exact h a
 |update a x g k ih=>intro d h;exact⟨d.1,ih () d.2 h⟩
 |raise e=>intro _ _;trivial
 |unsupported x=>intro _ _;trivial
 |finish x=>intro _ _;trivial
 |rule x k ih=>intro d h;exact ih () d h
 | «at» x k ih=>intro d h;exact ih () d h
 |load a x k ih=>intro d h o;exact ih o (d o) h
 |alloc o k ih=>intro d h o;exact ih o (d o) h
 |loadIfAlive a k ih=>intro d h o;exact ih o (d o) h
 |point x k ih=>intro d h;exact ih () d h
 |register a k ih=>intro _ _;trivial
 |fresh k ih=>intro d h o;exact ih o (d o) h
 |ask k ih=>intro d h o;exact ih o (d o) h
 |choose x n k ih=>intro d h o;exact ih o (d o) h
 |os q l k ih=>intro d h o;exact ih o (d o) h
 |call c x g l k ih=>intro d h;exact d.elim
 |handled x k ih=>intro d h o;exact ih o (d o) h
 |newGen c k ih=>intro d h o;exact ih o (d o) h
 |genState g k ih=>intro d h o;exact ih o (d o) h
 |resume g r l k ih=>intro d h;exact d.elim
 |yield v g l k ih=>intro _ _;trivial
 |stack k ih=>intro d h o;exact ih o (d o) h
 |fork c k ih=>intro _ _;trivial
 |thread k ih=>intro d h o;exact ih o (d o) h
 |await a f b l k ih=>intro _ _;trivial
theorem DK.pure{α:Type}(a:α):DK (Pure.pure a:Sem α):=trivial
theorem JG(a:Addr):DK (load a):=λ_=>trivial
theorem dk_stack:DK stack:=λ_=>trivial
theorem Xr(a:Addr)(h:∀o,okey (f o)=okey o):DK (update a f):=⟨h,trivial⟩
theorem Xv(hf:∀vs,(f vs)[2]?=vs[2]?)(o:Obj):okey (Obj.mapFields f o)=okey o:=by
 unfold Obj.mapFields;split
 ·exact Uo (Prod.mk _) (hf _)
 ·rfl
theorem JH(v:Value):DK (fieldsOf v):=by
 unfold fieldsOf;split
 ·refine(JG _).bind λo=>?_
  split<;>trivial
 ·trivial
theorem kB(v:Value)(i:Nat):DK (field v i):=by
 unfold field;refine(JH v).bind λo=>?_;split<;>trivial
theorem jd(v:Value)(x:Value)(hi:i≠2):DK (setField v i x):=by
 unfold setField;split
 ·unfold updateField
  refine(JG _).bind λo=>?_;split
  ·split
   ·exact Xr _ (Xv λvs=>Array.getElem?_setIfInBounds_ne hi)
   ·trivial
  ·trivial
 ·trivial
theorem xr(e:Value)(f:Option Addr):DK (setFlight e f):=by
 unfold setFlight;refine(kB _ _).bind λo=>?_;split
 ·exact jd _ _ (by decide)
 ·trivial
theorem Xs(ty:String)(vs:List Value):DK (newFields ty vs):=by
 unfold newFields newObj;dsimp only;split
 ·trivial
 ·unfold newObjAsIs
  exact λa=>trivial
theorem qal(env:Env)(l:List Env):DK (behindIsImport env l):=by
 unfold behindIsImport;split
 ·trivial
 ·split
  ·trivial
  ·exact(kB _ _).bind λ_=>trivial
theorem q3U(env:Env)(b:Bool)(l:List Env):DK (keptBack env b l):=by
 unfold keptBack;split
 ·split
  ·trivial
  ·unfold underTheClaimsCaller
   exact DK.bind (dk_stack.bind λ_=>trivial) λ_=>trivial
 ·trivial
theorem Kt:∀l:List Env,DK (readyFrames l)
 | []=>by unfold readyFrames;trivial
 |env::outer=>by
  unfold readyFrames;split
  ·refine(JG _).bind λo=>?_
   split
   ·trivial
   ·refine(qal _ _).bind λ_=>(q3U _ _ _).bind λ_=>DK.bind ?_ λ_=>Kt outer
    exact Xr _ λo=>rfl
  ·trivial
theorem Yt(env:Env):DK (PySem.frameOf env):=by
 unfold PySem.frameOf frameEnvs;refine DK.bind (dk_stack.bind λ_=>trivial) λl=>DK.bind ?_ λx=>?_
 ·unfold frameObject
  split
  ·trivial
  ·exact(Kt _).bind λ_=>trivial
 ·split<;>trivial
theorem q22(f:Addr)(b:Bool):DK (entryPlaceOf f b):=by
 unfold entryPlaceOf;refine dk_stack.bind λl=>?_;split<;>trivial
theorem qak(e:Value)(env:Env):DK (noteFrame e env):=by
 unfold noteFrame;have k:∀f head,DK (do setField e 1 (<-EntryCells.newEntry head (<-PySem.frameOf env) .none (rawInt f) .none (<-entryPlaceOf f (head != .none))):Sem Unit):=λf head=>
  (Yt _).bind λ_=>(q22 _ _).bind λ_=>DK.bind (by unfold EntryCells.newEntry;exact Xs _ _) λ_=>jd _ _ (by decide)
 split
 ·refine(kB _ _).bind λhead=>?_
  split
  ·refine(kB _ _).bind λ_=>?_
   split
   ·trivial
   ·exact(jd _ _ (by decide)).bind λ_=>k _ _
  ·exact k _ _
 ·trivial
theorem Vl(env:Env)(e:Value):DK (leaving env e):=by
 unfold leaving;exact(qak _ _).bind λ_=>xr _ _
end L2
namespace PySem.W
open Builtin.ObjectAttr
theorem getX_value(X:Ξ.In s.heap)(I:InstAt s.heap x ox C od)(gW:findIn Ξ (.ref C) "__getattribute__" = some (some (.builtin "BaseException.__getattribute__")))(gX:findIn Ξ (.ref C) "__getattr__" = some none)(hm:mroIn Ξ C (.type "BaseException")=some true)(hf:findObj Ξ C od name=some (.value v))(hh:handedIn v=true)(h:Q v { s with toks:=s.toks+1 }):wpAny (model prog w) A (getAttr (.ref x) name expr) Q E s:=by
 obtain⟨hp,g,d,t,os⟩:=s;have L0:=I.type (M:=model prog w);have L1:=UZ (M:=model prog w) X gW;have L2:=UZ (M:=model prog w) X gX;have L3:=looks_find (M:=model prog w) X I hf;have L4:=looks_mroIn (M:=model prog w) X hm;have FB:=PySem.F.excAttr_ValueError;have f3:=FB.ga.bind (.ref x);have gq:(expr&&onTheHeap (Value.builtin "BaseException.__getattribute__"))=false:=by cases expr<;>rfl
 have eQ:(Value.builtin "BaseException.__getattribute__" == Value.builtin "object.__getattribute__")=false:=by decide+kernel
 have oP:(onTheHeap (Value.ref C)&&Value.builtin "BaseException.__getattribute__" == Value.builtin "object.__getattribute__")=false:=by rw[eQ];rfl
 have ha:=F.args_bexc_ga (.ref x) (.str name t);have hk:builtinKind "BaseException.__getattribute__" = some .slot:=by decide+kernel
 have df:splitId "BaseException.__getattribute__" = some ("BaseException","__getattribute__"):=by decide+kernel
 unfold getAttr getAttrBy;refine Ug (wpAny_mkText (Uq (Ug (L0.at (Ug (L1.at ?_))))))
 repeat (any_goals (first|assumption|with_reducible refine L0.at ?_|with_reducible refine L2.at ?_|wp_step))
 refine UC FB.ga.plain F.entry_bexc_ga ?_;simp only[checkBuiltinCall,hk,df,Rj,D1];refine Ug ?_;unfold isInstance;refine Ug (L0.at (L4.at ?_))
 repeat (any_goals (first|assumption|with_reducible refine L0.at ?_|with_reducible refine L3.at ?_|wp_step))
 show wpAny _ _ (handedOut v) _ _ _;rw[handedOut_of hh];exact Ui h
def jv(dJ:List Value):List Value->Bool
 |.ref _::r=>jv dJ r
 |l=>l==dJ
theorem Vk:jv dJ (.ref c::r)=jv dJ r:=by rw[jv]
theorem Zh(h:refuseLoop self "__setattr__" dJ=pure ()):∀l,jv dJ l=true->refuseLoop self "__setattr__" l=pure ():=by
 intro l
 induction l with
 |nil=>intro e;have e:(([]:List Value)==dJ)=true:=e;rw[eq_of_beq e];exact h
 |cons x r ih=>
  intro e;cases x with
  |ref c=>rw[refuseLoop_ref];exact ih (by rw[Vk]at e;exact e)
  |_=>
   rw[jv]at e
   ·rw[eq_of_beq e];exact h
   ·intro a r' q;cases q
theorem Ys(h:dJ.contains v=true):∀l,jv dJ l=true->l.contains v=true:=by
 intro l
 induction l with
 |nil=>intro e;have e:(([]:List Value)==dJ)=true:=e;rw[eq_of_beq e];exact h
 |cons x r ih=>
  intro e;cases x with
  |ref c=>rw[qbh,ih (by rw[Vk]at e;exact e),Bool.or_true]
  |_=>
   rw[jv]at e
   ·rw[eq_of_beq e];exact h
   ·intro a r' q;cases q
def excOver(Ξ:Frag)(C:Addr):Bool:=(clsIn Ξ C).any λcd=>jv [.type "ValueError",.type "Exception",.type "BaseException",.type "object"] cd.mro&&cd.hasDict && !cd.mro.isEmpty
theorem setX_new(X:Ξ.In s.heap)(I:InstAt s.heap x ox C none)(n0:ox.dict=none)(n8:ox.data=.fields vs)(oQ:findIn Ξ (.ref C) "__setattr__" = some (some (.builtin "object.__setattr__")))(hp:excOver Ξ C=true)(ht:findIn Ξ (.ref C) name=some none)(h:∀h' d,d=s.heap.objs.size->(∀b o,b≠x->s.heap.get? b=some o->h'.get? b=some o)->h'.get? x=some { ox with dict:=some d }->h'.Ns1 d (λy=>if y=name then some v else none)->Q () { s with heap:=h',toks:=s.toks+2 }):
  wpAny (model prog w) A (setAttr (.ref x) name v) Q E s:=by
 have SF:=PySem.F.store_ValueError;obtain⟨cd,hc,ho⟩:=any_some hp;simp only[D9,Br]at ho;obtain⟨⟨ho,hd⟩,ne⟩:=ho;refine set_plain X I oQ ?_;have sub:Looks (model prog w) s.heap (isInstance (.ref x) (.type "object")) true:=I.type.andThen (looks_mroIn X (by unfold mroIn;rw[hc,BA,Uh (by rw[ne];decide),Ys (by decide) _ ho]));refine UC SF.slot.plain SF.entry (@check_slot (model prog w) _ _ { s with toks:=s.toks+1 } "object.__setattr__" "object" "__setattr__" (.ref x) [.str name s.toks,v] [] _ SF.kind SF.split sub (SF.args (.ref x) (.str name s.toks) v) ?_);have hm:Looks (model prog w) s.heap (mroOf (.ref C)) cd.mro:=(looks_clsIn X hc).andThen .now;rw[osa_eq,refuse_eq];refine Ug (Ug (Looks.here (s:={ s with toks:=s.toks+1 }) I.type (Ug (Looks.here (s:={ s with toks:=s.toks+1 }) hm ?_))));rw[Zh (SF.passes _) _ ho];refine Ui (Ug (Looks.here (s:={ s with toks:=s.toks+1 }) I.type (Ug (Looks.here (s:={ s with toks:=s.toks+1 }) (UZ X ht) (Ug (Ui ?_))))));obtain⟨hx,gr,hn, -⟩:=I;obtain⟨oc,odi,oda,eO⟩:=ox;dsimp only at gr n0 n8;subst gr n0 n8;refine Ug (Ui (Ug (Ug (U7 hx (Ug (Looks.here (s:={ s with toks:=s.toks+1 }) (looks_clsIn X hc) ?_))))));rw[hd];have fo:(s.heap.push { cls:=.type "dict", data:=.dict #[] }).get? x=some ⟨.ref C,none,.fields vs,eO⟩:=Heap.get?_push_of_some _ hx;have n9:x≠s.heap.objs.size:=Dy (Heap.lt_size hx);refine Ug (wpAny_alloc' (Ug (wpAny_update' fo (Ui ?_))));have oR:((s.heap.push { cls:=.type "dict", data:=.dict #[] }).update x λo=>{ cls:=o.cls,dict:=some s.heap.objs.size,data:=o.data,slots:=o.slots }).get? s.heap.objs.size=some { cls:=.type "dict", data:=.dict #[] } :=
  (Heap.get?_update_ne _ _ _ _ n9.symm).trans (Heap.get?_push_at rfl rfl)
 have gu:((s.heap.push { cls:=.type "dict", data:=.dict #[] }).update x λo=>{ cls:=o.cls,dict:=some s.heap.objs.size,data:=o.data,slots:=o.slots }).Ns s.heap.objs.size (λ_=>none):=
  ⟨_, #[],_,oR,rfl,λe he=>absurd he (by simp),λ_=>rfl⟩
 show wpAny _ _ (storeInDict s.heap.objs.size (.str name s.toks) name v) _ _ _;unfold storeInDict newKeyGuard;refine Ug (Ui (Ug (wpAny_nsSet1 (Heap.Ns1.of_empty gu) λh' gj hs=>?_)));obtain⟨oD,nZ,o0,iY,iZ,dS⟩:=gj.count (Within.cons name v Within.nil);refine Ug (wpAny_lookBehind iY (by rw[iZ];exact pastItsLine_dict (DB dS (by rw[Dj,DR,Ul];lia))) ?_);refine Ui (h h' s.heap.objs.size rfl (λb ob oS hb=>?_) ?_ gj)
 ·exact(hs.2 b (Dy (Heap.lt_size hb))).trans ((Heap.get?_update_ne _ _ _ _ oS).trans (Heap.get?_push_of_some _ hb))
 ·exact(hs.2 x n9).trans (Heap.get?_update_self _ fo rfl)
end PySem.W
namespace PySem.W
abbrev bmV:List Value:=[.type "ValueError",.type "Exception",.type "BaseException",.type "object"]
structure ExcI(h:Heap)(C f:Addr):Prop where
 ex:∃bm N nm qn bs hdct sn sub ab col dd k0 k1 k2 k3 k5 mN oI,h.get? C=some (excClassObj nm qn C N bs bm hdct sn sub ab col dd k0 k1 k2 k3 k5 "ValueError.__new__")/\h.Ns N mN/\mN "__init__" = some (.ref f)/\OwnTail h bmV bm/\h.get? f=some oI/\oI.cls=.type "function"
def excInI(Ξ:Frag)(C f:Addr):Bool:=match Ξ.lookup C with
 |some ⟨.type "type", _,.cls cd,sl⟩=>(match cd.mro,sl.toList with
  |.ref C'::bm, [_,_,_,_,some (.builtin n),_]=>C'==C&&n == "ValueError.__new__" && !cd.hasDel&&tailIn Ξ bmV bm&&nsOkIn Ξ cd.ns&&nsIn Ξ cd.ns "__init__" == some (some (.ref f))&&typeIn Ξ (.ref f)==some (.type "function")
  |_,_=>false)
 |_=>false
set_option tactic.hygienic true in
theorem K6(X:Ξ.In h)(G:h.Ns N mg)(e:nsIn Ξ N n=some (some v)):mg n=some v:=by
 obtain⟨o,es,ep,ho,hd,_,hf⟩:=G;unfold nsIn at e;split at e
 ·rename_i c d gi n' sl q
  have:=X _ _ q;rw[ho]at this;cases this;cases hd;split at e
  ·rename_i en he
   cases e;rw[<-hf];unfold nsFind findBy;rw[<-qbe,he];rfl
  ·first|cases e|(split at e<;>cases e)
 ·cases e
theorem q7V(X:Ξ.In h)(e:typeIn Ξ (.ref f)=some (.type "function")):∃oI,h.get? f=some oI/\oI.cls=.type "function" := by
 unfold typeIn at e;dsimp only at e;cases q:Ξ.lookup f with
 |none=>rw[q]at e;cases e
 |some o=>rw[q]at e;exact⟨o,X _ _ q,by simpa using e⟩
set_option tactic.hygienic true in
theorem excI_of(X:Ξ.In h)(q:excInI Ξ C f=true):ExcI h C f:=by
 unfold excInI at q;split at q
 ·rename_i dd cd sl ho
  split at q
  ·rename_i C' bm k0 k1 k2 k3 n k5 hm hs
   obtain⟨nm,bs,mro,ns,qn,hd,sn,sub,ab,col,oU⟩:=cd;simp only[D9,beq_iff_eq,Br]at q hm;obtain⟨⟨⟨⟨⟨⟨z1,z2⟩,z3⟩,z4⟩,z5⟩,z6⟩,z7⟩:=q;subst z1;subst z2;subst hm;subst z3;obtain⟨l⟩:=sl;have hs:l=_:=hs;subst hs;obtain⟨oI,e1,e2⟩:=q7V X z7;have N1:=Heap.Ns.of_isNs (isNs_of_in X z5);exact⟨bm,ns,nm,qn,bs,hd,sn,sub,ab,col,dd,k0,k1,k2,k3,k5,_,oI,X _ _ ho,N1,K6 X N1 z6,tail_of_in X z4,e1,e2⟩
  ·cases q
 ·cases q
theorem QY{os:OsState}(J:ExcI h C f)(dC:rest.length<=sizeLine)(hq:∀h' e,Heap.MadeExcOf h h' e (.ref C) rest->wpAny (model prog w) A (call (.ref f) (.ref e::rest)) (λr s'=>r=.none/\Q (.done (.ret (.ref e))) s') E ⟨h',g,d,t,os⟩):
  wpAny (model prog w) A (Builtin.«type.__call__» ⟨.ref C::rest, []⟩) Q E ⟨h,g,d,t,os⟩:=by
 obtain⟨bm,N,nm,qn,bs,hdct,sn,sub,ab,col,dd,k0,k1,k2,k3,k5,mN,oI,hC,hn,hi,T,gZ,hZ⟩:=J.ex;have Fn:=PySem.F.excBase_ValueError
 repeat (first|with_reducible refine UB hC ?_|with_reducible refine wpAny_madeBy_exc hC ?_|wp_step)
 refine codeAny_call_builtin_code (Code.quiet_builtin _ Fn.quiet) (wpAny_check_new_subU Fn (by decide) T hC ?_);refine codeAny_exc_new_subU Fn (by decide) Fn T hC ?_ dC;show wpAny _ _ _ _ _ _;have kk:∀b o,h.get? b=some o->((h.push { cls:=.type "tuple", data:=.seq rest.toArray }).push { cls:=.ref C,data:=.fields #[.ref h.objs.size,.none,.none,.none,.bool false,.none] }).get? b=some o :=
  λb o e=>Heap.get?_push_of_some _ (Heap.get?_push_of_some _ e)
 have ee:((h.push { cls:=.type "tuple", data:=.seq rest.toArray }).push
   { cls:=.ref C,data:=.fields #[.ref h.objs.size,.none,.none,.none,.bool false,.none] }).get? (h.objs.size+1)=some
   { cls:=.ref C,data:=.fields #[.ref h.objs.size,.none,.none,.none,.bool false,.none] }:=by heap_get
 have fq:=kk _ _ hC;have i3:=hn.keeps kk;have lJ:=T.keeps kk;have oV:(Value.ref C::bm).contains (.ref C)=true:=by simp
 unfold isInstance
 repeat (first|with_reducible refine UB ee ?_|(with_reducible refine wpAny_isSubtype_exc fq ?_;rw[oV])|wp_step)
 show wpAny _ _ (typeLookup (.ref C) _) _ _ _;refine wpAny_typeLookup_tail fq i3 lJ Fn.mroIs Fn.init.lookup ?_;rw[hi];refine Uq (Ug ?_);unfold bindSpecial;refine Ug (U5 (T := "function") ⟨_,kk _ _ gZ,hZ⟩ ?_);rw[Uj (by decide)];refine Ui (Ug (Uk (hq _ (h.objs.size+1) ⟨kk,Heap.get?_none_of_le (Bv _),h.objs.size,ee,Heap.get?_none_of_le (Dh _),?_⟩) (λr s' hr=>?_) λ_ _ x=>x))
 ·exact Heap.get?_push_of_some _ (Heap.get?_push_at rfl rfl)
 ·obtain⟨rfl,hQ⟩:=hr
  wp_walk;exact hQ
theorem qaV(J:ExcI s.heap C f)(dC:rest.length<=sizeLine)(hq:∀h' e,Heap.MadeExcOf s.heap h' e (.ref C) rest->wpAny (model prog w) (A.under (.builtin "type.__call__" ⟨.ref C::rest, []⟩)) (call (.ref f) (.ref e::rest)) (λr s'=>r=.none/\Q (.ref e) s') E { s with heap:=h' }):
  wpAny (model prog w) A (call (.ref C) rest) Q E s:=by
 obtain⟨h,g,d,t,os⟩:=s;obtain⟨bm,N,nm,qn,bs,hdct,sn,sub,ab,col,dd,k0,k1,k2,k3,k5,mN,oI,hC,hn,hi,T,gZ,hZ⟩:=J.ex;have f1:=tc_lookup;have f2:=tc_bind (.ref C);have hT:(⟨h,g,d,t,os⟩:Shared).TypeIs (.ref C) "type" := ⟨_,hC,rfl⟩;refine UV (codeAny_of_tree ?_);show wpAny _ _ (callAny (.ref C) _) _ _ _
 repeat (any_goals (first|assumption|with_reducible refine UB hC ?_|wp_step))
 refine⟨rfl,?_⟩;refine codeAny_call_builtin_at (Code.quiet_builtin _ (by decide+kernel)) entry_typeCall (wpAny_check_type_call_sub hC (QY J dC λh' e hm=>?_));exact hq h' e hm
abbrev excOb(C:Addr)(d:Option Addr)(t:Addr):Obj:={ cls:=.ref C,dict:=d,data:=.fields #[.ref t,.none,.none,.none,.bool false,.none] }
theorem Jg(hh:A.handled=none)(h:wpAny (model prog w) A x (λv ai=>∃e d t,v=.ref e/\ExcI ai.heap C f/\ai.heap.get? e=some (excOb C d t)/\E (.ref e) ai) E s):wpAny (model prog w) A (raiseStmt env (some x) none) Q E s:=by
 unfold raiseStmt;refine Ug (Uk h (λv ai cZ=>?_) λ_ _ x=>x);obtain⟨e,dx,tx,rfl,J,he,hE⟩:=cZ;obtain⟨bm,N,nm,qn,bs,hdct,sn,sub,ab,col,dd,k0,k1,k2,k3,k5,mN,oI,hC,hn,hi,T,gZ,hZ⟩:=J.ex;have oW:(Value.ref C::bm).contains (.type "BaseException")=true:=by rw[qbh,T.hasType (b:=true) (by decide),Bool.or_true]
 obtain⟨hp,g,d,tk,os⟩:=ai
 repeat (first|with_reducible refine UB he ?_|with_reducible refine UB hC ?_|(with_reducible refine wpAny_isSubtype_exc hC ?_;rw[oW])|wp_step)
 exact wpAny_raiseNew_none hh hE
theorem Raise_I(hh:A.handled=none)(cn:(backTo aB (starEach args env)).any (·.1)=false)(h:wpAny (model prog w) A (eval (.Name x np) env) (λc ai=>c=.ref C/\wpAny (model prog w) A (evalArgs (.ref C) true (backTo aB (starEach args env)) [])
   (λa ba=>a.kw=[]/\a.pos.length<=sizeLine/\ExcI ba.heap C f/\∀h' e,Heap.MadeExcOf ba.heap h' e (.ref C) a.pos ->
    wpAny (model prog w) (A.under (.builtin "type.__call__" ⟨.ref C::a.pos, []⟩)) (call (.ref f) (.ref e::a.pos)) (λr s'=>r=.none/\∃d t,ExcI s'.heap C f/\s'.heap.get? e=some (excOb C d t)/\E (.ref e) s') E { ba with heap:=h' }) E ai) E s):
  wpAny (model prog w) A (exec (.Raise (some (.Call (.Name x np) args [] aB)) none pos) env) Q E s:=by
 rw[arm_exec_Raise];refine Ug (Uv (Jg (C:=C) (f:=f) hh ?_));refine Ug (Uk (wpAny_Call_ofName (Uk h (λc ai cZ=>?_) λ_ _ x=>x)) (λv db fK=>Ug (Uv (Ui fK))) λ_ _ x=>x);obtain⟨rfl,cZ⟩:=cZ;unfold callWith;refine Ug (Uq (Uk cZ (λa ba da=>Ug (Uv ?_)) λ_ _ x=>x));obtain⟨aK,oX⟩:=a;obtain⟨oY,ay,J,da⟩:=da;obtain rfl:oX=[]:=oY;obtain⟨bm,N,nm,qn,bs,hdct,sn,sub,ab,col,dd,k0,k1,k2,k3,k5,mN,oI,hC,hn,hi,T,gZ,hZ⟩:=J.ex;obtain⟨hp,g,d,tk,os⟩:=ba;simp only[cn];refine Ug (wpAny_keeperOf_exc hC ?_);refine Ug (qaV J ay λh' e hm=>Uk (da h' e hm) (λr s' z=>⟨z.1,Ug (Uq (wpAny_point (Ui ?_)))⟩) λ_ _ x=>x);obtain⟨_,dx,tx,J',he,hE⟩:=z;exact⟨e,dx,tx,rfl,J',he,hE⟩
theorem bexc_init(J:ExcI s.heap C f)(he:s.heap.get? e=some (excOb C dx tx))(dC:rest.length<=sizeLine)(hq:∀h' t',(∀b o,b≠e->s.heap.get? b=some o->h'.get? b=some o)->h'.get? e=some (excOb C dx t')->R (.ok (.ret .none)) { s with heap:=h' }):
  codeAny (model prog w) A (.call (.builtin "ValueError.__init__") ⟨.ref e::rest, []⟩) R s:=by
 obtain⟨bm,N,nm,qn,bs,hdct,sn,sub,ab,col,dd,k0,k1,k2,k3,k5,mN,oI,hC,hn,hi,T,gZ,hZ⟩:=J.ex;have F:=PySem.F.excBase_ValueError;obtain⟨h,g,d,t,os⟩:=s;refine UC F.init.plain F.initEntry (wpAny_check_init_subU F T hC he rfl ?_);have dO:e≠h.objs.size:=Dy (Heap.lt_size he);have oZ:(h.push { cls:=.type "tuple", data:=.seq rest.toArray }).get? e=some (excOb C dx tx):=Heap.get?_push_of_some _ he
 wp_walk;refine hq _ h.objs.size (λb o hb q=>?_) ?_
 ·rw[Heap.get?_update_other _ _ (Ne.symm hb)];exact Heap.get?_push_of_some _ q
 ·exact(Heap.get?_update_self _ oZ rfl).trans rfl
end PySem.W
namespace L2
open PySem PySem.Spec PyProof.Rows
def q9p(a C:Addr)(d:Option Addr):Heap->Prop:=λh=>∃t,h.get? a=some (W.excOb C d t)
abbrev excO(a C:Addr)(d:Option Addr):HO:=.ext (q9p a C d)
theorem JF(e:h.get? a=some (W.excOb C d t)):ObjOk P w H h a (excO a C d):=
 ⟨⟨t,e⟩,⟨_,e⟩,λh1 h2 ⟨t',e'⟩ k=>⟨t',k _ e'⟩⟩
theorem kA(x:HOk P w H h)(e:H a=some (excO a C d)):∃t,h.get? a=some (W.excOb C d t):=(x a _ e).1
structure ExcK(Ξ:PySem.W.Frag)(C f:Addr):Prop where
 i:W.excInI Ξ C f=true
 sa:W.findIn Ξ (.ref C) "__setattr__" = some (some (.builtin "object.__setattr__"))
 ov:W.excOver Ξ C=true
 ga:W.findIn Ξ (.ref C) "__getattribute__" = some (some (.builtin "BaseException.__getattribute__"))
 gt:W.findIn Ξ (.ref C) "__getattr__" = some none
 mr:W.mroIn Ξ C (.type "BaseException")=some true
 hd:W.hasDictIn Ξ C=true
def q99(Ξ:PySem.W.Frag)(C:Addr)(ta tv:TE)(f:Str):TS:=λD Z H=>tv Z H λy H1=>ta Z H1 λx H2=>∃a,x=.ref a/\H2 a=some (excO a C none)/\∀d,H2 d=none->D.nx Z (upd (upd H2 d (.xd [(f,y)])) a (excO a C (some d)))
def tFs3(a b:Str)(te:TE):TE:=λZ H Q=>te Z H λv H1=>∃n,v=.int n/\n.natAbs.log2<1920/\(Str.ofString (toString n)).length<=10000/\Q (.str (Str.empty++a++(Str.ofString (toString n))++b)) H1
theorem q6Q(la:a.length<=10000)(lb:b.length<=10000)(he:QE X e te):QE X (.JoinedStr [.Constant (.str a) ka pa,.FormattedValue e (-1) none pf,.Constant (.str b) kb pb] pos) (tFs3 a b te):=⟨by
 intro a3 s Z H Q I h;refine wpAny_JoinedStr ?_;refine Calls.Constant_str ⟨a,_,rfl,by rw[UH,show Str.empty.length=0 from rfl,Ul];lia,?_⟩;show wpAny _ _ (eval (.FormattedValue e (-1) none pf) X.env) _ _ _;refine wpAny_FormattedValue_plain (thn (he.h a3 _ Z H _ (I.tok _) h) λu s1 zz=>?_);obtain⟨v,H1,I1,rv,n,ev,hn,ln,q⟩:=zz;subst ev;obtain⟨t,rfl⟩:=(show ∃t,u=Value.int n t from rv);refine wpAny_formatField_int hn ?_;refine⟨_,_,rfl,by rw[UH,UH,show Str.empty.length=0 from rfl,Ul];lia,?_⟩;have lz:(Str.empty++a++Str.ofString (toString n)++b).length<=sizeLine:=by rw[UH,UH,UH,show Str.empty.length=0 from rfl,Ul];lia
 refine Calls.Constant_str ⟨b,_,rfl,lz,lz,?_⟩;exact⟨.str (Str.empty++a++Str.ofString (toString n)++b),H1,(((I1.tok _).tok _).tok _),⟨_,rfl⟩,q⟩⟩
theorem q45(c:ExcK X.K C g)(n:NoAttr X.K C f)(ha:QE X o ta)(hv:QE X value tv)(hs:swapsWith value (some (.Attribute o f pos')) pos.line X.env=pure false:=by rfl):QS X (.Assign [.Attribute o f pos'] value pos) (q99 X.K C ta tv f):=⟨by
 intro a3 s Z H D I h;refine UM (thn (hv.h a3 s Z H _ I h) λu s1 ⟨y,H1,I1,ry,q⟩=>thn (ha.h a3 s1 Z H1 _ I1 q) λov s2 ⟨x,H2,I2,rx,a,ex,ea,q2⟩=>?_) hs;subst ex;obtain rfl:ov=Value.ref a:=rx;obtain⟨t,hx⟩:=kA I2.hok ea;refine W.setX_new I2.kIn (C:=C) (ox:=W.excOb C none t) ⟨hx,rfl,rfl,trivial⟩ rfl rfl c.sa c.ov n λh' d hd k e1 e2=>?_;obtain⟨od,es,ep,ho,hr⟩:=e2;have hf:=(Heap.get?_some_iff.mp ho).2;have hm:(s2.heap.push od).get? d=some od:=by rw[hd];exact Heap.get?_push_size _ hf
 have ne:a≠d:=by rw[hd];exact Dy (Heap.lt_size hx)
 have J:=I2.laid (a:=d) (o:=.xd [(f,y)]) (h':=s2.heap.push od) (t':=s2.toks) (λb v q=>Heap.get?_push_of_some _ q) (by rw[hd];exact Dh _)
  ⟨_,⟨od,es,ep,hm,hr⟩,λz=>by
   show RelO (([(f,y)]:List (Str×V)).lookup z) (if z=f then some u else none);rw[DC];by_cases q:z=f
   ·subst q;rw[U3,Uj rfl];exact ry
   ·rw[Uh q,beq_eq_false_iff_ne.mpr q];exact True.intro⟩
 have fr:H2 d=none:=I2.hok.fresh (by rw[hd];exact Dh _);have J2:=J.write (x:=a) (e:=a) (o:=excO a C (some d)) (h':=h') (t':=s2.toks+2) (by rw[upd_ne ne,ea];exact True.intro) (.inl rfl) (λb v hb q=>?_) ⟨_,e1⟩ (JF (t:=t) e1)
 ·exact⟨Z,_,J2,q2 d fr⟩
 ·by_cases hbd:b=d
  ·subst hbd;rw[hm]at q;rw[ho];exact q
  ·have q':s2.heap.get? b=some v:=by
    have hz:b≠s2.heap.objs.size:=by rw[<-hd];exact hbd
    have:=Heap.get?_some_iff.mp q;refine Heap.get?_some_iff.mpr ⟨?_,this.2⟩;have q1:=this.1;revert q1 hz;cases s2.heap;intro hz q1;simp only[Heap.push]at q1 hz ⊢;rw[qbb,Uh hz]at q1;exact q1
   exact k b v hb q'⟩
structure q4O(Ξ:PySem.W.Frag)(mg:Str->Option Value)(x:Str)(B:Addr):Prop where
 b:mg x=some (.ref B)
 sp:W.specialIn Ξ (.ref B) "__getattribute__" = some (some (.builtin "type.__getattribute__"))
 rd:W.readsIn Ξ B (.type "type")=true
 fi:W.findCls Ξ (.ref B) (.type "type") "__init__" = some (.val (.builtin "ValueError.__init__"))
def q8n(C:Addr)(ta:TA):TS:=λD Z H=>ta Z H λvs H1=>∃a d rest,vs=.ref a::rest/\H1 a=some (excO a C d)/\rest.length<=1000/\D.nx Z H1
set_option tactic.hygienic true in
theorem q0s(c:ExcK X.K C g)(b:q4O X.K X.mg x B)(ha:QA X (e::es) tl)(hg:Gl X x:=by rfl)(cj:(x==("__debug__" : Str))=false:=by decide)(eV:starEach (e::es) X.env=(false,eval e X.env)::starEach es X.env:=by rfl)(bR:(backTo pos (starEach es X.env)).any (·.1)=false:=by rfl)(ht:eval (.Call (.Attribute (.Name x p) "__init__" aK) (e::es) [] pos) X.env=(do
   let ov <-eval (.Name x p) X.env
   standAt aK.atName;let(f,first) <-holding [ov] (getMethod ov "__init__" pl)
   callWith pos f first (backTo pos (starEach (e::es) X.env)) (backToKw pos (keywordEach [] X.env))):=by rfl)(hs:swapsWith (.Call (.Attribute (.Name x p) "__init__" aK) (e::es) [] pos) none pos'.line X.env=pure false:=by rfl):
  QS X (.Expr (.Call (.Attribute (.Name x p) "__init__" aK) (e::es) [] pos) pos') (q8n C tl):=⟨by
 intro a3 s Z H D I h;refine U8 ?_ I.quiet hs;refine Rk (pl:=pl) (zh I hg b.b ?_ cj) ht;refine W.method_cls I.kIn b.sp (W.cls_value I.kIn b.rd b.fi rfl ?_);refine PyProof.Rows.callWith_builtin1 (thn (ha.h pos a3 _ Z H _ (I.tok _) h) λus s1 ⟨vs,H1,I1,r1,a,d,rest,ev,ea,hl,q1⟩=>?_) eV bR;subst ev;cases r1 with
 |cons ra rr=>
 rename_i u cB _;obtain rfl:u=Value.ref a:=ra;obtain⟨t,hx⟩:=kA I1.hok ea;refine UV (W.bexc_init (W.excI_of I1.kIn c.i) hx (by rw[<-rr.length,Ul];lia) λh' t' k e1=>?_);have J:=I1.write (x:=a) (e:=a) (o:=excO a C d) (h':=h') (t':=s1.toks) (by rw[ea];exact True.intro) (.inl rfl) (λb v hb q=>k b v hb q) ⟨_,e1⟩ (JF (t:=t') e1);refine⟨Z,H1,?_,q1⟩;have eH:upd H1 a (excO a C d)=H1:=by
  funext b;unfold upd;split
  ·rename_i q;rw[q,ea]
  ·rfl
 rw[eH]at J;exact J⟩
structure Fli(P:Program)(w:World)(outer:List Env)(H:Hp)(s:Shared)(a:Addr)(C:Value)(d:Option Addr)(H':Hp)(s':Shared):Prop where
 own:∀o,s'.heap.get? a=some o->okey o=(d,some .none)
 os:s'.os=s.os
 bare:AllBare s'.gens
 fly:∃(B:Heap)(a0:Value),Heap.FlyingW B outer a C a0 s'.heap/\HOk P w H' B/\(∀b∈frs outer,B.get? b=none)/\(∀b o,s.heap.get? b=some o->H b=none->b∉frs outer->B.get? b=some o) /\
  ∀b o,s.heap.get? b=some o->H b≠none->∃o',B.get? b=some o'
 up:∀b o,s.heap.get? b=some o->H b=none->b∈frs outer->∃sl,s'.heap.get? b=some { o with slots:=sl }
 free:∀b o,s.heap.get? b=some o->H b=none->H' b=none
 tups:∀b xs,H b=some (.tup xs)->H' b=some (.tup xs)
 frzs:∀b o u,H b=some (.frz o u)->H' b=some (.frz o u)
 tbls:∀b ps,H b=some (.tbl ps)->∃more,H' b=some (.tbl (ps++more))
def CXe(P:Program)(w:World):CXT:=λouter H s E e s'=>∃a C d H',e=.ref a/\Fli P w outer H s a C d H' s'/\E C d H'
theorem CXe.mono(h:CXe P w outer H s E e s')(k:∀C d H',E C d H'->E' C d H'):CXe P w outer H s E' e s':=by
 obtain⟨a,C,d,H',e1,f,q⟩:=h;exact⟨a,C,d,H',e1,f,k C d H' q⟩
structure Body(X:Cx)(outer:List Env):Prop where
 stk:X.stack=X.env::outer
 out:X.outer=outer
 fr:X.env.frame=some X.env.locals
 ex:X.ex=[]
theorem Inv.old(I:Inv X a3 Z H s)(q:X.s₀.heap.get? b=some o):b≠X.env.locals:=λz=>by
 subst z;exact absurd (Heap.lt_size q) (BV.mpr I.ok.above)
theorem Body.mem(Y:Body X outer)(hb:b∈frs X.stack):b=X.env.locals\/b∈frs outer:=by
 rw[Y.stk]at hb;obtain⟨env,he,hf⟩:=DI.mp hb;rcases Dr.mp he with rfl|he
 ·rw[Y.fr]at hf;exact .inl (Option.some.inj hf).symm
 ·exact .inr (DI.mpr ⟨env,he,hf⟩)
theorem Body.in_(Y:Body X outer)(hb:b∈frs outer):b∈frs X.stack:=by
 rw[Y.stk];obtain⟨env,he,hf⟩:=DI.mp hb;exact DI.mpr ⟨env,.tail _ he,hf⟩
def untr(H:Hp)(a:Addr):Hp:=λb=>if b=a then none else H b
theorem xP(h:b≠a):untr H a b=H b:=by unfold untr;rw[Uh h]
theorem YB:untr H a a=none:=by unfold untr;rw[Uj rfl]
theorem HOk.untr{P:Program}{w:World}{H:Hp}{h h':Heap}{a:Addr}{φ:Heap->Prop}(x:HOk P w H h)(ea:H a=some (.ext φ))(k:∀b u,b≠a->H b≠none->h.get? b=some u->h'.get? b=some u):HOk P w (untr H a) h':=λb o e=>by
 have hb:b≠a:=λz=>by rw[z,YB]at e;cases e
 rw[xP hb]at e;refine(x b o e).stay (λc u hc q=>?_) (λc hc=>?_) λc xs hc=>?_
 ·rcases hc with rfl|hc
  ·exact k _ u hb (by rw[e];simp) q
  ·exact k c u (λz=>by rw[z,ea]at hc;cases hc) (by rw[hc];simp) q
 ·rw[xP λz=>by rw[z,ea]at hc;cases hc];exact hc
 ·rw[xP λz=>by rw[z,ea]at hc;cases hc];exact hc
theorem Js(Y:Body X outer)(I:Inv X a3 Z H s)(hA:A.frames=some X.stack)(hx:H e=some (excO e C d))(p5:X.s₀.heap.get? e=none)(hE:E (.ref C) d (untr H e)):
  wpAny M A (leaving X.env (.ref e)) (λ_ fF=>CXe X.prog X.w outer X.H₀ X.s₀ E (.ref e) fF) R s:=by
 obtain⟨t0,lK⟩:=kA I.hok hx;have cz:∀env∈X.stack,∀b,env.frame=some b->b∈e::frs X.stack:=λenv he b hb=>.tail _ (DI.mpr ⟨env,he,hb⟩);have hl:s.heap.FunFrames (W.hideAll s.heap (e::frs X.stack)) X.stack:=BC I.stack cz;rw[Y.stk]at hA;have ob:∀b o,X.s₀.heap.get? b=some o->b∉frs outer->b∉e::frs X.stack:=λb o q n z=>by
  rcases Dr.mp z with rfl|z
  ·rw[p5]at q;cases q
  ·rcases Y.mem z with z|z
   ·exact I.old q z
   ·exact n z
 have nx:∀b,b∉X.ex:=λb=>by rw[Y.ex];simp
 have fs:∀b,b∈frs outer↔b∈X.fs:=λb=>by show _↔b∈frs X.outer;rw[Y.out]
 refine Uk (DK.any (Vl _ _) (wpAny_leaving_firstW (base:=W.hideAll s.heap (e::frs X.stack)) hA (by rw[<-Y.stk];exact hl) Y.fr lK (λb o q=>RG _ q) (Rm _ (.head _)) rfl rfl rfl (Q:=λ_ s'=>Heap.LeftW (W.hideAll s.heap (e::frs X.stack)) (X.env::outer) e (.ref C) (.ref t0) s.heap s'.heap/\∃h',s'={ s with heap:=h' }) λh' q=>⟨q,h',rfl⟩)) (λ_ s' q=>?_) λ_ _ q=>q.1;obtain⟨⟨⟨k1,⟨_,_,k2⟩,k3,k4⟩,h',rfl⟩,kd⟩:=q;refine⟨e,.ref C,d,untr H e,rfl,⟨?_,I.os,I.bare,⟨_,.ref t0,⟨k1,Rm _ (.head _),k2,k3⟩,?_,?_,?_,?_⟩,?_,?_,?_,?_,?_⟩,hE⟩
 ·exact λo q=>(kd.get (d:=0) lK q)
 ·exact I.hok.untr hx λb u hb i4 q=>Rr _ q λhm=>by
   rcases Dr.mp hm with z|hm
   ·exact hb z
   ·exact i4 (I.stkFree b hm)
 ·exact λb hb=>Rm _ (.tail _ (Y.in_ hb))
 ·exact λb o q n hb=>Rr _ (I.base.keep b o q n (λz=>hb ((fs b).mpr z)) (nx b)) (ob b o q hb)
 ·intro b o q n
  obtain⟨o',e1⟩:=I.base.there b o q (nx b);refine⟨o',Rr _ e1 (ob b o q λz=>n (I.ok.frf b ((fs b).mp z)))⟩
 ·intro b o q n hb
  obtain⟨sl,e1⟩:=I.base.slot b o q n ((fs b).mp hb) (nx b);obtain⟨_,o',bA,hd⟩:=I.ok.funs.mem (show b∈X.outer.filterMap (·.frame) from(fs b).mp hb);rw[q]at bA;cases bA;obtain⟨eP,e2⟩:=k4 b _ e1 hd;exact⟨eP,e2⟩
 ·intro b o q n
  have:=I.base.free b o q n (nx b);unfold untr;split
  ·rfl
  ·exact this
 ·intro b xs q
  have:=I.base.tups b xs q;rw[xP λz=>by rw[z,hx]at this;cases this];exact this
 ·intro b o u q
  have:=I.base.frzs b o u q;rw[xP λz=>by rw[z,hx]at this;cases this];exact this
 ·intro b ps q
  obtain⟨m,this⟩:=I.base.tbls b ps q;exact⟨m,by rw[xP λz=>by rw[z,hx]at this;cases this];exact this⟩
theorem W1(Y:Body X outer)(I:Inv X a3 Z H s)(hA:A.frames=some X.stack)(hx:CXe X.prog X.w X.stack H s E e s'):
  wpAny M A (leaving X.env e) (λ_ fF=>CXe X.prog X.w outer X.H₀ X.s₀ E e fF) R s':=by
 obtain⟨a,C,d,H',rfl,F,hE⟩:=hx;obtain⟨B,a0,fl,hok,nb,kp,th⟩:=F.fly;have ob:∀b o,X.s₀.heap.get? b=some o->b∉frs outer->b∉frs X.stack:=λb o q n z=>by
  rcases Y.mem z with z|z
  ·exact I.old q z
  ·exact n z
 have nx:∀b,b∉X.ex:=λb=>by rw[Y.ex];simp
 have fs:∀b,b∈frs outer↔b∈X.fs:=λb=>by show _↔b∈frs X.outer;rw[Y.out]
 rw[Y.stk]at hA fl;refine Uk (DK.any (Vl _ _) (wpAny_leaves_onW hA Y.fr fl (Q:=λ_ s2=>(Heap.FlyingW B outer a C a0 s2.heap/\s'.heap.UpToSlots s2.heap)/\∃h',s2={ s' with heap:=h' }) λh' x1 x4=>⟨⟨x1,x4⟩,h',rfl⟩)) (λ_ s2 z=>?_) λ_ _ q=>q.1;obtain⟨⟨⟨x1,x4⟩,h',rfl⟩,kd⟩:=z;refine⟨a,C,d,H',rfl,⟨?_,F.os.trans I.os,F.bare,⟨B,a0,x1,hok,λb hb=>nb b (Y.in_ hb),?_,?_⟩,?_,?_,λb xs q=>F.tups b xs (I.base.tups b xs q),λb o u q=>F.frzs b o u (I.base.frzs b o u q),?_⟩,hE⟩
 ·obtain⟨o1,e1,_⟩:=fl.there
  exact λo q=>(kd.get (d:=0) e1 q).trans (F.own o1 e1)
 ·exact λb o q n hb=>kp b o (I.base.keep b o q n (λz=>hb ((fs b).mpr z)) (nx b)) (I.base.free b o q n (nx b)) (ob b o q hb)
 ·intro b o q n
  obtain⟨o',e1⟩:=I.base.there b o q (nx b);cases hb:H b with
  |none=>exact⟨o',kp b o' e1 hb (ob b o q λz=>n (I.ok.frf b ((fs b).mp z)))⟩
  |some u=>exact th b o' e1 (by rw[hb];simp)
 ·intro b o q n hb
  obtain⟨sl,e1⟩:=I.base.slot b o q n ((fs b).mp hb) (nx b);obtain⟨gh,e2⟩:=F.up b _ e1 (I.base.free b o q n (nx b)) (Y.in_ hb);obtain⟨_,o',bA,hd⟩:=I.ok.funs.mem (show b∈X.outer.filterMap (·.frame) from(fs b).mp hb);rw[q]at bA;cases bA;obtain⟨eP,e3⟩:=x4 b _ e2 hd;exact⟨eP,e3⟩
 ·intro b o q n
  obtain⟨o',e1⟩:=I.base.there b o q (nx b);exact F.free b o' e1 (I.base.free b o q n (nx b))
 ·intro b ps q
  obtain⟨m1,e1⟩:=I.base.tbls b ps q;obtain⟨m2,e2⟩:=F.tbls b _ e1;exact⟨m1++m2,by rw[e2,Bc]⟩
def q7l:List Str:=["laying","room","word","head","end","limb","small","kind","address"]
def wW(n:Int):Str:=(q7l[((n-1000000) % 9).toNat]?).getD ""
def wK(n:Int):Int:=(n-1000000) / 9
def xfs(n:Int):List (Str×V):=if n<1000000 then[("part",.int n)] else[("word",.str (wW n)),("k",.int (wK n))]
theorem JQ(h:n<1000000):xfs n=([("part",.int n)]:List (Str×V)):=Uj h
def pV:Option Int->V
 |none=>.non
 |some n=>.int n
theorem q2x(h:pV p=pV q):p=q:=by
 cases p<;>cases q<;>first|rfl|cases h
 rfl
def PartIs(d:Option Addr)(H:Hp):Option Int->Prop
 |none=>d=none
 |some n=>∃x,d=some x/\H x=some (.xd (xfs n))
def EX(mg:Str->Option Value)(D:Ends)(Z:St):XK:=λC d H'=>∃nm p,mg nm=some C/\PartIs d H' p/\D.bk (some (.str nm)::some (pV p)::Z) H'
def Cmp(X:Cx)(E:XK)(Z:St):Prop:=∀a3 H s e s',Inv X a3 Z H s->CXe X.prog X.w X.stack H s E e s'->X.xe e s'
def CmpD(r:Prop)(X:Cx)(D:Ends):Prop:=(∀Z,Cmp X (EX X.mg D Z) Z)/\(r->∀a3 Z H s e C d,Inv X a3 Z H s->H e=some (excO e C d)->X.s₀.heap.get? e=none->EX X.mg D Z (.ref C) d (untr H e)->X.xe (.ref e) s)
structure QX(r:Prop)(X:Cx)(st:Stmt)(t:TS):Prop where
 h:∀a3 s Z H D,CmpD r X D->Inv X a3 Z H s->t D Z H->wpAny (model X.prog X.w) X.A (exec st X.env) (SP X a3 D) X.xe s
structure QXs(r:Prop)(X:Cx)(st:List Stmt)(t:TS):Prop where
 h:∀a3 s Z H D,CmpD r X D->Inv X a3 Z H s->t D Z H->wpAny (model X.prog X.w) X.A (execs st X.env) (SP X a3 D) X.xe s
abbrev TX:=St->Hp->VK->XK->Prop
structure QXe(X:Cx)(e:Expr)(t:TX):Prop where
 h:∀a3 s Z H Q E,Cmp X E Z->Inv X a3 Z H s->t Z H Q E->wpAny (model X.prog X.w) X.A (eval e X.env) (EP X a3 Z Q) X.xe s
section
variable {r:Prop}{X:Cx}{st:Stmt}{rest:List Stmt}{t u:TS}{e:Expr}{tx:TX}{pos:Pos}
theorem qC(h1:QX r X st t)(h2:QXs r X rest u):QXs r X (st::rest) (tSeq t u):=⟨λa3 s Z H D c I h=>by
 refine UR (thn (h1.h a3 s Z H { D with nx:=u D } c I h) λf s1 q=>?_);cases f with
 |next=>
  obtain⟨aj,H',I',q⟩:=q;exact h2.h a3 s1 aj H' D c I' q
 |ret v=>exact q
 |brk=>exact q
 |cont=>exact q⟩
theorem vN:QXs r X [] Vv:=⟨λa3 s Z H D c I h=>Ux ⟨Z,H,I,h⟩⟩
theorem qF(h1:QX r X st t):QXs r X [st] t:=⟨λa3 s Z H D c I h=>by
 refine UR (thn (h1.h a3 s Z H D c I h) λf s1 q=>?_);cases f with
 |next=>exact Ux q
 |ret v=>exact q
 |brk=>exact q
 |cont=>exact q⟩
theorem jP(h:QS X.nox st t):QX r X st t:=⟨λa3 s Z H D _ I q=>Uk (h.h a3 s Z H D (I.wish _) q) (λ_ _ z=>z.unwish) λ_ _ z=>False.elim z⟩
theorem jQ(hc:QT X.nox c tc)(ha:QXs r X a t)(hb:QXs r X b u):QX r X (.If c a b pos) (tIfS tc t u):=⟨λa3 s Z H D k I h=>by
 refine wpAny_If (thn (hc.h.nox a3 s Z H _ I h) λd s1 zz=>?_);obtain⟨H1,I1,q1⟩:=zz;cases d with
 |true=>exact ha.h a3 s1 Z H1 D k I1 q1
 |false=>exact hb.h a3 s1 Z H1 D k I1 q1⟩
def q2m(tx:TX)(mg:Str->Option Value):TS:=λD Z H=>tx Z H (λ_ H1=>D.nx Z H1) (EX mg D Z)
theorem vm(he:QXe X e tx)(hs:swapsWith e none pos.line X.env=pure false:=by rfl):QX r X (.Expr e pos) (q2m tx X.mg):=⟨λa3 s Z H D k I h=>
 U8 (thn (he.h a3 s Z H _ _ (k.1 Z) I h) λv s1 ⟨x,H1,I1,r1,q1⟩=>⟨Z,H1,I1,q1⟩) I.quiet hs⟩
def q7w(tx:TX)(mg:Str->Option Value):TS:=λD Z H=>tx Z H D.rt (EX mg D Z)
theorem Qc(he:QXe X e tx):QX r X (.Return (some e) pos) (q7w tx X.mg):=⟨λa3 s Z H D k I h=>
 wpAny_Return_some (thn (he.h a3 s Z H _ _ (k.1 Z) I h) λv s1 ⟨x,H1,I1,r1,q1⟩=>⟨x,Z,H1,I1,r1,q1⟩)⟩
theorem Wh(F:FnOk X.prog X.w X.K X.mg X.base (CXe X.prog X.w) k f fd ps sp)(hr:Room k X.A)(hb:Binds X.K fd ps [])(hx:Cmp X E Z)(I:Inv X a3 Z H s)(rv:Vals vs us)(h:sp vs H Q E):wpAny (model X.prog X.w) X.A (call (.ref f) us) (EP X a3 Z Q) X.xe s:=by
 have hl:us.length=ps.length:=by rw[<-rv.length];exact F.len _ _ _ _ h
 refine UV (Uz (F.run X.A X.stack s H ⟨us, []⟩ us vs Q E hr I.env0 (by simpa using hb s us I.kIn (by simpa using hl)) rv h) λrr s' hq=>?_);cases rr with
 |error e=>exact hx a3 H s e s' I hq
 |ok fl=>
  cases fl with
  |ret u=>exact I.after hq
  |next=>exact False.elim hq
  |brk=>exact False.elim hq
  |cont=>exact False.elim hq
structure DefX(P:Program)(w:World)(Ξ:PySem.W.Frag)(mg:Str->Option Value)(base:Heap)(x:Str)(k:Nat)(ps:List Str)(sp:Sp):Prop where
 ex:∃(f:Addr)(fd:FuncData),mg x=some (.ref f)/\W.keepIn Ξ (.ref f)=true/\Binds Ξ fd ps []/\FnOk P w Ξ mg base (CXe P w) k f fd ps sp
structure q02(P:Program)(w:World)(Ξ:PySem.W.Frag)(mg:Str->Option Value)(base:Heap)(C:Addr)(m:Str)(k:Nat)(ps:List Str)(sp:Sp):Prop where
 ex:∃(f:Addr)(fd:FuncData),Meth Ξ C m f/\Binds Ξ fd ps []/\FnOk P w Ξ mg base (CXe P w) k f fd ps sp
def q2b(sp:Sp)(t:TA):TX:=λZ H Q E=>t Z H λvs H1=>sp vs H1 Q E
theorem zE(D:DefX X.prog X.w X.K X.mg X.base x k ps sp)(hr:Room k X.A)(ha:QA X.nox (e::es) ta)(hg:Gl X x:=by rfl)(cj:(x==("__debug__" : Str))=false:=by decide)(he:starEach (e::es) X.env=(false,eval e X.env)::starEach es X.env:=by rfl)(bR:(backTo pos (starEach es X.env)).any (·.1)=false:=by rfl):
  QXe X (.Call (.Name x p) (e::es) [] pos) (q2b sp ta):=⟨λa3 s Z H Q E hx I h=>by
 obtain⟨f,fd,hm,hk,hb,F⟩:=D.ex;refine Uu (zh I hg hm ?_ cj);refine Rl (h₀:=X.base) I.ok.mod.kin hk (Uk (ha.h pos a3 s Z H _ (I.wish _) h) (λus s1 ⟨vs,H1,I1,r,q⟩=>⟨I1.unwish.kIn,?_⟩) λ_ _ z=>False.elim z) he bR;exact Wh F hr hb hx I1.unwish r q⟩
def q2p(C:Addr)(m:Str)(sp:Sp)(ta:TE)(t:TA):TX:=λZ H Q E=>ta Z H λx H1=>∃a dx fs,x=.ref a/\H1 a=some (.ins C dx fs)/\fs.lookup m=none/\t Z H1 λvs H2=>sp (x::vs) H2 Q E
theorem qR(hq:QE X.nox o ta)(c:Cls X.K C)(D:q02 X.prog X.w X.K X.mg X.base C m k ps sp)(hr:Room k X.A)(ha:QA X.nox (e::es) tl)(eV:starEach (e::es) X.env=(false,eval e X.env)::starEach es X.env:=by rfl)(bR:(backTo pos (starEach es X.env)).any (·.1)=false:=by rfl)(ht:eval (.Call (.Attribute o m aK) (e::es) [] pos) X.env=(do
   let ov <-eval o X.env
   standAt aK.atName;let(f,first) <-holding [ov] (getMethod ov m pl)
   callWith pos f first (backTo pos (starEach (e::es) X.env)) (backToKw pos (keywordEach [] X.env))):=by rfl):
  QXe X (.Call (.Attribute o m aK) (e::es) [] pos) (q2p C m sp ta tl):=⟨λa3 s Z H Q E hx I h=>by
 obtain⟨f,fd,hm,hb,F⟩:=D.ex;refine Rk (pl:=pl) (thn (hq.h.nox a3 s Z H _ I h) λu s1 ⟨x,H1,I1,rx,a,dx,fs,ex,ea,l,q⟩=>?_) ht;subst ex;obtain rfl:u=Value.ref a:=rx;refine xz I1 ea c hm l ?_;refine Rl (first:=[.ref a]) (h₀:=X.base) I.ok.mod.kin hm.kp (Uk (ha.h pos a3 s1 Z H1 _ (I1.wish _) q) (λus s2 ⟨vs,H2,I2,r,q2⟩=>⟨I2.unwish.kIn,?_⟩) λ_ _ z=>False.elim z) eV bR;exact Wh (us:=.ref a::us) (vs:=.ref a::vs) F hr hb hx I2.unwish (.cons rfl r) q2⟩
end
set_option tactic.hygienic true in
theorem q5v(X:Ξ.In h)(q:W.excIn Ξ C dJ newId=true):
  ∃bm N nm qn bs hdct sn sub ab col dd k0 k1 k2 k3 k5 mN,h.get? C=some (excClassObj nm qn C N bs bm hdct sn sub ab col dd k0 k1 k2 k3 k5 newId)/\h.Ns N mN/\mN "__init__" = none/\OwnTail h dJ bm:=by
 unfold W.excIn at q;split at q
 ·rename_i dd cd sl ho
  split at q
  ·rename_i C' bm k0 k1 k2 k3 n k5 hm hs
   obtain⟨nm,bs,mro,ns,qn,hd,sn,sub,ab,col,oU⟩:=cd;simp only[D9,beq_iff_eq,Br]at q hm;obtain⟨⟨⟨⟨⟨z1,z2⟩,z3⟩,z4⟩,z5⟩,z6⟩:=q;subst z1;subst z2;subst hm;subst z3;obtain⟨l⟩:=sl;have hs:l=_:=hs;subst hs;exact⟨bm,ns,nm,qn,bs,hd,sn,sub,ab,col,dd,k0,k1,k2,k3,k5,_,X _ _ ho,.of_isNs (W.isNs_of_in X z5),W.nsMap_none_of_in X z5 z6,W.tail_of_in X z4⟩
  ·cases q
 ·cases q
structure ExcC(Ξ:PySem.W.Frag)(mg:Str->Option Value)(x:Str)(C:Addr):Prop where
 b:mg x=some (.ref C)
 o:W.excIn Ξ C [.type "ValueError",.type "Exception",.type "BaseException",.type "object"] "ValueError.__new__" = true
set_option tactic.hygienic true in
theorem q1l(h:H a=none):untr (upd H a o) a=H:=by
 funext b;unfold untr upd;split
 ·rename_i q;rw[q,h]
 ·rfl
theorem Inv.none0(I:Inv X a3 Z H s)(hx:e∉X.ex)(h:s.heap.get? e=none):X.s₀.heap.get? e=none:=by
 cases z:X.s₀.heap.get? e with
 |none=>rfl
 |some o=>
  obtain⟨o',q⟩:=I.base.there e o z hx;rw[h]at q;cases q
theorem ObjOk.here(x:ObjOk P w H h a o):∃u,h.get? a=some u:=by
 cases o with
 |lst xs=>obtain⟨_,_,_,_,e⟩:=x;exact⟨_,e⟩
 |tup xs=>obtain⟨_,_,_,o,e,_⟩:=x;exact⟨o,e⟩
 |dK kvs=>obtain⟨_,_,_,_,o,_,_,e,_⟩:=x;exact⟨_,e⟩
 |dT kvs=>obtain⟨_,_,_,_,o,_,_,e,_⟩:=x;exact⟨_,e⟩
 |set S n=>obtain⟨o,_,_,_,e,_⟩:=x;exact⟨_,e⟩
 |ins C dx fs=>obtain⟨_,_,_,e,_⟩:=x;exact⟨_,e⟩
 |own y=>obtain⟨_,e⟩:=x;exact⟨_,e⟩
 |xd fs=>obtain⟨_,⟨_,_,_,e,_⟩,_⟩:=x;exact⟨_,e⟩
 |rng lo hi=>obtain⟨_,_,_,e⟩:=x;exact⟨_,e⟩
 |frz ob u=>obtain⟨e,_⟩:=x;exact⟨_,e⟩
 |tbl ps=>exact⟨_,(show h.get? a=some _ from x)⟩
 |met f y=>exact⟨_,(show h.get? a=some _ from x)⟩
 |ext φ=>obtain⟨_,⟨o,e⟩,_⟩:=x;exact⟨o,e⟩
theorem Inv.exc(I:Inv X a3 Z H s)(hm:Heap.MadeExcOf s.heap h1 e (.ref C) args):H e=none/\Inv X a3 Z (upd H e (excO e C none)) { s with heap:=h1 }:=by
 obtain⟨k,hn,t,ht,_⟩:=hm;have fr:H e=none:=by
  cases z:H e with
  |none=>rfl
  |some o=>
   obtain⟨u,q⟩:=(I.hok e o z).here;rw[hn]at q;cases q
 refine⟨fr,?_⟩;refine I.un (h':=h1) (t':=s.toks) ⟨λb u q _ _ _=>k b u q,λb u q _ _ _=>⟨u.slots,k b u q⟩,λb u q n _=>?_,λb u q _=>⟨u,k b u q⟩,λb xs q=>?_,λb u xs q=>?_,λb ps q=>⟨#[],?_⟩⟩ λb u q=>?_
 ·rw[upd_ne λz=>by rw[z,hn]at q;cases q];exact n
 ·rw[upd_ne (qN q fr)];exact q
 ·rw[upd_ne (qN q fr)];exact q
 ·rw[upd_ne (qN q fr),q];simp
 ·by_cases hb:b=e
  ·subst hb;rw[upd_same]at q;cases q;exact JF (t:=t) ht
  ·rw[upd_ne hb]at q
   exact(I.hok b u q).stay (λc v _ q=>k c v q) (λc q=>by rw[upd_ne (qN q fr)];exact q) λc xs q=>by rw[upd_ne (qN q fr)];exact q
def q2z(x:Str)(t:TA):TS:=λD Z H=>t Z H λvs H1=>vs.length<=sizeLine/\D.bk (some (.str x)::some .non::Z) H1
theorem VS(hc:X.calm=true)(hx:X.ex=[])(O:ExcC X.K X.mg x C)(ha:QA X.nox (e::es) ta)(hg:Gl X x:=by rfl)(cj:(x==("__debug__" : Str))=false:=by decide)(he:starEach (e::es) X.env=(false,eval e X.env)::starEach es X.env:=by rfl)(bR:(backTo aB (starEach es X.env)).any (·.1)=false:=by rfl):
  QX True X (.Raise (some (.Call (.Name x np) (e::es) [] aB)) none pos) (q2z x ta):=⟨λa3 s Z H D k I h=>by
 obtain⟨bm,N,nm,qn,bs,hdct,sn,sub,ab,col,dd,k0,k1,k2,k3,k5,mN,hC,hN,gw,T⟩:=q5v I.mod.kin O.o;have hh:=I.ok.hd hc;refine wpAny_Raise_call_subU (C:=C) (nm:=nm) (q:=qn) (N:=N) (bs:=bs) (bm:=bm) (hdct:=hdct) (sn:=sn) (sub:=sub) (ab:=ab) (col:=col) (dd:=dd) (k0:=k0) (k1:=k1) (k2:=k2) (k3:=k3) (k5:=k5)
  PySem.F.excBase_ValueError (by decide) PySem.F.excBase_ValueError (mN:=mN) (T.hasType PySem.F.excBase_ValueError.hasBase) hh (by rw[he];show(false||(backTo aB (starEach es X.env)).any (·.1))=false;rw[bR];rfl) gw (zh I hg O.b ⟨rfl,?_⟩ cj)
 have h1:=ha.h aB a3 s Z H _ (I.wish _) h;rw[he]at h1 ⊢;refine Calls.evalArgs_plain (Uk h1 (λvs ba ⟨xs,H1,I1,r,hl,q⟩=>?_) λ_ _ z=>False.elim z);have I2:=I1.unwish;refine⟨rfl,by rw[<-r.length];exact hl,I2.bk _ _ hC,hN.keeps I2.bk,T.keeps I2.bk,λh' e' hm=>?_⟩;obtain⟨fr,J⟩:=I2.exc hm;refine k.2 trivial a3 Z _ _ e' C none J upd_same (I2.none0 (by rw[hx];simp) hm.new) ⟨x,none,O.b,rfl,?_⟩;rw[q1l fr];exact q⟩
abbrev kQ(n:Int):Prop:=n.natAbs.log2<1920/\(Str.ofString (toString n)).length<=10000/\n<1000000
def spI(C:Addr):Sp:=λvs H Q _=>∃a n,vs=[.ref a,.int n]/\kQ n/\H a=some (excO a C none)/\∀d,H d=none->Q .non (upd (upd H d (.xd [("part",.int n)])) a (excO a C (some d)))
structure ExcD(P:Program)(w:World)(Ξ:PySem.W.Frag)(mg:Str->Option Value)(base:Heap)(x:Str)(C:Addr)(k:Nat):Prop where
 b:mg x=some (.ref C)
 ex:∃f fd,ExcK Ξ C f/\Binds Ξ fd ["self","part"] []/\FnOk P w Ξ mg base CX0 k f fd ["self","part"] (spI C)
def YU(x:Str)(t:TA):TS:=λD Z H=>t Z H λvs H1=>∃n,vs=[.int n]/\kQ n/\∀d,H1 d=none->D.bk (some (.str x)::some (.int n)::Z) (upd H1 d (.xd [("part",.int n)]))
theorem Qd(hc:X.calm=true)(hx:X.ex=[])(O:ExcD X.prog X.w X.K X.mg X.base x C kk)(hr:Room (kk+1) X.A)(ha:QA X.nox (e::es) ta)(hg:Gl X x:=by rfl)(cj:(x==("__debug__" : Str))=false:=by decide)(he:starEach (e::es) X.env=(false,eval e X.env)::starEach es X.env:=by rfl)(bR:(backTo aB (starEach es X.env)).any (·.1)=false:=by rfl):
  QX True X (.Raise (some (.Call (.Name x np) (e::es) [] aB)) none pos) (YU x ta):=⟨λa3 s Z H D k I h=>by
 obtain⟨f,fd,ck,hb,F⟩:=O.ex;have hh:=I.ok.hd hc;refine PySem.W.Raise_I (C:=C) (f:=f) hh (by rw[he];show(false||(backTo aB (starEach es X.env)).any (·.1))=false;rw[bR];rfl) (zh I hg O.b ⟨rfl,?_⟩ cj);have h1:=ha.h aB a3 s Z H _ (I.wish _) h;rw[he]at h1 ⊢;refine Calls.evalArgs_plain (Uk h1 (λus ba ⟨xs,H1,I1,r,n,ev,hn,q⟩=>?_) λ_ _ z=>False.elim z);subst ev;have I2:=I1.unwish;have ft:us.length=1:=by rw[<-r.length];rfl
 refine⟨rfl,by show us.length<=_;rw[ft,Ul];lia,W.excI_of I2.kIn ck.i,λh' e' hm=>?_⟩;obtain⟨fr,J⟩:=I2.exc hm;have r2:Vals [V.ref e',V.int n] (Value.ref e'::us):=.cons rfl r;refine UV (Uz (F.run _ X.stack _ _ ⟨Value.ref e'::us, []⟩ (Value.ref e'::us) _ (λv H2=>v=.non/\∃d,H1 d=none/\d≠e'/\H2=upd (upd (upd H1 e' (excO e' C none)) d (.xd [("part",.int n)])) e' (excO e' C (some d))) E0 (hr.make C us [])
  (J.env0.make C us []) (by simpa using hb _ (Value.ref e'::us) J.kIn (by simp[ft])) r2 ⟨e',n,rfl,hn,upd_same,λd hd=>⟨rfl,d,?_,?_,rfl⟩⟩) λrr s' dU=>?_)
 ·by_cases z:d=e'
  ·subst z;rw[upd_same]at hd;cases hd
  ·rwa [upd_ne z]at hd
 ·intro z;subst z;rw[upd_same]at hd;cases hd
 ·cases rr with
  |error e=>exact False.elim dU
  |ok fl=>
   cases fl with
   |ret u=>
    obtain⟨v,H2,I3,rv,ev,d,p6,eW,eH⟩:=J.after dU;subst ev eH;obtain⟨t,ht⟩:=kA I3.hok (upd_same (H:=upd (upd H1 e' (excO e' C none)) d (.xd [("part",.int n)])) (o:=excO e' C (some d)));refine⟨rv,some d,t,W.excI_of I3.kIn ck.i,ht,?_⟩;refine k.2 trivial a3 Z _ _ e' C (some d) I3 upd_same (I2.none0 (by rw[hx];simp) hm.new) ⟨x,some n,O.b,⟨d,rfl,?_⟩,?_⟩
    ·rw[xP eW,upd_ne eW,upd_same,JQ hn.2.2]
    ·have eU:untr (upd (upd (upd H1 e' (excO e' C none)) d (.xd [("part",.int n)])) e' (excO e' C (some d))) e'=upd H1 d (.xd [("part",.int n)]):=by
      funext b;unfold untr upd;by_cases z:b=e'
      ·subst z;simp only[U1];rw[Uh (Ne.symm eW),fr]
      ·simp only[z,UP]
     rw[eU];exact q d p6
   |next=>exact False.elim dU
   |brk=>exact False.elim dU
   |cont=>exact False.elim dU⟩
def bkX(n:Nat)(mg:Str->Option Value)(E:XK):St->Hp->Prop:=λτ H'=>∃nm p aj,τ=some (.str nm)::some (pV p)::aj/\aj.length=n/\∀C d,mg nm=some C->PartIs d H' p->E C d H'
theorem bkX.ex(h:EX mg { nx:=nx,rt:=Q,bk:=bkX n mg E } Z C d H'):E C d H':=by
 obtain⟨nm,p,hm,hp,p7,p',aj,e,_,k⟩:=h;simp only[List.cons.injEq,Option.some.injEq,V.str.injEq]at e;exact k C d (e.1▸hm) (q2x e.2.1▸hp)
theorem Fun.okX{st:Stmt}(F:Fun Ξ x af st f fd)(S:q00 N ps (qc st))(len:∀vs H Q E,sp vs H Q E->vs.length=ps.length)(aA:∀(a9:Value)(A:Around)(outer:List Env)(s:Shared)(H:Hp)(vs:List V)(Q:VK)(E:XK),Room k (A.deeper (envOfC af (qc st) s.heap.objs.size f a9))->sp vs H Q E ->
   ∃t,QXs True (cxOf (CXe P w) P w Ξ mg base N af (qc st) f a9 A outer s H E) (va st) t/\t { nx:=λ_ H'=>Q .non H',rt:=Q,bk:=bkX N.length mg E } (start N vs) H):FnOk P w Ξ mg base (CXe P w) (k+1) f fd ps sp:=by
 obtain⟨oc,od,kV,bZ,pm,an,a9,ct,eO,rfl,lk,cO⟩:=F.ex;refine q6M lk cO S len λA outer s H vs Q E hr cW=>?_;obtain⟨t,h,q⟩:=aA a9 A outer s H vs Q E hr cW;refine⟨λD Z H1=>D={ nx:=λ_ H'=>Q .non H',rt:=Q }/\t { nx:=λ_ H'=>Q .non H',rt:=Q,bk:=bkX N.length mg E } Z H1,λa3 s1 Z H1 D I hd=>?_,rfl,q⟩;obtain⟨rfl,hd⟩:=hd;have Y:Body (cxOf (CXe P w) P w Ξ mg base N af (qc st) f a9 A outer s H E) outer:=⟨rfl,rfl,rfl,rfl⟩;refine Uk (h.h a3 s1 Z H1 _ ⟨λZ a3 H s e s' I hx=>?_,λ_ a3 Z H s e C d I hm h0 hx=>?_⟩ I hd) (λfl s' z=>?_) λ_ _ z=>z
 ·exact W1 Y I I.ok.frames (hx.mono λC d H' z=>bkX.ex z)
 ·exact Js Y I I.ok.frames hm h0 (bkX.ex hx)
 ·cases fl with
  |next=>exact z
  |ret u=>exact z
  |cont=>exact z
  |brk=>
   obtain⟨aj,H',I',nm,p,p9,e,hl,_⟩:=z;have:=I'.len;rw[e,Dj,Dj,hl]at this;exact absurd this (by show N.length+1+1≠N.length;lia)
theorem Fli.un(F:Fli P w outer H s a C d H' s'):Un (frs outer) [] H H' s.heap s'.heap/\HOk P w H' s'.heap:=by
 obtain⟨B,a0,fl,hok,nb,kp,th⟩:=F.fly;refine⟨⟨λb o q n hb _=>fl.1 b o (kp b o q n hb),λb o q n hb _=>F.up b o q n hb,λb o q n _=>F.free b o q n,λb o q _=>?_,F.tups,F.frzs,F.tbls⟩,hok.kept fl.1⟩;cases hb:H b with
 |some u=>
  obtain⟨o',e⟩:=th b o q (by rw[hb];simp);exact⟨o',fl.1 b o' e⟩
 |none=>
  by_cases hf:b∈frs outer
  ·obtain⟨sl,e⟩:=F.up b o q hb hf
   exact⟨_,e⟩
  ·exact⟨o,fl.1 b o (kp b o q hb hf)⟩
theorem Fli.inv(I:Inv X a3 Z H s)(F:Fli X.prog X.w X.stack H s a C d H' s'):Inv X a3 Z H' s' :=
 I.call' F.os F.un.1 F.un.2 F.bare (ch:=[]) λb z=>absurd z (by simp)
theorem Fli.step(F:Fli P w outer H s a C d H' s'):∃B a0,Heap.FlyingW B outer a C a0 s'.heap/\∀h',Heap.FlyingW B outer a C a0 h'->s'.heap.UpToSlots h'->Obk s'.heap h'->Fli P w outer H s a C d H' { s' with heap:=h' }:=by
 obtain⟨B,a0,fl,hok,nb,kp,th⟩:=F.fly;refine⟨B,a0,fl,λh' lL up kd=>⟨λo q=>by
  obtain⟨o1,e1,_⟩:=fl.there;exact(kd.get (d:=0) e1 q).trans (F.own o1 e1),F.os,F.bare,⟨B,a0,lL,hok,nb,kp,th⟩,λb o q n hb=>?_,F.free,F.tups,F.frzs,F.tbls⟩⟩
 obtain⟨sl,e⟩:=F.up b o q n hb;obtain⟨_,o',bA,hd⟩:=fl.2.2.1.mem (show b∈outer.filterMap (·.frame)from hb);rw[e]at bA;cases bA;obtain⟨eP,e2⟩:=up b _ e hd;exact⟨eP,e2⟩
theorem Fli.ty(F:Fli P w outer H s a C d H' s'):PySem.W.Looks M s'.heap (typeOf (.ref a)) C:=by
 obtain⟨B,a0,fl,_⟩:=F.fly;obtain⟨ob,pc,hc⟩:=fl.there;subst hc;exact(PySem.W.Looks.ld pc).andThen .now
abbrev Cx.caught(X:Cx)(a:Addr):Cx:={ X with A:=X.A.mark (some (.ref a)),calm:=false,xe:=λ_ _=>False }
theorem Inv.caught(I:Inv X a3 Z H s)(a:Addr):Inv (X.caught a) a3 Z H s :=
 ⟨⟨I.ok.mod,I.ok.kind,I.ok.glob,I.ok.blt,I.ok.above,I.ok.inj,I.ok.has,I.ok.cab,(λz=>nomatch z),I.ok.frames,I.ok.stk,I.ok.exf,I.ok.bs,I.ok.bsz,I.ok.noex,I.ok.exfs,I.ok.funs,I.ok.frf⟩,I.os,I.bare,I.base,I.loc,I.cell,I.free,I.freeC,I.pin,I.hok,I.len⟩
abbrev Cx.tried(X:Cx)(a3:List (Addr×Obj))(xe:Value->Shared->Prop):Cx:={ X with pn:=X.pn++a3,xe:=xe }
theorem Inv.tried(I:Inv X a3 Z H s)(xe:Value->Shared->Prop):Inv (X.tried a3 xe) [] Z H s :=
 ⟨⟨I.ok.mod,I.ok.kind,I.ok.glob,I.ok.blt,I.ok.above,I.ok.inj,I.ok.has,I.ok.cab,I.ok.hd,I.ok.frames,I.ok.stk,I.ok.exf,I.ok.bs,I.ok.bsz,I.ok.noex,I.ok.exfs,I.ok.funs,I.ok.frf⟩,I.os,I.bare,I.base,I.loc,I.cell,I.free,I.freeC,λp hp=>I.pin p (by simpa using hp),I.hok,I.len⟩
theorem Inv.untried(ok:X.Ok)(I:Inv (X.tried a3 xe) dy Z H s):Inv X a3 Z H s :=
 ⟨ok,I.os,I.bare,I.base,I.loc,I.cell,I.free,I.freeC,λp hp=>I.pin p (Dp _ hp),I.hok,I.len⟩
structure QH(X:Cx)(hs:List ExceptHandler)(C:Value)(q:Option Int)(t:TS):Prop where
 h:∀a3 Z H1 s1 d H' s a D,Inv X a3 Z H1 s1->Fli X.prog X.w X.stack H1 s1 a C d H' s->PartIs d H' q->t D Z H'->wpAny (model X.prog X.w) X.A (handleBy (.ref a) X.env hs) (SP X a3 D) X.xe s
def tTry(n:Nat)(tb:TS)(l:List (Str×(Option Int->TS))):TS:=λD Z H=>tb { D with bk:=λτ H'=>∃nm p aj t,τ=some (.str nm)::some (pV p)::aj/\aj.length=n/\l.lookup nm=some t/\t p D aj H' } Z H
theorem q6Y(Y:Body X outer)(hb:∀a3 xe,QXs False (X.tried a3 xe) body tb)(hh:∀nm t C,l.lookup nm=some t->X.mg nm=some C->∀p,QH X (h0::hs) C p (t p)):QS X (.Try body (h0::hs) [] [] pos) (tTry X.N.length tb l):=⟨λa3 s Z H D I h=>by
 refine wpAny_Try_except ?_;refine Uk ((hb a3 λe s1=>wpAny (model X.prog X.w) X.A (noteFrame e X.env) (λ_ ba=>wpAny (model X.prog X.w) X.A (setFlight e none) (λ_ db=>wpAny (model X.prog X.w) X.A (handleBy e X.env (h0::hs)) (SP X a3 D) X.xe db) X.xe ba) X.xe s1).h [] s Z H _ ⟨λcx dy H1 s1 e s' IY hx=>?_,λz=>z.elim⟩ (I.tried _) h) (λf s1 q=>?_) λ_ _ z=>z
 ·obtain⟨a,C,d,H',rfl,F,nm,p,hm,hp,p7,p',aj,t,e,hl,ht,q⟩:=hx
  simp only[List.cons.injEq,Option.some.injEq,V.str.injEq]at e;obtain⟨rfl,ep,rfl⟩:=e;obtain rfl:=q2x ep;have I1:Inv X a3 cx H1 s1:=IY.untried I.ok;have F:Fli X.prog X.w X.stack H1 s1 a C d H' s':=F;obtain⟨B,a0,fl,st⟩:=F.step;have hA:X.A.frames=some (X.env::outer):=by rw[<-Y.stk];exact I.ok.frames
  rw[Y.stk]at fl;refine Uk (DK.any (qak _ _) (wpAny_looks_onW hA Y.fr fl (Q:=λ_ s2=>(Heap.HeldW B (X.env::outer) a C a0 X.env.locals s2.heap/\s'.heap.UpToSlots s2.heap)/\∃h',s2={ s' with heap:=h' }) (E:=λ_ _=>False) λh' x1 x4=>⟨⟨x1,x4⟩,h',rfl⟩)) (λ_ s2 z=>?_) λ_ _ q=>q.1.elim;obtain⟨⟨⟨lM,up1⟩,h1,rfl⟩,pd⟩:=z;refine Uk (DK.any (xr _ _) (wpAny_landsW (s:={ s' with heap:=h1 }) lM (Q:=λ_ s2=>(Heap.FlyingW B (X.env::outer) a C a0 s2.heap/\h1.UpToSlots s2.heap)/\∃h',s2={ s' with heap:=h' }) (E:=λ_ _=>False) λh' x1 x4=>⟨⟨x1,x4⟩,h',rfl⟩)) (λ_ s2 z=>?_) λ_ _ q=>q.1.elim;obtain⟨⟨⟨pe,ph⟩,h2,rfl⟩,pi⟩:=z;exact(hh nm t C ht hm p).h a3 cx H1 s1 d H' _ a D I1 (st h2 (by rw[Y.stk];exact pe) (up1.trans ph) (pd.trans pi)) hp q
 ·cases f with
  |next=>obtain⟨aj,H2,I2,q⟩:=q;exact Ux ⟨aj,H2,I2.untried I.ok,q⟩
  |cont=>obtain⟨aj,H2,I2,q⟩:=q;exact⟨aj,H2,I2.untried I.ok,q⟩
  |ret u=>obtain⟨v,aj,H2,I2,r,q⟩:=q;exact⟨v,aj,H2,I2.untried I.ok,r,q⟩
  |brk=>
   obtain⟨aj,H2,I2,nm,p,p9,t,e,hl,_⟩:=q;have:=I2.len;rw[e,Dj,Dj,hl]at this;exact absurd this (by show X.N.length+1+1≠X.N.length;lia)⟩
theorem Qi(I:Inv X a3 Z H s)(hN:X.N.Nodup)(hi:X.N[i]?=some x)(hk:X.env.scope.names.lookup x=some .local)(h:∀s',Inv X a3 (Z.set i none) H s'->Q () s'):wpAny M A (do bindName X.env x .none;unbindBehindTheSuite X.env x pos) Q E s:=by
 obtain⟨m,hn,hl⟩:=id I.loc;have fw:(X.env.scope.kind == .class||(X.env.scope.kind == .module&&X.env.locals != X.env.globals))=false:=by rw[I.ok.kind];rfl
 have cne:=I.cne;obtain⟨oL,_,_,mM,_⟩:=id hn;refine wpAny_nameGoes_keeps hk hn fw λh' v gj hs=>h _ ⟨I.ok,I.os,I.bare,⟨λb o e n hb hx=>?_,λb o e n hb hx=>?_,I.base.free,λb o e hx=>?_,I.base.tups,I.base.frzs,I.base.tbls⟩,⟨_,gj,λj y v' e1 e2 e3=>?_⟩,λy c e=>?_,I.free,I.freeC,λp hp=>?_,λb ob e=>?_,by simpa using I.len⟩
 ·exact(hs.2 b (Dy (Du (Heap.lt_size e) I.ok.above))).trans (I.base.keep b o e n hb hx)
 ·obtain⟨sl,e1⟩:=I.base.slot b o e n hb hx
  exact⟨sl,(hs.2 b (Dy (Du (Heap.lt_size e) I.ok.above))).trans e1⟩
 ·obtain⟨o',e1⟩:=I.base.there b o e hx
  exact⟨o',(hs.2 b (Dy (Du (Heap.lt_size e) I.ok.above))).trans e1⟩
 ·have hj:j≠i:=λz=>by
   subst z;rw[List.getElem?_set]at e2;simp only[U1]at e2;split at e2<;>cases e2
  rw[Dq (Ne.symm hj)]at e2;obtain⟨u',r',q⟩:=hl j y v' e1 e2 e3;refine⟨u',r',?_⟩;rcases q with⟨k,e⟩|⟨k,c,e,z⟩
  ·refine .inl ⟨k,?_⟩
   have:y≠x:=λe=>hj (V1 hN e1 (e▸hi));simp[this,e]
  ·exact .inr ⟨k,c,e,z.sameBut hs (cne y c e)⟩
 ·obtain⟨w',z⟩:=I.cell y c e
  exact⟨w',z.sameBut hs (cne y c e)⟩
 ·obtain⟨e,n,ne,nf,d⟩:=I.pin p hp
  exact⟨(hs.2 p.1 ne).trans e,n,ne,nf,d⟩
 ·refine(I.hok b ob e).stay (λc w' hc q=>(hs.2 c ?_).trans q) (λ_ q=>q) λ_ _ q=>q
  rintro rfl;have cN:=I.free;rcases hc with rfl|hc
  ·rw[cN]at e;cases e
  ·rw[cN]at hc;cases hc
theorem Fli.new{X:Cx}(F:Fli X.prog X.w X.stack H1 s1 a C d H' s'):s1.heap.get? a=none/\H' a=none/\∃oe vs,s'.heap.get? a=some oe/\oe.cls=C/\oe.dict=d/\oe.data=.fields vs/\vs[2]?=some .none:=by
 obtain⟨B,a0,fl,hok,nb,kp,th⟩:=F.fly;obtain⟨oe,vs,T,oT,ts,he,hc,hd,_⟩:=fl.2.2.2;refine⟨?_,?_,oe,vs,he,hc.1,Uo Prod.fst (F.own oe he),hd,by have:=Uo Prod.snd (F.own oe he);unfold okey at this;rw[hd]at this;exact this⟩
 ·cases z:s1.heap.get? a with
  |none=>rfl
  |some o=>
   exfalso;have hn:=fl.2.1;by_cases hH:H1 a=none
   ·by_cases hf:a∈frs X.stack
    ·obtain⟨_,o',bA,fv⟩:=fl.2.2.1.mem (show a∈X.stack.filterMap (·.frame)from hf)
     rw[he]at bA;cases bA;exact fv vs hd
    ·rw[kp a o z hH hf]at hn;cases hn
   ·obtain⟨o',q⟩:=th a o z hH
    rw[q]at hn;cases hn
 ·cases z:H' a with
  |none=>rfl
  |some u=>
   obtain⟨o,q⟩:=(hok a u z).here;rw[fl.2.1]at q;cases q
theorem Fli.pinned(Y:Body X outer)(I:Inv X a3 Z H1 s1)(F:Fli X.prog X.w X.stack H1 s1 a C d H' s')(he:s'.heap.get? a=some oe)(hd:oe.data=.fields vs):Inv X (a3++[(a,oe)]) Z H' s':=by
 have J:=F.inv I;obtain⟨n1,n2,_⟩:=F.new;refine J.pins_of λp hp=>?_;rcases Dl.mp hp with hp|hp
 ·exact J.pin p (Dt _ hp)
 ·obtain rfl:=Do.mp hp
  refine⟨he,n2,λz=>?_,λz=>?_,λv z=>?_⟩
  ·obtain⟨m,⟨o,_,_,ho,_⟩,_⟩:=I.loc
   have z:a=X.env.locals:=z;rw[<-z,n1]at ho;cases ho
  ·obtain⟨_,o',bA,_⟩:=I.ok.funs.mem (show a∈X.outer.filterMap (·.frame)from z)
   obtain⟨o2,q⟩:=I.base.there a o' bA (by rw[Y.ex];simp);rw[n1]at q;cases q
  ·have z:oe.data=.cell v:=z
   rw[hd]at z;cases z
end L2
namespace PySem
theorem Paired.of_get{α β:Type}{F:α->β->Prop}:∀{l:List α}{m:List β},l.length=m.length->(∀(i:Nat) x y,l[i]?=some x->m[i]?=some y->F x y)->Paired F l m
 | [], [],_,_=>.nil
 | [],_::_,h,_=>by simp at h
 |_::_, [],h,_=>by simp at h
 |x::l,y::m,h,r=>.cons (r 0 x y rfl rfl) (Paired.of_get (by simpa using h) λi a b ha hb=>r (i+1) a b (by simpa using ha) (by simpa using hb))
theorem Paired.len{α β:Type}{F:α->β->Prop}:∀{l:List α}{m:List β},Paired F l m->l.length=m.length
 |_,_,.nil=>rfl
 |_,_,.cons _ t=>by rw[Dj,Dj,Paired.len t]
theorem Paired.get2{α β:Type}{F:α->β->Prop}:∀{l:List α}{m:List β}{i:Nat}{x:α}{y:β},Paired F l m->l[i]?=some x->m[i]?=some y->F x y
 |_,_,_,_,_,.nil,h,_=>by simp at h
 |_,_,0,_,_,.cons r _,h,k=>by simp at h k;subst h k;exact r
 |_,_,i+1,_,_,.cons _ t,h,k=>Paired.get2 (i:=i) t (by simpa using h) (by simpa using k)
theorem Paired.getR{α β:Type}{F:α->β->Prop}{l:List α}{m:List β}{i:Nat}{y:β}(h:Paired F l m)(e:m[i]?=some y):∃x,l[i]?=some x/\F x y:=by
 have hl:=h.len;have hi:=(Db.mp e).1;have hx:l[i]?=some (l[i]'(by lia)):=Dc (by lia);exact⟨_,hx,h.get2 hx e⟩
theorem Paired.getL{α β:Type}{F:α->β->Prop}{l:List α}{m:List β}{i:Nat}{x:α}(h:Paired F l m)(e:l[i]?=some x):∃y,m[i]?=some y/\F x y:=by
 have hl:=h.len;have hi:=(Db.mp e).1;have hx:m[i]?=some (m[i]'(by lia)):=Dc (by lia);exact⟨_,hx,h.get2 e hx⟩
theorem Paired.app{α β:Type}{F:α->β->Prop}:∀{l l':List α}{m m':List β},Paired F l m->Paired F l' m'->Paired F (l++l') (m++m')
 |_,_,_,_,.nil,h=>h
 |_,_,_,_,.cons r t,h=>.cons r (Paired.app t h)
theorem Paired.put{α β:Type}{F:α->β->Prop}{x:α}{y:β}(r:F x y):∀{l:List α}{m:List β}(i:Nat),Paired F l m->Paired F (l.set i x) (m.set i y)
 |_,_,_,.nil=>.nil
 |_,_,0,.cons _ t=>.cons r t
 |_,_,i+1,.cons q t=>.cons q (Paired.put r i t)
theorem Paired.tk{α β:Type}{F:α->β->Prop}:∀{l:List α}{m:List β}(n:Nat),Paired F l m->Paired F (l.take n) (m.take n)
 |_,_,0,_=>.nil
 |_,_,_+1,.nil=>.nil
 |_,_,n+1,.cons r t=>.cons r (Paired.tk n t)
theorem Paired.dr{α β:Type}{F:α->β->Prop}:∀{l:List α}{m:List β}(n:Nat),Paired F l m->Paired F (l.drop n) (m.drop n)
 |_,_,0,r=>r
 |_,_,_+1,.nil=>.nil
 |_,_,n+1,.cons _ t=>Paired.dr n t
theorem Paired.erase{α β:Type}{F:α->β->Prop}:∀{l:List α}{m:List β}(n:Nat),Paired F l m->Paired F (l.eraseIdx n) (m.eraseIdx n)
 |_,_,_,.nil=>.nil
 |_,_,0,.cons _ t=>t
 |_,_,n+1,.cons r t=>.cons r (Paired.erase n t)
theorem Paired.mapR{α β γ:Type}{F:α->β->Prop}{G:α->γ->Prop}{f:β->γ}(h:∀a b,F a b->G a (f b)):∀{l:List α}{m:List β},Paired F l m->Paired G l (m.map f)
 |_,_,.nil=>.nil
 |_,_,.cons r t=>.cons (h _ _ r) (Paired.mapR h t)
theorem Paired.unmapR{α β γ:Type}{F:α->β->Prop}{G:α->γ->Prop}{f:β->γ}(h:∀a b,G a (f b)->F a b):∀{m:List β}{l:List α},Paired G l (m.map f)->Paired F l m
 | [],_,.nil=>.nil
 |_::m,_,.cons r t=>.cons (h _ _ r) (Paired.unmapR h (m:=m) t)
theorem Paired.empt{α β:Type}{F:α->β->Prop}{l:List α}{m:List β}(h:Paired F l m):l.isEmpty=m.isEmpty:=by cases h<;>rfl
end PySem
namespace L2
open PySem PySem.Spec PyProof.Rows
inductive T where
 |non|bl (b:Bool)|int (i:Int)|str (x:Str)|tup (xs:List T)|lst (xs:List T)
inductive U where
 |p (t:T)|m (k:Nat)|x (a:Addr) (d:Option Addr) (q:Option Int)
inductive MO where
 |lst (us:List U)|tup (us:List U)|ins (C:Addr) (fs:List (Str×U))|dK (kvs:List (Key×U))|dF (kvs:List (Key×U)) (ob:Obj) (gs:List (Key×V))|tab (P:Addr) (pos:Pos) (af:Str)
abbrev MM:=List MO
abbrev UEnv:=List (Option U)
inductive RepT(A:Addr->Prop)(H:Hp):V->T->Prop
 |non:RepT A H .non .non
 |bl (b:Bool):RepT A H (.bl b) (.bl b)
 |int (i:Int):RepT A H (.int i) (.int i)
 |str (x:Str):RepT A H (.str x) (.str x)
 |tup {p:Addr}{vs:List V}{ts:List T} (na:¬A p) (e:H p=some (.tup vs)) (l:vs.length=ts.length) (r:∀(i:Nat) v t,vs[i]?=some v->ts[i]?=some t->RepT A H v t):RepT A H (.ref p) (.tup ts)
 |lst {p:Addr}{vs:List V}{ts:List T} (na:¬A p) (e:H p=some (.lst vs)) (l:vs.length=ts.length) (r:∀(i:Nat) v t,vs[i]?=some v->ts[i]?=some t->RepT A H v t):RepT A H (.ref p) (.lst ts)
section
variable {A A':Addr->Prop}{H H':Hp}{v:V}{t:T}{ι ag:List Addr}{M:MM}{u:U}{Z:St}{ρ:UEnv}
abbrev RepTs(A:Addr->Prop)(H:Hp):List V->List T->Prop:=Paired (RepT A H)
theorem RepT.tupP(na:¬A p)(e:H p=some (.tup vs))(r:RepTs A H vs ts):RepT A H (.ref p) (.tup ts):=.tup na e r.len λi v t h k=>r.get2 h k
theorem RepT.lstP(na:¬A p)(e:H p=some (.lst vs))(r:RepTs A H vs ts):RepT A H (.ref p) (.lst ts):=.lst na e r.len λi v t h k=>r.get2 h k
theorem RepT.mono(h:∀x o,¬A x->H x=some o->H' x=some o/\¬A' x)(r:RepT A H v t):RepT A' H' v t:=by
 induction r with
 |non=>exact .non
 |bl b=>exact .bl b
 |int i=>exact .int i
 |str x=>exact .str x
 |tup na e l r ih=>exact .tup (h _ _ na e).2 (h _ _ na e).1 l ih
 |lst na e l r ih=>exact .lst (h _ _ na e).2 (h _ _ na e).1 l ih
theorem RepT.tup_inv(r:RepT A H v (.tup ts)):∃p vs,v=.ref p/\¬A p/\H p=some (.tup vs)/\RepTs A H vs ts:=by
 cases r with
 |tup na e l r=>exact⟨_,_,rfl,na,e,Paired.of_get l r⟩
theorem RepT.lst_inv(r:RepT A H v (.lst ts)):∃p vs,v=.ref p/\¬A p/\H p=some (.lst vs)/\RepTs A H vs ts:=by
 cases r with
 |lst na e l r=>exact⟨_,_,rfl,na,e,Paired.of_get l r⟩
def Av(A:Addr->Prop)(ι:List Addr):Addr->Prop:=λx=>A x\/x∈ι
def PartX(ι:List Addr)(H:Hp)(d:Option Addr):Option Int->Prop
 |none=>d=none
 |some n=>∃x0,d=some x0/\x0∉ι/\H x0=some (.xd (xfs n))
inductive RepU(A:Addr->Prop)(ι:List Addr)(H:Hp):V->U->Prop
 |p {v:V}{t:T} (r:RepT (Av A ι) H v t):RepU A ι H v (.p t)
 |m {k:Nat}{a:Addr} (e:ι[k]?=some a):RepU A ι H (.ref a) (.m k)
 |x {a:Addr}{d:Option Addr}{q:Option Int} (h:PartX ι H d q):RepU A ι H (.ref a) (.x a d q)
abbrev RepUs(A:Addr->Prop)(ι:List Addr)(H:Hp):List V->List U->Prop:=Paired (RepU A ι H)
def q9O(c:Addr)(af:Str):HO:=.ext λh=>h.CodeRec (.ref c) af
def ObjR(A:Addr->Prop)(ι:List Addr)(H:Hp)(a:Addr):MO->Prop
 |.lst us=>∃vs,H a=some (.lst vs)/\RepUs A ι H vs us
 |.tup us=>∃vs,H a=some (.tup vs)/\RepUs A ι H vs us
 |.ins C fs=>∃dx gs,H a=some (.ins C dx gs)/\H dx=some (.own a)/\dx∉ι/\Paired (λ(g:Str×V) (f:Str×U)=>g.1=f.1/\RepU A ι H g.2 f.2) gs fs
 |.dK kvs=>∃gs,H a=some (.dK gs)/\Paired (λ(g:Key×V) (f:Key×U)=>g.1=f.1/\RepU A ι H g.2 f.2) gs kvs
 |.dF kvs ob gs=>H a=some (.frz ob (.dK gs))/\Paired (λ(g:Key×V) (f:Key×U)=>g.1=f.1/\RepU A ι H g.2 f.2) gs kvs
 |.tab P pos af=>∃ps:Array Value,H a=some (.tbl ps)/\(TriplesOk ps.toList/\a=P)/\(codeAmong pos ps.toList=none\/∃c,codeAmong pos ps.toList=some (.ref c)/\H c=some (q9O c af)/\c∉ι)
structure Wd(A:Addr->Prop)(ι:List Addr)(H:Hp)(M:MM):Prop where
 nd:ι.Nodup
 len:ι.length=M.length
 dom:∀x,A x->H x≠none
 na:∀x∈ι,¬A x
 obj:∀(k:Nat) a o,ι[k]?=some a->M[k]?=some o->ObjR A ι H a o
structure Le(ι:List Addr)(H:Hp)(ag:List Addr)(H':Hp):Prop where
 ext:∃n,ag=ι++n/\∀x∈n,H x=none
 fr:∀x o,H x=some o->x∉ι->H' x=some o
 al:∀x,H x≠none->H' x≠none
theorem Le.refl(ι:List Addr)(H:Hp):Le ι H ι H:=⟨⟨[],by simp,by simp⟩,λ_ _ h _=>h,λ_ h=>h⟩
theorem Le.trans(a:Le ι H ag H')(b:Le ag H' ac H2):Le ι H ac H2:=by
 obtain⟨n,rfl,hn⟩:=a.ext;obtain⟨m,rfl,hm⟩:=b.ext;have aD:∀x,H x≠none->x∉ι->x∉ι++n:=λx hx h z=>by
  rcases Dl.mp z with z|z
  ·exact h z
  ·exact hx (hn x z)
 refine⟨⟨n++m,by rw[DF],λx hx=>?_⟩,λx o e h=>b.fr x o (a.fr x o e h) (aD x (by rw[e];simp) h),λx h=>b.al x (a.al x h)⟩;rcases Dl.mp hx with z|z
 ·exact hn x z
 ·cases q:H x with
  |none=>rfl
  |some o=>exact absurd (hm x z) (a.al x (by rw[q];simp))
theorem Le.av(l:Le ι H ag H')(h:¬Av A ι x)(e:H x=some o):H' x=some o/\¬Av A ag x:=by
 obtain⟨n,rfl,hn⟩:=l.ext;refine⟨l.fr x o e λz=>h (.inr z),λz=>?_⟩;rcases z with z|z
 ·exact h (.inl z)
 ·rcases Dl.mp z with z|z
  ·exact h (.inr z)
  ·rw[hn x z]at e;cases e
theorem RepT.le(l:Le ι H ag H')(r:RepT (Av A ι) H v t):RepT (Av A ag) H' v t:=r.mono λ_ _ h e=>l.av h e
theorem PartX.le(l:Le ι H ag H')(h:PartX ι H d q):PartX ag H' d q:=by
 cases q with
 |none=>exact h
 |some n=>
  obtain⟨x0,e,ni,hx⟩:=h;obtain⟨m,rfl,hm⟩:=l.ext;refine⟨x0,e,λz=>?_,l.fr x0 _ hx ni⟩;rcases Dl.mp z with z|z
  ·exact ni z
  ·rw[hm x0 z]at hx;cases hx
theorem RepU.le(l:Le ι H ag H')(r:RepU A ι H v u):RepU A ag H' v u:=by
 cases r with
 |p r=>exact .p (r.le l)
 |m e=>
  obtain⟨n,rfl,_⟩:=l.ext;exact .m (by rw[Df (Db.mp e).1];exact e)
 |x h=>exact .x (h.le l)
theorem RepUs.le(l:Le ι H ag H')(r:RepUs A ι H vs us):RepUs A ag H' vs us:=Paired.mapP r λ_ _ q=>q.le l
theorem ObjR.some{a:Addr}{o:MO}(r:ObjR A ι H a o):∃h,H a=some h:=by
 cases o with
 |lst=>obtain⟨vs,e,_⟩:=r;exact⟨_,e⟩
 |tup=>obtain⟨vs,e,_⟩:=r;exact⟨_,e⟩
 |ins=>obtain⟨_,_,e,_⟩:=r;exact⟨_,e⟩
 |dK=>obtain⟨_,e,_⟩:=r;exact⟨_,e⟩
 |dF=>obtain⟨e,_⟩:=r;exact⟨_,e⟩
 |tab=>obtain⟨_,e,_⟩:=r;exact⟨_,e⟩
theorem ObjR.le'(l:Le ι H ag H')(ea:H' a=H a)(eo:∀x,H x=Option.some (.own a)->H' x=H x)(r:ObjR A ι H a o):ObjR A ag H' a o:=by
 cases o with
 |lst=>obtain⟨vs,e,r⟩:=r;exact⟨vs,by rw[ea];exact e,Paired.mapP r λ_ _ q=>q.le l⟩
 |tup=>obtain⟨vs,e,r⟩:=r;exact⟨vs,by rw[ea];exact e,Paired.mapP r λ_ _ q=>q.le l⟩
 |ins=>
  obtain⟨dx,gs,e,ed,nd,r⟩:=r;obtain⟨n,rfl,hn⟩:=l.ext;refine⟨dx,gs,by rw[ea];exact e,by rw[eo dx ed];exact ed,λz=>?_,Paired.mapP r λ_ _ q=>⟨q.1,q.2.le l⟩⟩;rcases Dl.mp z with z|z
  ·exact nd z
  ·rw[hn dx z]at ed;cases ed
 |dK=>obtain⟨gs,e,r⟩:=r;exact⟨gs,by rw[ea];exact e,Paired.mapP r λ_ _ q=>⟨q.1,q.2.le l⟩⟩
 |dF=>obtain⟨e,r⟩:=r;exact⟨by rw[ea];exact e,Paired.mapP r λ_ _ q=>⟨q.1,q.2.le l⟩⟩
 |tab=>
  obtain⟨ps,e,t,z⟩:=r;obtain⟨n,rfl,hn⟩:=l.ext;refine⟨ps,by rw[ea];exact e,t,z.imp id λ⟨c,h1,h2,h3⟩=>⟨c,h1,l.fr c _ h2 h3,λy=>?_⟩⟩;rcases Dl.mp y with y|y
  ·exact h3 y
  ·rw[hn c y]at h2;cases h2
theorem Wd.al(w:Wd A ι H M){k:Nat}(e:ι[k]?=some a):∃o,M[k]?=some o/\ObjR A ι H a o:=by
 have h:=(Db.mp e).1;have e2:M[k]?=some (M[k]'(by rw[<-w.len];exact h)):=Dc _;exact⟨_,e2,w.obj k a _ e e2⟩
theorem Wd.at(w:Wd A ι H M){k:Nat}(e:M[k]?=some o):∃a,ι[k]?=some a/\ObjR A ι H a o:=by
 have h:=(Db.mp e).1;have e2:ι[k]?=some (ι[k]'(by rw[w.len];exact h)):=Dc _;exact⟨_,e2,w.obj k _ _ e2 e⟩
theorem Wd.mem_some(w:Wd A ι H M)(h:a∈ι):∃o,H a=some o:=by
 obtain⟨k,e⟩:=Rn h;obtain⟨o,_,r⟩:=w.al e;exact r.some
theorem Wd.not_own(w:Wd A ι H M)(h:a∈ι):H a≠some (.own x):=λz=>by
 obtain⟨k,e⟩:=Rn h;obtain⟨o,_,r⟩:=w.al e;cases o with
 |lst=>obtain⟨vs,e,_⟩:=r;rw[z]at e;cases e
 |tup=>obtain⟨vs,e,_⟩:=r;rw[z]at e;cases e
 |ins=>obtain⟨_,_,e,_⟩:=r;rw[z]at e;cases e
 |dK=>obtain⟨_,e,_⟩:=r;rw[z]at e;cases e
 |dF=>obtain⟨e,_⟩:=r;rw[z]at e;cases e
 |tab=>obtain⟨_,e,_⟩:=r;rw[z]at e;cases e
theorem Le.fresh(h:H p=none):Le ι H ι (upd H p o):=⟨⟨[],by simp,by simp⟩,λx o' e _=>zY h e,λx e=>by
 by_cases z:x=p
 ·subst z;rw[upd_same];simp
 ·rw[upd_ne z];exact e⟩
theorem Le.push(h:H p=none):Le ι H (ι++[p]) (upd H p o):=⟨⟨[p],rfl,λx hx=>by rw[Do.mp hx];exact h⟩,(Le.fresh (ι:=ι) h).fr,(Le.fresh (ι:=ι) h).al⟩
theorem Le.put(h:p∈ι):Le ι H ι (upd H p o):=⟨⟨[],by simp,by simp⟩,λx o' e n=>by rw[upd_ne (λz=>n (by rw[z];exact h))];exact e,λx e=>by
 by_cases z:x=p
 ·subst z;rw[upd_same];simp
 ·rw[upd_ne z];exact e⟩
theorem Wd.fresh(w:Wd A ι H M)(h:H p=none):Wd A ι (upd H p o) M :=
 ⟨w.nd,w.len,λx hx=>(Le.fresh (ι:=ι) h).al x (w.dom x hx),w.na,λk a ob e1 e2=>(w.obj k a ob e1 e2).le' (.fresh h) (upd_ne λz=>by
  obtain⟨q,hq⟩:=w.mem_some (De e1);rw[z,h]at hq;cases hq) λx ex=>upd_ne λz=>by rw[z,h]at ex;cases ex⟩
theorem Wd.nin(w:Wd A ι H M)(h:H p=none):p∉ι:=λz=>by
 obtain⟨q,hq⟩:=w.mem_some z;rw[h]at hq;cases hq
theorem Wd.nA(w:Wd A ι H M)(h:H p=none):¬Av A ι p:=λz=>z.elim (λz=>w.dom p z h) (w.nin h)
theorem Wd.push(w:Wd A ι H M)(h:H p=none)(new:ObjR A (ι++[p]) (upd H p o) p mo):Wd A (ι++[p]) (upd H p o) (M++[mo]):=by
 have np:=w.nin h;refine⟨Rg.mpr ⟨w.nd,by simp,λa ha b hb=>?_⟩,by simp[w.len],λx hx=>(Le.fresh (ι:=ι) h).al x (w.dom x hx),λx hx=>?_,λk a ob e1 e2=>?_⟩
 ·rw[Do.mp hb];exact λz=>np (by rw[<-z];exact ha)
 ·rcases Dl.mp hx with z|z
  ·exact w.na x z
  ·rw[Do.mp z];exact λz=>w.dom p z h
 ·by_cases hk:k<ι.length
  ·rw[Df hk]at e1
   rw[Df (by rw[<-w.len];exact hk)]at e2;exact(w.obj k a ob e1 e2).le' (.push h) (upd_ne λz=>np (by rw[<-z];exact De e1)) λx ex=>upd_ne λz=>by rw[z,h]at ex;cases ex
  ·have lN:=(Db.mp e1).1
   rw[Dg,D5]at lN;have:k=ι.length:=by lia
   subst this;rw[Dk (Dh _),RF]at e1;rw[w.len,Dk (Dh _),RF]at e2;simp at e1 e2;subst e1 e2;exact new
theorem Wd.put(w:Wd A ι H M)(e:ι[k]?=some p)(new:ObjR A ι (upd H p o) p mo):Wd A ι (upd H p o) (M.set k mo):=by
 have hp:=De e;refine⟨w.nd,by rw[Dm];exact w.len,λx hx=>(Le.put hp).al x (w.dom x hx),w.na,λj a ob e1 e2=>?_⟩;by_cases hj:k=j
 ·subst hj
  rw[e]at e1;cases e1;rw[Dw (by rw[<-w.len];exact(Db.mp e).1)]at e2;cases e2;exact new
 ·rw[Dq hj]at e2
  have na:a≠p:=λz=>by
   subst z;have h1:=Db.mp e;have h2:=Db.mp e1;exact hj ((List.getElem_inj w.nd).mp (h1.2.trans h2.2.symm))
  exact(w.obj j a ob e1 e2).le' (.put hp) (upd_ne na) λx ex=>upd_ne λz=>by
   rw[z]at ex;exact w.not_own hp ex
def EnvR(A:Addr->Prop)(ι:List Addr)(H:Hp):St->UEnv->Prop:=Paired λ(s:Option V) (r:Option U)=>∀u,r=some u->∃v,s=some v/\RepU A ι H v u
theorem EnvR.le(l:Le ι H ag H')(r:EnvR A ι H Z ρ):EnvR A ag H' Z ρ:=Paired.mapP r λ_ _ q u e=>by
 obtain⟨v,h1,h2⟩:=q u e;exact⟨v,h1,h2.le l⟩
theorem EnvR.get(r:EnvR A ι H Z ρ){i:Nat}(e:ρ[i]?=some (some u)):∃v,Z[i]?=some (some v)/\RepU A ι H v u:=by
 obtain⟨s,h1,h2⟩:=Paired.getR r e;obtain⟨v,rfl,h3⟩:=h2 u rfl;exact⟨v,h1,h3⟩
theorem EnvR.put(r:EnvR A ι H Z ρ)(i:Nat)(q:RepU A ι H v u):EnvR A ι H (Z.set i (some v)) (ρ.set i (some u)):=Paired.put (λw e=>by cases e;exact⟨v,rfl,q⟩) i r
def Ye(bs:List Bool)(n:Nat)(ρ:UEnv):UEnv:=(bs.zip ρ).map (λp=>if p.1 then p.2 else none)++List.replicate n none
theorem EnvR.mask(r:EnvR A ι H Z ρ):EnvR A ι H (zg bs n Z) (Ye bs n ρ):=by
 refine Paired.app ?_ ?_
 ·induction r generalizing bs with
  |nil=>simp;exact .nil
  |cons q t ih=>
   cases bs with
   |nil=>exact .nil
   |cons b bs=>
    refine .cons ?_ ih;cases b
    ·intro u e;simp at e
    ·simpa using q
 ·induction n with
  |zero=>exact .nil
  |succ n ih=>exact .cons (λu e=>by cases e) ih
end
abbrev UK:=U->MM->Prop
abbrev UE:=UEnv->MM->UK->Prop
abbrev UT:=UEnv->MM->(Bool->MM->Prop)->Prop
abbrev UA:=UEnv->MM->(List U->MM->Prop)->Prop
def LE(te:TE)(ue:UE):Prop:=∀(A:Addr->Prop)(ι:List Addr)(Z:St)(H:Hp)(ρ:UEnv)(M:MM)(Qu:UK)(Q:VK),Wd A ι H M->EnvR A ι H Z ρ->ue ρ M Qu ->
 (∀u M' ag v H',Le ι H ag H'->Wd A ag H' M'->RepU A ag H' v u->Qu u M'->Q v H')->te Z H Q
def LT(tt:TT)(ut:UT):Prop:=∀(A:Addr->Prop)(ι:List Addr)(Z:St)(H:Hp)(ρ:UEnv)(M:MM)(Qu:Bool->MM->Prop)(Q:Bool->Hp->Prop),Wd A ι H M->EnvR A ι H Z ρ->ut ρ M Qu ->
 (∀b M' ag H',Le ι H ag H'->Wd A ag H' M'->Qu b M'->Q b H')->tt Z H Q
def LA(n:Nat)(ta:TA)(ua:UA):Prop:=∀(A:Addr->Prop)(ι:List Addr)(Z:St)(H:Hp)(ρ:UEnv)(M:MM)(Qu:List U->MM->Prop)(Q:List V->Hp->Prop),Wd A ι H M->EnvR A ι H Z ρ->ua ρ M Qu ->
 (∀us M' ag vs H',Le ι H ag H'->Wd A ag H' M'->us.length=n->RepUs A ag H' vs us->Qu us M'->Q vs H')->ta Z H Q
section
def uVar(i:Nat):UE:=λρ M Q=>∃u,ρ[i]?=some (some u)/\Q u M
inductive Sc:V->T->Prop
 |non:Sc .non .non
 |bl (b:Bool):Sc (.bl b) (.bl b)
 |int (i:Int):Sc (.int i) (.int i)
 |str (x:Str):Sc (.str x) (.str x)
theorem Sc.rep(h:Sc v t):RepT A H v t:=by cases h<;>constructor
def uC(t:T):UE:=λ_ M Q=>Q (.p t) M
def uNil:UA:=λ_ M Q=>Q [] M
def XO(ua:UE)(ul:UA):UA:=λρ M Q=>ua ρ M λx M1=>ul ρ M1 λxs M2=>Q (x::xs) M2
theorem q6R:LA 0 tNil uNil:=λA ι Z H ρ M Qu Q w e q k=>k [] M ι [] H (.refl _ _) w rfl .nil q
def vV:List U->Option (List T)
 | []=>some []
 |.p t::r=>(vV r).map (t :: ·)
 |.m _::_=>none
 |.x _ _ _::_=>none
@[simp] theorem xw:∀ts:List T,vV (ts.map U.p)=some ts
 | []=>rfl
 |t::r=>by simp[vV,xw r]
theorem zn:∀{us:List U}{ts:List T},vV us=some ts->us=ts.map U.p
 | [],_,h=>by simp[vV]at h;subst h;rfl
 |.p t::r,ts,h=>by
  simp[vV]at h;obtain⟨a,h1,rfl⟩:=h;rw[Dx, <-zn h1]
 |.m _::_,_,h=>by simp[vV]at h
 |.x _ _ _::_,_,h=>by simp[vV]at h
def sn(M:MM):U->Option T
 |.p t=>some t
 |.m k=>match M[k]? with
  |some (.lst us)=>(vV us).map T.lst
  |some (.tup us)=>(vV us).map T.tup
  |_=>none
 |.x _ _ _=>none
def sns(M:MM):List U->Option (List T)
 | []=>some []
 |u::r=>match sn M u,sns M r with
  |some t,some ts=>some (t::ts)
  |_,_=>none
inductive RepV(A:Addr->Prop)(H:Hp):V->T->Prop
 |of {v:V}{t:T} (r:RepT A H v t):RepV A H v t
 |lst {p:Addr}{vs:List V}{ts:List T} (e:H p=some (.lst vs)) (r:RepTs A H vs ts):RepV A H (.ref p) (.lst ts)
 |tup {p:Addr}{vs:List V}{ts:List T} (e:H p=some (.tup vs)) (r:RepTs A H vs ts):RepV A H (.ref p) (.tup ts)
variable {A:Addr->Prop}{H H':Hp}{ι:List Addr}{M:MM}{v:V}{u:U}{t:T}
theorem RepV.lst_inv(r:RepV A H v (.lst ts)):∃p vs,v=.ref p/\H p=some (.lst vs)/\RepTs A H vs ts:=by
 cases r with
 |of r=>obtain⟨p,vs,h1,_,h2,h3⟩:=r.lst_inv;exact⟨p,vs,h1,h2,h3⟩
 |lst e r=>exact⟨_,_,rfl,e,r⟩
theorem RepV.tup_inv(r:RepV A H v (.tup ts)):∃p vs,v=.ref p/\H p=some (.tup vs)/\RepTs A H vs ts:=by
 cases r with
 |of r=>obtain⟨p,vs,h1,_,h2,h3⟩:=r.tup_inv;exact⟨p,vs,h1,h2,h3⟩
 |tup e r=>exact⟨_,_,rfl,e,r⟩
theorem RepV.int_inv(r:RepV A H v (.int i)):v=.int i:=by cases r with|of r=>cases r;rfl
theorem RepV.bl_inv(r:RepV A H v (.bl i)):v=.bl i:=by cases r with|of r=>cases r;rfl
theorem RepV.str_inv(r:RepV A H v (.str i)):v=.str i:=by cases r with|of r=>cases r;rfl
theorem RepV.non_inv(r:RepV A H v .non):v=.non:=by cases r with|of r=>cases r;rfl
theorem RepUs.pures(r:RepUs A ι H vs (ts.map U.p)):RepTs (Av A ι) H vs ts:=Paired.unmapR (λa b q=>by cases q with|p r=>exact r) r
theorem RepTs.ups(r:RepTs (Av A ι) H vs ts):RepUs A ι H vs (ts.map U.p):=Paired.mapR (λa b q=>.p q) r
theorem RepU.sn(w:Wd A ι H M)(r:RepU A ι H v u)(e:sn M u=some t):RepV (Av A ι) H v t:=by
 cases r with
 |p r=>simp[L2.sn]at e;subst e;exact .of r
 |m q=>
  obtain⟨o,h1,h2⟩:=w.al q;simp only[L2.sn,h1]at e;cases o with
  |lst us=>
   simp at e;obtain⟨ts,e1,rfl⟩:=e;obtain⟨vs,h3,h4⟩:=h2;rw[zn e1]at h4;exact .lst h3 h4.pures
  |tup us=>
   simp at e;obtain⟨ts,e1,rfl⟩:=e;obtain⟨vs,h3,h4⟩:=h2;rw[zn e1]at h4;exact .tup h3 h4.pures
  |ins=>simp at e
  |dK=>simp at e
  |dF=>simp at e
  |tab=>simp at e
 |x h=>simp[L2.sn]at e
set_option tactic.hygienic true in
theorem RepUs.sns(w:Wd A ι H M):∀{vs:List V}{us:List U}{ts:List T},RepUs A ι H vs us->sns M us=some ts->Paired (RepV (Av A ι) H) vs ts
 |_,_,ts,.nil,e=>by simp[L2.sns]at e;subst e;exact .nil
 |_,_,ts,.cons r q,e=>by
  simp only[L2.sns]at e;split at e
  ·rename_i h1 h2
   simp at e;subst e;exact .cons (r.sn w h1) (RepUs.sns w q h2)
  ·cases e
def OpL(r:R2)(s:T->T->(T->Prop)->Prop):Prop:=∀(A:Addr->Prop)(ι:List Addr)(H:Hp)(M:MM)(x y:V)(a b:T)(Qs:T->Prop)(Q:VK),Wd A ι H M->RepV (Av A ι) H x a->RepV (Av A ι) H y b->s a b Qs ->
 (∀t ag v H',Le ι H ag H'->Wd A ag H' M->RepT (Av A ag) H' v t->Qs t->Q v H')->r x y H Q
def uOp(s:T->T->(T->Prop)->Prop)(ua ub:UE):UE:=λρ M Q=>ua ρ M λx M1=>ub ρ M1 λy M2=>∃a b,sn M2 x=some a/\sn M2 y=some b/\s a b λt=>Q (.p t) M2
def sI(C:Int->Int->Prop)(g:Int->Int->T):T->T->(T->Prop)->Prop:=λa b Q=>∃i j,a=.int i/\b=.int j/\C i j/\Q (g i j)
def sI0(g:Int->Int->T):T->T->(T->Prop)->Prop:=λa b Q=>∃i j,a=.int i/\b=.int j/\Q (g i j)
theorem q9C(hg:∀i j,Sc (gv i j) (g i j)):OpL (rI C gv) (sI C g):=λA ι H M x y a b Qs Q w r1 r2 ⟨i,j,ea,eb,c,q⟩ k=>by
 subst ea eb;exact⟨i,j,r1.int_inv,r2.int_inv,c,k _ ι _ H (.refl _ _) w (hg i j).rep q⟩
theorem zR(hg:∀i j,Sc (gv i j) (g i j)):OpL (rI0 gv) (sI0 g):=λA ι H M x y a b Qs Q w r1 r2 ⟨i,j,ea,eb,q⟩ k=>by
 subst ea eb;exact⟨i,j,r1.int_inv,r2.int_inv,k _ ι _ H (.refl _ _) w (hg i j).rep q⟩
def vt:T->Option V
 |.non=>some .non
 |.bl b=>some (.bl b)
 |.int i=>some (.int i)
 |.str x=>some (.str x)
 |_=>none
theorem j5(e:vt t=some x):Sc x t:=by
 cases t<;>simp[vt]at e<;>subst e<;>constructor
theorem RepV.sc{x y:V}(r:RepV A H v t)(e:vt t=some x):v=x:=by
 cases j5 e with
 |non=>exact r.non_inv
 |bl=>exact r.bl_inv
 |int=>exact r.int_inv
 |str=>exact r.str_inv
def sEq(neg:Bool):T->T->(T->Prop)->Prop:=λa b Q=>∃x y,vt a=some x/\vt b=some y/\scal x y=true/\Q (.bl (if neg then !decide (x=y) else decide (x=y)))
theorem q2L:OpL rEq (sEq false):=λA ι H M x y a b Qs Q w r1 r2 ⟨x',y',e1,e2,sc,q⟩ k=>by
 cases r1.sc (y:=.non) e1;cases r2.sc (y:=.non) e2;exact⟨sc,k _ ι _ H (.refl _ _) w (.bl _) q⟩
theorem q8S:OpL rNe (sEq true):=λA ι H M x y a b Qs Q w r1 r2 ⟨x',y',e1,e2,sc,q⟩ k=>by
 cases r1.sc (y:=.non) e1;cases r2.sc (y:=.non) e2;exact⟨sc,k _ ι _ H (.refl _ _) w (.bl _) q⟩
def sStr:T->T->(T->Prop)->Prop:=λa b Q=>∃i j,a=.str i/\b=.str j/\i.length+j.length<=sizeLine/\Q (.str (i++j))
theorem q4I:OpL (λx y H Q=>∃i j,x=.str i/\y=.str j/\i.length+j.length<=sizeLine/\Q (.str (i++j)) H) sStr:=λA ι H M x y a b Qs Q w r1 r2 ⟨i,j,ea,eb,c,q⟩ k=>by
 subst ea eb;exact⟨i,j,r1.str_inv,r2.str_inv,c,k _ ι _ H (.refl _ _) w (.str _) q⟩
def vts:List T->Option (List V)
 | []=>some []
 |t::r=>match vt t,vts r with
  |some x,some xs=>some (x::xs)
  |_,_=>none
set_option tactic.hygienic true in
theorem XG:∀{vs:List V}{ts:List T}{xs:List V},RepTs A H vs ts->vts ts=some xs->vs=xs/\xs.all kg=true
 |_,_,xs,.nil,e=>by simp[vts]at e;subst e;exact⟨rfl,rfl⟩
 |_,_,xs,.cons r q,e=>by
  simp only[vts]at e;split at e
  ·rename_i h1 h2
   simp at e;subst e;obtain⟨z1,z2⟩:=XG q h2;subst z1;cases(RepV.of r).sc (y:=.non) h1;refine⟨rfl,?_⟩;rw[Bw,z2];cases j5 h1<;>rfl
  ·cases e
def seqT:T->Option (List T)
 |.lst ts=>some ts
 |.tup ts=>some ts
 |_=>none
def sIn(neg:Bool):T->T->(T->Prop)->Prop:=λa b Q=>∃x ts ys,vt a=some x/\seqT b=some ts/\vts ts=some ys/\Q (.bl (if neg then !inV x ys else inV x ys))
theorem q8L:OpL (rIn Ξ neg) (sIn neg):=λA ι H M x y a b Qs Q w r1 r2 ⟨x',ts,ys,e1,e2,e3,q⟩ k=>by
 cases r1.sc (y:=.non) e1;have hf:kg x=true:=by cases j5 e1<;>rfl
 cases b<;>simp[seqT]at e2
 ·subst e2
  obtain⟨p,vs,rfl,h,r⟩:=r2.tup_inv;obtain⟨rfl,z⟩:=XG r e3;exact⟨p,vs,rfl,.inr (SqT.of h),hf,z,k _ ι _ H (.refl _ _) w (.bl _) q⟩
 ·subst e2
  obtain⟨p,vs,rfl,h,r⟩:=r2.lst_inv;obtain⟨rfl,z⟩:=XG r e3;exact⟨p,vs,rfl,.inl (SqL.of h),hf,z,k _ ι _ H (.refl _ _) w (.bl _) q⟩
theorem zw(w:Wd A ι H M)(h:H p=none)(r:RepTs (Av A ι) H vs ts):RepT (Av A ι) (upd H p (.lst vs)) (.ref p) (.lst ts):=
 .lstP (w.nA h) upd_same (Paired.mapP r λ_ _ q=>q.le (.fresh h))
theorem ju(w:Wd A ι H M)(h:H p=none)(r:RepTs (Av A ι) H vs ts):RepT (Av A ι) (upd H p (.tup vs)) (.ref p) (.tup ts):=
 .tupP (w.nA h) upd_same (Paired.mapP r λ_ _ q=>q.le (.fresh h))
def sCat:T->T->(T->Prop)->Prop:=λa b Q=>∃xs ys,a=.lst xs/\b=.lst ys/\xs.length+ys.length<=sizeLine/\Q (.lst (xs++ys))
theorem WU:OpL rCat sCat:=λA ι H M x y a b Qs Q w r1 r2 ⟨xs,ys,ea,eb,hz,q⟩ k=>by
 subst ea eb;obtain⟨p,vs,rfl,h1,q1⟩:=r1.lst_inv;obtain⟨p2,cT,rfl,h2,q2⟩:=r2.lst_inv;exact⟨p,p2,vs,cT,rfl,rfl,h1,h2,by rw[q1.len,q2.len];exact hz,λp hp=>k _ ι _ _ (.fresh hp) (w.fresh hp) (zw w hp (q1.app q2)) q⟩
theorem jT{α β:Type}{F:α->β->Prop}{l:List α}{m:List β}(h:Paired F l m):∀n:Nat,Paired F (List.replicate n l).flatten (List.replicate n m).flatten
 |0=>.nil
 |n+1=>by rw[D3,D3,Rp,Rp];exact h.app (jT h n)
def Jx:U->Bool
 |.p .non=>true
 |_=>false
theorem Xf(r:RepU A ι H v u):decide (v=.non)=Jx u:=by
 cases r with
 |p r=>cases r<;>simp[Jx]
 |m e=>simp[Jx]
 |x h=>simp[Jx]
def uIsN(neg:Bool)(ua:UE):UE:=λρ M Q=>ua ρ M λx M1=>Q (.p (.bl (if neg then !Jx x else Jx x))) M1
def uNeg(ua:UE):UE:=λρ M Q=>ua ρ M λx M1=>∃i,x=.p (.int i)/\Q (.p (.int (-i))) M1
def uB(ua:UE):UT:=λρ M Q=>ua ρ M λx M1=>∃b,x=.p (.bl b)/\Q b M1
theorem lt_b(ha:LE ta ua):LT (tB ta) (uB ua):=λA ι Z H ρ M Qu Q w e q k=>
 ha A ι Z H ρ M _ _ w e q λx M1 a6 v H1 l1 w1 r1 zz=>by
  obtain⟨b,ex,q1⟩:=zz;subst ex;cases r1 with
  |p r=>cases r;exact⟨b,rfl,k b M1 a6 H1 l1 w1 q1⟩
def truU(M:MM):U->Option Bool
 |.p .non=>some false
 |.p (.bl b)=>some b
 |.p (.int i)=>some (i != 0)
 |.p (.lst ts)=>some (!ts.isEmpty)
 |.p (.tup ts)=>some (!ts.isEmpty)
 |.m k=>match M[k]? with
  |some (.lst us)=>some (!us.isEmpty)
  |some (.tup us)=>some (!us.isEmpty)
  |some (.dK us)=>some (!us.isEmpty)
  |_=>none
 |_=>none
theorem q6c(w:Wd A ι H M)(r:RepU A ι H v u)(e:truU M u=some b):TruV Ξ v H b:=by
 cases r with
 |p r=>
  cases r with
  |non=>simp[truU]at e;subst e;rfl
  |bl=>simp[truU]at e;subst e;rfl
  |int=>simp[truU]at e;subst e;simp[TruV]
  |str=>simp[truU]at e
  |tup na e1 l r=>simp only[truU,Option.some.injEq]at e;subst e;exact .inr (.inl ⟨_,SqT.of e1,by rw[(Paired.of_get l r).empt]⟩)
  |lst na e1 l r=>simp only[truU,Option.some.injEq]at e;subst e;exact .inl ⟨_,SqL.of e1,by rw[(Paired.of_get l r).empt]⟩
 |m q=>
  obtain⟨o,h1,h2⟩:=w.al q;simp only[truU,h1]at e;cases o with
  |lst us=>simp only[Option.some.injEq]at e;subst e;obtain⟨vs,h3,h4⟩:=h2;exact .inl ⟨_,SqL.of h3,by rw[h4.empt]⟩
  |tup us=>simp only[Option.some.injEq]at e;subst e;obtain⟨vs,h3,h4⟩:=h2;exact .inr (.inl ⟨_,SqT.of h3,by rw[h4.empt]⟩)
  |ins=>simp at e
  |dK us=>simp only[Option.some.injEq]at e;subst e;obtain⟨vs,h3,h4⟩:=h2;exact .inr (.inr ⟨_,h3,by rw[h4.empt]⟩)
  |dF=>simp at e
  |tab=>simp at e
 |x h=>simp[truU]at e
def uTru(ua:UE):UT:=λρ M Q=>ua ρ M λx M1=>∃b,truU M1 x=some b/\Q b M1
def uAnd(t s:UT):UT:=λρ M Q=>t ρ M λc M1=>if c=true then s ρ M1 Q else Q false M1
def uOr(t s:UT):UT:=λρ M Q=>t ρ M λc M1=>if c=true then Q true M1 else s ρ M1 Q
def uNot(t:UT):UT:=λρ M Q=>t ρ M λc M1=>Q (!c) M1
def q8O(ua ub:UE):UE:=λρ M Q=>ua ρ M λx M1=>∃c,x=.p (.bl c)/\if c=true then ub ρ M1 Q else Q (.p (.bl false)) M1
def uOrV(ua ub:UE):UE:=λρ M Q=>ua ρ M λx M1=>∃c,x=.p (.bl c)/\if c=true then Q (.p (.bl true)) M1 else ub ρ M1 Q
def q9f(ua:UE):UE:=λρ M Q=>ua ρ M λx M1=>∃c,x=.p (.bl c)/\Q (.p (.bl (!c))) M1
def uIf(t:UT)(ua ub:UE):UE:=λρ M Q=>t ρ M λc M1=>if c=true then ua ρ M1 Q else ub ρ M1 Q
def JU(s s':T->T->(T->Prop)->Prop)(ua ub uc:UE):UE:=λρ M Q=>ua ρ M λx M1=>ub ρ M1 λy M2=>∃a b,sn M2 x=some a/\sn M2 y=some b/\s a b λz=>∃k,z=.bl k /\
 if k=true then uc ρ M2 λc M3=>∃b' c',sn M3 y=some b'/\sn M3 c=some c'/\s' b' c' λt=>Q (.p t) M3 else Q (.p (.bl false)) M2
def uTup(ul:UA):UE:=λρ M Q=>ul ρ M λus M1=>∃ts,vV us=some ts/\Q (.p (.tup ts)) M1
def uLst(ul:UA):UE:=λρ M Q=>ul ρ M λus M1=>∃ts,vV us=some ts/\Q (.p (.lst ts)) M1
def uNew(ul:UA):UE:=λρ M Q=>ul ρ M λus M1=>Q (.m M1.length) (M1++[.lst us])
def q87(ul:UA):UE:=λρ M Q=>ul ρ M λus M1=>Q (.m M1.length) (M1++[.tup us])
theorem xA{α:Type}{l:List α}{x:α}:(l++[x])[l.length]?=some x:=by rw[Dk (Dh _),RF];rfl
theorem zG(w:Wd A ι H M)(h:H p=none)(r:RepUs A ι H vs us):Wd A (ι++[p]) (upd H p (.lst vs)) (M++[.lst us])/\RepU A (ι++[p]) (upd H p (.lst vs)) (.ref p) (.m M.length):=
 ⟨w.push h ⟨vs,upd_same,r.le (.push h)⟩,.m (by rw[<-w.len];exact xA)⟩
theorem Gk(w:Wd A ι H M)(h:H p=none)(r:RepUs A ι H vs us):Wd A (ι++[p]) (upd H p (.tup vs)) (M++[.tup us])/\RepU A (ι++[p]) (upd H p (.tup vs)) (.ref p) (.m M.length):=
 ⟨w.push h ⟨vs,upd_same,r.le (.push h)⟩,.m (by rw[<-w.len];exact xA)⟩
def qQ(M:MM):U->Option (List U)
 |.p (.lst ts)=>some (ts.map .p)
 |.m k=>match M[k]? with
  |some (.lst us)=>some us
  |_=>none
 |_=>none
def vC(M:MM):U->Option (List U)
 |.p (.tup ts)=>some (ts.map .p)
 |.m k=>match M[k]? with
  |some (.tup us)=>some us
  |_=>none
 |_=>none
theorem vD(w:Wd A ι H M)(r:RepU A ι H v u)(e:qQ M u=some us):∃p vs,v=.ref p/\H p=some (.lst vs)/\RepUs A ι H vs us:=by
 cases r with
 |p r=>
  cases r with
  |lst na e1 l r=>simp[qQ]at e;subst e;exact⟨_,_,rfl,e1,RepTs.ups (Paired.of_get l r)⟩
  |_=>simp[qQ]at e
 |m q=>
  obtain⟨o,h1,h2⟩:=w.al q;simp only[qQ,h1]at e;cases o with
  |lst us=>simp at e;subst e;obtain⟨vs,h3,h4⟩:=h2;exact⟨_,_,rfl,h3,h4⟩
  |_=>simp at e
 |x h=>simp[qQ]at e
theorem zu(w:Wd A ι H M)(r:RepU A ι H v u)(e:vC M u=some us):∃p vs,v=.ref p/\H p=some (.tup vs)/\RepUs A ι H vs us:=by
 cases r with
 |p r=>
  cases r with
  |tup na e1 l r=>simp[vC]at e;subst e;exact⟨_,_,rfl,e1,RepTs.ups (Paired.of_get l r)⟩
  |_=>simp[vC]at e
 |m q=>
  obtain⟨o,h1,h2⟩:=w.al q;simp only[vC,h1]at e;cases o with
  |tup us=>simp at e;subst e;obtain⟨vs,h3,h4⟩:=h2;exact⟨_,_,rfl,h3,h4⟩
  |_=>simp at e
 |x h=>simp[vC]at e
theorem JN(r:RepUs A ι H vs us)(e:atI us i=some z):∃x,atI vs i=some x/\RepU A ι H x z:=by
 unfold atI at e ⊢;rw[r.len];cases q:ixN us.length i with
 |none=>rw[q]at e;cases e
 |some j=>
  rw[q]at e;exact Paired.getR r e
def uIx(it:MM->U->Option (List U))(ua ub:UE):UE:=λρ M Q=>ua ρ M λx M1=>ub ρ M1 λy M2=>∃us i z,it M2 x=some us/\y=.p (.int i)/\atI us i=some z/\Q z M2
def CbL(r:List V->Hp->VK->Prop)(s:List T->(T->Prop)->Prop):Prop:=∀(A:Addr->Prop)(ι:List Addr)(H:Hp)(M:MM)(vs:List V)(ts:List T)(Qs:T->Prop)(Q:VK),Wd A ι H M->Paired (RepV (Av A ι) H) vs ts->s ts Qs ->
 (∀t ag v H',Le ι H ag H'->Wd A ag H' M->RepT (Av A ag) H' v t->Qs t->Q v H')->r vs H Q
def uCb(s:List T->(T->Prop)->Prop)(ul:UA):UE:=λρ M Q=>ul ρ M λus M1=>∃ts,sns M1 us=some ts/\s ts λt=>Q (.p t) M1
theorem pv1(r:Paired (RepV A H) vs [t]):∃v,vs=[v]/\RepV A H v t:=by
 cases r with
 |cons r q=>cases q;exact⟨_,rfl,r⟩
theorem pv2(r:Paired (RepV A H) vs [t,s]):∃v z,vs=[v,z]/\RepV A H v t/\RepV A H z s:=by
 cases r with
 |cons r q=>
  obtain⟨v,rfl,r2⟩:=pv1 q;exact⟨_,_,rfl,r,r2⟩
def sAbs:List T->(T->Prop)->Prop:=λts Q=>∃i,ts=[.int i]/\Q (.int (if i<0 then -i else i))
theorem qaQ:CbL (λxs H Q=>∃i,xs=[.int i]/\Q (.int (if i<0 then -i else i)) H) sAbs:=λA ι H M vs ts Qs Q w r ⟨i,e,q⟩ k=>by
 subst e;obtain⟨v,ev,r1⟩:=pv1 r;subst ev;cases r1.int_inv;exact⟨i,rfl,k _ ι _ H (.refl _ _) w (.int _) q⟩
def sMin:List T->(T->Prop)->Prop:=λts Q=>∃i j,ts=[.int i,.int j]/\Q (.int (if j<i then j else i))
theorem q4F:CbL (λxs H Q=>∃i j,xs=[.int i,.int j]/\Q (.int (if j<i then j else i)) H) sMin:=λA ι H M vs ts Qs Q w r ⟨i,j,e,q⟩ k=>by
 subst e;obtain⟨v,z,ev,r1,r2⟩:=pv2 r;subst ev;cases r1.int_inv;cases r2.int_inv;exact⟨i,j,rfl,k _ ι _ H (.refl _ _) w (.int _) q⟩
def sMax:List T->(T->Prop)->Prop:=λts Q=>∃i j,ts=[.int i,.int j]/\Q (.int (if j>i then j else i))
def sInt:List T->(T->Prop)->Prop:=λts Q=>(∃i,ts=[.int i]/\Q (.int i))\/∃k,ts=[.bl k]/\Q (.int (if k then 1 else 0))
theorem q4T:CbL (λxs H Q=>(∃i,xs=[.int i]/\Q (.int i) H)\/∃k,xs=[.bl k]/\Q (.int (if k then 1 else 0)) H) sInt:=λA ι H M vs ts Qs Q w r h k=>by
 rcases h with⟨i,e,q⟩|⟨b,e,q⟩
 ·subst e
  obtain⟨v,ev,r1⟩:=pv1 r;subst ev;cases r1.int_inv;exact .inl ⟨i,rfl,k _ ι _ H (.refl _ _) w (.int _) q⟩
 ·subst e
  obtain⟨v,ev,r1⟩:=pv1 r;subst ev;cases r1.bl_inv;exact .inr ⟨b,rfl,k _ ι _ H (.refl _ _) w (.int _) q⟩
def bls:List T->Option (List Bool)
 | []=>some []
 |.bl b::r=>(bls r).map (b :: ·)
 |_=>none
@[simp] theorem bls_map:∀bs:List Bool,bls (bs.map T.bl)=some bs
 | []=>rfl
 |b::r=>by simp[bls,bls_map r]
def k9:List T->(T->Prop)->Prop:=λts Q=>∃a xs,ts=[a]/\seqT a=some xs/\Q (.lst xs)
theorem q1v:CbL (λxs H Q=>∃p ys,xs=[.ref p]/\(SqL Ξ H p ys\/SqT Ξ H p ys)/\∀l,H l=none->Q (.ref l) (upd H l (.lst ys))) k9:=λA ι H M vs ts Qs Q w r ⟨a,xs,e,ea,q⟩ k=>by
 subst e;obtain⟨v,ev,r1⟩:=pv1 r;subst ev;cases a<;>simp[seqT]at ea
 ·subst ea
  obtain⟨p,zs,rfl,h1,h2⟩:=r1.tup_inv;exact⟨p,zs,rfl,.inr (SqT.of h1),λl hl=>k _ ι _ _ (.fresh hl) (w.fresh hl) (zw w hl h2) q⟩
 ·subst ea
  obtain⟨p,zs,rfl,h1,h2⟩:=r1.lst_inv;exact⟨p,zs,rfl,.inl (SqL.of h1),λl hl=>k _ ι _ _ (.fresh hl) (w.fresh hl) (zw w hl h2) q⟩
def uLen(it:MM->U->Option (List U))(ul:UA):UE:=λρ M Q=>ul ρ M λus M1=>∃x ys,us=[x]/\it M1 x=some ys/\Q (.p (.int ys.length)) M1
def q8I(ua:UE):UE:=λρ M Q=>ua ρ M λx M1=>∃i,x=.p (.int i)/\Q (.p (.int (Builtin.Int.intBits i))) M1
def cutT(xs:List T)(lo hi:Option Int):List T:=(xs.drop (HT.sIx xs.length 0 lo)).take (HT.sIx xs.length xs.length hi-HT.sIx xs.length 0 lo)
theorem JK{lo hi:Option Int}(r:RepTs A H vs ts):RepTs A H (cutV vs lo hi) (cutT ts lo hi):=by
 unfold cutV cutT;rw[r.len];exact(r.dr _).tk _
abbrev UO:=UEnv->MM->(Option Int->MM->Prop)->Prop
def LO(to:TO)(uo:UO):Prop:=∀(A:Addr->Prop)(ι:List Addr)(Z:St)(H:Hp)(ρ:UEnv)(M:MM)(Qu:Option Int->MM->Prop)(Q:Option Int->Hp->Prop),Wd A ι H M->EnvR A ι H Z ρ->uo ρ M Qu ->
 (∀b M' ag H',Le ι H ag H'->Wd A ag H' M'->Qu b M'->Q b H')->to Z H Q
def XM:UO:=λ_ M Q=>Q none M
def q8W(ua:UE):UO:=λρ M Q=>ua ρ M λx M1=>∃i,x=.p (.int i)/\Q (some i) M1
theorem q61:LO zZ XM:=λA ι Z H ρ M Qu Q w e q k=>k _ M ι H (.refl _ _) w q
def uSl(ua:UE)(ul uh:UO):UE:=λρ M Q=>ua ρ M λx M1=>ul ρ M1 λl M2=>uh ρ M2 λh M3=>∃ts,sn M3 x=some (.lst ts)/\Q (.p (.lst (cutT ts l h))) M3
end
section
variable {te ta tb:TE}{ue ua ub:UE}{tt:TT}{ut:UT}{tl:TA}{ul:UA}{n:Nat}{A A' A2:Addr->Prop}{H H' H1 H2:Hp}{ι ag a6 ac:List Addr}{M M':MM}{v:V}{u:U}{t:T}{Z:St}{ρ:UEnv}{Ξ:PySem.W.Frag}
structure Lea(A:Addr->Prop)(ι:List Addr)(H:Hp)(A':Addr->Prop)(ag:List Addr)(H':Hp):Prop where
 ext:∃n,ag=ι++n
 av:∀x o,¬Av A ι x->H x=some o->H' x=some o/\¬Av A' ag x
 xd:∀x fs,x∉ι->H x=some (.xd fs)->x∉ag/\H' x=some (.xd fs)
theorem Le.xd(l:Le ι H ag H'):∀x fs,x∉ι->H x=some (.xd fs)->x∉ag/\H' x=some (.xd fs):=λx fs hx e=>by
 obtain⟨m,rfl,hm⟩:=l.ext;refine⟨λz=>?_,l.fr x _ e hx⟩;rcases Dl.mp z with z|z
 ·exact hx z
 ·rw[hm x z]at e;cases e
theorem Le.lea(l:Le ι H ag H'):Lea A ι H A ag H':=⟨let⟨n,e,_⟩:=l.ext;⟨n,e⟩,λ_ _ h e=>l.av h e,l.xd⟩
theorem Lea.trans(a:Lea A ι H A' ag H')(b:Lea A' ag H' A2 ac H2):Lea A ι H A2 ac H2:=by
 obtain⟨n,rfl⟩:=a.ext;obtain⟨m,rfl⟩:=b.ext;exact⟨⟨n++m,by rw[DF]⟩,λx o h e=>b.av x o (a.av x o h e).2 (a.av x o h e).1,λx fs h e=>b.xd x fs (a.xd x fs h e).1 (a.xd x fs h e).2⟩
theorem RepU.lea(l:Lea A ι H A' ag H')(r:RepU A ι H v u):RepU A' ag H' v u:=by
 cases r with
 |p r=>exact .p (r.mono l.av)
 |m e=>
  obtain⟨n,rfl⟩:=l.ext;exact .m (by rw[Df (Db.mp e).1];exact e)
 | @x a d q h=>
  refine .x ?_;cases q with
  |none=>exact h
  |some n=>
   obtain⟨x0,e,ni,hx⟩:=h;have:=l.xd x0 _ ni hx;exact⟨x0,e,this.1,this.2⟩
theorem EnvR.lea(l:Lea A ι H A' ag H')(r:EnvR A ι H Z ρ):EnvR A' ag H' Z ρ:=Paired.mapP r λ_ _ q u e=>by
 obtain⟨v,h1,h2⟩:=q u e;exact⟨v,h1,h2.lea l⟩
structure UIt where
 n:Nat
 ok:MM->Prop
 item:Nat->U->Prop
def ItR(A:Addr->Prop)(a6:List Addr)(H1:Hp)(J:It)(it:UIt):Prop:=∀(A':Addr->Prop)(ι:List Addr)(H:Hp)(M:MM)(i:Nat),Lea A a6 H1 A' ι H->Wd A' ι H M->it.ok M ->
 (i<it.n->J.go i H/\∀x H',J.yld i H x H'->∃u,it.item i u/\Le ι H ι H'/\Wd A' ι H' M/\RepU A' ι H' x u)/\(i=it.n->J.stop i H)
abbrev UI:=UEnv->MM->(UIt->MM->Prop)->Prop
def LI(wi:TI)(ui:UI):Prop:=∀(A:Addr->Prop)(ι:List Addr)(Z:St)(H:Hp)(ρ:UEnv)(M:MM)(Qu:UIt->MM->Prop)(R:It->Hp->Prop),Wd A ι H M->EnvR A ι H Z ρ->ui ρ M Qu ->
 (∀it M' ag J H',Le ι H ag H'->Wd A ag H' M'->ItR A ag H' J it->Qu it M'->R J H')->wi Z H R
def q7z(ua:UE):UI:=λρ M Q=>ua ρ M λx M1=>∃us,qQ M1 x=some us/\Q ⟨us.length,λM=>qQ M x=some us,λi z=>us[i]?=some z⟩ M1
def uRev(ul:UA):UI:=λρ M Q=>ul ρ M λxs M1=>∃x us,xs=[x]/\qQ M1 x=some us/\Q ⟨us.length,λM=>qQ M x=some us,λi z=>us[us.length-1-i]?=some z⟩ M1
def q8N(ul:UA):UI:=λρ M Q=>ul ρ M λxs M1=>∃j:Int,xs=[.p (.int j)] /\ -(2^62)<=j/\j<2^62/\Q ⟨j.toNat,λ_=>True,λi z=>z=.p (.int i)⟩ M1
theorem q72{lo:Int}:ItR A ι H (Itr lo n) ⟨n,λ_=>True,λi z=>z=.p (.int (lo+i))⟩:=λA' ac H2 M2 i l w2 _=>
 ⟨λhi=>⟨hi,λx H' y=>by
  obtain⟨rfl,rfl⟩:=y;exact⟨_,rfl,.refl _ _,w2,.p (.int _)⟩⟩,λhi=>RW hi.symm⟩
abbrev UG:=U->UEnv->MM->(UEnv->MM->Prop)->Prop
def LG(g:TG)(ug:UG):Prop:=∀(A:Addr->Prop)(ι:List Addr)(Z:St)(H:Hp)(ρ:UEnv)(M:MM)(v:V)(u:U)(Qu:UEnv->MM->Prop)(Q:St->Hp->Prop),Wd A ι H M->EnvR A ι H Z ρ->RepU A ι H v u->ug u ρ M Qu ->
 (∀b8 M' ag aj H',Le ι H ag H'->Wd A ag H' M'->EnvR A ag H' aj b8->Qu b8 M'->Q aj H')->g v Z H Q
def KM(i:Nat):UG:=λu ρ M Q=>Q (ρ.set i (some u)) M
def YF(i j:Nat):UG:=λu ρ M Q=>∃a b,vC M u=some [a,b]/\Q ((ρ.set i (some a)).set j (some b)) M
def Zu(i j k:Nat):UG:=λu ρ M Q=>∃a b c,vC M u=some [a,b,c]/\Q (((ρ.set i (some a)).set j (some b)).set k (some c)) M
theorem rep2(r:RepUs A ι H vs [a,b]):∃x y,vs=[x,y]/\RepU A ι H x a/\RepU A ι H y b:=by
 cases r with
 |cons r q=>cases q with|cons r2 q=>cases q;exact⟨_,_,rfl,r,r2⟩
theorem rep3(r:RepUs A ι H vs [a,b,c]):∃x y z,vs=[x,y,z]/\RepU A ι H x a/\RepU A ι H y b/\RepU A ι H z c:=by
 cases r with
 |cons r q=>
  obtain⟨y,z,rfl,r2,r3⟩:=rep2 q;exact⟨_,_,_,rfl,r,r2,r3⟩
def uSub(uo ui:UE):UG:=λu ρ M Q=>uo ρ M λo M1=>ui ρ M1 λi M2=>∃k us z j,o=.m k/\M2[k]?=some (.lst us)/\i=.p (.int z)/\ixN us.length z=some j/\Q ρ (M2.set k (.lst (us.set j u)))
def xK(bs:List Bool)(n i:Nat):Bool:=match bs[i]? with
 |some b=> !b
 |none=>decide (i<bs.length+n)
theorem jn(hl:Z.length=bs.length)(h:xK bs n i=true):(zg bs n Z)[i]?=some none:=by
 unfold xK at h;unfold zg;have hz:((bs.zip Z).map (λp=>if p.1 then p.2 else none)).length=bs.length:=by simp[hl]
 cases e:bs[i]? with
 |some b=>
  rw[e]at h;have hi:=(Db.mp e).1;rw[Df (by rw[hz];exact hi),Dv];have hb:b=false:=by simpa using h
  have e2:(bs.zip Z)[i]?=some (b,Z[i]'(by lia)):=by
   rw[Dc (by simp[hl];exact hi)];simp;exact(Db.mp e).2
  rw[e2,hb];rfl
 |none=>
  rw[e]at h;have hi:=RE.mp e;simp at h;rw[Dk (by rw[hz];exact hi),hz,RJ];rw[Uj (by lia)]
def LGx(bs:List Bool)(n:Nat)(g:TG)(ug:UG):Prop:=∀(A:Addr->Prop)(ι:List Addr)(Z:St)(H:Hp)(ρ:UEnv)(M:MM)(v:V)(u:U)(Qu:UEnv->MM->Prop)(Q:St->Hp->Prop),Z.length=bs.length->Wd A ι H M->EnvR A ι H (zg bs n Z) ρ->RepU A ι H v u->ug u ρ M Qu ->
 (∀b8 aj,EnvR A ι H aj b8->ExtS (zg bs n Z) aj->aj.length=(zg bs n Z).length->Qu b8 M->Q aj H)->g v (zg bs n Z) H Q
theorem q6f:LT tYes (λ_ M Q=>Q true M):=λA ι Z H ρ M Qu Q w e q k=>k true M ι H (.refl _ _) w q
abbrev uYes:UT:=λ_ M Q=>Q true M
def UComp(it:UIt)(ug:UG)(ut:UT)(ue:UE)(ef:UEnv)(M1:MM)(Q:UK):Prop:=it.n<=sizeLine/\∃Iv:Nat->List T->MM->Prop,Iv 0 [] M1 /\
 (∀i a8 M2,i<it.n->a8.length<=i->Iv i a8 M2->it.ok M2/\∀u,it.item i u->ug u ef M2 λc6 M4=>ut c6 M4 λb M5=>if b=true then ue c6 M5 λz M6=>∃t,z=.p t/\Iv (i+1) (a8++[t]) M6 else Iv (i+1) a8 M5) /\
 (∀a8 M2,Iv it.n a8 M2->it.ok M2/\Q (.p (.lst a8)) M2)
def q80(ui:UI)(bs:List Bool)(n:Nat)(ug:UG)(ut:UT)(ue:UE):UE:=λρ M Q=>ui ρ M λit M1=>ρ.length=bs.length/\UComp it ug ut ue (Ye bs n ρ) M1 Q
theorem Wd.addA(w:Wd A ι H M)(h:H p=none):Wd (λx=>A x\/x=p) ι (upd H p o) M:=by
 have w2:=w.fresh (o:=o) h;have hm:∀x o',¬Av A ι x->(upd H p o) x=some o'->H x≠none->(upd H p o) x=some o'/\¬Av (λx=>A x\/x=p) ι x:=λx o' hx e hs=>⟨e,λz=>by
  rcases z with(z|z)|z
  ·exact hx (.inl z)
  ·subst z;exact hs h
  ·exact hx (.inr z)⟩
 have hl:Lea A ι H (λx=>A x\/x=p) ι (upd H p o):=⟨⟨[],by simp⟩,λx o' hx e=>hm x o' hx (zY h e) (by rw[e];simp),λx fs hx e=>⟨hx,zY h e⟩⟩;refine⟨w.nd,w.len,λx hx=>?_,λx hx z=>?_,λk a ob e1 e2=>?_⟩
 ·rcases hx with hx|hx
  ·exact w2.dom x hx
  ·rw[hx,upd_same];simp
 ·rcases z with z|z
  ·exact w.na x hx z
  ·exact w.nin h (by rw[<-z];exact hx)
 ·have r:=w.obj k a ob e1 e2
  have ea:upd H p o a=H a:=upd_ne λz=>by
   obtain⟨q,hq⟩:=r.some;rw[z,h]at hq;cases hq
  cases ob with
  |lst=>obtain⟨vs,e,r⟩:=r;exact⟨vs,by rw[ea];exact e,Paired.mapP r λ_ _ q=>q.lea hl⟩
  |tup=>obtain⟨vs,e,r⟩:=r;exact⟨vs,by rw[ea];exact e,Paired.mapP r λ_ _ q=>q.lea hl⟩
  |ins=>
   obtain⟨dx,gs,e,ed,nd,r⟩:=r;exact⟨dx,gs,by rw[ea];exact e,zY h ed,nd,Paired.mapP r λ_ _ q=>⟨q.1,q.2.lea hl⟩⟩
  |dK=>obtain⟨gs,e,r⟩:=r;exact⟨gs,by rw[ea];exact e,Paired.mapP r λ_ _ q=>⟨q.1,q.2.lea hl⟩⟩
  |dF=>obtain⟨e,r⟩:=r;exact⟨by rw[ea];exact e,Paired.mapP r λ_ _ q=>⟨q.1,q.2.lea hl⟩⟩
  |tab=>obtain⟨ps,e,t,z⟩:=r;exact⟨ps,by rw[ea];exact e,t,z.imp id λ⟨c,h1,h2,h3⟩=>⟨c,h1,zY h h2,h3⟩⟩
theorem Wd.lessA(w:Wd A' ι H M)(h:∀x,A x->A' x):Wd A ι H M:=by
 have hl:Lea A' ι H A ι H:=⟨⟨[],by simp⟩,λx o hx e=>⟨e,λz=>hx (z.elim (λz=>.inl (h x z)) .inr)⟩,λx fs hx e=>⟨hx,e⟩⟩;refine⟨w.nd,w.len,λx hx=>w.dom x (h x hx),λx hx z=>w.na x hx (h x z),λk a ob e1 e2=>?_⟩;have r:=w.obj k a ob e1 e2;cases ob with
 |lst=>obtain⟨vs,e,r⟩:=r;exact⟨vs,e,Paired.mapP r λ_ _ q=>q.lea hl⟩
 |tup=>obtain⟨vs,e,r⟩:=r;exact⟨vs,e,Paired.mapP r λ_ _ q=>q.lea hl⟩
 |ins=>obtain⟨dx,gs,e,ed,nd,r⟩:=r;exact⟨dx,gs,e,ed,nd,Paired.mapP r λ_ _ q=>⟨q.1,q.2.lea hl⟩⟩
 |dK=>obtain⟨gs,e,r⟩:=r;exact⟨gs,e,Paired.mapP r λ_ _ q=>⟨q.1,q.2.lea hl⟩⟩
 |dF=>obtain⟨e,r⟩:=r;exact⟨e,Paired.mapP r λ_ _ q=>⟨q.1,q.2.lea hl⟩⟩
 |tab=>exact r
theorem Wd.updA(w:Wd A ι H M)(ha:A p)(hp:H p=some (.lst ys)):Lea A ι H A ι (upd H p o)/\Wd A ι (upd H p o) M:=by
 have hl:Lea A ι H A ι (upd H p o):=⟨⟨[],by simp⟩,λx o' hx e=>⟨by rw[upd_ne λz=>hx (.inl (by rw[z];exact ha))];exact e,hx⟩,λx fs hx e=>⟨hx,by rw[upd_ne λz=>by rw[z,hp]at e;cases e];exact e⟩⟩;refine⟨hl,w.nd,w.len,λx hx=>?_,w.na,λk a ob e1 e2=>?_⟩
 ·by_cases z:x=p
  ·rw[z,upd_same];simp
  ·rw[upd_ne z];exact w.dom x hx
 ·have r:=w.obj k a ob e1 e2
  have ea:upd H p o a=H a:=upd_ne λz=>w.na a (De e1) (by rw[z];exact ha);cases ob with
  |lst=>obtain⟨vs,e,r⟩:=r;exact⟨vs,by rw[ea];exact e,Paired.mapP r λ_ _ q=>q.lea hl⟩
  |tup=>obtain⟨vs,e,r⟩:=r;exact⟨vs,by rw[ea];exact e,Paired.mapP r λ_ _ q=>q.lea hl⟩
  |ins=>
   obtain⟨dx,gs,e,ed,nd,r⟩:=r;exact⟨dx,gs,by rw[ea];exact e,by rw[upd_ne λz=>by rw[z,hp]at ed;cases ed];exact ed,nd,Paired.mapP r λ_ _ q=>⟨q.1,q.2.lea hl⟩⟩
  |dK=>obtain⟨gs,e,r⟩:=r;exact⟨gs,by rw[ea];exact e,Paired.mapP r λ_ _ q=>⟨q.1,q.2.lea hl⟩⟩
  |dF=>obtain⟨e,r⟩:=r;exact⟨by rw[ea];exact e,Paired.mapP r λ_ _ q=>⟨q.1,q.2.lea hl⟩⟩
  |tab=>obtain⟨ps,e,t,z⟩:=r;exact⟨ps,by rw[ea];exact e,t,z.imp id λ⟨c,h1,h2,h3⟩=>⟨c,h1,by rw[upd_ne λz=>by rw[z,hp]at h2;cases h2];exact h2,h3⟩⟩
theorem Le.updF(l:Le ι H ag H')(h:H p=none):Le ι H ag (upd H' p o):=⟨l.ext,λx o' e n=>by rw[upd_ne (qN e h)];exact l.fr x o' e n,λx e=>by
 by_cases z:x=p
 ·rw[z,upd_same];simp
 ·rw[upd_ne z];exact l.al x e⟩
end
section
variable {ta:TE}{ua ub uc:UE}{tt:TT}{ut:UT}{tl:TA}{ul:UA}{n:Nat}{A:Addr->Prop}{H H' H1 H2:Hp}{ι ag a6 ac:List Addr}{M M':MM}{v:V}{u:U}{t:T}{Z:St}{ρ:UEnv}
structure q07 where
 nx:UEnv->MM->Prop
 rt:UK
 bk:UEnv->MM->Prop:=λ_ _=>False
 ct:UEnv->MM->Prop:=λ_ _=>False
abbrev US:=q07->UEnv->MM->Prop
structure EndsR(A:Addr->Prop)(gx:List Addr)(H0:Hp)(E:q07)(D:Ends):Prop where
 nx:∀ι Z H ρ M,Le gx H0 ι H->Wd A ι H M->EnvR A ι H Z ρ->E.nx ρ M->D.nx Z H
 rt:∀ι v H u M,Le gx H0 ι H->Wd A ι H M->RepU A ι H v u->E.rt u M->D.rt v H
 bk:∀ι Z H ρ M,Le gx H0 ι H->Wd A ι H M->EnvR A ι H Z ρ->E.bk ρ M->D.bk Z H
 ct:∀ι Z H ρ M,Le gx H0 ι H->Wd A ι H M->EnvR A ι H Z ρ->E.ct ρ M->D.ct Z H
theorem EndsR.le(l:Le ι H ag H')(r:EndsR A ι H E D):EndsR A ag H' E D :=
 ⟨λ_ _ _ _ _ h=>r.nx _ _ _ _ _ (l.trans h),λ_ _ _ _ _ h=>r.rt _ _ _ _ _ (l.trans h),λ_ _ _ _ _ h=>r.bk _ _ _ _ _ (l.trans h),λ_ _ _ _ _ h=>r.ct _ _ _ _ _ (l.trans h)⟩
def LS(ts:TS)(us:US):Prop:=∀(A:Addr->Prop)(ι:List Addr)(Z:St)(H:Hp)(ρ:UEnv)(M:MM)(D:Ends)(E:q07),Wd A ι H M->EnvR A ι H Z ρ->EndsR A ι H E D->us E ρ M->ts D Z H
def YE:US:=λE ρ M=>E.nx ρ M
def uSeq(a b:US):US:=λE ρ M=>a { E with nx:=b E } ρ M
def q6h(ua:UE):US:=λE ρ M=>ua ρ M λ_ M1=>E.nx ρ M1
def uRet(ua:UE):US:=λE ρ M=>ua ρ M E.rt
def q3t:US:=λE ρ M=>E.rt (.p .non) M
def uIfS(c:UT)(a b:US):US:=λE ρ M=>c ρ M λk M1=>if k=true then a E ρ M1 else b E ρ M1
def uAsg(ua:UE)(g:UG):US:=λE ρ M=>ua ρ M λx M1=>g x ρ M1 E.nx
def uAug(i:Nat)(f:Int->Int->Int)(ua:UE):US:=λE ρ M=>∃a,ρ[i]?=some (some (.p (.int a)))/\ua ρ M λy M1=>∃b,y=.p (.int b)/\E.nx (ρ.set i (some (.p (.int (f a b))))) M1
theorem q4x:LS Vv YE:=λA ι Z H ρ M D E w e r q=>r.nx ι Z H ρ M (.refl _ _) w e q
theorem q4h:LS Zx q3t:=λA ι Z H ρ M D E w e r q=>r.rt ι .non H _ M (.refl _ _) w (.p .non) q
def UFor(it:UIt)(ug:UG)(ub:US)(E:q07)(ρ:UEnv)(M1:MM):Prop:=∃Iv:Nat->UEnv->MM->Prop,Iv 0 ρ M1 /\
 (∀i aE M2,i<it.n->Iv i aE M2->it.ok M2/\∀u,it.item i u->ug u aE M2 λeZ M3=>ub { E with nx:=Iv (i+1),ct:=Iv (i+1),bk:=E.nx } eZ M3) /\
 (∀aE M2,Iv it.n aE M2->it.ok M2/\E.nx aE M2)
def uFor(ui:UI)(ug:UG)(ub:US):US:=λE ρ M=>ui ρ M λit M1=>UFor it ug ub E ρ M1
def q6O(uc:UT)(ub:US):US:=λE ρ M=>∃W:Nat->UEnv->MM->Prop,(∃m,W m ρ M)/\∀m ρ M,W m ρ M ->
 uc ρ M λb M1=>if b=true then ∃N:UEnv->MM->Prop,(∀b8 M',N b8 M'->∃m',m'<m/\W m' b8 M')/\ub { E with nx:=N,ct:=N,bk:=E.nx } ρ M1 else E.nx ρ M1
def MeL(r:V->List V->Hp->VK->Prop)(s:List U->List U->(U->List U->Prop)->Prop):Prop:=∀(A:Addr->Prop)(ι:List Addr)(H:Hp)(M:MM)(k:Nat)(a:Addr)(xs ys:List V)(us ws:List U)(Qs:U->List U->Prop)(Q:VK),Wd A ι H M->ι[k]?=some a->H a=some (.lst xs)->M[k]?=some (.lst us)->RepUs A ι H xs us->RepUs A ι H ys ws->s us ws Qs ->
 (∀z cB v gy,RepUs A ι H gy cB->RepU A ι H v z->Qs z cB->Q v (upd H a (.lst gy)))->r (.ref a) ys H Q
def uMe(s:List U->List U->(U->List U->Prop)->Prop)(uo:UE)(ul:UA):UE:=λρ M Q=>uo ρ M λo M1=>∃k,o=.m k/\(∃zs,M1[k]?=some (.lst zs))/\ul ρ M1 λws M2=>∃us,M2[k]?=some (.lst us)/\s us ws λz cB=>Q z (M2.set k (.lst cB))
def Wf:List U->List U->(U->List U->Prop)->Prop:=λus ws Q=>∃y,ws=[y]/\us.length<sizeLine/\Q (.p .non) (us++[y])
theorem Yd:MeL Wt Wf:=λA ι H M k a xs ys us ws Qs Q w ek h1 h2 rx ry ⟨y,ey,hz,q⟩ kk=>by
 subst ey;cases ry with
 |cons r q'=>
 cases q';exact⟨a,xs,_,rfl,rfl,h1,by rw[rx.len];exact hz,kk _ _ _ _ (rx.app (.cons r .nil)) (.p .non) q⟩
def spU(G:List U->MM->UK->Prop):Sp:=λvs H Q _=>∃A ι M us Qu,Wd A ι H M/\RepUs A ι H vs us/\G us M Qu/\∀u M' ag v H',Le ι H ag H'->Wd A ag H' M'->RepU A ag H' v u->Qu u M'->Q v H'
def q8j(G:List U->MM->UK->Prop)(ul:UA):UE:=λρ M Q=>ul ρ M λus M1=>G us M1 Q
def spP(G:List T->(T->Prop)->Prop):Sp:=λvs H Q _=>∃A ts Qt,(∀x,A x->H x≠none)/\RepTs A H vs ts/\G ts Qt/\∀t v H',Same H H'->RepT A H' v t->Qt t->Q v H'
def YJ(G:List T->(T->Prop)->Prop)(ul:UA):UE:=λρ M Q=>ul ρ M λus M1=>∃ts,vV us=some ts/\G ts λt=>Q (.p t) M1
def q6y(G:List T->(T->Prop)->Prop)(ul:UA):UE:=λρ M Q=>ul ρ M λus M1=>∃ts,sns M1 us=some ts/\G ts λt=>(∃x,vt t=some x)/\Q (.p t) M1
theorem Same.le(s:Same H H'):Le ι H ι H':=⟨⟨[],by simp,by simp⟩,λx o e _=>s x o e,λx e=>by
 cases q:H x with
 |none=>exact absurd q e
 |some o=>rw[s x o q];simp⟩
theorem Wd.same(w:Wd A ι H M)(s:Same H H'):Wd A ι H' M :=
 ⟨w.nd,w.len,λx hx=>(Same.le (ι:=ι) s).al x (w.dom x hx),w.na,λk a ob e1 e2=>(w.obj k a ob e1 e2).le' s.le (by
  obtain⟨o,ho⟩:=(w.obj k a ob e1 e2).some;rw[ho,s _ _ ho]) λx ex=>by rw[ex,s _ _ ex]⟩
theorem Wd.domAv(w:Wd A ι H M):∀x,Av A ι x->H x≠none:=λx h=>by
 rcases h with h|h
 ·exact w.dom x h
 ·obtain⟨o,ho⟩:=w.mem_some h
  rw[ho];simp
def frzs(f:U->Option T):List U->Option (List T)
 | []=>some []
 |u::r=>match f u,frzs f r with
  |some t,some ts=>some (t::ts)
  |_,_=>none
def frzN:Nat->MM->U->Option T
 |_,_,.p t=>some t
 |0,_,.m _=>none
 |_,_,.x _ _ _=>none
 |n+1,M,.m k=>match M[k]? with
  |some (.lst us)=>(frzs (frzN n M) us).map T.lst
  |some (.tup us)=>(frzs (frzN n M) us).map T.tup
  |_=>none
set_option tactic.hygienic true in
theorem kz(r:RepUs A ι H vs us)(h:∀v u t,RepU A ι H v u->f u=some t->RepT A H v t)(e:frzs f us=some ts):RepTs A H vs ts:=by
 induction r generalizing ts with
 |nil=>simp[frzs]at e;subst e;exact .nil
 |cons r q ih=>
  simp only[frzs]at e;split at e
  ·rename_i h1 h2
   simp at e;subst e;exact .cons (h _ _ _ r h1) (ih h2)
  ·cases e
theorem Qx(w:Wd A ι H M):∀{n:Nat}{v:V}{u:U}{t:T},RepU A ι H v u->frzN n M u=some t->RepT A H v t
 |n,v,.p t',t,.p r,e=>by
  cases n<;>simp[frzN]at e<;>subst e<;>exact r.mono λx o hx ex=>⟨ex,λz=>hx (.inl z)⟩
 |0,v,.m k,t,r,e=>by simp[frzN]at e
 |n,v,.x a d q,t,r,e=>by cases n<;>simp[frzN]at e
 |n+1,v,.m k,t,r,e=>by
  cases r with
  |m q=>
  obtain⟨o,h1,h2⟩:=w.al q;have i5:=w.na _ (De q);simp only[frzN,h1]at e;cases o with
  |lst us=>
   simp at e;obtain⟨ts,e1,rfl⟩:=e;obtain⟨vs,h3,h4⟩:=h2;exact .lstP i5 h3 (kz h4 (λv u t r e=>Qx w r e) e1)
  |tup us=>
   simp at e;obtain⟨ts,e1,rfl⟩:=e;obtain⟨vs,h3,h4⟩:=h2;exact .tupP i5 h3 (kz h4 (λv u t r e=>Qx w r e) e1)
  |ins=>simp at e
  |dK=>simp at e
  |dF=>simp at e
  |tab=>simp at e
theorem Zb(h:∀t,f (.p t)=some t):∀ts:List T,frzs f (ts.map U.p)=some ts
 | []=>rfl
 |t::r=>by simp[frzs,h t,Zb h r]
@[simp] theorem Xm:frzN n M (.p t)=some t:=by cases n<;>rfl
def zO(N:List Str)(us:List U):UEnv:=us.map some++List.replicate (N.length-us.length) none
theorem jh(r:RepUs A ι H vs us):EnvR A ι H (start N vs) (zO N us):=by
 unfold start zO;refine Paired.app ?_ ?_
 ·exact Paired.mapR (f:=some) (F:=λs u=>∃v,s=some v/\RepU A ι H v u) (λa b q u e=>by cases e;exact q) (by
   induction r with
   |nil=>exact .nil
   |cons r q ih=>exact .cons ⟨_,rfl,r⟩ ih)
 ·rw[r.len]
  generalize N.length-us.length=m
  induction m with
  |zero=>exact .nil
  |succ m ih=>exact .cons (λu e=>by cases e) ih
end
section
variable {P:Program}{w:World}{Ξ:PySem.W.Frag}{mg:Str->Option Value}{base:Heap}
theorem Fun.okU{st:Stmt}(F:Fun Ξ x af st f fd)(S:q00 N ps (qc st))(len:∀us M Qu,G us M Qu->us.length=ps.length)(aA:∀(a9:Value)(A:Around)(outer:List Env)(s:Shared)(H:Hp)(E:XK),Room k (A.deeper (envOfC af (qc st) s.heap.objs.size f a9)) ->
   ∃t,PSs (cxOf CX0 P w Ξ mg base N af (qc st) f a9 A outer s H E).nox (va st) t/\∃u,LS t u/\∀us M Qu,G us M Qu->u { nx:=λ_ M'=>Qu (.p .non) M',rt:=Qu } (zO N us) M):FnOk P w Ξ mg base CX0 (k+1) f fd ps (spU G):=by
 refine F.ok S (λvs H Q E h=>?_) (λa9 A outer s H vs Q E hr h=>?_)
 ·obtain⟨A,ι,M,us,Qu,w1,r,g,_⟩:=h
  rw[r.len];exact len us M Qu g
 ·obtain⟨B,ι,M,us,Qu,w1,r,g,kk⟩:=h
  obtain⟨t,ht,u,hu,hb⟩:=aA a9 A outer s H E hr;refine⟨t,ht,hu B ι _ H _ M _ { nx:=λ_ M'=>Qu (.p .non) M',rt:=Qu } w1 (jh r) ⟨λa6 cx H1 dL M1 l1 w1 e1 q1=>kk _ M1 a6 _ H1 l1 w1 (.p .non) q1,λa6 v H1 z M1 l1 w1 r1 q1=>kk z M1 a6 v H1 l1 w1 r1 q1,λ_ _ _ _ _ _ _ _ q=>q.elim,λ_ _ _ _ _ _ _ _ q=>q.elim⟩ (hb us M Qu g)⟩
theorem Fun.okP{st:Stmt}(F:Fun Ξ x af st f fd)(S:q00 N ps (qc st))(len:∀ts Qt,G ts Qt->ts.length=ps.length)(aA:∀(a9:Value)(A:Around)(outer:List Env)(s:Shared)(H:Hp)(E:XK),Room k (A.deeper (envOfC af (qc st) s.heap.objs.size f a9)) ->
   ∃t,PSs (cxOf CX0 P w Ξ mg base N af (qc st) f a9 A outer s H E).nox (va st) t/\∃u,LS t u/\∀ts Qt,G ts Qt->u { nx:=λ_ _=>Qt .non,rt:=λz M'=>∃t,frzN 4 M' z=some t/\Qt t } (zO N (ts.map U.p)) []):FnOk P w Ξ mg base CX0 (k+1) f fd ps (spP G):=by
 refine F.ok S (λvs H Q E h=>?_) (λa9 A outer s H vs Q E hr h=>?_)
 ·obtain⟨A,ts,Qt,hd,r,g,_⟩:=h
  rw[r.len];exact len ts Qt g
 ·obtain⟨B,ts,Qt,hd,r,g,kk⟩:=h
  obtain⟨t,ht,u,hu,hb⟩:=aA a9 A outer s H E hr;have w0:Wd B [] H []:=⟨qa9,rfl,hd,λx hx=>by simp at hx,λk a o e _=>by simp at e⟩;have same:∀{a6:List Addr}{H1:Hp},Le [] H a6 H1->Same H H1:=λl b o e=>l.fr b o e (by simp);have r0:RepUs B [] H vs (ts.map U.p):=RepTs.ups (Paired.mapP r λ_ _ q=>q.mono λx o hx ex=>⟨ex,λz=>z.elim hx (by simp)⟩);refine⟨t,ht,hu B [] _ H _ [] _ { nx:=λ_ _=>Qt .non,rt:=λz M'=>∃t,frzN 4 M' z=some t/\Qt t } w0 (jh r0) ⟨λa6 cx H1 dL M1 l1 w1 e1 q1=>kk _ _ H1 (same l1) .non q1,λa6 v H1 z M1 l1 w1 r1 ⟨t1,et,q1⟩=>kk t1 v H1 (same l1) (Qx w1 r1 et) q1,λ_ _ _ _ _ _ _ _ q=>q.elim,λ_ _ _ _ _ _ _ _ q=>q.elim⟩ (hb ts Qt g)⟩
end
def OpS(s:T->T->(T->Prop)->Prop)(M:MM)(x y:U)(Q:UK):Prop:=∃a b,sn M x=some a/\sn M y=some b/\s a b λt=>Q (.p t) M
theorem q9E:uOp s ua ub ρ M Q=ua ρ M λx M1=>ub ρ M1 λy M2=>OpS s M2 x y Q:=rfl
theorem q92:OpS s M (.p a) (.p b) Q=s a b λt=>Q (.p t) M :=
 propext ⟨λzz=>by obtain⟨_,_,e1,e2,h⟩:=zz;cases e1;cases e2;exact h,λh=>⟨a,b,rfl,rfl,h⟩⟩
theorem q9j:sI C g (.int i) (.int j) Q=(C i j/\Q (g i j)):=
 propext ⟨λzz=>by obtain⟨_,_,e1,e2,h⟩:=zz;cases e1;cases e2;exact h,λh=>⟨i,j,rfl,rfl,h⟩⟩
theorem q8J:sI0 g (.int i) (.int j) Q=Q (g i j):=
 propext ⟨λzz=>by obtain⟨_,_,e1,e2,h⟩:=zz;cases e1;cases e2;exact h,λh=>⟨i,j,rfl,rfl,h⟩⟩
theorem q6n:sEq false (.int i) (.int j) Q=Q (.bl (decide (i=j))):=by
 refine propext ⟨λ⟨x,y,e1,e2,_,h⟩=>?_,λh=>⟨_,_,rfl,rfl,rfl,?_⟩⟩
 ·simp[vt]at e1 e2;subst e1 e2;simpa using h
 ·simpa using h
theorem q71:sEq true (.int i) (.int j) Q=Q (.bl (!decide (i=j))):=by
 refine propext ⟨λ⟨x,y,e1,e2,_,h⟩=>?_,λh=>⟨_,_,rfl,rfl,rfl,?_⟩⟩
 ·simp[vt]at e1 e2;subst e1 e2;simpa using h
 ·simpa using h
theorem q7v:sEq false (.str i) (.str j) Q=Q (.bl (decide (i=j))):=by
 refine propext ⟨λ⟨x,y,e1,e2,_,h⟩=>?_,λh=>⟨_,_,rfl,rfl,rfl,?_⟩⟩
 ·simp[vt]at e1 e2;subst e1 e2;simpa using h
 ·simpa using h
theorem q7E:sEq true (.str i) (.str j) Q=Q (.bl (!decide (i=j))):=by
 refine propext ⟨λ⟨x,y,e1,e2,_,h⟩=>?_,λh=>⟨_,_,rfl,rfl,rfl,?_⟩⟩
 ·simp[vt]at e1 e2;subst e1 e2;simpa using h
 ·simpa using h
theorem q8Q:sEq false (.bl i) (.bl j) Q=Q (.bl (decide (i=j))):=by
 refine propext ⟨λ⟨x,y,e1,e2,_,h⟩=>?_,λh=>⟨_,_,rfl,rfl,rfl,?_⟩⟩
 ·simp[vt]at e1 e2;subst e1 e2;simpa using h
 ·simpa using h
theorem q84:sEq true (.bl i) (.bl j) Q=Q (.bl (!decide (i=j))):=by
 refine propext ⟨λ⟨x,y,e1,e2,_,h⟩=>?_,λh=>⟨_,_,rfl,rfl,rfl,?_⟩⟩
 ·simp[vt]at e1 e2;subst e1 e2;simpa using h
 ·simpa using h
def VarS(o:Option (Option U))(M:MM)(Q:UK):Prop:=∃u,o=some (some u)/\Q u M
theorem q7i:uVar i ρ M Q=VarS ρ[i]? M Q:=rfl
theorem q3x:VarS (some (some u)) M Q=Q u M:=propext ⟨λzz=>by obtain⟨_,e,h⟩:=zz;cases e;exact h,λh=>⟨u,rfl,h⟩⟩
def IntS(x:U)(R:Int->Prop):Prop:=∃i,x=.p (.int i)/\R i
theorem q4C:IntS (.p (.int i)) R=R i:=propext ⟨λzz=>by obtain⟨_,e,h⟩:=zz;cases e;exact h,λh=>⟨i,rfl,h⟩⟩
def BlS(x:U)(R:Bool->Prop):Prop:=∃b,x=.p (.bl b)/\R b
theorem q70:BlS (.p (.bl b)) R=R b:=propext ⟨λzz=>by obtain⟨_,e,h⟩:=zz;cases e;exact h,λh=>⟨b,rfl,h⟩⟩
theorem q7J:uNeg ua ρ M Q=ua ρ M λx M1=>IntS x λi=>Q (.p (.int (-i))) M1:=rfl
theorem q5x:q8I ua ρ M Q=ua ρ M λx M1=>IntS x λi=>Q (.p (.int (Builtin.Int.intBits i))) M1:=rfl
theorem rd_b:uB ua ρ M QB=ua ρ M λx M1=>BlS x λb=>QB b M1:=rfl
theorem q3D:q8O ua ub ρ M Q=ua ρ M λx M1=>BlS x λc=>if c=true then ub ρ M1 Q else Q (.p (.bl false)) M1:=rfl
theorem q8s:uOrV ua ub ρ M Q=ua ρ M λx M1=>BlS x λc=>if c=true then Q (.p (.bl true)) M1 else ub ρ M1 Q:=rfl
theorem q4u:q9f ua ρ M Q=ua ρ M λx M1=>BlS x λc=>Q (.p (.bl (!c))) M1:=rfl
theorem q7F:uTru ua ρ M QB=ua ρ M λx M1=>∃b,truU M1 x=some b/\QB b M1:=rfl
def ChS(s':T->T->(T->Prop)->Prop)(uc:UE)(ρ:UEnv)(M:MM)(y:U)(Q:UK)(z:T):Prop:=∃k,z=.bl k/\if k=true then uc ρ M λc M3=>OpS s' M3 y c Q else Q (.p (.bl false)) M
theorem q0r:JU s s' ua ub uc ρ M Q=ua ρ M λx M1=>ub ρ M1 λy M2=>OpS s M2 x y λz _=>∃t,z=.p t/\ChS s' uc ρ M2 y Q t :=
 propext (by
  have e:∀(x y:U)(M2:MM),(∃a b,sn M2 x=some a/\sn M2 y=some b/\s a b λz=>∃k,z=.bl k/\if k=true then uc ρ M2 λc M3=>∃b' c',sn M3 y=some b'/\sn M3 c=some c'/\s' b' c' λt=>Q (.p t) M3 else Q (.p (.bl false)) M2)=(OpS s M2 x y λz _=>∃t,z=.p t/\ChS s' uc ρ M2 y Q t):=λx y M2=>by
   unfold OpS ChS;have:∀z:T,(∃t,U.p z=.p t/\∃k,t=.bl k/\if k=true then uc ρ M2 λc M3=>OpS s' M3 y c Q else Q (.p (.bl false)) M2)=(∃k,z=.bl k/\if k=true then uc ρ M2 λc M3=>∃b' c',sn M3 y=some b'/\sn M3 c=some c'/\s' b' c' λt=>Q (.p t) M3 else Q (.p (.bl false)) M2):=λz=>
    propext ⟨λzz=>by obtain⟨t,e,h⟩:=zz;cases e;exact h,λh=>⟨z,rfl,h⟩⟩
   simp only[this]
  unfold JU;simp only[e])
theorem q75:(∃t,U.p (.bl b)=.p t/\ChS s' uc ρ M y Q t)=if b=true then uc ρ M λc M3=>OpS s' M3 y c Q else Q (.p (.bl false)) M :=
 propext ⟨λzz=>by obtain⟨t,e,k,e2,h⟩:=zz;cases e;cases e2;exact h,λh=>⟨_,rfl,b,rfl,h⟩⟩
def PurS(us:List U)(R:List T->Prop):Prop:=∃ts,vV us=some ts/\R ts
theorem Wo:PurS (ts.map U.p) R=R ts:=propext ⟨λzz=>by obtain⟨_,e,h⟩:=zz;rw[xw]at e;cases e;exact h,λh=>⟨ts,xw ts,h⟩⟩
theorem q4a:PurS [] R=R []:=Wo (ts:=[])
theorem q4n:PurS (.p a::us) R=PurS us λts=>R (a::ts):=by
 refine propext ⟨λ⟨ts,e,h⟩=>?_,λ⟨ts,e,h⟩=>⟨a::ts,by simp[vV,e],h⟩⟩;simp[vV]at e;obtain⟨r,e1,rfl⟩:=e;exact⟨r,e1,h⟩
theorem q7H:uTup ul ρ M Q=ul ρ M λus M1=>PurS us λts=>Q (.p (.tup ts)) M1:=rfl
theorem q7W:uLst ul ρ M Q=ul ρ M λus M1=>PurS us λts=>Q (.p (.lst ts)) M1:=rfl
def IxS(it:MM->U->Option (List U))(M:MM)(x y:U)(Q:UK):Prop:=∃us i z,it M x=some us/\y=.p (.int i)/\atI us i=some z/\Q z M
theorem q9Q:uIx it ua ub ρ M Q=ua ρ M λx M1=>ub ρ M1 λy M2=>IxS it M2 x y Q:=rfl
theorem Jw(h1:it M x=some us)(h2:atI us i=some z)(q:Q z M):IxS it M x (.p (.int i)) Q:=⟨us,i,z,h1,rfl,h2,q⟩
theorem qaZ(h:atI ts i=some t):atI (ts.map U.p) i=some (.p t):=by
 unfold atI at h ⊢;rw[Dd];cases e:ixN ts.length i with
 |none=>rw[e]at h;cases h
 |some j=>rw[e]at h;simp at h ⊢;rw[h]
theorem qB(h:atI ts i=some t)(q:Q (.p t) M):IxS qQ M (.p (.lst ts)) (.p (.int i)) Q:=Jw rfl (qaZ h) q
theorem GL(h:atI ts i=some t)(q:Q (.p t) M):IxS vC M (.p (.tup ts)) (.p (.int i)) Q:=Jw rfl (qaZ h) q
def SnsS(M:MM)(us:List U)(R:List T->Prop):Prop:=∃ts,sns M us=some ts/\R ts
theorem q3L:SnsS M [] R=R []:=propext ⟨λzz=>by obtain⟨_,e,h⟩:=zz;cases e;exact h,λh=>⟨[],rfl,h⟩⟩
theorem q5a:SnsS M (.p a::us) R=SnsS M us λts=>R (a::ts):=by
 refine propext ⟨λ⟨ts,e,h⟩=>?_,λ⟨ts,e,h⟩=>⟨a::ts,by simp[sns,sn,e],h⟩⟩;simp only[sns,sn]at e;cases q:sns M us with
 |none=>rw[q]at e;cases e
 |some r=>rw[q]at e;simp at e;subst e;exact⟨r,q,h⟩
theorem q9t:uCb s ul ρ M Q=ul ρ M λus M1=>SnsS M1 us λts=>s ts λt=>Q (.p t) M1:=rfl
theorem q3O:sAbs [.int i] Q=Q (.int (if i<0 then -i else i)):=propext ⟨λzz=>by obtain⟨_,e,h⟩:=zz;cases e;exact h,λh=>⟨i,rfl,h⟩⟩
theorem q3s:sMin [.int i,.int j] Q=Q (.int (if j<i then j else i)):=propext ⟨λzz=>by obtain⟨_,_,e,h⟩:=zz;cases e;exact h,λh=>⟨i,j,rfl,h⟩⟩
theorem q4z:sMax [.int i,.int j] Q=Q (.int (if j>i then j else i)):=propext ⟨λzz=>by obtain⟨_,_,e,h⟩:=zz;cases e;exact h,λh=>⟨i,j,rfl,h⟩⟩
theorem q43:sInt [.int i] Q=Q (.int i):=by
 refine propext ⟨λh=>?_,λh=>Or.inl ⟨i,rfl,h⟩⟩;rcases h with⟨_,e,h⟩|⟨_,e,h⟩
 ·cases e;exact h
 ·cases e
theorem q3y:sInt [.bl k] Q=Q (.int (if k then 1 else 0)):=by
 refine propext ⟨λh=>?_,λh=>Or.inr ⟨k,rfl,h⟩⟩;rcases h with⟨_,e,h⟩|⟨_,e,h⟩
 ·cases e
 ·cases e;exact h
def LenS(it:MM->U->Option (List U))(M:MM)(us:List U)(Q:UK):Prop:=∃x ys,us=[x]/\it M x=some ys/\Q (.p (.int ys.length)) M
theorem q8l:uLen it ul ρ M Q=ul ρ M λus M1=>LenS it M1 us Q:=rfl
theorem q4k:LenS qQ M [.p (.lst ts)] Q=Q (.p (.int ts.length)) M :=
 propext ⟨λzz=>by obtain⟨_,_,e1,e2,h⟩:=zz;cases e1;cases e2;rw[Dd]at h;exact h,λh=>⟨_,_,rfl,rfl,by rw[Dd];exact h⟩⟩
theorem jV(e:M[k]?=some (.lst us))(h:Q (.p (.int us.length)) M):LenS qQ M [.m k] Q:=⟨_,_,rfl,by simp[qQ,e],h⟩
def SlS(M:MM)(x:U)(l h:Option Int)(Q:UK):Prop:=∃ts,sn M x=some (.lst ts)/\Q (.p (.lst (cutT ts l h))) M
theorem q9V:uSl ua u1 u2 ρ M Q=ua ρ M λx M1=>u1 ρ M1 λl M2=>u2 ρ M2 λh M3=>SlS M3 x l h Q:=rfl
theorem q7r:SlS M (.p (.lst ts)) l h Q=Q (.p (.lst (cutT ts l h))) M:=propext ⟨λzz=>by obtain⟨_,e,h⟩:=zz;cases e;exact h,λh=>⟨ts,rfl,h⟩⟩
theorem q5c{QO:Option Int->MM->Prop}:q8W ua ρ M QO=ua ρ M λx M1=>IntS x λi=>QO (some i) M1:=rfl
theorem Wp{QO:Option Int->MM->Prop}:XM ρ M QO=QO none M:=rfl
theorem q8Z:sCat (.lst xs) (.lst ys) Q=(xs.length+ys.length<=sizeLine/\Q (.lst (xs++ys))):=propext ⟨λzz=>by obtain⟨_,_,e1,e2,h⟩:=zz;cases e1;cases e2;exact h,λh=>⟨xs,ys,rfl,rfl,h⟩⟩
theorem q8k:sStr (.str i) (.str j) Q=(i.length+j.length<=sizeLine/\Q (.str (i++j))):=propext ⟨λzz=>by obtain⟨_,_,e1,e2,h⟩:=zz;cases e1;cases e2;exact h,λh=>⟨i,j,rfl,rfl,h⟩⟩
def itU(x:U)(us:List U):UIt:=⟨us.length,λM=>qQ M x=some us,λi z=>us[i]?=some z⟩
def q3F(M:MM)(x:U)(R:UIt->MM->Prop):Prop:=∃us,qQ M x=some us/\R (itU x us) M
theorem q46:q7z ua ρ M R=ua ρ M λx M1=>q3F M1 x R:=rfl
theorem q1h:q3F M (.p (.lst ts)) R=R (itU (.p (.lst ts)) (ts.map U.p)) M:=propext ⟨λzz=>by obtain⟨_,e,h⟩:=zz;cases e;exact h,λh=>⟨_,rfl,h⟩⟩
theorem q5d(e:M[k]?=some (.lst us))(h:R (itU (.m k) us) M):q3F M (.m k) R:=⟨us,by simp[qQ,e],h⟩
def itR0(n:Nat):UIt:=⟨n,λ_=>True,λi z=>z=.p (.int i)⟩
def RngS(us:List U)(M:MM)(R:UIt->MM->Prop):Prop:=∃j:Int,us=[.p (.int j)] /\ -(2^62)<=j/\j<2^62/\R (itR0 j.toNat) M
theorem q5S:q8N ul ρ M R=ul ρ M λus M1=>RngS us M1 R:=rfl
theorem Qb(h1 : -(2^62)<=j)(h2:j<2^62)(q:R (itR0 j.toNat) M):RngS [.p (.int j)] M R:=⟨j,rfl,h1,h2,q⟩
theorem kL(Iv:Nat->UEnv->MM->Prop)(h0:Iv 0 ρ M)(hs:∀i t aE M2,ts[i]?=some t->Iv i aE M2->ug (.p t) aE M2 λeZ M3=>ub { E with nx:=Iv (i+1),ct:=Iv (i+1),bk:=E.nx } eZ M3)(hd:∀aE M2,Iv ts.length aE M2->E.nx aE M2):UFor (itU (.p (.lst ts)) (ts.map U.p)) ug ub E ρ M:=by
 refine⟨Iv,h0,λi aE M2 hi h=>⟨rfl,λu hu=>?_⟩,λaE M2 h=>⟨rfl,hd aE M2 (by simpa[itU]using h)⟩⟩;have hu:(ts.map U.p)[i]?=some u:=hu;rw[Dv]at hu;cases e:ts[i]? with
 |none=>rw[e]at hu;cases hu
 |some t=>rw[e]at hu;cases hu;exact hs i t aE M2 e h
theorem ki(Iv:Nat->UEnv->MM->Prop)(h0:Iv 0 ρ M)(hs:∀(i:Nat) aE M2,i<m->Iv i aE M2->ug (.p (.int i)) aE M2 λeZ M3=>ub { E with nx:=Iv (i+1),ct:=Iv (i+1),bk:=E.nx } eZ M3)(hd:∀aE M2,Iv m aE M2->E.nx aE M2):UFor (itR0 m) ug ub E ρ M :=
 ⟨Iv,h0,λi aE M2 hi h=>⟨trivial,λu hu=>by cases(show u=_ from hu);exact hs i aE M2 hi h⟩,λaE M2 h=>⟨trivial,hd aE M2 h⟩⟩
theorem vX(hz:ts.length<=sizeLine)(Iv:Nat->List T->MM->Prop)(h0:Iv 0 [] M)(hs:∀i t a8 M2,ts[i]?=some t->a8.length<=i->Iv i a8 M2->ug (.p t) ef M2 λc6 M4=>ut c6 M4 λb M5=>if b=true then ua c6 M5 λz M6=>∃t,z=.p t/\Iv (i+1) (a8++[t]) M6 else Iv (i+1) a8 M5)(hd:∀a8 M2,Iv ts.length a8 M2->Q (.p (.lst a8)) M2):UComp (itU (.p (.lst ts)) (ts.map U.p)) ug ut ua ef M Q:=by
 refine⟨by simpa[itU]using hz,Iv,h0,λi a8 M2 hi ha h=>⟨rfl,λu hu=>?_⟩,λa8 M2 h=>⟨rfl,hd a8 M2 (by simpa[itU]using h)⟩⟩;have hu:(ts.map U.p)[i]?=some u:=hu;rw[Dv]at hu;cases e:ts[i]? with
 |none=>rw[e]at hu;cases hu
 |some t=>rw[e]at hu;cases hu;exact hs i t a8 M2 e ha h
theorem kM(hz:m<=sizeLine)(Iv:Nat->List T->MM->Prop)(h0:Iv 0 [] M)(hs:∀(i:Nat) a8 M2,i<m->a8.length<=i->Iv i a8 M2->ug (.p (.int i)) ef M2 λc6 M4=>ut c6 M4 λb M5=>if b=true then ua c6 M5 λz M6=>∃t,z=.p t/\Iv (i+1) (a8++[t]) M6 else Iv (i+1) a8 M5)(hd:∀a8 M2,Iv m a8 M2->Q (.p (.lst a8)) M2):UComp (itR0 m) ug ut ua ef M Q :=
 ⟨hz,Iv,h0,λi a8 M2 hi ha h=>⟨trivial,λu hu=>by cases(show u=_ from hu);exact hs i a8 M2 hi ha h⟩,λa8 M2 h=>⟨trivial,hd a8 M2 h⟩⟩
def T2S(M:MM)(u:U)(R:U->U->Prop):Prop:=∃a b,vC M u=some [a,b]/\R a b
def T3S(M:MM)(u:U)(R:U->U->U->Prop):Prop:=∃a b c,vC M u=some [a,b,c]/\R a b c
theorem q10:YF i j u ρ M R=T2S M u λa b=>R ((ρ.set i (some a)).set j (some b)) M:=rfl
theorem q2a:Zu i j k u ρ M R=T3S M u λa b c=>R (((ρ.set i (some a)).set j (some b)).set k (some c)) M:=rfl
theorem q9z:T2S M (.p (.tup [a,b])) R=R (.p a) (.p b):=propext ⟨λzz=>by obtain⟨_,_,e,h⟩:=zz;cases e;exact h,λh=>⟨_,_,rfl,h⟩⟩
theorem q9s:T3S M (.p (.tup [a,b,c])) R=R (.p a) (.p b) (.p c):=propext ⟨λzz=>by obtain⟨_,_,_,e,h⟩:=zz;cases e;exact h,λh=>⟨_,_,_,rfl,h⟩⟩
theorem q13:YJ G ul ρ M Q=ul ρ M λus M1=>PurS us λts=>G ts λt=>Q (.p t) M1:=rfl
theorem q1q:q6y G ul ρ M Q=ul ρ M λus M1=>SnsS M1 us λts=>G ts λt=>(∃x,vt t=some x)/\Q (.p t) M1:=rfl
theorem q0y:q8j G ul ρ M Q=ul ρ M λus M1=>G us M1 Q:=rfl
def MeS(s:List U->List U->(U->List U->Prop)->Prop)(ul:UA)(ρ:UEnv)(M:MM)(o:U)(Q:UK):Prop:=∃k,o=.m k/\(∃zs,M[k]?=some (.lst zs))/\ul ρ M λws M2=>∃us,M2[k]?=some (.lst us)/\s us ws λz cB=>Q z (M2.set k (.lst cB))
theorem q9d:uMe s ua ul ρ M Q=ua ρ M λo M1=>MeS s ul ρ M1 o Q:=rfl
theorem Gw(e:M[k]?=some (.lst zs))(h:ul ρ M λws M2=>∃us,M2[k]?=some (.lst us)/\s us ws λz cB=>Q z (M2.set k (.lst cB))):MeS s ul ρ M (.m k) Q:=⟨k,rfl,⟨zs,e⟩,h⟩
theorem q6k:Wf us [y] Q=(us.length<sizeLine/\Q (.p .non) (us++[y])):=propext ⟨λzz=>by obtain⟨_,e,h⟩:=zz;cases e;exact h,λh=>⟨y,rfl,h⟩⟩
theorem ss{α:Type}{a:α}{R:α->Prop}:(∃x,some a=some x/\R x)=R a:=propext ⟨λzz=>by obtain⟨_,e,h⟩:=zz;cases e;exact h,λh=>⟨a,rfl,h⟩⟩
inductive EqT:Nat->T->T->Bool->Prop
 |flat {n:Nat}{a b:T}{x y:V}:vt a=some x->vt b=some y->EqT n a b (eqV x y)
 |tup {n:Nat}{xs ys:List T}{e:Nat->Bool}:(∀(j:Nat) x y,xs[j]?=some x->ys[j]?=some y->EqT n x y (e j))->EqT (n+1) (.tup xs) (.tup ys) ((List.range (min xs.length ys.length)).all e&&xs.length==ys.length)
 |lst {n:Nat}{xs ys:List T}{e:Nat->Bool}:xs.length=ys.length->(∀(j:Nat) x y,xs[j]?=some x->ys[j]?=some y->EqT n x y (e j))->EqT (n+1) (.lst xs) (.lst ys) ((List.range xs.length).all e)
 |lstN {n:Nat}{xs ys:List T}:xs.length≠ys.length->EqT (n+1) (.lst xs) (.lst ys) false
theorem RepT.inj(r:RepT A H v a):RepT A H v b->a=b:=by
 induction r generalizing b with
 |non=>intro q;cases q;rfl
 |bl=>intro q;cases q;rfl
 |int=>intro q;cases q;rfl
 |str=>intro q;cases q;rfl
 |tup na e l r ih=>
  intro q;cases q with
  |tup na' e' l' r'=>
   rw[e]at e';cases e'
   congr 1;refine List.ext_getElem (by lia) λi h1 h2=>?_;have h3:=h1;rw[<-l]at h3;exact ih i _ _ (Dc h3) (Dc h1) (r' i _ _ (Dc h3) (Dc h2))
  |lst na' e' l' r'=>rw[e]at e';cases e'
 |lst na e l r ih=>
  intro q;cases q with
  |lst na' e' l' r'=>
   rw[e]at e';cases e'
   congr 1;refine List.ext_getElem (by lia) λi h1 h2=>?_;have h3:=h1;rw[<-l]at h3;exact ih i _ _ (Dc h3) (Dc h1) (r' i _ _ (Dc h3) (Dc h2))
  |tup na' e' l' r'=>rw[e]at e';cases e'
theorem q1Z:∀{x:V}{t:T},vt t=some x->eqV x x=true:=λ{x t} h=>by cases j5 h<;>simp[eqV]
theorem EqT.self(h:EqT n a b r):a=b->r=true:=by
 induction h with
 |flat h1 h2=>intro e;subst e;rw[h1]at h2;cases h2;exact q1Z h1
 | @tup n xs ys e hh ih=>
  intro q;cases q;simp only[qbp,U3,Bool.and_true,RZ,DZ];intro j hj;exact ih j _ _ (Dc hj) (Dc hj) rfl
 | @lst n xs ys e hl hh ih=>
  intro q;cases q;simp only[RZ,DZ];intro j hj;exact ih j _ _ (Dc hj) (Dc hj) rfl
 |lstN hl=>intro q;cases q;exact absurd rfl hl
theorem EqT.de(h:EqT n a b r):∀{x y:V},RepT A H x a->RepT A H y b->DE Ξ H n x y r:=by
 induction h with
 | @flat n a b x0 y0 h1 h2=>
  intro x y r1 r2;cases(RepV.of r1).sc (y:=.non) h1;cases(RepV.of r2).sc (y:=.non) h2;exact .flat (by cases j5 h1<;>rfl) (by cases j5 h2<;>rfl)
 | @tup n xs ys e hh ih=>
  intro x y r1 r2;obtain⟨p,vs,rfl,_,h1,q1⟩:=r1.tup_inv;obtain⟨p2,cT,rfl,_,h2,q2⟩:=r2.tup_inv;by_cases hp:p=p2
  ·subst hp
   have:=(EqT.tup (n:=n) hh).self (r1.inj r2);rw[this];exact .same
  ·have:=DE.tup (Ξ:=Ξ) (H:=H) (n:=n) (e:=e) hp (SqT.of h1) (SqT.of h2) λj x y hx hy=>by
    obtain⟨a,ha,ra⟩:=Paired.getL q1 hx;obtain⟨b,hb,rb⟩:=Paired.getL q2 hy;exact ih j a b ha hb ra rb
   rw[q1.len,q2.len]at this;exact this
 | @lst n xs ys e hl hh ih=>
  intro x y r1 r2;obtain⟨p,vs,rfl,_,h1,q1⟩:=r1.lst_inv;obtain⟨p2,cT,rfl,_,h2,q2⟩:=r2.lst_inv;by_cases hp:p=p2
  ·subst hp
   have:=(EqT.lst (n:=n) hl hh).self (r1.inj r2);rw[this];exact .same
  ·have:=DE.lst (Ξ:=Ξ) (H:=H) (n:=n) (e:=e) hp (SqL.of h1) (SqL.of h2) (by rw[q1.len,q2.len,hl]) λj x y hx hy=>by
    obtain⟨a,ha,ra⟩:=Paired.getL q1 hx;obtain⟨b,hb,rb⟩:=Paired.getL q2 hy;exact ih j a b ha hb ra rb
   rw[q1.len]at this;exact this
 | @lstN n xs ys hl=>
  intro x y r1 r2;obtain⟨p,vs,rfl,_,h1,q1⟩:=r1.lst_inv;obtain⟨p2,cT,rfl,_,h2,q2⟩:=r2.lst_inv;by_cases hp:p=p2
  ·subst hp
   have:=r1.inj r2;cases this;exact absurd rfl hl
  ·exact .lstN hp (SqL.of h1) (SqL.of h2) (by rw[q1.len,q2.len];exact hl)
abbrev vb(ns:List Int):T:=.lst (ns.map T.int)
def sRep:T->T->(T->Prop)->Prop:=λa b Q=>∃xs k,a=.lst xs/\b=.int k /\ -(2^63)<=k/\k<2^63/\xs.length*k.toNat<=sizeLine/\Q (.lst (List.replicate k.toNat xs).flatten)
theorem q5V:OpL rRep sRep:=λA ι H M x y a b Qs Q w r1 r2 ⟨xs,kk,ea,eb,k0,k1,hz,q⟩ k=>by
 subst ea eb;obtain⟨p,vs,rfl,h1,q1⟩:=r1.lst_inv;cases r2.int_inv;exact⟨p,kk,vs,rfl,rfl,h1,k0,k1,by rw[q1.len];exact hz,λl hl=>k _ ι _ _ (.fresh hl) (w.fresh hl) (zw w hl (jT q1 _)) q⟩
def frzB(b:Nat):Nat->MM->U->Option T
 |_,_,.p t=>some t
 |0,_,.m _=>none
 |_,_,.x _ _ _=>none
 |n+1,M,.m k=>if b<=k then match M[k]? with
  |some (.lst us)=>(frzs (frzB b n M) us).map T.lst
  |some (.tup us)=>(frzs (frzB b n M) us).map T.tup
  |_=>none else none
@[simp] theorem G9:frzB b n M (.p t)=some t:=by cases n<;>rfl
set_option tactic.hygienic true in
theorem Xl(r:RepUs A ι H vs us)(h:∀v u t,RepU A ι H v u->f u=some t->RepT A' H v t)(e:frzs f us=some ts):RepTs A' H vs ts:=by
 induction r generalizing ts with
 |nil=>simp[frzs]at e;subst e;exact .nil
 |cons r q ih=>
  simp only[frzs]at e;split at e
  ·rename_i h1 h2
   simp at e;subst e;exact .cons (h _ _ _ r h1) (ih h2)
  ·cases e
set_option tactic.hygienic true in
theorem Zc(w:Wd A (ι++m) H M):∀{n:Nat}{v:V}{u:U}{t:T},RepU A (ι++m) H v u->frzB ι.length n M u=some t->RepT (Av A ι) H v t
 |n,v,.p t',t,.p r,e=>by
  rw[G9]at e;cases e;exact r.mono λx o hx ex=>⟨ex,λz=>hx (z.elim .inl λz=>.inr (Dp _ z))⟩
 |0,v,.m k,t,r,e=>by simp[frzB]at e
 |n,v,.x a d q,t,r,e=>by cases n<;>simp[frzB]at e
 |n+1,v,.m k,t,r,e=>by
  cases r with
  |m q=>
  rename_i a;obtain⟨o,h1,h2⟩:=w.al q;simp only[frzB,h1]at e;split at e
  ·rename_i hk
   have i5:¬Av A ι a:=λz=>by
    rcases z with z|z
    ·exact w.na _ (De q) z
    ·rw[Dk hk]at q
     have hd:=(Rg.mp w.nd).2.2;exact hd a z a (De q) rfl
   cases o with
   |lst us=>
    simp at e;obtain⟨ts,e1,rfl⟩:=e;obtain⟨vs,h3,h4⟩:=h2;exact .lstP i5 h3 (Xl h4 (λv u t r e=>Zc w r e) e1)
   |tup us=>
    simp at e;obtain⟨ts,e1,rfl⟩:=e;obtain⟨vs,h3,h4⟩:=h2;exact .tupP i5 h3 (Xl h4 (λv u t r e=>Zc w r e) e1)
   |ins=>simp at e
   |dK=>simp at e
   |dF=>simp at e
   |tab=>simp at e
  ·cases e
def PurO(o:MO):Prop:=∃ts:List T,o=.lst (ts.map U.p)
def zA(M M':MM):Prop:=∀(i:Nat) o,i<M.length->M'[i]?=some o->M[i]?=some o\/PurO o
theorem RepU.less{m:List Addr}(r:RepU A (ι++m) H v u)(r0:RepU A ι H0 v0 u):RepU A ι H v u:=by
 cases r with
 |p r=>exact .p (r.mono λx o hx ex=>⟨ex,λz=>hx (z.elim .inl λz=>.inr (Dp _ z))⟩)
 |m e=>
  cases r0 with
  |m e0=>
   rw[Df (Db.mp e0).1]at e;exact .m e
 | @x a d q h=>
  refine .x ?_;cases q with
  |none=>exact h
  |some n=>
   obtain⟨x0,e,ni,hx⟩:=h;exact⟨x0,e,λz=>ni (Dp _ z),hx⟩
theorem vO{α β:Type}{F G L:α->β->Prop}(h:∀a a0 b,F a b->G a0 b->L a b):∀{l l0:List α}{r:List β},Paired F l r->Paired G l0 r->Paired L l r
 |_,_,_,.nil,.nil=>.nil
 |_,_,_,.cons p q,.cons p0 q0=>.cons (h _ _ _ p p0) (vO h q q0)
theorem ObjR.less(r:ObjR A (ι++m) H a o)(r0:ObjR A ι H0 a0 o):ObjR A ι H a o:=by
 cases o with
 |lst=>obtain⟨vs,e,r⟩:=r;obtain⟨_,_,r0⟩:=r0;exact⟨vs,e,vO (λ_ _ _ p q=>p.less q) r r0⟩
 |tup=>obtain⟨vs,e,r⟩:=r;obtain⟨_,_,r0⟩:=r0;exact⟨vs,e,vO (λ_ _ _ p q=>p.less q) r r0⟩
 |ins=>obtain⟨dx,gs,e,ed,nd,r⟩:=r;obtain⟨_,_,_,_,_,r0⟩:=r0;exact⟨dx,gs,e,ed,λz=>nd (Dp _ z),vO (λ_ _ _ p q=>⟨p.1,p.2.less q.2⟩) r r0⟩
 |dK=>obtain⟨gs,e,r⟩:=r;obtain⟨_,_,r0⟩:=r0;exact⟨gs,e,vO (λ_ _ _ p q=>⟨p.1,p.2.less q.2⟩) r r0⟩
 |dF=>obtain⟨e,r⟩:=r;obtain⟨_,r0⟩:=r0;exact⟨e,vO (λ_ _ _ p q=>⟨p.1,p.2.less q.2⟩) r r0⟩
 |tab=>obtain⟨ps,e,t,z⟩:=r;exact⟨ps,e,t,z.imp id λ⟨c,h1,h2,h3⟩=>⟨c,h1,h2,λz=>h3 (Dp _ z)⟩⟩
theorem Wd.trim(w:Wd A (ι++m) H M')(w0:Wd A ι H0 M)(h:zA M M'):Wd A ι H (M'.take M.length):=by
 have hl:M.length<=M'.length:=by
  have:=w.len;rw[Dg,w0.len]at this;lia
 refine⟨(Rg.mp w.nd).1,by rw[DM,Rq hl];exact w0.len,w.dom,λx hx=>w.na x (Dp _ hx),λk a o e1 e2=>?_⟩;have hk:=(Db.mp e1).1;rw[Bn (by rw[<-w0.len];exact hk)]at e2;have r:=w.obj k a o (by rw[Df hk];exact e1) e2;rcases h k o (by rw[<-w0.len];exact hk) e2 with z|⟨ts,rfl⟩
 ·exact r.less (w0.obj k a o e1 z)
 ·obtain⟨vs,e,q⟩:=r
  refine⟨vs,e,?_⟩;have q2:=q.pures;exact RepTs.ups (Paired.mapP q2 λ_ _ q=>q.mono λx o hx ex=>⟨ex,λz=>hx (z.elim .inl λz=>.inr (Dp _ z))⟩)
theorem q34(hu:LS t u)(hb:∀us M Qu,G us M Qu->u { nx:=λ_ M'=>zA M M'/\Qu (.p .non) (M'.take M.length),rt:=λz M'=>zA M M'/\∃t,frzB M.length 4 M' z=some t/\Qu (.p t) (M'.take M.length) } (zO N us) M)(h:spU G vs H Q E):t { nx:=λ_ H'=>Q .non H',rt:=Q } (start N vs) H:=by
 obtain⟨B,ι,M,us,Qu,w1,r,g,kk⟩:=h;have less:∀{a6:List Addr}{H1:Hp},Le ι H a6 H1->Le ι H ι H1:=λl=>⟨⟨[],by simp,by simp⟩,l.fr,l.al⟩;refine hu B ι _ H _ M _ { nx:=λ_ M'=>zA M M'/\Qu (.p .non) (M'.take M.length),rt:=λz M'=>zA M M'/\∃t,frzB M.length 4 M' z=some t/\Qu (.p t) (M'.take M.length) } w1 (jh r) ⟨λa6 cx H1 dL M1 l1 w2 e1 q1=>?_,λa6 v H1 z M1 l1 w2 r1 q1=>?_,λ_ _ _ _ _ _ _ _ q=>q.elim,λ_ _ _ _ _ _ _ _ q=>q.elim⟩ (hb us M Qu g)
 ·obtain⟨tr,q⟩:=q1
  obtain⟨m,rfl,_⟩:=id l1.ext;exact kk _ _ ι _ H1 (less l1) (w2.trim w1 tr) (.p .non) q
 ·obtain⟨tr,t1,et,q⟩:=q1
  obtain⟨m,rfl,_⟩:=id l1.ext;rw[<-w1.len]at et;exact kk _ _ ι v H1 (less l1) (w2.trim w1 tr) (.p (Zc w2 r1 et)) q
theorem Fun.okV{st:Stmt}(F:Fun Ξ x af st f fd)(S:q00 N ps (qc st))(len:∀us M Qu,G us M Qu->us.length=ps.length)(aA:∀(a9:Value)(A:Around)(outer:List Env)(s:Shared)(H:Hp)(E:XK),Room k (A.deeper (envOfC af (qc st) s.heap.objs.size f a9)) ->
   ∃t,PSs (cxOf CX0 P w Ξ mg base N af (qc st) f a9 A outer s H E).nox (va st) t/\∃u,LS t u/\∀us M Qu,G us M Qu->u { nx:=λ_ M'=>zA M M'/\Qu (.p .non) (M'.take M.length),rt:=λz M'=>zA M M'/\∃t,frzB M.length 4 M' z=some t/\Qu (.p t) (M'.take M.length) } (zO N us) M):FnOk P w Ξ mg base CX0 (k+1) f fd ps (spU G):=by
 refine F.ok S (λvs H Q E h=>?_) (λa9 A outer s H vs Q E hr h=>?_)
 ·obtain⟨A,ι,M,us,Qu,w1,r,g,_⟩:=h
  rw[r.len];exact len us M Qu g
 ·obtain⟨t,ht,u,hu,hb⟩:=aA a9 A outer s H E hr
  exact⟨t,ht,q34 hu hb h⟩
def keyU:Key->U
 |.inl i=>.p (.int i)
 |.inr x=>.p (.str x)
 |.non=>.p .non
def valU(kvs:List (Key×U))(k:Key):Option U:=(kvs.find? λkv=>decide (kv.1=k)).map (·.2)
def putU(kvs:List (Key×U))(k:Key)(y:U):List (Key×U):=if kvs.any (λkv=>decide (kv.1=k)) then kvs.map (λkv=>if kv.1=k then(kv.1,y) else kv) else kvs++[(k,y)]
def xM(kvs more:List (Key×U)):List (Key×U):=more.foldl (λa8 kv=>putU a8 kv.1 kv.2) kvs
abbrev KR(A:Addr->Prop)(ι:List Addr)(H:Hp):List (Key×V)->List (Key×U)->Prop:=Paired λ(g:Key×V) (f:Key×U)=>g.1=f.1/\RepU A ι H g.2 f.2
theorem XH(r:KR A ι H gs kvs):match valU kvs k with|some u=>∃v,valV gs k=some v/\RepU A ι H v u|none=>valV gs k=none:=by
 induction r with
 |nil=>rfl
 | @cons g f gs kvs p q ih=>
  obtain⟨e,r⟩:=p;unfold valU valV at ih ⊢;simp only[D6];by_cases h:f.1=k
  ·rw[e]
   simp only[h,decide_true];exact⟨_,rfl,r⟩
  ·rw[e]
   simp only[h,U6];exact ih
theorem q41(r:KR A ι H gs kvs):(gs.any λkv=>decide (kv.1=k))=(kvs.any λkv=>decide (kv.1=k)):=by
 induction r with
 |nil=>rfl
 |cons p q ih=>rw[Rs,Rs,ih,p.1]
theorem Jr(r:KR A ι H gs kvs)(rv:RepU A ι H v u):KR A ι H (gs.map λkv=>if kv.1=k then(kv.1,v) else kv) (kvs.map λkv=>if kv.1=k then(kv.1,u) else kv):=by
 induction r with
 |nil=>exact .nil
 | @cons g f gs kvs p q ih=>
  refine .cons ?_ ih;show(if g.1=k then(g.1,v) else g).1=(if f.1=k then(f.1,u) else f).1/\RepU A ι H (if g.1=k then(g.1,v) else g).2 (if f.1=k then(f.1,u) else f).2;by_cases h:f.1=k
  ·rw[Uj h,Uj (p.1.trans h)];exact⟨p.1,rv⟩
  ·rw[Uh h,Uh (λz=>h (p.1.symm.trans z))];exact p
theorem WB(r:KR A ι H gs kvs)(rv:RepU A ι H v u):KR A ι H (putK gs k v) (putU kvs k u):=by
 unfold putK putU;rw[q41 r];split
 ·exact Jr r rv
 ·exact r.app (.cons ⟨rfl,rv⟩ .nil)
theorem Gu(q:KR A ι H more moreU):∀{gs:List (Key×V)}{kvs:List (Key×U)},KR A ι H gs kvs->KR A ι H (Qk gs more) (xM kvs moreU):=by
 unfold Qk xM
 induction q with
 |nil=>intro gs kvs r;exact r
 |cons p q ih=>
  intro gs kvs r;rw[BG,BG,p.1];exact ih (WB r p.2)
inductive LPs:List (TE×TE)->List (UE×UE)->Prop
 |nil:LPs [] []
 |cons {tk tv:TE}{uk uv:UE}{ts:List (TE×TE)}{us:List (UE×UE)}:LE tk uk->LE tv uv->LPs ts us->LPs ((tk,tv)::ts) ((uk,uv)::us)
def JT:List (UE×UE)->UEnv->MM->(List (U×U)->MM->Prop)->Prop
 | [],_,M,Q=>Q [] M
 | (k,v)::r,ρ,M,Q=>k ρ M λx M1=>v ρ M1 λy M2=>JT r ρ M2 λps M3=>Q ((x,y)::ps) M3
theorem q3B(h:LPs e8 i6):∀(A:Addr->Prop)(ι:List Addr)(Z:St)(H:Hp)(ρ:UEnv)(M:MM)(Qu:List (U×U)->MM->Prop)(Q:List (V×V)->Hp->Prop),Wd A ι H M->EnvR A ι H Z ρ->JT i6 ρ M Qu ->
  (∀us M' ag vs H',Le ι H ag H'->Wd A ag H' M'->Paired (λ(x:V×V) (y:U×U)=>RepU A ag H' x.1 y.1/\RepU A ag H' x.2 y.2) vs us->Qu us M'->Q vs H')->J0 e8 Z H Q:=by
 induction h with
 |nil=>intro A ι Z H ρ M Qu Q w e q k;exact k [] M ι [] H (.refl _ _) w .nil q
 |cons h1 h2 h3 ih=>
  intro A ι Z H ρ M Qu Q w e q k;refine h1 A ι Z H ρ M _ _ w e q λx M1 a6 v1 H1 l1 w1 r1 q1=>?_;refine h2 A a6 Z H1 ρ M1 _ _ w1 (e.le l1) q1 λy M2 ac v2 H2 l2 w2 r2 q2=>?_;refine ih A ac Z H2 ρ M2 _ _ w2 (e.le (l1.trans l2)) q2 λus M3 c7 vs H3 l3 w3 r3 q3=>?_;exact k _ M3 c7 _ H3 ((l1.trans l2).trans l3) w3 (.cons ⟨(r1.le l2).le l3,r2.le l3⟩ r3) q3
def q7p(i6:List (UE×UE)):UE:=λρ M Q=>JT i6 ρ (M++[.dK []]) λps M2=>M2[M.length]?=some (.dK [])/\∃kvs:List (Key×U),ps=kvs.map (λkv=>(keyU kv.1,kv.2))/\kvs.length<=15/\Q (.m M.length) (M2.set M.length (.dK (xM [] kvs)))
theorem Qp(r:RepU A ι H v (keyU k)):v=kV k:=by
 cases k with
 |inl i=>cases r with|p r=>cases r;rfl
 |inr x=>cases r with|p r=>cases r;rfl
 |non=>cases r with|p r=>cases r;rfl
theorem GF:∀{kvs:List (Key×U)}{vs:List (V×V)},Paired (λ(x:V×V) (y:U×U)=>RepU A ι H x.1 y.1/\RepU A ι H x.2 y.2) vs (kvs.map λkv=>(keyU kv.1,kv.2))->∃gs:List (Key×V),vs=gs.map (λkv=>(kV kv.1,kv.2))/\KR A ι H gs kvs
 | [],_,.nil=>⟨[],rfl,.nil⟩
 |kv::kvs,(a,b)::_,.cons p q=>by
  obtain⟨gs,rfl,r⟩:=GF (kvs:=kvs) q;refine⟨(kv.1,b)::gs,?_,.cons ⟨rfl,p.2⟩ r⟩;rw[Dx];have:=Qp p.1;simp only at this;rw[this]
def q63(M:MM)(x y:U)(Q:UK):Prop:=∃k kvs aD w,x=.m k/\M[k]?=some (.dK kvs)/\y=keyU aD/\valU kvs aD=some w/\Q w M
def q7B(ua ub:UE):UE:=λρ M Q=>ua ρ M λx M1=>ub ρ M1 λy M2=>q63 M2 x y Q
theorem q4H:q7B ua ub ρ M Q=ua ρ M λx M1=>ub ρ M1 λy M2=>q63 M2 x y Q:=rfl
theorem Kw(h1:M[k]?=some (.dK kvs))(h2:valU kvs (.inr x)=some w)(q:Q w M):q63 M (.m k) (.p (.str x)) Q:=⟨k,kvs,.inr x,w,rfl,h1,rfl,h2,q⟩
def uIfC(c:UT)(t1 t2:T):UE:=λρ M Q=>c ρ M λb M1=>Q (.p (if b=true then t1 else t2)) M1
theorem q1W[Decidable c]:(if c then T.int a else T.int b)=T.int (if c then a else b):=by split<;>rfl
theorem q0n[Decidable c]:(if c then T.str a else T.str b)=T.str (if c then a else b):=by split<;>rfl
def itV(x:U)(us:List U):UIt:=⟨us.length,λM=>qQ M x=some us,λi z=>us[us.length-1-i]?=some z⟩
def RevS(us:List U)(M:MM)(R:UIt->MM->Prop):Prop:=∃x ys,us=[x]/\qQ M x=some ys/\R (itV x ys) M
theorem q8t:uRev ul ρ M R=ul ρ M λus M1=>RevS us M1 R:=rfl
theorem q4E:RevS [.p (.lst ts)] M R=R (itV (.p (.lst ts)) (ts.map U.p)) M:=propext ⟨λzz=>by obtain⟨_,_,e1,e2,h⟩:=zz;cases e1;cases e2;exact h,λh=>⟨_,_,rfl,rfl,h⟩⟩
theorem q0L(Iv:Nat->UEnv->MM->Prop)(h0:Iv 0 ρ M)(hs:∀i t aE M2,i<ts.length->ts[ts.length-1-i]?=some t->Iv i aE M2->ug (.p t) aE M2 λeZ M3=>ub { E with nx:=Iv (i+1),ct:=Iv (i+1),bk:=E.nx } eZ M3)(hd:∀aE M2,Iv ts.length aE M2->E.nx aE M2):UFor (itV (.p (.lst ts)) (ts.map U.p)) ug ub E ρ M:=by
 refine⟨Iv,h0,λi aE M2 hi h=>⟨rfl,λu hu=>?_⟩,λaE M2 h=>⟨rfl,hd aE M2 (by simpa[itV]using h)⟩⟩;have hu:(ts.map U.p)[(ts.map U.p).length-1-i]?=some u:=hu;have hi:i<(ts.map U.p).length:=hi;rw[Dd]at hu hi;rw[Dv]at hu;cases e:ts[ts.length-1-i]? with
 |none=>rw[e]at hu;cases hu
 |some t=>rw[e]at hu;cases hu;exact hs i t aE M2 hi e h
theorem q9w:ChS s' uc ρ M y Q (.bl b)=if b=true then uc ρ M λc M3=>OpS s' M3 y c Q else Q (.p (.bl false)) M :=
 propext ⟨λzz=>by obtain⟨k,e,h⟩:=zz;cases e;exact h,λh=>⟨b,rfl,h⟩⟩
def q3K:List U->List U->(U->List U->Prop)->Prop:=λus ws Q=>∃(ts:List T)(y:T)(j:Nat)(e:Nat->Bool),us=ts.map U.p/\ws=[.p y]/\j<ts.length/\e j=true/\(∀m,m<j->e m=false)/\(∀(m:Nat) z,m<=j->ts[m]?=some z->EqT 20 z y (e m))/\Q (.p .non) ((ts.eraseIdx j).map U.p)
theorem Z7{α β:Type}(f:α->β):∀(l:List α)(j:Nat),(l.eraseIdx j).map f=(l.map f).eraseIdx j
 | [],_=>rfl
 |_::_,0=>rfl
 |x::l,j+1=>by rw[RK,Dx,Dx,RK,Z7 f l j]
theorem Yb:MeL (Jh Ξ) q3K:=λA ι H M k a xs ys us ws Qs Q w ek h1 h2 rx ry ⟨ts,y,j,e,eu,ew,hj,pj,pk,hd,q⟩ kk=>by
 subst eu ew;cases ry with
 |cons r q'=>
 cases q';cases r with
 |p r=>
 have rp:=rx.pures;refine⟨a,xs,_,j,e,rfl,rfl,h1,by rw[rp.len];exact hj,pj,pk,λm z hm hz=>?_,kk _ _ _ _ (RepTs.ups (rp.erase j)) (.p .non) q⟩;obtain⟨b,hb,rb⟩:=Paired.getL rp hz;exact(hd m b hm hb).de rb r
def KTu(Ξ:PySem.W.Frag)(p:Addr)(vs:List V):Prop:=∀H,SqT Ξ H p vs
theorem Tup3.kt{mg:Str->Option Value}(T3:Tup3 Ξ mg nm p x y z):KTu Ξ p [.str x,.str y,.str z]:=T3.sq
theorem q0g{α β:Type}{F:α->β->Prop}{vs:List α}{ts:List β}{i:Int}{z:β}(r:Paired F vs ts)(e:atI ts i=some z):∃x,atI vs i=some x/\F x z:=by
 unfold atI at e ⊢;rw[r.len];cases q:ixN ts.length i with
 |none=>rw[q]at e;cases e
 |some j=>
  rw[q]at e;exact Paired.getR r e
theorem Y5:∀xs:List Str,Paired Sc (xs.map V.str) (xs.map T.str)
 | []=>.nil
 |x::xs=>.cons (.str x) (Y5 xs)
def uIxK(ts:List T)(ub:UE):UE:=λρ M Q=>ub ρ M λy M1=>IntS y λi=>∃t,atI ts i=some t/\Q (.p t) M1
def uInK(neg:Bool)(vs:List V)(ua:UE):UE:=λρ M Q=>ua ρ M λx M1=>∃a,x=.p a/\∃y,vt a=some y/\Q (.p (.bl (if neg then !inV y vs else inV y vs))) M1
inductive TyC where
 |int|bool|str|list|tuple
def TyC.name:TyC->String
 |.int=> "int" |.bool=> "bool" |.str=> "str" |.list=> "list" |.tuple=> "tuple"
def isT:T->TyC->Bool
 |.int _,.int=>true
 |.bl _,.int=>true
 |.bl _,.bool=>true
 |.str _,.str=>true
 |.lst _,.list=>true
 |.tup _,.tuple=>true
 |_,_=>false
def isU(M:MM):U->TyC->Option Bool
 |.p t,c=>some (isT t c)
 |.m k,c=>match M[k]? with
  |some (.lst _)=>some (isT (.lst []) c)
  |some (.tup _)=>some (isT (.tup []) c)
  |_=>none
 |.x _ _ _,_=>none
theorem q3S(w:Wd A ι H M)(r:RepU A ι H v u)(e:isU M u c=some b):∃t,TyOf Ξ H v (.type t)/\W.kitOne Ξ (.type t) (.type c.name)=some b:=by
 cases r with
 |p r=>
  simp only[isU,Option.some.injEq]at e;subst e;cases r with
  |non=>exact⟨_,.non,by cases c<;>rfl⟩
  |bl b=>exact⟨_,.bl b,by cases c<;>rfl⟩
  |int i=>exact⟨_,.int i,by cases c<;>rfl⟩
  |str x=>exact⟨_,.str x,by cases c<;>rfl⟩
  |tup na e l r=>exact⟨_,.tup e,by cases c<;>rfl⟩
  |lst na e l r=>exact⟨_,.lst e,by cases c<;>rfl⟩
 |m q=>
  obtain⟨o,h1,h2⟩:=w.al q;simp only[isU,h1]at e;cases o with
  |lst us=>simp only[Option.some.injEq]at e;subst e;obtain⟨vs,h3,_⟩:=h2;exact⟨_,.lst h3,by cases c<;>rfl⟩
  |tup us=>simp only[Option.some.injEq]at e;subst e;obtain⟨vs,h3,_⟩:=h2;exact⟨_,.tup h3,by cases c<;>rfl⟩
  |ins=>simp at e
  |dK=>simp at e
  |dF=>simp at e
  |tab=>simp at e
 |x h=>simp[isU]at e
def uIsi(c:TyC)(ua:UE):UE:=λρ M Q=>ua ρ M λx M1=>∃b,isU M1 x c=some b/\Q (.p (.bl b)) M1
def q9S(c d:TyC)(ua:UE):UE:=λρ M Q=>ua ρ M λx M1=>∃b,isU M1 x c=some b/\∃b',isU M1 x d=some b'/\Q (.p (.bl (b||b'))) M1
def q5N(neg:Bool):T->T->(T->Prop)->Prop:=λa b Q=>∃xs ys,∃e:Nat->Bool,a=.tup xs/\b=.tup ys/\(∀(j:Nat) x y,xs[j]?=some x->ys[j]?=some y->EqT 20 x y (e j))/\Q (.bl (if neg then !((List.range (min xs.length ys.length)).all e&&xs.length==ys.length) else((List.range (min xs.length ys.length)).all e&&xs.length==ys.length)))
theorem WT:OpL (rEqT Ξ) (q5N false):=λA ι H M x y a b Qs Q w r1 r2 ⟨xs,ys,e,ea,eb,he,q⟩ k=>by
 subst ea eb;obtain⟨p,vs,rfl,h1,q1⟩:=r1.tup_inv;obtain⟨p2,cT,rfl,h2,q2⟩:=r2.tup_inv;refine⟨p,p2,vs,cT,e,rfl,rfl,SqT.of h1,SqT.of h2,λj x y hx hy=>?_,by rw[q1.len,q2.len];exact k _ ι _ H (.refl _ _) w (.bl _) q⟩;obtain⟨a,ha,ra⟩:=Paired.getL q1 hx;obtain⟨b,hb,rb⟩:=Paired.getL q2 hy;exact(he j a b ha hb).de ra rb
def q67:UE:=λ_ M Q=>Q (.m M.length) (M++[.dK []])
theorem q57:LE J1 q67:=λA ι Z H ρ M Qu Q w e q k p hp=>
 k _ _ (ι++[p]) _ _ (.push hp) (w.push (mo:=.dK []) hp ⟨[],upd_same,.nil⟩) (.m (by rw[<-w.len];exact xA)) q
def DInS(neg:Bool)(M:MM)(y x:U)(Q:UK):Prop:=∃k kvs aD,x=.m k/\M[k]?=some (.dK kvs)/\y=keyU aD/\Q (.p (.bl (if neg then !(valU kvs aD).isSome else(valU kvs aD).isSome))) M
def uDIn(neg:Bool)(ua ub:UE):UE:=λρ M Q=>ua ρ M λy M1=>ub ρ M1 λx M2=>DInS neg M2 y x Q
theorem Kv{k:Nat}(w:Wd A ι H M)(ek:ι[k]?=some a)(em:M[k]?=some (.dK kvs))(ry:RepU A ι H y (keyU aD)):∃o,DGet H a y o/\o.isSome=(valU kvs aD).isSome:=by
 obtain⟨gs,h1,h2⟩:=w.obj k a _ ek em;have hv:=XH (k:=aD) h2;have:=DGet.k (k:=aD) h1;rw[<-Qp ry]at this;refine⟨_,this,?_⟩;cases e:valU kvs aD with
 |none=>rw[e]at hv;simp only at hv;rw[hv];rfl
 |some u=>rw[e]at hv;obtain⟨x,hx,_⟩:=hv;rw[hx];rfl
def q3V(M:MM)(x y v:U)(R:MM->Prop):Prop:=∃k kvs aD,x=.m k/\M[k]?=some (.dK kvs)/\y=keyU aD/\kvs.length<sizeLine/\R (M.set k (.dK (putU kvs aD v)))
def q7j(ud uy uv:UE):US:=λE ρ M=>uv ρ M λv M1=>ud ρ M1 λx M2=>uy ρ M2 λy M3=>q3V M3 x y v λM4=>E.nx ρ M4
theorem q91:uDIn neg ua ub ρ M Q=ua ρ M λy M1=>ub ρ M1 λx M2=>DInS neg M2 y x Q:=rfl
theorem q53:q7j ud uy uv E ρ M=uv ρ M λv M1=>ud ρ M1 λx M2=>uy ρ M2 λy M3=>q3V M3 x y v λM4=>E.nx ρ M4:=rfl
theorem qam(h1:M[k]?=some (.dK kvs))(q:Q (.p (.bl (if neg then !(valU kvs (.inl x)).isSome else(valU kvs (.inl x)).isSome))) M):DInS neg M (.p (.int x)) (.m k) Q:=⟨k,kvs,.inl x,rfl,h1,rfl,q⟩
theorem Ks(h1:M[k]?=some (.dK kvs))(hz:kvs.length<sizeLine)(q:R (M.set k (.dK (putU kvs (.inl x) v)))):q3V M (.m k) (.p (.int x)) v R:=⟨k,kvs,.inl x,rfl,h1,rfl,hz,q⟩
def IdxS(us:List U)(xs:List Str)(M:MM)(Q:UK):Prop:=∃(t:Str)(j:Nat),us=[.p (.str t)]/\xs[j]?=some t/\(∀m,m<j->xs[m]?≠some t)/\Q (.p (.int j)) M
def q6B(xs:List Str)(ul:UA):UE:=λρ M Q=>ul ρ M λus M1=>IdxS us xs M1 Q
theorem q5t:q6B xs ul ρ M Q=ul ρ M λus M1=>IdxS us xs M1 Q:=rfl
def q3o(us:List U)(M:MM)(Q:UK):Prop:=∃(i j:Int)(n:Nat),us=[.p (.int i),.p (.int j)] /\ -(2^62)<=i/\j<2^62/\j=i+n/\n<=1000000/\Q (.p (.lst ((List.range n).map λk:Nat=>T.int (i+k)))) M
def q6X(ul:UA):UE:=λρ M Q=>ul ρ M λus M1=>q3o us M1 Q
theorem q1F:q6X ul ρ M Q=ul ρ M λus M1=>q3o us M1 Q:=rfl
theorem gdIx(h:IxS it M x y Q):IxS it M x y Q:=h
theorem gdT2(h:T2S M u R):T2S M u R:=h
theorem gdT3(h:T3S M u R):T3S M u R:=h
theorem gdMe(h:MeS s ul ρ M o Q):MeS s ul ρ M o Q:=h
theorem q9A(h:LenS it M us Q):LenS it M us Q:=h
abbrev FR(A:Addr->Prop)(ι:List Addr)(H:Hp):List (Str×V)->List (Str×U)->Prop:=Paired (λ(g:Str×V) (f:Str×U)=>g.1=f.1/\RepU A ι H g.2 f.2)
theorem Kj(r:FR A ι H gs fs)(e:fs.lookup f=some u):∃v,gs.lookup f=some v/\RepU A ι H v u:=by
 induction r with
 |nil=>cases e
 | @cons g h gs fs a _ ih=>
  obtain⟨g1,g2⟩:=g;obtain⟨h1,h2⟩:=h;obtain⟨e1,r1⟩:=a;simp only at e1 r1;subst e1;rw[DC]at e ⊢;cases hk:f==g1 with
  |true=>rw[hk]at e;cases e;exact⟨_,rfl,r1⟩
  |false=>rw[hk]at e;exact ih e
theorem Z8(r:FR A ι H gs fs)(e:fs.lookup f=none):gs.lookup f=none:=by
 induction r with
 |nil=>rfl
 | @cons g h gs fs a _ ih=>
  obtain⟨g1,g2⟩:=g;obtain⟨h1,h2⟩:=h;obtain⟨e1,r1⟩:=a;simp only at e1 r1;subst e1;rw[DC]at e ⊢;cases hk:f==g1 with
  |true=>rw[hk]at e;cases e
  |false=>rw[hk]at e;exact ih e
def Qg(f:Str)(v:U):List (Str×U)->List (Str×U)
 | []=>[(f,v)]
 | (g,x)::r=>if g=f then(g,v)::r else(g,x)::Qg f v r
theorem Kb(r:FR A ι H gs fs)(rv:RepU A ι H v u):FR A ι H (putF f v gs) (Qg f u fs):=by
 induction r with
 |nil=>exact .cons ⟨rfl,rv⟩ .nil
 | @cons g h gs fs a rr ih=>
  obtain⟨g1,g2⟩:=g;obtain⟨h1,h2⟩:=h;obtain⟨e1,r1⟩:=a;simp only at e1 r1;subst e1;unfold putF Qg;by_cases hk:g1=f
  ·rw[Uj hk,Uj hk];exact .cons ⟨rfl,rv⟩ rr
  ·rw[Uh hk,Uh hk];exact .cons ⟨rfl,r1⟩ ih
def FldS(Ξ:PySem.W.Frag)(f:Str)(x:U)(M:MM)(Q:UK):Prop:=∃k C fs u,x=.m k/\M[k]?=some (.ins C fs)/\Cls Ξ C/\NoAttr Ξ C f/\fs.lookup f=some u/\Q u M
def uFld(Ξ:PySem.W.Frag)(ua:UE)(f:Str):UE:=λρ M Q=>ua ρ M λx M1=>FldS Ξ f x M1 Q
def JP(Ξ:PySem.W.Frag)(f:Str)(x y:U)(M:MM)(R:MM->Prop):Prop:=∃k C fs,x=.m k/\M[k]?=some (.ins C fs)/\Cls Ξ C/\NoAttr Ξ C f/\fs.length<1000/\R (M.set k (.ins C (Qg f y fs)))
def XN(Ξ:PySem.W.Frag)(ua uv:UE)(f:Str):US:=λE ρ M=>uv ρ M λy M1=>ua ρ M1 λx M2=>JP Ξ f x y M2 λM3=>E.nx ρ M3
def Zn(C:Addr)(m:Str)(x:U)(M:MM)(R:Prop):Prop:=∃k fs,x=.m k/\M[k]?=some (.ins C fs)/\fs.lookup m=none/\R
def q8u(C:Addr)(m:Str)(G:List U->MM->UK->Prop)(ua:UE)(ul:UA):UE:=λρ M Q=>ua ρ M λx M1=>Zn C m x M1 (ul ρ M1 λus M2=>G (x::us) M2 Q)
def q8Y(C:Addr)(G:List U->MM->UK->Prop)(ul:UA):UE:=λρ M Q=>ul ρ M λus M1=>G (.m M1.length::us) (M1++[.ins C []]) λv M2=>v=.p .non/\Q (.m M1.length) M2
def q5m(M:MM)(x y:U)(Q:UK):Prop:=∃xs k,x=.p (.lst xs)/\y=.p (.int k) /\ -(2^63)<=k/\k<2^63/\xs.length*k.toNat<=sizeLine/\Q (.m M.length) (M++[.lst ((List.replicate k.toNat xs).flatten.map U.p)])
def XJ(ua ub:UE):UE:=λρ M Q=>ua ρ M λx M1=>ub ρ M1 λy M2=>q5m M2 x y Q
def flT:T->Bool
 |.int _=>true
 |.str _=>true
 |_=>false
def sEqW:T->T->(T->Prop)->Prop:=λa b Q=>sEq false a b Q\/q5N false a b Q\/(∃xs,flT a=true/\b=.tup xs/\Q (.bl false))\/∃xs,flT b=true/\a=.tup xs/\Q (.bl false)
theorem qab(h:flT t=true)(r:RepV A H v t):qaa v=true:=by
 cases t with
 |int i=>rw[r.int_inv];rfl
 |str i=>rw[r.str_inv];rfl
 |_=>cases h
theorem q4P:OpL (λx y H Q=>rEq x y H Q\/rEqT Ξ x y H Q\/q4V Ξ x y H Q\/q5U Ξ x y H Q) sEqW:=λA ι H M x y a b Qs Q w r1 r2 h k=>by
 rcases h with h|h|⟨xs,hf,eb,q⟩|⟨xs,hf,ea,q⟩
 ·exact .inl (q2L A ι H M x y a b Qs Q w r1 r2 h k)
 ·exact .inr (.inl (WT A ι H M x y a b Qs Q w r1 r2 h k))
 ·subst eb
  obtain⟨p,vs,rfl,h1,q1⟩:=r2.tup_inv;exact .inr (.inr (.inl ⟨p,vs,qab hf r1,rfl,SqT.of h1,k _ ι _ H (.refl _ _) w (.bl _) q⟩))
 ·subst ea
  obtain⟨p,vs,rfl,h1,q1⟩:=r1.tup_inv;exact .inr (.inr (.inr ⟨p,vs,qab hf r2,rfl,SqT.of h1,k _ ι _ H (.refl _ _) w (.bl _) q⟩))
def SubS(M:MM)(o i u:U)(R:MM->Prop):Prop:=∃k us z j,o=.m k/\M[k]?=some (.lst us)/\i=.p (.int z)/\ixN us.length z=some j/\R (M.set k (.lst (us.set j u)))
theorem q8b:uSub ua ub u ρ M Q=ua ρ M λo M1=>ub ρ M1 λi M2=>SubS M2 o i u λM3=>Q ρ M3:=rfl
def q7e(i j k l:Nat):UG:=λu ρ M Q=>∃a b c d,vC M u=some [a,b,c,d]/\Q ((((ρ.set i (some a)).set j (some b)).set k (some c)).set l (some d)) M
def T4S(M:MM)(u:U)(R:U->U->U->U->Prop):Prop:=∃a b c d,vC M u=some [a,b,c,d]/\R a b c d
theorem q18:q7e i j k l u ρ M R=T4S M u λa b c d=>R ((((ρ.set i (some a)).set j (some b)).set k (some c)).set l (some d)) M:=rfl
theorem q9M:T4S M (.p (.tup [a,b,c,d])) R=R (.p a) (.p b) (.p c) (.p d):=propext ⟨λzz=>by obtain⟨_,_,_,_,e,h⟩:=zz;cases e;exact h,λh=>⟨_,_,_,_,rfl,h⟩⟩
def P2S(us:List U)(R:U->U->Prop):Prop:=∃a b,us=[a,b]/\R a b
def P3S(us:List U)(R:U->U->U->Prop):Prop:=∃a b c,us=[a,b,c]/\R a b c
def uPar(i j:Nat)(ul:UA):US:=λE ρ M=>ul ρ M λus M1=>P2S us λa b=>E.nx ((ρ.set i (some a)).set j (some b)) M1
def q8X(i j k:Nat)(ul:UA):US:=λE ρ M=>ul ρ M λus M1=>P3S us λa b c=>E.nx (((ρ.set i (some a)).set j (some b)).set k (some c)) M1
theorem q6g:uPar i j ul E ρ M=ul ρ M λus M1=>P2S us λa b=>E.nx ((ρ.set i (some a)).set j (some b)) M1:=rfl
theorem q5w:q8X i j k ul E ρ M=ul ρ M λus M1=>P3S us λa b c=>E.nx (((ρ.set i (some a)).set j (some b)).set k (some c)) M1:=rfl
theorem q9r:P2S [a,b] R=R a b:=propext ⟨λzz=>by obtain⟨_,_,e,h⟩:=zz;cases e;exact h,λh=>⟨a,b,rfl,h⟩⟩
theorem q9a:P3S [a,b,c] R=R a b c:=propext ⟨λzz=>by obtain⟨_,_,_,e,h⟩:=zz;cases e;exact h,λh=>⟨a,b,c,rfl,h⟩⟩
theorem q8H:uFld Ξ ua f ρ M Q=ua ρ M λx M1=>FldS Ξ f x M1 Q:=rfl
theorem Wq:XN Ξ ua uv f E ρ M=uv ρ M λy M1=>ua ρ M1 λx M2=>JP Ξ f x y M2 λM3=>E.nx ρ M3:=rfl
theorem q4p:q8u C m G ua ul ρ M Q=ua ρ M λx M1=>Zn C m x M1 (ul ρ M1 λus M2=>G (x::us) M2 Q):=rfl
theorem q3M:q8Y C G ul ρ M Q=ul ρ M λus M1=>G (.m M1.length::us) (M1++[.ins C []]) λv M2=>v=.p .non/\Q (.m M1.length) M2:=rfl
theorem Wn:XJ ua ub ρ M Q=ua ρ M λx M1=>ub ρ M1 λy M2=>q5m M2 x y Q:=rfl
theorem v8(c:Cls Ξ C)(na:NoAttr Ξ C f)(e:M[k]?=some (.ins C fs))(lk:fs.lookup f=some u)(q:Q u M):FldS Ξ f (.m k) M Q:=⟨k,C,fs,u,rfl,e,c,na,lk,q⟩
theorem vI(c:Cls Ξ C)(na:NoAttr Ξ C f)(e:M[k]?=some (.ins C fs))(hz:fs.length<1000)(q:R (M.set k (.ins C (Qg f y fs)))):JP Ξ f (.m k) y M R:=⟨k,C,fs,rfl,e,c,na,hz,q⟩
theorem q4Z(e:M[k]?=some (.ins C fs))(lk:fs.lookup m=none)(q:R):Zn C m (.m k) M R:=⟨k,fs,rfl,e,lk,q⟩
theorem Wl(k0 : -(2^63)<=k)(k1:k<2^63)(hz:xs.length*k.toNat<=sizeLine)(q:Q (.m M.length) (M++[.lst ((List.replicate k.toNat xs).flatten.map U.p)])):q5m M (.p (.lst xs)) (.p (.int k)) Q:=⟨xs,k,rfl,rfl,k0,k1,hz,q⟩
def gNo:List U->MM->UK->Prop:=λ_ _ _=>False
theorem FnOk.no:FnOk P w Ξ mg base CX0 k f fd ps (spU gNo):=
 ⟨λvs H Q E ⟨_,_,_,_,_,_,_,h,_⟩=>h.elim,λ_ _ _ _ _ _ _ _ _ _ _ _ _ ⟨_,_,_,_,_,_,_,h,_⟩=>h.elim⟩
structure ZE(a:TE)(b:UE):Prop where
 h:LE a b
structure ZT(a:TT)(b:UT):Prop where
 h:LT a b
structure ZA(n:Nat)(a:TA)(b:UA):Prop where
 h:LA n a b
structure ZO(a:TO)(b:UO):Prop where
 h:LO a b
structure ZI(a:TI)(b:UI):Prop where
 h:LI a b
structure ZG(a:TG)(b:UG):Prop where
 h:LG a b
structure ZX(bs:List Bool)(n:Nat)(a:TG)(b:UG):Prop where
 h:LGx bs n a b
structure ZS(a:TS)(b:US):Prop where
 h:LS a b
structure ZP(a:List (TE×TE))(b:List (UE×UE)):Prop where
 h:LPs a b
theorem q7n:ZP [] []:=⟨.nil⟩
theorem QL(a:ZE tk uk)(b:ZE tv uv)(c:ZP ts us):ZP ((tk,tv)::ts) ((uk,uv)::us):=⟨.cons a.h b.h c.h⟩
theorem q55(h:ZP e8 i6):ZE (q8G e8) (q7p i6):=⟨by
 intro A ι Z H ρ M Qu Q w e q k p hp;have w1:Wd A (ι++[p]) (upd H p (.dK [])) (M++[.dK []]):=w.push hp ⟨[],upd_same,.nil⟩;have l1:Le ι H (ι++[p]) (upd H p (.dK [])):=.push hp;refine q3B h.h A _ Z _ ρ _ _ _ w1 (e.le l1) q λus M2 ac vs H2 l2 w2 r2 q2=>?_;obtain⟨hm,kvs,rfl,hl,q2⟩:=q2;have ep:ac[M.length]?=some p:=by
  obtain⟨nn,rfl,_⟩:=l2.ext;rw[Df (by rw[Dg,w.len];simp), <-w.len];exact xA
 obtain⟨gs0,h1,h2⟩:=w2.obj _ p _ ep hm;cases h2;obtain⟨gs,rfl,rk⟩:=GF r2;have aF:=De ep;refine⟨h1,gs,rfl,by rw[rk.len];exact hl,k _ _ ac _ _ ((l1.trans l2).trans (.put aF)) (w2.put (mo:=.dK (xM [] kvs)) ep ⟨_,upd_same,?_⟩) (.m ep) q2⟩;exact Paired.mapP (Gu rk .nil) λ_ _ q=>⟨q.1,q.2.le (.put aF)⟩⟩
theorem qm(i:Nat):ZE (tVar i) (uVar i):=⟨λA ι Z H ρ M Qu Q w e ⟨u,h,q⟩ k=>by
 obtain⟨v,h1,h2⟩:=e.get h;exact⟨v,h1,k u M ι v H (.refl _ _) w h2 q⟩⟩
theorem ce_c(h:Sc v t):ZE (tC v) (uC t):=⟨λA ι Z H ρ M Qu Q w e q k=>k _ M ι v H (.refl _ _) w (.p h.rep) q⟩
theorem qU  : ZA 0 tNil uNil:=⟨q6R ⟩
theorem qo(ha:ZE ta ua)(hl:ZA n tl ul):ZA (n+1) (vE ta tl) (XO ua ul):=⟨λA ι Z H ρ M Qu Q w e q k=>
 ha.h A ι Z H ρ M _ _ w e q λx M1 a6 v H1 l1 w1 r1 q1=>hl.h A a6 Z H1 ρ M1 _ _ w1 (e.le l1) q1 λxs M2 ac vs H2 l2 w2 hn r2 q2=>
  k (x::xs) M2 ac (v::vs) H2 (l1.trans l2) w2 (by rw[Dj,hn]) (.cons (r1.le l2) r2) q2⟩
theorem zW(h:OpL r s)(ha:ZE ta ua)(hb:ZE tb ub):ZE (tOp r ta tb) (uOp s ua ub):=⟨λA ι Z H ρ M Qu Q w e q k=>
 ha.h A ι Z H ρ M _ _ w e q λx M1 a6 v H1 l1 w1 r1 q1=>hb.h A a6 Z H1 ρ M1 _ _ w1 (e.le l1) q1 λy M2 ac v2 H2 l2 w2 r2 ⟨a,b,e1,e2,q2⟩=>
  h A ac H2 M2 v v2 a b _ Q w2 ((r1.le l2).sn w2 e1) (r2.sn w2 e2) q2 λt c7 z H3 l3 w3 r3 q3=>k _ M2 c7 z H3 ((l1.trans l2).trans l3) w3 (.p r3) q3⟩
theorem q6I(ha:ZE ta ua):ZE (tOp (λx y H Q=>y=.non/\Q (.bl (decide (x=.non))) H) ta (tC .non)) (uIsN false ua):=⟨λA ι Z H ρ M Qu Q w e q k=>
 ha.h A ι Z H ρ M _ _ w e q λx M1 a6 v H1 l1 w1 r1 q1=>⟨rfl,by rw[Xf r1];exact k _ M1 a6 _ H1 l1 w1 (.p (.bl _)) q1⟩⟩
theorem q3P(ha:ZE ta ua):ZE (tOp (λx y H Q=>y=.non/\Q (.bl (!decide (x=.non))) H) ta (tC .non)) (uIsN true ua):=⟨λA ι Z H ρ M Qu Q w e q k=>
 ha.h A ι Z H ρ M _ _ w e q λx M1 a6 v H1 l1 w1 r1 q1=>⟨rfl,by rw[Xf r1];exact k _ M1 a6 _ H1 l1 w1 (.p (.bl _)) q1⟩⟩
theorem q2H(ha:ZE ta ua):ZE (tUn (rU λi=>.int (-i)) ta) (uNeg ua):=⟨λA ι Z H ρ M Qu Q w e q k=>
 ha.h A ι Z H ρ M _ _ w e q λx M1 a6 v H1 l1 w1 r1 zz=>by
  obtain⟨i,ex,q1⟩:=zz;subst ex;cases r1 with
  |p r=>cases r;exact⟨i,rfl,k _ M1 a6 _ H1 l1 w1 (.p (.int _)) q1⟩⟩
theorem ct_b(ha:ZE ta ua):ZT (tB ta) (uB ua):=⟨lt_b ha.h⟩
theorem Zj(ha:ZE ta ua):ZT (Vu ta) (uB ua):=⟨lt_b ha.h⟩
theorem q2S(ha:ZE ta ua):ZT (tTru Ξ ta) (uTru ua):=⟨λA ι Z H ρ M Qu Q w e q k=>
 ha.h A ι Z H ρ M _ _ w e q λx M1 a6 v H1 l1 w1 r1 ⟨b,eb,q1⟩=>⟨b,q6c w1 r1 eb,k b M1 a6 H1 l1 w1 q1⟩⟩
theorem q37(ha:ZT tt ut)(hb:ZT tt' ut'):ZT (tAnd tt tt') (uAnd ut ut'):=⟨λA ι Z H ρ M Qu Q w e q k=>
 ha.h A ι Z H ρ M _ _ w e q λc M1 a6 H1 l1 w1 q1=>by
  cases c with
  |false=>exact k false M1 a6 H1 l1 w1 q1
  |true=>exact hb.h A a6 Z H1 ρ M1 _ _ w1 (e.le l1) q1 λb M2 ac H2 l2 w2 q2=>k b M2 ac H2 (l1.trans l2) w2 q2⟩
theorem q9J(ha:ZT tt ut)(hb:ZT tt' ut'):ZT (tOr tt tt') (uOr ut ut'):=⟨λA ι Z H ρ M Qu Q w e q k=>
 ha.h A ι Z H ρ M _ _ w e q λc M1 a6 H1 l1 w1 q1=>by
  cases c with
  |true=>exact k true M1 a6 H1 l1 w1 q1
  |false=>exact hb.h A a6 Z H1 ρ M1 _ _ w1 (e.le l1) q1 λb M2 ac H2 l2 w2 q2=>k b M2 ac H2 (l1.trans l2) w2 q2⟩
theorem q2E(ha:ZT tt ut):ZT (tNot tt) (uNot ut):=⟨λA ι Z H ρ M Qu Q w e q k=>
 ha.h A ι Z H ρ M _ _ w e q λc M1 a6 H1 l1 w1 q1=>k _ M1 a6 H1 l1 w1 q1⟩
theorem q5I(ha:ZE ta ua)(hb:ZE tb ub):ZE (ZB ta tb) (q8O ua ub):=⟨λA ι Z H ρ M Qu Q w e q k=>
 ha.h A ι Z H ρ M _ _ w e q λx M1 a6 v H1 l1 w1 r1 zz=>by
  obtain⟨c,ex,q1⟩:=zz;subst ex;cases r1 with
  |p r=>
   cases r;refine⟨c,rfl,?_⟩;cases c with
   |false=>exact k _ M1 a6 _ H1 l1 w1 (.p (.bl _)) q1
   |true=>exact hb.h A a6 Z H1 ρ M1 _ _ w1 (e.le l1) q1 λb M2 ac v2 H2 l2 w2 r2 q2=>k b M2 ac v2 H2 (l1.trans l2) w2 r2 q2⟩
theorem q5M(hc:ZT tt ut)(ha:ZE ta ua)(hb:ZE tb ub):ZE (tIf tt ta tb) (uIf ut ua ub):=⟨λA ι Z H ρ M Qu Q w e q k=>
 hc.h A ι Z H ρ M _ _ w e q λc M1 a6 H1 l1 w1 q1=>by
  cases c with
  |true=>exact ha.h A a6 Z H1 ρ M1 _ _ w1 (e.le l1) q1 λb M2 ac v2 H2 l2 w2 r2 q2=>k b M2 ac v2 H2 (l1.trans l2) w2 r2 q2
  |false=>exact hb.h A a6 Z H1 ρ M1 _ _ w1 (e.le l1) q1 λb M2 ac v2 H2 l2 w2 r2 q2=>k b M2 ac v2 H2 (l1.trans l2) w2 r2 q2⟩
theorem q0Z(h:OpL r s)(h':OpL r' s')(ha:ZE ta ua)(hb:ZE tb ub)(hc:ZE tc uc):ZE (j7 r r' ta tb tc) (JU s s' ua ub uc):=⟨by
 intro A ι Z H ρ M Qu Q w e q k;refine ha.h A ι Z H ρ M _ _ w e q λx M1 a6 v H1 l1 w1 r1 q1=>?_;refine hb.h A a6 Z H1 ρ M1 _ _ w1 (e.le l1) q1 λy M2 ac v2 H2 l2 w2 r2 q2=>?_;obtain⟨a,b,e1,e2,q2⟩:=q2;refine h A ac H2 M2 v v2 a b _ _ w2 ((r1.le l2).sn w2 e1) (r2.sn w2 e2) q2 λt c7 z H3 l3 w3 r3 q3=>?_;obtain⟨kk,et,q3⟩:=q3;subst et;cases r3;refine⟨kk,rfl,?_⟩;cases kk with
 |false=>exact k _ M2 c7 _ H3 ((l1.trans l2).trans l3) w3 (.p (.bl _)) q3
 |true=>
  refine hc.h A c7 Z H3 ρ M2 _ _ w3 (e.le ((l1.trans l2).trans l3)) q3 λc M4 eh v4 H4 l4 w4 r4 q4=>?_;obtain⟨b',c',e3,e4,q4⟩:=q4;exact h' A eh H4 M4 v2 v4 b' c' _ Q w4 ((r2.le (l3.trans l4)).sn w4 e3) (r4.sn w4 e4) q4 λt cU z H5 l5 w5 r5 q5=>k _ M4 cU z H5 ((((l1.trans l2).trans l3).trans l4).trans l5) w5 (.p r5) q5⟩
theorem KJ(ha:ZA n tl ul)(hn:n<=1000:=by decide):ZE (tTup tl) (uTup ul):=⟨λA ι Z H ρ M Qu Q w e q k=>
 ha.h A ι Z H ρ M _ _ w e q λus M1 a6 vs H1 l1 w1 hl r1 zz=>by
  obtain⟨ts,et,q1⟩:=zz;have r2:=r1;rw[zn et]at r2;exact⟨by rw[r1.len,hl];exact DT (qW hn),λp hp=>k _ M1 a6 _ _ (l1.trans (.fresh hp)) (w1.fresh hp) (.p (ju w1 hp r2.pures)) q1⟩⟩
theorem qaI(ha:ZA n tl ul)(hn:n<=1000:=by decide):ZE (tLst tl) (uLst ul):=⟨λA ι Z H ρ M Qu Q w e q k=>
 ha.h A ι Z H ρ M _ _ w e q λus M1 a6 vs H1 l1 w1 hl r1 zz=>by
  obtain⟨ts,et,q1⟩:=zz;have r2:=r1;rw[zn et]at r2;exact⟨by rw[r1.len,hl];exact DT (qW hn),λp hp=>k _ M1 a6 _ _ (l1.trans (.fresh hp)) (w1.fresh hp) (.p (zw w1 hp r2.pures)) q1⟩⟩
theorem QN(ha:ZA n tl ul)(hn:n<=1000:=by decide):ZE (tLst tl) (uNew ul):=⟨λA ι Z H ρ M Qu Q w e q k=>
 ha.h A ι Z H ρ M _ _ w e q λus M1 a6 vs H1 l1 w1 hl r1 q1=>⟨by rw[r1.len,hl];exact DT (qW hn),λp hp=>k _ _ _ _ _ (l1.trans (.push hp)) (zG w1 hp r1).1 (zG w1 hp r1).2 q1⟩⟩
theorem q4f(ha:ZA n tl ul)(hn:n<=1000:=by decide):ZE (tTup tl) (q87 ul):=⟨λA ι Z H ρ M Qu Q w e q k=>
 ha.h A ι Z H ρ M _ _ w e q λus M1 a6 vs H1 l1 w1 hl r1 q1=>⟨by rw[r1.len,hl];exact DT (qW hn),λp hp=>k _ _ _ _ _ (l1.trans (.push hp)) (Gk w1 hp r1).1 (Gk w1 hp r1).2 q1⟩⟩
theorem qaK(ha:ZE ta ua)(hb:ZE tb ub):ZE (tOp (rIxL Ξ) ta tb) (uIx qQ ua ub):=⟨λA ι Z H ρ M Qu Q w e q k=>
 ha.h A ι Z H ρ M _ _ w e q λx M1 a6 v H1 l1 w1 r1 q1=>hb.h A a6 Z H1 ρ M1 _ _ w1 (e.le l1) q1 λy M2 ac v2 H2 l2 w2 r2 zz=>by
  obtain⟨us,i,z,e1,e2,e3,q2⟩:=zz;subst e2;obtain⟨p,vs,rfl,h1,h2⟩:=vD w2 (r1.le l2) e1;obtain⟨x',h3,h4⟩:=JN h2 e3;cases r2 with
  |p r=>cases r;exact⟨p,vs,i,x',rfl,rfl,SqL.of h1,h3,k z M2 ac x' H2 (l1.trans l2) w2 h4 q2⟩⟩
theorem q6H(ha:ZE ta ua)(hb:ZE tb ub):ZE (tOp (rIxT Ξ) ta tb) (uIx vC ua ub):=⟨λA ι Z H ρ M Qu Q w e q k=>
 ha.h A ι Z H ρ M _ _ w e q λx M1 a6 v H1 l1 w1 r1 q1=>hb.h A a6 Z H1 ρ M1 _ _ w1 (e.le l1) q1 λy M2 ac v2 H2 l2 w2 r2 zz=>by
  obtain⟨us,i,z,e1,e2,e3,q2⟩:=zz;subst e2;obtain⟨p,vs,rfl,h1,h2⟩:=zu w2 (r1.le l2) e1;obtain⟨x',h3,h4⟩:=JN h2 e3;cases r2 with
  |p r=>cases r;exact⟨p,vs,i,x',rfl,rfl,SqT.of h1,h3,k z M2 ac x' H2 (l1.trans l2) w2 h4 q2⟩⟩
theorem qaP(h:CbL r s)(ha:ZA n tl ul):ZE (tCB r tl) (uCb s ul):=⟨λA ι Z H ρ M Qu Q w e q k=>
 ha.h A ι Z H ρ M _ _ w e q λus M1 a6 vs H1 l1 w1 hl r1 ⟨ts,e1,q1⟩=>h A a6 H1 M1 vs ts _ Q w1 (r1.sns w1 e1) q1 λt ac z H2 l2 w2 r2 q2=>k _ M1 ac z H2 (l1.trans l2) w2 (.p r2) q2⟩
theorem q8P(ha:ZA n tl ul):ZE (tCB q4e tl) (uLen qQ ul):=⟨λA ι Z H ρ M Qu Q w e q k=>
 ha.h A ι Z H ρ M _ _ w e q λus M1 a6 vs H1 l1 w1 hl r1 zz=>by
  obtain⟨x,ys,e1,e2,q1⟩:=zz;subst e1;cases r1 with
  |cons r q=>
   cases q;obtain⟨p,zs,rfl,h1,h2⟩:=vD w1 r e2;exact⟨p,zs,rfl,h1,by rw[h2.len];exact k _ M1 a6 _ H1 l1 w1 (.p (.int _)) q1⟩⟩
theorem q62(ha:ZE ta ua):ZE (tBM0 Ξ "int" rBits ta) (q8I ua):=⟨λA ι Z H ρ M Qu Q w e q k=>
 ha.h A ι Z H ρ M _ _ w e q λx M1 a6 v H1 l1 w1 r1 zz=>by
  obtain⟨i,ex,q1⟩:=zz;subst ex;cases r1 with
  |p r=>cases r;exact⟨rfl,i,rfl,rfl,k _ M1 a6 _ H1 l1 w1 (.p (.int _)) q1⟩⟩
theorem JL  : ZO zZ XM:=⟨q61 ⟩
theorem QM(ha:ZE ta ua):ZO (Zy ta) (q8W ua):=⟨λA ι Z H ρ M Qu Q w e q k=>
 ha.h A ι Z H ρ M _ _ w e q λx M1 a6 v H1 l1 w1 r1 zz=>by
  obtain⟨i,ex,q1⟩:=zz;subst ex;cases r1 with
  |p r=>cases r;exact⟨i,rfl,k _ M1 a6 H1 l1 w1 q1⟩⟩
theorem q8E(ha:ZE ta ua)(h1:ZO t1 u1)(h2:ZO t2 u2):ZE (tSl (rSlL Ξ) ta t1 t2) (uSl ua u1 u2):=⟨λA ι Z H ρ M Qu Q w e q k=>
 ha.h A ι Z H ρ M _ _ w e q λx M1 a6 v H1 l1 w1 r1 q1=>h1.h A a6 Z H1 ρ M1 _ _ w1 (e.le l1) q1 λlo M2 ac H2 l2 w2 q2=>h2.h A ac Z H2 ρ M2 _ _ w2 (e.le (l1.trans l2)) q2 λhi M3 c7 H3 l3 w3 zz=>by
  obtain⟨ts,es,q3⟩:=zz;obtain⟨p,vs,rfl,h4,h5⟩:=((r1.le (l2.trans l3)).sn w3 es).lst_inv;exact⟨p,vs,rfl,SqL.of h4,λr hr=>k _ M3 c7 _ _ (((l1.trans l2).trans l3).trans (.fresh hr)) (w3.fresh hr) (.p (zw w3 hr (JK h5))) q3⟩⟩
theorem qaE(ha:ZE ta ua):ZI (Yn Ξ ta) (q7z ua):=⟨λA ι Z H ρ M Qu R w e q k=>
 ha.h A ι Z H ρ M _ _ w e q λx M1 a6 v H1 l1 w1 r1 zz=>by
  obtain⟨us,eu,q1⟩:=zz;obtain⟨p,vs,rfl,h1,h2⟩:=vD w1 r1 eu;refine⟨p,rfl,⟨vs,SqL.of h1⟩,k _ M1 a6 _ H1 l1 w1 ?_ q1⟩;intro A' ac H2 M2 i l w2 ok;obtain⟨p',cT,e2,h3,h4⟩:=vD w2 (r1.lea l) ok;cases e2;have hl:=h4.len;refine⟨λhi=>?_,λhi=>⟨cT,SqL.of h3,by rw[hl];exact RW hi.symm⟩⟩;have hx:cT[i]?=some (cT[i]'(by rw[hl];exact hi)):=Dc _;refine⟨⟨cT,_,SqL.of h3,hx⟩,λx H' y=>?_⟩;obtain⟨rfl,y⟩:=y;have eQ:=y cT (SqL.of h3);obtain⟨z,hz,rz⟩:=Paired.getL h4 eQ;exact⟨z,hz,.refl _ _,w2,rz⟩⟩
theorem q8c(ha:ZA n tl ul):ZI (iRev Ξ tl) (uRev ul):=⟨λA ι Z H ρ M Qu R w e q k=>
 ha.h A ι Z H ρ M _ _ w e q λxs M1 a6 pp H1 l1 w1 hn r0 zz=>by
  obtain⟨x,us,ex,eu,q1⟩:=zz;subst ex;cases r0 with
  |cons r1 r0=>
  cases r0;obtain⟨p,vs,rfl,h1,h2⟩:=vD w1 r1 eu;refine⟨p,vs,rfl,SqL.of h1,k _ M1 a6 _ H1 l1 w1 ?_ q1⟩;intro A' ac H2 M2 i l w2 ok;obtain⟨p',cT,e2,h3,h4⟩:=vD w2 (r1.lea l) ok;cases e2;have hl:=h4.len;have i7:=h2.len;refine⟨λhi=>?_,λhi=>by show vs.length=i;rw[i7];exact hi.symm⟩;refine⟨⟨by rw[i7];exact hi,cT,SqL.of h3,by rw[hl,i7]⟩,λx H' y=>?_⟩;obtain⟨rfl,y⟩:=y;have eQ:=y cT (SqL.of h3);obtain⟨z,hz,rz⟩:=Paired.getL h4 eQ;exact⟨z,by rw[<-i7];exact hz,.refl _ _,w2,rz⟩⟩
theorem q3w(ha:ZA n tl ul):ZI (Ym tl) (q8N ul):=⟨λA ι Z H ρ M Qu R w e q k=>
 ha.h A ι Z H ρ M _ _ w e q λxs M1 a6 pp H1 l1 w1 hn r0 zz=>by
  obtain⟨j,ex,j0,j1,q1⟩:=zz;subst ex;cases r0 with
  |cons r1 r0=>
  cases r0;cases r1 with
  |p r=>
  cases r;have:=q72 (A:=A) (ι:=a6) (H:=H1) (lo:=0) (n:=j.toNat);simp only[qbq]at this;exact⟨j,rfl,j0,j1,k _ M1 a6 _ H1 l1 w1 this q1⟩⟩
theorem qH(i:Nat):ZG (qM i) (KM i):=⟨λA ι Z H ρ M v u Qu Q w e r q k=>k _ M ι _ H (.refl _ _) w (e.put i r) q⟩
theorem q0W(i j:Nat):ZG (gTup Ξ 2 (vj (qM i) (vj (qM j) gNil))) (YF i j):=⟨λA ι Z H ρ M v u Qu Q w e r ⟨a,b,ei,q⟩ k=>by
 obtain⟨p,vs,rfl,h1,h2⟩:=zu w r ei;obtain⟨x,y,rfl,r1,r2⟩:=rep2 h2;exact Ko h1 (k _ M ι _ H (.refl _ _) w ((e.put i r1).put j r2) q)⟩
theorem q1e(i j l:Nat):ZG (gTup Ξ 3 (vj (qM i) (vj (qM j) (vj (qM l) gNil)))) (Zu i j l):=⟨λA ι Z H ρ M v u Qu Q w e r ⟨a,b,c,ei,q⟩ k=>by
 obtain⟨p,vs,rfl,h1,h2⟩:=zu w r ei;obtain⟨x,y,z,rfl,r1,r2,r3⟩:=rep3 h2;exact V7 h1 (k _ M ι _ H (.refl _ _) w (((e.put i r1).put j r2).put l r3) q)⟩
theorem q7o(ha:ZE ta ua)(hb:ZE tb ub):ZG (gSub ta tb Wr) (uSub ua ub):=⟨λA ι Z H ρ M v u Qu Q w e r q k=>
 ha.h A ι Z H ρ M _ _ w e q λo M1 a6 v1 H1 l1 w1 r1 q1=>hb.h A a6 Z H1 ρ M1 _ _ w1 (e.le l1) q1 λi M2 ac v2 H2 l2 w2 r2 zz=>by
  obtain⟨kk,us,z,j,eo,em,ei,ej,q2⟩:=zz;subst eo ei;cases r2 with
  |p r2=>
  cases r2;have dg:=r1.le l2;cases dg with
  |m ek=>
  obtain⟨vs,h1,h2⟩:=w2.obj kk _ _ ek em;have hm:=De ek;refine⟨_,vs,z,j,rfl,rfl,h1,by rw[h2.len];exact ej,k _ _ ac _ _ ((l1.trans l2).trans (.put hm)) (w2.put (mo:=.lst (us.set j u)) ek ⟨_,upd_same,?_⟩) (e.le ((l1.trans l2).trans (.put hm))) q2⟩;exact RepUs.le (.put hm) (Paired.put (r.le (l1.trans l2)) j h2)⟩
theorem KH(i:Nat)(h:xK bs n i=true:=by rfl):ZX bs n (qM i) (KM i):=⟨λA ι Z H ρ M v u Qu Q hl w e r q k=>
 k _ _ (e.put i r) ((ExtS.refl _).put (jn hl h)) (by simp) q⟩
theorem qaH(i j l:Nat)(h:xK bs n i=true:=by rfl)(h2:xK bs n j=true:=by rfl)(h3:xK bs n l=true:=by rfl):ZX bs n (gTup Ξ 3 (vj (qM i) (vj (qM j) (vj (qM l) gNil)))) (Zu i j l):=⟨λA ι Z H ρ M v u Qu Q hl w e r ⟨a,b,c,ei,q⟩ k=>by
 obtain⟨p,vs,rfl,h1,hh⟩:=zu w r ei;obtain⟨x,y,z,rfl,r1,r2,r3⟩:=rep3 hh;exact V7 h1 (k _ _ (((e.put i r1).put j r2).put l r3) ((((ExtS.refl _).put (jn hl h)).put (jn hl h2)).put (jn hl h3)) (by simp) q)⟩
theorem q3k:ZT tYes (λ_ M Q=>Q true M):=⟨q6f ⟩
theorem q65(hi:ZI wi ui)(hg:ZX bs n g ug)(ht:ZT tt ut)(he:ZE te ue):ZE (xG wi bs n g tt te) (q80 ui bs n ug ut ue):=⟨by
 intro A ι Z H ρ M Qu Q w e q k;refine hi.h A ι Z H ρ M _ _ w e q λit M1 a6 J H1 l1 w1 hJ q1 a8 bD=>?_;obtain⟨ay,hsz,Iv,I0,It,Id⟩:=q1;have lO:Z.length=bs.length:=by rw[<-ay];exact e.len
 have e1:=e.le l1;have na:¬Av A a6 a8:=w1.nA bD;have aD:∀ac H2,Le a6 H1 ac H2->(∀x∈ac,¬(A x\/x=a8))->Lea A a6 H1 (λx=>A x\/x=a8) ac H2:=λac H2 l h=>by
  refine⟨let⟨n,e,_⟩:=l.ext;⟨n,e⟩,λx o hx ex=>?_,l.xd⟩;obtain⟨a1,a2⟩:=l.av hx ex;refine⟨a1,λz=>?_⟩;rcases z with(z|z)|z
  ·exact a2 (.inl z)
  ·rw[z,bD]at ex;cases ex
  ·exact a2 (.inr z)
 refine⟨λi m H2=>m=it.n-i/\i<=it.n/\∃ac M2 ax ys,Le a6 H1 ac H2/\Wd (λx=>A x\/x=a8) ac H2 M2/\H2 a8=some (.lst ys)/\RepTs (Av (λx=>A x\/x=a8) ac) H2 ys ax/\ax.length<=i/\Iv i ax M2,
  ⟨it.n,by simp,DQ _,a6,M1, [], [],.fresh bD,w1.addA bD,upd_same,.nil,Dh _,I0⟩,?_⟩
 rintro i m H2 ⟨rfl,cz,ac,M2,ax,ys,l2,w2,fN,fQ,fR,I2⟩;have lea:=aD ac H2 l2 w2.na;by_cases bY:i<it.n
 ·obtain⟨ok,step⟩:=It i ax M2 bY fR I2
  obtain⟨i8,jy⟩:=(hJ _ ac H2 M2 i lea w2 ok).1 bY;refine .inr ⟨i8,λH'=>∃ac M2 ax ys,Le a6 H1 ac H'/\Wd (λx=>A x\/x=a8) ac H' M2/\H' a8=some (.lst ys)/\RepTs (Av (λx=>A x\/x=a8) ac) H' ys ax/\ax.length<=i+1/\Iv (i+1) ax M2,λH' h=>⟨it.n-(i+1),by lia,rfl,bY,h⟩,λx H3 y=>?_⟩;obtain⟨u,hu,l3,w3,r3⟩:=jy x H3 y;have dM:=l2.trans l3;have dh:∀{ag:List Addr}{H':Hp}{M':MM},Wd (λx=>A x\/x=a8) ag H' M'->a8∉ag:=λw z=>w.na a8 z (.inr rfl);have lP:H3 a8=some (.lst ys):=l3.fr _ _ fN (dh w2);have fS:EnvR (λx=>A x\/x=a8) ac H3 (zg bs n Z) (Ye bs n ρ):=(e1.mask).lea (aD ac H3 dM w3.na);refine hg.h _ ac Z H3 _ M2 x u _ _ lO w3 fS r3 (step u hu) λc6 cQ e4 x4 fT q4=>⟨⟨x4,fT⟩,?_⟩;refine ht.h _ ac cQ H3 c6 M2 _ _ w3 e4 q4 λb M5 cU H5 l5 w5 q5=>?_;have i9:H5 a8=some (.lst ys):=l5.fr _ _ lP (dh w3);have er:RepTs (Av (λx=>A x\/x=a8) cU) H5 ys ax:=Paired.mapP fQ λ_ _ q=>(q.le l3).le l5;cases b with
  |false=>exact⟨cU,M5,ax,ys,dM.trans l5,w5,i9,er,Bq fR,q5⟩
  |true=>
   refine he.h _ cU cQ H5 c6 M5 _ _ w5 (e4.le l5) q5 λz M6 lQ zv H6 l6 w6 r6 q6=>?_;obtain⟨t,rfl,q6⟩:=q6;have fU:H6 a8=some (.lst ys):=l6.fr _ _ i9 (dh w5);refine⟨ys,fU,?_,lQ,M6,ax++[t],ys++[zv],((dM.trans l5).trans l6).updF bD,(w6.updA (.inr rfl) fU).2,upd_same,?_,by rw[Dg,D5];lia,q6⟩
   ·rw[fQ.len];lia
   ·have hl:=(w6.updA (o:=.lst (ys++[zv])) (.inr rfl) fU).1
    cases r6 with
    |p r6=>exact Paired.app (Paired.mapP er λ_ _ q=>(q.le l6).mono hl.av) (.cons (r6.mono hl.av) .nil)
 ·have ei:i=it.n:=by lia
  subst ei;obtain⟨ok,fin⟩:=Id ax M2 I2;refine .inl ⟨(hJ _ ac H2 M2 _ lea w2 ok).2 rfl,k _ M2 ac _ H2 (l1.trans l2) (w2.lessA λx hx=>.inl hx) (.p (.lstP (λz=>?_) fN (Paired.mapP fQ λ_ _ q=>q.mono λx o hx ex=>⟨ex,λz=>hx (z.elim (λz=>.inl (.inl z)) .inr)⟩))) fin⟩;rcases z with z|z
  ·exact na (.inl z)
  ·exact w2.na a8 z (.inr rfl)⟩
theorem vP  : ZS Vv YE:=⟨q4x ⟩
theorem qk(ha:ZS ts us)(hb:ZS ts' cB):ZS (tSeq ts ts') (uSeq us cB):=⟨λA ι Z H ρ M D E w e r q=>
 ha.h A ι Z H ρ M _ { E with nx:=cB E } w e ⟨λa6 cx H1 dL M1 l w1 e1 q1=>hb.h A a6 cx H1 dL M1 D E w1 e1 (r.le l) q1,r.rt,r.bk,r.ct⟩ q⟩
theorem qaA(ha:ZE ta ua):ZS (Zz ta) (q6h ua):=⟨λA ι Z H ρ M D E w e r q=>
 ha.h A ι Z H ρ M _ _ w e q λx M1 a6 v H1 l1 w1 r1 q1=>r.nx a6 Z H1 ρ M1 l1 w1 (e.le l1) q1⟩
theorem zx(ha:ZE ta ua):ZS (tRet ta) (uRet ua):=⟨λA ι Z H ρ M D E w e r q=>
 ha.h A ι Z H ρ M _ _ w e q λx M1 a6 v H1 l1 w1 r1 q1=>r.rt a6 v H1 x M1 l1 w1 r1 q1⟩
theorem q4v  : ZS Zx q3t:=⟨q4h ⟩
theorem j2(hc:ZT tt ut)(ha:ZS ts us)(hb:ZS ts' cB):ZS (tIfS tt ts ts') (uIfS ut us cB):=⟨λA ι Z H ρ M D E w e r q=>
 hc.h A ι Z H ρ M _ _ w e q λc M1 a6 H1 l1 w1 q1=>by
  cases c with
  |true=>exact ha.h A a6 Z H1 ρ M1 D E w1 (e.le l1) (r.le l1) q1
  |false=>exact hb.h A a6 Z H1 ρ M1 D E w1 (e.le l1) (r.le l1) q1⟩
theorem vf(ha:ZE ta ua)(hg:ZG g ug):ZS (tAsg ta g) (uAsg ua ug):=⟨λA ι Z H ρ M D E w e r q=>
 ha.h A ι Z H ρ M _ _ w e q λx M1 a6 v H1 l1 w1 r1 q1=>hg.h A a6 Z H1 ρ M1 v x _ _ w1 (e.le l1) r1 q1 λaE M2 ac cy H2 l2 w2 e2 q2=>r.nx ac cy H2 aE M2 (l1.trans l2) w2 e2 q2⟩
theorem q8M(ha:ZE ta ua):ZS (tAug i ta (ipI f)) (uAug i f ua):=⟨λA ι Z H ρ M D E w e r zz=>by
 obtain⟨a,ea,q⟩:=zz;obtain⟨x,h1,h2⟩:=e.get ea;cases h2 with
 |p h2=>
 cases h2;refine⟨.int a,h1,ha.h A ι Z H ρ M _ _ w e q λy M1 a6 v H1 l1 w1 r1 q1=>?_⟩;obtain⟨b,rfl,q1⟩:=q1;cases r1 with
 |p r1=>
 cases r1;exact⟨a,b,rfl,rfl,r.nx a6 _ H1 _ M1 l1 w1 ((e.le l1).put i (.p (.int _))) q1⟩⟩
theorem Vm(hi:ZI wi ui)(hg:ZG g ug)(hb:ZS ts us):ZS (tFor wi g ts) (uFor ui ug us):=⟨by
 intro A ι Z H ρ M D E w e r q;refine hi.h A ι Z H ρ M _ _ w e q λit M1 a6 J H1 l1 w1 hJ q1=>?_;obtain⟨Iv,I0,It,Id⟩:=q1;have r1:=r.le l1;refine⟨λi m cy H2=>m=it.n-i/\i<=it.n/\∃ac aE M2,Le a6 H1 ac H2/\Wd A ac H2 M2/\EnvR A ac H2 cy aE/\Iv i aE M2,⟨it.n,by simp,DQ _,a6,ρ,M1,.refl _ _,w1,e.le l1,I0⟩,?_⟩;rintro i m cy H2 ⟨rfl,cz,ac,aE,M2,l2,w2,e2,I2⟩;by_cases bY:i<it.n
 ·obtain⟨ok,step⟩:=It i aE M2 bY I2
  obtain⟨i8,jy⟩:=(hJ A ac H2 M2 i l2.lea w2 ok).1 bY;refine .inr ⟨i8,λaj H'=>∃ac aE M2,Le a6 H1 ac H'/\Wd A ac H' M2/\EnvR A ac H' aj aE/\Iv (i+1) aE M2,λaj H' h=>⟨it.n-(i+1),by lia,rfl,bY,h⟩,λx H3 y=>?_⟩;obtain⟨u,hu,l3,w3,r3⟩:=jy x H3 y;refine hg.h A ac cy H3 aE M2 x u _ _ w3 (e2.le l3) r3 (step u hu) λc6 M4 eh cQ H4 l4 w4 e4 q4=>?_;have iO:=(l2.trans l3).trans l4;exact hb.h A eh cQ H4 c6 M4 _ { E with nx:=Iv (i+1),ct:=Iv (i+1),bk:=E.nx } w4 e4 ⟨λcU lR H5 fV M5 l5 w5 e5 q5=>⟨cU,fV,M5,iO.trans l5,w5,e5,q5⟩,(r1.le iO).rt,(r1.le iO).nx,λcU lR H5 fV M5 l5 w5 e5 q5=>⟨cU,fV,M5,iO.trans l5,w5,e5,q5⟩⟩ q4
 ·have ei:i=it.n:=by lia
  subst ei;obtain⟨ok,fin⟩:=Id aE M2 I2;exact .inl ⟨(hJ A ac H2 M2 _ l2.lea w2 ok).2 rfl,r1.nx ac cy H2 aE M2 l2 w2 e2 fin⟩⟩
theorem Ky(hc:ZT tt ut)(hb:ZS ts us):ZS (JZ tt ts) (q6O ut us):=⟨by
 intro A ι Z H ρ M D E w e r q;obtain⟨W,⟨m0,W0⟩,step⟩:=q;refine⟨λm cy H2=>∃ac aE M2,Le ι H ac H2/\Wd A ac H2 M2/\EnvR A ac H2 cy aE/\W m aE M2,⟨m0,ι,ρ,M,.refl _ _,w,e,W0⟩,?_⟩;rintro m cy H2 ⟨ac,aE,M2,l2,w2,e2,W2⟩;refine hc.h A ac cy H2 aE M2 _ _ w2 e2 (step m aE M2 W2) λb M3 c7 H3 l3 w3 q3=>?_;cases b with
 |false=>exact r.nx c7 cy H3 aE M3 (l2.trans l3) w3 (e2.le l3) q3
 |true=>
  obtain⟨N,hN,q3⟩:=q3;have dM:=l2.trans l3;refine⟨λaj H'=>∃eh c6 M4,Le ι H eh H'/\Wd A eh H' M4/\EnvR A eh H' aj c6/\N c6 M4,?_,?_⟩
  ·rintro aj H' ⟨eh,c6,M4,l4,w4,e4,n4⟩
   obtain⟨m',hm,W4⟩:=hN c6 M4 n4;exact⟨m',hm,eh,c6,M4,l4,w4,e4,W4⟩
  ·exact hb.h A c7 cy H3 aE M3 _ { E with nx:=N,ct:=N,bk:=E.nx } w3 (e2.le l3) ⟨λcU lR H5 fV M5 l5 w5 e5 q5=>⟨cU,fV,M5,dM.trans l5,w5,e5,q5⟩,(r.le dM).rt,(r.le dM).nx,λcU lR H5 fV M5 l5 w5 e5 q5=>⟨cU,fV,M5,dM.trans l5,w5,e5,q5⟩⟩ q3⟩
set_option tactic.hygienic true in
theorem q8e(h:MeL r s)(ha:ZE ta ua)(hl:ZA n tl ul):ZE (tLM r ta tl) (uMe s ua ul):=⟨λA ι Z H ρ M Qu Q w e q k=>
 ha.h A ι Z H ρ M _ _ w e q λo M1 a6 v H1 l1 w1 r1 zz=>by
  obtain⟨kk,eo,⟨zs,hz⟩,q1⟩:=zz;subst eo;cases r1 with
  |m ek=>
  rename_i a;obtain⟨iP,h1,_⟩:=w1.obj kk a _ ek hz;refine⟨a,iP,rfl,h1,hl.h A a6 Z H1 ρ M1 _ _ w1 (e.le l1) q1 λws M2 ac ys H2 l2 w2 hn r2 q2=>?_⟩;obtain⟨us,iG,q2⟩:=q2;have eR:ac[kk]?=some a:=by
   obtain⟨nn,rfl,_⟩:=l2.ext;rw[Df (Db.mp ek).1];exact ek
  obtain⟨pq,h3,h4⟩:=w2.obj kk a _ eR iG;have hm:=De eR;exact h A ac H2 M2 kk a pq ys us ws _ Q w2 eR h3 iG h4 r2 q2 λz cB zv gy rx rz qz=>k z _ ac zv _ ((l1.trans l2).trans (.put hm)) (w2.put (mo:=.lst cB) eR ⟨gy,upd_same,RepUs.le (.put hm) rx⟩) (rz.le (.put hm)) qz⟩
theorem vW(ha:ZA n tl ul):ZE (zT (spU G) [] E tl) (q8j G ul):=⟨λA ι Z H ρ M Qu Q w e q k=>
 ha.h A ι Z H ρ M _ _ w e q λus M1 a6 vs H1 l1 w1 hn r1 q1=>by
  rw[DD];exact⟨A,a6,M1,us,_,w1,r1,q1,λu M2 ac v H2 l2 w2 r2 q2=>k u M2 ac v H2 (l1.trans l2) w2 r2 q2⟩⟩
theorem xE(ha:ZA n tl ul):ZE (zT (spP G) [] E tl) (YJ G ul):=⟨λA ι Z H ρ M Qu Q w e q k=>
 ha.h A ι Z H ρ M _ _ w e q λus M1 a6 vs H1 l1 w1 hn r1 zz=>by
  obtain⟨ts,et,q1⟩:=zz;rw[DD];rw[zn et]at r1;exact⟨Av A a6,ts,_,w1.domAv,r1.pures,q1,λt v H2 s r2 q2=>k _ M1 a6 v H2 (l1.trans s.le) (w1.same s) (.p r2) q2⟩⟩
theorem q51(ha:ZE ta ua)(hb:ZE tb ub):ZE (YX ta tb) (q7B ua ub):=⟨λA ι Z H ρ M Qu Q w e q k=>
 ha.h A ι Z H ρ M _ _ w e q λx M1 a6 v H1 l1 w1 r1 q1=>hb.h A a6 Z H1 ρ M1 _ _ w1 (e.le l1) q1 λy M2 ac v2 H2 l2 w2 r2 zz=>by
  obtain⟨kk,kvs,aD,z,ex,em,ey,ez,q2⟩:=zz;subst ex ey;have dg:=r1.le l2;cases dg with
  |m ek=>
  obtain⟨gs,h1,h2⟩:=w2.obj kk _ _ ek em;have hv:=XH (k:=aD) h2;rw[ez]at hv;obtain⟨x',hx,rx⟩:=hv;refine⟨_,x',rfl,?_,k z M2 ac x' H2 (l1.trans l2) w2 rx q2⟩;have:=DGet.k (k:=aD) h1;rw[hx]at this;rw[Qp r2];exact this⟩
theorem q2Z(hc:ZT tt ut)(h1:Sc v1 t1)(h2:Sc v2 t2):ZE (tIf tt (tC v1) (tC v2)) (uIfC ut t1 t2):=⟨λA ι Z H ρ M Qu Q w e q k=>
 hc.h A ι Z H ρ M _ _ w e q λc M1 a6 H1 l1 w1 q1=>by
  cases c with
  |true=>exact k _ M1 a6 _ H1 l1 w1 (.p h1.rep) q1
  |false=>exact k _ M1 a6 _ H1 l1 w1 (.p h2.rep) q1⟩
theorem q6m(h:KTu Ξ p vs)(hs:Paired Sc vs ts)(hb:ZE tb ub):ZE (tOp (rIxT Ξ) (tC (.ref p)) tb) (uIxK ts ub):=⟨λA ι Z H ρ M Qu Q w e q k=>
 hb.h A ι Z H ρ M _ _ w e q λy M1 a6 v1 H1 l1 w1 r1 zz=>by
  obtain⟨i,ey,t,et,q1⟩:=zz;subst ey;cases r1 with
  |p r=>
  cases r;obtain⟨x,hx,sx⟩:=q0g hs et;exact⟨p,vs,i,x,rfl,rfl,h H1,hx,k _ M1 a6 x H1 l1 w1 (.p sx.rep) q1⟩⟩
theorem q3J(h:KTu Ξ p vs):ZE (tCB (q6d Ξ) (vE (tC (.ref p)) tNil)) (uC (.int vs.length)):=⟨λA ι Z H ρ M Qu Q w e q k=>
 ⟨p,vs,rfl,.inr (h H),k _ M ι _ H (.refl _ _) w (.p (.int _)) q⟩⟩
theorem qaL(c:TyC)(ha:ZE ta ua):ZE (tCB (rIsi Ξ) (vE ta (vE (tC (.ty c.name)) tNil))) (uIsi c ua):=⟨λA ι Z H ρ M Qu Q w e q k=>
 ha.h A ι Z H ρ M _ _ w e q λx M1 a6 v1 H1 l1 w1 r1 zz=>by
  obtain⟨b,eb,q1⟩:=zz;obtain⟨t,h1,h2⟩:=q3S (Ξ:=Ξ) w1 r1 eb;exact⟨v1,c.name,t,b,rfl,h1,h2,k _ M1 a6 _ H1 l1 w1 (.p (.bl _)) q1⟩⟩
theorem qaO  : ZE J1 q67:=⟨q57 ⟩
theorem q7a(ha:ZE ta ua)(hb:ZE tb ub):ZE (tDIn ta tb) (uDIn false ua ub):=⟨λA ι Z H ρ M Qu Q w e q k=>
 ha.h A ι Z H ρ M _ _ w e q λy M1 a6 v1 H1 l1 w1 r1 q1=>hb.h A a6 Z H1 ρ M1 _ _ w1 (e.le l1) q1 λx M2 ac v2 H2 l2 w2 r2 zz=>by
  obtain⟨kk,kvs,aD,ex,em,ey,q2⟩:=zz;subst ex ey;cases r2 with
  |m ek=>
  obtain⟨o,h1,h2⟩:=Kv w2 ek em (r1.le l2);exact⟨_,o,rfl,h1,by rw[h2];exact k _ M2 ac _ H2 (l1.trans l2) w2 (.p (.bl _)) q2⟩⟩
theorem qaN(ha:ZE ta ua)(hb:ZE tb ub):ZE (Vw ta tb) (uDIn true ua ub):=⟨λA ι Z H ρ M Qu Q w e q k=>
 ha.h A ι Z H ρ M _ _ w e q λy M1 a6 v1 H1 l1 w1 r1 q1=>hb.h A a6 Z H1 ρ M1 _ _ w1 (e.le l1) q1 λx M2 ac v2 H2 l2 w2 r2 zz=>by
  obtain⟨kk,kvs,aD,ex,em,ey,q2⟩:=zz;subst ex ey;cases r2 with
  |m ek=>
  obtain⟨o,h1,h2⟩:=Kv w2 ek em (r1.le l2);exact⟨_,o,rfl,h1,by rw[h2];exact k _ M2 ac _ H2 (l1.trans l2) w2 (.p (.bl _)) q2⟩⟩
theorem q5e(hd:ZE td ud)(hy:ZE ty uy)(hv:ZE tv uv):ZS (q7h td ty tv) (q7j ud uy uv):=⟨λA ι Z H ρ M D E w e r q=>
 hv.h A ι Z H ρ M _ _ w e q λv M1 a6 vv H1 l1 w1 r1 q1=>hd.h A a6 Z H1 ρ M1 _ _ w1 (e.le l1) q1 λx M2 ac vx H2 l2 w2 r2 q2=>hy.h A ac Z H2 ρ M2 _ _ w2 (e.le (l1.trans l2)) q2 λy M3 c7 vy H3 l3 w3 r3 zz=>by
  obtain⟨kk,kvs,aD,ex,em,ey,hz,q3⟩:=zz;subst ex ey;have pw:=r2.le l3;cases pw with
  |m ek=>
  obtain⟨gs,h1,h2⟩:=w3.obj kk _ _ ek em;have aF:=De ek;have l4:=(l1.trans l2).trans l3;refine⟨_,_,rfl,?_,r.nx c7 Z _ ρ _ (l4.trans (.put aF)) (w3.put (mo:=.dK (putU kvs aD v)) ek ⟨_,upd_same,Paired.mapP (WB h2 (r1.le (l2.trans l3))) λ_ _ q=>⟨q.1,q.2.le (.put aF)⟩⟩) (e.le (l4.trans (.put aF))) q3⟩;rw[Qp r3];exact DPut.k (k:=aD) h1 (by rw[h2.len];exact hz)⟩
theorem q42(T3:Tup3 Ξ mg nm p x y z)(ha:ZA n tl ul):ZE (tBM Ξ "tuple" (q7g p x y z) (tC (.ref p)) tl) (q6B [x,y,z] ul):=⟨λA ι Z H ρ M Qu Q w e q k=>
 ⟨T3.ty H,ha.h A ι Z H ρ M _ _ w e q λus M1 a6 vs H1 l1 w1 hn r1 zz=>by
  obtain⟨t,j,eu,ej,hf,q1⟩:=zz;subst eu;cases r1 with
  |cons r q'=>
  cases q';cases r with
  |p r=>
  cases r;exact⟨t,j,rfl,rfl,ej,hf,k _ M1 a6 _ H1 l1 w1 (.p (.int _)) q1⟩⟩⟩
theorem qaM(ha:ZE ta ua):ZE (tFld Ξ ta f) (uFld Ξ ua f):=⟨λA ι Z H ρ M Qu Q w e q k=>
 ha.h A ι Z H ρ M _ _ w e q λx M1 a6 v1 H1 l1 w1 r1 zz=>by
  obtain⟨kk,C,fs,u,ex,em,c,na,lk,q1⟩:=zz;subst ex;cases r1 with
  |m ek=>
  obtain⟨dx,gs,h1,h2,h3,h4⟩:=w1.obj kk _ _ ek em;obtain⟨v,hv,rv⟩:=Kj h4 lk;exact⟨_,C,dx,gs,v,rfl,h1,c,na,hv,k _ M1 a6 v H1 l1 w1 rv q1⟩⟩
set_option tactic.hygienic true in
theorem qaz(ha:ZE ta ua)(hv:ZE tv uv):ZS (sFld Ξ ta tv f) (XN Ξ ua uv f):=⟨λA ι Z H ρ M D E w e r q=>
 hv.h A ι Z H ρ M _ _ w e q λy M1 a6 vy H1 l1 w1 r1 q1=>ha.h A a6 Z H1 ρ M1 _ _ w1 (e.le l1) q1 λx M2 ac vx H2 l2 w2 r2 zz=>by
  obtain⟨kk,C,fs,ex,em,c,na,hz,q2⟩:=zz;subst ex;cases r2 with
  |m ek=>
  rename_i a;obtain⟨dx,gs,h1,h2,h3,h4⟩:=w2.obj kk _ _ ek em;have aF:=De ek;have l4:=l1.trans l2;have dO:dx≠a:=λz=>by rw[z,h1]at h2;cases h2
  refine⟨a,C,dx,gs,rfl,h1,c,na,by rw[h4.len];exact hz,r.nx ac Z _ ρ _ (l4.trans (.put aF)) (w2.put (mo:=.ins C (Qg f y fs)) ek ⟨dx,_,upd_same,by rw[upd_ne dO];exact h2,h3,Paired.mapP (Kb h4 (r1.le l2)) λ_ _ q=>⟨q.1,q.2.le (.put aF)⟩⟩) (e.le (l4.trans (.put aF))) q2⟩⟩
theorem q5u(ha:ZE ta ua)(hl:ZA n tl ul):ZE (XS C m (spU G) [] E ta tl) (q8u C m G ua ul):=⟨λA ι Z H ρ M Qu Q w e q k=>
 ha.h A ι Z H ρ M _ _ w e q λx M1 a6 v1 H1 l1 w1 r1 zz=>by
  obtain⟨kk,fs,ex,em,lk,q1⟩:=zz;subst ex;have dg:=r1;cases dg with
  |m ek=>
  obtain⟨dx,gs,h1,h2,h3,h4⟩:=w1.obj kk _ _ ek em;refine⟨_,dx,gs,rfl,h1,Z8 h4 lk,hl.h A a6 Z H1 ρ M1 _ _ w1 (e.le l1) q1 λus M2 ac vs H2 l2 w2 hn r2 q2=>?_⟩;rw[DD];exact⟨A,ac,M2,_,_,w2,.cons (r1.le l2) r2,q2,λu M3 c7 v H3 l3 w3 r3 q3=>k u M3 c7 v H3 ((l1.trans l2).trans l3) w3 r3 q3⟩⟩
theorem q3X(hl:ZA n tl ul):ZE (q4R C (spU G) [] E tl) (q8Y C G ul):=⟨λA ι Z H ρ M Qu Q w e q k=>
 hl.h A ι Z H ρ M _ _ w e q λus M1 a6 vs H1 l1 w1 hn r1 q1 x dx hx lS dO=>by
  have eQ:upd H1 dx (.own x) x=none:=by rw[upd_ne (Ne.symm dO)];exact hx
  have l2:Le a6 H1 a6 (upd H1 dx (.own x)):=.fresh lS;have w2:=w1.fresh (o:=.own x) lS;have l3:Le a6 (upd H1 dx (.own x)) (a6++[x]) (upd (upd H1 dx (.own x)) x (.ins C dx [])):=.push eQ;have w3:Wd A (a6++[x]) (upd (upd H1 dx (.own x)) x (.ins C dx [])) (M1++[.ins C []]):=w2.push (mo:=.ins C []) eQ ⟨dx, [],upd_same,by rw[upd_ne dO,upd_same],λz=>by
   rcases Dl.mp z with z|z
   ·exact w1.nin lS z
   ·exact dO (Do.mp z),.nil⟩
  have rx:RepU A (a6++[x]) (upd (upd H1 dx (.own x)) x (.ins C dx [])) (.ref x) (.m M1.length):=.m (by rw[<-w1.len];exact xA);rw[DD];refine⟨A,a6++[x],_,_,_,w3,.cons rx (r1.le (l2.trans l3)),q1,λu M4 eh v4 H4 l4 w4 r4 q4=>?_⟩;obtain⟨eu,q4⟩:=q4;subst eu;cases r4 with
  |p r4=>
  cases r4;exact⟨rfl,k _ M4 eh _ H4 (l1.trans ((l2.trans l3).trans l4)) w4 (rx.le l4) q4⟩⟩
theorem Xy(ha:ZE ta ua)(hb:ZE tb ub):ZE (tOp rRep ta tb) (XJ ua ub):=⟨λA ι Z H ρ M Qu Q w e q k=>
 ha.h A ι Z H ρ M _ _ w e q λx M1 a6 v H1 l1 w1 r1 q1=>hb.h A a6 Z H1 ρ M1 _ _ w1 (e.le l1) q1 λy M2 ac v2 H2 l2 w2 r2 zz=>by
  obtain⟨xs,kk,ex,ey,k0,k1,hz,q2⟩:=zz;subst ex ey;have dg:=r1.le l2;cases dg with
  |p r1=>
  cases r2 with
  |p r2=>
  cases r2;obtain⟨p,vs,rfl,na,h1,h2⟩:=r1.lst_inv;refine⟨p,kk,vs,rfl,rfl,h1,k0,k1,by rw[h2.len];exact hz,λl hl=>?_⟩;have:=zG w2 hl (RepTs.ups (jT h2 kk.toNat));exact k _ _ _ _ _ ((l1.trans l2).trans (.push hl)) this.1 this.2 q2⟩
theorem q4J(hl:ZA n tl ul):ZS (q6N i j k tl) (q8X i j k ul):=⟨λA ι Z H ρ M D E w e r q=>
 hl.h A ι Z H ρ M _ _ w e q λus M1 a6 vs H1 l1 w1 hn r1 zz=>by
  obtain⟨a,b,c,eu,q1⟩:=zz;subst eu;obtain⟨x,y,z,rfl,ra,rb,rc⟩:=rep3 r1;exact⟨x,y,z,rfl,r.nx a6 _ H1 _ M1 l1 w1 ((((e.le l1).put i ra).put j rb).put k rc) q1⟩⟩
section
variable {P:Program}{w:World}{Ξ:PySem.W.Frag}{mg:Str->Option Value}{base:Heap}
theorem Fun.okQ{st:Stmt}(F:Fun Ξ x af st f fd)(S:q00 N ps (qc st))(len:∀vs H Q E,sp vs H Q E->vs.length=ps.length)(aA:∀(a9:Value)(A:Around)(outer:List Env)(s:Shared)(H:Hp)(vs:List V)(Q:VK)(E:XK),Room k (A.deeper (envOfC af (qc st) s.heap.objs.size f a9))->sp vs H Q E ->
   ∃t,QSs (cxOf CX0 P w Ξ mg base N af (qc st) f a9 A outer s H E).nox (va st) t/\t { nx:=λ_ H'=>Q .non H',rt:=Q } (start N vs) H):FnOk P w Ξ mg base CX0 (k+1) f fd ps sp :=
 F.ok S len λa9 A outer s H vs Q E hr cW=>by
  obtain⟨t,h,q⟩:=aA a9 A outer s H vs Q E hr cW;exact⟨t,h.h,q⟩
theorem Fun.zU{st:Stmt}(F:Fun Ξ x af st f fd)(S:q00 N ps (qc st))(len:∀us M Qu,G us M Qu->us.length=ps.length)(aA:∀(a9:Value)(A:Around)(outer:List Env)(s:Shared)(H:Hp)(E:XK),Room k (A.deeper (envOfC af (qc st) s.heap.objs.size f a9)) ->
   ∃t,QSs (cxOf CX0 P w Ξ mg base N af (qc st) f a9 A outer s H E).nox (va st) t/\∃u,ZS t u/\∀us M Qu,G us M Qu->u { nx:=λ_ M'=>Qu (.p .non) M',rt:=Qu } (zO N us) M):FnOk P w Ξ mg base CX0 (k+1) f fd ps (spU G):=
 F.okU S len λa9 A outer s H E hr=>by
  obtain⟨t,h,u,hu,q⟩:=aA a9 A outer s H E hr;exact⟨t,h.h,u,hu.h,q⟩
theorem Fun.zV{st:Stmt}(F:Fun Ξ x af st f fd)(S:q00 N ps (qc st))(len:∀us M Qu,G us M Qu->us.length=ps.length)(aA:∀(a9:Value)(A:Around)(outer:List Env)(s:Shared)(H:Hp)(E:XK),Room k (A.deeper (envOfC af (qc st) s.heap.objs.size f a9)) ->
   ∃t,QSs (cxOf CX0 P w Ξ mg base N af (qc st) f a9 A outer s H E).nox (va st) t/\∃u,ZS t u/\∀us M M1 Qu,M1=M->G us M Qu->u { nx:=λ_ M'=>zA M M'/\Qu (.p .non) (M'.take M.length),rt:=λz M'=>zA M M'/\∃t,frzB M.length 4 M' z=some t/\Qu (.p t) (M'.take M.length) } (zO N us) M1):FnOk P w Ξ mg base CX0 (k+1) f fd ps (spU G):=
 F.okV S len λa9 A outer s H E hr=>by
  obtain⟨t,h,u,hu,q⟩:=aA a9 A outer s H E hr;exact⟨t,h.h,u,hu.h,λus M Qu g=>q us M M Qu rfl g⟩
theorem Fun.zP{st:Stmt}(F:Fun Ξ x af st f fd)(S:q00 N ps (qc st))(len:∀ts Qt,G ts Qt->ts.length=ps.length)(aA:∀(a9:Value)(A:Around)(outer:List Env)(s:Shared)(H:Hp)(E:XK),Room k (A.deeper (envOfC af (qc st) s.heap.objs.size f a9)) ->
   ∃t,QSs (cxOf CX0 P w Ξ mg base N af (qc st) f a9 A outer s H E).nox (va st) t/\∃u,ZS t u/\∀ts Qt,G ts Qt->u { nx:=λ_ _=>Qt .non,rt:=λz M'=>∃t,frzN 4 M' z=some t/\Qt t } (zO N (ts.map U.p)) []):FnOk P w Ξ mg base CX0 (k+1) f fd ps (spP G):=
 F.okP S len λa9 A outer s H E hr=>by
  obtain⟨t,h,u,hu,q⟩:=aA a9 A outer s H E hr;exact⟨t,h.h,u,hu.h,q⟩
end
abbrev UX:=Str->Option Int->MM->Prop
def pT:Option Int->T
 |none=>.non
 |some n=>.int n
theorem q7S:∀p:Option Int,RepT A H (pV p) (pT p)
 |none=>.non
 |some _=>.int _
theorem q2D:∀{p:Option Int},RepT A H v (pT p)->v=pV p
 |none,r=>by cases r;rfl
 |some _,r=>by cases r;rfl
abbrev UXe:=UEnv->MM->UK->UX->Prop
def spX(mg:Str->Option Value)(G:List U->MM->UK->UX->Prop):Sp:=λvs H Q E=>∃A ι M us Qu Xu,Wd A ι H M/\RepUs A ι H vs us/\G us M Qu Xu /\
 (∀u M' ag v H',Le ι H ag H'->Wd A ag H' M'->RepU A ag H' v u->Qu u M'->Q v H')/\∀nm p C d M' ag H',mg nm=some C->PartIs d H' p->Le ι H ag H'->Wd A ag H' M'->Xu nm p M'->E C d H'
structure ZXe(mg:Str->Option Value)(tx:TX)(ux:UXe):Prop where
 h:∀(A:Addr->Prop)(ι:List Addr)(Z:St)(H:Hp)(ρ:UEnv)(M:MM)(Qu:UK)(Xu:UX)(Q:VK)(E:XK),Wd A ι H M->EnvR A ι H Z ρ->ux ρ M Qu Xu ->
  (∀u M' ag v H',Le ι H ag H'->Wd A ag H' M'->RepU A ag H' v u->Qu u M'->Q v H')->(∀nm p C d M' ag H',mg nm=some C->PartIs d H' p->Le ι H ag H'->Wd A ag H' M'->Xu nm p M'->E C d H')->tx Z H Q E
def zc(G:List U->MM->UK->UX->Prop)(ul:UA):UXe:=λρ M Q X=>ul ρ M λus M1=>G us M1 Q X
theorem qas(ha:ZA n tl ul):ZXe mg (q2b (spX mg G) tl) (zc G ul):=⟨λA ι Z H ρ M Qu Xu Q E w e q k kx=>
 ha.h A ι Z H ρ M _ _ w e q λus M1 a6 vs H1 l1 w1 hn r1 q1=>
  ⟨A,a6,M1,us,_,_,w1,r1,q1,λu M2 ac v H2 l2 w2 r2 q2=>k u M2 ac v H2 (l1.trans l2) w2 r2 q2,λnm p C d M2 ac H2 hm hp l2 w2 q2=>kx nm p C d M2 ac H2 hm hp (l1.trans l2) w2 q2⟩⟩
def za(C:Addr)(m:Str)(G:List U->MM->UK->UX->Prop)(ua:UE)(ul:UA):UXe:=λρ M Q X=>ua ρ M λx M1=>Zn C m x M1 (ul ρ M1 λus M2=>G (x::us) M2 Q X)
theorem q5J(ha:ZE ta ua)(hl:ZA n tl ul):ZXe mg (q2p C m (spX mg G) ta tl) (za C m G ua ul):=⟨λA ι Z H ρ M Qu Xu Q E w e q k kx=>
 ha.h A ι Z H ρ M _ _ w e q λx M1 a6 v1 H1 l1 w1 r1 zz=>by
  obtain⟨kk,fs,ex,em,lk,q1⟩:=zz;subst ex;have dg:=r1;cases dg with
  |m ek=>
  obtain⟨dx,gs,h1,h2,h3,h4⟩:=w1.obj kk _ _ ek em;refine⟨_,dx,gs,rfl,h1,Z8 h4 lk,hl.h A a6 Z H1 ρ M1 _ _ w1 (e.le l1) q1 λus M2 ac vs H2 l2 w2 hn r2 q2=>?_⟩;exact⟨A,ac,M2,_,_,_,w2,.cons (r1.le l2) r2,q2,λu M3 c7 v H3 l3 w3 r3 q3=>k u M3 c7 v H3 ((l1.trans l2).trans l3) w3 r3 q3,λnm p C d M3 c7 H3 hm hp l3 w3 q3=>kx nm p C d M3 c7 H3 hm hp ((l1.trans l2).trans l3) w3 q3⟩⟩
def tagU(nm:Str)(p:Option Int)(ρ:UEnv):UEnv:=some (.p (.str nm))::some (.p (pT p))::ρ
theorem jz(e:EnvR A ι H Z ρ):EnvR A ι H (some (.str nm)::some (pV p)::Z) (tagU nm p ρ):=.cons (λu q=>by cases q;exact⟨_,rfl,.p (.str _)⟩) (.cons (λu q=>by cases q;exact⟨_,rfl,.p (q7S p)⟩) e)
def zb(ux:UXe):US:=λE ρ M=>ux ρ M (λ_ M1=>E.nx ρ M1) λnm p M1=>E.bk (tagU nm p ρ) M1
theorem Kz(h:ZXe mg tx ux):ZS (q2m tx mg) (zb ux):=⟨λA ι Z H ρ M D E w e r q=>
 h.h A ι Z H ρ M _ _ _ _ w e q (λx M1 a6 v H1 l1 w1 r1 q1=>r.nx a6 Z H1 ρ M1 l1 w1 (e.le l1) q1) λnm p C d M1 a6 H1 hm hp l1 w1 q1=>⟨nm,p,hm,hp,r.bk a6 _ H1 _ M1 l1 w1 (jz (e.le l1)) q1⟩⟩
def jf(ux:UXe):US:=λE ρ M=>ux ρ M E.rt λnm p M1=>E.bk (tagU nm p ρ) M1
theorem q4g(h:ZXe mg tx ux):ZS (q7w tx mg) (jf ux):=⟨λA ι Z H ρ M D E w e r q=>
 h.h A ι Z H ρ M _ _ _ _ w e q (λx M1 a6 v H1 l1 w1 r1 q1=>r.rt a6 v H1 x M1 l1 w1 r1 q1) λnm p C d M1 a6 H1 hm hp l1 w1 q1=>⟨nm,p,hm,hp,r.bk a6 _ H1 _ M1 l1 w1 (jz (e.le l1)) q1⟩⟩
def jw(i:Nat)(ux:UXe):US:=λE ρ M=>ux ρ M (λx M1=>E.nx (ρ.set i (some x)) M1) λnm p M1=>E.bk (tagU nm p ρ) M1
def v9(x:Str)(ul:UA):US:=λE ρ M=>ul ρ M λus M1=>us.length<=sizeLine/\E.bk (tagU x none ρ) M1
theorem q0D(h:ZA n tl ul):ZS (q2z x tl) (v9 x ul):=⟨λA ι Z H ρ M D E w e r q=>
 h.h A ι Z H ρ M _ _ w e q λus M1 a6 vs H1 l1 w1 hn r1 ⟨hl,q1⟩=>⟨by rw[r1.len];exact hl,r.bk a6 _ H1 _ M1 l1 w1 (jz (p:=none) (e.le l1)) q1⟩⟩
def vF(x:Str)(ul:UA):US:=λE ρ M=>ul ρ M λus M1=>∃k,us=[.p (.int k)]/\kQ k/\E.bk (tagU x (some k) ρ) M1
theorem qax(h:ZA n tl ul):ZS (YU x tl) (vF x ul):=⟨λA ι Z H ρ M D E w e r q=>
 h.h A ι Z H ρ M _ _ w e q λus M1 a6 vs H1 l1 w1 hn r1 zz=>by
  obtain⟨k,eu,sk,q1⟩:=zz;subst eu;cases r1 with
  |cons a b=>
  cases b;cases a with
  |p a=>
  cases a;exact⟨k,rfl,sk,λd hd=>r.bk a6 _ _ _ M1 (l1.trans (Le.fresh hd)) (w1.fresh hd) (jz (p:=some k) ((e.le l1).le (Le.fresh hd))) q1⟩⟩
def uTry(n:Nat)(ub:US)(l:List (Str×(Option Int->US))):US:=λE ρ M=>ub { E with bk:=λτ M'=>∃nm p b8 u,τ=tagU nm p b8/\b8.length=n/\l.lookup nm=some u/\u p E b8 M' } ρ M
structure ZHs(l:List (Str×(Option Int->TS)))(l':List (Str×(Option Int->US))):Prop where
 h:∀nm u,l'.lookup nm=some u->∃t,l.lookup nm=some t/\∀p,LS (t p) (u p)
theorem q6D:ZHs [] []:=⟨λnm u e=>by simp at e⟩
theorem XF(h:∀p,ZS (t p) (u p))(hr:ZHs l l'):ZHs ((x,t)::l) ((x,u)::l'):=⟨λnm v e=>by
 rw[DC]at e ⊢;cases hx:(nm==x) with
 |true=>rw[hx]at e;cases e;exact⟨t,rfl,λp=>(h p).h⟩
 |false=>rw[hx]at e;exact hr.h nm v e⟩
theorem q6E(hb:ZS tb ub)(hl:ZHs l l'):ZS (tTry n tb l) (uTry n ub l'):=⟨λA ι Z H ρ M D E w e r q=>
 hb.h A ι Z H ρ M _ { E with bk:=λτ M'=>∃nm p b8 u,τ=tagU nm p b8/\b8.length=n/\l'.lookup nm=some u/\u p E b8 M' } w e ⟨r.nx,r.rt,λa6 cx H1 dL M1 l1 w1 e1 q1=>by
  obtain⟨nm,p,b8,u,rfl,hn,hu,q1⟩:=q1;obtain⟨t,ht,lk⟩:=hl.h nm u hu;cases e1 with
  |cons a b=>
  cases b with
  |cons a2 b=>
  obtain⟨v,rfl,rv⟩:=a _ rfl;obtain⟨v2,rfl,fW⟩:=a2 _ rfl;cases rv with
  |p rv=>
  cases rv;cases fW with
  |p fW=>
  cases q2D fW;exact⟨nm,p,_,t,rfl,by rw[b.length];exact hn,ht,lk p A a6 _ H1 b8 M1 D E w1 b (r.le l1) q1⟩,r.ct⟩ q⟩
def endX(n:Nat)(Qu:UK)(Xu:UX):q07:={ nx:=λ_ M'=>Qu (.p .non) M',rt:=Qu,bk:=λτ M'=>∃nm p ρ,τ=tagU nm p ρ/\ρ.length=n/\Xu nm p M' }
theorem Fun.zX{st:Stmt}(F:Fun Ξ x af st f fd)(S:q00 N ps (qc st))(len:∀us M Qu Xu,G us M Qu Xu->us.length=ps.length)(aA:∀(a9:Value)(A:Around)(outer:List Env)(s:Shared)(H:Hp)(E:XK),Room k (A.deeper (envOfC af (qc st) s.heap.objs.size f a9)) ->
   ∃t,QXs True (cxOf (CXe P w) P w Ξ mg base N af (qc st) f a9 A outer s H E) (va st) t/\∃u,ZS t u/\∀us M Qu Xu,G us M Qu Xu->u (endX N.length Qu Xu) (zO N us) M):FnOk P w Ξ mg base (CXe P w) (k+1) f fd ps (spX mg G):=by
 refine F.okX S (λvs H Q E h=>?_) (λa9 A outer s H vs Q E hr h=>?_)
 ·obtain⟨A,ι,M,us,Qu,Xu,w1,r,g,_⟩:=h
  rw[r.len];exact len us M Qu Xu g
 ·obtain⟨B,ι,M,us,Qu,Xu,w1,r,g,kk,kx⟩:=h
  obtain⟨t,ht,u,hu,hb⟩:=aA a9 A outer s H E hr;refine⟨t,ht,hu.h B ι _ H _ M _ (endX N.length Qu Xu) w1 (jh r) ⟨λa6 cx H1 dL M1 l1 w1 e1 q1=>kk _ M1 a6 _ H1 l1 w1 (.p .non) q1,λa6 v H1 z M1 l1 w1 r1 q1=>kk z M1 a6 v H1 l1 w1 r1 q1,λa6 cx H1 dL M1 l1 w1 e1 q1=>?_,λ_ _ _ _ _ _ _ _ q=>q.elim⟩ (hb us M Qu Xu g)⟩;obtain⟨nm,p,ρ,rfl,hn,q1⟩:=q1;cases e1 with
  |cons a b=>
  cases b with
  |cons a2 b=>
  obtain⟨v,rfl,rv⟩:=a _ rfl;obtain⟨v2,rfl,fW⟩:=a2 _ rfl;cases rv with
  |p rv=>
  cases rv;cases fW with
  |p fW=>
  cases q2D fW;exact⟨nm,p,_,rfl,by rw[b.length];exact hn,λC d hm hp=>kx nm p C d M1 a6 H1 hm hp l1 w1 q1⟩
theorem q8T:∀nm t C,([]:List (Str×(Option Int->TS))).lookup nm=some t->X.mg nm=some C->∀p,QH X hs C p (t p):=λnm t C e _=>by simp at e
theorem Jz{X:Cx}{hs:List ExceptHandler}{x:Str}{C:Value}{t:Option Int->TS}(hb:X.mg x=some C)(h:∀p,QH X hs C p (t p))(hr:∀nm t C,l.lookup nm=some t->X.mg nm=some C->∀p,QH X hs C p (t p)):
  ∀nm t' C',((x,t)::l).lookup nm=some t'->X.mg nm=some C'->∀p,QH X hs C' p (t' p):=λnm t' C' e hm=>by
 rw[DC]at e;cases hx:(nm==x) with
 |true=>
  rw[hx]at e;cases e;rw[eq_of_beq hx,hb]at hm;cases hm;exact h
 |false=>rw[hx]at e;exact hr nm t' C' e hm
theorem Paired.app{α β:Type}{F:α->β->Prop}:∀{a c:List α}{b d:List β},Paired F a b->Paired F c d->Paired F (a++c) (b++d)
 |_,_,_,_,.nil,h=>h
 |_,_,_,_,.cons x y,h=>.cons x (Paired.app y h)
def q7O(tx:TX)(g:TG)(mg:Str->Option Value):TS:=λD Z H=>tx Z H (λx H1=>g x Z H1 D.nx) (EX mg D Z)
theorem q3l(he:QXe X e tx)(hg:QG X.nox tg g)(hs:swapsWithSole [tg] e pos.line X.env=pure false:=by rfl)(hw:swappedStores [tg] e X.env=pure none:=by rfl)(h1:(assignEach [tg] X.env).map (·.2)=[assign tg X.env]:=by rfl):
  QX r X (.Assign [tg] e pos) (q7O tx g X.mg):=⟨λa3 s Z H D k I h=>by
 refine UW (thn (he.h a3 s Z H _ _ (k.1 Z) I h) λv s1 ⟨x,H1,I1,r1,q1⟩=>?_) hs hw;rw[h1];refine Uk (hg.h a3 s1 Z H1 x v _ (I1.wish _) r1 q1) (λ_ s2 ⟨aj,H',I2,q⟩=>⟨aj,H',I2.unwish,q⟩) λ_ _ z=>False.elim z⟩
def jx(Ξ:PySem.W.Frag)(ux:UXe)(f:Str):UXe:=λρ M Q X=>ux ρ M (λx M1=>FldS Ξ f x M1 Q) X
def jg(ux:UXe)(ug:UG):US:=λE ρ M=>ux ρ M (λx M1=>ug x ρ M1 E.nx) λnm p M1=>E.bk (tagU nm p ρ) M1
theorem q4M(h:ZXe mg tx ux)(hg:ZG g ug):ZS (q7O tx g mg) (jg ux ug):=⟨λA ι Z H ρ M D E w e r q=>
 h.h A ι Z H ρ M _ _ _ _ w e q (λx M1 a6 v H1 l1 w1 r1 q1=>hg.h A a6 Z H1 ρ M1 v x _ _ w1 (e.le l1) r1 q1 λaE M2 ac cy H2 l2 w2 e2 q2=>r.nx ac cy H2 aE M2 (l1.trans l2) w2 e2 q2) λnm p C d M1 a6 H1 hm hp l1 w1 q1=>⟨nm,p,hm,hp,r.bk a6 _ H1 _ M1 l1 w1 (jz (e.le l1)) q1⟩⟩
theorem Y3(h:X.K=Ξ):SlR X (rSlT Ξ):=h▸q3g
def SlTS(M:MM)(x:U)(l h:Option Int)(Q:UK):Prop:=∃ts,sn M x=some (.tup ts)/\¬(HT.sIx ts.length 0 l=0/\HT.sIx ts.length ts.length h=ts.length)/\Q (.p (.tup (cutT ts l h))) M
def uSlT(ua:UE)(ul uh:UO):UE:=λρ M Q=>ua ρ M λx M1=>ul ρ M1 λl M2=>uh ρ M2 λh M3=>SlTS M3 x l h Q
theorem q83(ha:ZE ta ua)(h1:ZO t1 u1)(h2:ZO t2 u2):ZE (tSl (rSlT Ξ) ta t1 t2) (uSlT ua u1 u2):=⟨λA ι Z H ρ M Qu Q w e q k=>
 ha.h A ι Z H ρ M _ _ w e q λx M1 a6 v H1 l1 w1 r1 q1=>h1.h A a6 Z H1 ρ M1 _ _ w1 (e.le l1) q1 λl M2 ac H2 l2 w2 q2=>h2.h A ac Z H2 ρ M2 _ _ w2 ((e.le l1).le l2) q2 λh M3 c7 H3 l3 w3 zz=>by
  obtain⟨ts,es,nw,q3⟩:=zz;obtain⟨p,vs,rfl,hv,hr⟩:=(((r1.le l2).le l3).sn w3 es).tup_inv;have lv:=hr.len;refine⟨p,vs,rfl,SqT.of hv,by rw[lv];exact nw,λa hp=>?_⟩;exact k _ M3 c7 _ _ (((l1.trans l2).trans l3).trans (.fresh hp)) (w3.fresh hp) (.p (ju w3 hp (JK hr))) q3⟩
theorem q3c:uSlT ua u1 u2 ρ M Q=ua ρ M λx M1=>u1 ρ M1 λl M2=>u2 ρ M2 λh M3=>SlTS M3 x l h Q:=rfl
abbrev Cx.named(X:Cx)(a:Addr)(oe:Obj):Cx:={ X.caught a with pn:=X.pn++[(a,oe)] }
structure q05(C:Addr)(d:Option Addr)(oe:Obj):Prop where
 c:oe.cls=.ref C
 d:oe.dict=d
 v:∃vs,oe.data=.fields vs/\vs[2]?=some .none
def tAsG(i:Nat)(tb:Addr->Option Addr->TS)(q:Option Int):TS:=λD Z H=>∀a d,PartIs d H q->tb a d { D with nx:=λaj H'=>D.nx (aj.set i none) H',bk:=λ_ _=>False,ct:=λaj H'=>D.ct (aj.set i none) H' } (Z.set i (some (.ref a))) H
theorem Wx(Y:Body X outer)(hm:X.mg x=some cX)(he:W.exmOne X.K (.ref C) cX=some true)(hN:X.N.Nodup)(hi:X.N[i]?=some e)(ia:X.env.scope.names.lookup e=some .local)(hb:∀a d oe,q05 C d oe->QSs (X.named a oe) (b0::suite) (tb a d))(hg:Gl X x:=by rfl)(cj:(x==("__debug__" : Str))=false:=by decide):
  QH X (.ExceptHandler (some (.Name x p)) (some e) (b0::suite) pos::hs) (.ref C) q (tAsG i tb q):=⟨λa3 Z H1 s1 d H' s a D I F hq h=>by
 have J:=F.inv I;refine wpAny_handleBy_cons (codeAny_handlers_test (zh (X:=X.caught a) (J.caught a) hg hm ?_ cj)) (by intro q;cases q);refine W.exm_one J.kIn F.ty he _ _ _ s (λ_ _ z=>z) ?_;show codeAny _ _ _ _ s;refine codeAny_handlers_suite_as ?_;obtain⟨B,a0,fl,st⟩:=F.step;refine Uk (DK.any (xr _ _) (lands_againW fl (Q:=λ_ s2=>(Heap.FlyingW B X.stack a (.ref C) a0 s2.heap/\s.heap.UpToSlots s2.heap)/\∃h',s2={ s with heap:=h' }) (E:=λ_ _=>False) λh' x1 x4=>⟨⟨x1,x4⟩,h',rfl⟩)) (λ_ s2 z=>?_) λ_ _ q=>q.1.elim;obtain⟨⟨⟨lL,up⟩,h',rfl⟩,kd⟩:=z;have F2:=st h' lL up kd;obtain⟨n1,n2,oe,vs,pA,gr,pB,eS,h2⟩:=F2.new;have J2:=F2.pinned Y I pA eS;refine Uk (E:=λ_ _=>False) (zC J2 hN hi (.inl ia) (v:=.ref a) (u:=.ref a) rfl (Q:=λ_ s3=>Inv X (a3++[(a,oe)]) (Z.set i (some (.ref a))) H' s3) (λs3 I3=>I3) (.inr ia)) (λ_ s3 I3=>?_) λ_ _ z=>z.elim;have I4:=I3.caught a;have I5:Inv (X.named a oe) a3 (Z.set i (some (.ref a))) H' s3:=⟨⟨I4.ok.mod,I4.ok.kind,I4.ok.glob,I4.ok.blt,I4.ok.above,I4.ok.inj,I4.ok.has,I4.ok.cab,I4.ok.hd,I4.ok.frames,I4.ok.stk,I4.ok.exf,I4.ok.bs,I4.ok.bsz,I4.ok.noex,I4.ok.exfs,I4.ok.funs,I4.ok.frf⟩,I4.os,I4.bare,I4.base,I4.loc,I4.cell,I4.free,I4.freeC,λp hp=>I4.pin p (by
  rcases Dl.mp hp with z|z
  ·rcases Dl.mp z with z|z
   ·exact Dp _ z
   ·exact Dt _ (Dt _ z)
  ·exact Dt _ (Dp _ z)),I4.hok,I4.len⟩
 have fX:∀{aj H2 s4},Inv (X.named a oe) a3 aj H2 s4->Inv X a3 aj H2 s4:=λI6=>⟨I.ok,I6.os,I6.bare,I6.base,I6.loc,I6.cell,I6.free,I6.freeC,λp hp=>I6.pin p (by
  rcases Dl.mp hp with z|z
  ·exact Dp _ (Dp _ z)
  ·exact Dt _ z),I6.hok,I6.len⟩
 refine Uk ((hb a d oe ⟨gr,pB,vs,eS,h2⟩).h a3 s3 _ H' _ I5 (h a d hq)) (λf s4 z=>?_) λ_ _ z=>z.elim;cases f with
 |next=>
  obtain⟨aj,H2,I6,q⟩:=z;show wpAny _ _ _ _ _ _;exact Qi (fX I6) hN hi ia λs9 I9=>⟨_,H2,I9,q⟩
 |cont=>
  obtain⟨aj,H2,I6,q⟩:=z;show wpAny _ _ _ _ _ _;exact Qi (fX I6) hN hi ia λs9 I9=>⟨_,H2,I9,q⟩
 |brk=>
  obtain⟨aj,H2,I6,q⟩:=z;exact q.elim
 |ret u=>
  obtain⟨v,aj,H2,I6,r,q⟩:=z;show wpAny _ _ _ _ _ _;exact Qi (fX I6) hN hi ia λs9 I9=>⟨v,_,H2,I9,r,q⟩⟩
def q2v(a:Addr)(d:Option Addr)(ta:TE):TE:=λZ H Q=>ta Z H λv H1=>v=.ref a/\∃n x0,d=some x0/\H1 x0=some (.xd [("part",.int n)])/\Q (.int n) H1
theorem q4w(ck:ExcK X.K C g)(na:NoAttr X.K C "part")(ob:q05 C d oe)(hp:(a,oe)∈X.pn)(ho:QE X o ta)(lT:attributeBase o "part" X.env (eval o X.env)=eval o X.env:=by rfl):QE X (.Attribute o "part" pos) (q2v a d ta):=⟨λa3 s Z H Q I h=>by
 refine qaY lT (thn (ho.h a3 s Z H _ I h) λu s1 zz=>?_);obtain⟨v,H1,I1,r,ev,n,x0,ed,gq,q⟩:=zz;subst ev;obtain rfl:u=Value.ref a:=r;obtain⟨mA,cP,fY⟩:=I1.hok x0 _ gq;obtain⟨od,ic,gz⟩:=jo cP;have di:=(I1.pin (a,oe) (Dp _ hp)).1;have hv:∃t,mA "part" = some (.int n t):=by
  have:=fY "part";obtain⟨u,hu,t,rfl⟩:=RelO.some_of (v:=.int n) (o:=mA "part") (by simpa using this);exact⟨t,hu⟩
 obtain⟨tn,hv⟩:=hv;obtain⟨vs,eS,_⟩:=ob.v;refine W.getX_value (v:=.int n tn) (C:=C) (od:=some od) I1.kIn ⟨di,ob.c,by unfold W.notCls;rw[eS],by rw[ob.d,ed];exact ic⟩ ck.ga ck.gt ck.mr ?_ rfl ?_
 ·exact qba ck.hd na rfl (by rw[gz,hv])
 ·exact⟨.int n,H1,I1.tok _,⟨_,rfl⟩,q⟩⟩
theorem Wd.not_xd(w:Wd A ι H M)(h:a∈ι):H a≠some (.xd fs):=λz=>by
 obtain⟨k,e⟩:=Rn h;obtain⟨o,_,r⟩:=w.al e;cases o with
 |lst=>obtain⟨vs,e,_⟩:=r;rw[z]at e;cases e
 |tup=>obtain⟨vs,e,_⟩:=r;rw[z]at e;cases e
 |ins=>obtain⟨_,_,e,_⟩:=r;rw[z]at e;cases e
 |dK=>obtain⟨_,e,_⟩:=r;rw[z]at e;cases e
 |dF=>obtain⟨e,_⟩:=r;rw[z]at e;cases e
 |tab=>obtain⟨_,e,_⟩:=r;rw[z]at e;cases e
theorem PartIs.x(w:Wd A ι H M)(h:PartIs d H q):PartX ι H d q:=by
 cases q with
 |none=>exact h
 |some n=>
  obtain⟨x0,e,hx⟩:=h;exact⟨x0,e,λz=>w.not_xd z hx,hx⟩
def q2g(a:Addr)(d:Option Addr)(ua:UE):UE:=λρ M Q=>ua ρ M λx M1=>∃n,x=.x a d (some n)/\n<1000000/\Q (.p (.int n)) M1
theorem q52(ha:ZE ta ua):ZE (q2v a d ta) (q2g a d ua):=⟨λA ι Z H ρ M Qu Q w e q k=>
 ha.h A ι Z H ρ M _ _ w e q λx M1 a6 v H1 l1 w1 r1 zz=>by
  obtain⟨n,ex,pC,q1⟩:=zz;subst ex;cases r1 with
  |x h=>
   obtain⟨x0,ed,ni,hx⟩:=h;rw[JQ pC]at hx;exact⟨rfl,n,x0,ed,hx,k _ M1 a6 _ H1 l1 w1 (.p (.int _)) q1⟩⟩
theorem vo:q2g a d ua ρ M Q=ua ρ M λx M1=>∃n,x=.x a d (some n)/\n<1000000/\Q (.p (.int n)) M1:=rfl
def uAsG(i:Nat)(ub:Addr->Option Addr->US)(q:Option Int):US:=λE ρ M=>∀a d,ub a d { E with nx:=λb8 M'=>E.nx (b8.set i none) M',bk:=λ_ _=>False,ct:=λb8 M'=>E.ct (b8.set i none) M' } (ρ.set i (some (.x a d q))) M
theorem qaB(h:∀a d,ZS (tb a d) (ub a d)):ZS (tAsG i tb q) (uAsG i ub q):=⟨λA ι Z H ρ M D E w e r z a d hp=>by
 have ie:∀{a6:List Addr}{cx:St}{H1:Hp}{dL:UEnv},EnvR A a6 H1 cx dL->EnvR A a6 H1 (cx.set i none) (dL.set i none):=λe1=>Paired.put (λw z=>by cases z) i e1;exact(h a d).h A ι _ H _ M _ { E with nx:=λb8 M'=>E.nx (b8.set i none) M',bk:=λ_ _=>False,ct:=λb8 M'=>E.ct (b8.set i none) M' } w (EnvR.put e i (.x (hp.x w))) ⟨λa6 cx H1 dL M1 l1 w1 e1 q1=>r.nx a6 _ H1 _ M1 l1 w1 (ie e1) q1,r.rt,λ_ _ _ _ _ _ _ _ q=>q.elim,λa6 cx H1 dL M1 l1 w1 e1 q1=>r.ct a6 _ H1 _ M1 l1 w1 (ie e1) q1⟩ (z a d)⟩
end L2
namespace PySem.W
open PySem PySem.Spec PyProof.Rows
theorem q6l(X:Ξ.In s.heap)(I:InstAt s.heap x ox C od)(gW:findIn Ξ (.ref C) "__getattribute__" = some (some (.builtin "BaseException.__getattribute__")))(gX:findIn Ξ (.ref C) "__getattr__" = some none)(hm:mroIn Ξ C (.type "BaseException")=some true)(hdct:hasDictIn Ξ C=true)(ha:findIn Ξ (.ref C) "__class__" = some (some (.builtin "object.__class__")))(hn:specialIn Ξ (.builtin "object.__class__") "__get__" = some (some (.builtin "getset_descriptor.__get__")))(htk:takesIn Ξ (.builtin "object.__class__")=some true)(hmo:mroIn Ξ C (.type "object")=some true)(h:Q (some (.ref C)) { s with toks:=s.toks+1 }):wpAny (model prog w) A (getAttr? (.ref x) "__class__") Q E s:=by
 have hf:findObj Ξ C od "__class__" = some (.bind (.builtin "getset_descriptor.__get__") (.builtin "object.__class__")):=by
  obtain⟨cd,hc,_⟩:=any_some hdct;unfold findObj;rw[hc,BA,ha,BA];simp[hn,htk]
 obtain⟨hp,g,d,t,os⟩:=s;have L0:=I.type (M:=model prog w);have L1:=UZ (M:=model prog w) X gW;have L2:=UZ (M:=model prog w) X gX;have L3:=looks_find (M:=model prog w) X I hf;have L4:=looks_mroIn (M:=model prog w) X hm;have FB:=PySem.F.excAttr_ValueError;have f3:=FB.ga.bind (.ref x);have eQ:(Value.builtin "BaseException.__getattribute__" == Value.builtin "object.__getattribute__")=false:=by decide+kernel
 have oP:(onTheHeap (Value.ref C)&&Value.builtin "BaseException.__getattribute__" == Value.builtin "object.__getattribute__")=false:=by rw[eQ];rfl
 have ha2:=F.args_bexc_ga (.ref x) (.str "__class__" t);have hk:builtinKind "BaseException.__getattribute__" = some .slot:=by decide+kernel
 have df:splitId "BaseException.__getattribute__" = some ("BaseException","__getattribute__"):=by decide+kernel
 unfold getAttr? getAttrBy? getAttrBy;refine Ug (wpAny_mkText (Ug (wpAny_attempt (Uq (Ug (L0.at (Ug (L1.at ?_))))))))
 repeat (any_goals (first|assumption|with_reducible refine L0.at ?_|with_reducible refine L2.at ?_|wp_step))
 refine UC FB.ga.plain F.entry_bexc_ga ?_;simp only[checkBuiltinCall,hk,df,Rj,D1];refine Ug ?_;unfold isInstance;refine Ug (L0.at (L4.at ?_))
 repeat (any_goals (first|assumption|with_reducible refine L0.at ?_|with_reducible refine L3.at ?_|wp_step))
 refine class_get (s:=⟨hp,g,d,t+1,os⟩) (ox:=ox) (od:=od) X I hmo ?_;refine Ui ?_;show wpAny _ _ (handedOut _) _ _ _;rw[handedOut_of (by rfl)];exact Ui (Ui h)
set_option tactic.hygienic true in
theorem kitx_exc(gW:findIn Ξ (.ref C) "__getattribute__" = some (some (.builtin "BaseException.__getattribute__")))(gX:findIn Ξ (.ref C) "__getattr__" = some none)(hm:mroIn Ξ C (.type "BaseException")=some true)(hdct:hasDictIn Ξ C=true)(ha:findIn Ξ (.ref C) "__class__" = some (some (.builtin "object.__class__")))(hn:specialIn Ξ (.builtin "object.__class__") "__get__" = some (some (.builtin "getset_descriptor.__get__")))(htk:takesIn Ξ (.builtin "object.__class__")=some true)(hmo:mroIn Ξ C (.type "object")=some true):
  KitX Ξ (.ref x) (.ref C) (λh=>InstAt h x ox C od) where
 ty:=λ_ _ _ I=>I.type
 it:=λ_ _ X _=>by
  obtain⟨pD,dS,_⟩:=any_some hdct;unfold clsIn at dS;split at dS
  ·rename_i c' d' pE gh ho
   intro A' Q' E' s' k q;unfold isType loadHead;exact Ug (U7 (k _ _ (X _ _ ho)) (Ui q))
  ·cases dS
 ne:=λh tp dd its n sl X pF=>by
  obtain⟨pD,dS,_⟩:=any_some hdct;refine Bool.eq_false_iff.mpr λq=>?_;have e:C=tp:=Value.ref.inj (beq_iff_eq.mp q);subst e;unfold clsIn at dS;split at dS
  ·rename_i c' d' pE gh ho
   have z:=(X _ _ ho).symm.trans pF;cases z
  ·cases dS
 ca:=λX I k=>q6l X I gW gX hm hdct ha hn htk hmo k
end PySem.W
namespace L2
open PySem PySem.Spec PyProof.Rows
structure ExcT(Ξ:PySem.W.Frag)(C:Addr):Prop where
 ga:W.findIn Ξ (.ref C) "__getattribute__" = some (some (.builtin "BaseException.__getattribute__"))
 gt:W.findIn Ξ (.ref C) "__getattr__" = some none
 mr:W.mroIn Ξ C (.type "BaseException")=some true
 hd:W.hasDictIn Ξ C=true
 ha:W.findIn Ξ (.ref C) "__class__" = some (some (.builtin "object.__class__"))
 hn:W.specialIn Ξ (.builtin "object.__class__") "__get__" = some (some (.builtin "getset_descriptor.__get__"))
 htk:W.takesIn Ξ (.builtin "object.__class__")=some true
 hmo:W.mroIn Ξ C (.type "object")=some true
def clsV:V->Option Value
 |.ty n=>some (.type n)
 |.ref D=>some (.ref D)
 |_=>none
theorem KC(h:clsV c=some cv)(r:RelV c u):u=cv:=by
 cases c with
 |ty n=>cases h;exact r
 |ref D=>cases h;exact r
 |_=>cases h
abbrev rIsX(Ξ:PySem.W.Frag)(C a:Addr)(d:Option Addr):List V->Hp->VK->Prop:=λxs H Q=>∃c cv b q,xs=[.ref a,c]/\clsV c=some cv/\W.kitOne Ξ (.ref C) cv=some b/\PartIs d H q/\Q (.bl b) H
theorem q94(I:Inv X a3 Z H s)(ob:q05 C d oe)(hp:(a,oe)∈X.pn)(hq:PartIs d H q):∃od,PySem.W.InstAt s.heap a oe C od:=by
 have di:=(I.pin (a,oe) (Dp _ hp)).1;obtain⟨vs,eS,_⟩:=ob.v;cases q with
 |none=>
  have hq:d=none:=hq;exact⟨none,di,ob.c,by unfold W.notCls;rw[eS],by rw[ob.d,hq];trivial⟩
 |some n=>
  obtain⟨x0,ed,gq⟩:=hq;obtain⟨mA,cP,fY⟩:=I.hok x0 _ gq;obtain⟨od,ic,gz⟩:=jo cP;exact⟨some od,di,ob.c,by unfold W.notCls;rw[eS],by rw[ob.d,ed];exact ic⟩
theorem Zl(hK:X.K=Ξ)(t:ExcT Ξ C)(ob:q05 C d oe)(hp:(a,oe)∈X.pn):zB X (.builtin "isinstance") (rIsX Ξ C a d):=by
 subst hK;intro a3 s Z H xs us Q I r h;obtain⟨c,cv,b,q,rfl,hc,e,hq,k⟩:=h;obtain⟨u,v,rfl,ru,rv⟩:=Yz r;obtain rfl:u=Value.ref a:=ru;obtain rfl:=KC hc rv;obtain⟨od,J⟩:=q94 I ob hp hq;exact DN (W.kitx_exc t.ga t.gt t.mr t.hd t.ha t.hn t.htk t.hmo) I.kIn J e (λz=>nomatch z) λtk=>⟨.bl b,H,I.tok tk,rfl,k⟩
def uIsX(a:Addr)(d:Option Addr)(b:Bool)(ua:UE):UE:=λρ M Q=>ua ρ M λx M1=>(∃q,x=.x a d q)/\Q (.p (.bl b)) M1
theorem PartX.is(h:PartX ι H d q):PartIs d H q:=by
 cases q with
 |none=>exact h
 |some n=>
  obtain⟨x0,e,_,hx⟩:=h;exact⟨x0,e,hx⟩
theorem xO(hc:clsV c=some cv)(hk:W.kitOne Ξ (.ref C) cv=some b)(ha:ZE ta ua):ZE (tCB (rIsX Ξ C a d) (vE ta (vE (tC c) tNil))) (uIsX a d b ua):=⟨λA ι Z H ρ M Qu Q w e q k=>
 ha.h A ι Z H ρ M _ _ w e q λx M1 a6 v H1 l1 w1 r1 zz=>by
  obtain⟨⟨qq,ex⟩,q1⟩:=zz;subst ex;cases r1 with
  |x h=>exact⟨c,cv,b,qq,rfl,hc,hk,h.is,k _ M1 a6 _ H1 l1 w1 (.p (.bl _)) q1⟩⟩
theorem q8d:uIsX a d b ua ρ M Q=ua ρ M λx M1=>(∃q,x=.x a d q)/\Q (.p (.bl b)) M1:=rfl
theorem Wd.ext(w:Wd A ι H M)(h:∀x o,H x=some o->H' x=some o):Wd A ι H' M:=by
 have l:Le ι H ι H':=⟨⟨[],by simp,by simp⟩,λx o e _=>h x o e,λx e=>by
  cases q:H x with
  |none=>exact absurd q e
  |some o=>rw[h x o q];simp⟩
 refine⟨w.nd,w.len,λx hx=>l.al x (w.dom x hx),w.na,λk a o e1 e2=>?_⟩;have r:=w.obj k a o e1 e2;obtain⟨q,hq⟩:=r.some;exact r.le' l (by rw[h a q hq,hq]) λx hx=>by rw[h x _ hx,hx]
def flD:Nat->T->Prop
 |0,_=>False
 |n+1,.tup xs=>∀x∈xs,flD n x
 |n+1,.lst xs=>∀x∈xs,flD n x
 |_+1,_=>True
theorem Zf:∀{n:Nat}{t:T},flD n t->∃r,EqT n t t r
 |0,_,h=>h.elim
 |n+1,.non,_=>⟨_,.flat rfl rfl⟩
 |n+1,.bl b,_=>⟨_,.flat rfl rfl⟩
 |n+1,.int i,_=>⟨_,.flat rfl rfl⟩
 |n+1,.str s,_=>⟨_,.flat rfl rfl⟩
 |n+1,.tup xs,h=>by
  have:∀j:Nat,∃r,∀x,xs[j]?=some x->EqT n x x r:=λj=>by
   cases e:xs[j]? with
   |none=>exact⟨true,λx z=>by cases z⟩
   |some x=>
    obtain⟨r,hr⟩:=Zf (h x (De e));exact⟨r,λy z=>by cases z;exact hr⟩
  exact⟨_,.tup (e:=λj=>(this j).choose) λj x y hx hy=>by rw[hx]at hy;cases hy;exact(this j).choose_spec x hx⟩
 |n+1,.lst xs,h=>by
  have:∀j:Nat,∃r,∀x,xs[j]?=some x->EqT n x x r:=λj=>by
   cases e:xs[j]? with
   |none=>exact⟨true,λx z=>by cases z⟩
   |some x=>
    obtain⟨r,hr⟩:=Zf (h x (De e));exact⟨r,λy z=>by cases z;exact hr⟩
  exact⟨_,.lst (e:=λj=>(this j).choose) rfl λj x y hx hy=>by rw[hx]at hy;cases hy;exact(this j).choose_spec x hx⟩
theorem Ki{X:Cx}:(a,oe)∈(X.named a oe).pn:=Dt _ (Do.mpr rfl)
theorem XE:bootBuiltins "ValueError" = some (.type "ValueError"):=by decide+kernel
def q4l(xs:List Str):List V:=xs.map V.str
def q8f(Ξ:PySem.W.Frag):V->List V->Hp->VK->Prop:=λx xs H Q=>∃y p zs,x=.str y/\xs=[.ref p]/\SqL Ξ H p (q4l zs)/\(zs.map (·.length)).sum+zs.length*y.length<=16777216/\Q (.str (Txt.join y zs)) H
theorem J4:∀{zs:List Str}{us:List Value},Vals (q4l zs) us->StrsAre us zs
 | [],_,.nil=>.nil
 |z::zs,_,.cons r q=>by
  obtain⟨t,rfl⟩:=r;exact .cons _ _ (J4 q)
theorem q1s(h:X.K=Ξ):MtR X "str.join" (q8f Ξ):=by
 subst h;intro a3 s Z H x xs v us Q I rx r h;obtain⟨y,p,zs,rfl,rfl,hp,hz,q⟩:=h;obtain⟨t,rfl⟩:=rx;obtain⟨u,rfl,ru⟩:=QV r;cases ru;obtain⟨its,rv,pl,_⟩:=I.list hp;exact PyProof.Rows.join_list pl.isList (J4 (by simpa using rv)) hz λt' k=>⟨.str _,H,I.tok _,⟨_,rfl⟩,q⟩
def MbL(r:V->List V->Hp->VK->Prop)(s:Str->List T->(T->Prop)->Prop):Prop:=∀(A:Addr->Prop)(ι:List Addr)(H:Hp)(M:MM)(y:Str)(vs:List V)(ts:List T)(Qs:T->Prop)(Q:VK),Wd A ι H M->Paired (RepV (Av A ι) H) vs ts->s y ts Qs ->
 (∀t ag v H',Le ι H ag H'->Wd A ag H' M->RepT (Av A ag) H' v t->Qs t->Q v H')->r (.str y) vs H Q
def BmS(s:Str->List T->(T->Prop)->Prop)(ul:UA)(ρ:UEnv)(M:MM)(x:U)(Q:UK):Prop:=∃y,x=.p (.str y)/\ul ρ M λus M2=>∃ts,sns M2 us=some ts/\s y ts λt=>Q (.p t) M2
def uBm(s:Str->List T->(T->Prop)->Prop)(uo:UE)(ul:UA):UE:=λρ M Q=>uo ρ M λx M1=>BmS s ul ρ M1 x Q
theorem q9T(h:MbL r s)(ho:ZE to uo)(ha:ZA n tl ul):ZE (tBM Ξ "str" r to tl) (uBm s uo ul):=⟨λA ι Z H ρ M Qu Q w e q k=>
 ho.h A ι Z H ρ M _ _ w e q λx M1 a6 v H1 l1 w1 r1 zz=>by
  obtain⟨y,ex,q1⟩:=zz;subst ex;cases r1 with
  |p r=>
  cases r;exact⟨rfl,ha.h A a6 Z H1 ρ M1 _ _ w1 (e.le l1) q1 λus M2 ac vs H2 l2 w2 hn r2 ⟨ts,e2,q2⟩=>h A ac H2 M2 y vs ts _ Q w2 (r2.sns w2 e2) q2 λt c7 z H3 l3 w3 r3 q3=>k _ M2 c7 z H3 ((l1.trans l2).trans l3) w3 (.p r3) q3⟩⟩
theorem q9K:uBm s uo ul ρ M Q=uo ρ M λx M1=>BmS s ul ρ M1 x Q:=rfl
def q9D:Str->List T->(T->Prop)->Prop:=λy ts Q=>∃zs:List Str,ts=[.lst (zs.map T.str)]/\(zs.map (·.length)).sum+zs.length*y.length<=16777216/\Q (.str (Txt.join y zs))
theorem J3:∀{vs:List V}{zs:List Str},RepTs A H vs (zs.map T.str)->vs=q4l zs
 | [], [],.nil=>rfl
 |_::_,z::zs,.cons r q=>by
  cases r;rw[J3 q];rfl
theorem q1j:MbL (q8f Ξ) q9D:=λA ι H M y vs ts Qs Q w r ⟨zs,e,hz,q⟩ k=>by
 subst e;obtain⟨v,ev,r1⟩:=pv1 r;subst ev;obtain⟨p,ws,rfl,h1,h2⟩:=r1.lst_inv;cases J3 h2;exact⟨y,p,zs,rfl,rfl,SqL.of h1,hz,k _ ι _ H (.refl _ _) w (.str _) q⟩
theorem q7L:BmS s ul ρ M (.p (.str y)) Q=ul ρ M λus M2=>SnsS M2 us λts=>s y ts λt=>Q (.p t) M2:=propext ⟨λzz=>by obtain⟨_,e,h⟩:=zz;cases e;exact h,λh=>⟨y,rfl,h⟩⟩
def entD(P:Params)(e:Str×Tok×Value):DictEntry:=⟨PyData.keyHash P e.1,.str e.1 e.2.1,e.2.2⟩
structure KDi(Ξ:PySem.W.Frag)(w:World)(mg:Str->Option Value)(nm:Str)(a:Addr)(kvs:List (Str×V)):Prop where
 g:mg nm=some (.ref a)
 ex:∃(aR:List (Str×Tok×Value))(ep:Nat),Ξ.lookup a=some ⟨.type "dict", none,.dict ((aR.map (entD w.params)).toArray) ep, #[]⟩/\(aR.map (·.1)).Nodup/\Paired (λ(kv:Str×V) (r:Str×Tok×Value)=>kv.1=r.1/\RelV kv.2 r.2.2) kvs aR
def keyR(r:Str×Tok×Value):Key×Value:=(.inr r.1,r.2.2)
theorem WR:∀aR:List (Str×Tok×Value),Pairs (qZ prog w) (aR.map (entD w.params)) (aR.map keyR)
 | []=>.nil
 |r::aR=>.cons (xZ prog w r.1 r.2.1) rfl (WR aR)
theorem q6F(aR:List (Str×Tok×Value)):KeysOf (qZ prog w) (aR.map (entD w.params)).toArray:=λe he=>by
 obtain⟨r,_,rfl⟩:=DP.mp (List.mem_toArray.mp he);exact⟨.inr r.1,xZ prog w r.1 r.2.1,rfl⟩
theorem q4G:∀{aR:List (Str×Tok×Value)},(aR.map (·.1)).Nodup->((aR.map keyR).map (·.1)).Nodup:=λ{aR} h=>by
 rw[Ry];have e:((λx=>x.1) ∘ keyR)=(λx:Str=>(Key.inr x:Key)) ∘ (λr:Str×Tok×Value=>r.1):=rfl;rw[e, <-Ry];exact List.Pairwise.map _ (λa b lT z=>lT (Key.inr.inj z)) h
theorem q3a:∀{kvs:List (Str×V)}{aR:List (Str×Tok×Value)},Paired (λ(kv:Str×V) (r:Str×Tok×Value)=>kv.1=r.1/\RelV kv.2 r.2.2) kvs aR->kvs.lookup k=some v->∃u,valueAt (aR.map keyR) (.inr k:Key)=some u/\RelV v u
 |_,_,.nil,e=>by simp at e
 | (a,b)::kvs,r::aR,.cons ⟨e1,e2⟩ q,e=>by
  have e1:a=r.1:=e1;subst e1;by_cases h:k=r.1
  ·subst h
   rw[DC,U3]at e;cases e;exact⟨r.2.2,by simp[valueAt,keyR],e2⟩
  ·rw[DC,beq_false_of_ne h]at e
   obtain⟨u,h1,h2⟩:=q3a q e;refine⟨u,?_,h2⟩;unfold valueAt at h1 ⊢;rw[Dx,List.find?_cons_of_neg]
   ·exact h1
   ·intro z
    exact h (Key.inr.inj (Us z)).symm
theorem q9F(D:KDi X.K X.w X.mg nm a kvs)(I:Inv X a3 Z H s):∃aR:List (Str×Tok×Value),s.heap.DictOf (qZ X.prog X.w) a (aR.map keyR)/\Paired (λ(kv:Str×V) (r:Str×Tok×Value)=>kv.1=r.1/\RelV kv.2 r.2.2) kvs aR:=by
 obtain⟨aR,ep,h1,h2,h3⟩:=D.ex;exact⟨aR,⟨_,_,ep,I.kIn a _ h1,⟨rfl,rfl,rfl⟩,rfl,q6F aR,by simpa using WR aR,q4G h2⟩,h3⟩
def tKD(kvs:List (Str×V))(ty:TE):TE:=λZ H Q=>ty Z H λy H1=>∃k v,y=.str k/\kvs.lookup k=some v/\Q v H1
theorem q9x(D:KDi X.K X.w X.mg nm a kvs)(hg:Gl X nm)(hi:QE X i ty)(hs:NoSl i)(hd:(nm==("__debug__" : Str))=false:=by decide):QE X (.Subscript (.Name nm p) i pos) (tKD kvs ty):=⟨by
 intro a3 s Z H Q I h;refine YZ PySem.F.slot_dict_getitem.lookup hs (zh I hg D.g (thn (hi.h a3 s Z H _ I h) λiv s2 ⟨y,H2,I2,ry,k,v,ey,e,q2⟩=>?_) hd);subst ey;obtain⟨aR,dd,hp⟩:=q9F D I2;obtain⟨u,hu,ru⟩:=q3a hp e;exact⟨dd.typeIs,wpAny_getItem_of (Jv (k:=.inr k) ry) dd.mapOf hu ⟨v,H2,I2.tok _,ru,q2⟩⟩⟩
def uKD(ks:List (Str×T))(ub:UE):UE:=λρ M Q=>ub ρ M λy M1=>∃k t,y=.p (.str k)/\ks.lookup k=some t/\Q (.p t) M1
theorem Gz:∀{kvs:List (Str×V)}{ks:List (Str×T)},Paired (λ(a:Str×V) (b:Str×T)=>a.1=b.1/\Sc a.2 b.2) kvs ks->ks.lookup k=some t->∃v,kvs.lookup k=some v/\Sc v t
 |_,_,.nil,e=>by simp at e
 | (a,b)::kvs,(c,d)::ks,.cons ⟨e1,e2⟩ q,e=>by
  have e1:a=c:=e1;subst e1;rw[DC]at e ⊢;cases h:k==a with
  |true=>rw[h]at e;cases e;exact⟨b,rfl,e2⟩
  |false=>rw[h]at e;exact Gz q e
theorem q9H(h:Paired (λ(a:Str×V) (b:Str×T)=>a.1=b.1/\Sc a.2 b.2) kvs ks)(hb:ZE tb ub):ZE (tKD kvs tb) (uKD ks ub):=⟨λA ι Z H ρ M Qu Q w e q k=>
 hb.h A ι Z H ρ M _ _ w e q λy M1 a6 v H1 l1 w1 r1 zz=>by
  obtain⟨kk,t,ey,el,q1⟩:=zz;subst ey;cases r1 with
  |p r=>
  cases r;obtain⟨v,h1,h2⟩:=Gz h el;exact⟨kk,v,rfl,h1,k _ M1 a6 _ H1 l1 w1 (.p h2.rep) q1⟩⟩
mutual
def toD:T->PyData
 |.non=>.none
 |.bl b=>.bool b
 |.int i=>.int i
 |.str x=>.str x
 |.tup xs=>.tuple (toDs xs)
 |.lst xs=>.list (toDs xs)
def toDs:List T->List PyData
 | []=>[]
 |x::xs=>toD x::toDs xs
end
mutual
theorem noD:∀t:T,(toD t).hasDict=false
 |.non=>rfl
 |.bl _=>rfl
 |.int _=>rfl
 |.str _=>rfl
 |.tup xs=>noDs xs
 |.lst xs=>noDs xs
theorem noDs:∀ts:List T,PyData.hasDictAll (toDs ts)=false
 | []=>rfl
 |x::xs=>by show((toD x).hasDict||PyData.hasDictAll (toDs xs))=false;rw[noD x,noDs xs];rfl
end
theorem xk{h:Heap}:∀{vs:List V}{ts:List T}{us:List Value},Vals vs us->vs.length=ts.length->(∀(i:Nat) v t,vs[i]?=some v->ts[i]?=some t->∀u,RelV v u->∃as,Reads h u (toD t) as)->∃as,ReadsAll h us (toDs ts) as
 | [], [],_,.nil,_,_=>⟨_,.nil⟩
 |v::vs,t::ts,_,.cons r q,hl,ih=>by
  obtain⟨as,h1⟩:=ih 0 v t rfl rfl _ r;obtain⟨bs,h2⟩:=xk q (by simpa using hl) λi v t e1 e2=>ih (i+1) v t (by simpa using e1) (by simpa using e2);exact⟨_,.cons h1 h2⟩
theorem VP{A:Addr->Prop}{v:V}{t:T}(I:Inv X a3 Z H s)(r:RepT A H v t):∀u,RelV v u->∃as,Reads s.heap u (toD t) as:=by
 induction r with
 |non=>intro u e;cases e;exact⟨_,.none⟩
 |bl b=>intro u e;cases e;exact⟨_,.bool b⟩
 |int i=>intro u e;obtain⟨t,rfl⟩:=e;exact⟨_,.int i t⟩
 |str x=>intro u e;obtain⟨t,rfl⟩:=e;exact⟨_,.str x t⟩
 |tup na e l r ih=>
  intro u eu;cases eu;obtain⟨its,rv,⟨o,h1,h2,n,h3⟩,_⟩:=I.tuple (SqT.of e);obtain⟨as,q⟩:=xk (h:=s.heap) rv l ih;exact⟨_,.tuple h1 h2 h3 (by simpa using q)⟩
 |lst na e l r ih=>
  intro u eu;cases eu;obtain⟨its,rv,pl,_⟩:=I.list (SqL.of e);obtain⟨o,h1,h2,n,h3⟩:=pl.isList;obtain⟨as,q⟩:=xk (h:=s.heap) rv l ih;exact⟨_,.list h1 h2 h3 (by simpa using q)⟩
structure q06(t:T):Prop where
 sh:(toD t).showable=true
 dp:(toD t).depth<=60
 sz:(toD t).shown.length<=sizeLine
def q8r:List V->Hp->VK->Prop:=λxs H Q=>∃(A:Addr->Prop)(v:V)(t:T),xs=[v]/\RepV A H v t/\q06 t/\Q (.str (toD t).shown) H
theorem Xz(hg:X.A.guards=some [])(hu:X.A.units+64<cLine):zB X (.builtin "repr") q8r:=by
 intro a3 s Z H xs us Q I r h;obtain⟨A,v,t,rfl,rv,ok,q⟩:=h;obtain⟨u,rfl,ru⟩:=QV r;have big:∀(a:Addr)(as:List Addr),Reads s.heap (.ref a) (toD t) as->wpAny (model X.prog X.w) X.A (call (.builtin "repr") [.ref a]) (EP X a3 Z Q) X.xe s:=λa as rd=>
  repr_of_reads' rd ok.sh (PyData.noDict_hsm (noD t)) hg (by have:=ok.dp;lia) (λ_ _ e=>e) (λh' u tk hk=>⟨.str _,H,I.kept (t':=tk) hk,⟨_,rfl⟩,q⟩) ok.sz
 cases rv with
 |of r=>
  obtain⟨as,rd⟩:=VP I r u ru;cases r with
  |non=>cases ru;exact PySem.P.repr_of_none ⟨.str _,H,I.tok _,⟨_,rfl⟩,q⟩
  |bl b=>cases ru;exact PySem.P.repr_of_bool ⟨.str _,H,I.tok _,⟨_,rfl⟩,q⟩
  |int i=>
   obtain⟨t,rfl⟩:=ru;exact PySem.P.repr_of_int (Us ok.sh) ⟨.str _,H,I.tok _,⟨_,rfl⟩,q⟩
  |str x=>
   obtain⟨t,rfl⟩:=ru;exact PySem.P.repr_of_str ⟨.str _,H,I.tok _,⟨_,rfl⟩,q⟩ ok.sz
  |tup=>cases ru;exact big _ _ rd
  |lst=>cases ru;exact big _ _ rd
 |lst e rr=>
  cases ru;obtain⟨its,rv,pl,_⟩:=I.list (SqL.of e);obtain⟨o,h1,h2,n,h3⟩:=pl.isList;obtain⟨as,q⟩:=xk (h:=s.heap) rv rr.len λi v t e1 e2=>VP I (Paired.get2 rr e1 e2);exact big _ _ (.list h1 h2 h3 (by simpa using q))
 |tup e rr=>
  cases ru;obtain⟨its,rv,⟨o,h1,h2,n,h3⟩,_⟩:=I.tuple (SqT.of e);obtain⟨as,q⟩:=xk (h:=s.heap) rv rr.len λi v t e1 e2=>VP I (Paired.get2 rr e1 e2);exact big _ _ (.tuple h1 h2 h3 (by simpa using q))
def q7Q:List T->(T->Prop)->Prop:=λts Q=>∃t,ts=[t]/\q06 t/\Q (.str (toD t).shown)
theorem q0t:CbL q8r q7Q:=λA ι H M vs ts Qs Q w r ⟨t,e,ok,q⟩ k=>by
 subst e;obtain⟨v,ev,r1⟩:=pv1 r;subst ev;exact⟨_,v,t,rfl,r1,ok,k _ ι _ H (.refl _ _) w (.str _) q⟩
theorem Wm{t:T}{Q:T->Prop}:q7Q [t] Q=(q06 t/\Q (.str (toD t).shown)):=propext ⟨λzz=>by obtain⟨_,e,h⟩:=zz;cases e;exact h,λh=>⟨t,rfl,h⟩⟩
theorem q3q:bootBuiltins "repr" = some (.builtin "repr"):=by decide+kernel
theorem Wd.takeA(w:Wd (λx=>A x\/x=p) ι H M)(ha:¬A p)(hp:H p=some (.lst ys))(r:RepTs (Av (λx=>A x\/x=p) ι) H ys ts):Wd A (ι++[p]) H (M++[.lst (ts.map U.p)])/\p∉ι:=by
 have np:p∉ι:=λz=>w.na p z (.inr rfl);have hl:Lea (λx=>A x\/x=p) ι H A (ι++[p]) H:=⟨⟨[p],rfl⟩,λx o hx e=>⟨e,λz=>hx (z.elim (λz=>.inl (.inl z)) λz=>(Dl.mp z).elim .inr λz=>.inl (.inr (Do.mp z)))⟩,λx fs hx e=>⟨λz=>(Dl.mp z).elim hx λz=>(by rw[Do.mp z,hp]at e;cases e),e⟩⟩;refine⟨⟨Rg.mpr ⟨w.nd,by simp,λa ha b hb=>by rw[Do.mp hb];exact λz=>np (by rw[<-z];exact ha)⟩,by simp[w.len],λx hx=>w.dom x (.inl hx),λx hx z=>?_,λk a ob e1 e2=>?_⟩,np⟩
 ·rcases Dl.mp hx with h|h
  ·exact w.na x h (.inl z)
  ·rw[Do.mp h]at z;exact ha z
 ·by_cases hk:k<ι.length
  ·rw[Df hk]at e1
   rw[Df (by rw[<-w.len];exact hk)]at e2;have q:=w.obj k a ob e1 e2;cases ob with
   |lst=>obtain⟨vs,e,q⟩:=q;exact⟨vs,e,Paired.mapP q λ_ _ q=>q.lea hl⟩
   |tup=>obtain⟨vs,e,q⟩:=q;exact⟨vs,e,Paired.mapP q λ_ _ q=>q.lea hl⟩
   |ins=>
    obtain⟨dx,gs,e,ed,nd,q⟩:=q;refine⟨dx,gs,e,ed,λz=>?_,Paired.mapP q λ_ _ q=>⟨q.1,q.2.lea hl⟩⟩;rcases Dl.mp z with z|z
    ·exact nd z
    ·rw[Do.mp z,hp]at ed;cases ed
   |dK=>obtain⟨gs,e,q⟩:=q;exact⟨gs,e,Paired.mapP q λ_ _ q=>⟨q.1,q.2.lea hl⟩⟩
   |dF=>obtain⟨e,q⟩:=q;exact⟨e,Paired.mapP q λ_ _ q=>⟨q.1,q.2.lea hl⟩⟩
   |tab=>
    obtain⟨ps,e,t,z⟩:=q;refine⟨ps,e,t,z.imp id λ⟨c,h1,h2,h3⟩=>⟨c,h1,h2,λy=>?_⟩⟩;rcases Dl.mp y with y|y
    ·exact h3 y
    ·rw[Do.mp y,hp]at h2;cases h2
  ·have lN:=(Db.mp e1).1
   rw[Dg,D5]at lN;have:k=ι.length:=by lia
   subst this;rw[Dk (Dh _),RF]at e1;rw[w.len,Dk (Dh _),RF]at e2;simp at e1 e2;subst e1 e2;exact⟨ys,hp,RepTs.ups (Paired.mapP r λ_ _ q=>q.mono hl.av)⟩
theorem Le.pushed{H H':Hp}{ι ag:List Addr}{p:Addr}(l:Le ι H ag H')(h:H p=none)(_:p∉ag):Le ι H (ag++[p]) H':=by
 obtain⟨m,rfl,hm⟩:=l.ext;refine⟨⟨m++[p],by rw[DF],λx hx=>?_⟩,l.fr,l.al⟩;rcases Dl.mp hx with z|z
 ·exact hm x z
 ·rw[Do.mp z];exact h
def q2K(it:UIt)(ug:UG)(ut:UT)(ue:UE)(ef:UEnv)(M1:MM)(Q:UK):Prop:=it.n<=sizeLine/\∃Iv:Nat->List T->MM->Prop,Iv 0 [] M1 /\
 (∀i a8 M2,i<it.n->a8.length<=i->Iv i a8 M2->it.ok M2/\∀u,it.item i u->ug u ef M2 λc6 M4=>ut c6 M4 λb M5=>if b=true then ue c6 M5 λz M6=>∃t,z=.p t/\Iv (i+1) (a8++[t]) M6 else Iv (i+1) a8 M5) /\
 (∀a8 M2,Iv it.n a8 M2->it.ok M2/\Q (.m M2.length) (M2++[.lst (a8.map U.p)]))
def YI(ui:UI)(bs:List Bool)(n:Nat)(ug:UG)(ut:UT)(ue:UE):UE:=λρ M Q=>ui ρ M λit M1=>ρ.length=bs.length/\q2K it ug ut ue (Ye bs n ρ) M1 Q
theorem q0C(hi:ZI wi ui)(hg:ZX bs n g ug)(ht:ZT tt ut)(he:ZE te ue):ZE (xG wi bs n g tt te) (YI ui bs n ug ut ue):=⟨by
 intro A ι Z H ρ M Qu Q w e q k;refine hi.h A ι Z H ρ M _ _ w e q λit M1 a6 J H1 l1 w1 hJ q1 a8 bD=>?_;obtain⟨ay,hsz,Iv,I0,It,Id⟩:=q1;have lO:Z.length=bs.length:=by rw[<-ay];exact e.len
 have e1:=e.le l1;have na:¬Av A a6 a8:=w1.nA bD;have aD:∀ac H2,Le a6 H1 ac H2->(∀x∈ac,¬(A x\/x=a8))->Lea A a6 H1 (λx=>A x\/x=a8) ac H2:=λac H2 l h=>by
  refine⟨let⟨n,e,_⟩:=l.ext;⟨n,e⟩,λx o hx ex=>?_,l.xd⟩;obtain⟨a1,a2⟩:=l.av hx ex;refine⟨a1,λz=>?_⟩;rcases z with(z|z)|z
  ·exact a2 (.inl z)
  ·rw[z,bD]at ex;cases ex
  ·exact a2 (.inr z)
 refine⟨λi m H2=>m=it.n-i/\i<=it.n/\∃ac M2 ax ys,Le a6 H1 ac H2/\Wd (λx=>A x\/x=a8) ac H2 M2/\H2 a8=some (.lst ys)/\RepTs (Av (λx=>A x\/x=a8) ac) H2 ys ax/\ax.length<=i/\Iv i ax M2,
  ⟨it.n,by simp,DQ _,a6,M1, [], [],.fresh bD,w1.addA bD,upd_same,.nil,Dh _,I0⟩,?_⟩
 rintro i m H2 ⟨rfl,cz,ac,M2,ax,ys,l2,w2,fN,fQ,fR,I2⟩;have lea:=aD ac H2 l2 w2.na;by_cases bY:i<it.n
 ·obtain⟨ok,step⟩:=It i ax M2 bY fR I2
  obtain⟨i8,jy⟩:=(hJ _ ac H2 M2 i lea w2 ok).1 bY;refine .inr ⟨i8,λH'=>∃ac M2 ax ys,Le a6 H1 ac H'/\Wd (λx=>A x\/x=a8) ac H' M2/\H' a8=some (.lst ys)/\RepTs (Av (λx=>A x\/x=a8) ac) H' ys ax/\ax.length<=i+1/\Iv (i+1) ax M2,λH' h=>⟨it.n-(i+1),by lia,rfl,bY,h⟩,λx H3 y=>?_⟩;obtain⟨u,hu,l3,w3,r3⟩:=jy x H3 y;have dM:=l2.trans l3;have dh:∀{ag:List Addr}{H':Hp}{M':MM},Wd (λx=>A x\/x=a8) ag H' M'->a8∉ag:=λw z=>w.na a8 z (.inr rfl);have lP:H3 a8=some (.lst ys):=l3.fr _ _ fN (dh w2);have fS:EnvR (λx=>A x\/x=a8) ac H3 (zg bs n Z) (Ye bs n ρ):=(e1.mask).lea (aD ac H3 dM w3.na);refine hg.h _ ac Z H3 _ M2 x u _ _ lO w3 fS r3 (step u hu) λc6 cQ e4 x4 fT q4=>⟨⟨x4,fT⟩,?_⟩;refine ht.h _ ac cQ H3 c6 M2 _ _ w3 e4 q4 λb M5 cU H5 l5 w5 q5=>?_;have i9:H5 a8=some (.lst ys):=l5.fr _ _ lP (dh w3);have er:RepTs (Av (λx=>A x\/x=a8) cU) H5 ys ax:=Paired.mapP fQ λ_ _ q=>(q.le l3).le l5;cases b with
  |false=>exact⟨cU,M5,ax,ys,dM.trans l5,w5,i9,er,Bq fR,q5⟩
  |true=>
   refine he.h _ cU cQ H5 c6 M5 _ _ w5 (e4.le l5) q5 λz M6 lQ zv H6 l6 w6 r6 q6=>?_;obtain⟨t,rfl,q6⟩:=q6;have fU:H6 a8=some (.lst ys):=l6.fr _ _ i9 (dh w5);refine⟨ys,fU,?_,lQ,M6,ax++[t],ys++[zv],((dM.trans l5).trans l6).updF bD,(w6.updA (.inr rfl) fU).2,upd_same,?_,by rw[Dg,D5];lia,q6⟩
   ·rw[fQ.len];lia
   ·have hl:=(w6.updA (o:=.lst (ys++[zv])) (.inr rfl) fU).1
    cases r6 with
    |p r6=>exact Paired.app (Paired.mapP er λ_ _ q=>(q.le l6).mono hl.av) (.cons (r6.mono hl.av) .nil)
 ·have ei:i=it.n:=by lia
  subst ei;obtain⟨ok,fin⟩:=Id ax M2 I2;obtain⟨w3,l3⟩:=w2.takeA (λz=>na (.inl z)) fN fQ;exact .inl ⟨(hJ _ ac H2 M2 _ lea w2 ok).2 rfl,k _ _ (ac++[a8]) _ H2 (l1.trans (l2.pushed bD l3)) w3 (.m (by rw[<-w2.len];exact xA)) fin⟩⟩
theorem UComp.new{M1:MM}(h:UComp it ug ut ue ef M1 R)(k:∀a8 M2,R (.p (.lst a8)) M2->Q (.m M2.length) (M2++[.lst (a8.map U.p)])):q2K it ug ut ue ef M1 Q:=by
 obtain⟨hz,Iv,h0,hs,hd⟩:=h;exact⟨hz,Iv,h0,hs,λa8 M2 h=>⟨(hd a8 M2 h).1,k a8 M2 (hd a8 M2 h).2⟩⟩
def LiN(us:List U)(M:MM)(Q:UK):Prop:=∃x ys,us=[x]/\(qQ M x=some ys\/vC M x=some ys)/\Q (.m M.length) (M++[.lst ys])
def YG(ul:UA):UE:=λρ M Q=>ul ρ M λus M1=>LiN us M1 Q
theorem q1x(ha:ZA n tl ul):ZE (tCB (λxs H Q=>∃p ys,xs=[.ref p]/\(SqL Ξ H p ys\/SqT Ξ H p ys)/\∀l,H l=none->Q (.ref l) (upd H l (.lst ys))) tl) (YG ul):=⟨λA ι Z H ρ M Qu Q w e q k=>
 ha.h A ι Z H ρ M _ _ w e q λus M1 a6 vs H1 l1 w1 hn r1 zz=>by
  obtain⟨x,ys,eu,hy,q1⟩:=zz;subst eu;cases r1 with
  |cons r q'=>
  cases q';rcases hy with hy|hy
  ·obtain⟨p,zs,rfl,h1,h2⟩:=vD w1 r hy
   exact⟨p,zs,rfl,.inl (SqL.of h1),λl hl=>k _ _ _ _ _ (l1.trans (.push hl)) (zG w1 hl h2).1 (zG w1 hl h2).2 q1⟩
  ·obtain⟨p,zs,rfl,h1,h2⟩:=zu w1 r hy
   exact⟨p,zs,rfl,.inr (SqT.of h1),λl hl=>k _ _ _ _ _ (l1.trans (.push hl)) (zG w1 hl h2).1 (zG w1 hl h2).2 q1⟩⟩
def YL(G:List T->(T->Prop)->Prop)(ul:UA):UE:=λρ M Q=>ul ρ M λus M1=>∃ts,frzs (frzN 6 M1) us=some ts/\G ts λt=>(∃x,vt t=some x)/\Q (.p t) M1
theorem q24(ha:ZA n tl ul):ZE (zT (spP G) [] E tl) (YL G ul):=⟨λA ι Z H ρ M Qu Q w e q k=>
 ha.h A ι Z H ρ M _ _ w e q λus M1 a6 vs H1 l1 w1 hn r1 zz=>by
  obtain⟨ts,et,q1⟩:=zz;rw[DD];refine⟨A,ts,_,w1.dom,kz r1 (λv u t r e=>Qx w1 r e) et,q1,λt v H2 s r2 ⟨⟨x,hx⟩,q2⟩=>k _ M1 a6 v H2 (l1.trans s.le) (w1.same s) (.p ?_) q2⟩;cases(RepV.of r2).sc (y:=.non) hx;exact(j5 hx).rep⟩
def Me0S(s:List U->List U->(U->List U->Prop)->Prop)(o:U)(M:MM)(Q:UK):Prop:=∃k us,o=.m k/\M[k]?=some (.lst us)/\s us [] λz cB=>Q z (M.set k (.lst cB))
def uMe0(s:List U->List U->(U->List U->Prop)->Prop)(uo:UE):UE:=λρ M Q=>uo ρ M λo M1=>Me0S s o M1 Q
set_option tactic.hygienic true in
theorem q8w(h:MeL r s)(ha:ZE ta ua):ZE (tBM0 Ξ "list" r ta) (uMe0 s ua):=⟨λA ι Z H ρ M Qu Q w e q k=>
 ha.h A ι Z H ρ M _ _ w e q λo M1 a6 v H1 l1 w1 r1 zz=>by
  obtain⟨kk,us,eo,hz,q1⟩:=zz;subst eo;cases r1 with
  |m ek=>
  rename_i a;obtain⟨iP,h1,h2⟩:=w1.obj kk a _ ek hz;have hm:=De ek;exact⟨.inl ⟨rfl,iP,SqL.of h1⟩,h A a6 H1 M1 kk a iP [] us [] _ Q w1 ek h1 hz h2 .nil q1 λz cB zv gy rx rz qz=>k z _ a6 zv _ (l1.trans (.put hm)) (w1.put (mo:=.lst cB) ek ⟨gy,upd_same,RepUs.le (.put hm) rx⟩) (rz.le (.put hm)) qz⟩⟩
theorem qag(h:∀x∈xs,flD 20 x)(q:Q (.bl (!neg))):q5N neg (.tup xs) (.tup xs) Q:=by
 have:∀j:Nat,∃r,∀x,xs[j]?=some x->EqT 20 x x r:=λj=>by
  cases e:xs[j]? with
  |none=>exact⟨true,λx z=>by cases z⟩
  |some x=>
   obtain⟨r,hr⟩:=Zf (h x (De e));exact⟨r,λy z=>by cases z;exact hr⟩
 refine⟨xs,xs,λj=>(this j).choose,rfl,rfl,λj x y hx hy=>by rw[hx]at hy;cases hy;exact(this j).choose_spec x hx,?_⟩;have e:(List.range (min xs.length xs.length)).all (λj=>(this j).choose)=true:=by
  rw[RZ];intro j hj;have hj:=DZ.mp hj;exact((this j).choose_spec _ (Dc (by lia))).self rfl
 rw[e];cases neg<;>simpa using q
def ItB(b:Bool)(h:Heap)(it a:Addr)(i:Nat):Prop:=match b with
 |true=>h.IsListIter it a i
 |false=>h.IsTupleIter it a i
theorem ItB.ex(x:ItB b h it a i):∃o vs,h.get? it=some o/\o.data=.fields vs:=by
 cases b
 ·obtain⟨o,e,_,d⟩:=(show h.IsTupleIter it a i from x);exact⟨o,_,e,d⟩
 ·obtain⟨o,e,_,d⟩:=(show h.IsListIter it a i from x);exact⟨o,_,e,d⟩
theorem ItB.at(x:ItB b h it a i)(k:∀o,h.get? it=some o->h'.get? it=some o):ItB b h' it a i:=by
 cases b
 ·obtain⟨o,e,r⟩:=(show h.IsTupleIter it a i from x);exact⟨o,k o e,r⟩
 ·obtain⟨o,e,r⟩:=(show h.IsListIter it a i from x);exact⟨o,k o e,r⟩
section
variable {P:Program}{w:World}{A:Around}{E:Value->Shared->Prop}{s:Shared}{κ:Type} [DecidableEq κ]
def q7D(P:Program)(w:World)(t:Sem Value)(x:Str):Prop:=∀(A:Around)(E:Value->Shared->Prop)(s:Shared)(Q:Value->Shared->Prop),(∀tk t',Q (.str x t') { s with toks:=tk })->wpAny (model P w) A t Q E s
inductive TextPs(P:Program)(w:World):List (Sem Value×Sem Value)->List (Str×Str)->Prop
 |nil:TextPs P w [] []
 |cons {k v:Sem Value}{x y:Str}{ps:List (Sem Value×Sem Value)}{zs:List (Str×Str)} (hk:q7D P w k x) (hv:q7D P w v y) (r:TextPs P w ps zs):TextPs P w ((k,v)::ps) ((x,y)::zs)
theorem TextPs.len(h:TextPs P w ps zs):ps.length=zs.length:=by
 induction h with
 |nil=>rfl
 |cons _ _ _ ih=>rw[Dj,Dj,ih]
inductive TextV:List (Key×Value)->List (Str×Str)->Prop
 |nil:TextV [] []
 |cons {x y:Str}{t:Tok}{l:List (Key×Value)}{zs:List (Str×Str)} (r:TextV l zs):TextV ((.inr x,.str y t)::l) ((x,y)::zs)
theorem TextV.keys(h:TextV l zs):l.map (·.1)=zs.map λz=>Key.inr z.1:=by
 induction h with
 |nil=>rfl
 |cons _ ih=>rw[Dx,Dx,ih]
theorem TextV.len(h:TextV l zs):l.length=zs.length:=by
 have:=Uo List.length h.keys;simpa using this
end
inductive ConstPs:List (Option Expr)->List Expr->List (Str×Str)->Prop
 |nil:ConstPs [] [] []
 |cons {x y:Str}{j j':Nat}{p p':Pos}{ks:List (Option Expr)}{vs:List Expr}{zs:List (Str×Str)} (r:ConstPs ks vs zs):ConstPs (some (.Constant (.str x) j p)::ks) (.Constant (.str y) j' p'::vs) ((x,y)::zs)
theorem ConstPs.all(h:ConstPs ks vs zs):ks.all (·.isSome)=true/\ks.length=vs.length:=by
 induction h with
 |nil=>exact⟨rfl,rfl⟩
 |cons _ ih=>exact⟨by rw[Bw,ih.1];rfl,by rw[Dj,Dj,ih.2]⟩
theorem TextV.kv(h:TextV l zs):KV (zs.map λz=>((.inr z.1:Key),V.str z.2)) l:=by
 induction h with
 |nil=>exact .nil
 |cons _ ih=>exact .cons ⟨rfl,_,rfl⟩ ih
def q6w(Ξ:PySem.W.Frag):R2:=λx y H Q=>∃a b xs ys,x=.ref a/\y=.ref b/\SqT Ξ H a xs/\SqT Ξ H b ys/\xs.length+ys.length<=sizeLine /\
 (xs=[]->Q (.ref b) H)/\(xs≠[]->ys=[]->Q (.ref a) H)/\(xs≠[]->ys≠[]->∀p,H p=none->Q (.ref p) (upd H p (.tup (xs++ys))))
theorem q5R(hK:X.K=Ξ):OpR X (binaryOp .Add) (q6w Ξ):=by
 subst hK;intro a3 s Z H x y v u Q I rx ry h;obtain⟨a,b,xs,ys,rfl,rfl,ha,hb,hz,q0,q1,q2⟩:=h;cases rx;cases ry;obtain⟨its,r1,p1,_⟩:=I.tuple ha;obtain⟨bz,r2,p2,_⟩:=I.tuple hb;by_cases hx:xs=[]
 ·obtain⟨⟨cls,dd,data,sl⟩,ho,hc,n,hd⟩:=id p1
  obtain⟨⟨l7,iF,data2,eP⟩,fG,gK,n2,eW⟩:=id p2;simp only at hc hd gK eW;subst hc hd gK eW;exact concat_meets ⟨_,ho,rfl⟩ ⟨_,fG,rfl⟩ U2 seq_tuple_add PySem.F.slot_tuple_add PySem.F.entry_tuple_add (PySem.F.args_tuple_add_2 _ _)
   (tuple_addW0 a b its.toArray bz.toArray n n2 dd iF sl eP (by simp[r1.nil_iff.mpr hx])) ⟨ho,fG,.ref b,H,I,rfl,q0 hx⟩
 refine HT.cat_tup p1 p2 (λz=>hx (r1.nil_iff.mp z)) (λz=>⟨.ref a,H,I,rfl,q1 hx (r2.nil_iff.mp z)⟩) (λz=>?_) (by rw[<-r1.length, <-r2.length];exact hz);refine⟨.ref s.heap.objs.size,_,I.laid (t':=s.toks) (o:=.tup (xs++ys)) (λb ob q=>Heap.get?_push_of_some _ q) (Dh _) ?_,rfl,q2 hx (λw=>z (r2.nil_iff.mpr w)) _ (I.hok.fresh (Dh _))⟩;exact⟨by rw[Dg];exact hz,_,r1.append r2,IsTup.new _ _⟩
def q9L(x y:U)(M:MM)(Q:UK):Prop:=∃xs ys,x=.p (.tup xs)/\y=.p (.tup ys)/\xs.length+ys.length<=sizeLine/\Q (.p (.tup (xs++ys))) M
def q6s(ua ub:UE):UE:=λρ M Q=>ua ρ M λx M1=>ub ρ M1 λy M2=>q9L x y M2 Q
theorem q5A(ha:ZE ta ua)(hb:ZE tb ub):ZE (tOp (q6w Ξ) ta tb) (q6s ua ub):=⟨λA ι Z H ρ M Qu Q w e q k=>
 ha.h A ι Z H ρ M _ _ w e q λx M1 a6 v H1 l1 w1 r1 q1=>hb.h A a6 Z H1 ρ M1 _ _ w1 (e.le l1) q1 λy M2 ac v2 H2 l2 w2 r2 zz=>by
  obtain⟨xs,ys,ex,ey,hz,q3⟩:=zz;subst ex ey;have dg:=r1.le l2;cases dg with
  |p t1=>
  cases r2 with
  |p t2=>
  obtain⟨p,vs,rfl,_,h1,g1⟩:=id t1.tup_inv;obtain⟨p2,cT,rfl,_,h2,g2⟩:=id t2.tup_inv;have n1:=g1.len;have n2:=g2.len;refine⟨p,p2,vs,cT,rfl,rfl,SqT.of h1,SqT.of h2,by rw[n1,n2];exact hz,λz=>?_,λ_ z=>?_,λ_ _ p hp=>k _ M2 ac _ _ ((l1.trans l2).trans (.fresh hp)) (w2.fresh hp) (.p (ju w2 hp (g1.app g2))) q3⟩
  ·obtain rfl:xs=[]:=RL.mp (by rw[<-n1,z];rfl)
   exact k _ M2 ac _ _ (l1.trans l2) w2 (.p t2) q3
  ·obtain rfl:ys=[]:=RL.mp (by rw[<-n2,z];rfl)
   rw[DD]at q3;exact k _ M2 ac _ _ (l1.trans l2) w2 (.p t1) q3⟩
def tX0(te:TE):TX:=λZ H Q _=>te Z H Q
def tOpX(r:R2)(ta tb:TX):TX:=λZ H Q E=>ta Z H (λx H1=>tb Z H1 (λy H2=>r x y H2 Q) E) E
def tIfX(tt:TT)(ta tb:TX):TX:=λZ H Q E=>tt Z H λb H1=>if b=true then ta Z H1 Q E else tb Z H1 Q E
theorem v5(hc:QT X.nox c tt)(ha:QXe X a tx)(hb:QXe X b tx'):QXe X (.IfExp c a b pos) (tIfX tt tx tx'):=⟨λa3 s Z H Q E k I h=>by
 refine wpAny_IfExp (Uk (hc.h a3 s Z H _ (I.wish _) h) (λd s1 ⟨H1,I1,q1⟩=>?_) λ_ _ z=>z.elim);cases d with
 |true=>exact ha.h a3 s1 Z H1 Q E k I1.unwish q1
 |false=>exact hb.h a3 s1 Z H1 Q E k I1.unwish q1⟩
def uX0(ue:UE):UXe:=λρ M Q _=>ue ρ M Q
theorem cx_0(h:ZE te ue):ZXe mg (tX0 te) (uX0 ue):=⟨λA ι Z H ρ M Qu Xu Q E w e q k _=>h.h A ι Z H ρ M Qu Q w e q k⟩
def uOpX(s:T->T->(T->Prop)->Prop)(ua ub:UXe):UXe:=λρ M Q X=>ua ρ M (λx M1=>ub ρ M1 (λy M2=>OpS s M2 x y Q) X) X
theorem q9h(h:OpL r s)(ha:ZXe mg tx ux)(hb:ZXe mg ty uy):ZXe mg (tOpX r tx ty) (uOpX s ux uy):=⟨λA ι Z H ρ M Qu Xu Q E w e q k kx=>
 ha.h A ι Z H ρ M _ Xu _ E w e q (λx M1 a6 v H1 l1 w1 r1 q1=>hb.h A a6 Z H1 ρ M1 _ Xu _ E w1 (e.le l1) q1 (λy M2 ac v2 H2 l2 w2 r2 ⟨a,b,e1,e2,q2⟩=>
  h A ac H2 M2 v v2 a b _ Q w2 ((r1.le l2).sn w2 e1) (r2.sn w2 e2) q2 λt c7 z H3 l3 w3 r3 q3=>k _ M2 c7 z H3 ((l1.trans l2).trans l3) w3 (.p r3) q3)
  λnm p C d M' ag H' hm hp l' w' x'=>kx nm p C d M' ag H' hm hp (l1.trans l') w' x') kx⟩
def uIfX(ut:UT)(ua ub:UXe):UXe:=λρ M Q X=>ut ρ M λb M1=>if b=true then ua ρ M1 Q X else ub ρ M1 Q X
theorem q9U(hc:ZT tt ut)(ha:ZXe mg tx ux)(hb:ZXe mg ty uy):ZXe mg (tIfX tt tx ty) (uIfX ut ux uy):=⟨λA ι Z H ρ M Qu Xu Q E w e q k kx=>
 hc.h A ι Z H ρ M _ _ w e q λc M1 a6 H1 l1 w1 q1=>by
  have ng:∀nm p C d M' ag H',mg nm=some C->PartIs d H' p->Le a6 H1 ag H'->Wd A ag H' M'->Xu nm p M'->E C d H':=λnm p C d M' ag H' hm hp l' w' x'=>kx nm p C d M' ag H' hm hp (l1.trans l') w' x';cases c with
  |true=>exact ha.h A a6 Z H1 ρ M1 _ Xu _ E w1 (e.le l1) q1 (λb M2 ac v2 H2 l2 w2 r2 q2=>k b M2 ac v2 H2 (l1.trans l2) w2 r2 q2) ng
  |false=>exact hb.h A a6 Z H1 ρ M1 _ Xu _ E w1 (e.le l1) q1 (λb M2 ac v2 H2 l2 w2 r2 q2=>k b M2 ac v2 H2 (l1.trans l2) w2 r2 q2) ng⟩
def q6C(Ξ:PySem.W.Frag):List V->Hp->VK->Prop:=λxs H Q=>∃(l:Addr)(ns:List Int),xs=[.ref l]/\SqL Ξ H l (ns.map V.int)/\0<ns.length/\∀M,M∈ns->(∀a∈ns,M<=a)->Q (.int M) H
theorem qaR(hK:X.K=Ξ)(hc:X.calm=true):zB X (.builtin "min") (q6C Ξ):=by
 subst hK;intro a3 s Z H xs us Q I r h;obtain⟨l,ns,rfl,hl,h0,q⟩:=h;obtain⟨u,rfl,rx⟩:=QV r;cases rx;obtain⟨its,r',pl,hz⟩:=I.list hl;obtain⟨m,F,W,fin⟩:=I.ledger;exact min_list_N (I.ok.hd hc) F W pl.isList (Yl r') h0 λh' M t tk F' W' hM dY=>⟨.int M,H,fin h' tk F' W',⟨_,rfl⟩,q M hM dY⟩
theorem q04:∀{ss:List Int}{A:Addr->Prop}{H:Hp}{vs:List V},RepTs A H vs (ss.map T.int)->vs=ss.map V.int
 | [],_,_,_,.nil=>rfl
 |s::ss,_,_,_,.cons r q=>by cases r;rw[q04 q];rfl
def q9y:List T->(T->Prop)->Prop:=λts Q=>∃ss:List Int,ts=[.lst (ss.map T.int)]/\0<ss.length/\∀M,M∈ss->(∀a∈ss,M<=a)->Q (.int M)
theorem q0N:CbL (q6C Ξ) q9y:=λA ι H M vs ts Qs Q w r ⟨ss,e,h0,q⟩ k=>by
 subst e;obtain⟨v,ev,r1⟩:=pv1 r;subst ev;obtain⟨p,zs,rfl,h1,h2⟩:=r1.lst_inv;cases q04 h2;exact⟨p,ss,rfl,SqL.of h1,h0,λM a b=>k _ ι _ _ (.refl _ _) w (.int M) (q M a b)⟩
end L2
namespace L2
open PySem PySem.Spec PyProof.Rows PySem.W
theorem ObjOk.there(x:ObjOk P w H h a o):∃u,h.get? a=some u:=by
 cases o with
 |lst xs=>obtain⟨_,_,_,_,e⟩:=x;exact⟨_,e⟩
 |tup xs=>obtain⟨_,_,_,o,e,_⟩:=x;exact⟨_,e⟩
 |dK kvs=>obtain⟨_,_,_,_,o,_,_,e,_⟩:=x;exact⟨_,e⟩
 |dT kvs=>obtain⟨_,_,_,_,o,_,_,e,_⟩:=x;exact⟨_,e⟩
 |set S n=>obtain⟨o,_,_,_,e,_⟩:=x;exact⟨_,e⟩
 |ins C dx fs=>obtain⟨_,_,_,e,_⟩:=x;exact⟨_,e⟩
 |own y=>obtain⟨_,e⟩:=x;exact⟨_,e⟩
 |xd fs=>obtain⟨_,⟨_,_,_,e,_⟩,_⟩:=x;exact⟨_,e⟩
 |rng lo hi=>obtain⟨_,_,_,e⟩:=x;exact⟨_,e⟩
 |frz ob u=>obtain⟨e,_⟩:=x;exact⟨_,e⟩
 |tbl ps=>exact⟨_,x⟩
 |met f y=>exact⟨_,x⟩
 |ext φ=>obtain⟨_,⟨_,e⟩,_⟩:=x;exact⟨_,e⟩
def q6K:List U->List U->(U->List U->Prop)->Prop:=λus ws Q=>∃(k:Nat)(y:U),ws=[.p (.int k)]/\us[k]?=some y/\us.length<=sizeLine/\Q y (us.eraseIdx k)
theorem Gv:MeL rPopAt q6K:=λA ι H M k a xs ys us ws Qs Q w ek h1 h2 rx ry ⟨j,y,ew,hy,hz,q⟩ kk=>by
 subst ew;cases ry with
 |cons r ry=>
 cases ry;cases r with
 |p r=>
 cases r;obtain⟨x,hx,lU⟩:=Paired.getR rx hy;have hj:=(Db.mp hy).1;have hl:=rx.len;have:seqIndex? (j:Int) xs.length=some j:=by unfold seqIndex?;simp;lia
 exact⟨a,xs,j,j,x,rfl,rfl,h1,by lia,by rw[Ul]at hz;lia,this,hx,kk _ _ _ _ (rx.erase j) lU q⟩
theorem q58(h:(qZ P w).is k v=true):RelV (kV k) v:=by
 rcases qP h with⟨i,t,rfl,rfl⟩|⟨x,t,rfl,rfl⟩|⟨rfl,rfl⟩
 ·exact⟨t,rfl⟩
 ·exact⟨t,rfl⟩
 ·rfl
theorem Inv.freeze(I:Inv X a3 Z H s)(e:H d=some (.dK kvs)):∃o,s.heap.get? d=some o/\Inv X a3 Z (upd H d (.frz o (.dK kvs))) s:=by
 obtain⟨o,ho⟩:=(I.hok d _ e).there;have ne:∀{b:Addr}{u:HO},H b=some u->(∀k,u ≠ .dK k)->b≠d:=λhb hu z=>by
  subst z;rw[e]at hb;cases hb;exact hu _ rfl
 refine⟨o,ho,I.step (ch:=[]) (h':=s.heap) (g':=s.gens) (t':=s.toks) (d':=s.drawn) (λb hb=>nomatch hb) (λb o _ _ _ e _=>e) (λb o _ _ _ e _=>⟨o.slots,e⟩) (λb o' _ _ z=>?_) (λb o _ e=>⟨o,e⟩) (λb xs q=>?_) (λb o u q=>?_) (λb ps q=>⟨#[],?_⟩) (λm h=>h) (λa u q=>?_) I.bare⟩
 ·rw[upd_ne λz'=>by rw[z',e]at z;cases z];exact z
 ·rw[upd_ne (ne q λk z=>by cases z)];exact q
 ·rw[upd_ne (ne q λk z=>by cases z)];exact q
 ·rw[upd_ne (ne q λk z=>by cases z)];simpa using q
 ·have own:∀c x,H c=some (.own x)->upd H d (.frz o (.dK kvs)) c=some (.own x):=λc x q=>by rw[upd_ne (ne q λk z=>by cases z)];exact q
  have tup:∀c xs,H c=some (.tup xs)->upd H d (.frz o (.dK kvs)) c=some (.tup xs):=λc x q=>by rw[upd_ne (ne q λk z=>by cases z)];exact q
  by_cases ha:a=d
  ·subst ha
   rw[upd_same]at q;cases q;exact⟨ho,(I.hok a _ e).stay (λb u _ q=>q) (λc q=>own c _ q) λc xs q=>tup c xs q⟩
  ·rw[upd_ne ha]at q
   exact(I.hok a u q).stay (λb u _ q=>q) (λc q=>own c _ q) λc xs q=>tup c xs q
def Itd(bj:Bool)(d:Addr)(o:Obj)(kvs:List (Key×V)):It :=
 ⟨λi H=>H d=some (.frz o (.dK kvs))/\i<kvs.length,λi H x H'=>H'=H/\∃k v,kvs[i]?=some (k,v)/\x=(if bj then v else kV k),λi H=>H d=some (.frz o (.dK kvs))/\kvs.length<=i⟩
theorem G8(ig:o.data=.dict es ep)(I:Inv X a3 Z H s)(h:H d=some (.frz o (.dK kvs))):∃vs,KV kvs vs/\s.heap.DictAt (qZ X.prog X.w) d vs ep:=by
 obtain⟨ho,_,_,vs,bC,o',gi,gG,bA,hx,hd,r⟩:=I.hok d _ h;rw[ho]at bA;cases bA;rw[ig]at hd;cases hd;exact⟨vs,bC,o,es,ho,hx,ig,r⟩
theorem YQ(dO:d≠it)(ig:o.data=.dict es ep):Turn P w Ξ tg (Itd false d o kvs) [it] it (λi h=>h.IsKeyIter it d i kvs.length ep) where
 mem:=by simp
 obj:=λi h st b hb=>by
  have e:b=it:=by simpa using hb
  subst e;obtain⟨o,e,c,d⟩:=st;exact⟨o,e,λv z=>by rw[d]at z;cases z⟩
 keep:=λi h h' st k=>st.at λo e=>k it (by simp) o e
 item:=by
  intro X hP hw hK hc i a3 s Z H E I hf st hg;subst hP hw hK;obtain⟨hH,hi⟩:=hg;obtain⟨vs,bC,dd⟩:=G8 ig I hH;have hl:kvs.length=vs.length:=KV.length bC;rw[hl]at st;obtain⟨f0,f1,f2,f3,f4,f5⟩:=hf it (by simp);have hv:vs[i]?=some (vs[i]'(by lia)):=Dc _;obtain⟨⟨k,v⟩,hk,hkv⟩:∃p,kvs[i]?=some p/\p.1=(vs[i]'(by lia)).1:=by
   have hk:kvs[i]?=some (kvs[i]'hi):=Dc _;exact⟨_,hk,(Paired.get2 bC hk hv).1⟩
  refine wpAny_pyNext_dict_item st dd (k:=(vs[i]'(by lia)).1) (v:=(vs[i]'(by lia)).2) hv λaD h' fC cE lV=>?_;have I1:Inv X a3 Z H { s with heap:=h' }:=I.turned (t':=s.toks) (λb o hb e=>lV.extBut b o hb e) f0 f1 f3 f4 f5;rw[<-hl]at cE;obtain⟨o,e,c,d⟩:=id cE;exact⟨aD,rfl,q1V (s:={ s with heap:=h' }) e c d (by decide) ⟨kV k,H,I1,by rw[show k=_ from hkv];exact q58 fC,⟨rfl,k,v,hk,rfl⟩,cE,λb hb=>(hf b hb).1⟩⟩
 done:=by
  intro X hP hw hK hc i a3 s Z H E I hf st hg;subst hP hw hK;obtain⟨hH,hi⟩:=hg;obtain⟨vs,bC,dd⟩:=G8 ig I hH;have hl:kvs.length=vs.length:=KV.length bC;rw[hl]at st;obtain⟨f0,f1,f2,f3,f4,f5⟩:=hf it (by simp);exact wpAny_pyNext_dict_end (I.ok.hd hc) st dd (by first|lia|(simp;lia)) λh' eb=>⟨rfl,I.turned (t':=s.toks) (λb o hb e=>eb b o hb e) f0 f1 f3 f4 f5⟩
 self:=λ_ _ _ _ _ st h=>wpAny_pyIter_keyiter st h
def q8U(tl:TE):TI:=λZ H R=>tl Z H λx H1=>∃d,x=.ref d/\((∃kvs,H1 d=some (.dK kvs)/\∀o,R (Itd false d o kvs) (upd H1 d (.frz o (.dK kvs))))\/∃o kvs,H1 d=some (.frz o (.dK kvs))/\R (Itd false d o kvs) H1)
theorem q5B(hl:QE X l tl):QI X tg l (q8U tl):=⟨by
 intro a3 s Z H R I h;refine thn (hl.h a3 s Z H _ I h) λv s1 zz=>?_;obtain⟨x,H1,I1,r1,q1⟩:=zz;obtain⟨d,e,q⟩:=q1;subst e;cases r1;have go:∀(o:Obj)(kvs:List (Key×V))(H2:Hp),Inv X a3 Z H2 s1->H2 d=some (.frz o (.dK kvs))->R (Itd false d o kvs) H2->wpAny (model X.prog X.w) X.A (pyIter (.ref d)) (PIE X a3 Z tg R) X.xe s1:=λo kvs H2 I2 hH q=>by
  obtain⟨ho,hz,lW,vs,bC,o',es,ep,bA,hx,hd,r⟩:=id (I2.hok d _ hH);rw[ho]at bA;cases bA;obtain⟨pG,lX,dd⟩:=G8 hd I2 hH;have hl.h:kvs.length=pG.length:=KV.length lX;refine wpAny_pyIter_dict lW dd ?_;rw[<-hl.h];refine⟨s1.heap.objs.size, [s1.heap.objs.size],_,_,H2,rfl,I2.kept (t':=s1.toks) λb o e=>Heap.get?_push_of_some _ e,YQ (Dy (Heap.lt_size ho)) hd,⟨_,Heap.get?_push_size _ rfl,rfl,rfl⟩,λb hb=>?_,q⟩;have e:b=s1.heap.objs.size:=by simpa using hb
  subst e;exact I2.fpOk (Dh _) (I2.hok.fresh (Dh _))
 rcases q with⟨kvs,hH,q⟩|⟨o,kvs,hH,q⟩
 ·obtain⟨o,ho,I2⟩:=I1.freeze hH
  exact go o kvs _ I2 upd_same (q o)
 ·exact go o kvs H1 I1 hH q⟩
def itD(bj:Bool)(k:Nat)(kvs:List (Key×U))(ob:Obj)(gs:List (Key×V)):UIt:=⟨kvs.length,λM=>M[k]?=some (.dF kvs ob gs),λi z=>∃aD v,kvs[i]?=some (aD,v)/\z=(if bj then v else keyU aD)⟩
def q89(bj:Bool)(M:MM)(x:U)(Q:UIt->MM->Prop):Prop:=∃k kvs,x=.m k/\((M[k]?=some (.dK kvs)/\∀ob gs,Q (itD bj k kvs ob gs) (M.set k (.dF kvs ob gs)))\/∃ob gs,M[k]?=some (.dF kvs ob gs)/\Q (itD bj k kvs ob gs) M)
def q3N(bj:Bool)(ua:UE):UI:=λρ M Q=>ua ρ M λx M1=>q89 bj M1 x Q
theorem q1Y(k:Key):RepU A ι H (kV k) (keyU k):=by
 cases k with
 |inl i=>exact .p (.int i)
 |inr x=>exact .p (.str x)
 |non=>exact .p .non
theorem GO(ek:a6[kk]?=some a):ItR A a6 H1 (Itd bj a ob gs) (itD bj kk kvs ob gs):=by
 intro A' ac H2 M2 i l w2 ok;have eR:ac[kk]?=some a:=by
  obtain⟨nn,rfl⟩:=l.ext;rw[Df (Db.mp ek).1];exact ek
 obtain⟨h3,h4⟩:=w2.obj kk a _ eR ok;have hl:=h4.len;refine⟨λhi=>⟨⟨h3,by rw[hl];exact hi⟩,λx H' y=>?_⟩,λhi=>⟨h3,by rw[hl];exact RW hi.symm⟩⟩;obtain⟨rfl,aD,v,hkv,rfl⟩:=y;obtain⟨⟨lY,u⟩,hu,e1,ru⟩:=Paired.getL h4 hkv;have e1:aD=lY:=e1;subst e1;refine⟨_,⟨aD,u,hu,rfl⟩,.refl _ _,w2,?_⟩;cases bj with
 |true=>exact ru
 |false=>exact q1Y aD
set_option tactic.hygienic true in
theorem q0F(hw:∀Z H R,(ta Z H λx H1=>∃d,x=.ref d/\((∃kvs,H1 d=some (.dK kvs)/\∀o,R (Itd bj d o kvs) (upd H1 d (.frz o (.dK kvs))))\/∃o kvs,H1 d=some (.frz o (.dK kvs))/\R (Itd bj d o kvs) H1))->wi Z H R)(ha:LE ta ua):LI wi (q3N bj ua):=λA ι Z H ρ M Qu R w e q k=>
 hw Z H R (ha A ι Z H ρ M _ _ w e q λx M1 a6 v H1 l1 w1 r1 zz=>by
  obtain⟨kk,kvs,ex,q1⟩:=zz;subst ex;cases r1 with
  |m ek=>
  rename_i a;have hm:=De ek;rcases q1 with⟨em,q1⟩|⟨ob,gs,em,q1⟩
  ·obtain⟨gs,h1,h2⟩:=w1.obj kk a _ ek em
   exact⟨a,rfl,.inl ⟨gs,h1,λo=>k _ _ a6 _ _ (l1.trans (.put hm)) (w1.put (mo:=.dF kvs o gs) ek ⟨upd_same,Paired.mapP h2 λ_ _ q=>⟨q.1,q.2.le (.put hm)⟩⟩) (GO ek) (q1 o gs)⟩⟩
  ·obtain⟨h1,h2⟩:=w1.obj kk a _ ek em
   exact⟨a,rfl,.inr ⟨ob,gs,h1,k _ _ a6 _ _ l1 w1 (GO ek) q1⟩⟩)
theorem q4j(ha:ZE ta ua):ZI (q8U ta) (q3N false ua):=⟨q0F (λ_ _ _ h=>h) ha.h⟩
theorem DGet.f{k:Key}(e:H a=some (.frz o (.dK kvs))):DGet H a (kV k) (valV kvs k):=.inl ⟨kvs,k,.inr ⟨o,e⟩,rfl,rfl⟩
def q79(M:MM)(x y:U)(Q:UK):Prop:=∃k kvs ob gs aD w,x=.m k/\M[k]?=some (.dF kvs ob gs)/\y=keyU aD/\valU kvs aD=some w/\Q w M
def q38(ua ub:UE):UE:=λρ M Q=>ua ρ M λx M1=>ub ρ M1 λy M2=>q79 M2 x y Q
theorem q12(ha:ZE ta ua)(hb:ZE tb ub):ZE (YX ta tb) (q38 ua ub):=⟨λA ι Z H ρ M Qu Q w e q k=>
 ha.h A ι Z H ρ M _ _ w e q λx M1 a6 v H1 l1 w1 r1 q1=>hb.h A a6 Z H1 ρ M1 _ _ w1 (e.le l1) q1 λy M2 ac v2 H2 l2 w2 r2 zz=>by
  obtain⟨kk,kvs,ob,gs,aD,z,ex,em,ey,ez,q2⟩:=zz;subst ex ey;have dg:=r1.le l2;cases dg with
  |m ek=>
  obtain⟨h1,h2⟩:=w2.obj kk _ _ ek em;have hv:=XH (k:=aD) h2;rw[ez]at hv;obtain⟨x',hx,rx⟩:=hv;refine⟨_,x',rfl,?_,k z M2 ac x' H2 (l1.trans l2) w2 rx q2⟩;have:=DGet.f (k:=aD) h1;rw[hx]at this;rw[Qp r2];exact this⟩
def min3(i j k:Int):Int:=if j<i then(if k<j then k else j) else(if k<i then k else i)
theorem min3_le:min3 i j k<=i/\min3 i j k<=j/\min3 i j k<=k:=by unfold min3;split<;>split<;>lia
theorem min3_or:min3 i j k=i\/min3 i j k=j\/min3 i j k=k:=by unfold min3;split<;>split<;>simp
theorem qaS(hc:X.calm=true):zB X (.builtin "min") (λxs H Q=>∃i j k,xs=[.int i,.int j,.int k]/\Q (.int (min3 i j k)) H):=by
 intro a3 s Z H xs us Q I r h;obtain⟨i,j,k,rfl,q⟩:=h;cases r with
 |cons r1 r=>
 obtain⟨u,w',rfl,⟨t,rfl⟩,⟨t',rfl⟩⟩:=Yz r;obtain⟨t0,rfl⟩:=r1;refine min_three_ints (I.ok.hd hc) λh' tk kp=>⟨_,H,I.kept kp,?_,q⟩;unfold min3;by_cases h1:j<i
 ·rw[Uj h1,Uj h1]
  by_cases h2:k<j
  ·rw[Uj h2,Uj h2];exact⟨_,rfl⟩
  ·rw[Uh h2,Uh h2];exact⟨_,rfl⟩
 ·rw[Uh h1,Uh h1]
  by_cases h2:k<i
  ·rw[Uj h2,Uj h2];exact⟨_,rfl⟩
  ·rw[Uh h2,Uh h2];exact⟨_,rfl⟩
def q85:List T->(T->Prop)->Prop:=λts Q=>∃i j k,ts=[.int i,.int j,.int k]/\Q (.int (min3 i j k))
theorem q1I:CbL (λxs H Q=>∃i j k,xs=[.int i,.int j,.int k]/\Q (.int (min3 i j k)) H) q85:=λA ι H M vs ts Qs Q w r ⟨i,j,k0,e,q⟩ k=>by
 subst e;cases r with
 |cons r0 r=>
 obtain⟨v,z,ev,r1,r2⟩:=pv2 r;subst ev;cases r0.int_inv;cases r1.int_inv;cases r2.int_inv;exact⟨i,j,k0,rfl,k _ ι _ H (.refl _ _) w (.int _) q⟩
theorem q6a:q85 [.int i,.int j,.int k] Q=Q (.int (min3 i j k)):=propext ⟨λzz=>by obtain⟨_,_,_,e,h⟩:=zz;cases e;exact h,λh=>⟨i,j,k,rfl,h⟩⟩
def q7Z(us:List U)(M:MM)(Q:UK):Prop:=∃m:Nat,us=[.p (.int m)]/\m<=1000000/\Q (.m M.length) (M++[.lst (((List.range m).map λk:Nat=>T.int k).map U.p)])
def YH(ul:UA):UE:=λρ M Q=>ul ρ M λus M1=>q7Z us M1 Q
theorem VN:∀l:List Nat,RepUs A ι H (l.map λk:Nat=>V.int ((0:Int)+k)) ((l.map λk:Nat=>T.int k).map U.p)
 | []=>.nil
 |k::l=>.cons (by show RepU A ι H (V.int ((0:Int)+k)) (.p (.int k));rw[qbq];exact .p (.int _)) (VN l)
theorem qaJ(ha:ZA n tl ul):ZE (tCB J7 (vE (tCB q8K tl) tNil)) (YH ul):=⟨λA ι Z H ρ M Qu Q w e q k=>
 ha.h A ι Z H ρ M _ _ w e q λus M1 a6 vs H1 l1 w1 hl r1 zz=>by
  obtain⟨m,eu,hm,q1⟩:=zz;subst eu;cases r1 with
  |cons r1 r=>
  cases r;cases r1 with
  |p r1=>
  cases r1;refine⟨m,rfl,λl hl=>⟨l,0,m,m,rfl,upd_same,by decide,by lia,by lia,hm,λl2 fh=>?_⟩⟩;have w2:=w1.fresh (o:=.rng 0 m) hl;exact k _ _ _ _ _ ((l1.trans (.fresh hl)).trans (.push fh)) (zG w2 fh (VN _)).1 (zG w2 fh (VN _)).2 q1⟩
end L2
namespace PySem
theorem Paired.drl{α β:Type}{F:α->β->Prop}:∀{l:List α}{m:List β},Paired F l m->Paired F l.dropLast m.dropLast
 |_,_,.nil=>.nil
 |_,_,.cons _ .nil=>.nil
 |_,_,.cons r (.cons s t)=>.cons r (Paired.drl (.cons s t))
end PySem
namespace L2
open PySem PySem.Spec PyProof.Rows
def sPop:List U->List U->(U->List U->Prop)->Prop:=λus ws Q=>∃y:U,ws=[]/\us[us.length-1]?=some y/\Q y us.dropLast
theorem q5P:MeL rPop sPop:=λA ι H M k a xs ys us ws Qs Q w ek h1 h2 rx ry ⟨y,ew,hy,q⟩ kk=>by
 subst ew;cases ry;obtain⟨x,hx,lU⟩:=Paired.getR rx hy;have hl:=rx.len;exact⟨a,xs,x,rfl,rfl,h1,by rw[hl];exact hx,kk _ _ _ _ rx.drl lU q⟩
def q5k:List U->List U->(U->List U->Prop)->Prop:=λus ws Q=>∃ts:List T,ws=[.p (.lst ts)]/\us.length+ts.length<=sizeLine/\Q (.p .non) (us++ts.map U.p)
theorem Yc:MeL Ws q5k:=λA ι H M k a xs ys us ws Qs Q w ek h1 h2 rx ry ⟨ts,ew,hz,q⟩ kk=>by
 subst ew;cases ry with
 |cons r ry=>
 cases ry;cases r with
 |p r=>
 obtain⟨b,zs,rfl,_,hb,hr⟩:=r.lst_inv;have hl:=rx.len;have fh:=hr.len;exact⟨a,b,xs,zs,rfl,rfl,h1,hb,by lia,kk _ _ _ _ (rx.app (RepTs.ups hr)) (.p .non) q⟩
theorem Qf(ha:QE X o ta)(hv:QE X value tv):QS X (.AugAssign (.Attribute o f tpos) .Add value pos) (Jd X.K ta tv rAdd f):=⟨by
 intro a3 s Z H D I h;refine wpAny_AugAssign_AttributeAny (thn (ha.h a3 s Z H _ I h) λov s1 zz=>?_);obtain⟨x,H1,I1,rx,a,C,dx,fs,v,ex,ea,c,n,l,q⟩:=zz;subst ex;obtain rfl:ov=Value.ref a:=rx;refine Vh I1 ea c n l λu s2 I2 ru=>thn (hv.h a3 s2 Z H1 _ I2 q) λw3 s3 ⟨y,H2,I3,ry,q3⟩=>thn (q93 a3 s3 Z H2 v y u w3 _ I3 ru ry q3) λw4 s4 zz=>?_;obtain⟨z,H3,I4,rz,fE,dI,pH,l',q4⟩:=zz;exact Vb I4 pH c n l' rz λs5 I5=>⟨Z,_,I5,q4⟩⟩
def kN(Ξ:PySem.W.Frag)(ua uv:UE)(f:Str):US:=λE ρ M=>ua ρ M λx M1=>∃k C fs i,x=.m k/\M1[k]?=some (.ins C fs)/\Cls Ξ C/\NoAttr Ξ C f/\fs.lookup f=some (.p (.int i)) /\
 uv ρ M1 λy M2=>∃j dI,y=.p (.int j)/\M2[k]?=some (.ins C dI)/\dI.length<1000/\E.nx ρ (M2.set k (.ins C (Qg f (.p (.int (i+j))) dI)))
set_option tactic.hygienic true in
theorem qay(ha:ZE ta ua)(hv:ZE tv uv):ZS (Jd Ξ ta tv rAdd f) (kN Ξ ua uv f):=⟨λA ι Z H ρ M D E w e r q=>
 ha.h A ι Z H ρ M _ _ w e q λx M1 a6 vx H1 l1 w1 r1 zz=>by
  obtain⟨kk,C,fs,i,ex,em,c,na,lk,q1⟩:=zz;subst ex;cases r1 with
  |m ek=>
  rename_i a;obtain⟨dx,gs,h1,h2,h3,h4⟩:=w1.obj kk _ _ ek em;obtain⟨v,lZ,rv⟩:=Kj h4 lk;cases rv with
  |p rv=>
  cases rv;refine⟨a,C,dx,gs,.int i,rfl,h1,c,na,lZ,hv.h A a6 Z H1 ρ M1 _ _ w1 (e.le l1) q1 λy M2 ac vy H2 l2 w2 r2 ⟨j,dI,ey,m3,hz,q2⟩=>?_⟩;subst ey;cases r2 with
  |p r2=>
  cases r2;have eR:ac[kk]?=some a:=by
   obtain⟨nn,rfl,_⟩:=l2.ext;rw[Df (Db.mp ek).1];exact ek
  obtain⟨fE,pI,k1,k2,k3,k4⟩:=w2.obj kk _ _ eR m3;have aF:=De eR;have l4:=l1.trans l2;have dO:fE≠a:=λz=>by rw[z,k1]at k2;cases k2
  exact⟨i,j,rfl,rfl,fE,pI,k1,by rw[k4.len];exact hz,r.nx ac Z _ ρ _ (l4.trans (.put aF)) (w2.put (mo:=.ins C (Qg f (.p (.int (i+j))) dI)) eR ⟨fE,_,upd_same,by rw[upd_ne dO];exact k2,k3,Paired.mapP (Kb k4 (.p (.int _))) λ_ _ q=>⟨q.1,q.2.le (.put aF)⟩⟩) (e.le (l4.trans (.put aF))) q2⟩⟩
def U.sh(n:Nat):U->U
 |.m k=>.m (n+k)
 |u=>u
def MO.sh(n:Nat):MO->MO
 |.lst us=>.lst (us.map (U.sh n))
 |.tup us=>.tup (us.map (U.sh n))
 |.ins C fs=>.ins C (fs.map λf=>(f.1,f.2.sh n))
 |.dK kvs=>.dK (kvs.map λf=>(f.1,f.2.sh n))
 |.dF kvs ob gs=>.dF (kvs.map λf=>(f.1,f.2.sh n)) ob gs
 |.tab a p q=>.tab a p q
def U.flat:U->Prop
 |.m _=>True
 |.p t=>∃x,vt t=some x
 |.x _ _ _=>False
def MO.flat:MO->Prop
 |.lst us=>∀u∈us,u.flat
 |.tup us=>∀u∈us,u.flat
 |.ins _ _=>False
 |.dK kvs=>∀f∈kvs,f.2.flat
 |.dF kvs _ _=>∀f∈kvs,f.2.flat
 |.tab _ _ _=>False
theorem RepU.sh(r:RepU A ag H v u)(f:u.flat):RepU A (ι++ag) H v (u.sh ι.length):=by
 cases r with
 |p r=>
  obtain⟨x,hx⟩:=f;cases(RepV.of r).sc (y:=.non) hx;exact .p (j5 hx).rep
 |m e=>exact .m (by rw[Dk (Nat.le_add_right _ _),DG];exact e)
 |x h=>exact f.elim
theorem RepUs.sh:∀{vs:List V},RepUs A ag H vs us->(∀u∈us,u.flat)->RepUs A (ι++ag) H vs (us.map (U.sh ι.length)):=by
 induction us with
 |nil=>intro vs r _;cases r;exact .nil
 |cons u us ih=>
  intro vs r f;cases r with
  |cons a b=>exact .cons (a.sh (f u (.head _))) (ih b λx hx=>f x (.tail _ hx))
theorem RepK.sh:∀{gs:List (Key×V)},Paired (λ(g:Key×V) (f:Key×U)=>g.1=f.1/\RepU A ag H g.2 f.2) gs kvs->(∀f∈kvs,f.2.flat)->Paired (λ(g:Key×V) (f:Key×U)=>g.1=f.1/\RepU A (ι++ag) H g.2 f.2) gs (kvs.map λf=>(f.1,f.2.sh ι.length)):=by
 induction kvs with
 |nil=>intro gs r _;cases r;exact .nil
 |cons u us ih=>
  intro gs r f;cases r with
  |cons a b=>exact .cons ⟨a.1,a.2.sh (f u (.head _))⟩ (ih b λx hx=>f x (.tail _ hx))
theorem q4X(r:ObjR A ag H a o)(f:o.flat):ObjR A (ι++ag) H a (o.sh ι.length):=by
 cases o with
 |lst us=>obtain⟨vs,e,r⟩:=r;exact⟨vs,e,RepUs.sh r f⟩
 |tup us=>obtain⟨vs,e,r⟩:=r;exact⟨vs,e,RepUs.sh r f⟩
 |ins C fs=>exact f.elim
 |dK kvs=>obtain⟨gs,e,r⟩:=r;exact⟨gs,e,RepK.sh r f⟩
 |dF kvs ob gs=>obtain⟨e,r⟩:=r;exact⟨e,RepK.sh r f⟩
 |tab=>exact f.elim
theorem Gj(l:Le ι H ag H')(all:∀x o,H x=some o->H' x=some o)(new:∀x∈ag,x∉ι->H x=none)(r:ObjR A ι H a o):ObjR A ag H' a o:=by
 cases o with
 |lst us=>obtain⟨vs,e,r⟩:=r;exact⟨vs,all _ _ e,RepUs.le l r⟩
 |tup us=>obtain⟨vs,e,r⟩:=r;exact⟨vs,all _ _ e,RepUs.le l r⟩
 |ins C fs=>
  obtain⟨dx,gs,e,e2,e3,r⟩:=r;exact⟨dx,gs,all _ _ e,all _ _ e2,(λz=>by have:=new dx z e3;rw[e2]at this;cases this),Paired.mapP r λ_ _ q=>⟨q.1,q.2.le l⟩⟩
 |dK kvs=>obtain⟨gs,e,r⟩:=r;exact⟨gs,all _ _ e,Paired.mapP r λ_ _ q=>⟨q.1,q.2.le l⟩⟩
 |dF kvs ob gs=>obtain⟨e,r⟩:=r;exact⟨all _ _ e,Paired.mapP r λ_ _ q=>⟨q.1,q.2.le l⟩⟩
 |tab=>obtain⟨ps,e,t,z⟩:=r;exact⟨ps,all _ _ e,t,z.imp id λ⟨c,h1,h2,h3⟩=>⟨c,h1,all _ _ h2,λy=>by have:=new c y h3;rw[h2]at this;cases this⟩⟩
theorem Gi(r:ObjR A ι H a o):H a≠none:=by
 cases o with
 |lst us=>obtain⟨vs,e,r⟩:=r;rw[e];simp
 |tup us=>obtain⟨vs,e,r⟩:=r;rw[e];simp
 |ins C fs=>obtain⟨dx,gs,e,r⟩:=r;rw[e];simp
 |dK kvs=>obtain⟨gs,e,r⟩:=r;rw[e];simp
 |dF kvs ob gs=>obtain⟨e,r⟩:=r;rw[e];simp
 |tab=>obtain⟨ps,e,r⟩:=r;rw[e];simp
def YK(G:List U->MM->UK->Prop)(ul:UA):UE:=λρ M Q=>ul ρ M λus M1=>∃ts,frzs (frzN 6 M1) us=some ts/\G (ts.map U.p) [] λu M'=>u.flat/\(∀o∈M',o.flat)/\Q (u.sh M1.length) (M1++M'.map (MO.sh M1.length))
theorem q1y(ha:LA n tl ul):LE (zT (spU G) [] E tl) (YK G ul):=λA ι Z H ρ M Qu Q w e q k=>
 ha A ι Z H ρ M _ _ w e q λus M1 a6 vs H1 l1 w1 hn r1 zz=>by
  obtain⟨ts,et,q1⟩:=zz;rw[DD];have pJ:Wd A [] H1 []:=⟨qa9,rfl,w1.dom,by simp,by simp⟩;have rt:=kz r1 (λv u t r e=>Qx w1 r e) et;refine⟨A, [], [],ts.map U.p,_,pJ,RepTs.ups (Paired.mapP rt λ_ _ q=>q.mono λx o hx ex=>⟨ex,λz=>z.elim hx (by simp)⟩),q1,λu M' ag v H' l w' r' ⟨uf,mf,q2⟩=>?_⟩;have all:∀x o,H1 x=some o->H' x=some o:=λx o e=>l.fr x o e (by simp);have new:∀x∈ag,H1 x=none:=λx hx=>by
   obtain⟨nn,rfl,hh⟩:=l.ext;exact hh x (by simpa using hx)
  have le:Le a6 H1 (a6++ag) H':=⟨⟨ag,rfl,new⟩,λx o e _=>all x o e,l.al⟩;have ft:=w1.len;have fh:=w'.len;refine k _ _ (a6++ag) v H' (l1.trans le) ⟨?_,by rw[Dg,Dg,Dd,ft,fh],w'.dom,λx hx=>?_,λi a o hi ho=>?_⟩ (by rw[<-ft];exact r'.sh uf) q2
  ·rw[Rg]
   refine⟨w1.nd,w'.nd,λa ha b hb z=>?_⟩;subst z;obtain⟨i,hi⟩:=Rn ha;have m4:=(Db.mp hi).1;exact Gi (w1.obj i a _ hi (Dc (by lia))) (new a hb)
  ·rcases Dl.mp hx with hx|hx
   ·exact w1.na x hx
   ·exact w'.na x hx
  ·by_cases h:i<a6.length
   ·rw[Df h]at hi
    rw[Df (by lia)]at ho;refine Gj le all (λx hx hn=>?_) (w1.obj i a o hi ho);rcases Dl.mp hx with hx|hx
    ·exact absurd hx hn
    ·exact new x hx
   ·rw[Dk (by lia)]at hi
    rw[Dk (by lia),Dv, <-ft]at ho;obtain⟨o',bA,rfl⟩:=DJ.mp ho;exact q4X (w'.obj _ a o' hi bA) (mf o' (De bA))
theorem q0V(ha:ZA n tl ul):ZE (zT (spU G) [] E tl) (YK G ul):=⟨q1y ha.h⟩
theorem vQ(he:QE X.nox e te):QXe X e (tX0 te):=⟨λa3 s Z H Q E k I h=>Uk (he.h a3 s Z H Q (I.wish _) h) (λ_ _ ⟨v,H',I',r,q⟩=>⟨v,H',I'.unwish,r,q⟩) λ_ _ z=>z.elim⟩
theorem J8(ho:OpR X.nox (binaryOp op) r)(ha:QXe X a tx)(hb:QXe X b tx'):QXe X (.BinOp a op b pos) (tOpX r tx tx'):=⟨λa3 s Z H Q E k I h=>by
 refine wpAny_BinOp (thn (ha.h a3 s Z H _ E k I h) λv s1 ⟨x,H1,I1,r1,q1⟩=>thn (hb.h a3 s1 Z H1 _ E k I1 q1) λu s2 zz=>?_);obtain⟨y,H2,I2,r2,q2⟩:=zz;exact Uk (ho a3 s2 Z H2 x y v u Q (I2.wish _) r1 r2 q2) (λ_ _ ⟨v,H',I',r,q⟩=>⟨v,H',I'.unwish,r,q⟩) λ_ _ z=>z.elim⟩
theorem q36(hr:IxR X.nox r)(ha:QXe X a tx)(hb:QXe X b tx')(hs:JO b):QXe X (.Subscript a b pos) (tOpX r tx tx'):=⟨λa3 s Z H Q E k I h=>by
 refine Subscript_ (thn (ha.h a3 s Z H _ E k I h) λv s1 ⟨x,H1,I1,r1,q1⟩=>thn (hb.h a3 s1 Z H1 _ E k I1 q1) λu s2 zz=>?_);obtain⟨y,H2,I2,r2,q2⟩:=zz;exact Uk (hr a b a3 s2 Z H2 x y v u Q (I2.wish _) r1 r2 q2 (hs _ _)) (λ_ _ ⟨v,H',I',r,q⟩=>⟨v,H',I'.unwish,r,q⟩) λ_ _ z=>z.elim⟩
def q8A(te to:TE)(tx:TX)(t:TSet)(mg:Str->Option Value):TS:=λD Z H=>te Z H λv H0=>to Z H0 λo H1=>tx Z H1 (λi H2=>t o i v H2 λH3=>D.nx Z H3) (EX mg D Z)
theorem Wu(he:QE X.nox e te)(ho:QE X.nox o to)(hi:QXe X i tx)(ht:PSet X.nox t)(ha:∀v,assign (.Subscript o i pos') X.env v=(do
   let ov <-holding [v] (eval o X.env);let iv <-holding [v,ov] (eval i X.env)
   standAt pos'
   holding [v,ov,iv] (setItem ov iv v)
   release [v,ov,iv] []):=by intro _;rfl)(hs:swapsWithSole [.Subscript o i pos'] e pos.line X.env=pure false:=by rfl)(hw:swappedStores [.Subscript o i pos'] e X.env=pure none:=by rfl)(h1:(assignEach [.Subscript o i pos'] X.env).map (·.2)=[assign (.Subscript o i pos') X.env]:=by rfl):
  QX r X (.Assign [.Subscript o i pos'] e pos) (q8A te to tx t X.mg):=⟨λa3 s Z H D k I h=>by
 refine UW ((vQ he).h a3 s Z H _ _ (k.1 Z) I h |> λz=>thn z λv s1 ⟨x,H1,I1,r1,q1⟩=>?_) hs hw;rw[h1];show wpAny _ _ (assign (.Subscript o i pos') X.env v) _ _ _;rw[ha];refine Ug (Uq (thn ((vQ ho).h a3 s1 Z H1 _ _ (k.1 Z) I1 q1) λov s2 zz=>?_));obtain⟨y,H2,I2,r2,q2⟩:=zz;refine Ug (Uq (thn (hi.h a3 s2 Z H2 _ _ (k.1 Z) I2 q2) λiv s3 zz=>?_));obtain⟨z,H3,I3,r3,q3⟩:=zz;refine Ug (Uv (Ug (Uq (Uk (ht a3 s3 Z H3 y z x ov iv v _ (I3.wish _) r2 r3 r1 q3) (λ_ s4 ⟨H4,I4,q4⟩=>?_) λ_ _ z=>z.elim))));exact wpAny_release ⟨Z,H4,I4.unwish,q4⟩⟩
def uIxX(it:MM->U->Option (List U))(ua ub:UXe):UXe:=λρ M Q X=>ua ρ M (λx M1=>ub ρ M1 (λy M2=>IxS it M2 x y Q) X) X
theorem q8p(ha:ZXe mg tx ux)(hb:ZXe mg ty uy):ZXe mg (tOpX (rIxL Ξ) tx ty) (uIxX qQ ux uy):=⟨λA ι Z H ρ M Qu Xu Q E w e q k kx=>
 ha.h A ι Z H ρ M _ Xu _ E w e q (λx M1 a6 v H1 l1 w1 r1 q1=>hb.h A a6 Z H1 ρ M1 _ Xu _ E w1 (e.le l1) q1 (λy M2 ac v2 H2 l2 w2 r2 zz=>by
  obtain⟨us,i,z,e1,e2,e3,q2⟩:=zz;subst e2;obtain⟨p,vs,rfl,h1,h2⟩:=vD w2 (r1.le l2) e1;obtain⟨x',h3,h4⟩:=JN h2 e3;cases r2 with
  |p r=>cases r;exact⟨p,vs,i,x',rfl,rfl,SqL.of h1,h3,k z M2 ac x' H2 (l1.trans l2) w2 h4 q2⟩)
  λnm p C d M' ag H' hm hp l' w' x'=>kx nm p C d M' ag H' hm hp (l1.trans l') w' x') kx⟩
def YM(ue uo:UE)(ux:UXe):US:=λE ρ M=>ue ρ M λv M0=>uo ρ M0 λo M1=>ux ρ M1 (λi M2=>SubS M2 o i v λM3=>E.nx ρ M3) λnm p M2=>E.bk (tagU nm p ρ) M2
theorem q3H(he:ZE te ue)(ho:ZE to uo)(hi:ZXe mg tx ux):ZS (q8A te to tx Wr mg) (YM ue uo ux):=⟨λA ι Z H ρ M D E w e r q=>
 he.h A ι Z H ρ M _ _ w e q λu M0 gx v H0 l0 w0 r0 q0=>ho.h A gx Z H0 ρ M0 _ _ w0 (e.le l0) q0 λo M1 a6 v1 H1 l1 w1 r1 q1=>
  hi.h A a6 Z H1 ρ M1 _ _ _ _ w1 (e.le (l0.trans l1)) q1 (λi M2 ac v2 H2 l2 w2 r2 zz=>by
   obtain⟨kk,us,z,j,eo,em,ei,ej,q2⟩:=zz;subst eo ei;cases r2 with
   |p r2=>
   cases r2;have dg:=r1.le l2;cases dg with
   |m ek=>
   obtain⟨vs,h1,h2⟩:=w2.obj kk _ _ ek em;have hm:=De ek;have l3:=((l0.trans l1).trans l2).trans (Le.put (o:=.lst (vs.set j v)) hm);refine⟨_,vs,z,j,rfl,rfl,h1,by rw[h2.len];exact ej,r.nx ac Z _ ρ _ l3 (w2.put (mo:=.lst (us.set j u)) ek ⟨_,upd_same,?_⟩) (e.le l3) q2⟩;exact RepUs.le (.put hm) (Paired.put (r0.le (l1.trans l2)) j h2)) λnm p C d pK pL pM hm hp nh pN pO=>⟨nm,p,hm,hp,r.bk pL _ pM _ pK ((l0.trans l1).trans nh) pN (jz (e.le ((l0.trans l1).trans nh))) pO⟩⟩
end L2
namespace HT
open PySem PySem.Spec PyProof.Rows
theorem getItem_tuple_all{lo hi:Option Int}(ht:IsTup s.heap t items)(hs:s.heap.IsSliceOf sl vl vu .none)(pl:IsPart vl lo)(pu:IsPart vu hi)(h0:sIx items.size 0 lo=0)(h1:sIx items.size items.size hi=items.size)(h:Q (.ref t) s):wpAny (model prog w) A (getItem (.ref t) (.ref sl)) Q E s:=by
 obtain⟨os,fH,gL,hds⟩:=id hs;have l9:s.TypeIs (.ref sl) "slice" := ⟨os,fH,gL⟩;unfold getItem
 try with_reducible refine Uq ?_
 first|refine Ug (Ui ?_)|skip
 refine Ug (wpAny_sequenceKey ht.typeIs (by decide) ?_);refine Ug (wpAny_callSpecial?_slot (name:=Str.ofString "__getitem__") ht.typeIs PyProof.Rows.slot_tuple_getitem
  (UQ PyProof.Rows.slot_tuple_getitem ht.typeIs entry_tuple_getitem ?_ (args_tuple_getitem _ _)))
 show wpAny _ _ (Builtin.Tuple.tupleItemsOf (.ref t) >>= _) _ _ s;refine Ug (tupleItemsOf_ ht ?_);refine Ug (U5 l9 ?_);rw[Uj (by decide)];refine Ug (zQ hs pl pu ?_);show wpAny _ _ (if(((sIx items.size 0 lo:Nat):Int)==0&&(1:Int)==1&&(sIx items.size items.size hi-sIx items.size 0 lo)==items.size)=true then _ else _) _ _ s;rw[Uj (by rw[h0,h1];simp)];refine Ug (m:=Builtin.Tuple.tupleIsExact _) (Ug (U5 ht.typeIs (Ui ?_)));rw[Uj (by decide)];refine Ug (wpAny_rule ?_)
 first
  |exact Ui ⟨_,rfl,Ui h⟩
  |exact Ug (Ui (Ui ⟨_,rfl,Ui h⟩))
end HT
namespace L2
open PySem PySem.Spec PyProof.Rows
def rSlA(Ξ:PySem.W.Frag):V->Option Int->Option Int->Hp->VK->Prop:=λx lo hi H Q=>∃a xs,x=.ref a/\SqT Ξ H a xs/\((HT.sIx xs.length 0 lo=0/\HT.sIx xs.length xs.length hi=xs.length)->Q (.ref a) H) /\
 (¬(HT.sIx xs.length 0 lo=0/\HT.sIx xs.length xs.length hi=xs.length)->∀p,H p=none->Q (.ref p) (upd H p (.tup (cutV xs lo hi))))
theorem Y4(hK:X.K=Ξ):SlR X (rSlA Ξ):=by
 subst hK;intro a3 s Z H x v vl vu lo hi sl Q I rx hs pl pu h;obtain⟨a,xs,rfl,hx,q1,q2⟩:=h;by_cases hw:HT.sIx xs.length 0 lo=0/\HT.sIx xs.length xs.length hi=xs.length
 ·cases rx
  obtain⟨its,r,ht,hz⟩:=I.tuple hx;have ay:its.toArray.size=xs.length:=by rw[Di];exact r.length.symm
  refine⟨"tuple", _,PyProof.Rows.slot_tuple_getitem.lookup,ht.typeIs,?_⟩;exact HT.getItem_tuple_all ht hs pl pu (by rw[ay];exact hw.1) (by rw[ay];exact hw.2) ⟨.ref a,H,I,rfl,q1 hw⟩
 ·exact q3g a3 s Z H _ v vl vu lo hi sl Q I rx hs pl pu ⟨a,xs,rfl,hx,hw,q2 hw⟩
def SlAS(M:MM)(x:U)(l h:Option Int)(Q:UK):Prop:=∃ts,x=.p (.tup ts)/\Q (.p (.tup (cutT ts l h))) M
def uSlA(ua:UE)(ul uh:UO):UE:=λρ M Q=>ua ρ M λx M1=>ul ρ M1 λl M2=>uh ρ M2 λh M3=>SlAS M3 x l h Q
theorem qav(h0:HT.sIx ts.length 0 l=0)(h1:HT.sIx ts.length ts.length h=ts.length):cutT ts l h=ts:=by
 unfold cutT;rw[h0,h1,qbr,Bl,DO]
theorem q2f(ha:ZE ta ua)(h1:ZO t1 u1)(h2:ZO t2 u2):ZE (tSl (rSlA Ξ) ta t1 t2) (uSlA ua u1 u2):=⟨λA ι Z H ρ M Qu Q w e q k=>
 ha.h A ι Z H ρ M _ _ w e q λx M1 a6 v H1 l1 w1 r1 q1=>h1.h A a6 Z H1 ρ M1 _ _ w1 (e.le l1) q1 λl M2 ac H2 l2 w2 q2=>h2.h A ac Z H2 ρ M2 _ _ w2 ((e.le l1).le l2) q2 λh M3 c7 H3 l3 w3 zz=>by
  obtain⟨ts,es,q3⟩:=zz;subst es;have r3:=(r1.le l2).le l3;have r4:=r3;cases r3 with
  |p r5=>
  obtain⟨p,vs,rfl,na,hv,hr⟩:=r5.tup_inv;have lv:=hr.len;refine⟨p,vs,rfl,SqT.of hv,λhw=>?_,λ_ a hp=>?_⟩
  ·rw[lv]at hw
   rw[qav hw.1 hw.2]at q3;exact k _ M3 c7 _ _ ((l1.trans l2).trans l3) w3 r4 q3
  ·have hr':RepTs A H3 vs ts\/True:=.inr trivial
   exact k _ M3 c7 _ _ (((l1.trans l2).trans l3).trans (.fresh hp)) (w3.fresh hp) (.p (ju w3 hp (JK hr))) q3⟩
theorem Env0.more(e:Env0 P w Ξ mg base A outer s H):∃b',Env0 P w Ξ mg b' A outer s H/\∀b o,s.heap.get? b=some o->H b=none->b∉frs outer->b'.get? b=some o:=by
 let l:=frs outer++(List.range s.heap.objs.size).filter λb=>(H b).isSome;have kp:∀b o,s.heap.get? b=some o->H b=none->b∉frs outer->(W.hideAll s.heap l).get? b=some o:=λb o q n hb=>Rr _ q λz=>by
  rcases Dl.mp z with z|z
  ·exact hb z
  ·have:=(Dz.mp z).2
   rw[n]at this;cases this
 have le:∀b o,base.get? b=some o->(W.hideAll s.heap l).get? b=some o:=λb o q=>kp b o (e.bs b o q).1 (e.bs b o q).2 λz=>by
  have:=(e.funs.mem z).1;rw[q]at this;cases this
 obtain⟨mb,h1,h2⟩:=e.mod.blt;refine⟨_,⟨e.frames,⟨e.mod.kin.keeps le,e.mod.glob.keeps le,⟨mb,h1.keeps le,h2⟩,e.mod.nolimit.keeps le⟩,λb o q=>⟨RG _ q,?_⟩,RW (BZ _ _),BC e.funs λenv he a ha=>Dp _ (DI.mpr ⟨env,he,ha⟩),e.frf,e.hok,e.bare⟩,kp⟩;cases n:H b with
 |none=>rfl
 |some o'=>
  have h:=RG _ q;have:=Rm (h:=s.heap) l (Dt _ (Dz.mpr ⟨DZ.mpr (Heap.lt_size h),by rw[n];rfl⟩));rw[q]at this;cases this
structure FnH(P:Program)(w:World)(Ξ:PySem.W.Frag)(mg:Str->Option Value)(base:Heap)(k:Nat)(f:Addr)(fd:FuncData)(ps:List Str)(a:Addr)(sp:Sp):Prop where
 len:∀vs H Q E,sp vs H Q E->vs.length=ps.length
 run:∀(A:Around)(outer:List Env)(s:Shared)(H:Hp)(args:Args)(us:List Value)(vs:List V)(Q:VK),Room k A->Env0 P w Ξ mg base A outer s H->BindsTo s fd args (ps.zip us)->Vals vs us->sp vs H Q E0 ->
  codeAny (model P w) (A.mark (some (.ref a))) (.call (.ref f) args) (CR CX0 outer P w H s Q E0) s
theorem Fun.zH{st:Stmt}(F:Fun Ξ x af st f fd)(S:q00 N ps (qc st))(len:∀us M Qu,G us M Qu->us.length=ps.length)(aA:∀(a9:Value)(A:Around)(outer:List Env)(s:Shared)(H:Hp)(E:XK),Room k (A.deeper (envOfC af (qc st) s.heap.objs.size f a9)) ->
   ∃t,QSs ((cxOf CX0 P w Ξ mg base N af (qc st) f a9 A outer s H E).caught a) (va st) t/\∃u,ZS t u/\∀us M M1 Qu,M1=M->G us M Qu->u { nx:=λ_ M'=>zA M M'/\Qu (.p .non) (M'.take M.length),rt:=λz M'=>zA M M'/\∃t,frzB M.length 4 M' z=some t/\Qu (.p t) (M'.take M.length) } (zO N us) M1):FnH P w Ξ mg base (k+1) f fd ps a (spU G):=by
 obtain⟨oc,od,kV,bZ,pm,an,a9,ct,eO,rfl,lk,cO⟩:=F.ex;refine⟨λvs H Q E h=>?_,λA outer s H args us vs Q hr e0 hb r cW=>?_⟩
 ·obtain⟨A,ι,M,us,Qu,w1,r,g,_⟩:=h
  rw[r.len];exact len us M Qu g
 have hl:vs.length=ps.length:=by
  obtain⟨A,ι,M,us,Qu,w1,r,g,_⟩:=cW;rw[r.len];exact len us M Qu g
 have KX:Ξ.In s.heap:=e0.mod.kin.keeps λb o e=>(e0.bs b o e).1;have lim:s.heap.NoLimit:=e0.mod.nolimit.keeps λb o e=>(e0.bs b o e).1;have dW:∀y∈ps.zip us,(qc st).names.lookup y.1=some .local\/((qc st).names.lookup y.1=some .cell/\((cellsFrom (s.heap.objs.size+1) (qc st).names []).lookup y.1).isSome=true):=λ⟨n,v⟩ hy=>by
  rcases S.par n (R8 hy).1 with q|q
  ·exact .inl q
  ·exact .inr ⟨q,RO _ _ _ (.inl q)⟩
 refine codeAny_call_function hr.depth (KX _ _ lk) rfl S.co S.gen rfl (qbf KX cO) (hb _ _ _ _ ?_);refine UY S.kind dW λenv he s1 x=>?_;subst he;refine⟨lim.keeps x.toInCall.keep,codeAny_func ?_⟩;obtain⟨t,ht,u,hu,hq⟩:=aA a9 A outer s H E0 (hr.deeper _);have I:Inv ((cxOf CX0 P w Ξ mg base N af (qc st) f a9 A outer s H E0).caught a) [] (start N vs) H s1:=(Xg S hr.hd e0 hl r x).caught a;refine Uk (ht.h [] s1 (start N vs) H _ I (q34 hu.h (λus M Qu g=>hq us M M Qu rfl g) cW)) (λfl s' hs=>?_) λe s' hs=>hs.elim;cases fl with
 |ret u=>
  obtain⟨v,aj,H',J,rv,q⟩:=hs;exact⟨v,H',J.os,J.bare,J.base,J.hok,rv,q⟩
 |next=>
  obtain⟨aj,H',J,q⟩:=hs;exact⟨V.non,H',J.os,J.bare,J.base,J.hok,rfl,q⟩
 |brk=>
  obtain⟨_,_,_,q⟩:=hs;exact False.elim q
 |cont=>
  obtain⟨_,_,_,q⟩:=hs;exact False.elim q
structure DefE(P:Program)(w:World)(Ξ:PySem.W.Frag)(mg:Str->Option Value)(x:Str)(k:Nat)(ps:List Str)(C:Addr)(sp:Addr->Option Addr->Sp):Prop where
 ex:∃(f:Addr)(fd:FuncData),mg x=some (.ref f)/\W.keepIn Ξ (.ref f)=true/\Binds Ξ fd ps []/\∀base a d oe,q05 C d oe->base.get? a=some oe->FnH P w Ξ mg base k f fd ps a (sp a d)
theorem Jj(D:DefE X.prog X.w X.K X.mg x k ps C sp)(hr:Room k X.A)(ob:q05 C d oe)(ha:QA (X.named a oe) (e::es) t)(hg:Gl X x:=by rfl)(cj:(x==("__debug__" : Str))=false:=by decide)(he:starEach (e::es) X.env=(false,eval e X.env)::starEach es X.env:=by rfl)(bR:(backTo pos (starEach es X.env)).any (·.1)=false:=by rfl):
  QE (X.named a oe) (.Call (.Name x p) (e::es) [] pos) (zT (sp a d) [] E0 t):=⟨λa3 s Z H Q I h=>by
 obtain⟨f,fd,h1,h2,h3,F⟩:=D.ex;refine Uu (zh I hg h1 ?_ cj);refine Rl (h₀:=X.base) I.ok.mod.kin h2 (thn (ha.h pos a3 s Z H _ I h) λus s1 ⟨vs,H1,I1,r,q⟩=>⟨I1.kIn,?_⟩) he bR;have e1:=I1.env0;obtain⟨b',e0,kp⟩:=(⟨e1.frames,e1.mod,e1.bs,e1.bsz,e1.funs,e1.frf,e1.hok,e1.bare⟩:Env0 X.prog X.w X.K X.mg X.base X.A X.stack s1 H1).more;obtain⟨p1,p2,p3,p4,_⟩:=I1.pin (a,oe) (Dp _ (Dt _ (.head _)));have F:=F b' a d oe ob (kp a oe p1 p2 λz=>by
  rcases I1.ok.stk with y|⟨y,y2⟩
  ·rw[show X.stack=X.outer from y]at z;exact p4 z
  ·rw[show X.stack=X.env::X.outer from y]at z
   obtain⟨env,he,hf⟩:=DI.mp z;rcases Dr.mp he with rfl|he
   ·rw[show X.env.frame=_ from y2]at hf;exact p3 (Option.some.inj hf).symm
   ·exact p4 (DI.mpr ⟨env,he,hf⟩))
 have q:sp a d vs H1 Q E0:=vs.append_nil▸q;have hl:us.length=ps.length:=r.length▸F.len _ _ _ _ q;refine UV (Uz (F.run X.A X.stack s1 H1 ⟨us, []⟩ us vs Q hr e0 (by have:=h3 s1 us I1.kIn (by simpa using hl);rwa [DD]at this) r q) λr s' hq=>?_);cases r with
 |error e=>exact WQ (X:=X.named a oe) a3 Z H1 s1 e s' I1 hq
 |ok fl=>
  cases fl with
  |ret u=>exact I1.after hq
  |next=>exact False.elim hq
  |brk=>exact False.elim hq
  |cont=>exact False.elim hq⟩
theorem q73(bs:List Bool)(ext:List Str)(hc:CalP false X)(hg:Gl X "range")(hm:X.mg "range" = none)(ha:QA X [i] ti)(hG:∀fp s H,QG (cxB X scope ext fp s H) tg g)(ht:∀fp s H,QTs (cxB X scope ext fp s H) cg tt)(he:∀fp s H,QE (cxB X scope ext fp s H) elt te)(hs:starEach [i] X.env=[(false,eval i X.env)]:=by rfl)(hk:je scope X.env X.N bs=true:=by rfl)(hf:∀x,foldedSetIterable (.Call (.Name "range" p2) [i] [] p3) X.env x=pure x:=by intro _;rfl):
  QE X (.ListComp elt [⟨tg,.Call (.Name "range" p2) [i] [] p3,cg,0⟩] scope pos) (xG (Ym ti) bs ext.length g tt te):=⟨λa3 s Z H Q I h=>WN (cm:=false) (CompS.of I hk) hc (ZU hg hm ha.h hs) (λfp s H=>(hG fp s H).h) (λfp s H=>(ht fp s H).h) (λfp s H=>(he fp s H).h) hf a3 s Z H Q I h⟩
theorem zM(hK:X.K=Ξ)(t:ExcT Ξ C)(ob:q05 C d oe)(hb:X.base.get? a=some oe):zB X (.builtin "isinstance") (rIsX Ξ C a d):=by
 subst hK;intro a3 s Z H xs us Q I r h;obtain⟨c,cv,b,q,rfl,hc,e,hq,k⟩:=h;obtain⟨u,v,rfl,ru,rv⟩:=Yz r;obtain rfl:u=Value.ref a:=ru;obtain rfl:=KC hc rv;have di:=(I.bs a oe hb).1;obtain⟨vs,eS,_⟩:=ob.v;obtain⟨od,J⟩:∃od,PySem.W.InstAt s.heap a oe C od:=by
  cases q with
  |none=>
   have hq:d=none:=hq;exact⟨none,di,ob.c,by unfold W.notCls;rw[eS],by rw[ob.d,hq];trivial⟩
  |some n=>
   obtain⟨x0,ed,gq⟩:=hq;obtain⟨mA,cP,fY⟩:=I.hok x0 _ gq;obtain⟨od,ic,gz⟩:=jo cP;exact⟨some od,di,ob.c,by unfold W.notCls;rw[eS],by rw[ob.d,ed];exact ic⟩
 exact DN (W.kitx_exc t.ga t.gt t.mr t.hd t.ha t.hn t.htk t.hmo) I.kIn J e (λz=>nomatch z) λtk=>⟨.bl b,H,I.tok tk,rfl,k⟩
theorem q7m{st:Stmt}:QS X st (λ_ _ _=>False):=⟨λa3 s Z H D I h=>h.elim⟩
theorem q6t:ZS (λ_ _ _=>False) (λ_ _ _=>False):=⟨λA ι Z H ρ M D E w e r z=>z.elim⟩
section
variable {X:Cx}{a b c d:Expr}{ta tb tc td:TE}
theorem qa1(ha:QE X a ta)(h1:zr a=true:=by rfl):QA X [a] (vE ta tNil):=qa_c ha v7 h1
theorem qa2(ha:QE X a ta)(hb:QE X b tb)(h1:zr a=true:=by rfl)(h2:zr b=true:=by rfl):QA X [a,b] (vE ta (vE tb tNil)):=qa_c ha (qa1 hb h2) h1
theorem qa3(ha:QE X a ta)(hb:QE X b tb)(hc:QE X c tc)(h1:zr a=true:=by rfl)(h2:zr b=true:=by rfl)(h3:zr c=true:=by rfl):QA X [a,b,c] (vE ta (vE tb (vE tc tNil))):=qa_c ha (qa2 hb hc h2 h3) h1
theorem qa4(ha:QE X a ta)(hb:QE X b tb)(hc:QE X c tc)(hd:QE X d td)(h1:zr a=true:=by rfl)(h2:zr b=true:=by rfl)(h3:zr c=true:=by rfl)(h4:zr d=true:=by rfl):QA X [a,b,c,d] (vE ta (vE tb (vE tc (vE td tNil)))):=qa_c ha (qa3 hb hc hd h2 h3 h4) h1
def qv0:=@qv X 0
def qv1:=@qv X 1
def qv2:=@qv X 2
def qv3:=@qv X 3
def qv4:=@qv X 4
def qv5:=@qv X 5
def qv6:=@qv X 6
def qv7:=@qv X 7
def qv11:=@qv X 11
end
theorem YD(hj:ρ[j]?=some (some (.p (.tup (t::ts)))))(q:r E (ρ.set i (some (.p t))) M):uSeq (uAsg (uIx vC (uVar j) (uC (.int 0))) (KM i)) r E ρ M:=⟨_,hj,_,0,_,rfl,rfl,at0,q⟩
end L2
set_option maxHeartbeats 4000000
namespace Mw
open PySem L2 PyProof.Rows
def Ua(Ξ:PySem.W.Frag){X:Cx}(h:X.K=Ξ:=by rfl):=vz h
def Ub(Ξ:PySem.W.Frag){X:Cx}(h:X.K=Ξ:=by rfl):=qf h
def Uc(Ξ:PySem.W.Frag){X:Cx}(h:X.K=Ξ:=by rfl):=qE h
def Ud(Ξ:PySem.W.Frag){X:Cx}(h:X.K=Ξ:=by rfl):=zq h
theorem WE{k j:Nat}{A:Around}(r:Room k A)(h:j<=k:=by first|decide|exact Dh _):Room j A:=r.mono h
theorem WF{i:Int}:ZE (tC (.int i)) (uC (.int i)):=ce_c (.int i)
theorem GC{α:Type}{a:α}{b:Prop}:a=a\/b:=Or.inl rfl
theorem GD{α:Type}{a:α}{b:Prop}:b\/a=a:=Or.inr rfl
local macro_rules|`(tactic|walk_at "hp")=>`(tactic|first|assumption|exact upd_same|(refine zY (by assumption) ?_; walk_at "hp")|(refine kh (by first|assumption|(apply Ne.symm; assumption)) ?_; walk_at "hp"))
local macro_rules|`(tactic|walk_at "go")=>`(tactic|repeat (first|(simp only[L2.start,tSeq,Vv,tAsg,tOp,tUn,tVar,tC,qM,gSub,tRet,Zx,tIfS,Zz,tLM,tTru,zT,tBM,tBM0,tRev,j7,xG,J6,ko,km,VR,kq,q0o,tSl,zZ,Zy,rd_I,q1p,rd_U,VQ,q1o,tCB,vE,tNil,tTup,tLst,tYes,tAnd,tOr,tNot,tB,tIf,ZB,tOrV,q1K,Vu,q0Y,q09,q1A,List.getElem?_cons_zero,List.getElem?_cons_succ,Option.some.injEq,exists_eq_left',List.set_cons_zero,List.set_cons_succ,zg,List.zip_cons_cons,List.zip_nil_left,List.zip_nil_right,List.map_cons,List.map_nil,List.length_cons,List.length_nil,List.replicate,List.append_nil,List.nil_append,List.cons_append,Bool.false_eq_true,if_true,if_false,decide_eq_true_eq,Nat.zero_add,xD,xC])|refine GN (by walk_at "hp") rfl ?_|refine q6L (by walk_at "hp") rfl ?_|refine GN (by walk_at "hp") at0 ?_|refine q66 (by walk_at "hp") rfl ?_|refine q6S (by walk_at "hp") ?_|refine Ko (by walk_at "hp") ?_|refine V7 (by walk_at "hp") ?_|refine q9c (by walk_at "hp") ?_|refine q95 (by walk_at "hp") ?_|refine q9R rfl ?_|refine q9u rfl ?_))
section
variable {P:Program}{w:World}{Ξ:PySem.W.Frag}{mg:Str->Option Value}{base:Heap}
abbrev sBag:Stmt:=top 52
theorem scBag:q00 ["script","stir","cell"] ["script"] (qc sBag):=by ac_rfl
abbrev q1X:Stmt:=top 53
theorem scDraw:q00 ["bag","many","found"] ["bag","many"] (qc q1X):=by ac_rfl
structure BagAt(H:Hp)(b:Addr):Prop where
 ex:∃(c:Addr)(ns:List Int)(i a st n:Int),H b=some (.lst [.ref c,.int i,.int a,.int st,.int n])/\H c=some (.lst (ns.map V.int))/\0<=i/\i<=ns.length/\ns.length<=63/\(∀x∈ns,0<=x)/\0<=a/\0<=st/\st<2147483647
def q4W(Ξ:PySem.W.Frag):Sp:=λvs H Q _=>∃(a:Addr)(ns:List Int),vs=[.ref a]/\SqL Ξ H a (ns.map V.int)/\ns.length<=63/\∀(b:Addr)(H':Hp),H b=none->Same H H'->BagAt H' b->Q (.ref b) H'
theorem q7R(ns:List Int)(h:ns.length<=63):cutV (ns.map V.int) none (some 63)=ns.map V.int:=by
 unfold cutV;have e1:HT.sIx (ns.map V.int).length 0 none=0:=rfl;have e2:HT.sIx (ns.map V.int).length (ns.map V.int).length (some 63)=min 63 (ns.map V.int).length:=HT.sIx_nat _ _ 63;rw[e1,e2];simp only[Bl,Dd];rw[RP];simp;lia
theorem Km{ns:List Int}{i:Nat}(h:(ns.map V.int)[i]?=some y):∃z,y=V.int z/\ns[i]?=some z:=by
 rw[Dv]at h;cases e:ns[i]? with
 |none=>rw[e]at h;cases h
 |some z=>rw[e]at h;exact⟨z,(Option.some.inj h).symm,rfl⟩
theorem q6W(F:Fun Ξ "_law_bag" "_law_bag" sBag f fd)(N:Nms mg):FnOk P w Ξ mg base CX0 1 f fd ["script"] (q4W Ξ):=by
 refine F.okQ scBag (λvs H Q E h=>?_) (λa9 A outer s H vs Q E hr h=>?_)
 ·obtain⟨a,ns,rfl,_⟩:=h
  rfl
 ·obtain⟨a,ns,rfl,hS,ay,k⟩:=h
  refine⟨_,(qb (qi (i:=1) scBag.nd rfl GC qa) (qb (xL PassesOwn.never rfl (vA (Ξ:=Ξ) rfl (vc (Ua Ξ) qv0 v6 (qY qa))) (vi (i:=2) scBag.nd rfl GC) (qd (qi (i:=1) scBag.nd rfl GC (ql zp (ql qL (ql qL (ql Ve qv1 qa) (ql zp qv2 qa)) qa) qa)))) (qd (qp (qw (qa_c (ZQ [false,false,false] [] (vA (Ξ:=Ξ) rfl (vc (Ua Ξ) qv0 v6 (qY qa))) (λ_ _ _=>(vi (i:=2) scBag.nd rfl GC)) (λ_ _ _=>Qe) (λ_ _ _=>(ql zp (qx Zm (by rfl) N.abs q4r (qa1 qv2)) (ql Kc qa qa)))) (qa4 qa qa qv1 qa))))))),?_⟩;refine⟨_,rfl,_,rfl,a,_,rfl,hS,λp hp=>?_⟩;rw[q7R ns ay];refine⟨p,rfl,⟨_,SqL.of upd_same⟩,q1c (Ξ:=Ξ) (a:=p) (xs:=ns.map V.int) (λi Z H2=>∃(st:Int)(v:Option V),Z=[some (.ref a),some (.int st),v]/\0<=st/\st<2147483647/\H2=upd H p (.lst (ns.map V.int)))
   ⟨17,none,rfl,by decide,by decide,rfl⟩ (λi Z H2 _ zz=>by obtain⟨_,_,_,_,_,e⟩:=zz;rw[e];exact SqL.of upd_same) ?_ ?_⟩
  ·rintro i y Z H2 hi ⟨st,v,rfl,h0,h1,rfl⟩
   obtain⟨z,rfl,_⟩:=Km hi
   (simp only[L2.start,tSeq,Vv,tAsg,tOp,tUn,tVar,tC,qM,gSub,tRet,Zx,tIfS,Zz,tLM,tTru,zT,tBM,tBM0,tRev,j7,xG,J6,ko,km,VR,kq,q0o,tSl,zZ,Zy,rd_I,q1p,rd_U,VQ,q1o,tCB,vE,tNil,tTup,tLst,tYes,tAnd,tOr,tNot,tB,tIf,ZB,tOrV,q1K,Vu,q0Y,q09,q1A,Re,Ru,Option.some.injEq,exists_eq_left',RM,RN,zg,Bg,Bs,Bh,Dx,Rx,Dj,DR,List.replicate,DD,D1,Rj,D7,U1,UP,UN,Rz,xD,xC]);refine⟨.inr ⟨by decide,by decide⟩,by decide,by decide,_,_,rfl,D2 _ (by decide),DU _ (by decide),trivial⟩
  ·rintro Z H2 ⟨st,v,rfl,h0,h1,rfl⟩
   have pP:SqL Ξ (upd H p (.lst (ns.map V.int))) a (ns.map V.int):=((Same.refl H).upd hp).seq hS;refine⟨_,rfl,_,rfl,a,_,rfl,pP,λp2 lr=>?_⟩;rw[q7R ns ay];obtain⟨f2,n2⟩:=Zd lr;refine⟨p2,rfl,⟨_,SqL.of upd_same⟩,λa8 bD=>?_⟩;obtain⟨g1,n3⟩:=Zd bD;obtain⟨g2,n4⟩:=Zd g1;refine qaC (xs:=ns.map V.int) (λi H3=>∃ys:List Int,H3 a8=some (.lst (ys.map V.int))/\ys.length=i/\(∀y∈ys,0<=y)/\H3 p2=some (.lst (ns.map V.int))/\Same H H3) ?_ ?_ ?_ ?_
   ·exact⟨[],upd_same,rfl,(λ_ h=>nomatch h),zY bD upd_same,(((Same.refl H).upd hp).upd f2).upd g2⟩
   ·rintro i H3 _ ⟨ys,_,_,_,e,_⟩
    exact SqL.of e
   ·rintro i y H3 hi ⟨ys,e1,e2,e3,e4,e5⟩
    obtain⟨z,rfl,hz⟩:=Km hi;have m4:i<ns.length:=(Db.mp hz).1
    (simp only[L2.start,tSeq,Vv,tAsg,tOp,tUn,tVar,tC,qM,gSub,tRet,Zx,tIfS,Zz,tLM,tTru,zT,tBM,tBM0,tRev,j7,xG,J6,ko,km,VR,kq,q0o,tSl,zZ,Zy,rd_I,q1p,rd_U,VQ,q1o,tCB,vE,tNil,tTup,tLst,tYes,tAnd,tOr,tNot,tB,tIf,ZB,tOrV,q1K,Vu,q0Y,q09,q1A,Re,Ru,Option.some.injEq,exists_eq_left',RM,RN,zg,Bg,Bs,Bh,Dx,Rx,Dj,DR,List.replicate,DD,D1,Rj,D7,U1,UP,UN,Rz,xD,xC]);refine⟨⟨by(repeat (first|exact ExtS.nl|refine ExtS.sm ?_|refine ExtS.no ?_)),trivial⟩,⟨by decide,by decide,by decide⟩,by decide,ys.map V.int,e1,qW (by simp;lia),ys++[(if z<0 then -z else z) % 10^(60:Int).toNat],?_,by simp[e2],?_,kh n3.symm e4,e5.upd g2⟩
    ·rw[upd_same,Ds];rfl
    ·intro y hy
     rcases Dl.mp hy with h|h
     ·exact e3 y h
     ·rw[Do.mp h];exact D2 _ (by decide)
   ·rintro H3 ⟨ys,e1,e2,e3,e4,e5⟩
    rw[Dd]at e2
    (simp only[L2.start,tSeq,Vv,tAsg,tOp,tUn,tVar,tC,qM,gSub,tRet,Zx,tIfS,Zz,tLM,tTru,zT,tBM,tBM0,tRev,j7,xG,J6,ko,km,VR,kq,q0o,tSl,zZ,Zy,rd_I,q1p,rd_U,VQ,q1o,tCB,vE,tNil,tTup,tLst,tYes,tAnd,tOr,tNot,tB,tIf,ZB,tOrV,q1K,Vu,q0Y,q09,q1A,Re,Ru,Option.some.injEq,exists_eq_left',RM,RN,zg,Bg,Bs,Bh,Dx,Rx,Dj,DR,List.replicate,DD,D1,Rj,D7,U1,UP,UN,Rz,xD,xC]);refine⟨by decide,λb hb=>?_⟩;refine k b _ (e5.free hb) (e5.upd (e5.free hb)) ⟨a8,ys,0,0,st,0,upd_same,zY hb e1,by decide,by lia,by lia,e3,by decide,h0,h1⟩
theorem qaX{H:Hp}{ns:List Int}{i a st n:Int}(hb:H b=some (.lst [.ref c,.int i,.int a,.int st,.int n]))(hc:H c=some (.lst (ns.map V.int))):c≠b:=by
 intro e;subst e;rw[hb]at hc;injection hc with hc
 injection hc with hc
 cases ns with
 |nil=>cases hc
 |cons z r=>cases hc
def js(H:Hp)(b c:Addr):Prop:=∃r,H b=some (.lst (.ref c::r))
theorem Xh(h:H b=some (.lst (.ref c::r)))(h':H' b=some (.lst (.ref c::r'))):∀c',js H b c'->js H' b c':=λc' zz=>by
 obtain⟨q,e⟩:=zz;rw[h]at e;injection e with e
 injection e with e
 injection e with e _
 injection e with e
 subst e;exact⟨r',h'⟩
theorem q1b(h:js H b c)(h':js H b c'):c=c':=by
 obtain⟨q,e⟩:=h;obtain⟨q',e'⟩:=h';rw[e]at e';injection e' with e'
 injection e' with e'
 injection e' with e' _
 injection e'
def q5p:Sp:=λvs H Q _=>∃(b:Addr)(aT:Int),vs=[.ref b,.int aT]/\BagAt H b/\0<aT/\aT.natAbs.log2<9000/\∀(aS:Int)(H':Hp),0<=aS->aS<aT->BagAt H' b->(∀x,x≠b->H' x=H x)->(∀c,js H b c->js H' b c)->Q (.int aS) H'
theorem BagAt.put(h:BagAt H b)(hh:js H b c0)(n1:p≠b)(n2:p≠c0):BagAt (L2.upd H p o) b:=by
 obtain⟨c,ns,i,a,st,n,hb,hc,r⟩:=h.ex;have e:c0=c:=by
  obtain⟨q,e⟩:=hh;rw[hb]at e;injection e with e
  injection e with e
  injection e with e _
  injection e with e
  exact e.symm
 subst e;exact⟨c0,ns,i,a,st,n,kh n1.symm hb,kh n2.symm hc,r⟩
theorem q1M(F:Fun Ξ "_law_draw" "_law_draw" q1X f fd)(N:Nms mg):FnOk P w Ξ mg base CX0 1 f fd ["bag","many"] q5p:=by
 refine F.okQ scDraw (λvs H Q E h=>?_) (λa9 A outer s H vs Q E hr h=>?_)
 ·obtain⟨b,m,rfl,_⟩:=h
  rfl
 ·obtain⟨b,aT,rfl,⟨c,ns,i,a,st,n,hb,hc,i0,i1,hl,cP,a0,s0,s1⟩,m0,mb,k⟩:=h
  have pQ:=qaX hb hc;refine⟨_,(qb (vp (Q0 (j8 (qh op_eq (qr (Ub Ξ) qv0 qa (λ_ _=>rfl)) qa (qt _)) (xl (qh Q2 (qr (Ub Ξ) qv0 qa (λ_ _=>rfl)) (qx vJ (by rfl) N.len Q6 (qa1 (qr (Ub Ξ) qv0 qa (λ_ _=>rfl)))) (qt _))))) (qb (zd (qr (Ub Ξ) (qr (Ub Ξ) qv0 qa (λ_ _=>rfl)) (qr (Ub Ξ) qv0 qa (λ_ _=>rfl)) (λ_ _=>rfl)) (zm qv0 qa vh)) (qd (zd (ql qL (qr (Ub Ξ) qv0 qa (λ_ _=>rfl)) qa) (zm qv0 qa vh)))) (qd (vp (qh op_eq (qr (Ub Ξ) qv0 qa (λ_ _=>rfl)) qa (qt _)) (qb (zd (ql qL (qr (Ub Ξ) qv0 qa (λ_ _=>rfl)) qa) (zm qv0 qa vh)) (qb (zd (ql zp (ql qL (ql qL (ql qL (ql Kc (qr (Ub Ξ) qv0 qa (λ_ _=>rfl)) qa) (ql Ve qa (qr (Ub Ξ) qv0 qa (λ_ _=>rfl)))) (ql Ve qa (qr (Ub Ξ) qv0 qa (λ_ _=>rfl)))) qa) qa) (zm qv0 qa vh)) (qd (qp (ql zp (ql kr (qr (Ub Ξ) qv0 qa (λ_ _=>rfl)) qa) qv1))))) qJ))) (qb (qi (i:=2) scDraw.nd rfl GC (ql zp (qr (Ub Ξ) qv0 qa (λ_ _=>rfl)) qv1)) (qb (zd (ql kr (qr (Ub Ξ) qv0 qa (λ_ _=>rfl)) qv1) (zm qv0 qa vh)) (qd (qp qv2))))),?_⟩;rfl';have fin:∀(z:Int)(H':Hp)(i' a' cE n':Int),0<=z->H' b=some (.lst [.ref c,.int i',.int (z / aT),.int cE,.int n'])->(∀x,x≠b->H' x=H x)->0<=i'->i'<=ns.length->0<=cE->cE<2147483647->Q (.int (z % aT)) H':=λz H' i' a' cE n' hz e1 e2 e3 e4 e5 e6=>
   k _ _ (D2 _ (by lia)) (DU _ m0) ⟨c,ns,i',z / aT,cE,n',e1,by rw[e2 c pQ];exact hc,e3,e4,hl,cP,Int.ediv_nonneg hz (by lia),e5,e6⟩ e2 (Xh hb e1)
  refine ite2 (λha=>?_) (λha=>?_)
  ·rfl'
   refine ite2 (λhi=>?_) (λhi=>?_)
   ·rw[Dd]at hi
    obtain⟨j,rfl⟩:∃j:Nat,i=(j:Int):=⟨i.toNat,by lia⟩;have hj:j<ns.length:=by lia
    rfl';refine GN hc (vK (v:=.int ns[j]) (by rw[Dv,Dc hj];rfl)) ?_;rfl';refine⟨m0,?_⟩;rfl';refine⟨⟨m0,mb⟩,?_⟩;rfl';exact fin _ _ (j+1) 0 st n (cP _ (R0 hj)) upd_same (λx hx=>by rw[upd_ne hx,upd_ne hx,upd_ne hx]) (by lia) (by lia) s0 s1
   ·rfl'
    rw[Uj ha];rfl';refine⟨⟨by decide,by decide,by lia⟩,?_⟩;rfl';refine⟨.inl ⟨by decide,by decide⟩,?_⟩;rfl';refine⟨.inl ⟨by decide,by decide⟩,by decide,?_⟩;rfl';refine⟨⟨by decide,by decide⟩,m0,?_⟩;refine k _ _ (D2 _ (by lia)) (DU _ m0) ⟨c,ns,i,a,_,n+1,upd_same,?_,i0,i1,hl,cP,a0,D2 _ (by decide),DU _ (by decide)⟩ (λx hx=>by rw[upd_ne hx,upd_ne hx]) (Xh hb upd_same);walk_at "hp"
  ·rfl'
   rw[Uh ha];rfl';refine⟨m0,?_⟩;rfl';refine⟨⟨m0,mb⟩,?_⟩;rfl';exact fin _ _ i 0 st n a0 upd_same (λx hx=>by rw[upd_ne hx]) i0 i1 s0 s1
def MB(M:MM)(k:Nat)(o:MO)(L:List MO):MM:=M.set k o++L
theorem q7q:(MB M k o L).length=M.length+L.length:=by unfold MB;rw[Dg,Dm]
theorem q8R:MB M k o L++[x]=MB M k o (L++[x]):=by unfold MB;rw[DF]
theorem MB_get:(MB M k o L)[M.length+i]?=L[i]?:=by
 unfold MB;rw[Dk (by rw[Dm];lia),Dm,DG]
theorem zj(h:L[i]?=some x:=by rfl):(MB M k o L)[M.length+i]?=some x:=MB_get.trans h
theorem q86:(MB M k o L).set (M.length+i) x=MB M k o (L.set i x):=by
 unfold MB;rw[RX _ _ (by rw[Dm];lia),Dm,DG]
theorem qa6(h:k<M.length):(MB M k o L)[k]?=some o:=by
 unfold MB;rw[Df (by rw[Dm];exact h),Dw h]
theorem QU(h:k<M.length):(MB M k o L).set k o'=MB M k o' L:=by
 unfold MB;rw[R1 _ _ (by rw[Dm];exact h),BK]
theorem j4:(MB M k o L).take M.length=M.set k o:=by
 unfold MB;rw[BL (by rw[Dm])]
theorem kG(h:M[k]?=some o):k<M.length/\M=MB M k o []:=by
 refine⟨(Db.mp h).1,?_⟩;unfold MB;rw[DD];obtain⟨hk,rfl⟩:=Db.mp h;rw[RY]
theorem j3(h:PurO o):zA M (MB M k o L):=λi x hi e=>by
 unfold MB at e;rw[Df (by rw[Dm];exact hi)]at e;by_cases hk:k=i
 ·subst hk
  rw[Dw hi]at e;cases e;exact .inr h
 ·rw[Dq hk]at e
  exact .inl e
structure BagO(o:MO):Prop where
 ex:∃(ns:List Int)(i a st n:Int),o=.lst [.p (vb ns),.p (.int i),.p (.int a),.p (.int st),.p (.int n)]/\0<=i/\i<=ns.length/\ns.length<=63/\(∀x∈ns,0<=x)/\0<=a/\0<=st/\st<2147483647
theorem BagO.pur(h:BagO o):PurO o:=by
 obtain⟨ns,i,a,st,n,rfl,_⟩:=h.ex;exact⟨[vb ns,.int i,.int a,.int st,.int n],rfl⟩
def JD:List U->MM->UK->Prop:=λus M Q=>∃(k:Nat)(o:MO)(aT:Int),us=[.m k,.p (.int aT)]/\M[k]?=some o/\BagO o/\0<aT/\aT.natAbs.log2<9000/\∀(aS:Int)(o':MO),0<=aS->aS<aT->BagO o'->Q (.p (.int aS)) (M.set k o')
theorem vk(hk:k<M.length)(B:BagO o)(h0:0<aT)(h1:aT.natAbs.log2<9000)(q:∀(aS:Int)(o':MO),0<=aS->aS<aT->BagO o'->Q (.p (.int aS)) (MB M k o' L)):JD [.m k,.p (.int aT)] (MB M k o L) Q :=
 ⟨k,o,aT,rfl,qa6 hk,B,h0,h1,λf o' f0 f1 B'=>by rw[QU hk];exact q f o' f0 f1 B'⟩
theorem q04(r:RepT A H v (vb ns)):∃p,v=.ref p/\¬A p/\H p=some (.lst (ns.map V.int)):=by
 obtain⟨p,vs,rfl,na,h,q⟩:=r.lst_inv;refine⟨p,rfl,na,?_⟩;have:vs=ns.map V.int:=by
  clear h r na
  induction ns generalizing vs with
  |nil=>cases q;rfl
  |cons n ns ih=>
   cases q with
   |cons a b=>cases a;rw[ih _ b];rfl
 rw[h,this]
theorem Kk(na:¬A p)(h:H p=some (.lst (ns.map V.int))):RepT A H (.ref p) (vb ns):=by
 refine .lstP na h ?_
 induction ns with
 |nil=>exact .nil
 |cons n ns ih=>exact .cons (.int n) (by
   clear h ih
   induction ns with
   |nil=>exact .nil
   |cons n ns ih=>exact .cons (.int n) ih)
theorem q4b(hb:BagO o)(r:ObjR A ι H b o):BagAt H b/\∃c,js H b c/\¬Av A ι c/\∃ns:List Int,H c=some (.lst (ns.map V.int)):=by
 obtain⟨ns,i,a,st,n,rfl,k⟩:=hb.ex;obtain⟨vs,h,q⟩:=r;cases q with
 |cons q1 q=>
 cases q with
 |cons q2 q=>
 cases q with
 |cons q3 q=>
 cases q with
 |cons q4 q=>
 cases q with
 |cons q5 q=>
 cases q;cases q1 with
 |p q1=>
 obtain⟨c,rfl,nc,hc⟩:=q04 q1;cases q2 with
 |p q2=>
 cases q3 with
 |p q3=>
 cases q4 with
 |p q4=>
 cases q5 with
 |p q5=>
 cases q2;cases q3;cases q4;cases q5;exact⟨⟨c,ns,i,a,st,n,h,hc,k⟩,c,⟨_,h⟩,nc,ns,hc⟩
theorem KK(B:BagAt H b)(hd:js H b c)(nc:¬Av A ι c):∃o,BagO o/\ObjR A ι H b o/\∃x,H b=some x/\∀H',H' b=some x->(∀y z,H y=some z->y≠b->H' y=some z)->ObjR A ι H' b o:=by
 obtain⟨c',ns,i,a,st,n,h,hc,k⟩:=B.ex;have:c=c':=q1b hd ⟨_,h⟩;subst this;have m5:c≠b:=qaX h hc;refine⟨_,⟨ns,i,a,st,n,rfl,k⟩,⟨_,h,.cons (.p (Kk nc hc)) (.cons (.p (.int _)) (.cons (.p (.int _)) (.cons (.p (.int _)) (.cons (.p (.int _)) .nil))))⟩,_,h,λH' e f=>⟨_,e,.cons (.p (Kk nc (f _ _ hc m5))) (.cons (.p (.int _)) (.cons (.p (.int _)) (.cons (.p (.int _)) (.cons (.p (.int _)) .nil))))⟩⟩
set_option tactic.hygienic true in
theorem q0E(F:Fun Ξ "_law_draw" "_law_draw" q1X f fd)(N:Nms mg):FnOk P w Ξ mg base CX0 1 f fd ["bag","many"] (spU JD):=by
 refine(q1M F N).imp λvs H Q E h=>?_;obtain⟨A,ι,M,us,Qu,w1,r,⟨k,o,aT,rfl,em,hb,h0,h1,q⟩,kk⟩:=h;cases r with
 |cons r1 r=>
 cases r with
 |cons r2 r=>
 cases r;cases r2 with
 |p r2=>
 cases r2;cases r1 with
 |m ek=>
 rename_i b;have ro:=w1.obj k b o ek em;obtain⟨B,c,hd,nc,ns,gL⟩:=q4b hb ro;refine⟨b,aT,rfl,B,h0,h1,λaS H' f0 f1 B' fr pR=>?_⟩;have fv:=pR c hd;have aF:=De ek;obtain⟨o',ii,pS,x,hx,_⟩:=KK (A:=A) (ι:=ι) B' fv nc;have eH:H'=L2.upd H b x:=by
  funext y;by_cases z:y=b
  ·subst z;rw[L2.upd_same];exact hx
  ·rw[L2.upd_ne z];exact fr y z
 subst eH;exact kk _ _ ι _ _ (.put aF) (w1.put ek pS) (.p (.int _)) (q aS o' f0 f1 ii)
theorem up1{R:T->Prop}:(∃t,U.p a=.p t/\R t)=R a:=propext ⟨λzz=>by obtain⟨_,e,h⟩:=zz;cases e;exact h,λh=>⟨a,rfl,h⟩⟩
theorem YC{ts:List T}(hz:ts.length<=sizeLine)(Iv:Nat->List T->MM->Prop)(h0:Iv 0 [] M)(hk:∀i a8 M2,Iv i a8 M2->M2[k]?=some (.lst (ts.map U.p)))(hs:∀i t a8 M2,ts[i]?=some t->a8.length<=i->Iv i a8 M2->ug (.p t) ef M2 λc6 M4=>ut c6 M4 λb M5=>if b=true then ua c6 M5 λz M6=>∃t,z=.p t/\Iv (i+1) (a8++[t]) M6 else Iv (i+1) a8 M5)(hd:∀a8 M2,Iv ts.length a8 M2->Q (.p (.lst a8)) M2):UComp (itU (.m k) (ts.map U.p)) ug ut ua ef M Q:=by
 refine⟨by simpa[itU]using hz,Iv,h0,λi a8 M2 hi ha h=>⟨by show qQ M2 (.m k)=_;simp[qQ,hk i a8 M2 h],λu hu=>?_⟩,λa8 M2 h=>⟨by show qQ M2 (.m k)=_;simp[qQ,hk _ a8 M2 h],hd a8 M2 (by simpa[itU]using h)⟩⟩;have hu:(ts.map U.p)[i]?=some u:=hu;rw[Dv]at hu;cases e:ts[i]? with
 |none=>rw[e]at hu;cases hu
 |some t=>rw[e]at hu;cases hu;exact hs i t a8 M2 e ha h
theorem q03{α β:Type}{f:α->β}{l:List α}{i:Nat}{y:β}(h:(l.map f)[i]?=some y):∃x,l[i]?=some x/\y=f x:=by
 rw[Dv]at h;cases e:l[i]? with
 |none=>rw[e]at h;cases h
 |some n=>rw[e]at h;cases h;exact⟨n,rfl,rfl⟩
theorem q77(h:vC M u=some [a,b])(q:R a b):T2S M u R:=⟨a,b,h,q⟩
theorem q8C(h:vC M u=some [a,b,c])(q:R a b c):T3S M u R:=⟨a,b,c,h,q⟩
theorem q33(e:M[k]?=some (.lst (ts.map U.p)))(q:Q (.p (.lst (cutT ts l h))) M):SlS M (.m k) l h Q:=⟨ts,by simp[sn,e],q⟩
theorem useq(h:a { E with nx:=b E } ρ M):uSeq a b E ρ M:=h
local macro_rules|`(tactic|walk_at "us")=>`(tactic|first|walk_at "vs" |simp only[uSeq])
local macro_rules|`(tactic|walk_at "u")=>`(tactic|repeat (first|walk_at "us" |refine qB rfl ?_|refine qB at0 ?_|refine qB at1 ?_|refine GL rfl ?_|refine q77 rfl ?_|refine q8C rfl ?_|refine Gw rfl ?_|refine jV rfl ?_|refine Gw zj ?_|refine jV zj ?_))
local macro_rules|`(tactic|walk_at "vs")=>`(tactic|simp only[zO,YE,uAsg,KM,q10,q2a,q7i,q3x,uC,XO,uNil,q9E,q92,q9j,q8J,q6n,q71,q7v,q7E,q8Q,q84,uIsN,Jx,q4C,q70,q7J,q5x,rd_b,q3D,q8s,q4u,uAnd,uOr,uNot,uIf,q0r,q75,q9w,q4a,q4n,Wo,q7H,q7W,uNew,q87,q9Q,q3L,q5a,q9t,q3O,q3s,q4z,q43,q3y,q8l,q4k,q9V,q7r,q5c,Wp,q8Z,q8k,q46,q1h,q5S,uFor,q80,Ye,q9z,q9s,q13,q1q,q0y,q9d,q6k,q6h,uRet,q3t,uIfS,uYes,ss,uIsi,q9S,isU,isT,uIxK,uInK,vt,q67,q91,q53,q5t,q1F,q8b,q6g,q5w,q9r,q9a,q18,q9M,q8H,Wq,q4p,q3M,Wn,Bool.or_true,Bool.true_or,Bool.or_false,Bool.false_or,uIfC,q1W,q0n,q8t,q4E,up1,G9,Xm,MO.lst.injEq,q4H,JT,q8R,q7q,MB_get,q86,Option.some.injEq,List.map_cons,List.map_nil,List.length_cons,List.length_nil,List.replicate,List.append_nil,List.nil_append,List.cons_append,List.getElem?_cons_zero,List.getElem?_cons_succ,List.set_cons_zero,List.set_cons_succ,List.zip_cons_cons,List.zip_nil_left,List.zip_nil_right,Bool.false_eq_true,if_true,if_false,decide_eq_true_eq,decide_true,decide_false,Bool.not_true,Bool.not_false,true_and,and_true,Nat.reduceAdd,Nat.reduceSub,Nat.zero_add,exists_eq_left'])
local macro_rules|`(tactic|walk_at "v")=>`(tactic|repeat (first|with_reducible refine useq ?_|walk_at "vs"|((with_reducible refine gdIx ?_); first|refine qB rfl ?_|refine qB at0 ?_|refine qB at1 ?_|refine GL rfl ?_)|((with_reducible refine gdT2 ?_); refine q77 rfl ?_)|((with_reducible refine gdT3 ?_); refine q8C rfl ?_)|((with_reducible refine gdMe ?_); first|refine Gw rfl ?_|refine Gw zj ?_)|((with_reducible refine q9A ?_); first|refine jV rfl ?_|refine jV zj ?_)))
local macro_rules|`(tactic|walk_at "lk")=>`(tactic|repeat' first|(with_reducible first|exact qm _|apply qo|exact qU|exact ce_c (.int _)|apply qk|exact ce_c (.str _)|apply vf|exact qH _|apply zx|apply Zj|apply q6I|apply q3P|apply qaK|apply q6H|apply zW|exact zR λ_ _=>.int _|exact q2L|exact q9C λ_ _=>.int _|apply qaM|apply xE|apply KJ|apply qaI|apply vW|apply j2|exact vP|apply q5I|apply q65|apply q51|apply q5M|apply q8P|apply q5u|apply q2H|apply q8E|apply q83|apply q7o|apply qaE|apply q3w|apply QM|apply q3H|apply q4M|apply q8M|apply q5e|apply qaA|apply Kz|apply qaz|apply qay|apply Vm|apply q0D|apply qax|apply q4g|apply Ky|apply q37|apply ct_b|apply q2E|apply q9J|exact qaQ|exact q1v|exact q4F|exact q0t|exact ce_c (.bl _)|exact ce_c .non|exact q0W _ _|exact q1e _ _ _|exact JL|exact q3k|exact Yd|exact Yc|exact Gv|exact zR λ_ _=>.bl _|exact WU|exact WT|exact q4P|exact q8L|exact q8S|exact q5V|apply qaP|apply q8e)|apply q5J|apply qas|apply cx_0|apply q9U|apply q8p|apply q9h|exact KH _|exact qaH _ _ _|decide)
abbrev Mk3:=Str×Int×Int
def on(word:Int)(m:Mk3):Bool:=decide (word % 2^m.2.1.toNat=m.2.2)
def Wd(ms:List Mk3):Prop:=∀m∈ms,0<=m.2.1/\m.2.1<=1000
theorem qX(k:Nat):(0:Int)<2^k:=Int.pow_pos (by decide)
theorem vg{α:Type}{l:List α}{i:Nat}{x:α}(h:l[i]?=some x):l.take (i+1)=l.take i++[x]:=by
 obtain⟨hi,e⟩:=Db.mp h;rw[List.take_succ_eq_append_getElem hi,e]
def OfKind(ms:List Mk3)(kind:Str)(m:Mk3):Prop:=∃rest,ms.filter (λm=>decide (m.1=kind))=m::rest
def QF:List Str:=["small","far","pair","sign","one"]
abbrev Nd:=Int×Int
def Disj(a b:Nd):Prop:=∀x:Int,¬(x % 2^a.1.toNat=a.2/\x % 2^b.1.toNat=b.2)
theorem Disj.symm(h:Disj a b):Disj b a:=λx ⟨p,q⟩=>h x ⟨q,p⟩
def NdOk(a:Nd):Prop:=0<=a.1/\a.1<=60/\0<=a.2/\a.2<2^a.1.toNat
theorem jU{x:Int}(h:a<=b):x % 2^b % 2^a=x % 2^a:=by
 refine Int.emod_emod_of_dvd x ?_;obtain⟨c,rfl⟩:=Nat.exists_eq_add_of_le h;exact⟨2^c,qbc ..⟩
def zL(a:Nd)(s:Int):Nd:=(a.1+1,a.2+s*2^a.1.toNat)
theorem qaG(ha:NdOk a)(h:x % 2^(zL a s).1.toNat=(zL a s).2):x % 2^a.1.toNat=a.2:=by
 have e:(zL a s).1.toNat=a.1.toNat+1:=by show(a.1+1).toNat=_;have:=ha.1;lia
 rw[e]at h;rw[<-jU (Bv a.1.toNat),h];show(a.2+s*2^a.1.toNat) % 2^a.1.toNat=a.2;rw[qbs,Int.add_mul_emod_self_left];exact D4 ha.2.2.1 ha.2.2.2
theorem Vn(ha:NdOk a)(h:Disj a b):Disj (zL a s) b:=λx ⟨p,q⟩=>h x ⟨qaG ha p,q⟩
theorem qaF(hs:s≠t):Disj (zL a s) (zL a t):=λx zz=>by
 obtain⟨p,q⟩:=zz;rw[show(zL a t).1=(zL a s).1 from rfl,p]at q;have:(a.2+s*2^a.1.toNat)=a.2+t*2^a.1.toNat:=q;have h2:s*2^a.1.toNat=t*2^a.1.toNat:=by lia
 exact hs (Int.eq_of_mul_eq_mul_right (Bi (qX _)) h2)
theorem KG(ha:NdOk a)(m6:a.1<=59)(hs:s=0\/s=1):NdOk (zL a s):=by
 obtain⟨h1,h2,h3,h4⟩:=ha;have e:(a.1+1).toNat=a.1.toNat+1:=by lia
 refine⟨by show 0<=a.1+1;lia,by show a.1+1<=60;lia,?_,?_⟩
 ·show 0<=a.2+s*2^a.1.toNat
  have:=qX a.1.toNat;rcases hs with rfl|rfl<;>lia
 ·show a.2+s*2^a.1.toNat<2^(a.1+1).toNat
  rw[e,Int.pow_succ];rcases hs with rfl|rfl<;>lia
theorem QJ(h:a.2 % 2^(min a.1.toNat b.1.toNat)≠b.2 % 2^(min a.1.toNat b.1.toNat)):Disj a b:=λx zz=>by
 obtain⟨p,q⟩:=zz;refine h ?_;rw[<-p, <-q,jU (Nat.min_le_left _ _),jU (Nat.min_le_right _ _)]
theorem Vd{α:Type}:∀{l:List α}{i:Nat}{x:α},l[i]?=some x->l.Perm (x::l.eraseIdx i)
 | [],_,_,h=>by simp at h
 |y::l,0,x,h=>by simp at h;subst h;simp
 |y::l,i+1,x,h=>by
  have:=Vd (l:=l) (i:=i) (x:=x) (by simpa using h);exact(List.Perm.cons y this).trans (List.Perm.swap ..)
def need(kind:Str):Int:=if kind = "sign" then 7 else if kind = "small" then 2 else if kind = "one" then 2 else 3
structure Right(bits:Int)(ms:List Mk3):Prop where
 b:8<=bits/\bits<=32
 n:ms.length=5
 k:(ms.map (·.1)).Perm QF
 w:∀m∈ms,1<=m.2.1/\m.2.1<=bits-need m.1
 p:∀m∈ms,0<=m.2.2/\m.2.2<2^m.2.1.toNat
 d:ms.Pairwise λm m'=>Disj m.2 m'.2
theorem zI(k:Str):2<=need k:=by unfold need;split<;>(try split)<;>(try split)<;>decide
theorem Right.wd(r:Right bits ms):Wd ms:=λm hm=>by
 have:=r.w m hm;have h2:=zI m.1;have:=r.b;lia
theorem Right.kind(r:Right bits ms){kind:Str}(h:kind∈QF):∃m,OfKind ms kind m:=by
 have:kind∈ms.map (·.1):=r.k.mem_iff.mpr h;obtain⟨m,hm,e⟩:=DP.mp this;cases q:ms.filter (λm=>decide (m.1=kind)) with
 |nil=>
  have:m∈ms.filter (λm=>decide (m.1=kind)):=Dz.mpr ⟨hm,by simp[e]⟩;rw[q]at this;cases this
 |cons m0 rest=>exact⟨m0,rest,q⟩
theorem Right.of_perm(r:Right bits ms)(h:ms.Perm ns):Right bits ns :=
 ⟨r.b,h.length_eq.symm.trans r.n,(h.map _).symm.trans r.k,λm hm=>r.w m (h.mem_iff.mpr hm),λm hm=>r.p m (h.mem_iff.mpr hm),(h.pairwise_iff λh=>h.symm).mp r.d⟩
theorem log2_lt{n:Int}(h0:0<n)(h1:n<2^62):n.natAbs.log2<9000:=by
 have:n.natAbs.log2<62:=(qbv (by lia)).mpr (by lia);lia
def T0:List Nd:=[(1,0),(2,1),(3,3),(4,7),(4,15)]
def T1:List Nd:=[(1,0),(3,1),(3,3),(3,5),(3,7)]
def T2:List Nd:=[(2,0),(2,1),(2,2),(3,3),(3,7)]
def Tbl(bits:Int)(t:List Nd):Prop:=t=T0\/t=T1\/(t=T2/\9<=bits)
def xm(mask:Int)(n:Nd):Nd:=(n.1,Builtin.bitXor n.2 mask % 2^n.1.toNat)
def fm(mask:Int)(o:Str)(n:Nd):Mk3:=(o,xm mask n)
def cnt(bits:Int)(t:List Nd):Nat:=(t.filter λn=>decide (n.1<=bits-7)).length
theorem q4K(hb:8<=bits)(h:Tbl bits t):0<cnt bits t:=by
 unfold cnt;refine R9.mpr λe=>?_;rcases h with rfl|rfl|⟨rfl,h9⟩
 ·have:((1,0):Nd)∈T0.filter λn=>decide (n.1<=bits-7):=Dz.mpr ⟨by decide,by simp;lia⟩
  rw[e]at this;cases this
 ·have:((1,0):Nd)∈T1.filter λn=>decide (n.1<=bits-7):=Dz.mpr ⟨by decide,by simp;lia⟩
  rw[e]at this;cases this
 ·have:((2,0):Nd)∈T2.filter λn=>decide (n.1<=bits-7):=Dz.mpr ⟨by decide,by simp;lia⟩
  rw[e]at this;cases this
theorem Vt(h:Tbl bits t):t.length=5:=by rcases h with rfl|rfl|⟨rfl,_⟩<;>rfl
theorem q5D(h:Tbl bits t):∀n∈t,1<=n.1/\n.1<=4:=by rcases h with rfl|rfl|⟨rfl,_⟩<;>decide
theorem q23(hb:8<=bits)(h:Tbl bits t)(ha:ax<cnt bits t)(hn:t[ax]?=some n):n.1<=bits-7:=by
 by_cases h11:11<=bits
 ·have:=(q5D h n (De hn)).2
  lia
 ·have hl:ax<5:=by
   have:=(Db.mp hn).1;rw[Vt h]at this;exact this
  have aD:∀b∈([8,9,10]:List Int),∀t∈[T0,T1,T2],∀i∈List.range 5,i<cnt b t->∀n∈t[i]?,n.1<=b-7:=by decide+kernel
  have pU:bits∈([8,9,10]:List Int):=by
   rcases(show bits=8\/bits=9\/bits=10 by lia)with rfl|rfl|rfl<;>decide
  have m7:t∈[T0,T1,T2]:=by rcases h with rfl|rfl|⟨rfl,_⟩<;>simp
  exact aD bits pU t m7 ax (DZ.mpr hl) ha n hn
theorem q0I(h:Tbl bits t)(m0:0<=mask)(m1:mask<16):(t.map (xm mask)).Pairwise Disj:=by
 have aD:∀k∈List.range 16,∀t∈[T0,T1,T2],(t.map (xm (k:Int))).Pairwise λa b=>a.2 % 2^(min a.1.toNat b.1.toNat)≠b.2 % 2^(min a.1.toNat b.1.toNat):=by decide+kernel
 obtain⟨k,rfl⟩:∃k:Nat,mask=(k:Int):=⟨mask.toNat,by lia⟩;have m7:t∈[T0,T1,T2]:=by rcases h with rfl|rfl|⟨rfl,_⟩<;>simp
 exact(aD k (DZ.mpr (by lia)) t m7).imp λh=>QJ h
def four:List Str:=["small","far","pair","one"]
theorem Gm{k:Str}(h:k ≠ "sign"):need k<=3:=by unfold need;rw[Uh h];split<;>(try split)<;>decide
theorem kH:∀{os:List Str}{t:List Nd},os.length=t.length->(List.zipWith (fm mask) os t).map (·.2)=t.map (xm mask)
 | [], [],_=>rfl
 |o::os,n::t,h=>by
  have:=kH (mask:=mask) (os:=os) (t:=t) (by simpa using h);simp only[BD,Dx,this];rfl
theorem kI:∀{os:List Str}{t:List Nd},os.length=t.length->(List.zipWith (fm mask) os t).map (·.1)=os
 | [], [],_=>rfl
 |o::os,n::t,h=>by
  have:=kI (mask:=mask) (os:=os) (t:=t) (by simpa using h);simp only[BD,Dx,this];rfl
theorem Yp{ks:List Str}(hb:8<=bits/\bits<=32)(h:Tbl bits t)(m0:0<=mask)(m1:mask<16)(hk:ks.Perm four)(ha:ax<cnt bits t)(nj:ax<=4):
  Right bits (List.zipWith (fm mask) (ks.take ax++(["sign"]:List Str)++ks.drop ax) t):=by
 have pW:ks.length=4:=hk.length_eq;have m8:(ks.take ax++(["sign"]:List Str)++ks.drop ax).length=t.length:=by
  rw[Vt h];simp only[Dg,DM,Ri,Dj,DR];lia
 have cP:∀k∈ks,k ≠ "sign" := λk m9=>by
  have:k∈four:=hk.mem_iff.mp m9;intro e;subst e;exact absurd this (by decide+kernel)
 have ee:∀m∈List.zipWith (fm mask) (ks.take ax++(["sign"]:List Str)++ks.drop ax) t,∃i o n,(ks.take ax++(["sign"]:List Str)++ks.drop ax)[i]?=some o/\t[i]?=some n/\m=fm mask o n:=λm hm=>by
  obtain⟨i,hi⟩:=BM.mp hm;rw[List.getElem?_zipWith_eq_some]at hi;obtain⟨o,n,h1,h2,h3⟩:=hi;exact⟨i,o,n,h1,h2,h3.symm⟩
 refine⟨hb,?_,?_,λm hm=>?_,λm hm=>?_,?_⟩
 ·rw[List.length_zipWith,m8,qbp,Vt h]
 ·rw[kI m8]
  have p1:(ks.take ax++(["sign"]:List Str)++ks.drop ax).Perm ("sign" :: (ks.take ax++ks.drop ax)):=by
   rw[DF];exact List.perm_middle
  rw[BN]at p1;exact p1.trans ((List.Perm.cons _ hk).trans (by decide+kernel))
 ·obtain⟨i,o,n,h1,h2,rfl⟩:=ee m hm
  have hw:=q5D h n (De h2);show 1<=n.1/\n.1<=bits-need o;by_cases ho:o = "sign"
  ·have hi:i=ax:=by
    have hl:(ks.take ax).length=ax:=by simp;lia
    rcases Nat.lt_trichotomy i ax with z|z|z
    ·rw[DF,Df (by lia)]at h1
     have:o∈ks:=Ro (De h1);exact absurd ho (cP o this)
    ·exact z
    ·rw[Dk (by simp;lia)]at h1
     have:o∈ks:=R3 (De h1);exact absurd ho (cP o this)
   subst hi;have:=q23 hb.1 h ha h2;rw[ho];have e7:need "sign" = 7:=by decide+kernel
   rw[e7];lia
  ·have:=Gm ho
   lia
 ·obtain⟨i,o,n,h1,h2,rfl⟩:=ee m hm
  exact⟨D2 _ (Bi (qX _)),DU _ (qX _)⟩
 ·have:=q0I h m0 m1
  rw[<-kH m8,Bu]at this;exact this
def L0:List Str:=["small","far","pair","one"]
def L1:List Str:=["far","one","small","pair"]
def rot(L:List Str)(α:Nat):List Str:=((L++L).drop α).take 4
theorem q16(h:L=L0\/L=L1)(ha:α<4):(rot L α).Perm four:=by
 have aD:∀L∈[L0,L1],∀α∈List.range 4,(rot L α).Perm four:=by decide+kernel
 exact aD L (by rcases h with rfl|rfl<;>simp) α (DZ.mpr ha)
structure LInv(bits:Int)(KS:List Str)(i:Nat)(ns:List Nd)(ms:List Mk3):Prop where
 ok:∀n∈ns,NdOk n
 low:∃n∈ns,n.1<=i
 len:ns.length<=1+31*i
 kinds:ms.map (·.1)=KS.take i
 w:∀m∈ms,1<=m.2.1/\m.2.1<=bits-need m.1
 p:∀m∈ms,NdOk m.2
 d:(ns++ms.map (·.2)).Pairwise Disj
structure WInv(i:Nat)(w0:Int)(c:Nd)(ns:List Nd)(ms:List Mk3):Prop where
 cok:NdOk c
 w:w0<=c.1
 ok:∀n∈ns,NdOk n
 low:(∃n∈ns,n.1<=i+1)\/(c.1=w0/\w0<=i)
 len:(ns.length:Int)<=31*i+c.1
 d:(c::(ns++ms.map (·.2))).Pairwise Disj
theorem LInv.pick(h:LInv bits KS i ns ms)(hj:ns[j]?=some n):WInv i n.1 n (ns.eraseIdx j) ms:=by
 have hp:=Vd hj;have hn:n∈ns:=De hj;have hl:=hp.length_eq;have:=h.len;have hok:=h.ok n hn;refine⟨hok,qbw _,λm hm=>h.ok m (List.mem_of_mem_eraseIdx hm),?_,?_,?_⟩
 ·obtain⟨m,hm,hw⟩:=h.low
  rcases Dr.mp (hp.mem_iff.mp hm)with rfl|z
  ·exact .inr ⟨rfl,hw⟩
  ·exact .inl ⟨m,z,by lia⟩
 ·have:=hok.1
  simp only[Dj]at hl;lia
 ·exact((hp.append_right (ms.map (·.2))).pairwise_iff λh=>h.symm).mp h.d
theorem WInv.step(h:WInv i w0 c ns ms)(hs:s=0\/s=1)(m6:c.1<=59):WInv i w0 (zL c s) (ns++[zL c (1-s)]) ms:=by
 have lV:1-s=0\/1-s=1:=by lia
 obtain⟨dc,dr⟩:=DV.mp h.d;have cw:(zL c s).1=c.1+1:=rfl;refine⟨KG h.cok m6 hs,by rw[cw];have:=h.w;lia,λn hn=>?_,?_,?_,?_⟩
 ·rcases Dl.mp hn with z|z
  ·exact h.ok n z
  ·rw[Do.mp z];exact KG h.cok m6 lV
 ·rcases h.low with⟨n,hn,hw⟩|⟨e,hw⟩
  ·exact .inl ⟨n,Dp _ hn,hw⟩
  ·exact .inl ⟨zL c (1-s),Dt _ (Do.mpr rfl),by show c.1+1<=_;lia⟩
 ·have:=h.len
  rw[cw,Dg,D5];push_cast;lia
 ·have p1:(zL c s::(ns++[zL c (1-s)]++ms.map (·.2))).Perm (zL c s::zL c (1-s)::(ns++ms.map (·.2))):=by
   refine List.Perm.cons _ ?_;rw[DF];exact List.perm_middle
  refine(p1.pairwise_iff λh=>h.symm).mpr ?_;refine DV.mpr ⟨λn hn=>?_,DV.mpr ⟨λn hn=>Vn h.cok (dc n hn),dr⟩⟩;rcases Dr.mp hn with rfl|z
  ·exact qaF (by lia)
  ·exact Vn h.cok (dc n z)
theorem WInv.fin(h:WInv i w0 c ns ms)(h0:LInv bits KS i ns0 ms)(hk:KS[i]?=some kind)(hg:c.1=goal)(hw:w0<goal)(h1:1<=goal)(h2:goal<=bits-need kind)(h31:goal<=31):
  LInv bits KS (i+1) ns (ms++[(kind,c)]):=by
 have hl:=h.len;refine⟨h.ok,?_,?_,?_,λm hm=>?_,λm hm=>?_,?_⟩
 ·rcases h.low with⟨n,hn,pX⟩|⟨e,_⟩
  ·exact⟨n,hn,by push_cast;exact pX⟩
  ·lia
 ·lia
 ·rw[Ds,h0.kinds,vg hk];rfl
 ·rcases Dl.mp hm with z|z
  ·exact h0.w m z
  ·rw[Do.mp z];exact⟨by show 1<=c.1;lia,by show c.1<=bits-need kind;lia⟩
 ·rcases Dl.mp hm with z|z
  ·exact h0.p m z
  ·rw[Do.mp z];exact h.cok
 ·rw[Ds, <-DF]
  have p1:(ns++ms.map (·.2)++[c]).Perm (c::(ns++ms.map (·.2))):=BO;exact(p1.pairwise_iff λh=>h.symm).mpr h.d
theorem LInv.right(h:LInv bits KS 5 ns ms)(hK:KS.Perm QF)(hb:8<=bits/\bits<=32):Right bits ms:=by
 have hl:KS.length=5:=hK.length_eq;have hk:ms.map (·.1)=KS:=by rw[h.kinds,RP (by lia)]
 refine⟨hb,?_,by rw[hk];exact hK,h.w,λm hm=>⟨(h.p m hm).2.2.1,(h.p m hm).2.2.2⟩,?_⟩
 ·have:=Uo List.length hk
  rw[Dd,hl]at this;exact this
 ·have:=(RD.mp h.d).2.1
  rw[Bu]at this;exact this
theorem q8z{α i:Nat}(hb:8<=bits)(hp:(rot L α).Perm four)(hk:(("sign" : Str)::rot L α)[i]?=some kind):(i:Int)<bits-need kind/\kind∈QF/\i<5:=by
 have hl:(rot L α).length=4:=hp.length_eq;cases i with
 |zero=>
  simp at hk;subst hk;have e7:need "sign" = 7:=by decide+kernel
  rw[e7];exact⟨by lia,by decide+kernel,by lia⟩
 |succ i=>
  simp at hk;have hm:kind∈four:=hp.mem_iff.mp (De hk);have hi:=(Db.mp hk).1;have cP:kind ≠ "sign" := λe=>by subst e;exact absurd hm (by decide+kernel)
  have:=Gm cP;have sub:∀k∈four,k∈QF:=by decide+kernel
  exact⟨by push_cast;lia,sub kind hm,by lia⟩
theorem Kr{α:Type}[DecidableEq α]:∀{l:List α}{x:α},x∈l->∃j:Nat,l[j]?=some x/\∀m:Nat,m<j->l[m]?≠some x
 | [],_,h=>by cases h
 |y::l,x,h=>by
  by_cases e:y=x
  ·exact⟨0,by simp[e],λm hm=>by lia⟩
  ·have:x∈l:=by
    rcases Dr.mp h with z|z
    ·exact absurd z.symm e
    ·exact z
   obtain⟨j,h1,h2⟩:=Kr this;refine⟨j+1,by simpa using h1,λm hm=>?_⟩;cases m with
   |zero=>simpa using e
   |succ m=>simpa using h2 m (by lia)
theorem OfKind.mem(h:OfKind ms kind m):m∈ms:=by
 obtain⟨rest,e⟩:=h;have:m∈ms.filter (λm=>decide (m.1=kind)):=by rw[e];exact DH
 exact(Dz.mp this).1
theorem OfKind.is(h:OfKind ms kind m):m.1=kind:=by
 obtain⟨rest,e⟩:=h;have:m∈ms.filter (λm=>decide (m.1=kind)):=by rw[e];exact DH
 exact Us (Dz.mp this).2
def Q5(m:Mk3):T:=.tup [.str m.1,.int m.2.1,.int m.2.2]
def layT(bits:Int)(ms:List Mk3):T:=.tup [.int bits,.lst (ms.map Q5)]
def ndT(n:Nd):T:=.tup [.int n.1,.int n.2]
def XT(ks:List Str):T:=.lst (ks.map T.str)
theorem Kx{α:Type}{f:α->T}{xs:List α}{a b:Nat}(h1:a<=b)(h2:b<=xs.length):cutT (xs.map f) (some (a:Int)) (some (b:Int))=((xs.drop a).take (b-a)).map f:=by
 unfold cutT;have e1:HT.sIx (xs.map f).length 0 (some (a:Int))=min a (xs.map f).length:=HT.sIx_nat _ _ a;have e2:HT.sIx (xs.map f).length (xs.map f).length (some (b:Int))=min b (xs.map f).length:=HT.sIx_nat _ _ b;rw[e1,e2];simp only[Dd];rw[Rq (show a<=xs.length by lia),Rq h2,qbi,qbj]
theorem Xw{α:Type}{f:α->T}{xs:List α}{a:Nat}(h:a<=xs.length):cutT (xs.map f) none (some (a:Int))=(xs.take a).map f:=by
 unfold cutT;have e1:HT.sIx (xs.map f).length 0 none=0:=rfl;have e2:HT.sIx (xs.map f).length (xs.map f).length (some (a:Int))=min a (xs.map f).length:=HT.sIx_nat _ _ a;rw[e1,e2];simp only[Dd,Bl,qbr,Rq h,qbi]
theorem Xx{α:Type}{f:α->T}{xs:List α}{a:Nat}(h:a<=xs.length):cutT (xs.map f) (some (a:Int)) none=(xs.drop a).map f:=by
 unfold cutT;have e1:HT.sIx (xs.map f).length 0 (some (a:Int))=min a (xs.map f).length:=HT.sIx_nat _ _ a;have e2:HT.sIx (xs.map f).length (xs.map f).length none=(xs.map f).length:=rfl;rw[e1,e2];simp only[Dd,Rq h];rw[RP (by simp),qbj]
theorem atT{α:Type}{f:α->T}{xs:List α}{i:Nat}{x:α}(h:xs[i]?=some x):atI (xs.map f) (i:Int)=some (f x):=vK (by rw[Dv,h];rfl)
abbrev xX:Stmt:=top 54
theorem scFullLaying:q00 ["bag","bits","order","rows","some","mask","at"] ["bag","bits","order"] (qc xX):=by ac_rfl
theorem V4:(["bag","bits","order","rows","some","mask","at","one"]:List Str).Nodup:=by decide+kernel
theorem V3:(["bag","bits","order","rows","some","mask","at","k"]:List Str).Nodup:=by decide+kernel
def q76:List U->MM->UK->Prop:=λus M Q=>∃(k:Nat)(o:MO)(bits:Int)(ks:List Str),us=[.m k,.p (.int bits),.p (XT ks)]/\M[k]?=some o/\BagO o/\ks.Perm four/\(8<=bits/\bits<=32)/\∀(o':MO)(ms:List Mk3),BagO o'->Right bits ms->Q (.p (layT bits ms)) (M.set k o')
theorem q1L(F:Fun Ξ "_law_full_laying" "_law_full_laying" xX f fd)(N:Nms mg)(ap:Def P w Ξ mg base "_law_draw" 1 ["bag","many"] (spU JD)):FnOk P w Ξ mg base CX0 2 f fd ["bag","bits","order"] (spU q76):=by
 refine F.zV scFullLaying (by rintro _ _ _ ⟨_,_,_,_,rfl,_⟩;rfl) (λa9 A outer s H E hr=>?_);refine⟨_,(qb (qi (i:=3) scFullLaying.nd rfl GC (qw (qa2 (qw (qa_c (qA (qa2 qa qa)) (qa4 (qA (qa2 qa qa)) (qA (qa2 qa qa)) (qA (qa2 qa qa)) (qA (qa2 qa qa))))) (qw (qa_c (qA (qa2 qa qa)) (qa4 (qA (qa2 qa qa)) (qA (qa2 qa qa)) (qA (qa2 qa qa)) (qA (qa2 qa qa)))))))) (qb (vq (Q1 PySem.F.slot_list_append PySem.F.type_list_append zt qv3 (qa1 (qw (qa_c (qA (qa2 qa qa)) (qa4 (qA (qa2 qa qa)) (qA (qa2 qa qa)) (qA (qa2 qa qa)) (qA (qa2 qa qa)))))))) (qb (qi (i:=4) scFullLaying.nd rfl GD (qr (Ub Ξ) qv3 (qg ap (WE hr) (qa2 qv0 (ql qL qa (qT qaU (by rfl) N.int q3T (qa1 (xn q8o qv1 qa (qt _))))))) (λ_ _=>rfl))) (qb (qi (i:=5) scFullLaying.nd rfl GD (qg ap (WE hr) (qa2 qv0 qa))) (qb (qi (i:=6) scFullLaying.nd rfl GC (qg ap (WE hr) (qa2 qv0 (qx vJ (by rfl) N.len Q6 (qa1 (ZQ [false,true,false,false,false,false,false] ["one"] (vA (Ξ:=Ξ) rfl qv4) (λ_ _ _=>(vi (i:=7) V4 rfl GC)) (λ_ _ _=>jR (qh q6U (qr (Uc Ξ) qv7 qa (λ_ _=>rfl)) (ql vB qv1 qa) (qt _))) (λ_ _ _=>qv7))))))) (qb (qi (i:=2) scFullLaying.nd rfl GD (ql j9 (ql j9 (vc (Ua Ξ) qv2 v6 (qY qv6)) (qw (qa1 qe))) (vc (Ua Ξ) qv2 (qY qv6) v6))) (qd (qp (qA (qa2 qv1 (ZQ [false,false,true,false,true,true,false] ["k"] (zl rfl N.range (qa1 qa)) (λ_ _ _=>(vi (i:=7) V3 rfl GC)) (λ_ _ _=>Qe) (λ_ _ _=>(qA (qa3 (qr (Ub Ξ) qv2 qv7 (λ_ _=>rfl)) (qr (Uc Ξ) (qr (Ub Ξ) qv4 qv7 (λ_ _=>rfl)) qa (λ_ _=>rfl)) (ql zp (ql q8h (qr (Uc Ξ) (qr (Ub Ξ) qv4 qv7 (λ_ _=>rfl)) qa (λ_ _=>rfl)) qv5) (ql zo qa (qr (Uc Ξ) (qr (Ub Ξ) qv4 qv7 (λ_ _=>rfl)) qa (λ_ _=>rfl)))))))))))))))))),_,(qk (vf (QN (by right)) (qH 3)) (qk (by right) (qk (vf (qaK (qm 3) (vW (qo (qm 0) (qo (zW (by right) (by right) (qaP q4T (by right))) qU)))) (qH 4)) (by right)))),λus M M1 Qu e1 h=>?_⟩;obtain⟨k,o,bits,ks,rfl,em,hB,hk,hb,post⟩:=h;obtain⟨c8,eM⟩:=kG em;rw[e1.trans eM];nofun;refine⟨by show 2<sizeLine;decide,?_⟩;have hmany:(2:Int)<=2+(if 8<bits then 1 else 0)/\(2:Int)+(if 8<bits then 1 else 0)<=3:=by split<;>lia
 refine vk c8 hB (by lia) (log2_lt (by lia) (by lia)) λd o1 d0 d1 B1=>?_;have ij:∃t,atI [U.p (.lst (T0.map ndT)),.p (.lst (T1.map ndT)),.p (.lst (T2.map ndT))] d=some (.p (.lst (t.map ndT)))/\Tbl bits t:=by
  rcases(show d=0\/d=1\/d=2 by lia)with rfl|rfl|rfl
  ·exact⟨T0,rfl,.inl rfl⟩
  ·exact⟨T1,rfl,.inr (.inl rfl)⟩
  ·exact⟨T2,rfl,.inr (.inr ⟨rfl,by split at d1<;>lia⟩)⟩
 obtain⟨t,fR,hT⟩:=ij;refine Jw (by simp only[qQ,MB_get];rfl) fR ?_;refine vk c8 B1 (by decide) (by decide) λmask o2 m0 m1 B2=>?_;have nk:=Vt hT;nofun;refine vX (by rw[Dd,nk];decide) (λi a8 M'=>M'=MB M k o2 [MO.lst [U.p (.lst (T0.map ndT)),.p (.lst (T1.map ndT)),.p (.lst (T2.map ndT))]]/\a8=((t.take i).filter λn=>decide (n.1<=bits-7)).map ndT) ⟨rfl,rfl⟩ ?_ ?_
 ·rintro i x a8 M' hx _ ⟨rfl,rfl⟩
  obtain⟨n,hn,rfl⟩:∃n,t[i]?=some n/\x=ndT n:=by
   rw[Dv]at hx;cases e:t[i]? with
   |none=>rw[e]at hx;cases hx
   |some n=>rw[e]at hx;cases hx;exact⟨n,rfl,rfl⟩
  nofun;rw[vg hn,D8,Ds];refine ite2 (λhh=>?_) (λhh=>?_)<;>simp[hh]
 ·rintro a8 M' ⟨rfl,rfl⟩
  rw[Dd,DO];nofun;have gr:(((t.filter λn=>decide (n.1<=bits-7)).map ndT).length:Int)=(cnt bits t:Int):=by rw[Dd];rfl
  rw[gr];have hcp:=q4K hb.1 hT;have hc5:cnt bits t<=5:=by
   have:=RA (λn:Nd=>decide (n.1<=bits-7)) t;rw[nk]at this;exact this
  refine vk c8 B2 (by lia) (log2_lt (by lia) (by lia)) λα o3 α0 α1 B3=>?_;obtain⟨ax,rfl⟩:∃j:Nat,α=(j:Int):=⟨α.toNat,by lia⟩;have pW:ks.length=4:=hk.length_eq;have nj:ax<=4:=by lia
  unfold XT;nofun;rw[Xw (by lia),Xx (by lia)];have dj:=Yp (mask:=mask) hb hT m0 m1 hk (by lia) nj;have mR:(ks.take ax++(["sign"]:List Str)++ks.drop ax).length=5:=by simp;lia
  have m3:(ks.take ax).map T.str++[T.str "sign"]++(ks.drop ax).map T.str=(ks.take ax++(["sign"]:List Str)++ks.drop ax).map T.str:=by simp
  refine⟨by simp;exact DT (qW (by lia)),by simp;exact DT (qW (by lia)),Qb (by decide) (by decide) ?_⟩;rw[m3];generalize ks.take ax++(["sign"]:List Str)++ks.drop ax=os at dj mR ⊢;refine kM (by decide) (λi a8 M'=>M'=MB M k o3 [MO.lst [U.p (.lst (T0.map ndT)),.p (.lst (T1.map ndT)),.p (.lst (T2.map ndT))]]/\a8=((List.zipWith (fm mask) os t).take i).map Q5) ⟨rfl,rfl⟩ ?_ ?_
  ·rintro i a8 M' hi _ ⟨rfl,rfl⟩
   have pY:i<5:=hi;have nq:os[i]?=some (os[i]'(by lia)):=Dc _;have ik:t[i]?=some (t[i]'(by lia)):=Dc _;have hw:=q5D hT _ (De ik);have hz:(List.zipWith (fm mask) os t)[i]?=some (fm mask (os[i]'(by lia)) (t[i]'(by lia))):=by
    rw[List.getElem?_zipWith,nq,ik]
   nofun;refine qB (atT nq) ?_;refine qB (atT ik) ?_;nofun;refine qB (atT ik) ?_;nofun;refine qB (atT ik) ?_;nofun;refine⟨⟨by lia,by lia,by decide⟩,?_,?_⟩
   ·rw[DX];exact qX _
   ·rw[vg hz,Ds,DX]
    rfl
  ·rintro a8 M' ⟨rfl,rfl⟩
   have e5:(Int.toNat 5)=(List.zipWith (fm mask) os t).length:=by rw[dj.n]<;>rfl
   rw[e5,DO];nofun;refine⟨j3 B3.pur,?_⟩;rw[j4];exact post o3 _ B3 dj
abbrev Jc:Stmt:=top 55
theorem scLaying:q00 ["bag","bits","kinds","at","most","free","marks","kind","some","width","pattern","goal","side","turn"] ["bag"] (qc Jc):=by ac_rfl
theorem Gn:(["bag","bits","kinds","at","most","free","marks","kind","some","width","pattern","goal","side","turn","node"]:List Str).Nodup:=by decide+kernel
def G4:List U->MM->UK->Prop:=λus M Q=>∃(k:Nat)(o:MO),us=[.m k]/\M[k]?=some o/\BagO o/\∀(o':MO)(bits:Int)(ms:List Mk3),BagO o'->Right bits ms->Q (.p (layT bits ms)) (M.set k o')
abbrev Z5(bits:Int):List (Key×U):=[(.inr "sign",.p (.int (bits-7))),(.inr "small",.p (.int (bits-2))),(.inr "one",.p (.int (bits-2))),(.inr "far",.p (.int (bits-3))),(.inr "pair",.p (.int (bits-3)))]
theorem Gr(h:kind∈QF):valU (xM [] (Z5 bits)) (.inr kind)=some (.p (.int (bits-need kind))):=by
 have e:xM [] (Z5 bits)=Z5 bits:=rfl;rw[e];have h':kind = "small" \/ kind = "far" \/ kind = "pair" \/ kind = "sign" \/ kind = "one" := by simpa[QF]using h
 rcases h' with rfl|rfl|rfl|rfl|rfl<;>rfl
theorem q7P:EqT (n+1) (ndT a) (ndT b) (decide (a=b)):=by
 have h:=EqT.tup (n:=n) (xs:=[.int a.1,.int a.2]) (ys:=[.int b.1,.int b.2]) (e:=λj=>if j=0 then decide (a.1=b.1) else decide (a.2=b.2)) (λj x y hx hy=>by
  match j,hx,hy with
  |0,hx,hy=>
   cases hx;cases hy;have:=EqT.flat (n:=n) (a:=.int a.1) (b:=.int b.1) rfl rfl;rw[show eqV (.int a.1) (.int b.1)=decide (a.1=b.1) by simp[eqV,BP]]at this;exact this
  |1,hx,hy=>
   cases hx;cases hy;have:=EqT.flat (n:=n) (a:=.int a.2) (b:=.int b.2) rfl rfl;rw[show eqV (.int a.2) (.int b.2)=decide (a.2=b.2) by simp[eqV,BP]]at this;exact this
  |j+2,hx,_=>cases hx)
 have e:((List.range (min [T.int a.1,T.int a.2].length [T.int b.1,T.int b.2].length)).all (λj=>if j=0 then decide (a.1=b.1) else decide (a.2=b.2))&&[T.int a.1,T.int a.2].length==[T.int b.1,T.int b.2].length)=decide (a=b):=by
  obtain⟨a1,a2⟩:=a;obtain⟨b1,b2⟩:=b;simp[Ba]
 rw[e]at h;exact h
theorem K5(F:Fun Ξ "_law_laying" "_law_laying" Jc f fd)(N:Nms mg)(ap:Def P w Ξ mg base "_law_draw" 1 ["bag","many"] (spU JD))(bn:Def P w Ξ mg base "_law_full_laying" 2 ["bag","bits","order"] (spU q76)):FnOk P w Ξ mg base CX0 3 f fd ["bag"] (spU G4):=by
 refine F.zV scLaying (by rintro _ _ _ ⟨_,_,rfl,_⟩;rfl) (λa9 A outer s H E hr=>?_);refine⟨_,(qb (qi (i:=1) scLaying.nd rfl GC (qr (Ub Ξ) (qw (qa_c qa (qa_c qa (qa_c qa (qa_c qa (qa4 qa qa qa (ql qL qa (qg ap (WE hr) (qa2 qv0 qa))))))))) (qg ap (WE hr) (qa2 qv0 qa)) (λ_ _=>rfl))) (qb (qi (i:=2) scLaying.nd rfl GC (ql WV (qr (Ub Ξ) (qw (qa2 (qw (qa4 qe qe qe qe)) (qw (qa4 qe qe qe qe)))) (qg ap (WE hr) (qa2 qv0 qa)) (λ_ _=>rfl)) qa)) (qb (qi (i:=3) scLaying.nd rfl GC (qg ap (WE hr) (qa2 qv0 qa))) (qb (vp (qh op_eq (qg ap (WE hr) (qa2 qv0 qa)) qa (qt _)) (qd (qp (qg bn (WE hr) (qa3 qv0 qv1 (vc (Ua Ξ) qv2 (qY qv3) (qY (ql qL qv3 qa))))))) qJ) (qb (qi (i:=4) scLaying.nd rfl GD (q47 (jk qe (ql vB qv1 qa) (jk qe (ql vB qv1 qa) (jk qe (ql vB qv1 qa) (jk qe (ql vB qv1 qa) (jk qe (ql vB qv1 qa) q5i))))) rfl rfl (λz=>nomatch z) (by decide))) (qb (qi (i:=5) scLaying.nd rfl GC (qw (qa1 (qA (qa2 qa qa))))) (qb (qi (i:=6) scLaying.nd rfl GC (qw v7)) (qb (xL PassesOwn.never rfl (vA (Ξ:=Ξ) rfl (ql j9 (qw (qa1 qe)) (vc (Ua Ξ) qv2 (qY qv3) (qY (ql qL qv3 qa))))) (vi (i:=7) scLaying.nd rfl GD) (qb (q7b (i:=8) [false,false,false,false,true,false,false,true,false,false,false,false,false,false] ["node"] scLaying.nd rfl rfl (vA (Ξ:=Ξ) rfl qv5) (λ_ _ _=>(vi (i:=14) Gn rfl GC)) (λ_ _ _=>jR (qh Q2 (qr (Uc Ξ) (qv 14) qa (λ_ _=>rfl)) (Ji (Jy hr) qv4 qv7 (λ_ _=>rfl)) (qt _))) (λ_ _ _=>(qv 14))) (qb (zd (qr (Ub Ξ) (qv 8) (qg ap (WE hr) (qa2 qv0 (qx vJ (by rfl) N.len Q6 (qa1 (qv 8))))) (λ_ _=>rfl)) (q2y (Ξ:=Ξ) (i:=9) (j:=10) rfl scLaying.nd rfl rfl rfl GC GC GC GC)) (qb (vq (Q1 PySem.F.slot_list_remove PySem.F.type_list_remove (K9 (Ξ:=Ξ) rfl hr.units) qv5 (qa1 (qA (qa2 (qv 9) (qv 10)))))) (qb (qi (i:=11) scLaying.nd rfl GC (qx (qaT rfl) (by rfl) N.min q3E (qa2 (Ji (Jy hr) qv4 qv7 (λ_ _=>rfl)) (ql qL (qv 9) (qr (Ub Ξ) (qw (qa_c qa (qa4 qa qa qa (ql qL qa (qg ap (WE hr) (qa2 qv0 qa)))))) (qg ap (WE hr) (qa2 qv0 qa)) (λ_ _=>rfl)))))) (qb (VT PassesOwn.never (qh Q2 (qv 9) qv11 (qt _)) (qb (qi (i:=12) scLaying.nd rfl GC (qg ap (WE hr) (qa2 qv0 qa))) (qb (vq (Q1 PySem.F.slot_list_append PySem.F.type_list_append zt qv5 (qa1 (qA (qa2 (ql qL (qv 9) qa) (ql qL (qv 10) (ql zo (ql vB qa (qv 12)) (qv 9)))))))) (qb (qi (i:=10) scLaying.nd rfl GC (ql qL (qv 10) (ql zo (qv 12) (qv 9)))) (qd (qi (i:=9) scLaying.nd rfl GC (ql qL (qv 9) qa))))))) (qd (vq (Q1 PySem.F.slot_list_append PySem.F.type_list_append zt qv6 (qa1 (qA (qa3 qv7 (qv 9) (qv 10))))))))))))) (qb (qi (i:=13) scLaying.nd rfl GC (qg ap (WE hr) (qa2 qv0 qa))) (qd (qp (qA (qa2 qv1 (ql j9 (vc (Ua Ξ) qv6 (qY (qv 13)) v6) (vc (Ua Ξ) qv6 v6 (qY (qv 13))))))))))))))))),_,(qk (by right) (qk (by right) (qk (by right) (qk (by right) (qk (vf (q55 (QL (ce_c (.str _)) (zW (zR λ_ _=>.int _) (qm 1) WF) (QL (ce_c (.str _)) (zW (zR λ_ _=>.int _) (qm 1) WF) (QL (ce_c (.str _)) (zW (zR λ_ _=>.int _) (qm 1) WF) (QL (ce_c (.str _)) (zW (zR λ_ _=>.int _) (qm 1) WF) (QL (ce_c (.str _)) (zW (zR λ_ _=>.int _) (qm 1) WF) q7n)))))) (qH 4)) (qk (vf (QN (by right)) (qH 5)) (qk (vf (QN qU) (qH 6)) (qk (Vm (by right) (qH 7) (qk (by right) (qk (by right) (qk (qaA (q8e Yb (qm 5) (by right))) (by right))))) (by right))))))))),λus M M1 Qu e1 h=>?_⟩;obtain⟨k,o,rfl,em,hB,post⟩:=h;obtain⟨c8,eM⟩:=kG em;rw[e1.trans eM];nofun;refine vk c8 hB (by decide) (by decide) λe o1 e0 e1 B1=>?_;nofun;refine vk c8 B1 (by decide) (by decide) λd o2 d0 d1 B2=>?_;have il:∃bits:Int,atI [T.int 8,.int 9,.int 10,.int 12,.int 16,.int 24,.int 32,.int (8+e)] d=some (.int bits)/\8<=bits/\bits<=32:=by
  rcases(show d=0\/d=1\/d=2\/d=3\/d=4\/d=5\/d=6\/d=7 by lia)with rfl|rfl|rfl|rfl|rfl|rfl|rfl|rfl
  ·exact⟨_,rfl,by decide,by decide⟩
  ·exact⟨_,rfl,by decide,by decide⟩
  ·exact⟨_,rfl,by decide,by decide⟩
  ·exact⟨_,rfl,by decide,by decide⟩
  ·exact⟨_,rfl,by decide,by decide⟩
  ·exact⟨_,rfl,by decide,by decide⟩
  ·exact⟨_,rfl,by decide,by decide⟩
  ·exact⟨_,rfl,by lia,by lia⟩
 obtain⟨bits,pZ,i4,ma⟩:=il;refine qB pZ ?_;nofun;refine vk c8 B2 (by decide) (by decide) λd2 o3 nr md B3=>?_;obtain⟨L,me,hL⟩:∃L,atI [XT L0,XT L1] d2=some (XT L)/\(L=L0\/L=L1):=by
  rcases(show d2=0\/d2=1 by lia)with rfl|rfl
  ·exact⟨L0,rfl,.inl rfl⟩
  ·exact⟨L1,rfl,.inr rfl⟩
 refine qB me ?_;nofun;have hL8:(L++L).length=8:=by rcases hL with rfl|rfl<;>rfl
 refine⟨L.map T.str,2,rfl,rfl,by decide,by decide,(by rcases hL with rfl|rfl<;>(show 4*2<=sizeLine;decide)),?_⟩;have im:(List.replicate (2:Int).toNat (L.map T.str)).flatten=(L++L).map T.str:=by rcases hL with rfl|rfl<;>rfl
 rw[im];refine vk c8 B3 (by decide) (by decide) λα o4 α0 α1 B4=>?_;obtain⟨ax,rfl⟩:∃j:Nat,α=(j:Int):=⟨α.toNat,by lia⟩;have ha:ax<4:=by lia
 have gA:=q16 (α:=ax) hL ha;have mh:(rot L ax).length=4:=gA.length_eq;have fZ:cutT ((L++L).map T.str) (some (ax:Int)) (some ((ax:Int)+4))=(rot L ax).map T.str:=by
  have e4:(ax:Int)+4=((ax+4:Nat):Int):=by lia
  rw[e4,Kx (by lia) (by lia),show ax+4-ax=4 by lia];rfl
 nofun;refine vk c8 B4 (by decide) (by decide) λd4 o5 nu ny B5=>?_;nofun;rw[fZ];refine ite2 (λ_=>?_) (λ_=>?_)
 ·refine⟨k,o5,bits,rot L ax,rfl,qa6 c8,B5,gA,⟨i4,ma⟩,λo6 ms B6 hR=>?_⟩
  rw[QU c8];nofun;refine⟨j3 B6.pur,?_⟩;rw[j4];exact post o6 bits ms B6 hR
 simp only[q7p];nofun;refine⟨Z5 bits,rfl,by show 5<=15;decide,?_⟩;refine⟨by simp[mh];exact DT (qW (by decide)),?_⟩;refine kL (ts:=((("sign" : Str)::rot L ax).map T.str)) (λi ρ M'=>∃(o:MO)(ns:List Nd)(ms:List Mk3)(x7 x8 x9 eA g5 dD dN:Option U),ρ=[some (.m k),some (.p (.int bits)),some (.p (.lst ((L++L).map T.str))),some (.p (.int ax)),some (.m (M.length+0)),some (.m (M.length+1)),some (.m (M.length+2)),x7,x8,x9,eA,g5,dD,dN]/\M'=MB M k o [.dK (xM [] (Z5 bits)),.lst ((ns.map ndT).map U.p),.lst ((ms.map Q5).map U.p)]/\BagO o/\LInv bits (("sign" : Str)::rot L ax) i ns ms) ?_ ?_ ?_
 ·refine⟨o5, [(0,0)], [],_,_,_,_,_,_,_,rfl,rfl,B5,⟨?_,⟨(0,0),by simp,by decide⟩,by decide,rfl,(λ_ h=>nomatch h),(λ_ h=>nomatch h),by simp⟩⟩
  intro n hn;rw[Do.mp hn];exact⟨by decide,by decide,by decide,by decide⟩
 ·rintro i y ρ M' hi ⟨o,ns,ms,x7,x8,x9,eA,g5,dD,dN,rfl,rfl,B6,LI⟩
  obtain⟨kind,nz,rfl⟩:=q03 hi;obtain⟨hlow,r9,pY⟩:=q8z i4 gA nz;have io:=Gr (bits:=bits) r9;have hneed:=zI kind;have hnl:=LI.len;nofun;refine q5d (zj rfl) ?_;refine YC (by rw[Dd];exact DT (qW (by lia))) (λj a8 M2=>M2=MB M k o [.dK (xM [] (Z5 bits)),.lst ((ns.map ndT).map U.p),.lst ((ms.map Q5).map U.p)]/\a8=((ns.take j).filter λn=>decide (n.1<bits-need kind)).map ndT) ⟨rfl,rfl⟩ (λj a8 M2 zz=>by obtain⟨e,_⟩:=zz;rw[e];exact zj rfl) ?_ ?_
  ·rintro j y a8 M2 hj _ ⟨rfl,rfl⟩
   obtain⟨n,hn,rfl⟩:=q03 hj;nofun;refine Kw (zj rfl) io ?_;nofun;rw[vg hn,D8,Ds];refine ite2 (λhh=>?_) (λhh=>?_)<;>simp[hh]
  ·rintro a8 M2 ⟨rfl,rfl⟩
   rw[Dd,DO];generalize fM:(ns.filter λn=>decide (n.1<bits-need kind))=fs;have hpos:0<fs.length:=by
    obtain⟨n,hn,hw⟩:=LI.low;have:n∈fs:=by rw[<-fM];exact Dz.mpr ⟨hn,by simp;lia⟩
    exact RQ this
   have re:fs.length<=200:=by
    rw[<-fM];have:=RA (λn:Nd=>decide (n.1<bits-need kind)) ns;lia
   nofun;rw[Dd];refine vk c8 B6 (by lia) (log2_lt (by lia) (by lia)) λd o7 d0 d1 B7=>?_;obtain⟨jj,rfl⟩:∃j:Nat,d=(j:Int):=⟨d.toNat,by lia⟩;have mi:fs[jj]?=some (fs[jj]'(by lia)):=Dc _;generalize fs[jj]'(by lia)=n at mi;have mj:=Dz.mp (show n∈ns.filter λn=>decide (n.1<bits-need kind) by rw[fM];exact De mi);have hnw:n.1<bits-need kind:=by simpa using mj.2
   have ml:=LI.ok n mj.1;refine qB (atT mi) ?_;nofun;obtain⟨j,hj,rh⟩:=Kr mj.1;have rj:=(Db.mp hj).1;refine⟨ns.map ndT,ndT n,j,λm=>decide (ns[m]?=some n),rfl,rfl,by rw[Dd];exact rj,by simp[hj],λm hm=>by simp[rh m hm],λm z hm hz=>?_,?_⟩
   ·obtain⟨nm,rl,rfl⟩:=q03 hz
    have e9:decide (ns[m]?=some n)=decide (nm=n):=by
     rw[rl];by_cases e:nm=n<;>simp[e]
    show EqT 20 _ _ (decide (ns[m]?=some n));rw[e9];exact q7P
   have W0:=LI.pick hj;rw[<-Z7];nofun;refine Kw (zj rfl) io ?_;nofun;refine vk c8 B7 (by decide) (by decide) λe o8 e0 e1 B8=>?_;nofun;refine vk c8 B8 (by decide) (by decide) λd5 o9 rm rn B9=>?_;have mm:∃δ:Int,atI [T.int 1,.int 1,.int 2,.int 3,.int (1+e)] d5=some (.int δ)/\1<=δ/\δ<=30:=by
    rcases(show d5=0\/d5=1\/d5=2\/d5=3\/d5=4 by lia)with rfl|rfl|rfl|rfl|rfl
    ·exact⟨_,rfl,by decide,by decide⟩
    ·exact⟨_,rfl,by decide,by decide⟩
    ·exact⟨_,rfl,by decide,by decide⟩
    ·exact⟨_,rfl,by decide,by decide⟩
    ·exact⟨_,rfl,by lia,by lia⟩
   obtain⟨δ,rq,δ0,δ1⟩:=mm;refine qB rq ?_;nofun;obtain⟨g,rA,hg1,hg2⟩:∃g:Int,(if n.1+δ<bits-need kind then n.1+δ else bits-need kind)=g/\n.1<g/\g<=bits-need kind:=⟨_,rfl,by split<;>lia,by split<;>lia⟩;rw[rA];have hn0':=ml.1;refine⟨λm ρ M'=>∃(o:MO)(c:Nd)(fu:List Nd)(dD:Option U),m=(g-c.1).toNat/\ρ=[some (.m k),some (.p (.int bits)),some (.p (.lst ((L++L).map T.str))),some (.p (.int ax)),some (.m (M.length+0)),some (.m (M.length+1)),some (.m (M.length+2)),some (.p (.str kind)),some (.p (.lst (fs.map ndT))),some (.p (.int c.1)),some (.p (.int c.2)),some (.p (.int g)),dD,dN]/\M'=MB M k o [.dK (xM [] (Z5 bits)),.lst ((fu.map ndT).map U.p),.lst ((ms.map Q5).map U.p)]/\BagO o/\c.1<=g/\WInv i n.1 c fu ms,⟨_,o9,n,ns.eraseIdx j,_,rfl,rfl,rfl,B9,by lia,W0⟩,?_⟩;rintro m ρ M' ⟨nB,c,fu,y12,rfl,rfl,rfl,gB,hcg,WI⟩;have mq:=WI.cok;have iH:=WI.len;have hww:=WI.w;have hc0:=mq.1;nofun;refine ite2 (λbY=>?_) (λlK=>?_)
   ·refine⟨λrB iQ=>∃m',m'<(g-c.1).toNat/\∃(o:MO)(c:Nd)(fu:List Nd)(dD:Option U),m'=(g-c.1).toNat/\rB=[some (.m k),some (.p (.int bits)),some (.p (.lst ((L++L).map T.str))),some (.p (.int ax)),some (.m (M.length+0)),some (.m (M.length+1)),some (.m (M.length+2)),some (.p (.str kind)),some (.p (.lst (fs.map ndT))),some (.p (.int c.1)),some (.p (.int c.2)),some (.p (.int g)),dD,dN]/\iQ=MB M k o [.dK (xM [] (Z5 bits)),.lst ((fu.map ndT).map U.p),.lst ((ms.map Q5).map U.p)]/\BagO o/\c.1<=g/\WInv i n.1 c fu ms,λ_ _ h=>h,?_⟩
    nofun;refine vk c8 gB (by decide) (by decide) λsd rC s0 s1 rD=>?_;nofun;refine⟨⟨by lia,by lia,by lia⟩,?_⟩;nofun;refine⟨by rw[Dd,Dd];exact qW (by lia),?_⟩;refine⟨⟨by lia,by lia,by lia⟩,?_⟩;refine⟨(g-(c.1+1)).toNat,by lia,rC,zL c sd,fu++[zL c (1-sd)],_,rfl,rfl,?_,rD,by show c.1+1<=g;lia,WI.step (by lia) (by lia)⟩;rw[Ds,Ds];rfl
   ·have rE:c.1=g:=by lia
    nofun;have h2:=Uo List.length LI.kinds;rw[Dd,DM]at h2;refine⟨by rw[Dd,Dd];exact qW (by lia),?_⟩;refine⟨nB,fu,ms++[(kind,c)],_,_,_,_,_,_,_,rfl,?_,gB,WI.fin LI nz rE (by lia) (by lia) (by lia) (by lia)⟩;rw[Ds,Ds];rfl
 ·rintro ρ M' ⟨o,ns,ms,x7,x8,x9,eA,g5,dD,dN,rfl,rfl,B6,LI⟩
  have h5:((("sign" : Str)::rot L ax).map T.str).length=5:=by simp[mh]
  rw[h5]at LI;have rF:(("sign" : Str)::rot L ax).Perm QF:=(List.Perm.cons _ gA).trans (by decide+kernel);have hR:=LI.right rF ⟨i4,ma⟩;have mv:=hR.n;nofun;refine vk c8 B6 (by decide) (by decide) λtu o7 t0 t1 B7=>?_;obtain⟨tn,rfl⟩:∃j:Nat,tu=(j:Int):=⟨tu.toNat,by lia⟩;nofun;refine q33 (zj rfl) ?_;refine q33 (zj rfl) ?_;rw[Xx (by lia),Xw (by lia)];nofun;have pm:ms.Perm (ms.drop tn++ms.take tn):=by
   have:=BO (l₁:=ms.take tn) (l₂:=ms.drop tn);rw[BN]at this;exact this
  refine⟨by simp;exact DT (qW (by lia)),j3 B7.pur,?_⟩;rw[j4, <-Ds];exact post o7 bits _ B7 (hR.of_perm pm)
def q0j:List T->(T->Prop)->Prop:=λts Q=>∃(bits:Int)(ms:List Mk3)(kind:Str)(m:Mk3),ts=[layT bits ms,.str kind]/\ms.length<=900/\OfKind ms kind m/\Q (Q5 m)
def G3:List T->(T->Prop)->Prop:=λts Q=>∃(bits:Int)(ms:List Mk3)(kind:Str)(m:Mk3),ts=[layT bits ms,.str kind]/\ms.length<=900/\OfKind ms kind m/\Q (.int (bits-m.2.1))
abbrev VH:Stmt:=top 11
theorem Y8:q00 ["laying","kind"] ["laying","kind"] (qc VH):=by ac_rfl
theorem K7:(["laying","kind","mark"]:List Str).Nodup:=by decide+kernel
theorem ZZ(F:Fun Ξ "mark_for" "mark_for" VH f fd):FnOk P w Ξ mg base CX0 1 f fd ["laying","kind"] (spP q0j):=by
 refine F.zP Y8 (by rintro _ _ ⟨_,_,_,_,rfl,_⟩;rfl) (λa9 A outer s H E hr=>?_);refine⟨_,(qd (qp (qr (Ub Ξ) (ZQ [false,true] ["mark"] (vA (Ξ:=Ξ) rfl (qr (Uc Ξ) qv0 qa (λ_ _=>rfl))) (λ_ _ _=>(vi (i:=2) K7 rfl GC)) (λ_ _ _=>jR (qh op_eq (qr (Uc Ξ) qv2 qa (λ_ _=>rfl)) qv1 (qt _))) (λ_ _ _=>qv2)) qa (λ_ _=>rfl)))),_,(by right),λts Qt h=>?_⟩;obtain⟨bits,ms,kind,m,rfl,hl,⟨rest,hm⟩,q⟩:=h;nofun;refine vX (by rw[Dd];exact DT (qW (by lia))) (λi a8 M'=>M'=[]/\a8=((ms.take i).filter λm=>decide (m.1=kind)).map Q5) ⟨rfl,rfl⟩ ?_ ?_
 ·rintro i x a8 M' hx _ ⟨rfl,rfl⟩
  obtain⟨n,hn,rfl⟩:=q03 hx;nofun;rw[vg hn,D8,Ds];refine ite2 (λhh=>?_) (λhh=>?_)<;>simp[hh]
 ·rintro a8 M' ⟨rfl,rfl⟩
  rw[Dd,DO,hm];nofun;exact q
abbrev k8:Stmt:=top 12
theorem KY:q00 ["laying","kind"] ["laying","kind"] (qc k8):=by ac_rfl
theorem VZ(F:Fun Ξ "load_bits" "load_bits" k8 f fd)(aM:Def P w Ξ mg base "mark_for" 1 ["laying","kind"] (spP q0j)):FnOk P w Ξ mg base CX0 2 f fd ["laying","kind"] (spP G3):=by
 refine F.zP KY (by rintro _ _ ⟨_,_,_,_,rfl,_⟩;rfl) (λa9 A outer s H E hr=>?_);refine⟨_,(qd (qp (ql vB (qr (Uc Ξ) qv0 qa (λ_ _=>rfl)) (qr (Uc Ξ) (qg aM (WE hr) (qa2 qv0 qv1)) qa (λ_ _=>rfl))))),_,(by right),λts Qt h=>?_⟩;obtain⟨bits,ms,kind,m,rfl,hl,hm,q⟩:=h;nofun;refine⟨bits,ms,kind,m,rfl,hl,hm,?_⟩;nofun;exact q
abbrev VI:Stmt:=top 9
theorem Y9:q00 ["marks","word"] ["marks","word"] (qc VI):=by ac_rfl
theorem K8:(["marks","word","kind","width","pattern"]:List Str).Nodup:=by decide+kernel
def Kq:List T->(T->Prop)->Prop:=λts Q=>∃(ms:List Mk3)(word:Int),ts=[.lst (ms.map Q5),.int word]/\Wd ms/\ms.length<=900/\Q (XT ((ms.filter (on word)).map (·.1)))
theorem Z0(F:Fun Ξ "kinds_on" "kinds_on" VI f fd):FnOk P w Ξ mg base CX0 1 f fd ["marks","word"] (spP Kq):=by
 refine F.zP Y9 (by rintro _ _ ⟨_,_,rfl,_⟩;rfl) (λa9 A outer s H E hr=>?_);refine⟨_,(qd (qp (ZQ [false,true] ["kind","width" ,"pattern" ] (vA (Ξ:=Ξ) rfl qv0) (λ_ _ _=>(Wy (Ξ:=Ξ) (i:=2) (j:=3) (k:=4) rfl K8 rfl rfl rfl rfl GC GC GC GD GD GD)) (λ_ _ _=>jR (qh op_eq (ql zp qv1 (ql zo qa qv3)) qv4 (qt _))) (λ_ _ _=>qv2)))),_,(by right),λts Qt h=>?_⟩;obtain⟨ms,word,rfl,hw,hl,q⟩:=h;nofun;refine vX (by rw[Dd];exact DT (qW (by lia))) (λi a8 M'=>M'=[]/\a8=(((ms.take i).filter (on word)).map (·.1)).map T.str) ⟨rfl,rfl⟩ ?_ ?_
 ·rintro i x a8 M' hx _ ⟨rfl,rfl⟩
  obtain⟨m,hm,rfl⟩:=q03 hx;have g6:=hw m (De hm);nofun;refine⟨⟨by lia,by lia,by decide⟩,?_,?_⟩
  ·rw[DX];exact qX _
  rw[vg hm,D8,Ds,Ds,DX];refine ite2 (λhh=>?_) (λhh=>?_)<;>simp[on,hh]
 ·rintro a8 M' ⟨rfl,rfl⟩
  rw[Dd,DO];nofun;exact q
abbrev Ja:Stmt:=top 10
theorem scMarkOf:q00 ["laying","word","kinds"] ["laying","word"] (qc Ja):=by ac_rfl
def ja(word:Int)(ms:List Mk3):T:=match ms.filter (on word) with
 | []=>.non
 |m::_=>.str m.1
def jc:List T->(T->Prop)->Prop:=λts Q=>∃(bits:Int)(ms:List Mk3)(word:Int),ts=[layT bits ms,.int word]/\Wd ms/\ms.length<=900/\Q (ja word ms)
theorem Jo(F:Fun Ξ "mark_of" "mark_of" Ja f fd)(cp:Def P w Ξ mg base "kinds_on" 1 ["marks","word"] (spP Kq)):FnOk P w Ξ mg base CX0 2 f fd ["laying","word"] (spP jc):=by
 refine F.zP scMarkOf (by rintro _ _ ⟨_,_,_,rfl,_⟩;rfl) (λa9 A outer s H E hr=>?_);refine⟨_,(qb (qi (i:=2) scMarkOf.nd rfl GC (qg cp (WE hr) (qa2 (qr (Uc Ξ) qv0 qa (λ_ _=>rfl)) qv1))) (qd (qp (vd (ZN (Ξ:=Ξ) rfl qv2 (λ_=>rfl)) (qr (Ub Ξ) qv2 qa (λ_ _=>rfl)) vG)))),_,(qk (by right) (zx (q5M (q2S (qm 2)) (by right) (ce_c .non)))),λts Qt h=>?_⟩;obtain⟨bits,ms,word,rfl,hw,hl,q⟩:=h;nofun;refine⟨ms,word,rfl,hw,hl,?_⟩;unfold ja at q;unfold XT;cases e:ms.filter (on word) with
 |nil=>
  rw[e]at q;simp only[uTru];nofun;refine⟨false,rfl,?_⟩;nofun;exact q
 |cons m r=>
  rw[e]at q;simp only[uTru];nofun;refine⟨true,rfl,?_⟩;nofun;exact q
abbrev Jb:Stmt:=top 29
theorem q1a:q00 ["laying","word","kind"] ["laying","word","kind"] (qc Jb):=by ac_rfl
def JC:List T->(T->Prop)->Prop:=λts Q=>∃(bits:Int)(ms:List Mk3)(word:Int)(kind:Str)(m:Mk3),ts=[layT bits ms,.int word,.str kind]/\ms.length<=900/\OfKind ms kind m/\0<=m.2.1/\Q (.int (word / 2^m.2.1.toNat))
theorem Jp(F:Fun Ξ "load_of" "load_of" Jb f fd)(aM:Def P w Ξ mg base "mark_for" 1 ["laying","kind"] (spP q0j)):FnOk P w Ξ mg base CX0 2 f fd ["laying","word","kind"] (spP JC):=by
 refine F.zP q1a (by rintro _ _ ⟨_,_,_,_,_,rfl,_⟩;rfl) (λa9 A outer s H E hr=>?_);refine⟨_,(qd (qp (ql q2P qv1 (qr (Uc Ξ) (qg aM (WE hr) (qa2 qv0 qv2)) qa (λ_ _=>rfl))))),_,(by right),λts Qt h=>?_⟩;obtain⟨bits,ms,word,kind,m,rfl,hl,hm,h0,q⟩:=h;nofun;refine⟨bits,ms,kind,m,rfl,hl,hm,?_⟩;nofun;exact⟨h0,q⟩
abbrev X9:Stmt:=top 30
theorem scMarked:q00 ["laying","kind","load","mark"] ["laying","kind","load"] (qc X9):=by ac_rfl
def G2:List T->(T->Prop)->Prop:=λts Q=>∃(bits:Int)(ms:List Mk3)(kind:Str)(load:Int)(m:Mk3),ts=[layT bits ms,.str kind,.int load]/\ms.length<=900/\OfKind ms kind m/\0<=m.2.1/\m.2.1<=1000/\load.natAbs<2^64/\Q (.int (load*2^m.2.1.toNat+m.2.2))
theorem K4(F:Fun Ξ "marked" "marked" X9 f fd)(aM:Def P w Ξ mg base "mark_for" 1 ["laying","kind"] (spP q0j)):FnOk P w Ξ mg base CX0 2 f fd ["laying","kind","load"] (spP G2):=by
 refine F.zP scMarked (by rintro _ _ ⟨_,_,_,_,_,rfl,_⟩;rfl) (λa9 A outer s H E hr=>?_);refine⟨_,(qb (qi (i:=3) scMarked.nd rfl GC (qg aM (WE hr) (qa2 qv0 qv1))) (qd (qp (ql qL (ql zo qv2 (qr (Uc Ξ) qv3 qa (λ_ _=>rfl))) (qr (Uc Ξ) qv3 qa (λ_ _=>rfl)))))),_,(by right),λts Qt h=>?_⟩;obtain⟨bits,ms,kind,load,m,rfl,hl,hm,h0,h1,h2,q⟩:=h;nofun;refine⟨bits,ms,kind,m,rfl,hl,hm,?_⟩;nofun;refine⟨⟨h0,by lia,h2⟩,?_⟩;nofun;exact q
abbrev VG:Stmt:=top 31
theorem Y7:q00 ["bits","load"] ["bits","load"] (qc VG):=by ac_rfl
def kP(s load:Int):Int:=if 2^(s-1).toNat<=load then load-2^s.toNat else load
def Kp:List T->(T->Prop)->Prop:=λts Q=>∃(s load:Int),ts=[.int s,.int load]/\1<=s/\s<=1000/\Q (.int (kP s load))
theorem ZY(F:Fun Ξ "small_of" "small_of" VG f fd):FnOk P w Ξ mg base CX0 1 f fd ["bits","load"] (spP Kp):=by
 refine F.zP Y7 (by rintro _ _ ⟨_,_,rfl,_⟩;rfl) (λa9 A outer s H E hr=>?_);refine⟨_,(qd (qp (vd (qh q1R qv1 (ql zo qa (ql vB qv0 qa)) (qt _)) (ql vB qv1 (ql zo qa qv0)) qv1))),_,(by right),λts Qt h=>?_⟩;obtain⟨sb,load,rfl,h0,h1,q⟩:=h;nofun;unfold kP at q;refine⟨⟨by lia,by lia,by decide⟩,?_⟩;rw[DX];refine ite2 (λhh=>?_) (λhh=>?_)
 ·rw[Uj hh]at q
  refine⟨⟨by lia,by lia,by decide⟩,?_⟩;rw[DX];exact q
 ·rw[Uh hh]at q
  exact q
theorem Z4:∀{ms:List Mk3}{m m':Mk3},(ms.map (·.1)).Nodup->m∈ms->m'∈ms->m.1=m'.1->m=m'
 | [],_,_,_,h,_,_=>nomatch h
 |x::ms,m,m',hn,h,h',e=>by
  obtain⟨n1,n2⟩:=D0.mp (show(x.1::ms.map (·.1)).Nodup from hn);rcases Dr.mp h with z|h
  ·rcases Dr.mp h' with z'|h'
   ·rw[z,z']
   ·exact absurd (DP.mpr ⟨m',h',by rw[<-e,z]⟩) n1
  ·rcases Dr.mp h' with z'|h'
   ·exact absurd (DP.mpr ⟨m,h,by rw[e,z']⟩) n1
   ·exact Z4 n2 h h' e
theorem Right.ofKind(r:Right bits ms)(hm:m∈ms):OfKind ms m.1 m:=by
 have hk:m.1∈QF:=r.k.mem_iff.mp (DP.mpr ⟨m,hm,rfl⟩);obtain⟨m',h'⟩:=r.kind hk;have nd:(ms.map (·.1)).Nodup:=r.k.nodup_iff.mpr (by decide);have:m'=m:=Z4 nd h'.mem hm h'.is;rw[<-this]at h' ⊢;exact h'
def three3:List Str:=["none","no","yes"]
theorem XR{j:Nat}(h:three3[j]?=some t):∀m,m<j->three3[m]?≠some t:=by
 have hj:j<3:=(Db.mp h).1;intro m hm;rcases(show j=1\/j=2 by lia)with rfl|rfl
 ·have:m=0:=by lia
  subst this;simp[three3]at h ⊢;subst h;decide
 ·simp[three3]at h
  subst h;rcases(show m=0\/m=1 by lia)with rfl|rfl<;>simp[three3]<;>decide
def xJ(bits:Int)(m:Mk3)(load:Int):Int:=load % 2^(bits-m.2.1).toNat*2^m.2.1.toNat+m.2.2
abbrev VF:Stmt:=top 32
theorem scWorthOf:q00 ["laying","word","kind","load"] ["laying","word"] (qc VF):=by ac_rfl
def Yx(bits:Int)(m:Mk3)(load:Int):T:=if m.1 = "small" then .int (kP (bits-m.2.1) load) else if m.1 = "one" then(if load<3 then .str (three3.getD load.toNat "none") else .non) else if m.1 = "sign" /\ 128<=load then .non else .tup [.str m.1,.int load]
def Zo(bits:Int)(ms:List Mk3)(word:Int):T:=match ms.filter (on word) with
 | []=>.non
 |m::_=>Yx bits m (word / 2^m.2.1.toNat)
def Kn:List T->(T->Prop)->Prop:=λts Q=>∃(bits:Int)(ms:List Mk3)(word:Int),ts=[layT bits ms,.int word]/\Right bits ms/\0<=word/\Q (Zo bits ms word)
theorem ZW(F:Fun Ξ "worth_of" "worth_of" VF f fd)(N:Nms mg)(T3:Tup3 Ξ mg "THREE" three "none" "no" "yes")(dk:GInt mg "SIGNS" 128)(ar:Def P w Ξ mg base "mark_of" 2 ["laying","word"] (spP jc))(bw:Def P w Ξ mg base "load_of" 2 ["laying","word","kind"] (spP JC))(cq:Def P w Ξ mg base "small_of" 1 ["bits","load"] (spP Kp))(ao:Def P w Ξ mg base "load_bits" 2 ["laying","kind"] (spP G3)):FnOk P w Ξ mg base CX0 3 f fd ["laying","word"] (spP Kn):=by
 refine F.zP scWorthOf (by rintro _ _ ⟨_,_,_,rfl,_⟩;rfl) (λa9 A outer s H E hr=>?_);refine⟨_,(qb (qi (i:=2) scWorthOf.nd rfl GC (qg ar (WE hr) (qa2 qv0 qv1))) (qb (vp (qh Kd qv2 vG (qt _)) (qd (qp vG)) qJ) (qb (qi (i:=3) scWorthOf.nd rfl GC (qg bw (WE hr) (qa3 qv0 qv1 qv2))) (qb (vp (qh op_eq qv2 qe (qt _)) (qd (qp (qg cq (WE hr) (qa2 (qg ao (WE hr) (qa2 qv0 qv2)) qv3)))) qJ) (qb (vp (qh op_eq qv2 qe (qt _)) (qd (qp (vd (qh Q2 qv3 (qx (Yu (Ξ:=Ξ) rfl) (by rfl) N.len Q6 (qa1 (vU (v:=.ref three) rfl T3.mg rfl))) (qt _)) (qr (Uc Ξ) (vU (v:=.ref three) rfl T3.mg rfl) qv3 (λ_ _=>rfl)) vG))) qJ) (qb (vp (Q0 (j8 (qh op_eq qv2 qe (qt _)) (xl (qh q1R qv3 (zF dk rfl) (qt _))))) (qd (qp vG)) qJ) (qd (qp (qA (qa2 qv2 qv3)))))))))),_,(qk (by right) (qk (by right) (qk (by right) (qk (by right) (qk (j2 (by right) (zx (q5M (Zj (zW (by right) (qm 3) (q3J T3.kt))) (q6m T3.kt (Y5 [_,_,_]) (qm 3)) (ce_c .non))) vP) (by right)))))),λts Qt h=>?_⟩;obtain⟨bits,ms,word,rfl,hR,rG,q⟩:=h;have ma:=hR.b;have mv:=hR.n;nofun;refine⟨bits,ms,word,rfl,hR.wd,by lia,?_⟩;unfold Zo at q;unfold ja;cases e:ms.filter (on word) with
 |nil=>
  rw[e]at q;nofun;exact q
 |cons m r=>
  rw[e]at q;have aF:m∈ms:=(Dz.mp (by rw[e];exact DH)).1;have iR:=hR.ofKind aF;have g6:=hR.w m aF;have gu:=zI m.1;simp only at q;generalize hld:word / 2^m.2.1.toNat=load at q;have i7:0<=load:=by rw[<-hld];exact Int.ediv_nonneg rG (qbt (qX _))
  unfold Yx at q;nofun;refine⟨bits,ms,word,m.1,m,rfl,by lia,iR,by lia,?_⟩;rw[hld];nofun;refine ite2 (λh1=>?_) (λh1=>?_)
  ·rw[Uj h1]at q
   refine⟨bits,ms,m.1,m,rfl,by lia,iR,?_⟩;nofun;refine⟨bits-m.2.1,load,rfl,by lia,by lia,?_⟩;nofun;exact q
  rw[Uh h1]at q;refine ite2 (λh2=>?_) (λh2=>?_)
  ·rw[Uj h2]at q
   refine ite2 (λh3=>?_) (λh3=>?_)
   ·rw[Uj (show load<3 by lia)]at q
    rcases(show load=0\/load=1\/load=2 by lia)with rfl|rfl|rfl
    ·exact⟨_,rfl,q⟩
    ·exact⟨_,rfl,q⟩
    ·exact⟨_,rfl,q⟩
   ·rw[Uh (show ¬load<3 by lia)]at q
    exact q
  rw[Uh h2]at q;refine ite2 (λh3=>?_) (λh3=>?_)
  ·refine ite2 (λh4=>?_) (λh4=>?_)
   ·rw[Uj ⟨h3,h4⟩]at q
    exact q
   ·rw[Uh (λz=>h4 z.2)]at q
    nofun;exact q
  ·rw[Uh (λz=>h3 z.1)]at q
   nofun;exact q
abbrev X5:Stmt:=top 33
theorem q26:q00 ["laying","worth"] ["laying","worth"] (qc X5):=by ac_rfl
inductive WorthT:T->Str->Int->Prop
 |int (n:Int):WorthT (.int n) "small" n
 |one {t:Str}{j:Nat} (h:three3[j]?=some t):WorthT (.str t) "one" j
 |tup {kind:Str} (load:Int):WorthT (.tup [.str kind,.int load]) kind load
def zJ:List T->(T->Prop)->Prop:=λts Q=>∃(bits:Int)(ms:List Mk3)(t:T)(kind:Str)(load:Int)(m:Mk3),ts=[layT bits ms,t]/\ms.length<=900/\WorthT t kind load/\OfKind ms kind m/\0<=m.2.1/\0<=bits-m.2.1/\bits<=60/\((∃n,t=.int n)\/(0<=load/\load<2^(bits-m.2.1).toNat))/\Q (.int (xJ bits m load))
theorem q9k{s:Int}(h:s<=60):(2:Int)^s.toNat<=2^60:=by
 have:(2:Nat)^s.toNat<=2^60:=Ra (by decide) (by lia);exact_mod_cast this
theorem Jn(F:Fun Ξ "word_of" "word_of" X5 f fd)(N:Nms mg)(T3:Tup3 Ξ mg "THREE" three "none" "no" "yes")(bT:Def P w Ξ mg base "marked" 2 ["laying","kind","load"] (spP G2))(ao:Def P w Ξ mg base "load_bits" 2 ["laying","kind"] (spP G3)):FnOk P w Ξ mg base CX0 3 f fd ["laying","worth"] (spP zJ):=by
 refine F.zP q26 (by rintro _ _ ⟨_,_,_,_,_,_,rfl,_⟩;rfl) (λa9 A outer s H E hr=>?_);refine⟨_,(qb (vp (vM (qx (QP (Ξ:=Ξ) rfl) (by rfl) N.isinstance qG (qa2 qv1 (VU (v:=.ty "int") (by rfl) N.int q3T rfl)))) (qd (qp (qg bT (WE hr) (qa3 qv0 qe (ql zp qv1 (ql zo qa (qg ao (WE hr) (qa2 qv0 qe)))))))) qJ) (qb (vp (vM (qx (QP (Ξ:=Ξ) rfl) (by rfl) N.isinstance qG (qa2 qv1 (VU (v:=.ty "str") (by rfl) N.str q9i rfl)))) (qd (qp (qg bT (WE hr) (qa3 qv0 qe (q82 PySem.F.plainAttrs_tuple PySem.F.slot_tuple_index PySem.F.type_tuple_index (Gq (Ξ:=Ξ) rfl T3) (vU (v:=.ref three) rfl T3.mg rfl) (qa1 qv1)))))) qJ) (qd (qp (qg bT (WE hr) (qa3 qv0 (qr (Uc Ξ) qv1 qa (λ_ _=>rfl)) (qr (Uc Ξ) qv1 qa (λ_ _=>rfl)))))))),_,(qk (j2 (ct_b (qaL .int (qm 1))) (by right) vP) (qk (j2 (ct_b (qaL .str (qm 1))) (zx (xE (qo (qm 0) (qo (by right) (qo (q42 T3 (qo (qm 1) qU)) qU))))) vP) (by right))),λts Qt h=>?_⟩;obtain⟨bits,ms,t,kind,load,m,rfl,hl,rH,hm,h0,h1,rJ,hb,q⟩:=h;have hp:=qX (bits-m.2.1).toNat;have hp60:=q9k (s:=bits-m.2.1) (by lia);unfold xJ at q;cases rH with
 |int n=>
  have bY:=DU load hp;have hnn:=D2 load (Bi hp);nofun;refine⟨bits,ms,"small", m,rfl,hl,hm,?_⟩;nofun;refine⟨⟨h1,by lia,by decide⟩,by rw[DX];exact hp,?_⟩;rw[DX];refine⟨bits,ms,"small", _,m,rfl,hl,hm,h0,by lia,by lia,?_⟩;nofun;exact q
 | @one t j hj=>
  have mZ:j<3:=(Db.mp hj).1;obtain⟨g0,g1⟩:0<=(j:Int)/\(j:Int)<2^(bits-m.2.1).toNat:=hb.resolve_left λzz=>by obtain⟨_,z⟩:=zz;cases z
  nofun;refine⟨t,j,rfl,hj,XR hj,?_⟩;nofun;refine⟨bits,ms,"one", _,m,rfl,hl,hm,h0,by lia,by lia,?_⟩;rw[D4 g0 g1]at q;nofun;exact q
 |tup load=>
  obtain⟨g0,g1⟩:0<=load/\load<2^(bits-m.2.1).toNat:=hb.resolve_left λzz=>by obtain⟨_,z⟩:=zz;cases z
  nofun;refine⟨bits,ms,kind,load,m,rfl,hl,hm,h0,by lia,by lia,?_⟩;rw[D4 g0 g1]at q;nofun;exact q
def lcnt(bits n:Int):Nat:=(Builtin.Int.intBits n+bits.toNat-1) / bits.toNat
def lim(b a i:Nat):Int:=((a / 2^(b*i) % 2^b:Nat):Int)
def xN(bits n:Int):List Int:=(List.range (lcnt bits n)).map (lim bits.toNat n.natAbs)
theorem ky(hb:1<=bits)(i:Nat):0<n.natAbs / 2^(bits.toNat*i)↔i<lcnt bits n:=by
 have ii:0<bits.toNat:=by lia
 have h1:0<n.natAbs / 2^(bits.toNat*i)↔¬n.natAbs<2^(bits.toNat*i):=by
  rw[Nat.div_pos_iff];have:=Nat.pow_pos (n:=bits.toNat*i) (show 0<2 by decide);lia
 rw[h1, <-intBits_le_iff];unfold lcnt;rw[<-Nat.succ_le_iff,Nat.le_div_iff_mul_le ii,Nat.succ_mul,Nat.mul_comm i];lia
theorem q4m(h:Bt m n)(hb:1<=bits)(rJ:bits<=60):lcnt bits n<=m+60:=by
 unfold lcnt;have:=h.bits;refine DB (Nat.div_le_self _ _) ?_;lia
theorem Xa:a / 2^(b*i) / 2^b=a / 2^(b*(i+1)):=by
 rw[BE, <-qbd];rfl
theorem qa5(n:Int):(if n<0 then -n else n)=(n.natAbs:Int):=by split<;>lia
theorem q0z(n:Int):Builtin.Int.intBits (n.natAbs:Int)=Builtin.Int.intBits n:=by
 apply Nat.le_antisymm
 ·exact intBits_le_iff.mpr (by rw[Bj];exact intBits_le_iff.mp (Dh _))
 ·refine intBits_le_iff.mpr ?_
  have:=intBits_le_iff.mp (Dh (Builtin.Int.intBits (n.natAbs:Int)));rw[Bj]at this;exact this
theorem q29(hb:1<=bits):((Builtin.Int.intBits n:Int)+bits-1) / bits=(lcnt bits n:Int):=by
 obtain⟨b,rfl⟩:∃b:Nat,bits=(b:Int):=⟨bits.toNat,by lia⟩;unfold lcnt;rw[RS];have e:(Builtin.Int.intBits n:Int)+(b:Int)-1=((Builtin.Int.intBits n+b-1:Nat):Int):=by lia
 rw[e];exact_mod_cast rfl
theorem q0a(k:Nat):(1:Int)*2^k=((2^k:Nat):Int):=by rw[DX];simp
def vT(bits n:Int):Int:=4*(lcnt bits n:Int)+(if n<0 then 2 else 0)
def xY(bits n:Int):List Int:=vT bits n::xN bits n
theorem xu:(xY bits n).length=lcnt bits n+1:=by
 unfold xY;rw[Dj];unfold xN;rw[Dd,RU]
theorem xo(hb:1<=bits)(hn:n≠0):0<lcnt bits n:=by
 refine(ky hb 0).mp ?_;rw[Nat.mul_zero,Nat.pow_zero,Nat.div_one];lia
def vY(s n:Int):Bool:=decide (-(2^(s-1).toNat)<=n/\n<2^(s-1).toNat)
abbrev VJ:Stmt:=top 34
theorem scIsSmall:q00 ["laying","n","half"] ["laying","n"] (qc VJ):=by ac_rfl
def V9:List T->(T->Prop)->Prop:=λts Q=>∃(bits:Int)(ms:List Mk3)(n:Int)(m:Mk3),ts=[layT bits ms,.int n]/\ms.length<=900/\OfKind ms "small" m/\1<=bits-m.2.1/\bits-m.2.1<=60/\Q (.bl (vY (bits-m.2.1) n))
theorem Z1(F:Fun Ξ "is_small" "is_small" VJ f fd)(ao:Def P w Ξ mg base "load_bits" 2 ["laying","kind"] (spP G3)):FnOk P w Ξ mg base CX0 3 f fd ["laying","n"] (spP V9):=by
 refine F.zP scIsSmall (by rintro _ _ ⟨_,_,_,_,rfl,_⟩;rfl) (λa9 A outer s H E hr=>?_);refine⟨_,(qb (qi (i:=2) scIsSmall.nd rfl GC (ql zo qa (ql vB (qg ao (WE hr) (qa2 qv0 qe)) qa))) (qd (qp (q0K q6U Q2 (q7u q2M qv2) qv1 qv2)))),_,(qk (by right) (zx (q0Z (zR λ_ _=>.bl _) (zR λ_ _=>.bl _) (q2H (qm 2)) (qm 1) (qm 2)))),λts Qt h=>?_⟩;obtain⟨bits,ms,n,m,rfl,hl,hm,s0,s1,q⟩:=h;nofun;refine⟨bits,ms,"small", m,rfl,hl,hm,?_⟩;nofun;refine⟨⟨by lia,by lia,by decide⟩,?_⟩;rw[DX];unfold vY at q;generalize(2:Int)^(bits-m.2.1-1).toNat=half at q ⊢;by_cases h1 : -half<=n
 ·rw[Uj h1]
  simpa only[h1,true_and]using q
 ·rw[Uh h1]
  simpa only[h1,false_and,U6]using q
theorem xy{l:List Str}:inV (.str z) (l.map V.str)=decide (z∈l):=by
 unfold inV;rw[List.any_map]
 induction l with
 |nil=>rfl
 |cons a l ih=>
  rw[Rs,ih];show(decide (a=z)||decide (z∈l))=_;by_cases h:a=z
  ·simp[h]
  ·simp[h,Ne.symm h]
theorem ve{p:Prop}[Decidable p]{a b:Prop}(h:¬p)(q:b):if p then a else b:=by rw[Uh h];exact q
theorem qK{p:Prop}[Decidable p]{a b:Prop}(h:p)(q:a):if p then a else b:=by rw[Uj h];exact q
def qO(x:Int):Int:=if x=1 then 3 else x / 4+1
def valL(b:Nat):List Int->Int
 | []=>0
 |l::ls=>l+2^b*valL b ls
def limI(os:List Int)(k:Nat)(x:Int):List Int:=(os.drop (k+1)).take (x / 4).toNat
def numI(b:Nat)(os:List Int)(k:Nat)(x:Int):Int:=if x % 4=0 then valL b (limI os k x) else -(valL b (limI os k x))
def q78(bits:Int)(os:List Int):Prop:=∀x∈os,0<=x/\x<2^bits.toNat
theorem YA:∀{L:List Int},(∀x∈L,0<=x/\x<2^b)->0<=valL b L/\valL b L<2^(b*L.length)
 | [],_=>⟨qbw _,by unfold valL;exact qX _⟩
 |l::L,h=>by
  have h1:=h l (.head _);have h2:=YA (L:=L) λx hx=>h x (.tail _ hx);have hp:=qX b;unfold valL;have e:(2:Int)^(b*(l::L).length)=2^b*2^(b*L.length):=by rw[Dj,BQ,Be,qbc]
  rw[e];generalize(2:Int)^(b*L.length)=z at *;generalize(2:Int)^b=p at *;generalize valL b L=v at *;have h3:0<=p*v:=Int.mul_nonneg (by lia) h2.1;have h4:p*(v+1)<=p*z:=Int.mul_le_mul_of_nonneg_left (by lia) (by lia);rw[Int.mul_add,Int.mul_one]at h4;lia
abbrev X7:Stmt:=top 18
theorem scSizeAt:q00 ["outside","address","head"] ["outside","address"] (qc X7):=by ac_rfl
def Xi:List T->(T->Prop)->Prop:=λts Q=>∃(os:List Int)(k:Nat)(x:Int),ts=[vb os,.int k]/\os[k]?=some x/\Q (.int (qO x))
theorem q0B(F:Fun Ξ "size_at" "size_at" X7 f fd)(aV:GInt mg "PAIR_HEAD" 1)(bU:GInt mg "PAIR_SIZE" 3):FnOk P w Ξ mg base CX0 1 f fd ["outside","address"] (spP Xi):=by
 refine F.zP scSizeAt (by rintro _ _ ⟨_,_,_,rfl,_⟩;rfl) (λa9 A outer s H E hr=>?_);refine⟨_,(qb (qi (i:=2) scSizeAt.nd rfl GC (qr (Ub Ξ) qv0 qv1 (λ_ _=>rfl))) (qd (qp (vd (qh op_eq qv2 (zF aV rfl) (qt _)) (zF bU rfl) (ql qL (ql kr qv2 qa) qa))))),_,(by right),λts Qt h=>?_⟩;obtain⟨os,k,x,rfl,hx,q⟩:=h;symm;refine qB (atT hx) ?_;symm;unfold qO at q;refine ite2 (λz=>?_) (λz=>⟨⟨by decide,by decide⟩,?_⟩)
 ·rw[Uj z]at q;exact q
 ·rw[Uh z]at q;exact q
abbrev kZ:Stmt:=top 19
theorem scNumberAt:q00 ["laying","outside","address","amount","limb"] ["laying","outside","address"] (qc kZ):=by ac_rfl
def q8y:List T->(T->Prop)->Prop:=λts Q=>∃(bits:Int)(ms:List Mk3)(os:List Int)(k:Nat)(x:Int),ts=[layT bits ms,vb os,.int k]/\os[k]?=some x/\4<=x/\k+qO x<=os.length/\os.length<=1000/\1<=bits/\bits<=60/\q78 bits os/\Q (.int (numI bits.toNat os k x))
theorem q0c{os:List Int}{k:Nat}(h4:4<=x)(he:k+qO x<=os.length):(limI os k x).length=(x / 4).toNat:=by
 unfold limI;unfold qO at he;rw[Uh (by lia)]at he;rw[DM,Ri];lia
theorem q3Z(F:Fun Ξ "number_at" "number_at" kZ f fd)(N2:Nms2 mg)(aJ:Def P w Ξ mg base "size_at" 1 ["outside","address"] (spP Xi)):FnOk P w Ξ mg base CX0 2 f fd ["laying","outside","address"] (spP q8y):=by
 refine F.zP scNumberAt (by rintro _ _ ⟨_,_,_,_,_,rfl,_⟩;rfl) (λa9 A outer s H E hr=>?_);refine⟨_,(qb (qi (i:=3) scNumberAt.nd rfl GC qa) (qb (xL PassesOwn.never rfl (q3u (Ξ:=Ξ) rfl rfl N2.reversed (qa1 (vc (Ua Ξ) qv1 (qY (ql qL qv2 qa)) (qY (ql qL qv2 (qg aJ (WE hr) (qa2 qv1 qv2))))))) (vi (i:=4) scNumberAt.nd rfl GC) (qd (qi (i:=3) scNumberAt.nd rfl GC (ql qL (ql q3C qv3 (qr (Uc Ξ) qv0 qa (λ_ _=>rfl))) qv4)))) (qd (qp (vd (qh op_eq (ql zp (qr (Ub Ξ) qv1 qv2 (λ_ _=>rfl)) qa) qa (qt _)) qv3 (q7u q2M qv3)))))),_,(qk (by right) (qk (Vm (q8c (qo (q8E (qm 1) (QM (zW (zR λ_ _=>.int _) (qm 2) WF)) (QM (zW (zR λ_ _=>.int _) (qm 2) (xE (qo (qm 1) (qo (qm 2) qU)))))) qU)) (qH 4) (by right)) (by right))),λts Qt h=>?_⟩;obtain⟨bits,ms,os,k,x,rfl,hx,h4,he,hz,b0,b1,hw,q⟩:=h;have hs:qO x=x / 4+1:=by unfold qO;rw[Uh (by lia)]
 have rK:=q0c h4 he;have rL:∀y∈limI os k x,0<=y/\y<2^bits.toNat:=λy hy=>hw y (R3 (Ro hy));symm;refine⟨os,k,x,rfl,hx,?_⟩;symm;have e1:(k:Int)+1=((k+1:Nat):Int):=by push_cast;rfl
 have e2:(k:Int)+qO x=((k+1+(x / 4).toNat:Nat):Int):=by rw[hs];push_cast;lia
 have fZ:cutT (os.map T.int) (some ((k:Int)+1)) (some ((k:Int)+qO x))=(limI os k x).map T.int:=by
  rw[e1,e2,Kx (by lia) (by rw[hs]at he;lia)]
  congr 1;unfold limI
  congr 1;lia
 rw[fZ];generalize hL:limI os k x=L at *;refine q0L (λi ρ M'=>M'=[]/\∃x4,ρ=[some (.p (layT bits ms)),some (.p (vb os)),some (.p (.int k)),some (.p (.int (valL bits.toNat (L.drop (L.length-i))))),x4]) ⟨rfl,none,by rw[qbr,List.drop_length];rfl⟩ ?_ ?_
 ·rintro i y ρ M' hi hy ⟨rfl,x4,rfl⟩
  rw[Dd]at hi hy;obtain⟨l,hl,rfl⟩:=q03 hy;symm;have hd:L.drop (L.length-(i+1))=l::L.drop (L.length-i):=by
   obtain⟨h1,h2⟩:=Db.mp hl;rw[show L.length-(i+1)=L.length-1-i by lia,List.drop_eq_getElem_cons h1,h2]
   congr 2;lia
  have hv:=YA (b:=bits.toNat) (L:=L.drop (L.length-i)) λy hy=>rL y (R3 hy);refine⟨⟨by lia,by lia,?_⟩,some (.p (.int l)),?_⟩
  ·have h1:(valL bits.toNat (L.drop (L.length-i))).natAbs<2^(bits.toNat*(L.drop (L.length-i)).length):=by
    have:=hv.2;have e:((2^(bits.toNat*(L.drop (L.length-i)).length):Nat):Int)=2^(bits.toNat*(L.drop (L.length-i)).length):=by simp
    lia
   refine Du h1 (Ra (by decide) ?_);have h2:(L.drop (L.length-i)).length<=1000:=by
    rw[Ri];lia
   have h3:bits.toNat<=60:=by lia
   exact DB (Nat.mul_le_mul h3 h2) (by decide)
  ·rw[hd,show valL bits.toNat (l::L.drop (L.length-i))=l+2^bits.toNat*valL bits.toNat (L.drop (L.length-i))from rfl,qbu l,qbs]
 ·rintro ρ M' ⟨rfl,x4,rfl⟩
  rw[Dd,RF,Bl];symm;refine qB (atT hx) ?_;symm;refine⟨by decide,?_⟩;unfold numI at q;rw[hL]at q;refine ite2 (λz=>?_) (λz=>?_)
  ·rw[Uj z]at q
   exact q
  ·rw[Uh z]at q
   exact q
def Vf(x:Int):Bool:=decide (x=1)||(decide (4<=x)&&decide (x % 2=0))
def xI(bits sm:Int)(os:List Int)(k:Nat)(x:Int):Option Str :=
 if Vf x=false then some "head" else if(os.length:Int)<k+qO x then some "end" else if x=1 then none else if os[k+(x / 4).toNat]?=some 0 then some "limb" else if vY sm (numI bits.toNat os k x)=true then some "small" else none
def thG(dH:Nat->Option Str)(sz:Nat->Nat)(len:Nat):Nat->Nat->Option (Str×Int)×List Nat
 |0,_=>(none, [])
 |n+1,k=>if k<len/\0<sz k then((dH k).elim (thG dH sz len n (k+sz k)).1 λw=>some (w,8+k),(dH k).elim (k::(thG dH sz len n (k+sz k)).2) λ_=>[]) else(none, [])
theorem JY:∀n k,len-k<=n->thG dH sz len n k=thG dH sz len (n+1) k
 |0,k,h=>by
  show _=if _ then _ else _
  rw[Uh (by lia)];rfl
 |n+1,k,h=>by
  show(if _ then _ else _)=if _ then _ else _
  by_cases c:k<len/\0<sz k
  ·rw[Uj c,Uj c,JY n _ (by lia)]
  ·rw[Uh c,Uh c]
def thF(dH:Nat->Option Str)(sz:Nat->Nat)(len:Nat)(k:Nat):Option (Str×Int)×List Nat:=thG dH sz len (len+1) k
theorem q7d:thF dH sz len k=if k<len/\0<sz k then((dH k).elim (thF dH sz len (k+sz k)).1 λw=>some (w,8+k),(dH k).elim (k::(thF dH sz len (k+sz k)).2) λ_=>[]) else(none, []):=by
 show(if _ then _ else _)=_;by_cases c:k<len/\0<sz k
 ·rw[Uj c,Uj c,JY len _ (by lia)]
  rfl
 ·rw[Uh c,Uh c]
def badK(bits sm:Int)(os:List Int)(k:Nat):Option Str:=(os[k]?).bind (xI bits sm os k)
def szK(os:List Int)(k:Nat):Nat:=(qO ((os[k]?).getD 1)).toNat
def thI(bits sm:Int)(os:List Int):Nat->Option (Str×Int)×List Nat:=thF (badK bits sm os) (szK os) os.length
theorem Q8{os:List Int}:thI bits sm os k=if k<os.length/\0<szK os k then((badK bits sm os k).elim (thI bits sm os (k+szK os k)).1 λw=>some (w,8+k),(badK bits sm os k).elim (k::(thI bits sm os (k+szK os k)).2) λ_=>[]) else(none, []):=q7d
theorem kO{os:List Int}(h:os.length<=k):thI bits sm os k=(none, []):=by
 rw[Q8,Uh (by lia)]
set_option tactic.hygienic true in
theorem zN{os:List Int}(h:xI bits sm os k x=none):2<=qO x/\k+qO x<=os.length/\Vf x=true:=by
 unfold xI at h;split at h
 ·cases h
 rename_i h1;split at h
 ·cases h
 rename_i h2;have hh:Vf x=true:=by simpa using h1
 refine⟨?_,by lia,hh⟩;unfold qO;unfold Vf at hh;split
 ·lia
 ·rename_i h3
  simp[h3]at hh;lia
theorem q5Y{os:List Int}{w:Str}(hx:os[k]?=some x)(h0:0<=x)(h:xI bits sm os k x=some w):thI bits sm os k=(some (w,(8:Int)+k), []):=by
 have hk:=(Db.mp hx).1;have hb:badK bits sm os k=some w:=by unfold badK;rw[hx];exact h
 have hs:0<szK os k:=by
  unfold szK;rw[hx];show 0<(qO x).toNat;unfold qO;split<;>lia
 rw[Q8,Uj ⟨hk,hs⟩,hb];rfl
theorem Zv{os:List Int}(hx:os[k]?=some x)(h:xI bits sm os k x=none):thI bits sm os k=((thI bits sm os (k+(qO x).toNat)).1,k::(thI bits sm os (k+(qO x).toNat)).2):=by
 have hk:=(Db.mp hx).1;have hb:badK bits sm os k=none:=by unfold badK;rw[hx];exact h
 have he:szK os k=(qO x).toNat:=by unfold szK;rw[hx];rfl
 have hs:=(zN h).1;rw[Q8,Uj ⟨hk,by rw[he];lia⟩,hb,he];rfl
theorem Zw{os:List Int}:∀(n k:Nat),os.length-k<=n->∀j∈(thI bits sm os k).2,k<=j/\j<os.length/\∃x,os[j]?=some x/\xI bits sm os j x=none
 |n,k,hn=>λj hj=>by
  by_cases hk:k<os.length
  ·obtain⟨x,hx⟩:∃x,os[k]?=some x:=⟨_,Dc hk⟩
   cases hb:xI bits sm os k x with
   |none=>
    have hs:=zN hb;rw[Zv hx hb]at hj;rcases Dr.mp hj with rfl|hj
    ·exact⟨Dh _,hk,x,hx,hb⟩
    ·match n,hn with
     |0,hn=>lia
     |n+1,hn=>
      obtain⟨h1,h2⟩:=Zw n (k+(qO x).toNat) (by lia) j hj;exact⟨by lia,h2⟩
   |some w=>
    have:(thI bits sm os k).2=[]:=by
     have mw:badK bits sm os k=some w:=by unfold badK;rw[hx];exact hb
     rw[Q8,mw];split<;>rfl
    rw[this]at hj;cases hj
  ·rw[kO (by lia)]at hj
   cases hj
theorem q2Q{os:List Int}:∀(n k:Nat),os.length-k<=n->(thI bits sm os k).2.Pairwise (· < ·)
 |n,k,hn=>by
  by_cases hk:k<os.length
  ·obtain⟨x,hx⟩:∃x,os[k]?=some x:=⟨_,Dc hk⟩
   cases hb:xI bits sm os k x with
   |none=>
    have hs:=zN hb;rw[Zv hx hb]
    match n,hn with
    |0,hn=>lia
    |n+1,hn=>
     refine DV.mpr ⟨λj hj=>?_,q2Q n (k+(qO x).toNat) (by lia)⟩;have:=(Zw _ _ (Dh _) j hj).1;lia
   |some w=>
    have:(thI bits sm os k).2=[]:=by
     have mw:badK bits sm os k=some w:=by unfold badK;rw[hx];exact hb
     rw[Q8,mw];split<;>rfl
    rw[this];exact .nil
  ·rw[kO (by lia)]
   exact .nil
structure Hds(os:List Int)(hs:List Nat):Prop where
 ex:∃bits sm,(thI bits sm os 0).1=none/\(thI bits sm os 0).2=hs
 w:∀x∈os,0<=x
 z:os.length<=1000
theorem Qy(e:M[k]?=some (.lst (l.map U.p))):frzN (n+1) M (.m k)=some (.lst l):=by simp only[frzN,e];rw[Zb (λ_=>Xm)];rfl
theorem Hds.at{os:List Int}(h:Hds os hs):∀k∈hs,∃x,os[k]?=some x/\k+qO x<=os.length/\Vf x=true:=λk hk=>by
 obtain⟨bits,sm,_,rfl⟩:=h.ex;obtain⟨_,_,x,hx,hb⟩:=Zw _ _ (Dh _) k hk;exact⟨x,hx,(zN hb).2⟩
theorem Hds.lt{os:List Int}(h:Hds os hs):hs.Pairwise (· < ·):=by
 obtain⟨bits,sm,_,rfl⟩:=h.ex;exact q2Q _ _ (Dh _)
theorem Hds.len{os:List Int}(h:Hds os hs):hs.length<=1000:=by
 have h1:∀(l:List Nat)(a b:Nat),l.Pairwise (· < ·)->(∀x∈l,a<=x/\x<b)->l.length<=b-a:=by
  intro l
  induction l with
  |nil=>intro a b _ _;exact DQ _
  |cons y l ih=>
   intro a b hp hm;rw[DV]at hp;have:=ih (y+1) b hp.2 λx hx=>⟨hp.1 x hx,(hm x (.tail _ hx)).2⟩;have h2:=hm y (.head _);rw[Dj];lia
 have:=h1 hs 0 os.length h.lt λk hk=>by
  obtain⟨x,hx,_⟩:=h.at k hk;exact⟨DQ _,(Db.mp hx).1⟩
 have:=h.z;lia
abbrev VM:Stmt:=top 37
theorem scHeadsIn:q00 ["outside","heads","address"] ["outside"] (qc VM):=by ac_rfl
def q3d:List T->(T->Prop)->Prop:=λts Q=>∃(os:List Int)(hs:List Nat),ts=[vb os]/\Hds os hs/\Q (.lst (hs.map λ(k:Nat)=>T.int k))
theorem q0G(F:Fun Ξ "heads_in" "heads_in" VM f fd)(N:Nms mg)(aJ:Def P w Ξ mg base "size_at" 1 ["outside","address"] (spP Xi)):FnOk P w Ξ mg base CX0 2 f fd ["outside"] (spP q3d):=by
 refine F.zP scHeadsIn (by rintro _ _ ⟨_,_,rfl,_⟩;rfl) (λa9 A outer s H E hr=>?_);refine⟨_,(qb (qi (i:=1) scHeadsIn.nd rfl GC (qw v7)) (qb (qi (i:=2) scHeadsIn.nd rfl GC qa) (qb (VT PassesOwn.never (qh Q2 qv2 (qx vJ (by rfl) N.len Q6 (qa1 qv0)) (qt _)) (qb (vq (Q1 PySem.F.slot_list_append PySem.F.type_list_append zt qv1 (qa1 qv2))) (qd (q3i (i:=2) scHeadsIn.nd rfl GC (qg aJ (WE hr) (qa2 qv0 qv2)) q3f)))) (qd (qp qv1))))),_,(qk (vf (QN qU) (qH 1)) (by right)),λts Qt h=>?_⟩;obtain⟨os,hs,rfl,⟨⟨bits,sm,hn,hh⟩,hw,hz⟩,q⟩:=h;symm;refine⟨λd ρ M=>∃(k:Nat)(gs:List Nat),d=os.length-k/\ρ=[some (.p (vb os)),some (.m 0),some (.p (.int k))]/\M=[.lst ((gs.map λ(j:Nat)=>T.int j).map U.p)]/\(thI bits sm os k).1=none/\gs++(thI bits sm os k).2=hs/\gs.length<=k,⟨_,0, [],rfl,rfl,rfl,hn,hh,Dh _⟩,?_⟩;rintro d ρ M ⟨k,gs,rfl,rfl,rfl,h1,h2,h3⟩;symm;rw[Dd];refine ite2 (λhl=>?_) (λhl=>?_)
 ·have hl:k<os.length:=by lia
  obtain⟨x,hx⟩:∃x,os[k]?=some x:=⟨_,Dc hl⟩;have rM:=hw x (De hx);have hb:xI bits sm os k x=none:=by
   cases hb:xI bits sm os k x with
   |none=>rfl
   |some w=>rw[q5Y hx rM hb]at h1;cases h1
  have fD:=zN hb;rw[Zv hx hb]at h1 h2;refine⟨λρ M=>ρ=[some (.p (vb os)),some (.m 0),some (.p (.int ((k+(qO x).toNat:Nat):Int)))]/\M=[.lst (((gs++[k]).map λ(j:Nat)=>T.int j).map U.p)],?_,?_⟩
  ·rintro b8 M' ⟨rfl,rfl⟩
   exact⟨os.length-(k+(qO x).toNat),by lia,k+(qO x).toNat,gs++[k],rfl,rfl,rfl,h1,by rw[DF];exact h2,by rw[Dg];show gs.length+1<=_;lia⟩
  ·symm
   refine⟨by rw[Dd,Dd,Ul];lia,?_⟩;simp only[uAug];symm;have e:(k:Int)+qO x=((k+(qO x).toNat:Nat):Int):=by push_cast;lia
   refine⟨_,rfl,os,k,x,rfl,hx,_,rfl,by rw[e],?_⟩;rw[Ds,Ds];rfl
 ·rw[kO (by lia)]at h2
  rw[DD]at h2;subst h2;symm;exact⟨_,Qy rfl,q⟩
def q88(os:List Int)(k:Nat):Str:=if os[k]?=some 1 then "pair" else "far"
def hkv(os:List Int)(hs:List Nat):List (Key×U):=hs.map λ(k:Nat)=>(Key.inl (k:Int),U.p (.str (q88 os k)))
theorem Ka(h:∀kv∈kvs,kv.1≠k):putU kvs k v=kvs++[(k,v)]:=by
 unfold putU;rw[Uh];intro z;obtain⟨kv,hkv,e⟩:=List.any_eq_true.mp z;exact h kv hkv (Us e)
theorem q5T{hs:List Nat}(h:hs.Pairwise (· < ·))(hk:hs[i]?=some k):∀j∈hs.take i,j≠k:=λj hj=>by
 obtain⟨n,hn⟩:=Rn hj;have gw:n<i:=by
  have:=(Db.mp hn).1;rw[DM]at this;lia
 rw[List.getElem?_take,Uj gw]at hn;obtain⟨h1,rfl⟩:=Db.mp hn;obtain⟨h2,rfl⟩:=Db.mp hk;exact Dy (List.pairwise_iff_getElem.mp h n i h1 h2 gw)
abbrev jO:Stmt:=top 35
theorem scAddressOf:q00 ["laying","word","kind"] ["laying","word"] (qc jO):=by ac_rfl
def xt(word:Int)(ms:List Mk3):Option (Str×Int):=match ms.filter (on word) with
 | []=>none
 |m::_=>if m.1 = "far" \/ m.1 = "pair" then some (m.1,word / 2^m.2.1.toNat) else none
def Yw:Option (Str×Int)->T
 |none=>.non
 |some p=>.int p.2
def q0x:List T->(T->Prop)->Prop:=λts Q=>∃(bits:Int)(ms:List Mk3)(word:Int),ts=[layT bits ms,.int word]/\Right bits ms/\Q (Yw (xt word ms))
theorem q4Y(F:Fun Ξ "address_of" "address_of" jO f fd)(ar:Def P w Ξ mg base "mark_of" 2 ["laying","word"] (spP jc))(bw:Def P w Ξ mg base "load_of" 2 ["laying","word","kind"] (spP JC)):FnOk P w Ξ mg base CX0 3 f fd ["laying","word"] (spP q0x):=by
 refine F.zP scAddressOf (by rintro _ _ ⟨_,_,_,rfl,_⟩;rfl) (λa9 A outer s H E hr=>?_);refine⟨_,(qb (qi (i:=2) scAddressOf.nd rfl GC (qg ar (WE hr) (qa2 qv0 qv1))) (qd (qp (vd (qh (Ud Ξ) qv2 (qA (qa2 qe qe)) (by with_unfolding_all rfl)) (qg bw (WE hr) (qa3 qv0 qv1 qv2)) vG)))),_,(by right),λts Qt h=>?_⟩;obtain⟨bits,ms,word,rfl,hR,q⟩:=h;symm;refine⟨bits,ms,word,rfl,hR.wd,by rw[hR.n];decide,?_⟩;unfold xt at q;unfold ja;cases e:ms.filter (on word) with
 |nil=>
  rw[e]at q;symm;refine⟨_,_,_,rfl,rfl,rfl,⟨_,rfl,?_⟩⟩;exact ve (by decide+kernel) q
 |cons m r=>
  rw[e]at q;have aF:m∈ms:=(Dz.mp (by rw[e];exact DH)).1;have iR:=hR.ofKind aF;have g6:=hR.wd m aF;symm;refine⟨_,_,_,rfl,rfl,rfl,⟨_,rfl,?_⟩⟩;have ei:inV (V.str m.1) [V.str "far", V.str "pair"]=decide (m.1 = "far" \/ m.1 = "pair"):=by
   rw[show([V.str "far", V.str "pair"]:List V)=(["far","pair"]:List Str).map V.str from rfl,xy];exact decide_eq_decide.mpr ⟨λz=>by rcases Dr.mp z with z|z;exact .inl z;exact .inr (Do.mp z),λz=>by rcases z with z|z;rw[z];exact .head _;rw[z];exact .tail _ (.head _)⟩
  show if inV (V.str m.1) [V.str "far", V.str "pair"]=true then _ else _
  rw[ei];refine ite2 (λh=>?_) (λh=>?_)
  ·have h:=Us h
   rw[show(match m::r with | []=>none|m::_=>if m.1 = "far" \/ m.1 = "pair" then some (m.1,word / 2^m.2.1.toNat) else none)=some (m.1,word / 2^m.2.1.toNat)from Uj h]at q;exact⟨bits,ms,word,m.1,m,rfl,by rw[hR.n];decide,iR,g6.1,q⟩
  ·have h:¬(m.1 = "far" \/ m.1 = "pair"):=λz=>h (Ur z)
   rw[show(match m::r with | []=>none|m::_=>if m.1 = "far" \/ m.1 = "pair" then some (m.1,word / 2^m.2.1.toNat) else none)=none from Uh h]at q;exact q
def wOf(ms:List Mk3)(kind:Str):Int:=match ms.filter (λm=>decide (m.1=kind)) with
 |m::_=>m.2.1
 | []=>0
theorem Zq(h:OfKind ms kind m):wOf ms kind=m.2.1:=by
 obtain⟨r,e⟩:=h;unfold wOf;rw[e]
def Z6(bits:Int)(ms:List Mk3)(room:Int):Int:=min3 room (2^(bits-wOf ms "far").toNat) (2^(bits-wOf ms "pair").toNat)
theorem q3j(hR:Right bits ms)(h:kind∈QF):1<=wOf ms kind/\2<=bits-wOf ms kind/\bits-wOf ms kind<=31:=by
 obtain⟨m,hm⟩:=hR.kind h;rw[Zq hm];have rN:m∈ms:=by
  obtain⟨rest,hr⟩:=hm;exact(Dz.mp (by rw[hr];exact .head _)).1
 have h1:=hR.w m rN;have h2:=zI m.1;have h3:=hR.b;lia
abbrev xj:Stmt:=top 49
theorem VE:q00 ["laying","room"] ["laying","room"] (qc xj):=by ac_rfl
def q7A:List T->(T->Prop)->Prop:=λts Q=>∃(bits:Int)(ms:List Mk3)(room:Int),ts=[layT bits ms,.int room]/\Right bits ms/\Q (.int (Z6 bits ms room))
theorem q4A(F:Fun Ξ "most_outside" "most_outside" xj f fd)(N:Nms mg)(ao:Def P w Ξ mg base "load_bits" 2 ["laying","kind"] (spP G3)):FnOk P w Ξ mg base CX0 3 f fd ["laying","room"] (spP q7A):=by
 refine F.zP VE (by rintro _ _ ⟨_,_,_,rfl,_⟩;rfl) (λa9 A outer s H E hr=>?_);refine⟨_,(qd (qp (qx (qaS rfl) (by rfl) N.min q3E (qa3 qv1 (ql zo qa (qg ao (WE hr) (qa2 qv0 qe))) (ql zo qa (qg ao (WE hr) (qa2 qv0 qe))))))),_,(zx (qaP q1I (by right))),λts Qt h=>?_⟩;obtain⟨bits,ms,room,rfl,hR,q⟩:=h;obtain⟨m1,mz⟩:=hR.kind (kind := "far") (by decide+kernel);obtain⟨m2,iL⟩:=hR.kind (kind := "pair") (by decide+kernel);have h1:=q3j hR (kind := "far") (by decide+kernel);have h2:=q3j hR (kind := "pair") (by decide+kernel);have hl:ms.length<=900:=by rw[hR.n];decide
 unfold Z6 at q;rw[Zq mz]at q h1;rw[Zq iL]at q h2;symm;refine⟨bits,ms,_,m1,rfl,hl,mz,?_⟩;symm;refine⟨⟨by lia,by lia,by decide⟩,bits,ms,_,m2,rfl,hl,iL,?_⟩;symm;refine⟨⟨by lia,by lia,by decide⟩,?_⟩;simp only[q6a,DX];symm;exact q
def pwI(os:List Int)(k:Nat):List Int:=if os[k]?=some 1 then(os.drop (k+1)).take 2 else[]
theorem qaw{os:List Int}(h:a<=b)(hb:b<=os.length):cutT (os.map T.int) (some (a:Int)) (some (b:Int))=((os.drop a).take (b-a)).map T.int:=by
 unfold cutT;rw[HT.sIx_nat,HT.sIx_nat,Dd,Rq hb,Rq (DB h hb),qbi,qbj]
abbrev xg:Stmt:=top 38
theorem VB:q00 ["outside","address"] ["outside","address"] (qc xg):=by ac_rfl
def GZ:List T->(T->Prop)->Prop:=λts Q=>∃(os:List Int)(k:Nat)(x:Int),ts=[vb os,.int k]/\os[k]?=some x/\k+qO x<=os.length/\Q (vb (pwI os k))
theorem q0d(F:Fun Ξ "pair_words_at" "pair_words_at" xg f fd)(aV:GInt mg "PAIR_HEAD" 1):FnOk P w Ξ mg base CX0 1 f fd ["outside","address"] (spP GZ):=by
 refine F.zP VB (by rintro _ _ ⟨_,_,_,rfl,_⟩;rfl) (λa9 A outer s H E hr=>?_);refine⟨_,(qd (qp (vd (qh op_eq (qr (Ub Ξ) qv0 qv1 (λ_ _=>rfl)) (zF aV rfl) (qt _)) (vc (Ua Ξ) qv0 (qY (ql qL qv1 qa)) (qY (ql qL qv1 qa))) (qw v7)))),_,(by right),λts Qt h=>?_⟩;obtain⟨os,k,x,rfl,hx,he,q⟩:=h;symm;refine qB (atT hx) ?_;symm;unfold pwI at q;refine ite2 (λz=>?_) (λz=>?_)
 ·subst z
  rw[Uj hx]at q;symm;have e1:((k:Int)+1)=((k+1:Nat):Int):=by push_cast;rfl
  have e3:((k:Int)+3)=((k+3:Nat):Int):=by push_cast;rfl
  rw[e1,e3,qaw (by lia) (by unfold qO at he;rw[Uj rfl]at he;lia),show k+3-(k+1)=2 by lia];exact q
 ·rw[Uh (by rw[hx];exact λy=>z (Option.some.inj y))]at q
  symm;exact q
def Yj(ms:List Mk3)(word:Int)(k:Nat):Prop:=∃s,xt word ms=some (s,(k:Int))
inductive Rch(ms:List Mk3)(ws os:List Int):Nat->Prop
 |of {word:Int}{k:Nat}:word∈ws->Yj ms word k->Rch ms ws os k
 |to {j k:Nat}{word:Int}:Rch ms ws os j->word∈pwI os j->Yj ms word k->Rch ms ws os k
structure SI(bits:Int)(ms:List Mk3)(ws os:List Int)(hs:List Nat):Prop where
 R:Right bits ms
 h:Hds os hs
 w:∀word∈ws,∀s a,xt word ms=some (s,a)->∃k∈hs,a=(k:Int)
 o:∀j∈hs,∀word∈pwI os j,∀s a,xt word ms=some (s,a)->∃k∈hs,a=(k:Int)
 n:ws.length<=1000
theorem Qh:∀{ks hs:List Nat},ks.Nodup->(∀k∈ks,k∈hs)->ks.length<=hs.length
 | [],_,_,_=>DQ _
 |k::ks,hs,h1,h2=>by
  have hk:=h2 k (.head _);rw[D0]at h1;have:=Qh (hs:=hs.erase k) h1.2 λx hx=>(List.mem_erase_of_ne (λz:x=k=>h1.1 (z▸hx))).mpr (h2 x (.tail _ hx));rw[List.length_erase_of_mem hk]at this;have:=RQ hk;rw[Dj];lia
def xH(ks:List Nat):List (Key×U):=ks.map λ(k:Nat)=>(Key.inl (k:Int),U.p (.bl true))
theorem Xc{k:Nat}:(valU (xH ks) (.inl (k:Int))).isSome=decide (k∈ks):=by
 induction ks with
 |nil=>rfl
 |cons j ks ih=>
  unfold xH valU at ih ⊢;rw[Dx,D6];by_cases h:j=k
  ·subst h
   simp
  ·have h1:¬((Key.inl (j:Int):Key)=Key.inl (k:Int)):=λz=>h (by injection z with z;exact_mod_cast z)
   simp only[h1,U6];rw[ih];simp[Ne.symm h]
theorem GI{k:Nat}(h:k∉ks):putU (xH ks) (.inl (k:Int)) (.p (.bl true))=xH (ks++[k]):=by
 rw[Ka]
 ·unfold xH
  rw[Ds];rfl
 ·intro kv hkv z
  obtain⟨j,hj,rfl⟩:=DP.mp hkv;have z:(Key.inl (j:Int):Key)=Key.inl (k:Int):=z;injection z with z
  exact h ((by exact_mod_cast z:j=k)▸hj)
abbrev xf:Stmt:=top 41
theorem scReachedFrom:q00 ["laying","words","outside","reached","waiting","address"] ["laying","words","outside"] (qc xf):=by ac_rfl
def q2X:List U->MM->UK->Prop:=λus M Q=>∃(bits:Int)(ms:List Mk3)(ws os:List Int)(hs:List Nat),us=[.p (layT bits ms),.p (vb ws),.p (vb os)]/\SI bits ms ws os hs/\∀ks:List Nat,ks.Nodup->(∀k,k∈ks↔Rch ms ws os k)->(∀k∈ks,k∈hs)->Q (.m M.length) (M++[.dK (xH ks),.lst []])
structure RI(ms:List Mk3)(ws os:List Int)(hs:List Nat)(ks:List Nat)(L:List Int):Prop where
 nd:ks.Nodup
 r:∀k∈ks,k∈hs/\Rch ms ws os k
 f:∀x∈L,x∈ws\/∃j∈ks,x∈pwI os j
 c:∀x k,(x∈ws\/∃j∈ks,x∈pwI os j)->Yj ms x k->k∈ks\/x∈L
 l:L.length<=ws.length+2*ks.length
theorem VW{os:List Int}:(pwI os k).length<=2:=by
 unfold pwI;split
 ·rw[DM];lia
 ·exact DQ _
theorem q4N{l:List Int}(h:l≠[]):∃x,l[l.length-1]?=some x/\x∈l/\l=l.dropLast++[x]:=by
 have hp:=R9.mpr h;refine⟨l[l.length-1],Dc (by lia),R0 _,?_⟩;have:=List.dropLast_concat_getLast h;rw[List.getLast_eq_getElem]at this;exact this.symm
theorem q1G(F:Fun Ξ "reached_from" "reached_from" xf f fd)(N:Nms mg)(az:Def P w Ξ mg base "address_of" 3 ["laying","word"] (spP q0x))(aG:Def P w Ξ mg base "pair_words_at" 1 ["outside","address"] (spP GZ)):FnOk P w Ξ mg base CX0 4 f fd ["laying","words","outside"] (spU q2X):=by
 refine F.zU scReachedFrom (by rintro _ _ _ ⟨_,_,_,_,_,rfl,_⟩;rfl) (λa9 A outer s H E hr=>?_);refine⟨_,(qb (qi (i:=3) scReachedFrom.nd rfl GC Wz) (qb (qi (i:=4) scReachedFrom.nd rfl GC (qT qI (by rfl) N.list zy (qa1 qv1))) (qb (VT PassesOwn.never (ZN (Ξ:=Ξ) rfl qv4 (λ_=>rfl)) (qb (qi (i:=5) scReachedFrom.nd rfl GC (qg az (WE hr) (qa2 qv0 (q2d PySem.F.plainAttrs_list PySem.F.slot_list_pop PySem.F.type_list_pop q7M qv4)))) (qd (vp (Q0 (j8 (qh Jm qv5 vG (qt _)) (xl (Wv (Jy hr) qv5 qv3)))) (qb (Ww (Jy hr) qv3 qv5 q1r) (qd (vq (Q1 PySem.F.slot_list_extend PySem.F.type_list_extend Qj qv4 (qa1 (qg aG (WE hr) (qa2 qv2 qv5))))))) qJ)))) (qd (qp qv3))))),_,(qk (vf qaO (qH 3)) (qk (vf (q1x (qo (qm 1) qU)) (qH 4)) (qk (Ky (q2S (qm 4)) (qk (vf (xE (qo (qm 0) (qo (q8w q5P (qm 4)) qU))) (qH 5)) (j2 (q37 (by right) (ct_b (qaN (qm 5) (qm 3)))) (by right) vP))) (by right)))),λus M Qu h=>?_⟩;obtain⟨bits,ms,ws,os,hs,rfl,hS,q⟩:=h;symm;simp only[YG];symm;refine⟨_,_,rfl,.inl rfl,?_⟩;symm;have ft:(M++[MO.dK []]).length=M.length+1:=by simp
 rw[ft,DF];refine⟨λd ρ M'=>∃(ks:List Nat)(L:List Int)(x5:Option U),d=L.length+3*(hs.length-ks.length)/\ρ=[some (.p (layT bits ms)),some (.p (vb ws)),some (.p (vb os)),some (.m M.length),some (.m (M.length+1)),x5]/\M'=M++[.dK (xH ks),.lst ((L.map T.int).map U.p)]/\RI ms ws os hs ks L,⟨_, [],ws,_,rfl,rfl,rfl,⟨qa9,(λk z=>nomatch z),(λx h=>.inl h),(λx k h _=>.inr (h.elim id λ⟨j,z,_⟩=>nomatch z)),by simp⟩⟩,?_⟩;rintro d ρ M' ⟨ks,L,x5,rfl,rfl,rfl,I⟩;have c8:=Qh I.nd λk hk=>(I.r k hk).1;have hhl:=hS.h.len;have hn:=hS.n;have g0:∀a b:MO,(M++[a,b])[M.length]?=some a:=λa b=>by simp
 have g1:∀a b:MO,(M++[a,b])[M.length+1]?=some b:=λa b=>by simp
 have t0:∀a b c:MO,(M++[a,b]).set M.length c=M++[c,b]:=λa b c=>by simp
 have t1:∀a b c:MO,(M++[a,b]).set (M.length+1) c=M++[a,c]:=λa b c=>by simp
 symm;simp only[q7F];symm;refine⟨!((L.map T.int).map U.p).isEmpty,by simp only[truU,g1],?_⟩;refine ite2 (λhL=>?_) (λhL=>?_)
 ·have hL:L≠[]:=λz=>by rw[z]at hL;cases hL
  obtain⟨x,hx,nD,nE⟩:=q4N hL;have rO:((L.map T.int).map U.p)[((L.map T.int).map U.p).length-1]?=some (.p (.int x)):=by rw[Dd,Dd,Dv,Dv,hx];rfl
  have rP:((L.map T.int).map U.p).dropLast=((L.dropLast.map T.int).map U.p):=by rw[List.map_dropLast,List.map_dropLast]
  have rK:L.length=L.dropLast.length+1:=by rw[B0];have:=R9.mpr hL;lia
  refine⟨λρ iQ=>∃(ip:List Nat)(L':List Int)(mB:Option U),L'.length+3*(hs.length-ip.length)<L.length+3*(hs.length-ks.length)/\ρ=[some (.p (layT bits ms)),some (.p (vb ws)),some (.p (vb os)),some (.m M.length),some (.m (M.length+1)),mB]/\iQ=M++[.dK (xH ip),.lst ((L'.map T.int).map U.p)]/\RI ms ws os hs ip L',?_,?_⟩
  ·rintro b8 iQ ⟨ip,L',mB,h1,rfl,rfl,I'⟩
   exact⟨_,h1,ip,L',mB,rfl,rfl,rfl,I'⟩
  ·symm
   simp only[uMe0];symm;refine⟨_,_,rfl,g1 _ _,_,rfl,rO,?_⟩;dsimp only;rw[t1,rP];symm;refine⟨bits,ms,x,rfl,hS.R,?_⟩;have skip:(∀k,Yj ms x k->k∈ks)->RI ms ws os hs ks L.dropLast:=λh=>by
    refine⟨I.nd,I.r,λy hy=>I.f y (Ro (by rw[BS]at hy;exact hy)),λy k h1 h2=>?_,by have:=I.l;lia⟩;rcases I.c y k h1 h2 with z|z
    ·exact .inl z
    ·rw[nE]at z
     rcases Dl.mp z with z|z
     ·exact .inr z
     ·rw[Do.mp z]at h2
      exact .inl (h k h2)
   cases ea:xt x ms with
   |none=>
    unfold Yw;symm;exact⟨ks,L.dropLast,_,by lia,rfl,rfl,skip λk zz=>by obtain⟨s,z⟩:=zz;rw[ea]at z;cases z⟩
   |some p=>
    obtain⟨sk,a⟩:=p;obtain⟨k,hk,rfl⟩:∃k∈hs,a=(k:Int):=by
     rcases I.f x nD with z|⟨j,hj,z⟩
     ·exact hS.w x z sk a ea
     ·exact hS.o j (I.r j hj).1 x z sk a ea
    have gz:∀j,Yj ms x j->j=k:=λj zz=>by obtain⟨s,z⟩:=zz;rw[ea]at z;cases z;rfl
    unfold Yw;symm;refine qam (g0 _ _) ?_;rw[Xc];symm;refine ite2 (λcz=>?_) (λcz=>?_)
    ·have cz:k∉ks:=by simpa using cz
     obtain⟨y,hy,nF,_⟩:=hS.h.at k hk;have mC:=Qh (ks:=k::ks) (D0.mpr ⟨cz,I.nd⟩) λj hj=>by
      rcases Dr.mp hj with rfl|hj
      ·exact hk
      ·exact(I.r j hj).1
     rw[Dj]at mC;have rQ:Rch ms ws os k:=by
      rcases I.f x nD with z|⟨j,hj,z⟩
      ·exact .of z ⟨sk,ea⟩
      ·exact .to (I.r j hj).2 z ⟨sk,ea⟩
     have hl:=I.l;symm;refine Ks (g0 _ _) (by unfold xH;rw[Dd,Ul];lia) ?_;rw[GI cz,t0];symm;refine⟨_,rfl,⟨_,g1 _ _⟩,?_⟩;symm;refine⟨os,k,y,rfl,hy,nF,?_⟩;symm;refine⟨_,g1 _ _,_,rfl,?_,?_⟩
     ·simp only[Dd];have:=VW (os:=os) (k:=k);rw[Ul];lia
     dsimp only;rw[t1, <-Ds, <-Ds];refine⟨ks++[k],L.dropLast++pwI os k,_,?_,rfl,rfl,?_⟩
     ·have:=VW (os:=os) (k:=k)
      rw[Dg,Dg];show _+3*(hs.length-(ks.length+1))<_;lia
     ·refine⟨?_,λj hj=>?_,λz hz=>?_,λz j h1 h2=>?_,?_⟩
      ·rw[Rg]
       exact⟨I.nd,by simp,λa ha b hb z=>cz (by rw[Do.mp hb]at z;exact z▸ha)⟩
      ·rcases Dl.mp hj with hj|hj
       ·exact I.r j hj
       ·rw[Do.mp hj];exact⟨hk,rQ⟩
      ·rcases Dl.mp hz with hz|hz
       ·rcases I.f z (Ro (by rw[BS]at hz;exact hz))with u|⟨j,hj,u⟩
        ·exact .inl u
        ·exact .inr ⟨j,Dp _ hj,u⟩
       ·exact .inr ⟨k,by simp,hz⟩
      ·have old:(z∈ws\/∃j∈ks,z∈pwI os j)->j∈ks++[k]\/z∈L.dropLast++pwI os k:=λh1=>by
        rcases I.c z j h1 h2 with u|u
        ·exact .inl (Dp _ u)
        ·rw[nE]at u
         rcases Dl.mp u with u|u
         ·exact .inr (Dp _ u)
         ·rw[Do.mp u]at h2
          exact .inl (by rw[gz j h2];simp)
       rcases h1 with u|⟨i,hi,u⟩
       ·exact old (.inl u)
       ·rcases Dl.mp hi with hi|hi
        ·exact old (.inr ⟨i,hi,u⟩)
        ·rw[Do.mp hi]at u
         exact .inr (Dt _ u)
      ·have:=VW (os:=os) (k:=k)
       rw[Dg,Dg];show _<=_+2*(ks.length+1);lia
    ·have cz:k∈ks:=by simpa using cz
     exact⟨ks,L.dropLast,_,by lia,rfl,rfl,skip λj z=>gz j z▸cz⟩
 ·have hL:L=[]:=by
   cases L with
   |nil=>rfl
   |cons=>exact absurd rfl hL
  subst hL;symm;refine q ks I.nd (λk=>⟨λhk=>(I.r k hk).2,λhk=>?_⟩) λk hk=>(I.r k hk).1;have cl:∀x k,(x∈ws\/∃j∈ks,x∈pwI os j)->Yj ms x k->k∈ks:=λx k h1 h2=>(I.c x k h1 h2).elim id λz=>nomatch z
  induction hk with
  |of h1 h2=>exact cl _ _ (.inl h1) h2
  |to _ h1 h2 ih=>exact cl _ _ (.inr ⟨_,ih,h1⟩) h2
theorem YT{os:List Int}:∀(n k:Nat),os.length-k<=n->(thI bits sm os k).2.Pairwise (λa b=>a+szK os a<=b)
 |n,k,hn=>by
  by_cases hk:k<os.length
  ·obtain⟨x,hx⟩:∃x,os[k]?=some x:=⟨_,Dc hk⟩
   cases hb:xI bits sm os k x with
   |none=>
    have hs:=zN hb;rw[Zv hx hb]
    match n,hn with
    |0,hn=>lia
    |n+1,hn=>
     refine DV.mpr ⟨λj hj=>?_,YT n (k+(qO x).toNat) (by lia)⟩;have:=(Zw _ _ (Dh _) j hj).1;have e:szK os k=(qO x).toNat:=by unfold szK;rw[hx];rfl
     lia
   |some w=>
    rw[Q8,show badK bits sm os k=some w by unfold badK;rw[hx];exact hb];split
    ·exact .nil
    ·exact .nil
  ·rw[kO (by lia)]
   exact .nil
theorem Hds.gap{os:List Int}(h:Hds os hs):hs.Pairwise (λa b=>a+szK os a<=b):=by
 obtain⟨bits,sm,_,rfl⟩:=h.ex;exact YT _ _ (Dh _)
theorem Hds.sz{os:List Int}(h:Hds os hs)(hk:k∈hs):k<os.length/\k+szK os k<=os.length/\2<=szK os k/\∃x,os[k]?=some x/\szK os k=(qO x).toNat/\2<=qO x:=by
 obtain⟨bits,sm,_,rfl⟩:=h.ex;obtain⟨_,h1,x,hx,hb⟩:=Zw _ _ (Dh _) k hk;have h2:=zN hb;have e:szK os k=(qO x).toNat:=by unfold szK;rw[hx];rfl
 exact⟨h1,by lia,by lia,x,hx,e,h2.1⟩
def offs(os:List Int):List Nat->Nat->List (Nat×Nat)
 | [],_=>[]
 |k::r,n=>(k,n)::offs os r (n+szK os k)
def szs(os:List Int)(rs:List Nat):Nat:=(rs.map (szK os)).sum
theorem Kf{os:List Int}:∀{r:List Nat}{k n:Nat},offs os (r++[k]) n=offs os r n++[(k,n+szs os r)]
 | [],k,n=>by simp[offs,szs]
 |j::r,k,n=>by
  show(j,n)::offs os (r++[k]) (n+szK os j)=(j,n)::(offs os r (n+szK os j)++[(k,n+szs os (j::r))]);rw[Kf];simp only[szs,Dx,Bx,Nat.add_assoc]
theorem ku{os:List Int}:∀{r:List Nat}{n:Nat},(offs os r n).map (·.1)=r
 | [],_=>rfl
 |k::r,n=>Uo (k :: ·) ku
theorem Gg{os:List Int}:∀{rs:List Nat}{n:Nat},rs.Pairwise (λa b=>a+szK os a<=b)->(∀k∈rs,n<=k)->∀p∈offs os rs n,p.2<=p.1
 | [],_,_,_=>λp hp=>nomatch hp
 |k::r,n,h,hn=>λp hp=>by
  rw[DV]at h;rcases Dr.mp hp with rfl|hp
  ·exact hn k (.head _)
  ·exact Gg h.2 (λj hj=>by have:=h.1 j hj;have:=hn k (.head _);lia) p hp
def plD(os:List Int)(rs:List Nat):List (Key×U):=(offs os rs 0).map λp=>(Key.inl (p.1:Int),U.p (.int (p.2:Int)))
theorem WK{os:List Int}:(plD os rs).length=rs.length:=by
 unfold plD;rw[Dd, <-Dd (f:=Prod.fst),ku]
theorem q5s{os:List Int}{k:Nat}(h:k∉rs):putU (plD os rs) (.inl (k:Int)) (.p (.int (szs os rs:Int)))=plD os (rs++[k]):=by
 rw[Ka]
 ·unfold plD
  rw[Kf,Ds,Rz];rfl
 ·intro kv hkv z
  obtain⟨p,hp,rfl⟩:=DP.mp hkv;have z:(Key.inl (p.1:Int):Key)=Key.inl (k:Int):=z;injection z with z
  have:p.1∈rs:=by
   have:=Rv (f:=Prod.fst) hp;rwa [ku]at this
  exact h ((by exact_mod_cast z:p.1=k)▸this)
theorem q5f{os:List Int}:szs os (rs++[k])=szs os rs+szK os k:=by
 unfold szs;rw[Ds,List.sum_append];simp
abbrev jL:Stmt:=top 42
theorem scNewPlaces:q00 ["outside","reached","places","filled","address"] ["outside","reached"] (qc jL):=by ac_rfl
def q3m:List U->MM->UK->Prop:=λus M Q=>∃(os:List Int)(hs ks:List Nat)(kd:Nat),us=[.p (vb os),.m kd]/\M[kd]?=some (.dK (xH ks))/\Hds os hs/\Q (.m M.length) (M++[.dK (plD os (hs.filter λk=>decide (k∈ks)))])
theorem q1w(F:Fun Ξ "new_places" "new_places" jL f fd)(cr:Def P w Ξ mg base "heads_in" 2 ["outside"] (spP q3d))(aJ:Def P w Ξ mg base "size_at" 1 ["outside","address"] (spP Xi)):FnOk P w Ξ mg base CX0 3 f fd ["outside","reached"] (spU q3m):=by
 refine F.zU scNewPlaces (by rintro _ _ _ ⟨_,_,_,_,rfl,_⟩;rfl) (λa9 A outer s H E hr=>?_);refine⟨_,(qb (qi (i:=2) scNewPlaces.nd rfl GC Wz) (qb (qi (i:=3) scNewPlaces.nd rfl GC qa) (qb (xL PassesOwn.never rfl (vA (Ξ:=Ξ) rfl (qg cr (WE hr) (qa1 qv0))) (vi (i:=4) scNewPlaces.nd rfl GC) (qd (vp (q6x (Jy hr) qv4 qv1) (qb (Ww (Jy hr) qv2 qv4 qv3) (qd (q3i (i:=3) scNewPlaces.nd rfl GC (qg aJ (WE hr) (qa2 qv0 qv4)) q3f))) qJ))) (qd (qp qv2))))),_,(qk (vf qaO (qH 2)) (qk (by right) (qk (Vm (by right) (qH 4) (j2 (ct_b (q7a (qm 4) (qm 1))) (by right) vP)) (by right)))),λus M Qu h=>?_⟩;obtain⟨os,hs,ks,kd,rfl,gC,hH,q⟩:=h;have c8:=(Db.mp gC).1;symm;refine⟨os,hs,rfl,hH,?_⟩;symm;refine kL (λi ρ M'=>∃x4,ρ=[some (.p (vb os)),some (.m kd),some (.m M.length),some (.p (.int (szs os ((hs.take i).filter λk=>decide (k∈ks)):Int))),x4]/\M'=M++[.dK (plD os ((hs.take i).filter λk=>decide (k∈ks)))]) ⟨_,rfl,rfl⟩ (λi t ρ M' ht hI=>?_) (λρ M' hI=>?_)
 ·obtain⟨x4,rfl,rfl⟩:=hI
  rw[Dv]at ht;obtain⟨k,hk,rfl⟩:=DJ.mp ht;have m9:=De hk;obtain⟨z1,z2,z3,x,hx,hsz,fD⟩:=hH.sz m9;have ay:=hH.len;have m4:=(Db.mp hk).1;have htk:hs.take (i+1)=hs.take i++[k]:=by rw[RV,hk];rfl
  have g0:(M++[MO.dK (plD os ((hs.take i).filter λk=>decide (k∈ks)))])[kd]?=some (.dK (xH ks)):=by rw[Df c8];exact gC
  symm;refine qam g0 ?_;rw[Uh (by decide),Xc];symm;refine ite2 (λcz=>?_) (λcz=>?_)
  ·have cz:k∈ks:=by simpa using cz
   have gw:k∉(hs.take i).filter λk=>decide (k∈ks):=λz=>q5T hH.lt hk k (Dz.mp z).1 rfl;have hf:(hs.take (i+1)).filter (λk=>decide (k∈ks))=(hs.take i).filter (λk=>decide (k∈ks))++[k]:=by rw[htk,D8];simp[cz]
   symm;refine Ks (kvs:=plD os ((hs.take i).filter λk=>decide (k∈ks))) (by simp) (by rw[WK,Ul];have:=RA (λk=>decide (k∈ks)) (hs.take i);rw[DM]at this;lia) ?_;rw[q5s gw, <-hf,show ∀a b:MO,(M++[a]).set M.length b=M++[b]from λa b=>by simp];simp only[uAug];symm;refine⟨_,rfl,os,k,x,rfl,hx,_,rfl,?_⟩;refine⟨some (.p (.int k)),?_⟩;have e:((szs os ((hs.take i).filter λk=>decide (k∈ks))+(qO x).toNat:Nat):Int)=(szs os ((hs.take i).filter λk=>decide (k∈ks)):Int)+qO x:=by push_cast;lia
   rw[hf,q5f,hsz,e]
  ·have cz:k∉ks:=by simpa using cz
   have hf:(hs.take (i+1)).filter (λk=>decide (k∈ks))=(hs.take i).filter (λk=>decide (k∈ks)):=by rw[htk,D8];simp[cz]
   rw[hf];exact⟨_,rfl,rfl⟩
 ·obtain⟨x4,rfl,rfl⟩:=hI
  symm;rw[Dd,DO];exact q
def plAt(os:List Int)(rs:List Nat)(k:Nat):Nat:=((offs os rs 0).lookup k).getD 0
theorem V0{os:List Int}:∀{rs:List Nat}{n:Nat},k∈rs->∃a,(k,a)∈offs os rs n/\(offs os rs n).lookup k=some a/\valU ((offs os rs n).map λp=>(Key.inl (p.1:Int),U.p (.int (p.2:Int)))) (.inl (k:Int))=some (.p (.int (a:Int)))
 | [],_,h=>nomatch h
 |j::r,n,h=>by
  by_cases e:j=k
  ·subst e
   exact⟨n,.head _,by simp[offs,DC],by simp[offs,valU]⟩
  ·have hk:k∈r:=(Dr.mp h).elim (λz=>absurd z.symm e) id
   obtain⟨a,h1,h2,h3⟩:=V0 (rs:=r) (n:=n+szK os j) hk;have ne:¬((Key.inl (j:Int):Key)=Key.inl (k:Int)):=λz=>e (by injection z with z;exact_mod_cast z);refine⟨a,.tail _ h1,?_,?_⟩
   ·show List.lookup k ((j,n)::_)=_
    rw[DC,beq_eq_false_iff_ne.mpr (Ne.symm e)];exact h2
   ·unfold valU at h3 ⊢
    show Option.map _ (List.find? _ ((Key.inl (j:Int),_)::_))=_;rw[D6];simp only[ne,U6];exact h3
theorem q4L{os:List Int}{k:Nat}(h:k∈rs):valU (plD os rs) (.inl (k:Int))=some (.p (.int (plAt os rs k:Int))):=by
 obtain⟨a,_,h2,h3⟩:=V0 (os:=os) (n:=0) h;unfold plD plAt;rw[h3,h2];rfl
theorem q4t{os:List Int}(g:rs.Pairwise (λa b=>a+szK os a<=b))(h:k∈rs):plAt os rs k<=k:=by
 obtain⟨a,h1,h2,_⟩:=V0 (os:=os) (n:=0) h;unfold plAt;rw[h2];exact Gg g (λ_ _=>DQ _) _ h1
structure MV(bits:Int)(ms:List Mk3)(os:List Int)(rs:List Nat):Prop where
 R:Right bits ms
 g:rs.Pairwise (λa b=>a+szK os a<=b)
 l:∀k∈rs,k<os.length
 f:∀m∈ms,m.1 = "far" \/ m.1 = "pair" -> (os.length:Int)<=2^(bits-m.2.1).toNat
def mvW(bits:Int)(ms:List Mk3)(pl:Nat->Nat)(word:Int):Int:=match ms.filter (on word) with
 | []=>word
 |m::_=>if m.1 = "far" \/ m.1 = "pair" then xJ bits m (pl (word / 2^m.2.1.toNat).toNat) else word
abbrev jM:Stmt:=top 43
theorem scMovedWord:q00 ["laying","places","word","address"] ["laying","places","word"] (qc jM):=by ac_rfl
def JB:List U->MM->UK->Prop:=λus M Q=>∃(bits:Int)(ms:List Mk3)(os:List Int)(rs:List Nat)(word:Int)(kd:Nat)(ob:Obj)(gs:List (Key×V)),us=[.p (layT bits ms),.m kd,.p (.int word)]/\M[kd]?=some (.dF (plD os rs) ob gs)/\MV bits ms os rs/\(∀s a,xt word ms=some (s,a)->∃k∈rs,a=(k:Int))/\Q (.p (.int (mvW bits ms (plAt os rs) word))) M
theorem Gc(F:Fun Ξ "moved_word" "moved_word" jM f fd)(az:Def P w Ξ mg base "address_of" 3 ["laying","word"] (spP q0x))(ar:Def P w Ξ mg base "mark_of" 2 ["laying","word"] (spP jc))(am:Def P w Ξ mg base "word_of" 3 ["laying","worth"] (spP zJ)):FnOk P w Ξ mg base CX0 4 f fd ["laying","places","word"] (spU JB):=by
 refine F.zU scMovedWord (by rintro _ _ _ ⟨_,_,_,_,_,_,_,_,rfl,_⟩;rfl) (λa9 A outer s H E hr=>?_);refine⟨_,(qb (qi (i:=3) scMovedWord.nd rfl GC (qg az (WE hr) (qa2 qv0 qv2))) (qb (vp (qh Kd qv3 vG (qt _)) (qd (qp qv2)) qJ) (qd (qp (qg am (WE hr) (qa2 qv0 (qA (qa2 (qg ar (WE hr) (qa2 qv0 qv2)) (Ji (Jy hr) qv1 qv3 (λ_ _=>rfl)))))))))),_,(qk (by right) (qk (by right) (zx (xE (qo (qm 0) (qo (KJ (qo (by right) (qo (q12 (qm 1) (qm 3)) qU))) qU)))))),λus M Qu h=>?_⟩;obtain⟨bits,ms,os,rs,word,kd,ob,gs,rfl,gC,hV,hl,q⟩:=h;have hR:=hV.R;symm;refine⟨bits,ms,word,rfl,hR,?_⟩;unfold mvW at q;have ea:xt word ms=match ms.filter (on word) with
  | []=>none
  |m::_=>if m.1 = "far" \/ m.1 = "pair" then some (m.1,word / 2^m.2.1.toNat) else none:=rfl
 cases e:ms.filter (on word) with
 |nil=>
  rw[e]at q ea;rw[ea];unfold Yw;symm;exact q
 |cons m r=>
  rw[e]at q ea;have aF:m∈ms:=(Dz.mp (by rw[e];exact DH)).1;by_cases hm:m.1 = "far" \/ m.1 = "pair"
  ·have q:Qu (.p (.int (xJ bits m (plAt os rs (word / 2^m.2.1.toNat).toNat)))) M:=by
    have:=q;dsimp only at this;rwa [Uj hm]at this
   have ea:xt word ms=some (m.1,word / 2^m.2.1.toNat):=by rw[ea];exact Uj hm
   obtain⟨k,hk,nG⟩:=hl _ _ ea;rw[ea];rw[nG,RS]at q;unfold Yw;dsimp only;rw[nG];symm;refine⟨bits,ms,word,rfl,hR.wd,by rw[hR.n];decide,?_⟩;unfold ja;rw[e];symm;simp only[q38];symm;refine⟨kd,_,_,_,.inl (k:Int),_,rfl,gC,rfl,q4L hk,?_⟩;symm;have g6:=hR.w m aF;have gu:=zI m.1;have hb:=hR.b;have bY:=hV.l k hk;have bR:=q4t hV.g hk;have hf:=hV.f m aF hm;exact⟨bits,ms,_,m.1,(plAt os rs k:Int),m,rfl,by rw[hR.n];decide,.tup _,hR.ofKind aF,by lia,by lia,by lia,.inr ⟨by lia,by lia⟩,q⟩
  ·have q:Qu (.p (.int word)) M:=by
    have:=q;dsimp only at this;rwa [Uh hm]at this
   have ea:xt word ms=none:=by rw[ea];exact Uh hm
   rw[ea];unfold Yw;symm;exact q
def mvT(bits:Int)(ms:List Mk3)(os:List Int)(pl:Nat->Nat)(k:Nat):List Int:=if os[k]?=some 1 then 1::(pwI os k).map (mvW bits ms pl) else(os.drop k).take (szK os k)
abbrev xW:Stmt:=top 44
theorem ZM:q00 ["laying","places","outside","address"] ["laying","places","outside","address"] (qc xW):=by ac_rfl
theorem V2:(["laying","places","outside","address","word"]:List Str).Nodup:=by decide+kernel
def G1:List U->MM->UK->Prop:=λus M Q=>∃(bits:Int)(ms:List Mk3)(os:List Int)(rs:List Nat)(k:Nat)(x:Int)(kd:Nat)(ob:Obj)(gs:List (Key×V)),us=[.p (layT bits ms),.m kd,.p (vb os),.p (.int k)]/\M[kd]?=some (.dF (plD os rs) ob gs)/\MV bits ms os rs/\os[k]?=some x/\2<=qO x/\k+qO x<=os.length/\os.length<=1000/\(∀word∈pwI os k,∀s a,xt word ms=some (s,a)->∃k∈rs,a=(k:Int))/\Q (.p (vb (mvT bits ms os (plAt os rs) k))) M
theorem Gd(F:Fun Ξ "moved_thing" "moved_thing" xW f fd)(aV:GInt mg "PAIR_HEAD" 1)(aG:Def P w Ξ mg base "pair_words_at" 1 ["outside","address"] (spP GZ))(aO:Def P w Ξ mg base "moved_word" 4 ["laying","places","word"] (spU JB))(aJ:Def P w Ξ mg base "size_at" 1 ["outside","address"] (spP Xi)):FnOk P w Ξ mg base CX0 5 f fd ["laying","places","outside","address"] (spU G1):=by
 refine F.zU ZM (by rintro _ _ _ ⟨_,_,_,_,_,_,_,_,_,rfl,_⟩;rfl) (λa9 A outer s H E hr=>?_);refine⟨_,(qb (vp (qh op_eq (qr (Ub Ξ) qv2 qv3 (λ_ _=>rfl)) (zF aV rfl) (qt _)) (qd (qp (ql j9 (qw (qa1 (zF aV rfl))) (ZQ [true,true,false,false] ["word"] (vA (Ξ:=Ξ) rfl (qg aG (WE hr) (qa2 qv2 qv3))) (λ_ _ _=>(vi (i:=4) V2 rfl GC)) (λ_ _ _=>Qe) (λ_ _ _=>(qg aO (WE hr) (qa3 qv0 qv1 qv4))))))) qJ) (qd (qp (vc (Ua Ξ) qv2 (qY qv3) (qY (ql qL qv3 (qg aJ (WE hr) (qa2 qv2 qv3)))))))),_,(by right),λus M Qu h=>?_⟩;obtain⟨bits,ms,os,rs,k,x,kd,ob,gs,rfl,gC,hV,hx,fD,he,hz,hl,q⟩:=h;symm;refine qB (atT hx) ?_;symm;unfold mvT at q;refine ite2 (λz=>?_) (λz=>?_)
 ·subst z
  rw[Uj hx]at q;symm;refine⟨os,k,1,rfl,hx,he,?_⟩;symm;have bR:=VW (os:=os) (k:=k);refine vX (by rw[Dd,Ul];lia) (λi a8 M2=>M2=M/\a8=((pwI os k).take i).map λy=>T.int (mvW bits ms (plAt os rs) y)) ⟨rfl,rfl⟩ (λi t a8 M2 ht _ hI=>?_) (λa8 M2 hI=>?_)
  ·obtain⟨rfl,rfl⟩:=hI
   rw[Dv]at ht;obtain⟨y,hy,rfl⟩:=DJ.mp ht;symm;refine⟨bits,ms,os,rs,y,kd,ob,gs,rfl,gC,hV,hl y (De hy),_,rfl,rfl,?_⟩;rw[RV,hy,Ds];rfl
  ·obtain⟨rfl,rfl⟩:=hI
   rw[Dd,DO];symm;refine⟨by rw[Dd,Ul];lia,?_⟩;have e:vb (1::(pwI os k).map (mvW bits ms (plAt os rs)))=.lst (T.int 1::(pwI os k).map λy=>T.int (mvW bits ms (plAt os rs) y)):=by
    show T.lst (List.map T.int (1::List.map _ _))=_;rw[Dx,Ry];rfl
   rw[e]at q;exact q
 ·rw[Uh (by rw[hx];exact λy=>z (Option.some.inj y))]at q
  symm;refine⟨os,k,x,rfl,hx,?_⟩;symm;have e:(k:Int)+qO x=((k+(qO x).toNat:Nat):Int):=by push_cast;lia
  have ez:szK os k=(qO x).toNat:=by unfold szK;rw[hx];rfl
  rw[e,qaw (by lia) (by lia),show k+(qO x).toNat-k=szK os k by lia];exact q
noncomputable def rsOf(ms:List Mk3)(ws os:List Int)(hs:List Nat):List Nat:=hs.filter λk=>@decide (Rch ms ws os k) (Classical.propDecidable _)
noncomputable def swW(bits:Int)(ms:List Mk3)(ws os:List Int)(hs:List Nat):List Int:=ws.map (mvW bits ms (plAt os (rsOf ms ws os hs)))
noncomputable def swO(bits:Int)(ms:List Mk3)(ws os:List Int)(hs:List Nat):List Int:=(rsOf ms ws os hs).flatMap (mvT bits ms os (plAt os (rsOf ms ws os hs)))
set_option tactic.hygienic true in
theorem q5h{os:List Int}{k:Nat}(hx:os[k]?=some x)(he:k+qO x<=os.length)(h2:2<=qO x):(mvT bits ms os pl k).length=szK os k:=by
 have ez:szK os k=(qO x).toNat:=by unfold szK;rw[hx];rfl
 unfold mvT;split
 ·rename_i h
  rw[hx]at h;cases h;have:qO 1=3:=rfl;rw[Dj,Dd];unfold pwI;rw[Uj hx,DM,Ri];lia
 ·rw[DM,Ri]
  lia
theorem q0J(Iv:Nat->UEnv->MM->Prop)(h0:Iv 0 ρ M)(hk:∀i aE M2,Iv i aE M2->M2[d]?=some (.dF kvs ob gs))(hs:∀i aD v aE M2,kvs[i]?=some (aD,v)->Iv i aE M2->ug (keyU aD) aE M2 λeZ M3=>ub { E with nx:=Iv (i+1),ct:=Iv (i+1),bk:=E.nx } eZ M3)(hd:∀aE M2,Iv kvs.length aE M2->E.nx aE M2):UFor (itD false d kvs ob gs) ug ub E ρ M :=
 ⟨Iv,h0,λi aE M2 hi h=>⟨hk i aE M2 h,λu hu=>by
  obtain⟨aD,v,hkv,e⟩:=hu;have e:u=keyU aD:=e;subst e;exact hs i aD v aE M2 hkv h⟩,λaE M2 h=>⟨hk _ aE M2 h,hd aE M2 h⟩⟩
abbrev Wc:Stmt:=top 45
theorem scSwept:q00 ["laying","words","outside","places","left","address"] ["laying","words","outside"] (qc Wc):=by ac_rfl
theorem q0m:(["laying","words","outside","places","left","address","word"]:List Str).Nodup:=by decide+kernel
def q2c:List U->MM->UK->Prop:=λus M Q=>∃(bits:Int)(ms:List Mk3)(ws os:List Int)(hs:List Nat),us=[.p (layT bits ms),.p (vb ws),.p (vb os)]/\SI bits ms ws os hs/\(∀m∈ms,m.1 = "far" \/ m.1 = "pair" -> (os.length:Int)<=2^(bits-m.2.1).toNat)/\∀ks rs ob gs,Q (.m (M.length+5)) (M++[.dK (xH ks),.lst [],.dF (plD os rs) ob gs,.lst (((swO bits ms ws os hs).map T.int).map U.p),.lst (((swW bits ms ws os hs).map T.int).map U.p),.tup [.m (M.length+4),.m (M.length+3)]])
theorem q1f(F:Fun Ξ "swept" "swept" Wc f fd)(bd:Def P w Ξ mg base "reached_from" 4 ["laying","words","outside"] (spU q2X))(bE:Def P w Ξ mg base "new_places" 3 ["outside","reached"] (spU q3m))(bo:Def P w Ξ mg base "moved_thing" 5 ["laying","places","outside","address"] (spU G1))(aO:Def P w Ξ mg base "moved_word" 4 ["laying","places","word"] (spU JB)):FnOk P w Ξ mg base CX0 6 f fd ["laying","words","outside"] (spU q2c):=by
 refine F.zU scSwept (by rintro _ _ _ ⟨_,_,_,_,_,rfl,_⟩;rfl) (λa9 A outer s H E hr=>?_);refine⟨_,(qb (qi (i:=3) scSwept.nd rfl GD (qg bE (WE hr) (qa2 qv2 (qg bd (WE hr) (qa3 qv0 qv1 qv2))))) (qb (qi (i:=4) scSwept.nd rfl GC (qw v7)) (qb (xL PassesOwn.never rfl (q5B qv3) (vi (i:=5) scSwept.nd rfl GC) (qd (vq (Q1 PySem.F.slot_list_extend PySem.F.type_list_extend Qj qv4 (qa1 (qg bo (WE hr) (qa4 qv0 qv3 qv2 qv5))))))) (qd (qp (qA (qa2 (ZQ [true,false,false,true,false,false] ["word"] (vA (Ξ:=Ξ) rfl qv1) (λ_ _ _=>(vi (i:=6) q0m rfl GC)) (λ_ _ _=>Qe) (λ_ _ _=>(qg aO (WE hr) (qa3 qv0 qv3 qv6)))) qv4))))))),_,(qk (by right) (qk (vf (QN qU) (qH 4)) (qk (Vm (q4j (qm 3)) (qH 5) (by right)) (zx (q4f (qo (q0C (qaE (qm 1)) (KH 6) q3k (vW (qo (qm 0) (qo (qm 3) (qo (qm 6) qU))))) (by right))))))),λus M1 Qu h=>?_⟩;obtain⟨bits,ms,ws,os,hs,rfl,hS,hf,q⟩:=h;have hz:=hS.h.z;symm;refine⟨bits,ms,ws,os,hs,rfl,hS,λks nd hk hkh=>?_⟩;symm;refine⟨os,hs,ks,M1.length,rfl,by simp,hS.h,?_⟩;have rR:(hs.filter λk=>decide (k∈ks))=rsOf ms ws os hs:=by
  unfold rsOf;refine List.filter_congr λk _=>?_;by_cases h:Rch ms ws os k
  ·rw[Ur ((hk k).mpr h),@decide_eq_true _ (Classical.propDecidable _) h]
  ·rw[Um λz=>h ((hk k).mp z),@decide_eq_false _ (Classical.propDecidable _) h]
 rw[rR];generalize hgr:rsOf ms ws os hs=rs;symm;simp only[DF,Rj,D1,Dg,Dj,DR,Rz,Nat.reduceAdd];have g2:∀a b c d:MO,(M1++[a,b,c,d])[M1.length+2]?=some c:=λa b c d=>by simp
 have g3:∀a b c d:MO,(M1++[a,b,c,d])[M1.length+3]?=some d:=λa b c d=>by simp
 have t2:∀a b c d e:MO,(M1++[a,b,c,d]).set (M1.length+2) e=M1++[a,b,e,d]:=λa b c d e=>by simp
 have t3:∀a b c d e:MO,(M1++[a,b,c,d]).set (M1.length+3) e=M1++[a,b,c,e]:=λa b c d e=>by simp
 have iq:∀k∈rs,k∈hs/\Rch ms ws os k:=λk z=>by
  rw[<-hgr]at z;have z:=Dz.mp z;exact⟨z.1,@of_decide_eq_true _ (Classical.propDecidable _) z.2⟩
 have nH:∀k∈hs,Rch ms ws os k->k∈rs:=λk h1 h2=>by
  rw[<-hgr];exact Dz.mpr ⟨h1,@decide_eq_true _ (Classical.propDecidable _) h2⟩
 have hV:MV bits ms os rs:=⟨hS.R,by rw[<-hgr];exact hS.h.gap.sublist Bb,λk z=>(hS.h.sz (iq k z).1).1,hf⟩;have mh:rs.length<=1000:=by rw[<-hgr];exact DB (RA _ _) hS.h.len
 simp only[q3N];symm;refine⟨M1.length+2,plD os rs,rfl,.inl ⟨g2 _ _ _ _,λob gs=>?_⟩⟩;rw[t2];generalize ea0:MO.dK (xH ks)=a0;refine q0J (λi ρ M'=>∃x5,ρ=[some (.p (layT bits ms)),some (.p (vb ws)),some (.p (vb os)),some (.m (M1.length+2)),some (.m (M1.length+3)),x5]/\M'=M1++[a0,MO.lst [],.dF (plD os rs) ob gs,.lst ((((rs.take i).flatMap (mvT bits ms os (plAt os rs))).map T.int).map U.p)]) ⟨_,rfl,rfl⟩ (λi ρ M' h=>by obtain⟨_,_,rfl⟩:=h;exact g2 _ _ _ _) (λi aD v ρ M' hkv hI=>?_) (λρ M' hI=>?_)
 ·obtain⟨x5,rfl,rfl⟩:=hI
  unfold plD at hkv;rw[Dv]at hkv;obtain⟨p,hp,rS⟩:=DJ.mp hkv;cases rS;have mD:rs[i]?=some p.1:=by
   have:=Uo (λl=>l[i]?) (ku (os:=os) (r:=rs) (n:=0));rw[Dv,hp]at this;exact this.symm
  have iS:=De mD;obtain⟨z1,z2,z3,x,hx,hsz,fD⟩:=hS.h.sz (iq _ iS).1;have gA:=(iq _ iS).2;symm;refine⟨_,rfl,⟨_,g3 _ _ _ _⟩,?_⟩;symm;refine⟨bits,ms,os,rs,p.1,x,M1.length+2,ob,gs,rfl,g2 _ _ _ _,hV,hx,fD,by lia,hz,λy hy s a ha=>?_,?_⟩
  ·obtain⟨k,hk,rfl⟩:=hS.o _ (iq _ iS).1 y hy s a ha
   exact⟨k,nH k hk (.to gA hy ⟨s,ha⟩),rfl⟩
  dsimp only;have m4:=(Db.mp mD).1;have nI:∀k∈rs,(mvT bits ms os (plAt os rs) k).length<=1000:=λk hk=>by
   obtain⟨_,y2,_,y,hy,nF,rT⟩:=hS.h.sz (iq _ hk).1;rw[q5h hy (by lia) rT];lia
  have re:((rs.take i).flatMap (mvT bits ms os (plAt os rs))).length<=1000*i:=by
   have:∀l:List Nat,(∀k∈l,k∈rs)->(l.flatMap (mvT bits ms os (plAt os rs))).length<=1000*l.length:=λl=>by
    induction l with
    |nil=>exact λ_=>Dh _
    |cons a l ih=>
     intro h;have h1:=nI a (h a (.head _));have h2:=ih λk hk=>h k (.tail _ hk);rw[DS,Dg,Dj];lia
   refine DB (this _ λk hk=>Ro hk) ?_;rw[DM];lia
  have mz:=nI _ iS;refine⟨_,g3 _ _ _ _,_,rfl,?_,_,rfl,?_⟩
  ·simp only[Dd];rw[Ul];lia
  ·rw[t3, <-Ds, <-Ds,RV,mD,Rh]
   simp
 ·obtain⟨x5,rfl,rfl⟩:=hI
  symm;rw[WK,DO];have hn:=hS.n;generalize hgo:rs.flatMap (mvT bits ms os (plAt os rs))=os2;rw[YI];symm;refine UComp.new (R:=λu M'=>M'=M1++[a0,MO.lst [],MO.dF (plD os rs) ob gs,.lst ((os2.map T.int).map U.p)]/\u=.p (.lst (ws.map λy=>T.int (mvW bits ms (plAt os rs) y)))) (vX (by rw[Dd,Ul];lia) (λi a8 M2=>M2=M1++[a0,MO.lst [],MO.dF (plD os rs) ob gs,.lst ((os2.map T.int).map U.p)]/\a8=(ws.take i).map λy=>T.int (mvW bits ms (plAt os rs) y)) ⟨rfl,rfl⟩ (λi t a8 M2 ht _ hI=>?_) (λa8 M2 hI=>?_)) (λa8 M2 hI=>?_)
  ·obtain⟨rfl,rfl⟩:=hI
   rw[Dv]at ht;obtain⟨y,hy,rfl⟩:=DJ.mp ht;have nJ:=De hy;symm;refine⟨bits,ms,os,rs,y,M1.length+2,ob,gs,rfl,g2 _ _ _ _,hV,λs a ha=>?_,_,rfl,rfl,?_⟩
   ·obtain⟨k,hk,rfl⟩:=hS.w y nJ s a ha
    exact⟨k,nH k hk (.of nJ ⟨s,ha⟩),rfl⟩
   rw[RV,hy,Ds];rfl
  ·obtain⟨rfl,rfl⟩:=hI
   rw[Dd,DO];exact⟨rfl,rfl⟩
  ·obtain⟨rfl,ea⟩:=hI
   cases ea;have q:=q ks rs ob gs;rw[ea0]at q;unfold swW swO at q;rw[hgr,hgo,show List.map T.int (List.map (mvW bits ms (plAt os rs)) ws)=List.map (λy=>T.int (mvW bits ms (plAt os rs) y)) ws from by rw[Ry];rfl]at q;simp only[DF,Rj,D1,Dg,Dj,DR,Rz,Nat.reduceAdd];exact q
def fldC(bits:Int)(ms:List Mk3)(room:Int)(h kp:Nat)(qu sl sw:Int):List (Str×U):=[("laying",.p (layT bits ms)),("room",.p (.int room)),("held",.m h),("kept",.m kp),("quick",.p (.int qu)),("slow",.p (.int sl)),("sweeps",.p (.int sw))]
structure q01(Ξ:PySem.W.Frag)(C:Addr):Prop where
 c:Cls Ξ C
 n1:NoAttr Ξ C "laying"
 n2:NoAttr Ξ C "room"
 n3:NoAttr Ξ C "held"
 n4:NoAttr Ξ C "kept"
 n5:NoAttr Ξ C "quick"
 n6:NoAttr Ξ C "slow"
 n7:NoAttr Ξ C "sweeps"
abbrev iM(l:List Int):MO:=.lst ((l.map T.int).map U.p)
def Frm(M M':MM)(F:List Nat):Prop:=M.length<=M'.length/\∀i,i<M.length->i∉F->M'[i]?=M[i]?
theorem Frm.refl:Frm M M F:=⟨Dh _,λ_ _ _=>rfl⟩
theorem Frm.trans{M M1 M2:MM}(a:Frm M M1 F)(b:Frm M1 M2 G)(h:∀i∈G,i∈F\/M.length<=i):Frm M M2 F :=
 ⟨DB a.1 b.1,λi hi hn=>(b.2 i (Du hi a.1) λz=>(h i z).elim hn λz=>absurd hi (BV.mpr z)).trans (a.2 i hi hn)⟩
structure StS(C:Addr)(M:MM)(s h kp:Nat)(bits:Int)(ms:List Mk3)(room:Int)(ws os:List Int)(qu sl sw:Int):Prop where
 s0:M[s]?=some (.ins C (fldC bits ms room h kp qu sl sw))
 h0:M[h]?=some (iM ws)
 k0:M[kp]?=some (iM os)
 sh:s≠h
 sk:s≠kp
 hk:h≠kp
theorem q3Q:MO.sh n (iM l)=iM l:=by
 show MO.lst (List.map (U.sh n) (List.map U.p (List.map T.int l)))=_;rw[Ry];rfl
theorem WD:Qg "held" (.m a) (fldC bits ms room h kp qu sl sw)=fldC bits ms room a kp qu sl sw:=by rfl
theorem WC:Qg "kept" (.m a) (fldC bits ms room h kp qu sl sw)=fldC bits ms room h a qu sl sw:=by rfl
theorem Jl:Qg "sweeps" (.p (.int x)) (fldC bits ms room h kp qu sl sw)=fldC bits ms room h kp qu sl x:=by rfl
abbrev xS:Stmt:=qj (top 50) 3
theorem scStoreSweep:q00 ["self","left"] ["self"] (qc xS):=by ac_rfl
def q2e(C:Addr):List U->MM->UK->Prop:=λus M Q=>∃(s h kp:Nat)(bits:Int)(ms:List Mk3)(room:Int)(ws os:List Int)(qu sl sw:Int)(hs:List Nat),us=[.m s]/\StS C M s h kp bits ms room ws os qu sl sw/\SI bits ms ws os hs/\(∀m∈ms,m.1 = "far" \/ m.1 = "pair" -> (os.length:Int)<=2^(bits-m.2.1).toNat)/\∀M' h' aW,Frm M M' [s]->M.length<=h'->M.length<=aW->StS C M' s h' aW bits ms room (swW bits ms ws os hs) (swO bits ms ws os hs) qu sl (sw+1)->Q (.p .non) M'
theorem q21(F:Fun Ξ "sweep" "Store.sweep" xS f fd)(TP:q01 Ξ C)(dm:Def P w Ξ mg base "swept" 6 ["laying","words","outside"] (spU q2c)):FnOk P w Ξ mg base CX0 7 f fd ["self"] (spU (q2e C)):=by
 refine F.zU scStoreSweep (by rintro _ _ _ ⟨_,_,_,_,_,_,_,_,_,_,_,_,rfl,_⟩;rfl) (λa9 A outer s H E hr=>?_);refine⟨_,(qb (qi (i:=1) scStoreSweep.nd rfl GC (qg dm (WE hr) (qa3 (qy qv0 rfl) (qy qv0 rfl) (qy qv0 rfl)))) (qb (ji qv0 (qr (Uc Ξ) qv1 qa (λ_ _=>rfl)) rfl) (qb (ji qv0 (qr (Uc Ξ) qv1 qa (λ_ _=>rfl)) rfl) (qd (Qf qv0 qa))))),_,(qk (vf (q0V (by right)) (qH 1)) (by right)),λus M Qu h=>?_⟩;obtain⟨s,h,kp,bits,ms,room,ws,os,qu,sl,sw,hs,rfl,S,hS,hf,q⟩:=h;symm;simp only[YK];symm;refine v8 TP.c TP.n1 S.s0 (by rfl) ?_;symm;refine v8 TP.c TP.n3 S.s0 (by rfl) ?_;symm;refine v8 TP.c TP.n4 S.s0 (by rfl) ?_;symm;have mE:=(Db.mp S.s0).1;refine⟨[layT bits ms,vb ws,vb os],by simp only[frzs,Xm,Qy S.h0,Qy S.k0],bits,ms,ws,os,hs,rfl,hS,hf,λks rs ob gs=>⟨trivial,λo ho=>?_,?_⟩⟩
 ·have fi:∀l:List Int,(MO.lst ((l.map T.int).map U.p)).flat:=λl u hu=>by
   obtain⟨t,ht,rfl⟩:=DP.mp hu;obtain⟨n,_,rfl⟩:=DP.mp ht;exact⟨_,rfl⟩
  simp only[D1,Dr,DW,UU]at ho;rcases ho with rfl|rfl|rfl|rfl|rfl|rfl
  ·intro p hp
   obtain⟨k,_,rfl⟩:=DP.mp hp;exact⟨_,rfl⟩
  ·exact λu hu=>nomatch hu
  ·intro p hp
   obtain⟨k,_,rfl⟩:=DP.mp hp;exact⟨_,rfl⟩
  ·exact fi _
  ·exact fi _
  ·intro u hu
   simp only[Dr,DW,UU]at hu;rcases hu with rfl|rfl<;>trivial
 generalize ea:MO.sh M.length (.dK (xH ks))=a;generalize eb:MO.sh M.length (.lst [])=b;generalize ec:MO.sh M.length (.dF (plD os rs) ob gs)=c;have eM:∀gD ff:List Int,M++List.map (MO.sh M.length) ([]++[.dK (xH ks),.lst [],.dF (plD os rs) ob gs,iM ff,iM gD,.tup [.m ([]:MM).length.succ.succ.succ.succ,.m 3]])=M++[a,b,c,iM ff,iM gD,.tup [.m (M.length+4),.m (M.length+3)]]:=λgD ff=>by
  rw[<-ea, <-eb, <-ec];simp only[D1,Dx,Rx,q3Q];rfl
 have eM:=eM (swW bits ms ws os hs) (swO bits ms ws os hs);generalize swW bits ms ws os hs=gD at *;generalize swO bits ms ws os hs=ff at *;show uSeq _ _ _ [some (.m s),some (.m (M.length+5))] (M++List.map (MO.sh M.length) ([]++[.dK (xH ks),.lst [],.dF (plD os rs) ob gs,iM ff,iM gD,.tup [.m ([]:MM).length.succ.succ.succ.succ,.m 3]]));rw[eM];generalize eX:[a,b,c,iM ff,iM gD,MO.tup [.m (M.length+4),.m (M.length+3)]]=Y;have gY:∀(o:MO)(i:Nat),(M.set s o++Y)[M.length+i]?=Y[i]?:=λo i=>by rw[Dk (by rw[Dm];lia),Dm,DG]
 have gS:∀o:MO,(M.set s o++Y)[s]?=some o:=λo=>by rw[Df (by rw[Dm];exact mE),Dw mE]
 have gT:∀o:MO,(M.set s o++Y)[M.length+5]?=some (.tup [.m (M.length+4),.m (M.length+3)]):=λo=>by rw[gY, <-eX];rfl
 have tS:∀o o':MO,(M.set s o++Y).set s o'=M.set s o'++Y:=λo o'=>by rw[R1 _ _ (by rw[Dm];exact mE),BK]
 have e0:M++Y=M.set s (.ins C (fldC bits ms room h kp qu sl sw))++Y:=by
  obtain⟨_,z⟩:=Db.mp S.s0;rw[<-z,RY]
 rw[e0];symm;refine Jw (us:=[.m (M.length+4),.m (M.length+3)]) (by simp only[vC,gT]) rfl ?_;symm;refine vI TP.c TP.n3 (gS _) (by show 7<1000;decide) ?_;rw[tS,WD];symm;refine Jw (us:=[.m (M.length+4),.m (M.length+3)]) (by simp only[vC,gT]) rfl ?_;symm;refine vI TP.c TP.n4 (gS _) (by show 7<1000;decide) ?_;rw[tS,WC];symm;simp only[kN];symm;refine⟨s,C,_,sw,rfl,gS _,TP.c,TP.n7,by rfl,?_⟩;symm;refine⟨1,_,rfl,gS _,by show 7<1000;decide,?_⟩;rw[tS,Jl];refine q _ (M.length+4) (M.length+3) ⟨by rw[Dg,Dm];lia,λi hi hn=>?_⟩ (by lia) (by lia) ⟨gS _,by rw[gY, <-eX];rfl,by rw[gY, <-eX];rfl,by lia,by lia,by lia⟩;rw[Df (by rw[Dm];exact hi),Dq λz=>hn (by rw[z];simp)]
theorem WG{bits width:Int}(h0:0<=width)(h1:width<=bits):(2:Int)^bits.toNat=2^(bits-width).toNat*2^width.toNat:=by
 rw[<-qbc]
 congr 1;lia
theorem q40{bits width load ci:Int}(h0:0<=width)(h1:width<=bits)(l0:0<=load)(l1:load<2^(bits-width).toNat)(p0:0<=ci)(p1:ci<2^width.toNat):
  0<=load*2^width.toNat+ci/\load*2^width.toNat+ci<2^bits.toNat:=by
 have hp:=qX width.toNat;have m0:=Int.mul_nonneg l0 (qbt hp);refine⟨by lia,?_⟩;rw[WG h0 h1];have:(load+1)*2^width.toNat<=2^(bits-width).toNat*2^width.toNat:=Int.mul_le_mul_of_nonneg_right (by lia) (qbt hp);rw[Int.add_mul,DX]at this;lia
abbrev KL:=Str×Int
def tOf(x:KL):T:=if x.1 = "small" then .int x.2 else if x.1 = "one" then .str (three3.getD x.2.toNat "none") else .tup [.str x.1,.int x.2]
structure Vld(bits:Int)(ms:List Mk3)(x:KL)(m:Mk3):Prop where
 k:OfKind ms x.1 m
 s:x.1 = "small" -> -(2^(bits-m.2.1-1).toNat)<=x.2/\x.2<2^(bits-m.2.1-1).toNat
 o:x.1 ≠ "small" -> 0<=x.2/\x.2<2^(bits-m.2.1).toNat
 g:x.1 = "sign" -> x.2<128
 t:x.1 = "one" -> x.2<3
theorem W3(r:Right bits ms)(hm:m∈ms)(h:on word m=true):∃l,ms.filter (on word)=m::l:=by
 have aF:m∈ms.filter (on word):=Dz.mpr ⟨hm,h⟩;have nK:(ms.filter (on word)).Pairwise λm m'=>Disj m.2 m'.2:=r.d.sublist Bb;cases e:ms.filter (on word) with
 |nil=>rw[e]at aF;cases aF
 |cons a l=>
  rw[e]at aF nK;rcases Dr.mp aF with rfl|hl
  ·exact⟨l,rfl⟩
  ·have ha:on word a=true:=(Dz.mp (by rw[e];exact DH)).2
   exact absurd ⟨Us ha,Us h⟩ ((DV.mp nK).1 m hl word)
theorem q1m{s:Int}(h:1<=s):(2:Int)^s.toNat=2*2^(s-1).toNat:=by
 have e:s.toNat=(s-1).toNat+1:=by lia
 rw[e,Int.pow_succ,qbs]
theorem KP(h:1<=s)(h1 : -(2^(s-1).toNat)<=l)(h2:l<2^(s-1).toNat):kP s (l % 2^s.toNat)=l:=by
 unfold kP;rw[q1m h];generalize(2:Int)^(s-1).toNat=a at h1 h2 ⊢;by_cases hl:0<=l
 ·rw[D4 hl (by lia),Uh (by lia)]
 ·have:l % (2*a)=l+2*a:=by
   rw[<-Int.add_emod_right,D4 (by lia) (by lia)]
  rw[this,Uj (by lia)];lia
theorem Zi{load w p:Int}(p0:0<=p)(p1:p<2^w.toNat):(load*2^w.toNat+p) / 2^w.toNat=load/\(load*2^w.toNat+p) % 2^w.toNat=p:=by
 have hp:=qX w.toNat;constructor
 ·rw[qbu,Int.add_mul_ediv_right _ _ (Bi hp),Int.ediv_eq_zero_of_lt p0 p1,qbq]
 ·rw[qbu,Int.add_mul_emod_self_right]
  exact D4 p0 p1
theorem Vld.load(h:Vld bits ms x m):0<=x.2 % 2^(bits-m.2.1).toNat/\x.2 % 2^(bits-m.2.1).toNat<2^(bits-m.2.1).toNat :=
 ⟨D2 _ (Bi (qX _)),DU _ (qX _)⟩
theorem Vld.there(r:Right bits ms)(h:Vld bits ms x m):0<=xJ bits m x.2/\xJ bits m x.2<2^bits.toNat/\Zo bits ms (xJ bits m x.2)=tOf x:=by
 have hb:=r.b;have g6:=r.w m h.k.mem;have eT:=r.p m h.k.mem;have gu:=zI m.1;have hl:=h.load;have nL:=q40 (bits:=bits) (width:=m.2.1) (by lia) (by lia) hl.1 hl.2 eT.1 eT.2;refine⟨nL.1,nL.2,?_⟩;unfold xJ;have hd:=Zi (load:=x.2 % 2^(bits-m.2.1).toNat) (w:=m.2.1) eT.1 eT.2;obtain⟨l,e⟩:=W3 r (word:=x.2 % 2^(bits-m.2.1).toNat*2^m.2.1.toNat+m.2.2) h.k.mem (Ur hd.2);unfold Zo;rw[e];simp only;rw[hd.1];unfold Yx tOf;rw[h.k.is];by_cases h1:x.1 = "small"
 ·rw[Uj h1,Uj h1]
  rw[KP (by lia) (h.s h1).1 (h.s h1).2]
 ·have ho:=h.o h1
  rw[Uh h1,Uh h1,D4 ho.1 ho.2];by_cases h2:x.1 = "one"
  ·rw[Uj h2,Uj h2,Uj (h.t h2)]
  ·rw[Uh h2,Uh h2,Uh (λz=>by have:=h.g z.1;lia)]
theorem q0M{l:Int}(h0:0<=l)(h1:l<3):three3[l.toNat]?=some (three3.getD l.toNat "none"):=by
 rcases(show l=0\/l=1\/l=2 by lia)with rfl|rfl|rfl<;>rfl
set_option tactic.hygienic true in
theorem Vld.worth(h:Vld bits ms x m):WorthT (tOf x) x.1 x.2:=by
 unfold tOf;split
 ·rename_i h1;rw[h1];exact .int _
 ·split
  ·rename_i h1 h2
   have ho:=h.o h1;have:=WorthT.one (q0M ho.1 (h.t h2));rw[Int.toNat_of_nonneg ho.1]at this;rw[h2];exact this
  ·exact .tup _
def qV(ms:List Mk3)(kind:Str):Mk3:=(ms.filter λm=>decide (m.1=kind)).headD ("", 0,0)
theorem OfKind.mk(h:OfKind ms kind m):qV ms kind=m:=by
 obtain⟨r,e⟩:=h;unfold qV;rw[e];rfl
def wdK(bits:Int)(ms:List Mk3)(x:KL):Int:=xJ bits (qV ms x.1) x.2
theorem JS:∀{c a:Nat},a<2^(b*c)->valL b ((List.range c).map (lim b a))=(a:Int)
 |0,a,h=>by
  have:a=0:=by simpa using h
  subst this;rfl
 |c+1,a,h=>by
  rw[List.range_succ_eq_map,Dx,Ry];have e:(lim b a) ∘ Nat.succ=lim b (a / 2^b):=funext λi=>by
   show lim b a (i+1)=_;unfold lim;rw[BE, <-qbd,BQ,Be]
  rw[e];have h1:a / 2^b<2^(b*c):=qa7 (by rw[<-qbd,Be, <-BQ];exact h);show lim b a 0+2^b*valL b _=_;rw[JS h1];unfold lim;rw[Nat.mul_zero,Nat.pow_zero,Nat.div_one];have:=Nat.mod_add_div a (2^b);have e2:(2:Int)^b=((2^b:Nat):Int):=by push_cast;rfl
  rw[e2];exact_mod_cast this
theorem GA(hb:1<=bits):valL bits.toNat (xN bits n)=(n.natAbs:Int):=by
 unfold xN;refine JS ?_;have:=mt (ky (n:=n) hb (lcnt bits n)).mp (Rb _);have h:=Nat.le_zero.mp (BV.mp this);exact(Nat.div_eq_zero_iff.mp h).resolve_left (qbo (Nat.two_pow_pos _))
theorem q0e(hb:1<=bits)(hn:n≠0):(xN bits n)[lcnt bits n-1]?≠some 0:=λz=>by
 have hp:=xo hb hn;unfold xN at z;rw[Dv,List.getElem?_range (by lia)]at z;have z:lim bits.toNat n.natAbs (lcnt bits n-1)=0:=Option.some.inj z;unfold lim at z;have z:n.natAbs / 2^(bits.toNat*(lcnt bits n-1)) % 2^bits.toNat=0:=by exact_mod_cast z
 have h1:=(ky (n:=n) hb (lcnt bits n-1)).mpr (by lia);have h2:=mt (ky (n:=n) hb (lcnt bits n)).mp (Rb _);rw[show lcnt bits n=lcnt bits n-1+1 by lia, <-Xa]at h2;have h3:=Nat.div_add_mod (n.natAbs / 2^(bits.toNat*(lcnt bits n-1))) (2^bits.toNat);have h4:=Nat.le_zero.mp (BV.mp h2);rw[z,h4]at h3;lia
theorem q1O:∀x∈xN bits n,0<=x/\x<2^bits.toNat:=λx hx=>by
 obtain⟨i,_,rfl⟩:=DP.mp hx;have:=Nat.mod_lt (n.natAbs / 2^(bits.toNat*i)) (Nat.two_pow_pos bits.toNat);unfold lim;exact⟨by lia,by exact_mod_cast this⟩
structure InW(bits:Int)(ms:List Mk3)(x:KL):Prop where
 v:Vld bits ms x (qV ms x.1)
 k:x.1 = "small" \/ x.1 = "sign" \/ x.1 = "one"
inductive Rf
 |w (x:KL)
 |t (i:Nat)
inductive Th
 |far (n:Int)
 |pr (a b:Rf)
structure Mc where
 bits:Int
 ms:List Mk3
 room:Int
 rg:List Rf
 tb:List Th
 od:List Nat
 qu:Int
 sl:Int
 sw:Int
def Th.sz(bits:Int):Th->Nat
 |.far n=>lcnt bits n+1
 |.pr _ _=>3
def Th.kd:Th->Str
 |.far _=> "far"
 |.pr _ _=> "pair"
def plc(f:Nat->Nat):List Nat->Nat->Nat
 | [],_=>0
 |j::l,i=>if j=i then 0 else f j+plc f l i
theorem VX:∀{l:List Nat},i∉l->plc f (l++i::r) i=(l.map f).sum
 | [],_=>Uj rfl
 |j::l,h=>by
  have h1:¬j=i:=λz=>h (z ▸ .head _);show(if j=i then 0 else f j+plc f (l++i::r) i)=(f j::l.map f).sum;rw[Uh h1,VX λz=>h (.tail _ z),Bx]
namespace Mc
def th(A:Mc)(i:Nat):Th:=A.tb.getD i (.far 0)
def sz(A:Mc)(i:Nat):Nat:=(A.th i).sz A.bits
def pl(A:Mc)(i:Nat):Nat:=plc A.sz A.od i
def kl(A:Mc):Rf->KL
 |.w x=>x
 |.t i=>((A.th i).kd,(A.pl i:Int))
def wd(A:Mc)(r:Rf):Int:=wdK A.bits A.ms (A.kl r)
def tw(A:Mc)(i:Nat):List Int:=match A.th i with
 |.far n=>xY A.bits n
 |.pr a b=>[1,A.wd a,A.wd b]
def os(A:Mc):List Int:=A.od.flatMap A.tw
def ws(A:Mc):List Int:=A.rg.map A.wd
def most(A:Mc):Int:=Z6 A.bits A.ms A.room
def sm(A:Mc):Int:=A.bits-(qV A.ms "small").2.1
def RfOk(A:Mc):Rf->Prop
 |.w x=>InW A.bits A.ms x
 |.t i=>i∈A.od
def ThOk(A:Mc):Th->Prop
 |.far n=>vY A.sm n=false/\(lcnt A.bits n:Int)<2^(A.bits-2).toNat
 |.pr a b=>A.RfOk a/\A.RfOk b
structure Ok(A:Mc):Prop where
 R:Right A.bits A.ms
 l8:A.rg.length=8
 g:∀r∈A.rg,A.RfOk r
 d:A.od.Pairwise (· < ·)
 b:∀i∈A.od,i<A.tb.length
 t:∀i∈A.od,A.ThOk (A.th i)
 f:(A.os.length:Int)<=A.most
 m:A.room<=400
variable {A:Mc}
set_option tactic.hygienic true in
theorem tw_len:(A.tw i).length=A.sz i:=by
 unfold tw sz;split<;>rename_i e<;>rw[e]
 ·exact xu
 ·rfl
theorem Xo{l:List Nat}:(l.flatMap A.tw).length=(l.map A.sz).sum:=by
 rw[List.length_flatMap]
 congr 1;exact DY λ_ _=>tw_len
theorem at_(O:A.Ok)(h:i∈A.od):∃l r,A.od=l++i::r/\i∉l/\A.os=l.flatMap A.tw++(A.tw i++r.flatMap A.tw)/\A.pl i=(l.flatMap A.tw).length:=by
 obtain⟨l,r,e⟩:=qbk h;have hd:=O.d;rw[e]at hd;have hn:i∉l:=λz=>Rb _ ((RD.mp hd).2.2 i z i (.head _));refine⟨l,r,e,hn,?_,?_⟩
 ·unfold os
  rw[e,Rh,DS]
 ·unfold pl
  rw[e,VX hn,Xo]
theorem q7I(O:A.Ok)(h:i∈A.od):2<=A.sz i:=by
 have ht:=O.t i h;unfold sz;cases e:A.th i with
 |pr a b=>show 2<=3;decide
 |far n=>
  rw[e]at ht;have hn:n≠0:=λz=>by
   have:=ht.1;rw[z]at this;have h2:=qX (A.sm-1).toNat;exact U0 this ⟨by lia,h2⟩
  have:=xo (bits:=A.bits) (by have:=O.R.b;lia) hn;show 2<=lcnt _ _+1;lia
theorem pl_lt(O:A.Ok)(h:i∈A.od):A.pl i+A.sz i<=A.os.length:=by
 obtain⟨l,r,_,_,e,e2⟩:=at_ O h;rw[e,e2, <-tw_len];simp only[Dg];lia
theorem most_le(O:A.Ok){k:Str}(h:k = "far" \/ k = "pair"):A.most<=2^(A.bits-(qV A.ms k).2.1).toNat/\A.most<=400:=by
 have h3:=@min3_le A.room (2^(A.bits-wOf A.ms "far").toNat) (2^(A.bits-wOf A.ms "pair").toNat);have hm:=O.m;have e:∀k,k∈QF->(qV A.ms k).2.1=wOf A.ms k:=λk hk=>by
  obtain⟨m,hm⟩:=O.R.kind hk;rw[hm.mk,Zq hm]
 unfold most Z6;rcases h with rfl|rfl<;>rw[e _ (by decide)]<;>lia
theorem vld(O:A.Ok)(h:A.RfOk r):Vld A.bits A.ms (A.kl r) (qV A.ms (A.kl r).1):=by
 cases r with
 |w x=>exact InW.v h
 |t i=>
  have hk:(A.th i).kd = "far" \/ (A.th i).kd = "pair" := by cases A.th i<;>simp[Th.kd]
  obtain⟨m,hm⟩:=O.R.kind (kind:=(A.th i).kd) (by rcases hk with e|e<;>rw[e]<;>decide);have h1:=(most_le O hk).1;have h2:=pl_lt O h;have h3:=q7I O h;have h4:=O.f;show Vld A.bits A.ms ((A.th i).kd,(A.pl i:Int)) (qV A.ms (A.th i).kd);rw[hm.mk]at h1 ⊢;refine⟨hm,λz=>?_,λ_=>⟨Bd _,?_⟩,λz=>?_,λz=>?_⟩
  ·have z:(A.th i).kd = "small" := z
   rcases hk with e|e<;>rw[e]at z<;>exact absurd z (by decide)
  ·show(A.pl i:Int)<_
   lia
  ·have z:(A.th i).kd = "sign" := z
   rcases hk with e|e<;>rw[e]at z<;>exact absurd z (by decide)
  ·have z:(A.th i).kd = "one" := z
   rcases hk with e|e<;>rw[e]at z<;>exact absurd z (by decide)
theorem WZ(O:A.Ok)(h:A.RfOk r):∃l,A.ms.filter (on (A.wd r))=qV A.ms (A.kl r).1::l:=by
 have v:=vld O h;have eT:=O.R.p _ v.k.mem;exact W3 O.R v.k.mem (Ur (Zi eT.1 eT.2).2)
theorem mark_wd(O:A.Ok)(h:A.RfOk r):ja (A.wd r) A.ms=.str (A.kl r).1:=by
 obtain⟨l,e⟩:=WZ O h;unfold ja;rw[e];show T.str (qV A.ms _).1=_;rw[OfKind.is (vld O h).k]
theorem q7Y(O:A.Ok)(h:InW A.bits A.ms x):xt (A.wd (.w x)) A.ms=none:=by
 obtain⟨l,e⟩:=WZ O (r:=.w x) h;unfold xt;rw[e];refine Uh λz=>?_;have z:(qV A.ms x.1).1 = "far" \/ (qV A.ms x.1).1 = "pair" := z;rw[OfKind.is h.v.k]at z;rcases h.k with y|y|y<;>rw[y]at z<;>revert z<;>decide
theorem addr_t(O:A.Ok)(h:i∈A.od):xt (A.wd (.t i)) A.ms=some ((A.th i).kd,(A.pl i:Int)):=by
 obtain⟨l,e⟩:=WZ O (r:=.t i) h;have v:=vld O (r:=.t i) h;have hk:(A.th i).kd = "far" \/ (A.th i).kd = "pair" := by cases A.th i<;>simp[Th.kd]
 unfold xt;rw[e];have v2:OfKind A.ms (A.th i).kd (qV A.ms (A.th i).kd):=v.k;have eT:=O.R.p _ v2.mem;have ho:(0:Int)<=A.pl i/\(A.pl i:Int)<2^(A.bits-(qV A.ms (A.th i).kd).2.1).toNat:=v.o (by show(A.th i).kd≠_;rcases hk with z|z<;>rw[z]<;>decide);have hd:=(Zi (load:=(A.pl i:Int) % 2^(A.bits-(qV A.ms (A.th i).kd).2.1).toNat) eT.1 eT.2).1;refine(Uj (by show(qV A.ms (A.th i).kd).1=_\/(qV A.ms (A.th i).kd).1=_;rw[OfKind.is v2];exact hk)).trans ?_;show some ((qV A.ms (A.th i).kd).1,A.wd (.t i) / 2^(qV A.ms (A.th i).kd).2.1.toNat)=_;rw[OfKind.is v2,show A.wd (.t i) / 2^(qV A.ms (A.th i).kd).2.1.toNat=_ from hd,D4 ho.1 ho.2]
theorem xF(O:A.Ok)(h:A.RfOk r)(e:xt (A.wd r) A.ms=some (s,a)):∃i∈A.od,r=.t i/\a=(A.pl i:Int):=by
 cases r with
 |w x=>rw[q7Y O h]at e;cases e
 |t i=>rw[addr_t O h]at e;cases e;exact⟨i,h,rfl,rfl⟩
def hd(A:Mc)(i:Nat):Int:=match A.th i with
 |.far n=>vT A.bits n
 |.pr _ _=>1
theorem tw_hd:∃r,A.tw i=A.hd i::r:=by
 unfold tw hd;split<;>exact⟨_,rfl⟩
theorem small_ne(h:vY s n=false):n≠0:=λz=>by
 rw[z]at h;have h2:=qX (s-1).toNat;exact U0 h ⟨by lia,h2⟩
theorem head_4{bits n:Int}(hb:1<=bits)(hn:n≠0):4<=vT bits n/\vT bits n / 4=lcnt bits n/\vT bits n % 2=0/\(vT bits n % 4=0↔0<=n)/\qO (vT bits n)=lcnt bits n+1:=by
 have:=xo hb hn;have h1:4<=vT bits n/\vT bits n / 4=lcnt bits n/\vT bits n % 2=0/\(vT bits n % 4=0↔0<=n):=by
  unfold vT;split<;>lia
 refine⟨h1.1,h1.2.1,h1.2.2.1,h1.2.2.2,?_⟩;unfold qO;rw[Uh (by lia),h1.2.1]
theorem q7N{bits n:Int}(hb:1<=bits)(hn:n≠0):limI (pre++(xY bits n++post)) pre.length (vT bits n)=xN bits n:=by
 unfold limI;rw[(head_4 hb hn).2.1];show List.take (lcnt bits n) _=_;rw[show pre++(xY bits n++post)=(pre++[vT bits n])++(xN bits n++post) by simp[xY],BU (by simp),BL (by have:=@xu bits n;unfold xY at this;rw[Dj]at this;lia)]
theorem num_at{bits n:Int}(hb:1<=bits)(hn:n≠0):numI bits.toNat (pre++(xY bits n++post)) pre.length (vT bits n)=n:=by
 unfold numI;rw[q7N hb hn,GA hb];have:=(head_4 (bits:=bits) hb hn).2.2.2.1;split<;>lia
theorem q2h(O:A.Ok)(h:A.ThOk (A.th i)):xI A.bits A.sm (pre++(A.tw i++post)) pre.length (A.hd i)=none/\(qO (A.hd i)).toNat=A.sz i:=by
 have hb:=O.R.b;unfold tw hd sz;cases e:A.th i with
 |pr a b=>
  refine⟨?_,rfl⟩;show xI _ _ (pre++([1,A.wd a,A.wd b]++post)) _ 1=none;unfold xI;rw[Uh (by decide),Uh (by simp[qO];lia),Uj rfl]
 |far n=>
  rw[e]at h;have hn:=small_ne h.1;have h4:=head_4 (bits:=A.bits) (by lia) hn;have hp:=xo (bits:=A.bits) (by lia) hn;refine⟨?_,by show(qO (vT _ _)).toNat=lcnt _ _+1;lia⟩;show xI _ _ (pre++(xY A.bits n++post)) _ (vT A.bits n)=none;unfold xI;rw[Uh (by unfold Vf;simp[h4.1,h4.2.2.1]),Uh,Uh (by lia),Uh,num_at (by lia) hn,Uh (by rw[h.1];decide)]
  ·rw[h4.2.1]
   show ¬(pre++(xY A.bits n++post))[pre.length+lcnt A.bits n]?=_;rw[Dk (by lia),DG,Df (by rw[xu];lia)];show ¬(vT A.bits n::xN A.bits n)[lcnt A.bits n]?=_;rw[show lcnt A.bits n=lcnt A.bits n-1+1 by lia,Ru];exact q0e (by lia) hn
  ·rw[h4.2.2.2.2]
   simp only[Dg,xu];lia
theorem JX(O:A.Ok):∀(r l:List Nat),A.od=l++r->(∀i∈r,i∉l)->r.Nodup->thI A.bits A.sm A.os (l.flatMap A.tw).length=(none,r.map A.pl)
 | [],l,e,_,_=>by
  rw[DD]at e;rw[kO (by unfold os;rw[e];lia)];rfl
 |i::r,l,e,hn,hr=>by
  have hi:i∈A.od:=by rw[e];simp
  have eo:A.os=l.flatMap A.tw++(A.tw i++r.flatMap A.tw):=by
   unfold os;rw[e,Rh,DS]
  have hb:=q2h O (O.t i hi) (pre:=l.flatMap A.tw) (post:=r.flatMap A.tw);rw[<-eo]at hb;obtain⟨t,et⟩:=@tw_hd A i;rw[Zv (x:=A.hd i) (by rw[eo,et];simp) hb.1,hb.2];have ih:=JX O r (l++[i]) (by rw[e];simp) (λj hj=>by
   have h1:=hn j (.tail _ hj);have h2:j≠i:=λz=>(D0.mp hr).1 (z▸hj);simp[h1,h2]) (D0.mp hr).2
  rw[Rh,Dg,show([i].flatMap A.tw)=A.tw i by simp,tw_len]at ih;rw[ih,Dx];refine Uo (Prod.mk none) ?_;show _::_=_::_
  congr 1;unfold pl;rw[e,VX (hn i (.head _)),Xo]
theorem nd(O:A.Ok):A.od.Nodup:=O.d.imp Dy
theorem q5Q(O:A.Ok)(h:A.RfOk r):0<=A.wd r/\A.wd r<2^A.bits.toNat:=by
 have:=(vld O h).there O.R;exact⟨this.1,this.2.1⟩
theorem q9b(O:A.Ok)(h:A.ThOk (A.th i)):∀x∈A.tw i,0<=x/\x<2^A.bits.toNat:=λx hx=>by
 unfold tw at hx;have hb:=O.R.b;have e4:(2:Int)^A.bits.toNat=2^(A.bits-2).toNat*4:=by
  rw[show A.bits.toNat=(A.bits-2).toNat+2 by lia,qbc];rfl
 cases e:A.th i with
 |pr a b=>
  rw[e]at hx h;simp only[Dr,DW,UU]at hx;rcases hx with rfl|rfl|rfl
  ·have:=qX (A.bits-2).toNat
   lia
  ·exact q5Q O h.1
  ·exact q5Q O h.2
 |far n=>
  rw[e]at hx h;rcases Dr.mp hx with rfl|hx
  ·have:=h.2
   unfold vT;split<;>lia
  ·exact q1O x hx
theorem os_ok(O:A.Ok):q78 A.bits A.os:=λx hx=>by
 obtain⟨i,hi,hx⟩:=List.mem_flatMap.mp hx;exact q9b O (O.t i hi) x hx
theorem os_le(O:A.Ok):A.os.length<=400:=by
 have:=(most_le O (k := "far") (.inl rfl)).2;have:=O.f;lia
theorem hds(O:A.Ok):Hds A.os (A.od.map A.pl):=by
 have h:=JX O A.od [] rfl (λ_ _ z=>nomatch z) (nd O);exact⟨⟨_,_,Uo Prod.fst h,Uo Prod.snd h⟩,λx hx=>(os_ok O x hx).1,by have:=os_le O;lia⟩
theorem hd_at(O:A.Ok)(h:i∈A.od):A.os[A.pl i]?=some (A.hd i):=by
 obtain⟨l,r,_,_,e,e2⟩:=at_ O h;obtain⟨t,et⟩:=@tw_hd A i;rw[e,e2,et];simp
theorem WA(O:A.Ok){i:Nat}(h:i∈A.od):pwI A.os (A.pl i)=match A.th i with
 |.far _=>[]
 |.pr a b=>[A.wd a,A.wd b]:=by
 unfold pwI;rw[hd_at O h];obtain⟨l,r,_,_,e,e2⟩:=at_ O h;have ht:=O.t i h;unfold hd;cases et:A.th i with
 |far n=>
  rw[et]at ht;have:=(head_4 (bits:=A.bits) (by have:=O.R.b;lia) (small_ne ht.1)).1;simp only;rw[Uh (λz=>by have:=Option.some.inj z;lia)]
 |pr a b=>
  rw[show A.tw i=[1,A.wd a,A.wd b] by unfold tw;rw[et]]at e;refine(Uj rfl).trans ?_;rw[e2,e];show List.take 2 _=[A.wd a,A.wd b];rw[show List.flatMap A.tw l++([1,A.wd a,A.wd b]++List.flatMap A.tw r)=(List.flatMap A.tw l++[1])++([A.wd a,A.wd b]++List.flatMap A.tw r) by simp,BU (by simp)];rfl
theorem si(O:A.Ok):SI A.bits A.ms A.ws A.os (A.od.map A.pl):=by
 refine⟨O.R,hds O,λword hw s a e=>?_,λj hj word hw s a e=>?_,by unfold ws;rw[Dd,O.l8];decide⟩
 ·obtain⟨r,hr,rfl⟩:=DP.mp hw
  obtain⟨i,hi,_,rfl⟩:=xF O (O.g r hr) e;exact⟨_,Rv hi,rfl⟩
 ·obtain⟨i,hi,rfl⟩:=DP.mp hj
  rw[WA O hi]at hw;have ht:=O.t i hi;cases et:A.th i with
  |far n=>rw[et]at hw;exact nomatch hw
  |pr x y=>
   rw[et]at hw ht;simp only[Dr,DW,UU]at hw;rcases hw with rfl|rfl
   ·obtain⟨i,hi,_,rfl⟩:=xF O ht.1 e
    exact⟨_,Rv hi,rfl⟩
   ·obtain⟨i,hi,_,rfl⟩:=xF O ht.2 e
    exact⟨_,Rv hi,rfl⟩
theorem fit(O:A.Ok):∀m∈A.ms,m.1 = "far" \/ m.1 = "pair" -> (A.os.length:Int)<=2^(A.bits-m.2.1).toNat:=λm hm hk=>by
 have:=(most_le O hk).1;rw[(O.R.ofKind hm).mk]at this;have:=O.f;lia
end Mc
theorem Q9{f:Nat->Nat}:∀{l:List Nat},((l.filter p).map f).sum<=(l.map f).sum
 | []=>Dh _
 |j::l=>by
  have:=@Q9 p f l;rw[Bz,Dx,Bx];split
  ·rw[Dx,Bx];lia
  ·lia
theorem Z3{os:List Int}:∀{l:List Nat}{n:Nat},(∀j∈l,p j=p i->j=i)->(∀j∈l,szK os (p j)=f j)->i∈l->(offs os (l.map p) n).lookup (p i)=some (n+plc f l i)
 | [],_,_,_,h=>nomatch h
 |j::l,n,hp,hf,h=>by
  show List.lookup (p i) ((p j,n)::offs os (l.map p) (n+szK os (p j)))=some (n+if j=i then 0 else f j+plc f l i);rw[DC];by_cases e:j=i
  ·subst e
   rw[Uj rfl];simp
  ·have:(p i==p j)=false:=beq_eq_false_iff_ne.mpr λz=>e (hp j (.head _) z.symm)
   rw[this,Uh e];simp only;rw[hf j (.head _),Z3 (λj hj=>hp j (.tail _ hj)) (λj hj=>hf j (.tail _ hj)) ((Dr.mp h).resolve_left (Ne.symm e)),Nat.add_assoc]
namespace Mc
inductive Rc(A:Mc):Nat->Prop
 |of {i:Nat} : .t i∈A.rg->Rc A i
 |l {i j:Nat}{b:Rf}:Rc A i->A.th i=.pr (.t j) b->Rc A j
 |r {i j:Nat}{a:Rf}:Rc A i->A.th i=.pr a (.t j)->Rc A j
noncomputable def lv(A:Mc):List Nat:=A.od.filter λi=>@decide (A.Rc i) (Classical.propDecidable _)
noncomputable def swp(A:Mc):Mc:={ A with od:=A.lv,sw:=A.sw+1 }
variable {A:Mc}
theorem mem_lv:i∈A.lv↔i∈A.od/\A.Rc i:=by
 unfold lv;rw[Dz];simp
theorem Jf(O:A.Ok)(h:A.Rc i):i∈A.od:=by
 induction h with
 |of h=>exact O.g _ h
 |l h e ih=>have:=O.t _ ih;rw[e]at this;exact this.1
 |r h e ih=>have:=O.t _ ih;rw[e]at this;exact this.2
theorem q2o(O:A.Ok)(hi:i∈A.od)(hj:j∈A.od)(e:A.pl i=A.pl j):i=j:=by
 have hp:=(hds O).lt;rw[Bu]at hp;obtain⟨l,r,e1⟩:=qbk hi;rw[e1]at hp hj;have h1:=RD.mp hp;have h2:=(DV.mp h1.2.1).1;rcases Dl.mp hj with z|z
 ·have:=h1.2.2 j z i (.head _);lia
 ·rcases Dr.mp z with z|z
  ·exact z.symm
  ·have:=h2 j z;lia
theorem rch(O:A.Ok):Rch A.ms A.ws A.os k↔∃i,A.Rc i/\k=A.pl i:=by
 constructor
 ·intro h
  induction h with
  |of hw hl=>
   obtain⟨r,hr,rfl⟩:=DP.mp hw;obtain⟨s,e⟩:=hl;obtain⟨i,_,rfl,e'⟩:=xF O (O.g r hr) e;exact⟨i,.of hr,by exact_mod_cast e'⟩
  |to _ hw hl ih=>
   obtain⟨i,hi,rfl⟩:=ih;obtain⟨s,e⟩:=hl;have ht:=O.t i (Jf O hi);rw[WA O (Jf O hi)]at hw;cases et:A.th i with
   |far n=>rw[et]at hw;exact nomatch hw
   |pr x y=>
    rw[et]at hw ht;simp only[Dr,DW,UU]at hw;rcases hw with rfl|rfl
    ·obtain⟨j,_,rfl,e'⟩:=xF O ht.1 e
     exact⟨j,.l hi et,by exact_mod_cast e'⟩
    ·obtain⟨j,_,rfl,e'⟩:=xF O ht.2 e
     exact⟨j,.r hi et,by exact_mod_cast e'⟩
 ·rintro⟨i,h,rfl⟩
  induction h with
  |of h=>exact .of (Rv h) ⟨_,addr_t O (O.g _ h)⟩
  |l h e ih=>
   have ht:=O.t _ (Jf O h);rw[e]at ht;exact .to ih (by rw[WA O (Jf O h),e];exact .head _) ⟨_,addr_t O ht.1⟩
  |r h e ih=>
   have ht:=O.t _ (Jf O h);rw[e]at ht;exact .to ih (by rw[WA O (Jf O h),e];exact .tail _ (.head _)) ⟨_,addr_t O ht.2⟩
theorem q81(O:A.Ok):rsOf A.ms A.ws A.os (A.od.map A.pl)=A.lv.map A.pl:=by
 unfold rsOf lv;rw[List.filter_map]
 congr 1;refine List.filter_congr λi hi=>?_;show @decide (Rch _ _ _ (A.pl i)) (Classical.propDecidable _)=@decide (A.Rc i) (Classical.propDecidable _);refine decide_eq_decide.mpr ⟨λh=>?_,λh=>(rch O).mpr ⟨i,h,rfl⟩⟩;obtain⟨j,hj,e⟩:=(rch O).mp h;rw[q2o O hi (Jf O hj) e];exact hj
theorem q6j(O:A.Ok)(h:i∈A.od):szK A.os (A.pl i)=A.sz i:=by
 unfold szK;rw[hd_at O h];exact(q2h O (O.t i h) (pre:=[]) (post:=[])).2
theorem q6e(O:A.Ok)(h:i∈A.lv):plAt A.os (A.lv.map A.pl) (A.pl i)=A.swp.pl i:=by
 unfold plAt;rw[Z3 (f:=A.sz) (λj hj=>q2o O (mem_lv.mp hj).1 (mem_lv.mp h).1) (λj hj=>q6j O (mem_lv.mp hj).1) h];show 0+plc A.sz A.lv i=_;rw[Rz];rfl
theorem q9l(O:A.Ok)(h:i∈A.od):A.wd (.t i) / 2^(qV A.ms (A.th i).kd).2.1.toNat=(A.pl i:Int):=by
 have e:=addr_t O h;obtain⟨l,e1⟩:=WZ O (r:=.t i) h;unfold xt at e;rw[e1]at e;have e:(if(qV A.ms (A.th i).kd).1 = "far" \/ (qV A.ms (A.th i).kd).1 = "pair" then some ((qV A.ms (A.th i).kd).1,A.wd (.t i) / 2^(qV A.ms (A.th i).kd).2.1.toNat) else none)=some ((A.th i).kd,(A.pl i:Int)):=e;split at e
 ·exact(Prod.mk.inj (Option.some.inj e)).2
 ·cases e
theorem Wj(h:A.RfOk r)(hr:∀i,r=.t i->A.Rc i):A.swp.RfOk r:=by
 cases r with
 |w x=>exact h
 |t i=>exact mem_lv.mpr ⟨h,hr i rfl⟩
theorem q5r(O:A.Ok)(h:A.RfOk r)(h2:A.swp.RfOk r):mvW A.bits A.ms (plAt A.os (A.lv.map A.pl)) (A.wd r)=A.swp.wd r:=by
 obtain⟨l,e⟩:=WZ O h;have v:=(vld O h).k;unfold mvW;rw[e];cases r with
 |w x=>
  refine Uh λz=>?_;have h:InW A.bits A.ms x:=h;have z:(qV A.ms x.1).1 = "far" \/ (qV A.ms x.1).1 = "pair" := z;rw[OfKind.is h.v.k]at z;rcases h.k with y|y|y<;>rw[y]at z<;>revert z<;>decide
 |t i=>
  have v:OfKind A.ms (A.th i).kd (qV A.ms (A.th i).kd):=v;have hk:(A.th i).kd = "far" \/ (A.th i).kd = "pair" := by cases A.th i<;>simp[Th.kd]
  refine(Uj (by show(qV A.ms (A.th i).kd).1=_\/(qV A.ms (A.th i).kd).1=_;rw[OfKind.is v];exact hk)).trans ?_;show xJ A.bits (qV A.ms (A.th i).kd) (plAt _ _ (A.wd (.t i) / 2^(qV A.ms (A.th i).kd).2.1.toNat).toNat)=_;rw[q9l O h,RS,q6e O h2];rfl
theorem q2r(O:A.Ok):∀r∈A.rg,A.swp.RfOk r:=λr hr=>Wj (O.g r hr) λi e=>.of (e▸hr)
theorem q2V(O:A.Ok)(h:i∈A.lv):A.swp.ThOk (A.th i):=by
 obtain⟨h1,h2⟩:=mem_lv.mp h;have ht:=O.t i h1;cases e:A.th i with
 |far n=>rw[e]at ht;exact ht
 |pr a b=>
  rw[e]at ht;exact⟨Wj ht.1 λj ej=>.l h2 (ej▸e),Wj ht.2 λj ej=>.r h2 (ej▸e)⟩
theorem ws_swp(O:A.Ok):swW A.bits A.ms A.ws A.os (A.od.map A.pl)=A.swp.ws:=by
 unfold swW;rw[q81 O];unfold ws;rw[Ry];exact DY λr hr=>q5r O (O.g r hr) (q2r O r hr)
theorem q9g(O:A.Ok)(h:i∈A.lv):mvT A.bits A.ms A.os (plAt A.os (A.lv.map A.pl)) (A.pl i)=A.swp.tw i:=by
 obtain⟨h1,h2⟩:=mem_lv.mp h;have ht:=O.t i h1;have mF:=q2V O h;unfold mvT;rw[hd_at O h1,WA O h1,q6j O h1];obtain⟨l,r,_,_,e,e2⟩:=at_ O h1;rw[e2];have e3:(A.os.drop (l.flatMap A.tw).length).take (A.sz i)=A.tw i:=by rw[e,BU rfl,BL tw_len]
 rw[e3];cases et:A.th i with
 |far n=>
  rw[et]at ht;have:=(head_4 (bits:=A.bits) (by have:=O.R.b;lia) (small_ne ht.1)).1;rw[Uh (λz=>by unfold hd at z;rw[et]at z;have:vT A.bits n=1:=Option.some.inj z;lia)];unfold tw;rw[show A.swp.th i=A.th i from rfl,et];rfl
 |pr a b=>
  rw[et]at ht mF;rw[Uj (by unfold hd;rw[et])];unfold tw;rw[show A.swp.th i=A.th i from rfl,et];show 1::[_,_]=[_,_,_];rw[q5r O ht.1 mF.1,q5r O ht.2 mF.2]
theorem os_swp(O:A.Ok):swO A.bits A.ms A.ws A.os (A.od.map A.pl)=A.swp.os:=by
 unfold swO;rw[q81 O,List.flatMap_map];show _=A.lv.flatMap A.swp.tw;rw[Rw,Rw]
 congr 1;exact DY λi hi=>q9g O hi
theorem WS:A.swp.os.length<=A.os.length:=by
 unfold os;rw[Xo,Xo];exact Q9
theorem ok_swp(O:A.Ok):A.swp.Ok:=⟨O.R,O.l8,q2r O,O.d.sublist Bb,λi hi=>O.b i (mem_lv.mp hi).1,λi hi=>q2V O hi,by have:=O.f;have:=@WS A;show(A.swp.os.length:Int)<=A.most;lia,O.m⟩
theorem swp_all(h:∀i∈A.od,A.Rc i):A.swp={ A with sw:=A.sw+1 }:=by
 unfold swp lv;rw[List.filter_eq_self.mpr λi hi=>by simpa using h i hi]
end Mc
theorem WJ:∀{l:List Nat},(∀j∈l,f j=g j)->i∈l->plc f (l++r) i=plc g l i
 | [],_,h=>nomatch h
 |j::l,hf,h=>by
  show(if j=i then 0 else f j+plc f (l++r) i)=if j=i then 0 else g j+plc g l i
  by_cases e:j=i
  ·rw[Uj e,Uj e]
  ·rw[Uh e,Uh e,hf j (.head _),WJ (λk hk=>hf k (.tail _ hk)) ((Dr.mp h).resolve_left (Ne.symm e))]
namespace Mc
variable {A:Mc}
def put(A:Mc)(r:Nat)(x:Rf):Mc:={ A with rg:=A.rg.set r x }
def lay(A:Mc)(r:Nat)(t:Th):Mc:={ A with rg:=A.rg.set r (.t A.tb.length),tb:=A.tb++[t],od:=A.od++[A.tb.length] }
def wt(A:Mc):Th->List Int
 |.far n=>xY A.bits n
 |.pr a b=>[1,A.wd a,A.wd b]
theorem wt_len:(A.wt t).length=t.sz A.bits:=by cases t with
 |far n=>exact xu
 |pr a b=>rfl
theorem ws_put:(A.put r x).ws=A.ws.set r (A.wd x):=Bk
theorem ok_put(O:A.Ok)(h:A.RfOk x):(A.put r x).Ok:=by
 refine⟨O.R,by show(A.rg.set r x).length=8;rw[Dm,O.l8],λy hy=>?_,O.d,O.b,O.t,O.f,O.m⟩;rcases Bm hy with z|z
 ·exact O.g y z
 ·rw[z];exact h
variable {r:Nat}{t:Th}
theorem JW(h:i<A.tb.length):(A.lay r t).th i=A.th i:=by
 unfold th lay;rw[DA,DA,Df h]
theorem YS:(A.lay r t).th A.tb.length=t:=by
 unfold th lay;rw[DA];simp
theorem q2A(O:A.Ok):∀i∈A.od,(A.lay r t).sz i=A.sz i:=λi hi=>by
 unfold sz;rw[JW (O.b i hi)];rfl
theorem q6V(O:A.Ok)(h:i∈A.od):(A.lay r t).pl i=A.pl i:=WJ (q2A O) h
theorem q6J(O:A.Ok):A.tb.length∉A.od:=λz=>Rb _ (O.b _ z)
theorem q90(O:A.Ok):(A.lay r t).pl A.tb.length=A.os.length:=by
 unfold pl os;show plc _ (A.od++[A.tb.length]) _=_;rw[VX (q6J O),Xo]
 congr 1;exact DY λi hi=>q2A O i hi
theorem q7X(O:A.Ok)(h:A.RfOk x):(A.lay r t).kl x=A.kl x:=by
 cases x with
 |w x=>rfl
 |t i=>
  show(((A.lay r t).th i).kd,((A.lay r t).pl i:Int))=((A.th i).kd,(A.pl i:Int));rw[JW (O.b i h),q6V O h]
theorem Yy(O:A.Ok)(h:A.RfOk x):(A.lay r t).wd x=A.wd x:=by
 unfold wd;rw[q7X O h];rfl
theorem Wk(h:A.RfOk x):(A.lay r t).RfOk x:=by
 cases x with
 |w x=>exact h
 |t i=>exact Dp _ h
theorem q3n(O:A.Ok)(h:A.ThOk u):(A.lay r t).wt u=A.wt u:=by
 cases u with
 |far n=>rfl
 |pr a b=>
  show[1,(A.lay r t).wd a,(A.lay r t).wd b]=[1,A.wd a,A.wd b];rw[Yy O h.1,Yy O h.2]
theorem XQ:A.tw i=A.wt (A.th i):=by unfold tw wt;rfl
theorem q2i(h:A.ThOk u):(A.lay r t).ThOk u:=by
 cases u with
 |far n=>exact h
 |pr a b=>exact⟨Wk h.1,Wk h.2⟩
theorem os_lay(O:A.Ok)(ht:A.ThOk t):(A.lay r t).os=A.os++A.wt t:=by
 unfold os;show(A.od++[A.tb.length]).flatMap _=_;rw[Rh]
 congr 1
 ·rw[Rw,Rw]
  congr 1;refine DY λi hi=>?_;rw[XQ,XQ,JW (O.b i hi),q3n O (O.t i hi)]
 ·rw[show[A.tb.length].flatMap (A.lay r t).tw=(A.lay r t).tw A.tb.length by simp,XQ,YS,q3n O ht]
theorem ws_lay(O:A.Ok):(A.lay r t).ws=A.ws.set r (wdK A.bits A.ms (t.kd,(A.os.length:Int))):=by
 have e:(A.lay r t).wd (.t A.tb.length)=wdK A.bits A.ms (t.kd,(A.os.length:Int)):=by
  show wdK A.bits A.ms (((A.lay r t).th A.tb.length).kd,((A.lay r t).pl A.tb.length:Int))=_;rw[YS,q90 O]
 unfold ws;show(A.rg.set r _).map _=_;rw[Bk,e]
 congr 1;exact DY λx hx=>Yy O (O.g x hx)
theorem ok_lay(O:A.Ok)(ht:A.ThOk t)(hf:(A.os.length:Int)+t.sz A.bits<=A.most):(A.lay r t).Ok:=by
 refine⟨O.R,by show(A.rg.set r _).length=8;rw[Dm,O.l8],λy hy=>?_,?_,λi hi=>?_,λi hi=>?_,?_,O.m⟩
 ·rcases Bm hy with z|z
  ·exact Wk (O.g y z)
  ·rw[z];exact Dt _ (.head _)
 ·refine RD.mpr ⟨O.d,List.pairwise_singleton _ _,λi hi j hj=>?_⟩
  rw[Do.mp hj];exact O.b i hi
 ·show i<(A.tb++[t]).length
  rw[Dg];rcases Dl.mp hi with z|z
  ·have:=O.b i z;lia
  ·rw[Do.mp z];show _<_+1;lia
 ·rcases Dl.mp hi with z|z
  ·rw[JW (O.b i z)];exact q2i (O.t i z)
  ·rw[Do.mp z,YS];exact q2i ht
 ·rw[os_lay O ht,Dg,wt_len]
  show _<=A.most;push_cast;exact hf
end Mc
structure StA(C:Addr)(M:MM)(s h kp:Nat)(A:Mc):Prop where
 O:A.Ok
 S:StS C M s h kp A.bits A.ms A.room A.ws A.os A.qu A.sl A.sw
def Nw(M:MM)(h h':Nat):Prop:=h'=h\/M.length<=h'
def Go(C:Addr)(M:MM)(s h kp:Nat)(B:Mc)(Q:MM->Prop):Prop:=∀M' h' aW,Frm M M' [s,h,kp]->Nw M h h'->Nw M kp aW->StA C M' s h' aW B->Q M'
theorem Go.here(S:StA C M s h kp A)(g:Go C M s h kp A Q):Q M:=g M h kp .refl (.inl rfl) (.inl rfl) S
theorem Go.step(g:Go C M s h kp B Q)(f:Frm M M' [s,h,kp])(hh:Nw M h h')(hk:Nw M kp aW)(hs:s<M.length):Go C M' s h' aW B Q:=λM2 h2 k2 f2 a b S=>by
 have nw:∀{x x' y:Nat},Nw M x x'->Nw M' x' y->Nw M x y:=λ{x x' y} p q=>by
  have:=f.1;unfold Nw at *;lia
 refine g M2 h2 k2 (f.trans f2 λi hi=>?_) (nw hh a) (nw hk b) S;simp only[Dr,DW,UU]at hi ⊢;unfold Nw at *;lia
theorem StA.put(S:StA C M s h kp A)(hx:A.RfOk x):StA C (M.set h (iM (A.ws.set r (A.wd x)))) s h kp (A.put r x):=by
 have hh:=(Db.mp S.S.h0).1;refine⟨Mc.ok_put S.O hx,by rw[Dq S.S.sh.symm];exact S.S.s0,by rw[Mc.ws_put];exact Dw hh,by rw[Dq S.S.hk];exact S.S.k0,S.S.sh,S.S.sk,S.S.hk⟩
theorem jZ(e:h∈F):Frm M (M.set h o) F:=⟨by rw[Dm];exact Dh _,λi _ hn=>Dq λz:h=i=>hn (z▸e)⟩
theorem vR(D:MDef X.prog X.w X.K X.mg X.base C m k ps sp)(c:Cls X.K C)(he:QE X o ta)(hr:Room k X.A)(ht:eval (.Call (.Attribute o m aK) [] [] pos) X.env=(do
   let ov <-eval o X.env
   standAt aK.atName;let(f,first) <-holding [ov] (getMethod ov m pl)
   callWith pos f first (backTo pos (starEach [] X.env)) (backToKw pos (keywordEach [] X.env))):=by rfl):QE X (.Call (.Attribute o m aK) [] [] pos) (XS C m sp [] E0 ta tNil):=by
 obtain⟨f,fd,h1,h2,h3⟩:=D.ex;exact⟨q0S he.h c h1 h3 hr h2 .nil WQ ht⟩
local macro_rules|`(tactic|walk_at "vx")=>`(tactic|simp only[zb,jf,jw,v9,vF,uTry,zc,za,jx,jg,endX,uAsG,vo,uIxX,uOpX,uX0,YM,uIfX,uSlA,q6s,q8d])
local macro_rules|`(tactic|walk_at "pk")=>`(tactic|(walk_at "v"; repeat ((first|walk_at "vx" |refine ve (by decide) ?_|refine qK rfl ?_); walk_at "v")))
theorem zS(TP:q01 Ξ C)(S:StA C M s h kp A)(q:Q (.p (layT A.bits A.ms)) M):FldS Ξ "laying" (.m s) M Q:=v8 TP.c TP.n1 S.S.s0 (by rfl) q
theorem q5n(TP:q01 Ξ C)(S:StA C M s h kp A)(q:Q (.p (.int A.room)) M):FldS Ξ "room" (.m s) M Q:=v8 TP.c TP.n2 S.S.s0 (by rfl) q
theorem vn(TP:q01 Ξ C)(S:StA C M s h kp A)(q:Q (.m h) M):FldS Ξ "held" (.m s) M Q:=v8 TP.c TP.n3 S.S.s0 (by rfl) q
theorem xp(TP:q01 Ξ C)(S:StA C M s h kp A)(q:Q (.m kp) M):FldS Ξ "kept" (.m s) M Q:=v8 TP.c TP.n4 S.S.s0 (by rfl) q
theorem mS(S:StA C M s h kp A)(hm:(fldC A.bits A.ms A.room h kp A.qu A.sl A.sw).lookup m=none)(q:R):Zn C m (.m s) M R:=q4Z S.S.s0 hm q
theorem jr{i:Nat}(S:StA C M s h kp A)(hq:A.rg[i]?=some x)(q:Q (.p (.int (A.wd x))) M):IxS qQ M (.m h) (.p (.int (i:Int))) Q :=
 Jw (us:=((A.ws).map T.int).map U.p) (by simp[qQ,S.S.h0]) (vK (by unfold Mc.ws;simp only[Dv,hq,BJ])) q
theorem kj(e:M[h]?=some (iM ws))(hr:r<ws.length)(q:R (M.set h (iM (ws.set r x)))):SubS M (.m h) (.p (.int (r:Int))) (.p (.int x)) R:=by
 refine⟨h,_,r,r,rfl,e,rfl,?_,?_⟩
 ·unfold ixN
  simp[hr]
 ·rw[<-Bk, <-Bk]
  exact q
theorem StA.l8(S:StA C M s h kp A):A.ws.length=8:=by unfold Mc.ws;rw[Dd,S.O.l8]
theorem Vc(S:StA C M s h kp A)(hr:r<8)(hx:A.RfOk x)(g:Go C M s h kp (A.put r x) R):SubS M (.m h) (.p (.int (r:Int))) (.p (.int (A.wd x))) R :=
 kj S.S.h0 (by rw[S.l8];exact hr) (g _ h kp (jZ (by simp)) (.inl rfl) (.inl rfl) (S.put hx))
theorem StA.lt(S:StA C M s h kp A):s<M.length:=(Db.mp S.S.s0).1
theorem kJ(R:Right bits ms)(hx:Vld bits ms x (qV ms x.1))(q:R' (.int (wdK bits ms x))):zJ [layT bits ms,tOf x] R':=by
 have hm:=hx.k;have g6:=R.w _ hm.mem;have gu:=zI (qV ms x.1).1;have hb:=R.b;refine⟨bits,ms,tOf x,x.1,x.2,qV ms x.1,rfl,by have:=R.n;lia,hx.worth,hm,by lia,by lia,by lia,?_,q⟩;by_cases hs:x.1 = "small"
 ·exact .inl ⟨x.2,by unfold tOf;rw[Uj hs]⟩
 ·exact .inr (hx.o hs)
theorem YV:tOf ("small", n)=.int n:=by unfold tOf;rw[Uj rfl]
theorem q28:tOf ("one", 0)=.str "none" := by unfold tOf;rw[Uh (by decide),Uj rfl];rfl
theorem YW{t:Th}:tOf (t.kd,n)=.tup [.str t.kd,.int n]:=by
 unfold tOf;cases t with
 |far=>rfl
 |pr=>rfl
abbrev xT:Stmt:=qj (top 50) 4
theorem ZJ:q00 ["self","size"] ["self","size"] (qc xT):=by ac_rfl
def q32(C:Addr):List U->MM->UK->Prop:=λus M Q=>∃(s h kp:Nat)(A:Mc)(size:Int),us=[.m s,.p (.int size)]/\StA C M s h kp A/\Q (.p (.bl (decide (A.most<A.os.length+size)))) M
theorem q1g(F:Fun Ξ "lacks" "Store.lacks" xT f fd)(N:Nms mg)(TP:q01 Ξ C)(bf:Def P w Ξ mg base "most_outside" 3 ["laying","room"] (spP q7A)):FnOk P w Ξ mg base CX0 4 f fd ["self","size"] (spU (q32 C)):=by
 refine F.zU ZJ (by rintro _ _ _ ⟨_,_,_,_,_,rfl,_⟩;rfl) (λa9 A outer s H E hr=>?_);refine⟨_,(qd (qp (xn q8o (ql qL (qx vJ (by rfl) N.len Q6 (qa1 (qy qv0 rfl))) qv1) (qg bf (WE hr) (qa2 (qy qv0 rfl) (qy qv0 rfl))) (qt _)))),_,(by right),λus M Qu h=>?_⟩;obtain⟨s,h,kp,A,size,rfl,S,q⟩:=h;symm;refine xp TP S ?_;symm;refine jV S.S.k0 ?_;symm;refine zS TP S ?_;symm;refine q5n TP S ?_;symm;refine⟨A.bits,A.ms,A.room,rfl,S.O.R,?_⟩;symm;simp only[Dd];exact q
abbrev zf:Stmt:=qj (top 50) 5
theorem kW:q00 ["self","size"] ["self","size"] (qc zf):=by ac_rfl
noncomputable def Mc.mk'(A:Mc)(n:Nat):Mc:=if A.most<A.os.length+n then A.swp else A
def Xk(C:Addr):List U->MM->UK->UX->Prop:=λus M Q X=>∃(s h kp:Nat)(A:Mc)(n:Nat),us=[.m s,.p (.int n)]/\StA C M s h kp A/\((((A.mk' n).os.length:Int)+n<=A.most)->Go C M s h kp (A.mk' n) (Q (.p .non)))/\((A.most<((A.mk' n).os.length:Int)+n)->Go C M s h kp (A.mk' n) (X "NoRoom" none))
theorem q0q(F:Fun Ξ "make_room" "Store.make_room" zf f fd)(a4:Cls Ξ C)(aX:ExcC Ξ mg "NoRoom" CENoRoom)(b5:MDef P w Ξ mg base C "lacks" 4 ["self","size"] (spU (q32 C)))(bp:MDef P w Ξ mg base C "sweep" 7 ["self"] (spU (q2e C))):FnOk P w Ξ mg base (CXe P w) 8 f fd ["self","size"] (spX mg (Xk C)):=by
 refine F.zX kW (by rintro _ _ _ _ ⟨_,_,_,_,_,rfl,_⟩;rfl) (λa9 A outer s H E hr=>?_);refine⟨_,(qC (jP (vp (vM (qD b5 a4 qv0 (WE hr) (qa1 qv1))) (qd (vq (vR bp a4 qv0 (WE hr)))) qJ)) (qF (jQ (vM (qD b5 a4 qv0 (WE hr) (qa1 qv1))) (qF (VS rfl rfl aX (qa1 qe))) vN))),_,(by right),λus M Qu Xu h=>?_⟩;obtain⟨s,h,kp,A,n,rfl,S,q1,q2⟩:=h;unfold Mc.mk' at q1 q2;symm;refine mS S (by rfl) ?_;symm;refine⟨s,h,kp,A,n,rfl,S,?_⟩;symm;refine ite2 (λz=>?_) (λz=>?_)
 ·rw[Uj z]at q1 q2
  symm;refine mS S (by rfl) ?_;symm;refine⟨s,h,kp,A.bits,A.ms,A.room,A.ws,A.os,A.qu,A.sl,A.sw,A.od.map A.pl,rfl,S.S,Mc.si S.O,Mc.fit S.O,λM' h' aW f1 n1 n2 S'=>?_⟩;rw[Mc.ws_swp S.O,Mc.os_swp S.O]at S';have S2:StA C M' s h' aW A.swp:=⟨Mc.ok_swp S.O,S'⟩;have f2:Frm M M' [s,h,kp]:=⟨f1.1,λi hi hn=>f1.2 i hi λz=>hn (by simp at z;simp[z])⟩;left;refine mS S2 (by rfl) ?_;left;refine⟨s,h',aW,A.swp,n,rfl,S2,?_⟩;left;refine ite2 (λz=>?_) (λz=>?_)
  ·left
   exact⟨by rw[Ul];decide,_,_,_,rfl,rfl,q2 z M' h' aW f2 (.inr n1) (.inr n2) S2⟩
  ·left
   exact q1 (BW.mp z) M' h' aW f2 (.inr n1) (.inr n2) S2
 ·rw[Uh z]at q1 q2
  left;refine mS S (by rfl) ?_;left;refine⟨s,h,kp,A,n,rfl,S,?_⟩;left;exact ve z (Go.here S (q1 (BW.mp z)))
abbrev jN:Stmt:=top 16
theorem scLimbCount:q00 ["laying","n","bits"] ["laying","n"] (qc jN):=by ac_rfl
def jY:List T->(T->Prop)->Prop:=λts Q=>∃(bits:Int)(ms:List Mk3)(n:Int),ts=[layT bits ms,.int n]/\1<=bits/\bits<=60/\Q (.int (lcnt bits n))
theorem Q4(F:Fun Ξ "limb_count" "limb_count" jN f fd)(N:Nms mg):FnOk P w Ξ mg base CX0 1 f fd ["laying","n"] (spP jY):=by
 refine F.zP scLimbCount (by rintro _ _ ⟨_,_,_,rfl,_⟩;rfl) (λa9 A outer s H E hr=>?_);refine⟨_,(qb (qi (i:=2) scLimbCount.nd rfl GC (qr (Uc Ξ) qv0 qa (λ_ _=>rfl))) (qd (qp (ql kr (ql vB (ql qL (q2d PySem.F.plainAttrs_int PySem.F.slot_int_bit_length PySem.F.type_int_bit_length q4c (qx Zm (by rfl) N.abs q4r (qa1 qv1))) qv2) qa) qv2)))),_,(qk (by right) (zx (zW (by right) (zW (by right) (zW (by right) (q62 (qaP qaQ (qo (qm 1) qU))) (qm 2)) (by right)) (qm 2)))),λts Qt h=>?_⟩;obtain⟨bits,ms,n,rfl,b0,b1,q⟩:=h;nofun;rw[qa5,q0z,q29 b0];exact⟨⟨by lia,log2_lt (by lia) (by lia)⟩,q⟩
abbrev VL:Stmt:=top 20
theorem Wa:q00 ["laying","n"] ["laying","n"] (qc VL):=by ac_rfl
def Za:List T->(T->Prop)->Prop:=λts Q=>∃(bits:Int)(ms:List Mk3)(n:Int),ts=[layT bits ms,.int n]/\2<=bits/\bits<=60/\Q (.bl (decide (2^(bits-2).toNat<=(lcnt bits n:Int))))
theorem Z2(F:Fun Ξ "is_great" "is_great" VL f fd)(aP:Def P w Ξ mg base "limb_count" 1 ["laying","n"] (spP jY)):FnOk P w Ξ mg base CX0 2 f fd ["laying","n"] (spP Za):=by
 refine F.zP Wa (by rintro _ _ ⟨_,_,_,rfl,_⟩;rfl) (λa9 A outer s H E hr=>?_);refine⟨_,(qd (qp (xn q1R (qg aP (WE hr) (qa2 qv0 qv1)) (ql zo qa (ql vB (qr (Uc Ξ) qv0 qa (λ_ _=>rfl)) qa)) (qt _)))),_,(by right),λts Qt h=>?_⟩;obtain⟨bits,ms,n,rfl,b0,b1,q⟩:=h;nofun;refine⟨bits,ms,n,rfl,by lia,b1,?_⟩;nofun;refine⟨⟨by lia,by lia,by decide⟩,?_⟩;rw[DX];exact q
abbrev X8:Stmt:=top 17
theorem scRowsOf:q00 ["laying","n","bits","count","words","left","limb"] ["laying","n"] (qc X8):=by ac_rfl
def q4s:List T->(T->Prop)->Prop:=λts Q=>∃(bits:Int)(ms:List Mk3)(n:Int),ts=[layT bits ms,.int n]/\1<=bits/\bits<=60/\Bt 20000 n/\Q (vb (xY bits n))
theorem q1t(F:Fun Ξ "rows_of" "rows_of" X8 f fd)(N:Nms mg)(aP:Def P w Ξ mg base "limb_count" 1 ["laying","n"] (spP jY)):FnOk P w Ξ mg base CX0 2 f fd ["laying","n"] (spP q4s):=by
 refine F.zP scRowsOf (by rintro _ _ ⟨_,_,_,rfl,_⟩;rfl) (λa9 A outer s H E hr=>?_);refine⟨_,(qb (qi (i:=2) scRowsOf.nd rfl GC (qr (Uc Ξ) qv0 qa (λ_ _=>rfl))) (qb (qi (i:=3) scRowsOf.nd rfl GC (qg aP (WE hr) (qa2 qv0 qv1))) (qb (qi (i:=4) scRowsOf.nd rfl GC (qw (qa1 (ql qL (ql Ve qa qv3) (vd (qh Q2 qv1 qa (qt _)) qa qa))))) (qb (qi (i:=5) scRowsOf.nd rfl GC (qx Zm (by rfl) N.abs q4r (qa1 qv1))) (qb (xL PassesOwn.never rfl (zl rfl N.range (qa1 qv3)) (vi (i:=6) scRowsOf.nd rfl GC) (qb (vq (Q1 PySem.F.slot_list_append PySem.F.type_list_append zt qv4 (qa1 (ql zp qv5 (ql zo qa qv2))))) (qd (qi (i:=5) scRowsOf.nd rfl GC (ql q2P qv5 qv2))))) (qd (qp qv4))))))),_,(qk (by right) (qk (by right) (qk (vf (QN (qo (zW (by right) (by right) (q2Z (Zj (zW (zR λ_ _=>.bl _) (qm 1) WF)) (.int _) (.int _))) qU)) (qH 4)) (by right)))),λts Qt h=>?_⟩;obtain⟨bits,ms,n,rfl,b0,b1,hn,q⟩:=h;have hc:=q4m hn b0 b1;have hsz:20061<sizeLine:=by decide
 nofun;refine⟨bits,ms,n,rfl,b0,b1,?_⟩;nofun;refine⟨.inl ⟨by decide,by decide⟩,?_⟩;have ir:4*(lcnt bits n:Int)+(if n<0 then 2 else 0)=vT bits n:=rfl;rw[qa5,ir];refine Qb (by lia) (by lia) ?_;refine ki (λi ρ M'=>∃x6,ρ=[some (.p (layT bits ms)),some (.p (.int n)),some (.p (.int bits)),some (.p (.int (lcnt bits n))),some (.m 0),some (.p (.int ((n.natAbs / 2^(bits.toNat*i):Nat):Int))),x6]/\M'=[.lst ((T.int (vT bits n)::((List.range i).map (lim bits.toNat n.natAbs)).map T.int).map U.p)]) ⟨none,by simp,rfl⟩ ?_ ?_
 ·rintro i ρ M' hi ⟨x6,rfl,rfl⟩
  nofun;refine⟨⟨by lia,by lia,by decide⟩,?_,?_⟩
  ·rw[DX];exact qX _
  refine⟨by simp;lia,by lia,some (.p (.int i)),?_,?_⟩
  ·rw[<-Xa]
   have:((n.natAbs / 2^(bits.toNat*i):Nat):Int) / 2^bits.toNat=((n.natAbs / 2^(bits.toNat*i) / 2^bits.toNat:Nat):Int):=by
    push_cast;rfl
   rw[this]
  ·have:((n.natAbs / 2^(bits.toNat*i):Nat):Int) % (1*2^bits.toNat)=lim bits.toNat n.natAbs i:=by
    unfold lim;rw[q0a];exact_mod_cast rfl
   rw[this,Ba,Ds,Ds,Ds];rfl
 ·rintro ρ M' ⟨x6,rfl,rfl⟩
  nofun;refine⟨_,?_,q⟩;simp only[frzN,Re];rw[show(U.p (T.int (vT bits n))::List.map U.p (List.map T.int (List.map (lim bits.toNat n.natAbs) (List.range (lcnt bits n:Int).toNat))))=((xY bits n).map T.int).map U.p from rfl,Zb (λ_=>Xm)];rfl
abbrev kY:Stmt:=qj (top 50) 6
theorem KU:q00 ["self","r","kind","thing"] ["self","r","kind","thing"] (qc kY):=by ac_rfl
def G5(C:Addr):List U->MM->UK->Prop:=λus M Q=>∃(s h kp:Nat)(A:Mc)(r:Nat)(t:Th),us=[.m s,.p (.int r),.p (.str t.kd),.p (vb (A.wt t))]/\StA C M s h kp A/\r<8/\A.ThOk t/\2<=t.sz A.bits/\(A.os.length:Int)+t.sz A.bits<=A.most/\Go C M s h kp (A.lay r t) (Q (.p .non))
theorem q3v(F:Fun Ξ "lay" "Store.lay" kY f fd)(N:Nms mg)(TP:q01 Ξ C)(am:Def P w Ξ mg base "word_of" 3 ["laying","worth"] (spP zJ)):FnOk P w Ξ mg base CX0 4 f fd ["self","r","kind","thing"] (spU (G5 C)):=by
 refine F.zU KU (by rintro _ _ _ ⟨_,_,_,_,_,_,rfl,_⟩;rfl) (λa9 A outer s H E hr=>?_);refine⟨_,(qb (zd (qg am (WE hr) (qa2 (qy qv0 rfl) (qA (qa2 qv2 (qx vJ (by rfl) N.len Q6 (qa1 (qy qv0 rfl))))))) (zm (qy qv0 rfl) qv1 vh)) (qd (vq (Q1 PySem.F.slot_list_extend PySem.F.type_list_extend Qj (qy qv0 rfl) (qa1 qv3))))),_,(by right),λus M Qu h=>?_⟩;obtain⟨s,h,kp,A,r,t,rfl,S,hr,ht,h2,hf,g⟩:=h;have hh:=(Db.mp S.S.h0).1;have hk:=(Db.mp S.S.k0).1;symm;refine zS TP S ?_;symm;refine xp TP S ?_;symm;refine jV S.S.k0 ?_;symm;simp only[Dd];rw[<-YW];refine kJ S.O.R ?_ ?_
 ·obtain⟨m,hm⟩:=S.O.R.kind (kind:=t.kd) (by cases t<;>(simp only[Th.kd];decide))
  have hl:=(Mc.most_le S.O (k:=t.kd) (by cases t<;>simp[Th.kd])).1;show Vld _ _ _ (qV A.ms t.kd);rw[hm.mk]at hl ⊢;refine⟨hm,λz=>?_,λ_=>⟨Bd _,by show(A.os.length:Int)<_;lia⟩,λz=>?_,λz=>?_⟩<;>(have z:t.kd=_:=z)<;>cases t<;>exact absurd z (by simp only[Th.kd];decide)
 symm;refine vn TP S ?_;symm;refine kj S.S.h0 (by rw[S.l8];exact hr) ?_;have s1:(M.set h (iM (A.ws.set r (wdK A.bits A.ms (t.kd,(A.os.length:Int))))))[s]?=some (.ins C (fldC A.bits A.ms A.room h kp A.qu A.sl A.sw)):=by rw[Dq S.S.sh.symm];exact S.S.s0
 have k1:(M.set h (iM (A.ws.set r (wdK A.bits A.ms (t.kd,(A.os.length:Int))))))[kp]?=some (iM A.os):=by rw[Dq S.S.hk];exact S.S.k0
 symm;refine v8 TP.c TP.n4 s1 (by rfl) ?_;symm;refine Gw k1 ?_;symm;have hm:=(Mc.most_le S.O (k := "far") (.inl rfl)).2;have hw:=Mc.wt_len (A:=A) (t:=t);refine⟨_,k1,_,rfl,by simp only[Dd,Ul];lia,?_⟩;rw[<-Ds, <-Ds];refine g _ h kp ((jZ (by simp)).trans (jZ (F:=[s,h,kp]) (by simp)) λi hi=>.inl hi) (.inl rfl) (.inl rfl) ⟨Mc.ok_lay S.O ht hf,?_,?_,?_,S.S.sh,S.S.sk,S.S.hk⟩
 ·rw[Dq S.S.sk.symm]
  exact s1
 ·rw[Dq S.S.hk.symm,Dw hh,Mc.ws_lay S.O]
 ·rw[Dw (by rw[Dm];exact hk),Mc.os_lay S.O ht]
abbrev vS:Stmt:=qj (top 50) 7
theorem scStoreNumber:q00 ["self","r","n","thing"] ["self","r","n"] (qc vS):=by ac_rfl
noncomputable def Mc.num(A:Mc)(r:Nat)(n:Int):Mc×Bool :=
 if vY A.sm n=true then(A.put r (.w ("small", n)),true)
 else if 2^(A.bits-2).toNat<=(lcnt A.bits n:Int) then(A,false)
 else if((A.mk' (lcnt A.bits n+1)).os.length:Int)+(lcnt A.bits n+1:Nat)<=A.most then((A.mk' (lcnt A.bits n+1)).lay r (.far n),true)
 else(A.mk' (lcnt A.bits n+1),false)
def q20(C:Addr):List U->MM->UK->UX->Prop:=λus M Q X=>∃(s h kp:Nat)(A:Mc)(r:Nat)(n:Int),us=[.m s,.p (.int r),.p (.int n)]/\StA C M s h kp A/\r<8/\Bt 20000 n/\((A.num r n).2=true->Go C M s h kp (A.num r n).1 (Q (.p .non)))/\((A.num r n).2=false->Go C M s h kp (A.num r n).1 (X "NoRoom" none))
theorem Mc.mk_keep{A:Mc}:(A.mk' n).bits=A.bits/\(A.mk' n).ms=A.ms/\(A.mk' n).room=A.room:=by unfold Mc.mk';split<;>exact⟨rfl,rfl,rfl⟩
theorem Gb(F:Fun Ξ "number" "Store.number" vS f fd)(N:Nms mg)(TP:q01 Ξ C)(a4:Cls Ξ C)(aX:ExcC Ξ mg "NoRoom" CENoRoom)(bb:Def P w Ξ mg base "is_small" 3 ["laying","n"] (spP V9))(am:Def P w Ξ mg base "word_of" 3 ["laying","worth"] (spP zJ))(bc:Def P w Ξ mg base "is_great" 2 ["laying","n"] (spP Za))(bx:Def P w Ξ mg base "rows_of" 2 ["laying","n"] (spP q4s))(ae:q02 P w Ξ mg base C "make_room" 8 ["self","size"] (spX mg (Xk C)))(au:MDef P w Ξ mg base C "lay" 4 ["self","r","kind","thing"] (spU (G5 C))):FnOk P w Ξ mg base (CXe P w) 9 f fd ["self","r","n"] (spX mg (q20 C)):=by
 refine F.zX scStoreNumber (by rintro _ _ _ _ ⟨_,_,_,_,_,_,rfl,_⟩;rfl) (λa9 A outer s H E hr=>?_);refine⟨_,(qC (jP (vp (vM (qg bb (WE hr) (qa2 (qy qv0 rfl) qv2))) (qb (zd (qg am (WE hr) (qa2 (qy qv0 rfl) qv2)) (zm (qy qv0 rfl) qv1 vh)) (qd q3I)) qJ)) (qC (jQ (vM (qg bc (WE hr) (qa2 (qy qv0 rfl) qv2))) (qF (VS rfl rfl aX (qa1 qe))) vN) (qC (jP (qi (i:=3) scStoreNumber.nd rfl GC (qg bx (WE hr) (qa2 (qy qv0 rfl) qv2)))) (qC (vm (qR qv0 a4 ae (WE hr) (qa1 (qx vJ (by rfl) N.len Q6 (qa1 qv3))))) (qF (jP (vq (qD au a4 qv0 (WE hr) (qa3 qv1 qe qv3))))))))),_,(qk (j2 (by right) (qk (by right) q4v) vP) (by right)),λus M Qu Xu h=>?_⟩;obtain⟨s,h,kp,A,r,n,rfl,S,hr,hn,q1,q2⟩:=h;have hb:=S.O.R.b;unfold Mc.num at q1 q2;left;refine zS TP S ?_;left;obtain⟨m,hm⟩:=S.O.R.kind (kind := "small") (by decide);have g6:=S.O.R.w m hm.mem;have gu:=zI m.1;have mv:=S.O.R.n;have iu:A.sm=A.bits-m.2.1:=by unfold Mc.sm;rw[hm.mk]
 refine⟨A.bits,A.ms,n,m,rfl,by lia,hm,by lia,by lia,?_⟩;rw[<-iu];cases hs:vY A.sm n with
 |true=>
  rw[Uj hs]at q1 q2;left;refine zS TP S ?_;left;have hx:InW A.bits A.ms ("small", n):=by
   have h1:=Us hs;rw[iu]at h1;refine⟨?_,.inl rfl⟩;show Vld _ _ _ (qV A.ms "small");rw[hm.mk];exact⟨hm,λ_=>h1,λz=>absurd rfl z,λz=>absurd z (by dsimp only;decide),λz=>absurd z (by dsimp only;decide)⟩
  have e:=@YV n;rw[<-e];refine kJ S.O.R hx.v ?_;left;refine vn TP S ?_;left;exact Vc (x:=.w ("small", n)) S hr hx (q1 rfl)
 |false=>
  rw[Uh (by rw[hs];decide)]at q1 q2;left;refine zS TP S ?_;left;refine⟨A.bits,A.ms,n,rfl,by lia,by lia,?_⟩;left;refine ite2 (λhg=>?_) (λhg=>?_)
  ·rw[Uj hg]at q1 q2
   left;exact⟨by rw[Ul];decide,_,_,_,rfl,rfl,Go.here S (q2 rfl)⟩
  rw[Uh hg]at q1 q2;left;refine zS TP S ?_;left;refine⟨A.bits,A.ms,n,rfl,by lia,by lia,hn,?_⟩;left;refine mS S (by rfl) ?_;left;rw[Dd,xu];obtain⟨e1,e2,e3⟩:=Mc.mk_keep (A:=A) (n:=lcnt A.bits n+1);have em:(A.mk' (lcnt A.bits n+1)).most=A.most:=by unfold Mc.most;rw[e1,e2,e3]
  have hl:=xo (bits:=A.bits) (by lia) (Mc.small_ne hs);refine⟨s,h,kp,A,lcnt A.bits n+1,rfl,S,λg7 M' h' aW f a b S'=>?_,λbY M' h' aW f a b S'=>?_⟩
  ·rw[Uj g7]at q1
   refine mS S' (by rfl) ?_;refine⟨s,h',aW,A.mk' _,r,.far n,by show _=[_,_,_,U.p (vb (xY _ n))];rw[e1];rfl,S',hr,?_,?_,?_,(q1 rfl).step f a b S.lt⟩
   ·refine⟨?_,?_⟩
    ·unfold Mc.sm at hs ⊢
     rw[e1,e2];exact hs
    ·rw[e1]
     exact BX.mp hg
   ·show 2<=lcnt _ n+1
    rw[e1];lia
   ·rw[em]
    show _+((lcnt _ n+1:Nat):Int)<=_;rw[e1];exact g7
  ·rw[Uh (BX.mpr bY)]at q2
   exact⟨_,_,_,rfl,rfl,q2 rfl M' h' aW f a b S'⟩
def kS(k:Str):Str:=if k = "small" \/ k = "far" then "number" else k
namespace Mc
def rd(A:Mc):Rf->T
 |.w x=>tOf x
 |.t i=>match A.th i with
  |.far n=>.int n
  |.pr _ _=>.tup [.str "pair",.int (A.pl i)]
def tl(A:Mc):Rf->T
 |.w x=>tOf x
 |.t i=>match A.th i with
  |.far n=>.int n
  |.pr _ _=>.str "pair"
def nv(A:Mc):Rf->Option Int
 |.w x=>if x.1 = "small" then some x.2 else none
 |.t i=>match A.th i with
  |.far n=>some n
  |.pr _ _=>none
def kn(A:Mc)(x:Rf):Str:=kS (A.kl x).1
theorem kn_nv{A:Mc}(h:A.RfOk x):A.kn x = "number" ↔ A.nv x≠none:=by
 cases x with
 |w x=>
  have h:InW A.bits A.ms x:=h;show kS x.1 = "number" ↔ (if x.1 = "small" then some x.2 else none)≠none;rcases h.k with e|e|e<;>rw[e]
  ·exact⟨λ_=>by rw[Uj rfl];exact(λz=>nomatch z),λ_=>by decide⟩
  ·exact⟨λz=>absurd z (by decide),λz=>absurd (Uh (by decide)) z⟩
  ·exact⟨λz=>absurd z (by decide),λz=>absurd (Uh (by decide)) z⟩
 |t i=>
  show kS (A.th i).kd=_↔(match A.th i with | .far n=>some n | .pr _ _=>none)≠none;cases A.th i with
  |far n=>exact⟨λ_=>(λz=>nomatch z),λ_=>by show kS "far" = "number";decide⟩
  |pr a b=>exact⟨λz=>absurd z (by show ¬kS "pair" = "number";decide),λz=>absurd rfl z⟩
set_option tactic.hygienic true in
theorem tl_nv{A:Mc}(e:A.nv x=some n):A.tl x=.int n:=by
 cases x with
 |w x=>
  have e:(if x.1 = "small" then some x.2 else none)=some n:=e;split at e
  ·rename_i h
   cases e;show tOf x=_;unfold tOf;rw[Uj h]
  ·cases e
 |t i=>
  have e:(match A.th i with | .far n=>some n | .pr _ _=>none)=some n:=e;show(match A.th i with | .far n=>T.int n | .pr _ _=>T.str "pair")=_;cases et:A.th i with
  |far k=>rw[et]at e;cases e;rfl
  |pr a b=>rw[et]at e;cases e
theorem kn_pair{A:Mc}(h:A.RfOk x):(A.kn x = "pair" -> A.tl x=.str "pair")/\(¬A.kn x = "pair" -> A.tl x=A.rd x):=by
 cases x with
 |w x=>
  have h:InW A.bits A.ms x:=h;refine⟨λz=>?_,λ_=>rfl⟩;have z:kS x.1 = "pair" := z;rcases h.k with e|e|e<;>rw[e]at z<;>exact absurd z (by decide)
 |t i=>
  show(kS (A.th i).kd=_->(match A.th i with | .far n=>T.int n | .pr _ _=>T.str "pair")=_)/\(¬kS (A.th i).kd=_->(match A.th i with | .far n=>T.int n | .pr _ _=>T.str "pair")=(match A.th i with | .far n=>T.int n | .pr _ _=>.tup [.str "pair",.int (A.pl i)]));cases A.th i with
  |far n=>exact⟨λz=>absurd z (by show ¬kS "far" = "pair";decide),λ_=>rfl⟩
  |pr a b=>exact⟨λ_=>rfl,λz=>absurd (by show kS "pair" = "pair";decide) z⟩
end Mc
abbrev xQ:Stmt:=qj (top 50) 1
theorem ZF:q00 ["self"] ["self"] (qc xQ):=by ac_rfl
def V8(C:Addr):List U->MM->UK->Prop:=λus M Q=>∃(s h kp:Nat)(A:Mc),us=[.m s]/\StA C M s h kp A/\Q (.p (vb A.ws)) M
def q1k(C:Addr):List U->MM->UK->Prop:=λus M Q=>∃(s h kp:Nat)(A:Mc),us=[.m s]/\StA C M s h kp A/\Q (.p (vb A.os)) M
theorem Y2(e:M[k]?=some (iM l)):sn M (.m k)=some (vb l):=by
 simp only[sn,e];rw[xw];rfl
theorem W6(F:Fun Ξ "words" "Store.words" xQ f fd)(N:Nms mg)(TP:q01 Ξ C):FnOk P w Ξ mg base CX0 1 f fd ["self"] (spU (V8 C)):=by
 refine F.zU ZF (by rintro _ _ _ ⟨_,_,_,_,rfl,_⟩;rfl) (λa9 A outer s H E hr=>?_);refine⟨_,(qd (qp (qT qI (by rfl) N.list zy (qa1 (qy qv0 rfl))))),_,(by right),λus M Qu h=>?_⟩;obtain⟨s,h,kp,A,rfl,S,q⟩:=h;symm;refine vn TP S ?_;symm;exact⟨_,by rw[sns,Y2 S.S.h0];rfl,_,_,rfl,rfl,q⟩
abbrev zD:Stmt:=qj (top 50) 2
theorem QZ:q00 ["self"] ["self"] (qc zD):=by ac_rfl
theorem q4S(F:Fun Ξ "outside" "Store.outside" zD f fd)(N:Nms mg)(TP:q01 Ξ C):FnOk P w Ξ mg base CX0 1 f fd ["self"] (spU (q1k C)):=by
 refine F.zU QZ (by rintro _ _ _ ⟨_,_,_,_,rfl,_⟩;rfl) (λa9 A outer s H E hr=>?_);refine⟨_,(qd (qp (qT qI (by rfl) N.list zy (qa1 (qy qv0 rfl))))),_,(by right),λus M Qu h=>?_⟩;obtain⟨s,h,kp,A,rfl,S,q⟩:=h;symm;refine xp TP S ?_;symm;exact⟨_,by rw[sns,Y2 S.S.k0];rfl,_,_,rfl,rfl,q⟩
theorem StA.ok{q:Nat}(S:StA C M s h kp A)(e:A.rg[q]?=some x):A.RfOk x:=S.O.g x (De e)
abbrev xc:Stmt:=qj (top 50) 11
theorem VA:q00 ["self","q"] ["self","q"] (qc xc):=by ac_rfl
def q7T(C:Addr):List U->MM->UK->Prop:=λus M Q=>∃(s h kp:Nat)(A:Mc)(q:Nat)(x:Rf),us=[.m s,.p (.int q)]/\StA C M s h kp A/\A.rg[q]?=some x/\Q (.p (.bl (decide ((A.kl x).1 = "small")))) M
theorem q5y(F:Fun Ξ "in_word" "Store.in_word" xc f fd)(TP:q01 Ξ C)(ar:Def P w Ξ mg base "mark_of" 2 ["laying","word"] (spP jc)):FnOk P w Ξ mg base CX0 3 f fd ["self","q"] (spU (q7T C)):=by
 refine F.zU VA (by rintro _ _ _ ⟨_,_,_,_,_,_,rfl,_⟩;rfl) (λa9 A outer s H E hr=>?_);refine⟨_,(qd (qp (xn op_eq (qg ar (WE hr) (qa2 (qy qv0 rfl) (qr (Ub Ξ) (qy qv0 rfl) qv1 (λ_ _=>rfl)))) qe (qt _)))),_,(by right),λus M Qu h=>?_⟩;obtain⟨s,h,kp,A,q',x,rfl,S,hq,q⟩:=h;symm;refine zS TP S ?_;symm;refine vn TP S ?_;symm;refine jr S hq ?_;symm;have hn:=S.O.R.n;refine⟨A.bits,A.ms,_,rfl,S.O.R.wd,by lia,?_⟩;rw[Mc.mark_wd S.O (S.ok hq)];symm;exact q
def GG:List (Str×V):=[("small",.str "number"),("far",.str "number"),("pair",.str "pair"),("sign",.str "sign"),("one",.str "one")]
def kindsT:List (Str×T):=[("small",.str "number"),("far",.str "number"),("pair",.str "pair"),("sign",.str "sign"),("one",.str "one")]
theorem q1D:Paired (λ(a:Str×V) (b:Str×T)=>a.1=b.1/\Sc a.2 b.2) GG kindsT:=.cons ⟨rfl,.str _⟩ (.cons ⟨rfl,.str _⟩ (.cons ⟨rfl,.str _⟩ (.cons ⟨rfl,.str _⟩ (.cons ⟨rfl,.str _⟩ .nil))))
theorem GH{A:Mc}(h:A.RfOk x):kindsT.lookup (A.kl x).1=some (.str (A.kn x)):=by
 unfold Mc.kn;cases x with
 |w x=>
  have h:InW A.bits A.ms x:=h;show kindsT.lookup x.1=some (.str (kS x.1));rcases h.k with e|e|e<;>rw[e]<;>rfl
 |t i=>
  show kindsT.lookup (A.th i).kd=some (.str (kS (A.th i).kd));cases A.th i<;>rfl
abbrev jG:Stmt:=qj (top 50) 26
theorem X1:q00 ["self","q"] ["self","q"] (qc jG):=by ac_rfl
def Xj(C:Addr):List U->MM->UK->Prop:=λus M Q=>∃(s h kp:Nat)(A:Mc)(q:Nat)(x:Rf),us=[.m s,.p (.int q)]/\StA C M s h kp A/\A.rg[q]?=some x/\Q (.p (.str (A.kn x))) M
theorem q1P(F:Fun Ξ "kind" "Store.kind" jG f fd)(N:Nms mg)(TP:q01 Ξ C)(dn:KDi Ξ w mg "KINDS_BY_MARK" kd GG)(ar:Def P w Ξ mg base "mark_of" 2 ["laying","word"] (spP jc)):FnOk P w Ξ mg base CX0 3 f fd ["self","q"] (spU (Xj C)):=by
 refine F.zU X1 (by rintro _ _ _ ⟨_,_,_,_,_,_,rfl,_⟩;rfl) (λa9 A outer s H E hr=>?_);refine⟨_,(qd (qp (q9x dn rfl (qg ar (WE hr) (qa2 (qy qv0 rfl) (qr (Ub Ξ) (qy qv0 rfl) qv1 (λ_ _=>rfl)))) (λ_ _=>rfl)))),_,(zx (q9H q1D (xE (qo (qaM (qm 0)) (qo (qaK (qaM (qm 0)) (qm 1)) qU))))),λus M Qu h=>?_⟩;obtain⟨s,h,kp,A,q',x,rfl,S,hq,q⟩:=h;symm;unfold uKD;symm;refine zS TP S ?_;symm;refine vn TP S ?_;symm;refine jr S hq ?_;symm;have hn:=S.O.R.n;refine⟨A.bits,A.ms,_,rfl,S.O.R.wd,by lia,?_⟩;rw[Mc.mark_wd S.O (S.ok hq)];symm;exact⟨_,_,rfl,GH (S.ok hq),q⟩
abbrev jJ:Stmt:=top 39
theorem scReadWorth:q00 ["laying","outside","word","worth"] ["laying","outside","word"] (qc jJ):=by ac_rfl
def q2w:List U->MM->UK->Prop:=λus M Q=>∃(kp:Nat)(A:Mc)(x:Rf),us=[.p (layT A.bits A.ms),.m kp,.p (.int (A.wd x))]/\A.Ok/\M[kp]?=some (iM A.os)/\A.RfOk x/\Q (.p (A.rd x)) M
theorem q1n(F:Fun Ξ "read_worth" "read_worth" jJ f fd)(N:Nms mg)(cu:Def P w Ξ mg base "worth_of" 3 ["laying","word"] (spP Kn))(ar:Def P w Ξ mg base "mark_of" 2 ["laying","word"] (spP jc))(c9:Def P w Ξ mg base "number_at" 2 ["laying","outside","address"] (spP q8y)):FnOk P w Ξ mg base CX0 4 f fd ["laying","outside","word"] (spU q2w):=by
 refine F.zU scReadWorth (by rintro _ _ _ ⟨_,_,_,rfl,_⟩;rfl) (λa9 A outer s H E hr=>?_);refine⟨_,(qb (qi (i:=3) scReadWorth.nd rfl GC (qg cu (WE hr) (qa2 qv0 qv2))) (qb (vp (qh op_eq (qg ar (WE hr) (qa2 qv0 qv2)) qe (qt _)) (qd (qp (qg c9 (WE hr) (qa3 qv0 qv1 (qr (Uc Ξ) qv3 qa (λ_ _=>rfl)))))) qJ) (qd (qp qv3)))),_,(qk (by right) (qk (j2 (by right) (zx (q24 (by right))) vP) (by right))),λus M Qu h=>?_⟩;obtain⟨kp,A,x,rfl,O,hk,hx,q⟩:=h;symm;have v:=Mc.vld O hx;have nM:=v.there O.R;refine⟨A.bits,A.ms,_,rfl,O.R,nM.1,?_⟩;rw[show Zo A.bits A.ms (A.wd x)=tOf (A.kl x)from nM.2.2];symm;have hn:=O.R.n;refine⟨A.bits,A.ms,_,rfl,O.R.wd,by lia,?_⟩;rw[Mc.mark_wd O hx];symm;refine ite2 (λz=>?_) (λz=>?_)
 ·cases x with
  |w x=>
   have hx:InW A.bits A.ms x:=hx;have z:x.1 = "far" := z;rcases hx.k with e|e|e<;>rw[e]at z<;>exact absurd z (by decide)
  |t i=>
   have z:(A.th i).kd = "far" := z;have ht:=O.t i hx;obtain⟨l,r,_,_,eo,ep⟩:=Mc.at_ O hx;cases et:A.th i with
   |pr a b=>rw[et]at z;exact absurd z (by simp only[Th.kd];decide)
   |far n=>
    rw[et]at ht;have hb:=O.R.b;have h4:=Mc.head_4 (bits:=A.bits) (by lia) (Mc.small_ne ht.1);have hd:=Mc.hd_at O hx;have hl:=Mc.pl_lt O hx;have hz:=Mc.os_le O;rw[show A.hd i=vT A.bits n by unfold Mc.hd;rw[et]]at hd;rw[show A.sz i=lcnt A.bits n+1 by unfold Mc.sz;rw[et];rfl]at hl;have en:numI A.bits.toNat A.os (A.pl i) (vT A.bits n)=n:=by
     rw[eo,ep,show A.tw i=xY A.bits n by unfold Mc.tw;rw[et]];exact Mc.num_at (by lia) (Mc.small_ne ht.1)
    rw[show A.rd (.t i)=.int n by unfold Mc.rd;simp only[et]]at q;show _;rw[show A.kl (.t i)=((A.th i).kd,(A.pl i:Int))from rfl,YW];simp only[YL];symm;exact⟨[layT A.bits A.ms,vb A.os,.int (A.pl i)],by simp only[frzs,Xm,Qy hk],A.bits,A.ms,A.os,A.pl i,vT A.bits n,rfl,hd,h4.1,by rw[h4.2.2.2.2];lia,by lia,by lia,by lia,Mc.os_ok O,by rw[en];exact⟨⟨_,rfl⟩,q⟩⟩
 ·symm
  have e:A.rd x=tOf (A.kl x):=by
   cases x with
   |w x=>rfl
   |t i=>
    have z:¬(A.th i).kd = "far" := z;show(match A.th i with | .far n=>T.int n | .pr _ _=>.tup [.str "pair",.int (A.pl i)])=tOf ((A.th i).kd,(A.pl i:Int));rw[YW];cases et:A.th i with
    |far n=>rw[et]at z;exact absurd rfl z
    |pr a b=>rfl
  rw[<-e];exact q
abbrev jA:Stmt:=qj (top 50) 27
theorem XU:q00 ["self","q"] ["self","q"] (qc jA):=by ac_rfl
def jt(C:Addr):List U->MM->UK->Prop:=λus M Q=>∃(s h kp:Nat)(A:Mc)(q:Nat)(x:Rf),us=[.m s,.p (.int q)]/\StA C M s h kp A/\A.rg[q]?=some x/\Q (.p (A.tl x)) M
theorem q17(F:Fun Ξ "told" "Store.told" jA f fd)(N:Nms mg)(TP:q01 Ξ C)(a4:Cls Ξ C)(ak:MDef P w Ξ mg base C "kind" 3 ["self","q"] (spU (Xj C)))(bF:Def P w Ξ mg base "read_worth" 4 ["laying","outside","word"] (spU q2w)):FnOk P w Ξ mg base CX0 5 f fd ["self","q"] (spU (jt C)):=by
 refine F.zU XU (by rintro _ _ _ ⟨_,_,_,_,_,_,rfl,_⟩;rfl) (λa9 A outer s H E hr=>?_);refine⟨_,(qb (vp (qh op_eq (qD ak a4 qv0 (WE hr) (qa1 qv1)) qe (qt _)) (qd (qp qe)) qJ) (qd (qp (qg bF (WE hr) (qa3 (qy qv0 rfl) (qy qv0 rfl) (qr (Ub Ξ) (qy qv0 rfl) qv1 (λ_ _=>rfl))))))),_,(by right),λus M Qu h=>?_⟩;obtain⟨s,h,kp,A,q',x,rfl,S,hq,q⟩:=h;have hp:=Mc.kn_pair (S.ok hq);symm;refine mS S (by rfl) ?_;symm;refine⟨s,h,kp,A,q',x,rfl,S,hq,?_⟩;symm;refine ite2 (λz=>?_) (λz=>?_)
 ·symm
  rw[hp.1 z]at q;exact q
 symm;refine zS TP S ?_;symm;refine xp TP S ?_;symm;refine vn TP S ?_;symm;refine jr S hq ?_;symm;exact⟨kp,A,x,rfl,S.O,S.S.k0,S.ok hq,by rw[<-hp.2 z];exact q⟩
theorem sm1:kQ 1:=by unfold kQ;decide
theorem sm2:kQ 2:=by unfold kQ;decide
abbrev xh:Stmt:=top 22
theorem VC:q00 ["store","q","p"] ["store","q","p"] (qc xh):=by ac_rfl
def Vj(C:Addr):List U->MM->UK->UX->Prop:=λus M Q X=>∃(s h kp:Nat)(A:Mc)(q p:Nat)(x y:Rf),us=[.m s,.p (.int q),.p (.int p)]/\StA C M s h kp A/\A.rg[q]?=some x/\A.rg[p]?=some y/\(∀a b,A.nv x=some a->A.nv y=some b->Q (.p .non) M)/\(A.nv x=none->X "WrongKind" (some 1) M)/\(∀a,A.nv x=some a->A.nv y=none->X "WrongKind" (some 2) M)
theorem q0l(F:Fun Ξ "need_numbers" "need_numbers" xh f fd)(a4:Cls Ξ C)(g8:ExcD P w Ξ mg base "WrongKind" CW 1)(ak:MDef P w Ξ mg base C "kind" 3 ["self","q"] (spU (Xj C))):FnOk P w Ξ mg base (CXe P w) 4 f fd ["store","q","p"] (spX mg (Vj C)):=by
 refine F.zX VC (by rintro _ _ _ _ ⟨_,_,_,_,_,_,_,_,rfl,_⟩;rfl) (λa9 A outer s H E hr=>?_);refine⟨_,(qC (jQ (qh q0T (qD ak a4 qv0 (WE hr) (qa1 qv1)) qe (qt _)) (qF (Qd rfl rfl g8 (WE hr) (qa1 qa))) vN) (qF (jQ (qh q0T (qD ak a4 qv0 (WE hr) (qa1 qv2)) qe (qt _)) (qF (Qd rfl rfl g8 (WE hr) (qa1 qa))) vN))),_,(by right),λus M Qu Xu h=>?_⟩;obtain⟨s,h,kp,A,q,p,x,y,rfl,S,hq,hp,k1,k2,k3⟩:=h;have ix:=Mc.kn_nv (S.ok hq);have iy:=Mc.kn_nv (S.ok hp);left;refine mS S (by rfl) ?_;left;refine⟨s,h,kp,A,q,x,rfl,S,hq,?_⟩;left;cases ex:A.nv x with
 |none=>
  refine qK (by rw[Um (λz=>ix.mp z ex)];rfl) ?_;exact⟨1,rfl,sm1,_,_,_,rfl,rfl,k2 ex⟩
 |some a=>
  rw[ix.mpr (by rw[ex];exact λz=>nomatch z)];left;refine mS S (by rfl) ?_;left;refine⟨s,h,kp,A,p,y,rfl,S,hp,?_⟩;left;cases ey:A.nv y with
  |none=>
   refine qK (by rw[Um (λz=>iy.mp z ey)];rfl) ?_;exact⟨2,rfl,sm2,_,_,_,rfl,rfl,k3 a ex ey⟩
  |some b=>
   rw[iy.mpr (by rw[ey];exact λz=>nomatch z)];left;exact k1 a b ex ey
abbrev xi:Stmt:=top 23
theorem VD:q00 ["store","q","p"] ["store","q","p"] (qc xi):=by ac_rfl
def G0(C:Addr):List U->MM->UK->UX->Prop:=λus M Q X=>∃(s h kp:Nat)(A:Mc)(q p:Nat)(x y:Rf),us=[.m s,.p (.int q),.p (.int p)]/\StA C M s h kp A/\A.rg[q]?=some x/\A.rg[p]?=some y/\(∀a b,A.nv x=some a->A.nv y=some b->b≠0->Q (.p .non) M)/\(A.nv x=none->X "WrongKind" (some 1) M)/\(∀a,A.nv x=some a->A.nv y=none->X "WrongKind" (some 2) M)/\(∀a,A.nv x=some a->A.nv y=some 0->X "Nought" none M)
theorem q11(F:Fun Ξ "need_divisor" "need_divisor" xi f fd)(a4:Cls Ξ C)(cG:ExcC Ξ mg "Nought" CENought)(aa:DefX P w Ξ mg base "need_numbers" 4 ["store","q","p"] (spX mg (Vj C)))(a5:MDef P w Ξ mg base C "told" 5 ["self","q"] (spU (jt C))):FnOk P w Ξ mg base (CXe P w) 6 f fd ["store","q","p"] (spX mg (G0 C)):=by
 refine F.zX VD (by rintro _ _ _ _ ⟨_,_,_,_,_,_,_,_,rfl,_⟩;rfl) (λa9 A outer s H E hr=>?_);refine⟨_,(qC (vm (zE aa (WE hr) (qa3 qv0 qv1 qv2))) (qF (jQ (qh op_eq (qD a5 a4 qv0 (WE hr) (qa1 qv2)) qa (qt _)) (qF (VS rfl rfl cG (qa1 qe))) vN))),_,(by right),λus M Qu Xu h=>?_⟩;obtain⟨s,h,kp,A,q,p,x,y,rfl,S,hq,hp,k1,k2,k3,k4⟩:=h;left;refine⟨s,h,kp,A,q,p,x,y,rfl,S,hq,hp,λa b ea eb=>?_,λe=>⟨_,_,_,rfl,rfl,k2 e⟩,λa ea e=>⟨_,_,_,rfl,rfl,k3 a ea e⟩⟩;left;refine mS S (by rfl) ?_;left;refine⟨s,h,kp,A,p,y,rfl,S,hp,?_⟩;rw[Mc.tl_nv eb];left;refine ite2 (λz=>?_) (λz=>?_)
 ·subst z
  left;exact⟨by rw[Ul];decide,_,_,_,rfl,rfl,k4 a ea eb⟩
 ·left
  exact k1 a b ea eb z
theorem Vs(I:UEnv->MM->Prop)(h1:∀nx:UEnv->MM->Prop,(∀b8 M',I b8 M'->nx b8 M')->a { E with nx:=nx } ρ M)(h2:∀b8 M',I b8 M'->b E b8 M'):uSeq a b E ρ M:=h1 _ h2
def Rf.isW:Rf->Bool
 |.w x=>decide (x.1 = "small")
 |.t _=>false
namespace Mc
theorem kl_isW{A:Mc}:decide ((A.kl x).1 = "small")=x.isW:=by
 cases x with
 |w x=>rfl
 |t i=>
  show decide ((A.th i).kd = "small")=false;cases A.th i with
  |far n=>show decide (("far" : Str) = "small")=false;decide
  |pr a b=>show decide (("pair" : Str) = "small")=false;decide
def cnt(A:Mc)(b:Bool):Mc:=if b=true then { A with qu:=A.qu+1 } else { A with sl:=A.sl+1 }
noncomputable def two(A:Mc)(r:Nat)(x y:Rf)(n:Int):Mc×Bool:=if(A.num r n).2=true then((A.num r n).1.cnt (x.isW&&y.isW&&vY A.sm n),true) else A.num r n
set_option tactic.hygienic true in
theorem num_at_r{A:Mc}(O:A.Ok)(hr:r<8)(h:(A.num r n).2=true):∃x,(A.num r n).1.rg[r]?=some x/\x.isW=vY A.sm n:=by
 have hl:∀k,(A.mk' k).rg.length=8:=λk=>by unfold mk';split<;>exact O.l8
 unfold num at h ⊢;split at h
 ·rename_i hs
  rw[Uj hs,hs];exact⟨_,Dw (by rw[O.l8];exact hr),by show decide (("small" : Str) = "small")=true;decide⟩
 rename_i hs;split at h
 ·cases h
 rename_i hg;split at h
 ·rename_i hf
  rw[Uh hs,Uh hg,Uj hf,Bool.eq_false_iff.mpr hs];exact⟨_,Dw (by rw[hl];exact hr),rfl⟩
 ·cases h
end Mc
theorem StA.cnt(S:StA C M s h kp A)(e:fs=fldC A.bits A.ms A.room h kp (A.cnt b).qu (A.cnt b).sl A.sw):StA C (M.set s (.ins C fs)) s h kp (A.cnt b):=by
 subst e;have hk:(A.cnt b).Ok/\(A.cnt b).bits=A.bits/\(A.cnt b).ms=A.ms/\(A.cnt b).room=A.room/\(A.cnt b).sw=A.sw/\(A.cnt b).ws=A.ws/\(A.cnt b).os=A.os:=by
  have O:=S.O;unfold Mc.cnt;split<;>exact⟨⟨O.R,O.l8,O.g,O.d,O.b,O.t,O.f,O.m⟩,rfl,rfl,rfl,rfl,rfl,rfl⟩
 obtain⟨O,e1,e2,e3,e4,e5,e6⟩:=hk;refine⟨O,?_,?_,?_,S.S.sh,S.S.sk,S.S.hk⟩
 ·rw[e1,e2,e3,e4]
  exact Dw S.lt
 ·rw[e5,Dq S.S.sh];exact S.S.h0
 ·rw[e6,Dq S.S.sk];exact S.S.k0
abbrev v3:Stmt:=qj (top 50) 12
theorem scStoreComeOfTwo:q00 ["self","r","q","p","n","in_words"] ["self","r","q","p","n"] (qc v3):=by ac_rfl
def Yo(C:Addr):List U->MM->UK->UX->Prop:=λus M Q X=>∃(s h kp:Nat)(A:Mc)(r q p:Nat)(x y:Rf)(n:Int),us=[.m s,.p (.int r),.p (.int q),.p (.int p),.p (.int n)]/\StA C M s h kp A/\r<8/\A.rg[q]?=some x/\A.rg[p]?=some y/\Bt 20000 n/\((A.two r x y n).2=true->Go C M s h kp (A.two r x y n).1 (Q (.p .non)))/\((A.two r x y n).2=false->Go C M s h kp (A.two r x y n).1 (X "NoRoom" none))
theorem q5G(F:Fun Ξ "come_of_two" "Store.come_of_two" v3 f fd)(TP:q01 Ξ C)(a4:Cls Ξ C)(aN:MDef P w Ξ mg base C "in_word" 3 ["self","q"] (spU (q7T C)))(aH:q02 P w Ξ mg base C "number" 9 ["self","r","n"] (spX mg (q20 C))):FnOk P w Ξ mg base (CXe P w) 10 f fd ["self","r","q","p","n"] (spX mg (Yo C)):=by
 refine F.zX scStoreComeOfTwo (by rintro _ _ _ _ ⟨_,_,_,_,_,_,_,_,_,_,rfl,_⟩;rfl) (λa9 A outer s H E hr=>?_);refine⟨_,(qC (jP (qi (i:=5) scStoreComeOfTwo.nd rfl GC (q2C (qD aN a4 qv0 (WE hr) (qa1 qv2)) (q2F (qD aN a4 qv0 (WE hr) (qa1 qv3)))))) (qC (vm (qR qv0 a4 aH (WE hr) (qa2 qv1 qv4))) (qF (jP (vp (Q0 (j8 (vM qv5) (xl (vM (qD aN a4 qv0 (WE hr) (qa1 qv1)))))) (qd (Qf qv0 qa)) (qd (Qf qv0 qa))))))),_,(by right),λus M Qu Xu h=>?_⟩;obtain⟨s,h,kp,A,r,q,p,x,y,n,rfl,S,hr,hq,hp,hn,q1,q2⟩:=h;unfold Mc.two at q1 q2;refine Vs (λb8 M'=>b8=[some (.m s),some (.p (.int r)),some (.p (.int q)),some (.p (.int p)),some (.p (.int n)),some (.p (.bl (x.isW&&y.isW)))]/\M'=M) (λnx fb=>?_) (λb8 M' hI=>?_)
 ·symm
  refine mS S (by rfl) ?_;symm;refine⟨s,h,kp,A,q,x,rfl,S,hq,?_⟩;rw[Mc.kl_isW];cases ex:x.isW with
  |false=>
   symm;exact fb _ _ ⟨by rw[ex];rfl,rfl⟩
  |true=>
   symm;refine mS S (by rfl) ?_;symm;refine⟨s,h,kp,A,p,y,rfl,S,hp,?_⟩;rw[Mc.kl_isW];symm;exact fb _ _ ⟨by rw[ex];rfl,rfl⟩
 obtain⟨rfl,rfl⟩:=hI;left;refine mS S (by rfl) ?_;left;refine⟨s,h,kp,A,r,n,rfl,S,hr,hn,λe M' h' aW f a b S'=>?_,λe M' h' aW f a b S'=>?_⟩
 ·rw[Uj e]at q1
  obtain⟨z,hz,ez⟩:=Mc.num_at_r S.O hr e;generalize(A.num r n).1=B at S' q1 hz;have fin:∀(b:Bool)(fs:List (Str×U)),b=(x.isW&&y.isW&&vY A.sm n)->fs=fldC B.bits B.ms B.room h' aW (B.cnt b).qu (B.cnt b).sl B.sw->Qu (.p .non) (M'.set s (.ins C fs)):=λc fs hc hf=>by
   subst hc;exact q1 rfl _ h' aW (f.trans (jZ (F:=[s]) (by simp)) λi hi=>.inl (by simp at hi;simp[hi])) a b (S'.cnt hf)
  cases exy:(x.isW&&y.isW) with
  |false=>
   rw[exy]at fin;left;simp only[kN];left;exact⟨s,C,_,B.sl,rfl,S'.S.s0,TP.c,TP.n6,by rfl,1,_,rfl,S'.S.s0,by show 7<1000;decide,fin _ _ rfl rfl⟩
  |true=>
   rw[exy]at fin;left;refine mS S' (by rfl) ?_;left;refine⟨s,h',aW,B,r,z,rfl,S',hz,?_⟩;rw[Mc.kl_isW,ez];cases iu:vY A.sm n with
   |false=>
    rw[iu]at fin;left;simp only[kN];left;exact⟨s,C,_,B.sl,rfl,S'.S.s0,TP.c,TP.n6,by rfl,1,_,rfl,S'.S.s0,by show 7<1000;decide,fin _ _ rfl rfl⟩
   |true=>
    rw[iu]at fin;left;simp only[kN];left;exact⟨s,C,_,B.qu,rfl,S'.S.s0,TP.c,TP.n5,by rfl,1,_,rfl,S'.S.s0,by show 7<1000;decide,fin _ _ rfl rfl⟩
 ·rw[Uh (by rw[e];decide)]at q2
  exact⟨_,_,_,rfl,rfl,q2 e M' h' aW f a b S'⟩
def Qw(C:Addr)(nt:Bool)(ok:Int->Int->Prop)(op:Int->Int->Int):List U->MM->UK->UX->Prop:=λus M Q X=>∃(s h kp:Nat)(A:Mc)(r q p:Nat)(x y:Rf),us=[.m s,.p (.int r),.p (.int q),.p (.int p)]/\StA C M s h kp A/\r<8/\A.rg[q]?=some x/\A.rg[p]?=some y/\(∀a b,A.nv x=some a->A.nv y=some b->(nt=true->b≠0)->ok a b/\Bt 20000 (op a b)/\((A.two r x y (op a b)).2=true->Go C M s h kp (A.two r x y (op a b)).1 (Q (.p .non)))/\((A.two r x y (op a b)).2=false->Go C M s h kp (A.two r x y (op a b)).1 (X "NoRoom" none)))/\(A.nv x=none->X "WrongKind" (some 1) M)/\(∀a,A.nv x=some a->A.nv y=none->X "WrongKind" (some 2) M)/\(nt=true->∀a,A.nv x=some a->A.nv y=some 0->X "Nought" none M)
theorem q0b:OpR X (binaryOp .FloorDiv) (rI (λi j=>j≠0/\Builtin.divisionGoesByPylong i j=false) λi j=>.int (i.fdiv j)):=opI λ_ _ _ _ _ _ _ hc q=>floordiv_int hc.1 q (.inl hc.2)
theorem q5K:OpR X (binaryOp .Mult) (rI IntMulOk λi j=>.int (i*j)):=opI λ_ _ _ _ _ _ _ hc q=>mul_int q hc
abbrev jD:Stmt:=qj (top 50) 13
theorem XX:q00 ["self","r","q","p"] ["self","r","q","p"] (qc jD):=by ac_rfl
theorem q1B(F:Fun Ξ "plus" "Store.plus" jD f fd)(a4:Cls Ξ C)(aa:DefX P w Ξ mg base "need_numbers" 4 ["store","q","p"] (spX mg (Vj C)))(a5:MDef P w Ξ mg base C "told" 5 ["self","q"] (spU (jt C)))(a7:q02 P w Ξ mg base C "come_of_two" 10 ["self","r","q","p","n"] (spX mg (Yo C))):FnOk P w Ξ mg base (CXe P w) 11 f fd ["self","r","q","p"] (spX mg (Qw C false (λ_ _=>True) (λa b=>a+b))):=by
 refine F.zX XX (by rintro _ _ _ _ ⟨_,_,_,_,_,_,_,_,_,rfl,_⟩;rfl) (λa9 A outer s H E hr=>?_);refine⟨_,(qC (vm (zE aa (WE hr) (qa3 qv0 qv2 qv3))) (qF (vm (qR qv0 a4 a7 (WE hr) (qa4 qv1 qv2 qv3 (ql qL (qD a5 a4 qv0 (WE hr) (qa1 qv2)) (qD a5 a4 qv0 (WE hr) (qa1 qv3)))))))),_,(by right),λus M Qu Xu h=>?_⟩;obtain⟨s,h,kp,A,r,q,p,x,y,rfl,S,hr,hq,hp,k1,k2,k3,k4⟩:=h;left;refine⟨s,h,kp,A,q,p,x,y,rfl,S,hq,hp,λa b ea eb=>?_,λe=>⟨_,_,_,rfl,rfl,k2 e⟩,λa ea e=>⟨_,_,_,rfl,rfl,k3 a ea e⟩⟩;obtain⟨hk,fc,g1,g2⟩:=k1 a b ea eb λz=>nomatch z;left;refine mS S (by rfl) ?_;left;refine mS S (by rfl) ?_;left;refine⟨s,h,kp,A,q,x,rfl,S,hq,?_⟩;left;refine mS S (by rfl) ?_;left;refine⟨s,h,kp,A,p,y,rfl,S,hp,?_⟩;rw[Mc.tl_nv ea,Mc.tl_nv eb];left;exact⟨s,h,kp,A,r,q,p,x,y,_,rfl,S,hr,hq,hp,fc,g1,λe M' h' aW f a b S'=>⟨_,_,_,rfl,rfl,g2 e M' h' aW f a b S'⟩⟩
abbrev jF:Stmt:=qj (top 50) 14
theorem X0:q00 ["self","r","q","p"] ["self","r","q","p"] (qc jF):=by ac_rfl
theorem q25(F:Fun Ξ "less" "Store.less" jF f fd)(a4:Cls Ξ C)(aa:DefX P w Ξ mg base "need_numbers" 4 ["store","q","p"] (spX mg (Vj C)))(a5:MDef P w Ξ mg base C "told" 5 ["self","q"] (spU (jt C)))(a7:q02 P w Ξ mg base C "come_of_two" 10 ["self","r","q","p","n"] (spX mg (Yo C))):FnOk P w Ξ mg base (CXe P w) 11 f fd ["self","r","q","p"] (spX mg (Qw C false (λ_ _=>True) (λa b=>a-b))):=by
 refine F.zX X0 (by rintro _ _ _ _ ⟨_,_,_,_,_,_,_,_,_,rfl,_⟩;rfl) (λa9 A outer s H E hr=>?_);refine⟨_,(qC (vm (zE aa (WE hr) (qa3 qv0 qv2 qv3))) (qF (vm (qR qv0 a4 a7 (WE hr) (qa4 qv1 qv2 qv3 (ql vB (qD a5 a4 qv0 (WE hr) (qa1 qv2)) (qD a5 a4 qv0 (WE hr) (qa1 qv3)))))))),_,(by right),λus M Qu Xu h=>?_⟩;obtain⟨s,h,kp,A,r,q,p,x,y,rfl,S,hr,hq,hp,k1,k2,k3,k4⟩:=h;left;refine⟨s,h,kp,A,q,p,x,y,rfl,S,hq,hp,λa b ea eb=>?_,λe=>⟨_,_,_,rfl,rfl,k2 e⟩,λa ea e=>⟨_,_,_,rfl,rfl,k3 a ea e⟩⟩;obtain⟨hk,fc,g1,g2⟩:=k1 a b ea eb λz=>nomatch z;left;refine mS S (by rfl) ?_;left;refine mS S (by rfl) ?_;left;refine⟨s,h,kp,A,q,x,rfl,S,hq,?_⟩;left;refine mS S (by rfl) ?_;left;refine⟨s,h,kp,A,p,y,rfl,S,hp,?_⟩;rw[Mc.tl_nv ea,Mc.tl_nv eb];left;exact⟨s,h,kp,A,r,q,p,x,y,_,rfl,S,hr,hq,hp,fc,g1,λe M' h' aW f a b S'=>⟨_,_,_,rfl,rfl,g2 e M' h' aW f a b S'⟩⟩
abbrev xR:Stmt:=qj (top 50) 15
theorem ZH:q00 ["self","r","q","p"] ["self","r","q","p"] (qc xR):=by ac_rfl
theorem W7(F:Fun Ξ "times" "Store.times" xR f fd)(a4:Cls Ξ C)(aa:DefX P w Ξ mg base "need_numbers" 4 ["store","q","p"] (spX mg (Vj C)))(a5:MDef P w Ξ mg base C "told" 5 ["self","q"] (spU (jt C)))(a7:q02 P w Ξ mg base C "come_of_two" 10 ["self","r","q","p","n"] (spX mg (Yo C))):FnOk P w Ξ mg base (CXe P w) 11 f fd ["self","r","q","p"] (spX mg (Qw C false IntMulOk (λa b=>a*b))):=by
 refine F.zX ZH (by rintro _ _ _ _ ⟨_,_,_,_,_,_,_,_,_,rfl,_⟩;rfl) (λa9 A outer s H E hr=>?_);refine⟨_,(qC (vm (zE aa (WE hr) (qa3 qv0 qv2 qv3))) (qF (vm (qR qv0 a4 a7 (WE hr) (qa4 qv1 qv2 qv3 (ql q5K (qD a5 a4 qv0 (WE hr) (qa1 qv2)) (qD a5 a4 qv0 (WE hr) (qa1 qv3)))))))),_,(by right),λus M Qu Xu h=>?_⟩;obtain⟨s,h,kp,A,r,q,p,x,y,rfl,S,hr,hq,hp,k1,k2,k3,k4⟩:=h;left;refine⟨s,h,kp,A,q,p,x,y,rfl,S,hq,hp,λa b ea eb=>?_,λe=>⟨_,_,_,rfl,rfl,k2 e⟩,λa ea e=>⟨_,_,_,rfl,rfl,k3 a ea e⟩⟩;obtain⟨hk,fc,g1,g2⟩:=k1 a b ea eb λz=>nomatch z;left;refine mS S (by rfl) ?_;left;refine mS S (by rfl) ?_;left;refine⟨s,h,kp,A,q,x,rfl,S,hq,?_⟩;left;refine mS S (by rfl) ?_;left;refine⟨s,h,kp,A,p,y,rfl,S,hp,?_⟩;rw[Mc.tl_nv ea,Mc.tl_nv eb];left;refine⟨hk,?_⟩;exact⟨s,h,kp,A,r,q,p,x,y,_,rfl,S,hr,hq,hp,fc,g1,λe M' h' aW f a b S'=>⟨_,_,_,rfl,rfl,g2 e M' h' aW f a b S'⟩⟩
abbrev jE:Stmt:=qj (top 50) 16
theorem XZ:q00 ["self","r","q","p"] ["self","r","q","p"] (qc jE):=by ac_rfl
theorem q0O(F:Fun Ξ "over" "Store.over" jE f fd)(a4:Cls Ξ C)(aI:DefX P w Ξ mg base "need_divisor" 6 ["store","q","p"] (spX mg (G0 C)))(a5:MDef P w Ξ mg base C "told" 5 ["self","q"] (spU (jt C)))(a7:q02 P w Ξ mg base C "come_of_two" 10 ["self","r","q","p","n"] (spX mg (Yo C))):FnOk P w Ξ mg base (CXe P w) 11 f fd ["self","r","q","p"] (spX mg (Qw C true (λa b=>Builtin.divisionGoesByPylong a b=false) Int.fdiv)):=by
 refine F.zX XZ (by rintro _ _ _ _ ⟨_,_,_,_,_,_,_,_,_,rfl,_⟩;rfl) (λa9 A outer s H E hr=>?_);refine⟨_,(qC (vm (zE aI (WE hr) (qa3 qv0 qv2 qv3))) (qF (vm (qR qv0 a4 a7 (WE hr) (qa4 qv1 qv2 qv3 (ql q0b (qD a5 a4 qv0 (WE hr) (qa1 qv2)) (qD a5 a4 qv0 (WE hr) (qa1 qv3)))))))),_,(by right),λus M Qu Xu h=>?_⟩;obtain⟨s,h,kp,A,r,q,p,x,y,rfl,S,hr,hq,hp,k1,k2,k3,k4⟩:=h;left;refine⟨s,h,kp,A,q,p,x,y,rfl,S,hq,hp,λa b ea eb hz=>?_,λe=>⟨_,_,_,rfl,rfl,k2 e⟩,λa ea e=>⟨_,_,_,rfl,rfl,k3 a ea e⟩,λa ea e=>⟨_,_,_,rfl,rfl,k4 rfl a ea e⟩⟩;obtain⟨hk,fc,g1,g2⟩:=k1 a b ea eb λ_=>hz;left;refine mS S (by rfl) ?_;left;refine mS S (by rfl) ?_;left;refine⟨s,h,kp,A,q,x,rfl,S,hq,?_⟩;left;refine mS S (by rfl) ?_;left;refine⟨s,h,kp,A,p,y,rfl,S,hp,?_⟩;rw[Mc.tl_nv ea,Mc.tl_nv eb];left;refine⟨⟨hz,hk⟩,?_⟩;exact⟨s,h,kp,A,r,q,p,x,y,_,rfl,S,hr,hq,hp,fc,g1,λe M' h' aW f a b S'=>⟨_,_,_,rfl,rfl,g2 e M' h' aW f a b S'⟩⟩
abbrev jC:Stmt:=qj (top 50) 17
theorem XW:q00 ["self","r","q","p"] ["self","r","q","p"] (qc jC):=by ac_rfl
theorem q0v(F:Fun Ξ "rest" "Store.rest" jC f fd)(a4:Cls Ξ C)(aI:DefX P w Ξ mg base "need_divisor" 6 ["store","q","p"] (spX mg (G0 C)))(a5:MDef P w Ξ mg base C "told" 5 ["self","q"] (spU (jt C)))(a7:q02 P w Ξ mg base C "come_of_two" 10 ["self","r","q","p","n"] (spX mg (Yo C))):FnOk P w Ξ mg base (CXe P w) 11 f fd ["self","r","q","p"] (spX mg (Qw C true (λ_ _=>True) Int.fmod)):=by
 refine F.zX XW (by rintro _ _ _ _ ⟨_,_,_,_,_,_,_,_,_,rfl,_⟩;rfl) (λa9 A outer s H E hr=>?_);refine⟨_,(qC (vm (zE aI (WE hr) (qa3 qv0 qv2 qv3))) (qF (vm (qR qv0 a4 a7 (WE hr) (qa4 qv1 qv2 qv3 (ql q5Z (qD a5 a4 qv0 (WE hr) (qa1 qv2)) (qD a5 a4 qv0 (WE hr) (qa1 qv3)))))))),_,(by right),λus M Qu Xu h=>?_⟩;obtain⟨s,h,kp,A,r,q,p,x,y,rfl,S,hr,hq,hp,k1,k2,k3,k4⟩:=h;left;refine⟨s,h,kp,A,q,p,x,y,rfl,S,hq,hp,λa b ea eb hz=>?_,λe=>⟨_,_,_,rfl,rfl,k2 e⟩,λa ea e=>⟨_,_,_,rfl,rfl,k3 a ea e⟩,λa ea e=>⟨_,_,_,rfl,rfl,k4 rfl a ea e⟩⟩;obtain⟨hk,fc,g1,g2⟩:=k1 a b ea eb λ_=>hz;left;refine mS S (by rfl) ?_;left;refine mS S (by rfl) ?_;left;refine⟨s,h,kp,A,q,x,rfl,S,hq,?_⟩;left;refine mS S (by rfl) ?_;left;refine⟨s,h,kp,A,p,y,rfl,S,hp,?_⟩;rw[Mc.tl_nv ea,Mc.tl_nv eb];left;refine⟨hz,?_⟩;exact⟨s,h,kp,A,r,q,p,x,y,_,rfl,S,hr,hq,hp,fc,g1,λe M' h' aW f a b S'=>⟨_,_,_,rfl,rfl,g2 e M' h' aW f a b S'⟩⟩
abbrev xV:Stmt:=qj (top 50) 24
theorem ZL:q00 ["self","q","p"] ["self","q","p"] (qc xV):=by ac_rfl
def GY(C:Addr):List U->MM->UK->UX->Prop:=λus M Q X=>∃(s h kp:Nat)(A:Mc)(q p:Nat)(x y:Rf),us=[.m s,.p (.int q),.p (.int p)]/\StA C M s h kp A/\A.rg[q]?=some x/\A.rg[p]?=some y/\(∀a b,A.nv x=some a->A.nv y=some b->Q (.p (.bl (decide (a<b)))) M)/\(A.nv x=none->X "WrongKind" (some 1) M)/\(∀a,A.nv x=some a->A.nv y=none->X "WrongKind" (some 2) M)
theorem W9(F:Fun Ξ "below" "Store.below" xV f fd)(a4:Cls Ξ C)(aa:DefX P w Ξ mg base "need_numbers" 4 ["store","q","p"] (spX mg (Vj C)))(a5:MDef P w Ξ mg base C "told" 5 ["self","q"] (spU (jt C))):FnOk P w Ξ mg base (CXe P w) 6 f fd ["self","q","p"] (spX mg (GY C)):=by
 refine F.zX ZL (by rintro _ _ _ _ ⟨_,_,_,_,_,_,_,_,rfl,_⟩;rfl) (λa9 A outer s H E hr=>?_);refine⟨_,(qC (vm (zE aa (WE hr) (qa3 qv0 qv1 qv2))) (qF (jP (qp (xn Q2 (qD a5 a4 qv0 (WE hr) (qa1 qv1)) (qD a5 a4 qv0 (WE hr) (qa1 qv2)) (qt _)))))),_,(by right),λus M Qu Xu h=>?_⟩;obtain⟨s,h,kp,A,q,p,x,y,rfl,S,hq,hp,k1,k2,k3⟩:=h;left;refine⟨s,h,kp,A,q,p,x,y,rfl,S,hq,hp,λa b ea eb=>?_,λe=>⟨_,_,_,rfl,rfl,k2 e⟩,λa ea e=>⟨_,_,_,rfl,rfl,k3 a ea e⟩⟩;left;refine mS S (by rfl) ?_;left;refine⟨s,h,kp,A,q,x,rfl,S,hq,?_⟩;left;refine mS S (by rfl) ?_;left;refine⟨s,h,kp,A,p,y,rfl,S,hp,?_⟩;rw[Mc.tl_nv ea,Mc.tl_nv eb];left;exact k1 a b ea eb
abbrev KZ:Stmt:=qj (top 50) 25
abbrev jK:Stmt:=top 48
theorem X4:q00 ["laying"] ["laying"] (qc jK):=by ac_rfl
def Vi:List T->(T->Prop)->Prop:=λts Q=>∃(bits:Int)(ms:List Mk3),ts=[layT bits ms]/\Q (layT bits ms)
theorem Q3(F:Fun Ξ "own_laying" "own_laying" jK f fd)(N:Nms mg):FnOk P w Ξ mg base CX0 1 f fd ["laying"] (spP Vi):=by
 refine F.zP X4 (by rintro _ _ ⟨_,_,rfl,_⟩;rfl) (λa9 A outer s H E hr=>?_);refine⟨_,(qd (qp (qA (qa2 (qr (Uc Ξ) qv0 qa (λ_ _=>rfl)) (qT qI (by rfl) N.list zy (qa1 (qr (Uc Ξ) qv0 qa (λ_ _=>rfl)))))))),_,(by right),λts Qt h=>?_⟩;obtain⟨bits,ms,rfl,q⟩:=h;unfold layT;symm;exact⟨_,_,rfl,rfl,q⟩
theorem kR{M L:MM}(hs:s<M.length):(M.set s a++L).set s b=M.set s b++L:=by rw[R1 _ _ (by rw[Dm];exact hs),BK]
theorem jX{M L:MM}(hs:s<M.length):(M.set s a++L)[s]?=some a:=by rw[Df (by rw[Dm];exact hs),Dw hs]
def Mc.new(bits:Int)(ms:List Mk3)(room:Int):Mc:=⟨bits,ms,room,List.replicate 8 (.w ("one", 0)), [], [],0,0,0⟩
theorem GR(R:Right bits ms):InW bits ms ("one", 0):=by
 obtain⟨m,hm⟩:=R.kind (kind := "one") (by decide);refine⟨?_,.inr (.inr rfl)⟩;show Vld _ _ _ (qV ms "one");rw[hm.mk];exact⟨hm,λz=>absurd z (by dsimp only;decide),λ_=>⟨qbw _,qX _⟩,λz=>absurd z (by dsimp only;decide),λ_=>by show(0:Int)<3;decide⟩
theorem q6q(R:Right bits ms)(h0:0<=room)(h4:room<=400):(Mc.new bits ms room).Ok:=by
 refine⟨R,rfl,λr hr=>?_,.nil,(λ_ z=>nomatch z),(λ_ z=>nomatch z),?_,h4⟩
 ·rw[List.eq_of_mem_replicate hr]
  exact GR R
 ·show(0:Int)<=Z6 bits ms room
  unfold Z6;have h1:=qX (bits-wOf ms "far").toNat;have h2:=qX (bits-wOf ms "pair").toNat;rcases @min3_or room (2^(bits-wOf ms "far").toNat) (2^(bits-wOf ms "pair").toNat)with e|e|e<;>lia
abbrev jH:Stmt:=qj (top 50) 0
theorem X2:q00 ["self","laying","room"] ["self","laying","room"] (qc jH):=by ac_rfl
def GX(C:Addr):List U->MM->UK->Prop:=λus M Q=>∃(s:Nat)(bits:Int)(ms:List Mk3)(room:Int),us=[.m s,.p (layT bits ms),.p (.int room)]/\M[s]?=some (.ins C [])/\Right bits ms/\0<=room/\room<=400/\∀M',Frm M M' [s]->StA C M' s M.length (M.length+1) (Mc.new bits ms room)->M'.length=M.length+2->Q (.p .non) M'
theorem q1E(F:Fun Ξ "__init__" "Store.__init__" jH f fd)(TP:q01 Ξ C)(g9:GInt mg "REGISTERS" 8)(bG:Def P w Ξ mg base "own_laying" 1 ["laying"] (spP Vi))(am:Def P w Ξ mg base "word_of" 3 ["laying","worth"] (spP zJ)):FnOk P w Ξ mg base CX0 4 f fd ["self","laying","room"] (spU (GX C)):=by
 refine F.zU X2 (by rintro _ _ _ ⟨_,_,_,_,rfl,_⟩;rfl) (λa9 A outer s H E hr=>?_);refine⟨_,(qb (ji qv0 (qg bG (WE hr) (qa1 qv1)) rfl) (qb (ji qv0 qv2 rfl) (qb (ji qv0 (ql WV (qw (qa1 (qg am (WE hr) (qa2 qv1 qe)))) (zF g9 rfl)) rfl) (qb (ji qv0 (qw v7) rfl) (qb (ji qv0 qa rfl) (qb (ji qv0 qa rfl) (qd (ji qv0 qa rfl)))))))),_,(qk (by right) (qk (by right) (qk (qaz (qm 0) (Xy (by right) (by right))) (qk (qaz (qm 0) (QN qU)) (by right))))),λus M Qu h=>?_⟩;obtain⟨s,bits,ms,room,rfl,em,R,h0,h4,q⟩:=h;have hs:=(Db.mp em).1;symm;refine⟨bits,ms,rfl,?_⟩;symm;refine vI TP.c TP.n1 em (by decide) ?_;symm;refine vI TP.c TP.n2 (Dw hs) (by show 1<1000;decide) ?_;rw[BK];symm;rw[<-q28];refine kJ R (GR R).v ?_;symm;refine Wl (by decide) (by decide) (by show 8<=sizeLine;decide) ?_;refine vI TP.c TP.n3 (jX hs) (by show 2<1000;decide) ?_;rw[kR hs];symm;refine vI TP.c TP.n4 (by rw[DF];exact jX hs) (by show 3<1000;decide) ?_;rw[DF,kR hs];symm;refine vI TP.c TP.n5 (jX hs) (by show 4<1000;decide) ?_;rw[kR hs];symm;refine vI TP.c TP.n6 (jX hs) (by show 5<1000;decide) ?_;rw[kR hs];symm;refine vI TP.c TP.n7 (jX hs) (by show 6<1000;decide) ?_;rw[kR hs];symm;simp only[Dg,Dm,Dj,DR,Rz];refine q _ ⟨by rw[Dg,Dm];lia,λi hi hn=>?_⟩ ⟨q6q R h0 h4,jX hs,?_,?_,by lia,by lia,by lia⟩ (by rw[Dg,Dm];rfl)
 ·rw[Df (by rw[Dm];exact hi),Dq λz=>hn (by rw[z];simp)]
 ·rw[Dk (by rw[Dm];exact Dh _),Dm,RF]
  rfl
 ·rw[Dk (by rw[Dm];lia),Dm,DG]
  rfl
namespace Mc
variable {A:Mc}
def setT(A:Mc)(i:Nat)(t:Th):Mc:={ A with tb:=A.tb.set i t }
def pv(A:Mc):Rf->Option (Nat×Rf×Rf)
 |.w _=>none
 |.t i=>match A.th i with
  |.far _=>none
  |.pr a b=>some (i,a,b)
theorem pv_t(h:A.pv x=some (i,a,b)):x=.t i/\A.th i=.pr a b:=by
 cases x with
 |w x=>cases h
 |t j=>
  have h:(match A.th j with | .far _=>none | .pr a b=>some (j,a,b))=some (i,a,b):=h;cases e:A.th j with
  |far n=>rw[e]at h;cases h
  |pr c d=>rw[e]at h;cases h;exact⟨rfl,e⟩
theorem kn_pv(h:A.RfOk x):A.kn x = "pair" ↔ A.pv x≠none:=by
 cases x with
 |w x=>
  have h:InW A.bits A.ms x:=h;refine⟨λz=>?_,λz=>absurd rfl z⟩;have z:kS x.1 = "pair" := z;rcases h.k with e|e|e<;>rw[e]at z<;>exact absurd z (by decide)
 |t i=>
  show kS (A.th i).kd=_↔(match A.th i with | .far _=>none | .pr a b=>some (i,a,b))≠none;cases A.th i with
  |far n=>exact⟨λz=>absurd z (by show ¬kS "far" = "pair";decide),λz=>absurd rfl z⟩
  |pr a b=>exact⟨λ_=>(λz=>nomatch z),λ_=>by show kS "pair" = "pair";decide⟩
variable {i:Nat}{a b a' b':Rf}
set_option tactic.hygienic true in
theorem YR(hi:i<A.tb.length)(j:Nat):(A.setT i t).th j=if j=i then t else A.th j:=by
 unfold th setT;simp only[DA];split
 ·rename_i e
  rw[e,Dw hi];rfl
 ·rename_i e
  rw[Dq (Ne.symm e)]
section
variable (hi:i<A.tb.length) (e:A.th i=.pr a b)
include hi e
set_option tactic.hygienic true in
theorem q3r(j:Nat):((A.setT i (.pr a' b')).th j).kd=(A.th j).kd/\((A.setT i (.pr a' b')).th j).sz A.bits=(A.th j).sz A.bits:=by
 rw[YR hi];split
 ·rename_i z
  rw[z,e];exact⟨rfl,rfl⟩
 ·exact⟨rfl,rfl⟩
theorem q8x(j:Nat):(A.setT i (.pr a' b')).pl j=A.pl j:=by
 unfold pl;have:(A.setT i (.pr a' b')).sz=A.sz:=funext λj=>(q3r hi e j).2;rw[this];rfl
theorem Zp(x:Rf):(A.setT i (.pr a' b')).wd x=A.wd x:=by
 cases x with
 |w x=>rfl
 |t j=>
  show wdK A.bits A.ms (((A.setT i (.pr a' b')).th j).kd,((A.setT i (.pr a' b')).pl j:Int))=wdK A.bits A.ms ((A.th j).kd,(A.pl j:Int));rw[(q3r hi e j).1,q8x hi e j]
theorem ws_set:(A.setT i (.pr a' b')).ws=A.ws:=DY λx _=>Zp hi e x
theorem q2q(j:Nat):(A.setT i (.pr a' b')).tw j=if j=i then[1,A.wd a',A.wd b'] else A.tw j:=by
 rw[XQ,XQ,YR hi];split
 ·show[1,_,_]=[1,_,_]
  rw[Zp hi e,Zp hi e]
 ·cases A.th j with
  |far n=>rfl
  |pr c d=>
   show[1,_,_]=[1,_,_];rw[Zp hi e,Zp hi e]
theorem os_set(O:A.Ok)(hm:i∈A.od):(A.setT i (.pr a' b')).os=(A.os.set (A.pl i+1) (A.wd a')).set (A.pl i+2) (A.wd b'):=by
 obtain⟨l,r,e1,e2,e3,e4⟩:=at_ O hm;have hd:=nd O;rw[e1]at hd;have hr:i∉r:=(D0.mp (Rg.mp hd).2.1).1;have aD:∀l':List Nat,i∉l'->l'.flatMap (A.setT i (.pr a' b')).tw=l'.flatMap A.tw:=λl' h'=>by
  rw[Rw,Rw]
  congr 1;exact DY λj hj=>by rw[q2q hi e];exact Uh λz:j=i=>h' (z▸hj)
 have et:A.tw i=[1,A.wd a,A.wd b]:=by rw[XQ,e];rfl
 rw[e3,e4,et];show(A.od).flatMap _=_;rw[e1,Rh,DS,aD l e2,aD r hr,q2q hi e,Uj rfl,RX _ _ (by lia),DG];show _=(List.flatMap A.tw l++(1::A.wd a'::A.wd b::List.flatMap A.tw r)).set _ _;rw[RX _ _ (by lia),DG];rfl
theorem ok_setT(O:A.Ok)(hm:i∈A.od)(ha:A.RfOk a')(hb:A.RfOk b'):(A.setT i (.pr a' b')).Ok:=by
 have rf:∀{x:Rf},A.RfOk x->(A.setT i (.pr a' b')).RfOk x:=λ{x} h=>by cases x<;>exact h
 refine⟨O.R,O.l8,λr hr=>rf (O.g r hr),O.d,λj hj=>by show j<(A.tb.set i _).length;rw[Dm];exact O.b j hj,λj hj=>?_,?_,O.m⟩
 ·rw[YR hi]
  split
  ·exact⟨rf ha,rf hb⟩
  ·have:=O.t j hj
   cases et:A.th j with
   |far n=>rw[et]at this;exact this
   |pr c d=>rw[et]at this;exact⟨rf this.1,rf this.2⟩
 ·rw[os_set hi e O hm,Dm,Dm]
  exact O.f
end
theorem pr_at(O:A.Ok)(hm:i∈A.od)(e:A.th i=.pr a b):A.os[A.pl i+1]?=some (A.wd a)/\A.os[A.pl i+2]?=some (A.wd b):=by
 obtain⟨l,r,_,_,e3,e4⟩:=at_ O hm;have et:A.tw i=[1,A.wd a,A.wd b]:=by rw[XQ,e];rfl
 rw[e3,e4,et];constructor
 ·rw[Dk (by lia),DG];rfl
 ·rw[Dk (by lia),DG];rfl
end Mc
theorem StA.setT(S:StA C M s h kp A)(hm:i∈A.od)(e:A.th i=.pr a b)(ha:A.RfOk a')(hb:A.RfOk b')(el:l=(A.os.set (A.pl i+1) (A.wd a')).set (A.pl i+2) (A.wd b')):StA C (M.set kp (iM l)) s h kp (A.setT i (.pr a' b')):=by
 have hi:=S.O.b i hm;have hk:=(Db.mp S.S.k0).1;refine⟨Mc.ok_setT hi e S.O hm ha hb,by rw[Dq S.S.sk.symm];exact S.S.s0,?_,?_,S.S.sh,S.S.sk,S.S.hk⟩
 ·rw[Mc.ws_set hi e,Dq S.S.hk.symm];exact S.S.h0
 ·rw[Mc.os_set hi e S.O hm,Dw hk,el]
theorem q3b{i:Nat}(S:StA C M s h kp A)(hq:A.os[i]?=some x)(q:Q (.p (.int x)) M):IxS qQ M (.m kp) (.p (.int (i:Int))) Q :=
 Jw (us:=(A.os.map T.int).map U.p) (by simp[qQ,S.S.k0]) (vK (by simp only[Dv,hq,BJ])) q
abbrev jB:Stmt:=qj (top 50) 8
theorem XV:q00 ["self","r","k"] ["self","r","k"] (qc jB):=by ac_rfl
theorem Q7{a b:Int}(h:a<=b):(2:Int)^a.toNat<=2^b.toNat:=by
 have:=Ra (n:=2) (by decide) (show a.toNat<=b.toNat by lia);exact_mod_cast this
theorem GQ(R:Right bits ms)(h0:0<=k)(h1:k<128):InW bits ms ("sign", k):=by
 obtain⟨m,hm⟩:=R.kind (kind := "sign") (by decide);refine⟨?_,.inr (.inl rfl)⟩;show Vld _ _ _ (qV ms "sign");rw[hm.mk];have hw:=R.w m hm.mem;have hn:need m.1=7:=by rw[hm.is];rfl
 have h7:(2:Int)^(7:Int).toNat<=2^(bits-m.2.1).toNat:=Q7 (by lia);exact⟨hm,λz=>absurd z (by dsimp only;decide),λ_=>⟨h0,qbl h1 h7⟩,λ_=>h1,λz=>absurd z (by dsimp only;decide)⟩
theorem q6Z(R:Right bits ms)(h0:0<=k)(h1:k<3):InW bits ms ("one", k):=by
 obtain⟨m,hm⟩:=R.kind (kind := "one") (by decide);refine⟨?_,.inr (.inr rfl)⟩;show Vld _ _ _ (qV ms "one");rw[hm.mk];have hw:=R.w m hm.mem;have hn:need m.1=2:=by rw[hm.is];rfl
 have h7:(2:Int)^(2:Int).toNat<=2^(bits-m.2.1).toNat:=Q7 (by lia);exact⟨hm,λz=>absurd z (by dsimp only;decide),λ_=>⟨h0,qbl h1 (Int.le_trans (by decide) h7)⟩,λz=>absurd z (by dsimp only;decide),λ_=>h1⟩
def GV(C:Addr):List U->MM->UK->Prop:=λus M Q=>∃(s h kp:Nat)(A:Mc)(r:Nat)(k:Int),us=[.m s,.p (.int r),.p (.int k)]/\StA C M s h kp A/\r<8/\0<=k/\k<128/\Go C M s h kp (A.put r (.w ("sign", k))) (Q (.p .non))
theorem q0k(F:Fun Ξ "sign" "Store.sign" jB f fd)(TP:q01 Ξ C)(am:Def P w Ξ mg base "word_of" 3 ["laying","worth"] (spP zJ)):FnOk P w Ξ mg base CX0 4 f fd ["self","r","k"] (spU (GV C)):=by
 refine F.zU XV (by rintro _ _ _ ⟨_,_,_,_,_,_,rfl,_⟩;rfl) (λa9 A outer s H E hr=>?_);refine⟨_,(qd (zd (qg am (WE hr) (qa2 (qy qv0 rfl) (qA (qa2 qe qv2)))) (zm (qy qv0 rfl) qv1 vh))),_,(by right),λus M Qu h=>?_⟩;obtain⟨s,h,kp,A,r,k,rfl,S,hr,h0,h1,g⟩:=h;symm;refine zS TP S ?_;symm;have e:T.tup [.str "sign",.int k]=tOf ("sign", k):=rfl;rw[e];refine kJ S.O.R (GQ S.O.R h0 h1).v ?_;symm;refine vn TP S ?_;symm;exact Vc (x:=.w ("sign", k)) S hr (GQ S.O.R h0 h1) g
abbrev kX:Stmt:=qj (top 50) 9
theorem KQ:q00 ["self","r","text"] ["self","r","text"] (qc kX):=by ac_rfl
def q64(C:Addr):List U->MM->UK->Prop:=λus M Q=>∃(s h kp:Nat)(A:Mc)(r k:Nat),us=[.m s,.p (.int r),.p (.str (three3.getD k "none"))]/\StA C M s h kp A/\r<8/\k<3/\Go C M s h kp (A.put r (.w ("one", (k:Int)))) (Q (.p .non))
theorem q44(F:Fun Ξ "one" "Store.one" kX f fd)(TP:q01 Ξ C)(am:Def P w Ξ mg base "word_of" 3 ["laying","worth"] (spP zJ)):FnOk P w Ξ mg base CX0 4 f fd ["self","r","text"] (spU (q64 C)):=by
 refine F.zU KQ (by rintro _ _ _ ⟨_,_,_,_,_,_,rfl,_⟩;rfl) (λa9 A outer s H E hr=>?_);refine⟨_,(qd (zd (qg am (WE hr) (qa2 (qy qv0 rfl) qv2)) (zm (qy qv0 rfl) qv1 vh))),_,(by right),λus M Qu h=>?_⟩;obtain⟨s,h,kp,A,r,k,rfl,S,hr,h1,g⟩:=h;symm;refine zS TP S ?_;symm;have e:T.str (three3.getD k "none")=tOf ("one", (k:Int)):=rfl;rw[e];have hw:=q6Z S.O.R (k:=(k:Int)) (by lia) (by lia);refine kJ S.O.R hw.v ?_;symm;refine vn TP S ?_;symm;exact Vc (x:=.w ("one", (k:Int))) S hr hw g
abbrev jI:Stmt:=qj (top 50) 10
theorem X3:q00 ["self","r","q"] ["self","r","q"] (qc jI):=by ac_rfl
def q2t(C:Addr):List U->MM->UK->Prop:=λus M Q=>∃(s h kp:Nat)(A:Mc)(r q:Nat)(x:Rf),us=[.m s,.p (.int r),.p (.int q)]/\StA C M s h kp A/\r<8/\A.rg[q]?=some x/\Go C M s h kp (A.put r x) (Q (.p .non))
theorem q0U(F:Fun Ξ "copy" "Store.copy" jI f fd)(TP:q01 Ξ C):FnOk P w Ξ mg base CX0 1 f fd ["self","r","q"] (spU (q2t C)):=by
 refine F.zU X3 (by rintro _ _ _ ⟨_,_,_,_,_,_,_,rfl,_⟩;rfl) (λa9 A outer s H E hr=>?_);refine⟨_,(qd (zd (qr (Ub Ξ) (qy qv0 rfl) qv2 (λ_ _=>rfl)) (zm (qy qv0 rfl) qv1 vh))),_,(by right),λus M Qu h=>?_⟩;obtain⟨s,h,kp,A,r,q',x,rfl,S,hr,hq,g⟩:=h;symm;refine vn TP S ?_;symm;refine jr S hq ?_;symm;refine vn TP S ?_;symm;exact Vc S hr (S.ok hq) g
abbrev k7:Stmt:=top 24
theorem KW:q00 ["store","q"] ["store","q"] (qc k7):=by ac_rfl
def q2k(C:Addr):List U->MM->UK->UX->Prop:=λus M Q X=>∃(s h kp:Nat)(A:Mc)(q:Nat)(x:Rf),us=[.m s,.p (.int q)]/\StA C M s h kp A/\A.rg[q]?=some x/\(∀z,A.pv x=some z->Q (.p .non) M)/\(A.pv x=none->X "WrongKind" (some 1) M)
theorem q0P(F:Fun Ξ "need_pair" "need_pair" k7 f fd)(a4:Cls Ξ C)(g8:ExcD P w Ξ mg base "WrongKind" CW 1)(ak:MDef P w Ξ mg base C "kind" 3 ["self","q"] (spU (Xj C))):FnOk P w Ξ mg base (CXe P w) 4 f fd ["store","q"] (spX mg (q2k C)):=by
 refine F.zX KW (by rintro _ _ _ _ ⟨_,_,_,_,_,_,rfl,_⟩;rfl) (λa9 A outer s H E hr=>?_);refine⟨_,(qF (jQ (qh q0T (qD ak a4 qv0 (WE hr) (qa1 qv1)) qe (qt _)) (qF (Qd rfl rfl g8 (WE hr) (qa1 qa))) vN)),_,(by right),λus M Qu Xu h=>?_⟩;obtain⟨s,h,kp,A,q,x,rfl,S,hq,k1,k2⟩:=h;have ix:=Mc.kn_pv (S.ok hq);left;refine mS S (by rfl) ?_;left;refine⟨s,h,kp,A,q,x,rfl,S,hq,?_⟩;left;cases ex:A.pv x with
 |none=>
  refine qK (by rw[Um (λz=>ix.mp z ex)];rfl) ?_;exact⟨1,rfl,sm1,_,_,_,rfl,rfl,k2 ex⟩
 |some a=>
  rw[ix.mpr (by rw[ex];exact λz=>nomatch z)];left;exact k1 a ex
abbrev xb:Stmt:=qj (top 50) 19
theorem Vz:q00 ["self","q"] ["self","q"] (qc xb):=by ac_rfl
def Qv(C:Addr):List U->MM->UK->UX->Prop:=λus M Q X=>∃(s h kp:Nat)(A:Mc)(q:Nat)(x:Rf),us=[.m s,.p (.int q)]/\StA C M s h kp A/\A.rg[q]?=some x/\(∀i a b,A.pv x=some (i,a,b)->Q (.p (.int (A.pl i))) M)/\(A.pv x=none->X "WrongKind" (some 1) M)
theorem Ga(F:Fun Ξ "pair_in" "Store.pair_in" xb f fd)(TP:q01 Ξ C)(cb:DefX P w Ξ mg base "need_pair" 4 ["store","q"] (spX mg (q2k C)))(az:Def P w Ξ mg base "address_of" 3 ["laying","word"] (spP q0x)):FnOk P w Ξ mg base (CXe P w) 5 f fd ["self","q"] (spX mg (Qv C)):=by
 refine F.zX Vz (by rintro _ _ _ _ ⟨_,_,_,_,_,_,rfl,_⟩;rfl) (λa9 A outer s H E hr=>?_);refine⟨_,(qC (vm (zE cb (WE hr) (qa2 qv0 qv1))) (qF (jP (qp (qg az (WE hr) (qa2 (qy qv0 rfl) (qr (Ub Ξ) (qy qv0 rfl) qv1 (λ_ _=>rfl)))))))),_,(by right),λus M Qu Xu h=>?_⟩;obtain⟨s,h,kp,A,q,x,rfl,S,hq,k1,k2⟩:=h;left;refine⟨s,h,kp,A,q,x,rfl,S,hq,λz ez=>?_,λe=>⟨_,_,_,rfl,rfl,k2 e⟩⟩;obtain⟨i,a,b⟩:=z;obtain⟨rfl,et⟩:=Mc.pv_t ez;left;refine zS TP S ?_;left;refine vn TP S ?_;left;refine jr S hq ?_;left;exact⟨A.bits,A.ms,_,rfl,S.O.R,by rw[Mc.addr_t S.O (S.ok hq)];exact k1 i a b ez⟩
abbrev zk:Stmt:=qj (top 50) 18
theorem XY:q00 ["self","r","q","p"] ["self","r","q","p"] (qc zk):=by ac_rfl
noncomputable def Mc.prd(A:Mc)(r:Nat)(x y:Rf):Mc×Bool:=if((A.mk' 3).os.length:Int)+(3:Nat)<=A.most then((A.mk' 3).lay r (.pr x y),true) else(A.mk' 3,false)
theorem Mc.mk_rg{A:Mc}:(A.mk' n).rg=A.rg:=by unfold Mc.mk';split<;>rfl
def GW(C:Addr):List U->MM->UK->UX->Prop:=λus M Q X=>∃(s h kp:Nat)(A:Mc)(r q p:Nat)(x y:Rf),us=[.m s,.p (.int r),.p (.int q),.p (.int p)]/\StA C M s h kp A/\r<8/\A.rg[q]?=some x/\A.rg[p]?=some y/\((A.prd r x y).2=true->Go C M s h kp (A.prd r x y).1 (Q (.p .non)))/\((A.prd r x y).2=false->Go C M s h kp (A.prd r x y).1 (X "NoRoom" none))
theorem Ke(F:Fun Ξ "pair" "Store.pair" zk f fd)(TP:q01 Ξ C)(a4:Cls Ξ C)(aV:GInt mg "PAIR_HEAD" 1)(bU:GInt mg "PAIR_SIZE" 3)(ae:q02 P w Ξ mg base C "make_room" 8 ["self","size"] (spX mg (Xk C)))(au:MDef P w Ξ mg base C "lay" 4 ["self","r","kind","thing"] (spU (G5 C))):FnOk P w Ξ mg base (CXe P w) 9 f fd ["self","r","q","p"] (spX mg (GW C)):=by
 refine F.zX XY (by rintro _ _ _ _ ⟨_,_,_,_,_,_,_,_,_,rfl,_⟩;rfl) (λa9 A outer s H E hr=>?_);refine⟨_,(qC (vm (qR qv0 a4 ae (WE hr) (qa1 (zF bU rfl)))) (qF (jP (vq (qD au a4 qv0 (WE hr) (qa3 qv1 qe (qw (qa3 (zF aV rfl) (qr (Ub Ξ) (qy qv0 rfl) qv2 (λ_ _=>rfl)) (qr (Ub Ξ) (qy qv0 rfl) qv3 (λ_ _=>rfl)))))))))),_,(by right),λus M Qu Xu h=>?_⟩;obtain⟨s,h,kp,A,r,q,p,x,y,rfl,S,hr,hq,hp,q1,q2⟩:=h;unfold Mc.prd at q1 q2;left;refine mS S (by rfl) ?_;left;obtain⟨e1,e2,e3⟩:=Mc.mk_keep (A:=A) (n:=3);have em:(A.mk' 3).most=A.most:=by unfold Mc.most;rw[e1,e2,e3]
 have eg:=Mc.mk_rg (A:=A) (n:=3);refine⟨s,h,kp,A,3,rfl,S,λg7 M' h' aW f a b S'=>?_,λbY M' h' aW f a b S'=>?_⟩
 ·rw[Uj g7]at q1
  rw[<-eg]at hq hp;refine mS S' (by rfl) ?_;left;refine vn TP S' ?_;left;refine jr S' hq ?_;left;refine vn TP S' ?_;left;refine jr S' hp ?_;left;exact⟨s,h',aW,A.mk' 3,r,.pr x y,rfl,S',hr,⟨S'.ok hq,S'.ok hp⟩,by show 2<=3;decide,by rw[em];exact g7,(q1 rfl).step f a b S.lt⟩
 ·rw[Uh (BX.mpr bY)]at q2
  exact⟨_,_,_,rfl,rfl,q2 rfl M' h' aW f a b S'⟩
def q0A(C:Addr)(fst:Bool):List U->MM->UK->UX->Prop:=λus M Q X=>∃(s h kp:Nat)(A:Mc)(r q:Nat)(x:Rf),us=[.m s,.p (.int r),.p (.int q)]/\StA C M s h kp A/\r<8/\A.rg[q]?=some x/\(∀i a b,A.pv x=some (i,a,b)->Go C M s h kp (A.put r (if fst=true then a else b)) (Q (.p .non)))/\(A.pv x=none->X "WrongKind" (some 1) M)
abbrev xU:Stmt:=qj (top 50) 20
theorem ZK:q00 ["self","r","q"] ["self","r","q"] (qc xU):=by ac_rfl
theorem W8(F:Fun Ξ "first" "Store.first" xU f fd)(TP:q01 Ξ C)(a4:Cls Ξ C)(ah:q02 P w Ξ mg base C "pair_in" 5 ["self","q"] (spX mg (Qv C))):FnOk P w Ξ mg base (CXe P w) 6 f fd ["self","r","q"] (spX mg (q0A C true)):=by
 refine F.zX ZK (by rintro _ _ _ _ ⟨_,_,_,_,_,_,_,rfl,_⟩;rfl) (λa9 A outer s H E hr=>?_);refine⟨_,(qF (q3l (q36 (Ub Ξ) (vQ (qy qv0 rfl)) (J8 qL (qR qv0 a4 ah (WE hr) (qa1 qv2)) (vQ qa)) (λ_ _=>rfl)) (zm (qy qv0 rfl) qv1 vh))),_,(by right),λus M Qu Xu h=>?_⟩;obtain⟨s,h,kp,A,r,q,x,rfl,S,hr,hq,k1,k2⟩:=h;left;refine xp TP S ?_;left;refine mS S (by rfl) ?_;left;refine⟨s,h,kp,A,q,x,rfl,S,hq,λi a b e=>?_,λe=>⟨_,_,_,rfl,rfl,k2 e⟩⟩;obtain⟨rfl,et⟩:=Mc.pv_t e;have hm:i∈A.od:=S.ok hq;have ht:=S.O.t i hm;rw[et]at ht;left;refine q3b S (i:=A.pl i+1) (Mc.pr_at S.O hm et).1 ?_;left;refine vn TP S ?_;left;exact Vc S hr ht.1 (k1 i a b e)
abbrev xa:Stmt:=qj (top 50) 21
theorem Vy:q00 ["self","r","q"] ["self","r","q"] (qc xa):=by ac_rfl
theorem K3(F:Fun Ξ "second" "Store.second" xa f fd)(TP:q01 Ξ C)(a4:Cls Ξ C)(ah:q02 P w Ξ mg base C "pair_in" 5 ["self","q"] (spX mg (Qv C))):FnOk P w Ξ mg base (CXe P w) 6 f fd ["self","r","q"] (spX mg (q0A C false)):=by
 refine F.zX Vy (by rintro _ _ _ _ ⟨_,_,_,_,_,_,_,rfl,_⟩;rfl) (λa9 A outer s H E hr=>?_);refine⟨_,(qF (q3l (q36 (Ub Ξ) (vQ (qy qv0 rfl)) (J8 qL (qR qv0 a4 ah (WE hr) (qa1 qv2)) (vQ qa)) (λ_ _=>rfl)) (zm (qy qv0 rfl) qv1 vh))),_,(by right),λus M Qu Xu h=>?_⟩;obtain⟨s,h,kp,A,r,q,x,rfl,S,hr,hq,k1,k2⟩:=h;left;refine xp TP S ?_;left;refine mS S (by rfl) ?_;left;refine⟨s,h,kp,A,q,x,rfl,S,hq,λi a b e=>?_,λe=>⟨_,_,_,rfl,rfl,k2 e⟩⟩;obtain⟨rfl,et⟩:=Mc.pv_t e;have hm:i∈A.od:=S.ok hq;have ht:=S.O.t i hm;rw[et]at ht;left;refine q3b S (i:=A.pl i+2) (Mc.pr_at S.O hm et).2 ?_;left;refine vn TP S ?_;left;exact Vc S hr ht.2 (k1 i a b e)
def q1H(C:Addr)(fst:Bool):List U->MM->UK->UX->Prop:=λus M Q X=>∃(s h kp:Nat)(A:Mc)(q p:Nat)(x y:Rf),us=[.m s,.p (.int q),.p (.int p)]/\StA C M s h kp A/\A.rg[q]?=some x/\A.rg[p]?=some y/\(∀i a b,A.pv x=some (i,a,b)->Go C M s h kp (A.setT i (if fst=true then .pr y b else .pr a y)) (Q (.p .non)))/\(A.pv x=none->X "WrongKind" (some 1) M)
theorem J5{l:List Int}(h:l[i]?=some x):l.set i x=l:=by
 obtain⟨_,rfl⟩:=Db.mp h;exact RY _
abbrev ze:Stmt:=qj (top 50) 22
theorem kU:q00 ["self","q","p"] ["self","q","p"] (qc ze):=by ac_rfl
theorem q1S(F:Fun Ξ "set_first" "Store.set_first" ze f fd)(TP:q01 Ξ C)(a4:Cls Ξ C)(ah:q02 P w Ξ mg base C "pair_in" 5 ["self","q"] (spX mg (Qv C))):FnOk P w Ξ mg base (CXe P w) 6 f fd ["self","q","p"] (spX mg (q1H C true)):=by
 refine F.zX kU (by rintro _ _ _ _ ⟨_,_,_,_,_,_,_,_,rfl,_⟩;rfl) (λa9 A outer s H E hr=>?_);refine⟨_,(qF (Wu (qr (Ub Ξ) (qy qv0 rfl) qv2 (λ_ _=>rfl)) (qy qv0 rfl) (J8 qL (qR qv0 a4 ah (WE hr) (qa1 qv1)) (vQ qa)) vh)),_,(by right),λus M Qu Xu h=>?_⟩;obtain⟨s,h,kp,A,q,p,x,y,rfl,S,hq,hp,k1,k2⟩:=h;left;refine vn TP S ?_;left;refine jr S hp ?_;left;refine xp TP S ?_;left;refine mS S (by rfl) ?_;left;refine⟨s,h,kp,A,q,x,rfl,S,hq,λi a b e=>?_,λe=>⟨_,_,_,rfl,rfl,k2 e⟩⟩;obtain⟨rfl,et⟩:=Mc.pv_t e;have hm:i∈A.od:=S.ok hq;have ht:=S.O.t i hm;rw[et]at ht;have h2:=(Mc.pr_at S.O hm et).2;have hl:=(Db.mp h2).1;left;refine kj (r:=A.pl i+1) S.S.k0 (by lia) ?_;exact k1 i a b e _ h kp (jZ (by simp)) (.inl rfl) (.inl rfl) (S.setT hm et (S.ok hp) ht.2 (J5 (by rw[Dq (by lia)];exact h2)).symm)
abbrev vZ:Stmt:=qj (top 50) 23
theorem ke:q00 ["self","q","p"] ["self","q","p"] (qc vZ):=by ac_rfl
theorem q08(F:Fun Ξ "set_second" "Store.set_second" vZ f fd)(TP:q01 Ξ C)(a4:Cls Ξ C)(ah:q02 P w Ξ mg base C "pair_in" 5 ["self","q"] (spX mg (Qv C))):FnOk P w Ξ mg base (CXe P w) 6 f fd ["self","q","p"] (spX mg (q1H C false)):=by
 refine F.zX ke (by rintro _ _ _ _ ⟨_,_,_,_,_,_,_,_,rfl,_⟩;rfl) (λa9 A outer s H E hr=>?_);refine⟨_,(qF (Wu (qr (Ub Ξ) (qy qv0 rfl) qv2 (λ_ _=>rfl)) (qy qv0 rfl) (J8 qL (qR qv0 a4 ah (WE hr) (qa1 qv1)) (vQ qa)) vh)),_,(by right),λus M Qu Xu h=>?_⟩;obtain⟨s,h,kp,A,q,p,x,y,rfl,S,hq,hp,k1,k2⟩:=h;left;refine vn TP S ?_;left;refine jr S hp ?_;left;refine xp TP S ?_;left;refine mS S (by rfl) ?_;left;refine⟨s,h,kp,A,q,x,rfl,S,hq,λi a b e=>?_,λe=>⟨_,_,_,rfl,rfl,k2 e⟩⟩;obtain⟨rfl,et⟩:=Mc.pv_t e;have hm:i∈A.od:=S.ok hq;have ht:=S.O.t i hm;rw[et]at ht;obtain⟨h1,h2⟩:=Mc.pr_at S.O hm et;have hl:=(Db.mp h2).1;left;refine kj (r:=A.pl i+2) S.S.k0 (by lia) ?_;exact k1 i a b e _ h kp (jZ (by simp)) (.inl rfl) (.inl rfl) (S.setT hm et ht.1 (S.ok hp) (by rw[J5 h1]))
def q0Q:List Str:=["plus","less","times","over","rest"]
inductive Ne where
 |two (v:Str) (r q p:Nat)
 |get (b:Bool) (r q:Nat)
 |st (b:Bool) (q p:Nat)
 |bel (q p:Nat)
 |pr (r q p:Nat)
def Ne.t:Ne->T
 |.two v r q p=>.tup [.str v,.int r,.int q,.int p]
 |.get b r q=>.tup [.str (if b=true then "first" else "second"),.int r,.int q]
 |.st b q p=>.tup [.str (if b=true then "set_first" else "set_second"),.int q,.int p]
 |.bel q p=>.tup [.str "below",.int q,.int p]
 |.pr r q p=>.tup [.str "pair",.int r,.int q,.int p]
def Ne.Ok:Ne->Prop
 |.two v r q p=>v∈q0Q/\r<8/\q<8/\p<8
 |.get _ r q=>r<8/\q<8
 |.st _ q p=>q<8/\p<8
 |.bel q p=>q<8/\p<8
 |.pr r q p=>r<8/\q<8/\p<8
abbrev We:Stmt:=top 68
theorem scNeedy:q00 ["bag","r","q","p","word","some"] ["bag"] (qc We):=by ac_rfl
def q2T:List U->MM->UK->Prop:=λus M Q=>∃(k:Nat)(o:MO),us=[.m k]/\M[k]?=some o/\BagO o/\∀(e:Ne)(o':MO),BagO o'->e.Ok->(∀r q p,e ≠ .pr r q p)->Q (.p e.t) (M.set k o')
theorem q0u(F:Fun Ξ "_law_needy" "_law_needy" We f fd)(ap:Def P w Ξ mg base "_law_draw" 1 ["bag","many"] (spU JD)):FnOk P w Ξ mg base CX0 2 f fd ["bag"] (spU q2T):=by
 refine F.zV scNeedy (by rintro _ _ _ ⟨_,_,rfl,_⟩;rfl) (λa9 A outer s H E hr=>?_);refine⟨_,(qb (q5g (i:=1) (j:=2) (k:=3) rfl scNeedy.nd rfl rfl rfl (by decide) (by decide) (by decide) rfl rfl rfl (qa3 (qg ap (WE hr) (qa2 qv0 qa)) (qg ap (WE hr) (qa2 qv0 qa)) (qg ap (WE hr) (qa2 qv0 qa))) rfl) (qb (qi (i:=4) scNeedy.nd rfl GC (qr (Ub Ξ) (qw (qa_c qe (qa_c qe (qa_c qe (qa4 qe qe qe qe))))) (qg ap (WE hr) (qa2 qv0 qa)) (λ_ _=>rfl))) (qb (qi (i:=5) scNeedy.nd rfl GC (qw (qa3 (qA (qa4 qv4 qv1 qv2 qv3)) (qA (qa3 (qr (Ub Ξ) (qw (qa2 qe qe)) (ql zp qv1 qa) (λ_ _=>rfl)) qv3 qv2)) (qA (qa3 (qr (Ub Ξ) (qw (qa2 qe qe)) (ql zp qv1 qa) (λ_ _=>rfl)) qv2 qv3))))) (qd (qp (qr (Ub Ξ) (ql j9 qv5 (qw (qa2 (qA (qa3 qe qv2 qv3)) (qA (qa4 qv4 qv1 qv2 qv3))))) (qg ap (WE hr) (qa2 qv0 qa)) (λ_ _=>rfl))))))),_,(qk (q4J (qo (vW (qo (qm 0) (qo WF qU))) (qo (vW (qo (qm 0) (qo WF qU))) (qo (vW (qo (qm 0) (qo WF qU))) qU)))) (by right)),λus M M1 Qu e1 h=>?_⟩;obtain⟨k,o,rfl,em,hB,post⟩:=h;obtain⟨c8,eM⟩:=kG em;rw[e1.trans eM];nofun;refine vk c8 hB (by decide) (by decide) λr' o1 r0 r1 B1=>?_;obtain⟨r,rfl⟩:∃n:Nat,r'=n:=⟨r'.toNat,by lia⟩;refine vk c8 B1 (by decide) (by decide) λq' o2 q0 q1 B2=>?_;obtain⟨q,rfl⟩:∃n:Nat,q'=n:=⟨q'.toNat,by lia⟩;refine vk c8 B2 (by decide) (by decide) λp' o3 p0 p1 B3=>?_;obtain⟨p,rfl⟩:∃n:Nat,p'=n:=⟨p'.toNat,by lia⟩;nofun;refine vk c8 B3 (by decide) (by decide) λa o4 a0 a1 B4=>?_;obtain⟨v,ev,hv⟩:∃v,atI ([.str "plus",.str "less",.str "times",.str "over",.str "rest",.str "over",.str "rest"]:List T) a=some (.str v)/\v∈q0Q:=by
  rcases(show a=0\/a=1\/a=2\/a=3\/a=4\/a=5\/a=6 by lia)with rfl|rfl|rfl|rfl|rfl|rfl|rfl<;>exact⟨_,rfl,by decide⟩
 refine qB ev ?_;nofun;have hb:∀x y:Str,∃b:Bool,atI ([.str x,.str y]:List T) ((r:Int) % 2)=some (.str (if b=true then x else y)):=λx y=>by
  rcases(show(r:Int) % 2=0\/(r:Int) % 2=1 by lia)with e|e
  ·exact⟨true,by rw[e];rfl⟩
  ·exact⟨false,by rw[e];rfl⟩
 obtain⟨b1,rV⟩:=hb "first" "second";obtain⟨b2,rW⟩:=hb "set_first" "set_second";refine⟨by decide,qB rV ?_⟩;nofun;refine⟨by decide,qB rW ?_⟩;nofun;refine⟨by rw[Ul];decide,vk c8 B4 (by decide) (by decide) λz o5 z0 z1 B5=>?_⟩;have fin:∀e:Ne,e.Ok->(∀r q p,e ≠ .pr r q p)->zA M (MB M k o5 [])/\∃t,frzB M.length 4 (MB M k o5 []) (.p e.t)=some t/\Qu (.p t) ((MB M k o5 []).take M.length):=λe he hp=>⟨j3 B5.pur,_,G9,by rw[j4];exact post e o5 B5 he hp⟩;have r8:r<8:=by lia
 have q8:q<8:=by lia
 have p8:p<8:=by lia
 rcases(show z=0\/z=1\/z=2\/z=3\/z=4 by lia)with rfl|rfl|rfl|rfl|rfl
 ·exact qB rfl (fin (.two v r q p) ⟨hv,r8,q8,p8⟩ (λ_ _ _ z=>nomatch z))
 ·exact qB rfl (fin (.get b1 p q) ⟨p8,q8⟩ (λ_ _ _ z=>nomatch z))
 ·exact qB rfl (fin (.st b2 q p) ⟨q8,p8⟩ (λ_ _ _ z=>nomatch z))
 ·exact qB rfl (fin (.bel q p) ⟨q8,p8⟩ (λ_ _ _ z=>nomatch z))
 ·exact qB rfl (fin (.two v r q p) ⟨hv,r8,q8,p8⟩ (λ_ _ _ z=>nomatch z))
def JA(great:Int):List T:=[.int 1,.int great,.int 0,.int (0-2),.str "pair",.str "pair",.tup [.str "sign",.int 1],.str "yes"]
def vL(order:List Nat)(great:Int)(n:Nat):List T:=(List.range n).foldl (λh k=>h.set (order.getD k 0) ((JA great).getD k .non)) (List.replicate 8 .non)
theorem jW:vL order great (n+1)=(vL order great n).set (order.getD n 0) ((JA great).getD n .non):=by
 unfold vL;rw[Ba,List.foldl_append];rfl
theorem xq:∀n,(vL order great n).length=8
 |0=>rfl
 |n+1=>by rw[jW,Dm,xq n]
theorem YY{ts:List T}(e:M[h]?=some (.lst (ts.map U.p)))(hr:r<ts.length)(q:R (M.set h (.lst ((ts.set r x).map U.p)))):SubS M (.m h) (.p (.int (r:Int))) (.p x) R:=by
 refine⟨h,_,r,r,rfl,e,rfl,?_,?_⟩
 ·unfold ixN
  simp[hr]
 ·rw[<-Bk]
  exact q
abbrev q4i:Stmt:=top 66
theorem scHeld:q00 ["order","great","held","k"] ["order","great"] (qc q4i):=by ac_rfl
def q6G:List T->(T->Prop)->Prop:=λts Q=>∃(order:List Nat)(great:Int),ts=[.lst (order.map λ(n:Nat)=>T.int n),.int great]/\order.length=8/\(∀n∈order,n<8)/\Q (.lst (vL order great 8))
theorem q5X(F:Fun Ξ "_law_held" "_law_held" q4i f fd)(N:Nms mg):FnOk P w Ξ mg base CX0 1 f fd ["order","great"] (spP q6G):=by
 refine F.zP scHeld (by rintro _ _ ⟨_,_,rfl,_⟩;rfl) (λa9 A outer s H E hr=>?_);refine⟨_,(qb (qi (i:=2) scHeld.nd rfl GC (ql WV (qw (qa1 vG)) qa)) (qb (xL PassesOwn.never rfl (zl rfl N.range (qa1 qa)) (vi (i:=3) scHeld.nd rfl GC) (qd (zd (qr (Ub Ξ) (qw (qa_c qa (qa_c qv1 (qa_c qa (qa_c (ql vB qa qa) (qa4 qe qe (qA (qa2 qe qa)) qe)))))) qv3 (λ_ _=>rfl)) (zm qv2 (qr (Ub Ξ) qv0 qv3 (λ_ _=>rfl)) vh)))) (qd (qp qv2)))),_,(qk (vf (Xy (by right) (by right)) (qH 2)) (by right)),λts Qt h=>?_⟩;obtain⟨order,great,rfl,h8,hb,q⟩:=h;symm;refine Wl (by decide) (by decide) (by show 8<=sizeLine;decide) ?_;symm;refine Qb (by decide) (by decide) ?_;refine ki (λi ρ M=>M=[.lst ((vL order great i).map U.p)]/\∃x3,ρ=[some (.p (.lst (order.map λ(n:Nat)=>T.int n))),some (.p (.int great)),some (.m 0),x3]) ⟨rfl,none,rfl⟩ ?_ ?_
 ·rintro i ρ M hi ⟨rfl,x3,rfl⟩
  have hi:i<8:=hi;symm;have hv:(JA great)[i]?=some ((JA great).getD i .non):=by
   rw[DA];cases e:(JA great)[i]? with
   |none=>exact absurd (RE.mp e) (by show ¬8<=i;lia)
   |some x=>rfl
  have ho:order[i]?=some (order.getD i 0):=by
   rw[DA];cases e:order[i]? with
   |none=>exact absurd (RE.mp e) (by lia)
   |some x=>rfl
  refine qB (vK hv) ?_;symm;refine qB (vK (by rw[Dv,ho];rfl)) ?_;refine YY rfl (by rw[xq];exact hb _ (De ho)) ?_;exact⟨by rw[jW];rfl,_,rfl⟩
 ·rintro ρ M ⟨rfl,x3,rfl⟩
  symm;exact⟨_,Qy rfl,q⟩
def Hk(x:T):Prop:=(∃n:Int,x=.int n)\/(∃a:Str,x=.str a)\/∃(a:Str)(n:Int),x=.tup [.str a,.int n]
def isI:T->Bool
 |.int _=>true
 |_=>false
def isP:T->Bool
 |.str s=>decide (s = "pair")
 |_=>false
def isZ:T->Bool
 |.int n=>decide (n=0)
 |_=>false
def wkT(k:Int):T:=.tup [.str "WrongKind",.int k]
def due2(nt:Bool)(a b:T):T:=if isI a=false then wkT 1 else if isI b=false then wkT 2 else if(nt&&isZ b)=true then .tup [.str "Nought",.non] else .non
def dueP(a:T):T:=if isP a=true then .non else wkT 1
def dueT(hs:List T):Ne->T
 |.two v _ q p=>due2 (decide (v = "over" \/ v = "rest")) (hs.getD q .non) (hs.getD p .non)
 |.get _ _ q=>dueP (hs.getD q .non)
 |.st _ q _=>dueP (hs.getD q .non)
 |.bel q p=>due2 false (hs.getD q .non) (hs.getD p .non)
 |.pr _ _ _=>.non
theorem q3p(h:Hk a)(q:Q (.bl (isP a))):sEqW a (.str "pair") Q:=by
 rcases h with⟨n,rfl⟩|⟨s,rfl⟩|⟨s,n,rfl⟩
 ·exact .inl ⟨_,_,rfl,rfl,rfl,q⟩
 ·refine .inl ⟨_,_,rfl,rfl,rfl,?_⟩
  have e:decide (V.str s=V.str "pair")=isP (.str s):=RH.mpr (by simp[isP]);rw[Uh (by decide),e];exact q
 ·exact .inr (.inr (.inr ⟨_,rfl,rfl,q⟩))
theorem in2(q:Q (.bl (decide (a=x\/a=y)))):sIn false (.str a) (.lst [.str x,.str y]) Q:=by
 refine⟨_,_, [.str x,.str y],rfl,rfl,rfl,?_⟩;rw[show([.str x,.str y]:List V)=([x,y]:List Str).map V.str from rfl,xy,Uh (by decide)];have e:decide (a∈[x,y])=decide (a=x\/a=y):=by simp
 rw[e];exact q
theorem q2N(h:Hk x):isU M (.p x) .int=some (isI x):=by
 rcases h with⟨n,rfl⟩|⟨a,rfl⟩|⟨a,n,rfl⟩<;>rfl
theorem q74:∀v∈q0Q,∀x∈(["first","second","set_first","set_second","below"]:List Str),v≠x:=by decide
abbrev sDue:Stmt:=top 67
theorem scDue:q00 ["held","deed","word","some","part"] ["held","deed"] (qc sDue):=by ac_rfl
def gDue:List T->(T->Prop)->Prop:=λts Q=>∃(hs:List T)(e:Ne),ts=[.lst hs,e.t]/\hs.length=8/\(∀x∈hs,Hk x)/\e.Ok/\(∀r q p,e ≠ .pr r q p)/\Q (dueT hs e)
theorem q8v(F:Fun Ξ "_law_due" "_law_due" sDue f fd)(N:Nms mg):FnOk P w Ξ mg base CX0 1 f fd ["held","deed"] (spP gDue):=by
 refine F.zP scDue (by rintro _ _ ⟨_,_,rfl,_⟩;rfl) (λa9 A outer s H E hr=>?_);refine⟨_,(qb (qi (i:=2) scDue.nd rfl GC (qr (Uc Ξ) qv1 qa (λ_ _=>rfl))) (qb (vp (qh (Ud Ξ) qv2 (qw (qa2 qe qe)) (by with_unfolding_all rfl)) (qd (qp (vd (qh (q35 (Ξ:=Ξ) rfl hr.units) (qr (Ub Ξ) qv0 (qr (Uc Ξ) qv1 qa (λ_ _=>rfl)) (λ_ _=>rfl)) qe (qt _)) vG (qA (qa2 qe qa))))) qJ) (qb (vp (qh (Ud Ξ) qv2 (qw (qa2 qe qe)) (by with_unfolding_all rfl)) (qd (qp (vd (qh (q35 (Ξ:=Ξ) rfl hr.units) (qr (Ub Ξ) qv0 (qr (Uc Ξ) qv1 qa (λ_ _=>rfl)) (λ_ _=>rfl)) qe (qt _)) vG (qA (qa2 qe qa))))) qJ) (qb (qi (i:=3) scDue.nd rfl GC (vd (qh q0T qv2 qe (qt _)) (vc (Y3 (Ξ:=Ξ) rfl) qv1 (qY qa) v6) (vc (Y3 (Ξ:=Ξ) rfl) qv1 (qY qa) v6))) (qb (xL PassesOwn.never rfl (vA (Ξ:=Ξ) rfl (qw (qa2 qa qa))) (vi (i:=4) scDue.nd rfl GC) (qd (vp (J9 (vM (qx (QP (Ξ:=Ξ) rfl) (by rfl) N.isinstance qG (qa2 (qr (Ub Ξ) qv0 (qr (Uc Ξ) qv3 (ql vB qv4 qa) (λ_ _=>rfl)) (λ_ _=>rfl)) (VU (v:=.ty "int") (by rfl) N.int q3T rfl))))) (qd (qp (qA (qa2 qe qv4)))) qJ))) (qd (qp (vd (Q0 (j8 (qh (Ud Ξ) qv2 (qw (qa2 qe qe)) (by with_unfolding_all rfl)) (xl (qh op_eq (qr (Ub Ξ) qv0 (qr (Uc Ξ) qv3 qa (λ_ _=>rfl)) (λ_ _=>rfl)) qa (qt _))))) (qA (qa2 qe vG)) vG)))))))),_,(qk (by right) (qk (by right) (qk (by right) (qk (by right) (qk (Vm (by right) (qH 4) (j2 (q2E (ct_b (qaL .int (by right)))) (by right) vP)) (by right)))))),λts Qt h=>?_⟩;obtain⟨hs,e,rfl,h8,hk,he,hp,q⟩:=h;have hx:∀{j:Nat},j<8->hs[j]?=some (hs.getD j .non)/\Hk (hs.getD j .non):=λ{j} hj=>by
  rw[DA];have e:hs[j]?=some hs[j]:=Dc (by lia);rw[e];exact⟨rfl,hk _ (R0 ..)⟩
 rcases e with⟨v,r,j,p⟩|⟨b,r,j⟩|⟨b,j,p⟩|⟨j,p⟩|⟨r,j,p⟩
 rotate_left
 ·obtain⟨e1,k1⟩:=hx he.2
  unfold Ne.t;symm;refine in2 ?_;rw[Ur (by cases b;exact .inr rfl;exact .inl rfl)];symm;refine qB (vK e1) ?_;symm;refine q3p k1 ?_;symm;exact ite2 (λz=>by have q:Qt (if _ then _ else _):=q;rw[Uj z]at q;exact q) (λz=>by have q:Qt (if _ then _ else _):=q;rw[Uh z]at q;exact q)
 ·obtain⟨e1,k1⟩:=hx he.1
  unfold Ne.t;symm;refine in2 ?_;rw[Um (by cases b<;>decide)];symm;refine in2 ?_;rw[Ur (by cases b;exact .inr rfl;exact .inl rfl)];symm;refine qB (vK e1) ?_;symm;refine q3p k1 ?_;symm;exact ite2 (λz=>by have q:Qt (if _ then _ else _):=q;rw[Uj z]at q;exact q) (λz=>by have q:Qt (if _ then _ else _):=q;rw[Uh z]at q;exact q)
 rotate_left
 ·exact absurd rfl (hp r j p)
 obtain⟨hv,_,hj,rX⟩:=he;obtain⟨e1,k1⟩:=hx hj;obtain⟨e2,k2⟩:=hx rX;have no:=q74 v hv;obtain⟨nt,hn⟩:∃nt,decide (v = "over" \/ v = "rest")=nt:=⟨_,rfl⟩;have q:Qt (due2 nt (hs.getD j .non) (hs.getD p .non)):=by rw[<-hn];exact q
 unfold Ne.t;symm;refine in2 ?_;rw[Um (λz=>z.elim (no _ (by decide)) (no _ (by decide)))];symm;refine in2 ?_;rw[Um (λz=>z.elim (no _ (by decide)) (no _ (by decide)))];symm;refine qK (by rw[Um (no _ (by decide))];rfl) ?_;rw[q3c];symm;refine⟨_,rfl,(λz=>absurd (show(2:Nat)=0 from z.1) (by decide)),?_⟩
 rotate_left;obtain⟨e1,k1⟩:=hx he.1;obtain⟨e2,k2⟩:=hx he.2;obtain⟨nt,hn⟩:∃nt,decide (("below" : Str) = "over" \/ ("below" : Str) = "rest")=nt:=⟨_,rfl⟩;have q:Qt (due2 nt (hs.getD j .non) (hs.getD p .non)):=by rw[<-hn,Um (by decide)];exact q
 unfold Ne.t;symm;refine in2 ?_;rw[Um (by decide)];symm;refine in2 ?_;rw[Um (by decide)];symm;rw[q3c];symm;refine⟨_,rfl,(λz=>absurd (show(1:Nat)=0 from z.1) (by decide)),?_⟩
 all_goals
  symm;refine kL (ts:=[.int 1,.int 2]) (λi ρ M=>M=[]/\(∃x4,ρ=[some (.p (.lst hs)),some _,some _,some (.p (.tup [.int j,.int p])),x4])/\(1<=i->isI (hs.getD j .non)=true)/\(2<=i->isI (hs.getD p .non)=true)) ⟨rfl,⟨none,rfl⟩,λz=>absurd z (by decide),λz=>absurd z (by decide)⟩ ?_ ?_
  ·rintro i t ρ M ht ⟨rfl,⟨x4,rfl⟩,h1,h2⟩
   have hi:i<2:=(Db.mp ht).1;rcases(show i=0\/i=1 by lia)with rfl|rfl
   ·cases ht
    symm;refine qB (vK e1) ⟨isI _,q2N (M:=[]) k1,ite2 (λz=>?_) (λz=>⟨rfl,⟨_,rfl⟩,λ_=>by simpa using z,λz=>absurd z (by decide)⟩)⟩;have q:Qt (if _=false then _ else _):=q;rw[Uj (by simpa using z)]at q;exact q
   ·cases ht
    symm;refine qB (vK e2) ⟨isI _,q2N (M:=[]) k2,ite2 (λz=>?_) (λz=>⟨rfl,⟨_,rfl⟩,λ_=>h1 (by decide),λ_=>by simpa using z⟩)⟩;have q:Qt (if _=false then _ else if _=false then _ else _):=q;rw[Uh (by rw[h1 (by decide)];decide),Uj (by simpa using z)]at q;exact q
  ·rintro ρ M ⟨rfl,⟨x4,rfl⟩,h1,h2⟩
   have q:Qt (if _=false then _ else if _=false then _ else _):=q;rw[Uh (by rw[h1 (by decide)];decide),Uh (by rw[h2 (by decide)];decide)]at q;symm;refine in2 ?_;rw[hn];symm;cases nt with
   |false=>exact ve (by decide) q
   |true=>
    refine qK rfl (GL rfl (qB (vK e2) ?_));obtain⟨n,en⟩:∃n,hs.getD p .non=.int n:=by
     rcases k2 with z|⟨a,ea⟩|⟨a,n,ea⟩
     ·exact z
     ·have:=h2 (by decide);rw[ea]at this;cases this
     ·have:=h2 (by decide);rw[ea]at this;cases this
    rw[en]at q ⊢;symm;exact ite2 (λz=>by subst z;rw[Uj (show(true&&isZ (.int 0))=true from rfl)]at q;exact q) (λz=>by rw[Uh (by simpa[isZ]using z)]at q;exact q)
structure Od(order:List Nat):Prop where
 n:order.length=8
 l:∀x∈order,x<8
 d:order.Nodup
 s:∀j,j<8->j∈order
def flV:List Rf:=[.w ("small", 1),.t 0,.w ("small", 0),.w ("small", -2),.t 1,.t 2,.w ("sign", 1),.w ("one", 2)]
def flR(order:List Nat)(k:Nat):List Rf:=(List.range k).foldl (λg i=>g.set (order.getD i 0) (flV.getD i (.w ("one", 0)))) (List.replicate 8 (.w ("one", 0)))
theorem xB:flR order (k+1)=(flR order k).set (order.getD k 0) (flV.getD k (.w ("one", 0))):=by
 unfold flR;rw[Ba,List.foldl_append];rfl
theorem qac:∀k,(flR order k).length=8
 |0=>rfl
 |k+1=>by rw[xB,Dm,qac k]
theorem Od.at(h:Od order)(hk:k<8):order[k]?=some (order.getD k 0)/\order.getD k 0<8:=by
 have e:order[k]?=some (order[k]'(by rw[h.n];exact hk)):=Dc _;rw[DA,e];exact⟨rfl,h.l _ (R0 _)⟩
theorem Od.ne(h:Od order)(hi:i<k)(hk:k<8):order.getD k 0≠order.getD i 0:=λz=>by
 have e1:=(h.at hk).1;have e2:=(h.at (BI hi hk)).1;rw[z, <-e2]at e1;exact absurd ((List.getElem?_inj (by rw[h.n];exact hk) h.d).mp e1) (by lia)
theorem QC(h:Od order):∀{k:Nat},i<k->k<=8->(flR order k)[order.getD i 0]?=some (flV.getD i (.w ("one", 0)))
 |k+1,hi,hk=>by
  rw[xB];rcases Nat.lt_or_ge i k with z|z
  ·rw[Dq (h.ne z (by lia))]
   exact QC h z (by lia)
  ·obtain rfl:i=k:=by lia
   exact Dw (by rw[qac];exact(h.at (by lia)).2)
def flN(k:Nat):Nat:=if k<=1 then 0 else if k<=4 then 1 else if k<=5 then 2 else 3
def flM(bits:Int)(ms:List Mk3)(room:Int)(order:List Nat)(great:Int)(k:Nat):Mc:=⟨bits,ms,room,flR order k,([.far great,.pr (.w ("small", 1)) (.w ("small", 1)),.pr (.w ("small", 1)) (.t 0)]:List Th).take (flN k), [0,1,2].take (flN k),0,0,0⟩
theorem QD(hk:flN (k+1)=flN k):flM bits ms room order great (k+1)=(flM bits ms room order great k).put (order.getD k 0) (flV.getD k (.w ("one", 0))):=by
 unfold flM;rw[hk,xB];rfl
theorem q1i:flM bits ms room order great 2=(flM bits ms room order great 1).lay (order.getD 1 0) (.far great):=by
 unfold flM;rw[xB];rfl
theorem q14:flM bits ms room order great 5=(flM bits ms room order great 4).lay (order.getD 4 0) (.pr (.w ("small", 1)) (.w ("small", 1))):=by
 unfold flM;rw[xB];rfl
theorem q1Q:flM bits ms room order great 6=(flM bits ms room order great 5).lay (order.getD 5 0) (.pr (.w ("small", 1)) (.t 0)):=by
 unfold flM;rw[xB];rfl
structure Fl(bits:Int)(ms:List Mk3)(room:Int)(order:List Nat)(great:Int):Prop where
 R:Right bits ms
 o:Od order
 s:vY (bits-(qV ms "small").2.1) great=false
 g:(lcnt bits great:Int)<2^(bits-2).toNat
 m:(lcnt bits great:Int)+7<=Z6 bits ms room
 r:0<=room/\room<=400
theorem Mc.mk_no{A:Mc}{n:Nat}(h:(A.os.length:Int)+n<=A.most):A.mk' n=A:=Uh (BW.mpr h)
theorem q6z(hs:2<=s)(h0 : -2<=n)(h1:n<=1):vY s n=true:=by
 have p:(2:Int)^(1:Int).toNat<=2^(s-1).toNat:=Q7 (by lia);have p1:(2:Int)^(1:Int).toNat=2:=rfl;exact Ur ⟨by lia,by lia⟩
theorem Fl.small(h:Fl bits ms room order great)(h0 : -2<=n)(h1:n<=1){r:Nat}:(flM bits ms room order great k).num r n=((flM bits ms room order great k).put r (.w ("small", n)),true):=by
 obtain⟨m,hm⟩:=h.R.kind (kind := "small") (by decide);have h2:=h.R.w m hm.mem;have h3:=zI m.1;unfold Mc.num;exact Uj (q6z (by show 2<=bits-(qV ms "small").2.1;rw[hm.mk];lia) h0 h1)
theorem Fl.far(h:Fl bits ms room order great):(flM bits ms room order great 1).num (order.getD 1 0) great=(flM bits ms room order great 2,true):=by
 have hg:=h.g;have hm:(lcnt bits great:Int)+7<=(flM bits ms room order great 1).most:=h.m;have e:(flM bits ms room order great 1).mk' (lcnt bits great+1)=flM bits ms room order great 1:=Mc.mk_no (by show((0:Nat):Int)+_<=_;lia);unfold Mc.num;rw[Uh (by show ¬vY (bits-(qV ms "small").2.1) great=true;rw[h.s];decide),Uh (by show ¬_<=_;exact BX.mpr hg)];show(if(((flM bits ms room order great 1).mk' (lcnt bits great+1)).os.length:Int)+(lcnt bits great+1:Nat)<=_ then _ else _)=_;rw[e,Uj (by show((0:Nat):Int)+_<=_;lia),q1i];show(((flM bits ms room order great 1).mk' (lcnt bits great+1)).lay _ _,true)=_;rw[e]
theorem os4:((flM bits ms room order great 4).os.length:Int)=lcnt bits great+1:=by
 unfold Mc.os;show((([0]:List Nat).flatMap (flM bits ms room order great 4).tw).length:Int)=_;rw[DS,BB,DD,Mc.tw_len];rfl
theorem os5:((flM bits ms room order great 5).os.length:Int)=lcnt bits great+4:=by
 unfold Mc.os;show((([0,1]:List Nat).flatMap (flM bits ms room order great 5).tw).length:Int)=_;rw[DS,DS,BB,DD,Dg,Mc.tw_len,Mc.tw_len];rfl
theorem os8:((flM bits ms room order great 8).os.length:Int)=lcnt bits great+7:=by
 unfold Mc.os;show((([0,1,2]:List Nat).flatMap (flM bits ms room order great 8).tw).length:Int)=_;rw[DS,DS,DS,BB,DD,Dg,Dg,Mc.tw_len,Mc.tw_len,Mc.tw_len];rfl
theorem q2I{A:Mc}(h:(A.os.length:Int)+(3:Nat)<=A.most):A.prd r x y=(A.lay r (.pr x y),true):=by
 unfold Mc.prd;rw[Mc.mk_no h,Uj h]
theorem Fl.pair4(h:Fl bits ms room order great):(flM bits ms room order great 4).prd (order.getD 4 0) (.w ("small", 1)) (.w ("small", 1))=(flM bits ms room order great 5,true):=by
 have hm:(lcnt bits great:Int)+7<=(flM bits ms room order great 4).most:=h.m;rw[q2I (by rw[os4];lia),q14]
theorem Fl.pair5(h:Fl bits ms room order great):(flM bits ms room order great 5).prd (order.getD 5 0) (.w ("small", 1)) (.t 0)=(flM bits ms room order great 6,true):=by
 have hm:(lcnt bits great:Int)+7<=(flM bits ms room order great 5).most:=h.m;rw[q2I (by rw[os5];lia),q1Q]
theorem FnOk.calmU(F:FnOk P w Ξ mg base (CXe P w) k f fd ps (spX mg G))(h:∀us M Qu,G' us M Qu->G us M Qu λ_ _ _=>False):FnOk P w Ξ mg base CX0 k f fd ps (spU G'):=by
 have aD:∀vs H Q E,spU G' vs H Q E->spX mg G vs H Q E0:=λvs H Q E ⟨A,ι,M,us,Qu,w0,r0,g,kk⟩=>
  ⟨A,ι,M,us,Qu,_,w0,r0,h us M Qu g,kk,λ_ _ _ _ _ _ _ _ _ _ _ z=>z⟩
 exact⟨λvs H Q E z=>F.len vs H Q E0 (aD vs H Q E z),λA outer s H args us vs Q E hr he hb hv hs=>Uz (F.run A outer s H args us vs Q E0 hr he hb hv (aD vs H Q E hs)) λr s' q=>by
  cases r with
  |error e=>obtain⟨_,_,_,_,_,_,z⟩:=(show CXe P w outer H s E0 e s' from q);exact z.elim
  |ok fl=>cases fl<;>exact q⟩
def q6p(C:Addr):List U->MM->UK->Prop:=λus M Q=>q20 C us M Q λ_ _ _=>False
def q3h(C:Addr):List U->MM->UK->Prop:=λus M Q=>GW C us M Q λ_ _ _=>False
theorem q5O(F:Fun Ξ "number" "Store.number" vS f fd)(N:Nms mg)(TP:q01 Ξ C)(a4:Cls Ξ C)(aX:ExcC Ξ mg "NoRoom" CENoRoom)(bb:Def P w Ξ mg base "is_small" 3 ["laying","n"] (spP V9))(am:Def P w Ξ mg base "word_of" 3 ["laying","worth"] (spP zJ))(bc:Def P w Ξ mg base "is_great" 2 ["laying","n"] (spP Za))(bx:Def P w Ξ mg base "rows_of" 2 ["laying","n"] (spP q4s))(ae:q02 P w Ξ mg base C "make_room" 8 ["self","size"] (spX mg (Xk C)))(au:MDef P w Ξ mg base C "lay" 4 ["self","r","kind","thing"] (spU (G5 C))):FnOk P w Ξ mg base CX0 9 f fd ["self","r","n"] (spU (q6p C)):=FnOk.calmU (Gb F N TP a4 aX bb am bc bx ae au) λ_ _ _ h=>h
theorem q1z(F:Fun Ξ "pair" "Store.pair" zk f fd)(TP:q01 Ξ C)(a4:Cls Ξ C)(aV:GInt mg "PAIR_HEAD" 1)(bU:GInt mg "PAIR_SIZE" 3)(ae:q02 P w Ξ mg base C "make_room" 8 ["self","size"] (spX mg (Xk C)))(au:MDef P w Ξ mg base C "lay" 4 ["self","r","kind","thing"] (spU (G5 C))):FnOk P w Ξ mg base CX0 9 f fd ["self","r","q","p"] (spU (q3h C)):=FnOk.calmU (Ke F TP a4 aV bU ae au) λ_ _ _ h=>h
theorem bt9(h:x.natAbs<2^9):Bt 20000 x:=Bt.mono (n:=9) h (by decide)
abbrev Je:Stmt:=top 65
theorem scFilled:q00 ["laying","room","order","great","store","k","r"] ["laying","room","order","great"] (qc Je):=by ac_rfl
def G6(C:Addr):List U->MM->UK->Prop:=λus M Q=>∃(bits:Int)(ms:List Mk3)(room:Int)(order:List Nat)(great:Int),us=[.p (layT bits ms),.p (.int room),.p (.lst (order.map λ(n:Nat)=>T.int n)),.p (.int great)]/\Fl bits ms room order great/\Bt 20000 great/\∀M' s h kp,Frm M M' []->M.length<=s->M.length<=h->M.length<=kp->StA C M' s h kp (flM bits ms room order great 8)->Q (.m s) M'
def FlI(C:Addr)(M:MM)(bits:Int)(ms:List Mk3)(room:Int)(order:List Nat)(great:Int)(i:Nat)(ρ:UEnv)(M':MM):Prop:=∃(s h kp:Nat)(x5 x6:Option U),ρ=[some (.p (layT bits ms)),some (.p (.int room)),some (.p (.lst (order.map λ(n:Nat)=>T.int n))),some (.p (.int great)),some (.m s),x5,x6]/\Frm M M' []/\M.length<=s/\M.length<=h/\M.length<=kp/\StA C M' s h kp (flM bits ms room order great i)
theorem Ge(F:Fun Ξ "_law_filled" "_law_filled" Je f fd)(N:Nms mg)(a4:Cls Ξ C)(dq:q5z P w Ξ mg base C "Store" 4 ["self","laying","room"] (spU (GX C)))(bg:MDef P w Ξ mg base C "number" 9 ["self","r","n"] (spU (q6p C)))(bH:MDef P w Ξ mg base C "pair" 9 ["self","r","q","p"] (spU (q3h C)))(aQ:MDef P w Ξ mg base C "sign" 4 ["self","r","k"] (spU (GV C)))(aY:MDef P w Ξ mg base C "one" 4 ["self","r","text"] (spU (q64 C))):FnOk P w Ξ mg base CX0 10 f fd ["laying","room","order","great"] (spU (G6 C)):=by
 refine F.zU scFilled (by rintro _ _ _ ⟨_,_,_,_,_,rfl,_⟩;rfl) (λa9 A outer s H E hr=>?_);refine⟨_,(qb (qi (i:=4) scFilled.nd rfl GC (q9I dq (WE hr) rfl (qa2 qv0 qv1))) (qb (xL PassesOwn.never rfl (zl rfl N.range (qa1 qa)) (vi (i:=5) scFilled.nd rfl GC) (qb (qi (i:=6) scFilled.nd rfl GC (qr (Ub Ξ) qv2 qv5 (λ_ _=>rfl))) (qd (vp (qh Q2 qv5 qa (qt _)) (qd (vq (qD bg a4 qv4 (WE hr) (qa2 qv6 (qr (Ub Ξ) (qw (qa4 qa qv3 qa (ql vB qa qa))) qv5 (λ_ _=>rfl)))))) (qd (vp (qh Q2 qv5 qa (qt _)) (qd (vq (qD bH a4 qv4 (WE hr) (qa3 qv6 (qr (Ub Ξ) qv2 qa (λ_ _=>rfl)) (qr (Ub Ξ) qv2 (ql vB qv5 qa) (λ_ _=>rfl)))))) (qd (vp (qh op_eq qv5 qa (qt _)) (qd (vq (qD aQ a4 qv4 (WE hr) (qa2 qv6 qa)))) (qd (vq (qD aY a4 qv4 (WE hr) (qa2 qv6 qe)))))))))))) (qd (qp qv4)))),_,(qk (vf (q3X (by right)) (qH 4)) (by right)),λus M Qu h=>?_⟩;obtain⟨bits,ms,room,order,great,rfl,h,hg,q⟩:=h;symm;refine⟨M.length,bits,ms,room,rfl,by simp,h.R,h.r.1,h.r.2,λM1 f1 S1 l1=>⟨rfl,?_⟩⟩;rw[Dg]at l1 S1;have F0:Frm M M1 []:=⟨by rw[l1];lia,λi hi _=>(f1.2 i (by rw[Dg];exact Du hi (Nat.le_add_right _ _)) (by simp;lia)).trans (Df hi)⟩;symm;refine Qb (by decide) (by decide) ?_;refine ki (FlI C M bits ms room order great) ⟨_,_,_,_,_,rfl,F0,Dh _,by lia,by lia,S1⟩ ?_ ?_
 ·rintro i ρ M' hi ⟨s,h',kp,x5,x6,rfl,Fr,n1,n2,n3,S⟩
  have hi:i<8:=hi;have ax:∀{j:Nat},j<8->atI (order.map λ(n:Nat)=>T.int n) (j:Int)=some (.int (order.getD j 0:Nat)):=λ{j} hj=>vK (by rw[Dv,(h.o.at hj).1];rfl);obtain⟨_,r8⟩:=h.o.at hi;symm;refine qB (ax hi) ?_;have fin:∀{B:Mc}{ρ:UEnv},B=flM bits ms room order great (i+1)->(∃x5 x6,ρ=[some (.p (layT bits ms)),some (.p (.int room)),some (.p (.lst (order.map λ(n:Nat)=>T.int n))),some (.p (.int great)),some (.m s),x5,x6])->Go C M' s h' kp B (FlI C M bits ms room order great (i+1) ρ):=λ{B ρ} e ⟨x5,x6,rY⟩ M2 h2 k2 f2 a2 b2 S2=>by
   subst e;have:=Fr.1;unfold Nw at a2 b2;exact⟨s,h2,k2,x5,x6,rY,Fr.trans f2 (λi hi=>.inr (by simp at hi;lia)),n1,by lia,by lia,S2⟩
  rcases(show i=0\/i=1\/i=2\/i=3\/i=4\/i=5\/i=6\/i=7 by lia)with rfl|rfl|rfl|rfl|rfl|rfl|rfl|rfl
  all_goals symm
  ·refine qK (by decide) (mS S (by rfl) (qB rfl ⟨s,h',kp,_,_,1,rfl,S,r8,bt9 (by decide),λ_=>?_,λe=>?_⟩))
   ·rw[h.small (by decide) (by decide)]
    exact fin (QD (k:=0) rfl).symm ⟨_,_,rfl⟩
   ·rw[h.small (by decide) (by decide)]at e
    cases e
  ·refine qK (by decide) (mS S (by rfl) (qB rfl ⟨s,h',kp,_,_,great,rfl,S,r8,hg,λ_=>?_,λe=>?_⟩))
   ·rw[h.far]
    exact fin rfl ⟨_,_,rfl⟩
   ·rw[h.far]at e
    cases e
  ·refine qK (by decide) (mS S (by rfl) (qB rfl ⟨s,h',kp,_,_,0,rfl,S,r8,bt9 (by decide),λ_=>?_,λe=>?_⟩))
   ·rw[h.small (by decide) (by decide)]
    exact fin (QD (k:=2) rfl).symm ⟨_,_,rfl⟩
   ·rw[h.small (by decide) (by decide)]at e
    cases e
  ·refine qK (by decide) (mS S (by rfl) (qB rfl ⟨s,h',kp,_,_,(0-2),rfl,S,r8,bt9 (by decide),λ_=>?_,λe=>?_⟩))
   ·rw[h.small (by decide) (by decide)]
    exact fin (QD (k:=3) rfl).symm ⟨_,_,rfl⟩
   ·rw[h.small (by decide) (by decide)]at e
    cases e
  ·refine ve (by decide) (qK (by decide) (mS S (by rfl) (qB (ax (j:=0) (by decide)) (qB (ax (j:=0) (by decide)) ⟨s,h',kp,_,_,_,_,.w ("small", 1),.w ("small", 1),rfl,S,r8,QC h.o (i:=0) (by decide) (by decide),QC h.o (i:=0) (by decide) (by decide),λ_=>?_,λe=>?_⟩))))
   ·rw[h.pair4]
    exact fin rfl ⟨_,_,rfl⟩
   ·rw[h.pair4]at e
    cases e
  ·refine ve (by decide) (qK (by decide) (mS S (by rfl) (qB (ax (j:=0) (by decide)) (qB (ax (j:=1) (by decide)) ⟨s,h',kp,_,_,_,_,.w ("small", 1),.t 0,rfl,S,r8,QC h.o (i:=0) (by decide) (by decide),QC h.o (i:=1) (by decide) (by decide),λ_=>?_,λe=>?_⟩))))
   ·rw[h.pair5]
    exact fin rfl ⟨_,_,rfl⟩
   ·rw[h.pair5]at e
    cases e
  ·exact ve (by decide) (ve (by decide) (qK rfl (mS S (by rfl) ⟨s,h',kp,_,_,1,rfl,S,r8,by decide,by decide,fin (QD (k:=6) rfl).symm ⟨_,_,rfl⟩⟩)))
  ·exact ve (by decide) (ve (by decide) (ve (by decide) (mS S (by rfl) ⟨s,h',kp,_,_,2,rfl,S,r8,by decide,fin (QD (k:=7) rfl).symm ⟨_,_,rfl⟩⟩)))
 ·rintro ρ M' ⟨s,h',kp,x5,x6,rfl,Fr,n1,n2,n3,S⟩
  symm;exact q _ s h' kp Fr n1 n2 n3 S
theorem V6(h:Od order):∀{k:Nat},i<k->k<=8->(vL order great k)[order.getD i 0]?=some ((JA great).getD i .non)
 |k+1,hi,hk=>by
  rw[jW];rcases Nat.lt_or_ge i k with z|z
  ·rw[Dq (h.ne z (by lia))]
   exact V6 h z (by lia)
  ·obtain rfl:i=k:=by lia
   exact Dw (by rw[xq];exact(h.at (by lia)).2)
theorem Od.onto(h:Od order)(hj:j<8):∃i,i<8/\order.getD i 0=j:=by
 obtain⟨i,hi⟩:=BM.mp (h.s j hj);have h8:i<8:=by have:=(Db.mp hi).1;rw[h.n]at this;exact this
 exact⟨i,h8,by rw[DA,hi];rfl⟩
def intV:T->Option Int
 |.int n=>some n
 |_=>none
theorem nvs{A:Mc}:A.nv (.w ("small", n))=some n:=by show(if("small" : Str) = "small" then some n else none)=_;exact Uj rfl
theorem nvn{A:Mc}{k:Str}(h:k ≠ "small"):A.nv (.w (k,n))=none:=by show(if k = "small" then some n else none)=_;exact Uh h
structure Mt(A:Mc)(x:Rf)(t:T):Prop where
 k:Hk t
 n:A.nv x=intV t
 p:(A.pv x).isSome=isP t
theorem zi(h:Od order)(hj:j<8):∃x,(flM bits ms room order great 8).rg[j]?=some x/\Mt (flM bits ms room order great 8) x ((vL order great 8).getD j .non):=by
 obtain⟨i,hi,rfl⟩:=h.onto hj;refine⟨_,QC h hi (Dh _),?_⟩;have e:(vL order great 8).getD (order.getD i 0) .non=(JA great).getD i .non:=by
  rw[DA (l:=vL order great 8),V6 h hi (Dh _)];rfl
 rw[e];rcases(show i=0\/i=1\/i=2\/i=3\/i=4\/i=5\/i=6\/i=7 by lia)with rfl|rfl|rfl|rfl|rfl|rfl|rfl|rfl
 ·exact⟨.inl ⟨_,rfl⟩,nvs,rfl⟩
 ·exact⟨.inl ⟨_,rfl⟩,rfl,rfl⟩
 ·exact⟨.inl ⟨_,rfl⟩,nvs,rfl⟩
 ·exact⟨.inl ⟨_,rfl⟩,nvs,rfl⟩
 ·exact⟨.inr (.inl ⟨_,rfl⟩),rfl,by show true=decide (("pair" : Str) = "pair");decide⟩
 ·exact⟨.inr (.inl ⟨_,rfl⟩),rfl,by show true=decide (("pair" : Str) = "pair");decide⟩
 ·exact⟨.inr (.inr ⟨_,_,rfl⟩),nvn (by decide),rfl⟩
 ·exact⟨.inr (.inl ⟨_,rfl⟩),nvn (by decide),by show false=decide (("yes" : Str) = "pair");decide⟩
namespace Mc
variable {A:Mc}{r:Nat}{n:Int}{x y:Rf}
set_option tactic.hygienic true in
theorem Gs(ha:∀i∈A.od,A.Rc i)(h:¬((A.mk' k).os.length:Int)+k<=A.most):A.mk' k={ A with sw:=A.sw+1 }:=by
 unfold mk' at h ⊢;split
 ·exact swp_all ha
 ·rename_i z
  rw[Uh z]at h;exact absurd (BW.mp z) h
theorem q0f(ha:∀i∈A.od,A.Rc i)(hg:(lcnt A.bits n:Int)<2^(A.bits-2).toNat)(h:(A.num r n).2=false):(A.num r n).1={ A with sw:=A.sw+1 }:=by
 unfold num at h ⊢;by_cases hs:vY A.sm n=true
 ·rw[Uj hs]at h;cases h
 rw[Uh hs,Uh (BX.mpr hg)]at h ⊢;by_cases hf:((A.mk' (lcnt A.bits n+1)).os.length:Int)+(lcnt A.bits n+1:Nat)<=A.most
 ·rw[Uj hf]at h;cases h
 ·rw[Uh hf]
  exact Gs ha hf
theorem two_lack(ha:∀i∈A.od,A.Rc i)(hg:(lcnt A.bits n:Int)<2^(A.bits-2).toNat)(h:(A.two r x y n).2=false):(A.two r x y n).1={ A with sw:=A.sw+1 }:=by
 unfold two at h ⊢;by_cases z:(A.num r n).2=true
 ·rw[Uj z]at h;cases h
 ·rw[Uh z]at h ⊢
  exact q0f ha hg h
theorem prd_lack(ha:∀i∈A.od,A.Rc i)(h:(A.prd r x y).2=false):(A.prd r x y).1={ A with sw:=A.sw+1 }:=by
 unfold prd at h ⊢;by_cases z:((A.mk' 3).os.length:Int)+(3:Nat)<=A.most
 ·rw[Uj z]at h;cases h
 ·rw[Uh z]
  exact Gs ha z
end Mc
theorem q6b(h:Od order):∀i∈(flM bits ms room order great 8).od,(flM bits ms room order great 8).Rc i:=λi hi=>by
 have m:∀j,j<8->flV.getD j (.w ("one", 0))=.t i->(flM bits ms room order great 8).Rc i:=λj hj e=>.of (De (i:=order.getD j 0) (by show(flR order 8)[_]?=_;rw[QC h hj (Dh _),e]));have hi:i∈[0,1,2]:=hi;simp only[Dr,DW,UU]at hi;rcases hi with rfl|rfl|rfl
 ·exact m 1 (by decide) rfl
 ·exact m 4 (by decide) rfl
 ·exact m 5 (by decide) rfl
abbrev Qa:Stmt:=top 61
theorem scDeedDone:q00 ["store","deed","word","r","q","p"] ["store","deed"] (qc Qa):=by ac_rfl
def Ne.fit(A:Mc):Ne->Prop
 |.pr _ _ _=>((A.mk' 3).os.length:Int)+(3:Nat)<=A.most
 |_=>True
theorem Zt{w x y:Str}(hi:ρ[i]?=some (some (.p (.str w))))(h:decide (w=x\/w=y)=false)(q:r E ρ M):uSeq (uIfS (uB (uOp (sIn false) (uVar i) (uLst (XO (uC (.str x)) (XO (uC (.str y)) uNil))))) b YE) r E ρ M :=
 ⟨_,hi,_,rfl,_,_,rfl,rfl,.str w,_, [.str x,.str y],rfl,rfl,rfl,false,Uo (λz=>U.p (.bl z)) (by
  have h:=U0 h;show inV (.str w) (([x,y]:List Str).map V.str)=false;rw[xy];simpa using h),q⟩
theorem Zs{w x y:Str}(hi:ρ[i]?=some (some (.p (.str w))))(h:w=x\/w=y)(q:b { E with nx:=r E } ρ M):uSeq (uIfS (uB (uOp (sIn false) (uVar i) (uLst (XO (uC (.str x)) (XO (uC (.str y)) uNil))))) b YE) r E ρ M :=
 ⟨_,hi,_,rfl,_,_,rfl,rfl,.str w,_, [.str x,.str y],rfl,rfl,rfl,true,Uo (λz=>U.p (.bl z)) (by
  show inV (.str w) (([x,y]:List Str).map V.str)=true;rw[xy];simpa using h),q⟩
def q2G(C:Addr):List U->MM->UK->UX->Prop:=λus M Q X=>∃(s h kp:Nat)(bits:Int)(ms:List Mk3)(room:Int)(order:List Nat)(great:Int)(e:Ne),us=[.m s,.p e.t]/\Fl bits ms room order great/\Bt 120 great/\StA C M s h kp (flM bits ms room order great 8)/\e.Ok/\(∀k,dueT (vL order great 8) e=wkT k->X "WrongKind" (some k) M)/\(dueT (vL order great 8) e=.tup [.str "Nought",.non]->X "Nought" none M)/\(dueT (vL order great 8) e=.non->(∀(t:T)(B:Mc),e.fit (flM bits ms room order great 8)->Go C M s h kp B (Q (.p t)))/\Go C M s h kp { flM bits ms room order great 8 with sw:=1 } (X "NoRoom" none))
theorem Mt.pair(m:Mt A x t):(∀z,A.pv x=some z->dueP t=.non)/\(A.pv x=none->dueP t=wkT 1):=by
 have:=m.p;refine⟨λz e=>?_,λe=>?_⟩
 ·rw[e]at this
  exact Uj this.symm
 ·rw[e]at this
  exact Uh (by rw[<-this];decide)
theorem Mt.int(m:Mt A x t):(A.nv x=none->isI t=false)/\∀a,A.nv x=some a->t=.int a:=by
 rw[m.n];rcases m.k with⟨n,rfl⟩|⟨a,rfl⟩|⟨a,n,rfl⟩
 ·exact⟨(λz=>nomatch z),λa e=>by cases e;rfl⟩
 ·exact⟨λ_=>rfl,(λa z=>nomatch z)⟩
 ·exact⟨λ_=>rfl,(λa z=>nomatch z)⟩
theorem q2O(h:isI a=false):due2 nt a b=wkT 1:=Uj h
theorem q3e(h:isI b=false):due2 nt (.int a) b=wkT 2:=(Uh (by show ¬true=false;decide)).trans (Uj h)
theorem q2W(h:nt=true->b≠0):due2 nt (.int a) (.int b)=.non:=(Uh (by show ¬true=false;decide)).trans ((Uh (by show ¬true=false;decide)).trans (Uh (by show ¬(nt&&decide (b=0))=true;simpa using h)))
theorem q3G(ha:Bt n a)(hb:b≠0):Bt (n+1) (a.fdiv b):=by
 unfold Bt at ha ⊢;have aD:∀{x y:Int},0<y->x.natAbs<2^n->(x.fdiv y).natAbs<2^(n+1):=λ{x y} hy hx=>by
  rw[RC x (by lia)];have h1:=Int.natAbs_ediv_le_natAbs x y;rw[Nat.pow_succ];lia
 rcases qbm hb with h|h
 ·rw[<-Int.neg_fdiv_neg]
  exact aD (by lia) (by rwa [qa8])
 ·exact aD h ha
theorem q5H{a b:Int}(ii:Bt n b)(hb:b≠0):Bt n (a.fmod b):=by
 unfold Bt at ii ⊢;rcases qbm hb with h|h
 ·have e:a.fmod b = -((-a).fmod (-b)):=by rw[Int.neg_fmod_neg];lia
  rw[e,qa8,RB _ (by lia)];have h1:=D2 (-a) (show -b≠0 by lia);have h2:=DU (-a) (show 0 < -b by lia);lia
 ·rw[RB _ (by lia)]
  have h1:=D2 a hb;have h2:=DU a h;lia
theorem q7f(h:Bt n i)(h':Bt m j):Bt (n+m) (i*j):=by
 unfold Bt at h h' ⊢;rw[Int.natAbs_mul,qbd];exact Nat.mul_lt_mul'' h h'
theorem Jt(hb:8<=bits)(h:Bt k n):lcnt bits n<=(k+7) / 8:=by
 have hk:=h.bits;have h9:8<=bits.toNat:=by lia
 unfold lcnt;have e:k<=8*((k+7) / 8):=by lia
 refine Nat.le_of_lt_succ (qa7 ?_);show _<bits.toNat*((k+7) / 8+1);have h2:8*((k+7) / 8+1)<=bits.toNat*((k+7) / 8+1):=R4 _ h9;have h3:bits.toNat*((k+7) / 8+1)=bits.toNat*((k+7) / 8)+bits.toNat:=BQ _ _;have h4:8*((k+7) / 8)<=bits.toNat*((k+7) / 8):=R4 _ h9;lia
theorem q2s(hb:8<=bits)(h:Bt k n)(hk:k<=480):(lcnt bits n:Int)<2^(bits-2).toNat:=by
 have h1:=Jt hb h;have:(2:Nat)^6<=2^(bits-2).toNat:=Ra (by decide) (by lia);have:(64:Int)<=2^(bits-2).toNat:=by exact_mod_cast this
 lia
theorem q7G(h:Od order)(hj:j<8)(hg:Bt 120 great)(e:(vL order great 8).getD j .non=.int a):Bt 120 a:=by
 obtain⟨i,hi,rfl⟩:=h.onto hj;rw[DA (l:=vL order great 8),V6 h hi (Dh _)]at e;rcases(show i=0\/i=1\/i=2\/i=3\/i=4\/i=5\/i=6\/i=7 by lia)with rfl|rfl|rfl|rfl|rfl|rfl|rfl|rfl<;>cases e
 ·show _<_;decide
 ·exact hg
 ·show _<_;decide
 ·show _<_;decide
theorem q19(F:Fun Ξ "_law_deed_done" "_law_deed_done" Qa f fd)(a4:Cls Ξ C)(aH:q02 P w Ξ mg base C "number" 9 ["self","r","n"] (spX mg (q20 C)))(aQ:MDef P w Ξ mg base C "sign" 4 ["self","r","k"] (spU (GV C)))(aY:MDef P w Ξ mg base C "one" 4 ["self","r","text"] (spU (q64 C)))(bI:MDef P w Ξ mg base C "copy" 1 ["self","r","q"] (spU (q2t C)))(bJ:q02 P w Ξ mg base C "plus" 11 ["self","r","q","p"] (spX mg (Qw C false (λ_ _=>True) (λa b=>a+b))))(bK:q02 P w Ξ mg base C "less" 11 ["self","r","q","p"] (spX mg (Qw C false (λ_ _=>True) (λa b=>a-b))))(bq:q02 P w Ξ mg base C "times" 11 ["self","r","q","p"] (spX mg (Qw C false IntMulOk (λa b=>a*b))))(bL:q02 P w Ξ mg base C "over" 11 ["self","r","q","p"] (spX mg (Qw C true (λa b=>Builtin.divisionGoesByPylong a b=false) Int.fdiv)))(bM:q02 P w Ξ mg base C "rest" 11 ["self","r","q","p"] (spX mg (Qw C true (λ_ _=>True) Int.fmod)))(bN:q02 P w Ξ mg base C "pair" 9 ["self","r","q","p"] (spX mg (GW C)))(br:q02 P w Ξ mg base C "first" 6 ["self","r","q"] (spX mg (q0A C true)))(bh:q02 P w Ξ mg base C "second" 6 ["self","r","q"] (spX mg (q0A C false)))(aZ:q02 P w Ξ mg base C "set_first" 6 ["self","q","p"] (spX mg (q1H C true)))(aU:q02 P w Ξ mg base C "set_second" 6 ["self","q","p"] (spX mg (q1H C false)))(bt:q02 P w Ξ mg base C "below" 6 ["self","q","p"] (spX mg (GY C)))(bO:MDef P w Ξ mg base C "same" 6 ["self","q","p"] (spU gNo))(ak:MDef P w Ξ mg base C "kind" 3 ["self","q"] (spU (Xj C)))(a5:MDef P w Ξ mg base C "told" 5 ["self","q"] (spU (jt C))):FnOk P w Ξ mg base (CXe P w) 12 f fd ["store","deed"] (spX mg (q2G C)):=by
 refine F.zX scDeedDone (by rintro _ _ _ _ ⟨_,_,_,_,_,_,_,_,_,rfl,_⟩;rfl) (λa9 A outer s H E hr=>?_);refine⟨_,(qC (jP (qi (i:=2) scDeedDone.nd rfl GC (qr (Uc Ξ) qv1 qa (λ_ _=>rfl)))) (qC (jP (zd (vc (Y4 (Ξ:=Ξ) rfl) (ql (q5R (Ξ:=Ξ) rfl) (vc (Y4 (Ξ:=Ξ) rfl) qv1 (qY qa) v6) (qA (qa3 qa qa qa))) v6 (qY qa)) (Wy (Ξ:=Ξ) (i:=3) (j:=4) (k:=5) rfl scDeedDone.nd rfl rfl rfl rfl GC GC GC GC GC GC))) (qC (jQ (qh (Ud Ξ) qv2 (qw (qa2 qe qe)) (by with_unfolding_all rfl)) (qF (Qc (v5 (qh op_eq qv2 qe (qt _)) (qR qv0 a4 aH (WE hr) (qa2 qv3 qv4)) (vQ (qD aQ a4 qv0 (WE hr) (qa2 qv3 qv4)))))) vN) (qC (jP (vp (qh (Ud Ξ) qv2 (qw (qa2 qe qe)) (by with_unfolding_all rfl)) (qd (qp (vd (qh op_eq qv2 qe (qt _)) (qD aY a4 qv0 (WE hr) (qa2 qv3 qv4)) (qD bI a4 qv0 (WE hr) (qa2 qv3 qv4))))) qJ)) (qC (jQ (qh (Ud Ξ) qv2 (qw (qa2 qe qe)) (by with_unfolding_all rfl)) (qF (Qc (v5 (qh op_eq qv2 qe (qt _)) (qR qv0 a4 bJ (WE hr) (qa3 qv3 qv4 qv5)) (qR qv0 a4 bK (WE hr) (qa3 qv3 qv4 qv5))))) vN) (qC (jQ (qh (Ud Ξ) qv2 (qw (qa2 qe qe)) (by with_unfolding_all rfl)) (qF (Qc (v5 (qh op_eq qv2 qe (qt _)) (qR qv0 a4 bq (WE hr) (qa3 qv3 qv4 qv5)) (qR qv0 a4 bL (WE hr) (qa3 qv3 qv4 qv5))))) vN) (qC (jQ (qh (Ud Ξ) qv2 (qw (qa2 qe qe)) (by with_unfolding_all rfl)) (qF (Qc (v5 (qh op_eq qv2 qe (qt _)) (qR qv0 a4 bM (WE hr) (qa3 qv3 qv4 qv5)) (qR qv0 a4 bN (WE hr) (qa3 qv3 qv4 qv5))))) vN) (qC (jQ (qh (Ud Ξ) qv2 (qw (qa2 qe qe)) (by with_unfolding_all rfl)) (qF (Qc (v5 (qh op_eq qv2 qe (qt _)) (qR qv0 a4 br (WE hr) (qa2 qv3 qv4)) (qR qv0 a4 bh (WE hr) (qa2 qv3 qv4))))) vN) (qC (jQ (qh (Ud Ξ) qv2 (qw (qa2 qe qe)) (by with_unfolding_all rfl)) (qF (Qc (v5 (qh op_eq qv2 qe (qt _)) (qR qv0 a4 aZ (WE hr) (qa2 qv3 qv4)) (qR qv0 a4 aU (WE hr) (qa2 qv3 qv4))))) vN) (qC (jQ (qh (Ud Ξ) qv2 (qw (qa2 qe qe)) (by with_unfolding_all rfl)) (qF (Qc (v5 (qh op_eq qv2 qe (qt _)) (qR qv0 a4 bt (WE hr) (qa2 qv3 qv4)) (vQ (qD bO a4 qv0 (WE hr) (qa2 qv3 qv4)))))) vN) (qF (jP (qp (vd (qh op_eq qv2 qe (qt _)) (qD ak a4 qv0 (WE hr) (qa1 qv3)) (qD a5 a4 qv0 (WE hr) (qa1 qv3)))))))))))))))),_,(qk (by right) (qk (vf (q2f (q5A (q2f (qm 1) (QM WF) JL) (KJ (qo WF (qo WF (qo WF qU))))) JL (QM WF)) (by right)) (by right))),λus M Qu Xu h=>?_⟩;obtain⟨s,h,kp,bits,ms,room,order,great,e,rfl,hF,hg,S,he,k1,k2,k3⟩:=h;rcases e with⟨v,r,j,p⟩|⟨b,r,j⟩|⟨b,j,p⟩|⟨j,p⟩|⟨r,j,p⟩
 ·obtain⟨hv,rZ,hj,hp⟩:=he
  obtain⟨x,hx,mx⟩:=zi (bits:=bits) (ms:=ms) (room:=room) (great:=great) hF.o hj;obtain⟨y,hy,my⟩:=zi (bits:=bits) (ms:=ms) (room:=room) (great:=great) hF.o hp;have hb:=hF.R.b;have G:∀{nt:Bool}{ok:Int->Int->Prop}{op:Int->Int->Int}{X':UX},decide (v = "over" \/ v = "rest")=nt->(∀a b,Bt 120 a->Bt 120 b->(nt=true->b≠0)->ok a b/\Bt 240 (op a b))->(∀nm p M1,Xu nm p M1->X' nm p M1)->Qw C nt ok op [.m s,.p (.int r),.p (.int j),.p (.int p)] M Qu X':=λ{nt ok op X'} hn hok hX=>by
   have d:∀{t:T},due2 nt ((vL order great 8).getD j .non) ((vL order great 8).getD p .non)=t->dueT (vL order great 8) (.two v r j p)=t:=λ{t} e=>by show due2 (decide _) _ _=_;rw[hn];exact e
   refine⟨s,h,kp,_,r,j,p,x,y,rfl,S,rZ,hx,hy,λa b ea eb hz=>?_,λe=>hX _ _ _ (k1 1 (d (q2O (mx.int.1 e)))),λa ea e=>hX _ _ _ (k1 2 (d (by rw[mx.int.2 a ea];exact q3e (my.int.1 e)))),λht a ea e=>hX _ _ _ (k2 (d (by rw[mx.int.2 a ea,my.int.2 0 e,ht];rfl)))⟩;obtain⟨o1,o2⟩:=hok a b (q7G hF.o hj hg (mx.int.2 a ea)) (q7G hF.o hp hg (my.int.2 b eb)) hz;have k3:=k3 (d (by rw[mx.int.2 a ea,my.int.2 b eb];exact q2W hz));exact⟨o1,o2.mono (by decide),λ_=>k3.1 _ _ trivial,λe M' h' aW f a' b' S'=>hX _ _ _ (k3.2 M' h' aW f a' b' (by rw[Mc.two_lack (q6b hF.o) (q2s hb.1 o2 (by decide)) e]at S';exact S'))⟩
  unfold Ne.t;refine YD rfl (useq ?_)
  repeat (first|walk_at "vs" |walk_at "vx")
  refine⟨_,rfl,_,_,rfl,rfl,by rw[Ul];show 3+3<=_;decide,_,rfl,?_⟩;show T3S _ (.p (.tup [.int (r:Int),.int (j:Int),.int (p:Int)])) _
  repeat (first|walk_at "vs" |walk_at "vx")
  simp only[q0Q,Dr,DW,UU]at hv;rcases hv with rfl|rfl|rfl|rfl|rfl
  all_goals
   repeat refine Zt rfl (by decide) ?_
   refine Zs rfl (by first|exact .inl rfl|exact .inr rfl) ?_;left;refine mS S (by rfl) (G (by decide) (λa b ha hb hz=>?_) (λnm p M1 z=>⟨_,_,_,rfl,rfl,z⟩))
  ·exact⟨trivial,(ha.add hb).mono (by decide)⟩
  ·exact⟨trivial,(ha.sub hb).mono (by decide)⟩
  ·exact⟨.of_bits (DB ha.bits (by decide)) (DB hb.bits (by decide)),q7f ha hb⟩
  ·refine⟨Bp ?_,(q3G ha (hz rfl)).mono (by decide)⟩
   have z:b.natAbs≠0:=λz=>hz rfl (qbn.mp z);exact BI ((qbv z).mpr hb) (by decide)
  ·exact⟨trivial,(q5H hb (hz rfl)).mono (by decide)⟩
 ·obtain⟨x,hx,mx⟩:=zi (bits:=bits) (ms:=ms) (room:=room) (great:=great) hF.o he.2
  unfold Ne.t;refine YD rfl (useq ?_)
  repeat (first|walk_at "vs" |walk_at "vx")
  refine⟨_,rfl,_,_,rfl,rfl,by rw[Ul];show 2+3<=_;decide,_,rfl,?_⟩;show T3S _ (.p (.tup [.int (r:Int),.int (j:Int),.int 0])) _
  repeat (first|walk_at "vs" |walk_at "vx")
  iterate 5 refine Zt rfl (by cases b<;>decide) ?_
  refine Zs rfl (by cases b;exact .inr rfl;exact .inl rfl) ?_;left;obtain⟨d1,d2⟩:=Mt.pair mx;cases b
  ·refine ve (by decide) (mS S (by rfl) ⟨s,h,kp,_,r,j,x,rfl,S,he.1,hx,λi a b e=>(k3 (d1 _ e)).1 _ _ trivial,λe=>⟨_,_,_,rfl,rfl,k1 1 (d2 e)⟩⟩)
  ·refine qK rfl (mS S (by rfl) ⟨s,h,kp,_,r,j,x,rfl,S,he.1,hx,λi a b e=>(k3 (d1 _ e)).1 _ _ trivial,λe=>⟨_,_,_,rfl,rfl,k1 1 (d2 e)⟩⟩)
 ·obtain⟨x,hx,mx⟩:=zi (bits:=bits) (ms:=ms) (room:=room) (great:=great) hF.o he.1
  obtain⟨y,hy,_⟩:=zi (bits:=bits) (ms:=ms) (room:=room) (great:=great) hF.o he.2;unfold Ne.t;refine YD rfl (useq ?_)
  repeat (first|walk_at "vs" |walk_at "vx")
  refine⟨_,rfl,_,_,rfl,rfl,by rw[Ul];show 2+3<=_;decide,_,rfl,?_⟩;show T3S _ (.p (.tup [.int (j:Int),.int (p:Int),.int 0])) _
  repeat (first|walk_at "vs" |walk_at "vx")
  iterate 6 refine Zt rfl (by cases b<;>decide) ?_
  refine Zs rfl (by cases b;exact .inr rfl;exact .inl rfl) ?_;left;obtain⟨d1,d2⟩:=Mt.pair mx;cases b
  ·refine ve (by decide) (mS S (by rfl) ⟨s,h,kp,_,j,p,x,y,rfl,S,hx,hy,λi a b e=>(k3 (d1 _ e)).1 _ _ trivial,λe=>⟨_,_,_,rfl,rfl,k1 1 (d2 e)⟩⟩)
  ·refine qK rfl (mS S (by rfl) ⟨s,h,kp,_,j,p,x,y,rfl,S,hx,hy,λi a b e=>(k3 (d1 _ e)).1 _ _ trivial,λe=>⟨_,_,_,rfl,rfl,k1 1 (d2 e)⟩⟩)
 ·obtain⟨x,hx,mx⟩:=zi (bits:=bits) (ms:=ms) (room:=room) (great:=great) hF.o he.1
  obtain⟨y,hy,my⟩:=zi (bits:=bits) (ms:=ms) (room:=room) (great:=great) hF.o he.2;unfold Ne.t;refine YD rfl (useq ?_)
  repeat (first|walk_at "vs" |walk_at "vx")
  refine⟨_,rfl,_,_,rfl,rfl,by rw[Ul];show 2+3<=_;decide,_,rfl,?_⟩;show T3S _ (.p (.tup [.int (j:Int),.int (p:Int),.int 0])) _
  repeat (first|walk_at "vs" |walk_at "vx")
  iterate 7 refine Zt rfl (by decide) ?_
  refine Zs rfl (by exact .inl rfl) ?_;left;refine mS S (by rfl) ⟨s,h,kp,_,j,p,x,y,rfl,S,hx,hy,λa b ea eb=>?_,λe=>⟨_,_,_,rfl,rfl,k1 1 (q2O (mx.int.1 e))⟩,λa ea e=>⟨_,_,_,rfl,rfl,k1 2 (by show due2 false _ _=_;rw[mx.int.2 a ea];exact q3e (my.int.1 e))⟩⟩;exact Go.here S ((k3 (by show due2 false _ _=_;rw[mx.int.2 a ea,my.int.2 b eb];exact q2W (λz=>nomatch z))).1 _ _ trivial)
 ·obtain⟨x,hx,mx⟩:=zi (bits:=bits) (ms:=ms) (room:=room) (great:=great) hF.o he.2.1
  obtain⟨y,hy,my⟩:=zi (bits:=bits) (ms:=ms) (room:=room) (great:=great) hF.o he.2.2;unfold Ne.t;refine YD rfl (useq ?_)
  repeat (first|walk_at "vs" |walk_at "vx")
  refine⟨_,rfl,_,_,rfl,rfl,by rw[Ul];show 3+3<=_;decide,_,rfl,?_⟩;show T3S _ (.p (.tup [.int (r:Int),.int (j:Int),.int (p:Int)])) _
  repeat (first|walk_at "vs" |walk_at "vx")
  iterate 4 refine Zt rfl (by decide) ?_
  refine Zs rfl (by exact .inr rfl) ?_;left;refine mS S (by rfl) ⟨s,h,kp,_,r,j,p,x,y,rfl,S,he.1,hx,hy,λe=>(k3 rfl).1 _ _ (by unfold Mc.prd at e;split at e;assumption;cases e),λe M' h' aW f a b S'=>⟨_,_,_,rfl,rfl,(k3 rfl).2 M' h' aW f a b (by rw[Mc.prd_lack (q6b hF.o) e]at S';exact S')⟩⟩
abbrev q3z:Stmt:=top 62
theorem scWide:q00 ["bag","least","bits","marks"] ["bag","least"] (qc q3z):=by ac_rfl
theorem q5q:(["bag","least","bits","marks","kind","width","pattern"]:List Str).Nodup:=by decide+kernel
structure Wide(bits:Int)(ms:List Mk3):Prop where
 R:Right bits ms
 f:∀m∈ms,m.1 = "far" \/ m.1 = "pair" -> 6<=bits-m.2.1
theorem q8a:Wide 16 [("pair", 3,3),("far", 3,1),("sign", 3,5),("small", 1,0),("one", 3,7)]:=by
 refine⟨⟨by decide,rfl,by decide,by decide,by decide,?_⟩,by decide⟩;refine List.Pairwise.cons (λm' hm=>?_) (List.Pairwise.cons (λm' hm=>?_) (List.Pairwise.cons (λm' hm=>?_) (List.Pairwise.cons (λm' hm=>?_) (List.Pairwise.cons (λm' hm=>nomatch hm) .nil))))
 all_goals
  simp only[Dr,DW,UU]at hm
  first
   | (rcases hm with rfl|rfl|rfl|rfl<;>exact QJ (by decide))
   | (rcases hm with rfl|rfl|rfl<;>exact QJ (by decide))
   | (rcases hm with rfl|rfl<;>exact QJ (by decide))
   | (subst hm;exact QJ (by decide))
def q6i:List U->MM->UK->Prop:=λus M Q=>∃(k:Nat)(o:MO),us=[.m k,.p (.int 6)]/\M[k]?=some o/\BagO o/\∀(bits:Int)(ms:List Mk3)(o':MO),BagO o'->Wide bits ms->Q (.p (layT bits ms)) (M.set k o')
theorem q49(F:Fun Ξ "_law_wide" "_law_wide" q3z f fd)(N:Nms mg)(cH:Def P w Ξ mg base "_law_laying" 3 ["bag"] (spU G4)):FnOk P w Ξ mg base CX0 4 f fd ["bag","least"] (spU q6i):=by
 refine F.zV scWide (by rintro _ _ _ ⟨_,_,rfl,_⟩;rfl) (λa9 A outer s H E hr=>?_);refine⟨_,(qb (zd (qg cH (WE hr) (qa1 qv0)) (q2y (Ξ:=Ξ) (i:=2) (j:=3) rfl scWide.nd rfl rfl rfl GD GC GC GC)) (qb (vp (qh q1R (qx (qaR (Ξ:=Ξ) rfl rfl) (by rfl) N.min q3E (qa1 (ZQ [false,false,true,false] ["kind","width" ,"pattern" ] (vA (Ξ:=Ξ) rfl qv3) (λ_ _ _=>(Wy (Ξ:=Ξ) (i:=4) (j:=5) (k:=6) rfl q5q rfl rfl rfl rfl GC GC GC GD GD GD)) (λ_ _ _=>jR (qh (Ud Ξ) qv4 (qw (qa2 qe qe)) (by with_unfolding_all rfl))) (λ_ _ _=>(ql vB qv2 qv5))))) qv1 (qt _)) (qd (qp (qA (qa2 qv2 qv3)))) qJ) (qd (qp (qA (qa2 qa (qw (qa_c (qA (qa3 qe qa qa)) (qa4 (qA (qa3 qe qa qa)) (qA (qa3 qe qa qa)) (qA (qa3 qe qa qa)) (qA (qa3 qe qa qa))))))))))),_,(qk (by right) (qk (j2 (Zj (zW (by right) (qaP q0N (by right)) (qm 1))) (by right) vP) (by right))),λus M M1 Qu e1 h=>?_⟩;obtain⟨k,o,rfl,em,hB,post⟩:=h;obtain⟨c8,eM⟩:=kG em;rw[e1.trans eM];nofun;refine⟨k,o,rfl,qa6 c8,hB,λo1 bits ms B1 hR=>?_⟩;rw[QU c8];have mv:=hR.n;unfold layT;nofun;refine vX (by rw[Dd,Ul];lia) (λi a8 M'=>M'=MB M k o1 []/\a8=(((ms.take i).filter λ(m:Mk3)=>decide (m.1=("far" : Str)\/m.1=("pair" : Str))).map λ(m:Mk3)=>bits-m.2.1).map T.int) ⟨rfl,rfl⟩ ?_ ?_
 ·rintro i x a8 M' hx _ ⟨rfl,rfl⟩
  obtain⟨m,hm,rfl⟩:=q03 hx;unfold Q5;nofun;refine⟨_,_, [.str "far",.str "pair"],rfl,rfl,rfl,?_⟩;rw[show([.str "far",.str "pair"]:List V)=(["far","pair"]:List Str).map V.str from rfl,xy];nofun;rw[vg hm,D8,Ds,Ds];have e:(m.1∈(["far","pair"]:List Str))↔(m.1=("far" : Str)\/m.1=("pair" : Str)):=by simp
  by_cases hk:m.1=("far" : Str)\/m.1=("pair" : Str)
  ·rw[Uj (e.mpr hk)]
   simp[hk]
  ·rw[Uh (λz=>hk (e.mp z))]
   simp[hk]
 rintro a8 M' ⟨rfl,rfl⟩;rw[Dd,DO];nofun;have aF:∀z:Int,z∈((ms.filter λ(m:Mk3)=>decide (m.1=("far" : Str)\/m.1=("pair" : Str))).map λ(m:Mk3)=>bits-m.2.1)↔∃m∈ms,(m.1 = "far" \/ m.1 = "pair")/\bits-m.2.1=z:=λz=>by
  simp only[DP,Dz,UN,and_assoc]
 refine⟨_,rfl,?_,λz hz g7=>?_⟩
 ·obtain⟨m,hm⟩:=hR.kind (kind := "far") (by decide)
  exact RQ ((aF _).mpr ⟨m,hm.mem,.inl hm.is,rfl⟩)
 nofun;refine ite2 (λh7=>?_) (λh7=>?_)
 ·nofun
  refine⟨j3 B1.pur,?_⟩;rw[j4];exact post bits ms o1 B1 ⟨hR,λm hm hk=>Int.le_trans h7 (g7 _ ((aF _).mpr ⟨m,hm,hk,rfl⟩))⟩
 ·refine⟨j3 B1.pur,?_⟩
  rw[j4];exact post 16 [("pair", 3,3),("far", 3,1),("sign", 3,5),("small", 1,0),("one", 3,7)] o1 B1 q8a
abbrev q4q:Stmt:=top 63
theorem scWord:q00 ["e","names","kinds"] ["e"] (qc q4q):=by ac_rfl
theorem q4Q:(["e","names","kinds","k"]:List Str).Nodup:=by decide+kernel
def Vp(i:Nat):Str:=if i=0 then "WrongKind" else if i=1 then "Nought" else "NoRoom"
structure WdX(Ξ:PySem.W.Frag)(C c0 c1 c2 c3 c4 c5:Addr)(i:Nat):Prop where
 t:ExcT Ξ C
 x0:W.kitOne Ξ (.ref C) (.ref c0)=some (decide (i=0))
 x1:W.kitOne Ξ (.ref C) (.ref c1)=some (decide (i=1))
 x2:W.kitOne Ξ (.ref C) (.ref c2)=some (decide (i=2))
 x3:W.kitOne Ξ (.ref C) (.ref c3)=some false
 x4:W.kitOne Ξ (.ref C) (.ref c4)=some false
 x5:W.kitOne Ξ (.ref C) (.ref c5)=some false
 v:W.kitOne Ξ (.ref C) (.type "ValueError")=some true
def Qr(i:Nat)(a:Addr)(d:Option Addr):List U->MM->UK->Prop:=λus M Q=>∃q,us=[.x a d q]/\Q (.p (.str (Vp i))) M
theorem VY(F:Fun Ξ "_law_word" "_law_word" q4q f fd)(hi:i<3)(N:Nms mg)(iw:mg "ValueError" = none)(eB:mg "WrongKind" = some (.ref CEWk))(b6:mg "Nought" = some (.ref CENought))(b7:mg "NoRoom" = some (.ref CENoRoom))(bV:mg "Faulty" = some (.ref CEFaulty))(bW:mg "NoText" = some (.ref CENoText))(b3:mg "NotFormed" = some (.ref CENotFormed))(W:WdX Ξ C CEWk CENought CENoRoom CEFaulty CENoText CENotFormed i)(ob:q05 C d oe)(hb:base.get? a=some oe):FnH P w Ξ mg base 1 f fd ["e"] a (spU (Qr i a d)):=by
 obtain⟨TX,mG,eC,eD,eE,eF,cV,cI⟩:=W;obtain⟨vs,lZ,se⟩:=ob.v;refine F.zH scWord (by rintro _ _ _ ⟨_,rfl,_⟩;rfl) (λa9 A outer s H E hr=>?_);refine⟨_,(qb (qi (i:=1) scWord.nd rfl GD (qw (qa_c qe (qa_c qe (qa4 qe qe qe qe))))) (qb (qi (i:=2) scWord.nd rfl GD (qw (qa4 (qx (zM (Ξ:=Ξ) rfl TX ob hb) (by rfl) N.isinstance qG (qa2 qv0 (vU (v:=.ref CEWk) rfl eB rfl))) (qx (zM (Ξ:=Ξ) rfl TX ob hb) (by rfl) N.isinstance qG (qa2 qv0 (vU (v:=.ref CENought) rfl b6 rfl))) (qx (zM (Ξ:=Ξ) rfl TX ob hb) (by rfl) N.isinstance qG (qa2 qv0 (vU (v:=.ref CENoRoom) rfl b7 rfl))) (qx (zM (Ξ:=Ξ) rfl TX ob hb) (by rfl) N.isinstance qG (qa2 qv0 (vU (v:=.ref CEFaulty) rfl bV rfl)))))) (qb (qi (i:=2) scWord.nd rfl GD (ql j9 qv2 (qw (qa2 (qx (zM (Ξ:=Ξ) rfl TX ob hb) (by rfl) N.isinstance qG (qa2 qv0 (vU (v:=.ref CENoText) rfl bW rfl))) (qx (zM (Ξ:=Ξ) rfl TX ob hb) (by rfl) N.isinstance qG (qa2 qv0 (vU (v:=.ref CENotFormed) rfl b3 rfl))))))) (qd (qp (ql K2 (q82 PySem.F.plainAttrs_str PySem.F.slot_str_join PySem.F.type_str_join (q1s (Ξ:=Ξ) rfl) qe (qa1 (q73 [false,true,true] ["k"] ⟨a,oe,vs,rfl,hb,lZ,se⟩ rfl N.range (qa1 qa) (λ_ _ _=>(vi (i:=3) q4Q rfl GC)) (λ_ _ _=>jR (vM (qr (Ub Ξ) qv2 qv3 (λ_ _=>rfl)))) (λ_ _ _=>(qr (Ub Ξ) qv1 qv3 (λ_ _=>rfl)))))) (vd (vM (qx (zM (Ξ:=Ξ) rfl TX ob hb) (by rfl) N.isinstance qG (qa2 qv0 (VU (v:=.ty "ValueError") (by rfl) iw XE rfl)))) qe qe))))))),_,(qk (by right) (qk (vf (qaI (qo (xO (c:=.ref CEWk) (cv:=.ref CEWk) rfl mG (qm 0)) (qo (xO (c:=.ref CENought) (cv:=.ref CENought) rfl eC (qm 0)) (qo (xO (c:=.ref CENoRoom) (cv:=.ref CENoRoom) rfl eD (qm 0)) (qo (xO (c:=.ref CEFaulty) (cv:=.ref CEFaulty) rfl eE (qm 0)) qU))))) (qH 2)) (qk (vf (zW WU (qm 2) (qaI (qo (xO (c:=.ref CENoText) (cv:=.ref CENoText) rfl eF (qm 0)) (qo (xO (c:=.ref CENotFormed) (cv:=.ref CENotFormed) rfl cV (qm 0)) qU)))) (qH 2)) (zx (zW q4I (q9T q1j (by right) (by right)) (q2Z (ct_b (xO (c:=.ty "ValueError") (cv:=.type "ValueError") rfl cI (qm 0))) (.str _) (.str _))))))),λus M M1 Qu hM h=>?_⟩;obtain⟨q,rfl,g⟩:=h;left;refine⟨⟨_,rfl⟩,⟨_,rfl⟩,⟨_,rfl⟩,⟨_,rfl⟩,?_⟩;left;refine⟨⟨_,rfl⟩,⟨_,rfl⟩,?_⟩;left;refine⟨by decide,?_⟩;rw[q9K];left;rw[q7L];left;refine Qb (by decide) (by decide) (kM (by show 6<=sizeLine;decide) (λj a8 M2=>M2=M1/\a8=if i<j then[T.str (Vp i)] else[]) ⟨rfl,rfl⟩ (λj a8 M2 hj _ ⟨h1,h2⟩=>?_) (λa8 M2 ⟨h1,h2⟩=>?_))
 ·subst h1 h2
  left;rcases(show i=0\/i=1\/i=2 by lia)with rfl|rfl|rfl<;>rcases(show j=0\/j=1\/j=2\/j=3\/j=4\/j=5 by lia)with rfl|rfl|rfl|rfl|rfl|rfl
  all_goals
   refine qB rfl ?_;left;rfl
 ·subst h1 h2
  rw[Uj (BI hi (by decide))];left;have e:Vp i = "WrongKind" \/ Vp i = "Nought" \/ Vp i = "NoRoom" := by unfold Vp;split;exact .inl rfl;split;exact .inr (.inl rfl);exact .inr (.inr rfl)
  subst hM;refine⟨[Vp i],rfl,by rcases e with e|e|e<;>rw[e]<;>decide,⟨_,rfl⟩,_,_,rfl,rfl,by rcases e with e|e|e<;>rw[e]<;>decide,?_⟩;have e2:Txt.join " " [Vp i] ++ "" = Vp i:=by rcases e with e|e|e<;>rw[e]<;>decide
  rw[e2,DO];exact⟨λ_ _ _=>.inl,g⟩
abbrev Wb:Stmt:=top 64
theorem scTried:q00 ["store","deed","word","part","e"] ["store","deed"] (qc Wb):=by ac_rfl
def GU(C:Addr):List U->MM->UK->Prop:=λus M Q=>∃(s h kp:Nat)(bits:Int)(ms:List Mk3)(room:Int)(order:List Nat)(great:Int)(e:Ne),us=[.m s,.p e.t]/\Fl bits ms room order great/\Bt 120 great/\StA C M s h kp (flM bits ms room order great 8)/\e.Ok/\(dueT (vL order great 8) e ≠ .non->Q (.p (dueT (vL order great 8) e)) M)/\(dueT (vL order great 8) e=.non->(∀B:Mc,e.fit (flM bits ms room order great 8)->Go C M s h kp B (Q (.p (.tup [.str "",.non]))))/\Go C M s h kp { flM bits ms room order great 8 with sw:=1 } (Q (.p (.tup [.str "NoRoom",.non]))))
theorem Xq:dueT hs e=.non\/dueT hs e=wkT 1\/dueT hs e=wkT 2\/dueT hs e=.tup [.str "Nought",.non]:=by
 have d2:∀{nt:Bool}{a b:T},due2 nt a b=.non\/due2 nt a b=wkT 1\/due2 nt a b=wkT 2\/due2 nt a b=.tup [.str "Nought",.non]:=λ{nt a b}=>by
  unfold due2;split
  ·exact .inr (.inl rfl)
  ·split
   ·exact .inr (.inr (.inl rfl))
   ·split
    ·exact .inr (.inr (.inr rfl))
    ·exact .inl rfl
 have dp:∀{a:T},dueP a=.non\/dueP a=wkT 1\/dueP a=wkT 2\/dueP a=.tup [.str "Nought",.non]:=λ{a}=>by
  unfold dueP;split
  ·exact .inl rfl
  ·exact .inr (.inl rfl)
 cases e
 ·exact d2
 ·exact dp
 ·exact dp
 ·exact d2
 ·exact .inl rfl
theorem q8D(h:dueT hs e=wkT k):k<1000000:=by
 rcases Xq (hs:=hs) (e:=e)with z|z|z|z<;>rw[z]at h<;>cases h<;>decide
theorem W5(F:Fun Ξ "_law_tried" "_law_tried" Wb f fd)(N:Nms mg)(CWk:ExcK Ξ CEWk g)(iT:NoAttr Ξ CEWk "part")(mH:ExcT Ξ CEWk)(cJ:ExcT Ξ CENought)(cK:ExcT Ξ CENoRoom)(b4:mg "WordError" = some (.ref CEWordError))(eB:mg "WrongKind" = some (.ref CEWk))(b6:mg "Nought" = some (.ref CENought))(b7:mg "NoRoom" = some (.ref CENoRoom))(EWk_WordError:W.exmOne Ξ (.ref CEWk) (.ref CEWordError)=some true)(ENought_WordError:W.exmOne Ξ (.ref CENought) (.ref CEWordError)=some true)(ENoRoom_WordError:W.exmOne Ξ (.ref CENoRoom) (.ref CEWordError)=some true)(dt:W.kitOne Ξ (.ref CEWk) (.ref CEWk)=some true)(bP:W.kitOne Ξ (.ref CENought) (.ref CEWk)=some false)(bQ:W.kitOne Ξ (.ref CENoRoom) (.ref CEWk)=some false)(cL:DefE P w Ξ mg "_law_word" 1 ["e"] CEWk λa d=>spU (Qr 0 a d))(bu:DefE P w Ξ mg "_law_word" 1 ["e"] CENought λa d=>spU (Qr 1 a d))(bv:DefE P w Ξ mg "_law_word" 1 ["e"] CENoRoom λa d=>spU (Qr 2 a d))(cc:DefX P w Ξ mg base "_law_deed_done" 12 ["store","deed"] (spX mg (q2G C))):FnOk P w Ξ mg base CX0 13 f fd ["store","deed"] (spU (GU C)):=by
 refine F.zU scTried (by rintro _ _ _ ⟨_,_,_,_,_,_,_,_,_,rfl,_⟩;rfl) (λa9 A outer s H E hr=>?_);refine⟨_,(qb (qi (i:=2) scTried.nd rfl GC qe)
  (qb (qi (i:=3) scTried.nd rfl GC vG)
  (qb (q6Y (l:=[("WrongKind", _),("Nought", _),("NoRoom", _)]) ⟨rfl,rfl,rfl,rfl⟩ (λ_ _=>
   (qF (vm (zE cc (WE hr) (qa_c (qv 0) (qa_c (qv 1) v7))))))
   (Jz eB (λ_=>(Wx (i:=4) ⟨rfl,rfl,rfl,rfl⟩ b4 EWk_WordError scTried.nd rfl rfl (λ_ _ _ ob=>(qb (qi (i:=2) scTried.nd rfl GC (Jj cL (WE hr) ob (qa_c (qv 4) v7)))
   (qd (vp (vM (qx (Zl (Ξ:=Ξ) rfl mH ob Ki) (by rfl) N.isinstance qG (qa_c (qv 4) (qa_c (vU (v:=.ref CEWk) rfl eB rfl) v7))))
    (qd (qi (i:=3) scTried.nd rfl GC (q4w CWk iT ob Ki (qv 4))))
    qJ)))))) (Jz b6 (λ_=>(Wx (i:=4) ⟨rfl,rfl,rfl,rfl⟩ b4 ENought_WordError scTried.nd rfl rfl (λ_ _ _ ob=>(qb (qi (i:=2) scTried.nd rfl GC (Jj bu (WE hr) ob (qa_c (qv 4) v7)))
   (qd (vp (vM (qx (Zl (Ξ:=Ξ) rfl cJ ob Ki) (by rfl) N.isinstance qG (qa_c (qv 4) (qa_c (vU (v:=.ref CEWk) rfl eB rfl) v7))))
    (qd q7m)
    qJ)))))) (Jz b7 (λ_=>(Wx (i:=4) ⟨rfl,rfl,rfl,rfl⟩ b4 ENoRoom_WordError scTried.nd rfl rfl (λ_ _ _ ob=>(qb (qi (i:=2) scTried.nd rfl GC (Jj bv (WE hr) ob (qa_c (qv 4) v7)))
   (qd (vp (vM (qx (Zl (Ξ:=Ξ) rfl cK ob Ki) (by rfl) N.isinstance qG (qa_c (qv 4) (qa_c (vU (v:=.ref CEWk) rfl eB rfl) v7))))
    (qd q7m)
    qJ)))))) q8T))))
  (qd (qp (qA (qa_c (qv 2) (qa_c (qv 3) v7)))))))),_,(qk (vf (ce_c (.str _)) (qH 2))
   (qk (vf (ce_c .non) (qH 3))
   (qk (q6E (Kz (qas (qo (qm 0) (qo (qm 1) qU)))) (XF (λ_=>(qaB (λ_ _=>(qk (vf (vW (qo (qm 4) qU)) (qH 2))
   (j2 (ct_b (xO (c:=.ref CEWk) (cv:=.ref CEWk) rfl dt (qm 4)))
   (vf (q52 (qm 4)) (qH 3))
   vP))))) (XF (λ_=>(qaB (λ_ _=>(qk (vf (vW (qo (qm 4) qU)) (qH 2))
   (j2 (ct_b (xO (c:=.ref CEWk) (cv:=.ref CEWk) rfl bP (qm 4)))
   q6t
   vP))))) (XF (λ_=>(qaB (λ_ _=>(qk (vf (vW (qo (qm 4) qU)) (qH 2))
   (j2 (ct_b (xO (c:=.ref CEWk) (cv:=.ref CEWk) rfl bQ (qm 4)))
   q6t
   vP))))) q6D))))
   (zx (KJ (qo (qm 2) (qo (qm 3) qU))))))),λus M Qu h=>?_⟩
 obtain⟨s,h,kp,bits,ms,room,order,great,e,rfl,hF,hg,S,he,k1,k3⟩:=h;left;refine⟨s,h,kp,bits,ms,room,order,great,e,rfl,hF,hg,S,he,λk e1=>?_,λe1=>?_,λe1=>⟨λt B ht M' h' aW f a b S'=>?_,λM' h' aW f a b S'=>?_⟩⟩
 ·refine⟨_,_,_,_,rfl,rfl,rfl,λa d=>?_⟩
  left;refine⟨_,rfl,⟨_,rfl⟩,_,rfl,q8D e1,?_⟩;left;have:=k1 (by rw[e1];exact(λz=>nomatch z));rw[e1]at this;exact this
 ·refine⟨_,_,_,_,rfl,rfl,rfl,λa d=>?_⟩
  left;refine⟨_,rfl,⟨_,rfl⟩,?_⟩;left;have:=k1 (by rw[e1];exact(λz=>nomatch z));rw[e1]at this;exact this
 ·left
  exact(k3 e1).1 B ht M' h' aW f a b S'
 ·refine⟨_,_,_,_,rfl,rfl,rfl,λa1 d=>?_⟩
  left;refine⟨_,rfl,⟨_,rfl⟩,?_⟩;left;exact(k3 e1).2 M' h' aW f a b S'
structure Lf(n d:Nat)(t:T):Prop where
 sh:(toD t).showable=true
 ls:(toD t).leavesShort 200=true
 wt:(toD t).weight<=n
 dp:(toD t).depth<=d
theorem Lf.show(h:Lf n d t)(hn:n<=60000)(hd:d<=60):q06 t :=
 ⟨h.sh,DB h.dp hd,by
  have e:=PyData.shown_le 200 (by decide) _ h.ls;have:=h.wt;rw[Ul];lia⟩
theorem Lf.mono(h:Lf n d t)(hn:n<=m)(hd:d<=e):Lf m e t:=⟨h.sh,h.ls,DB h.wt hn,DB h.dp hd⟩
theorem Lf.int(h:Bt k i)(hk:k<=590):Lf k 0 (.int i):=by
 have hl:i.natAbs=0\/i.natAbs.log2<k:=by
  by_cases hz:i.natAbs=0
  ·exact .inl hz
  ·exact .inr ((qbv hz).mpr h)
 have nN:i.natAbs<10^199:=Du h (DB (Ra (by decide) hk) (by decide+kernel));have e:=int_text_length_le10 (k:=199) (by decide) nN;have es:(PyData.shown (.int i)).length<=200:=by
  show(Str.ofString (toString i)).length<=200;rw[PySem.ofString_length];exact e
 refine⟨Ur (show i.natAbs.log2<1920 from hl.elim (λz=>by rw[z];decide) (λz=>by lia)),Ur es,?_,Dh _⟩;show(if i==0 then 0 else i.natAbs.log2+1)<=k;by_cases hz:i=0
 ·subst hz;exact DQ _
 ·have:¬(i==0)=true:=by simpa using hz
  rw[Uh this];rcases hl with z|z
  ·exact absurd (qbn.mp z) hz
  ·exact z
structure LfA(n d:Nat)(ts:List T):Prop where
 sh:PyData.showableAll (toDs ts)=true
 ls:PyData.leavesShortAll 200 (toDs ts)=true
 wt:PyData.weightAll (toDs ts)<=n
 dp:PyData.depthAll (toDs ts)<=d
theorem LfA.nil:LfA 0 d []:=⟨rfl,rfl,Dh _,DQ _⟩
theorem LfA.cons(h:Lf n d t)(hs:LfA m d ts):LfA (n+1+m) d (t::ts):=by
 refine⟨?_,?_,?_,Nat.max_le.mpr ⟨h.dp,hs.dp⟩⟩
 ·show((toD t).showable&&PyData.showableAll (toDs ts))=true
  rw[h.sh,hs.sh];rfl
 ·show((toD t).leavesShort 200&&PyData.leavesShortAll 200 (toDs ts))=true
  rw[h.ls,hs.ls];rfl
 ·show(toD t).weight+1+PyData.weightAll (toDs ts)<=_
  have:=h.wt;have:=hs.wt;lia
theorem LfA.lst(h:LfA n d ts):Lf n (d+1) (.lst ts):=⟨h.sh,h.ls,h.wt,Nat.succ_le_succ h.dp⟩
theorem LfA.ints(hk:k<=590):∀{l:List Int},(∀x∈l,Bt k x)->LfA (l.length*(k+1)) 0 (l.map T.int)
 | [],_=>by rw[DR,Nat.zero_mul];exact .nil
 |x::l,h=>by
  rw[Dj,Nat.add_mul,Nat.one_mul,Be];exact .cons (Lf.int (h x (.head _)) hk) (LfA.ints hk λy hy=>h y (.tail _ hy))
abbrev Wg:Stmt:=top 60
theorem q5E:q00 ["found","due"] ["found","due"] (qc Wg):=by ac_rfl
def G7:List T->(T->Prop)->Prop:=λts Q=>∃t:T,ts=[t,t]/\q06 t/\Q (.bl true)
theorem Gf(F:Fun Ξ "_law_alike" "_law_alike" Wg f fd)(dE:mg "repr" = none):FnOk P w Ξ mg base CX0 1 f fd ["found","due"] (spP G7):=by
 refine F.zP q5E (by rintro _ _ ⟨_,rfl,_⟩;rfl) (λa9 A outer s H E hr=>?_);refine⟨_,(qd (qp (xn op_eq (qx (Xz hr.gd hr.units) (by rfl) dE q3q (qa1 qv0)) (qx (Xz hr.gd hr.units) (by rfl) dE q3q (qa1 qv1)) (qt _)))),_,(by right),λts Qt h=>?_⟩;obtain⟨t,rfl,ht,q⟩:=h;symm;rw[Wm];refine⟨ht,?_⟩;symm;rw[Wm];refine⟨ht,?_⟩;symm;exact q
namespace Mc
theorem q30{A:Mc}(O:A.Ok):(∀x∈A.ws,Bt 60 x)/\∀x∈A.os,Bt 60 x:=by
 have hb:=O.R.b;have p:(2:Int)^A.bits.toNat<=2^(60:Int).toNat:=Q7 (by lia);have e6:(2:Int)^(60:Int).toNat=2^60:=rfl;have aD:∀x:Int,0<=x->x<2^A.bits.toNat->Bt 60 x:=λx h0 h1=>by
  show x.natAbs<2^60;lia
 refine⟨λx hx=>?_,λx hx=>?_⟩
 ·obtain⟨r,hr,rfl⟩:=DP.mp hx
  have:=q5Q O (O.g r hr);exact aD _ this.1 this.2
 ·have:=os_ok O x hx
  exact aD _ this.1 this.2
def five(A:Mc):T:=.lst [vb A.ws,vb A.os,.int A.qu,.int A.sl,.int A.sw]
theorem five_show{A:Mc}(O:A.Ok)(hl:A.os.length<=400)(h1:A.qu=0)(h2:A.sl=0)(h3:A.sw=0\/A.sw=1):q06 A.five:=by
 have i:∀{n:Int},n=0\/n=1->Lf 60 1 (.int n):=λh=>(Lf.int (by rcases h with rfl|rfl<;>(show _<_;decide)) (by decide)).mono (Dh _) (DQ _);have hw:A.ws.length=8:=(Dd ..).trans O.l8;refine(LfA.lst (.cons (LfA.ints (k:=60) (by decide) (q30 O).1).lst (.cons (LfA.ints (k:=60) (by decide) (q30 O).2).lst (.cons (i (.inl h1)) (.cons (i (.inl h2)) (.cons (i h3) .nil)))))).show ?_ (by decide);rw[hw];have:=R4 61 hl;lia
end Mc
def Y1(Ξ:PySem.W.Frag):Sp:=λvs H Q _=>∃(a:Addr)(ns:List Int),vs=[.ref a]/\SqL Ξ H a (ns.map V.int)/\ns.length<=63/\∀H',Q (.bl true) H'
theorem q4y{st:Stmt}(F:Fun Ξ "law" "law" st f fd)(S:q00 N ["script"] (qc st))(hN:2<=N.length)(aA:∀(a9:Value)(A:Around)(outer:List Env)(s:Shared)(H:Hp)(E:XK),Room k (A.deeper (envOfC "law" (qc st) s.heap.objs.size f a9)) ->
   ∃tR,QSs (cxOf CX0 P w Ξ mg base N "law" (qc st) f a9 A outer s H E).nox (va st) (tSeq (tAsg (zT (q4W Ξ) [] E0 (vE (tVar 0) tNil)) (qM 1)) tR)/\∃uR,ZS tR uR/\∀o,BagO o->uR { nx:=λ_ _=>False,rt:=λz _=>z=.p (.bl true) } (none::some (.m 0)::List.replicate (N.length-2) none) [o]):FnOk P w Ξ mg base CX0 (k+1) f fd ["script"] (Y1 Ξ):=by
 refine F.okQ S (λvs H Q E h=>?_) (λa9 A outer s H vs Q E hr h=>?_)
 ·obtain⟨_,_,rfl,_⟩:=h
  rfl
 ·obtain⟨a,ns,rfl,hS,ay,k⟩:=h
  obtain⟨tR,hT,uR,hU,hq⟩:=aA a9 A outer s H E hr;refine⟨_,hT,?_⟩;have sf:L2.start N [.ref a]=some (.ref a)::none::List.replicate (N.length-2) none:=by
   unfold L2.start;obtain⟨m,hm⟩:∃m,N.length=m+2:=⟨N.length-2,by lia⟩;rw[hm];rfl
  rw[sf];simp only[tSeq,tAsg,zT,vE,tNil,tVar,qM,Re,Option.some.injEq,exists_eq_left',DD,RM,RN];refine⟨a,ns,rfl,hS,ay,λb H1 hb s1 B1=>?_⟩;obtain⟨c,ns',i,a',cE,n,iI,iC,r⟩:=id B1.ex;have m5:c≠b:=qaX iI iC;obtain⟨o,sg,ro,_⟩:=KK (A:=λ_=>False) (ι:=[b]) B1 ⟨_,iI⟩ (λz=>z.elim id λz=>m5 (by simpa using z));have w1:L2.Wd (λ_=>False) [b] H1 [o]:=⟨by simp,rfl,λx hx=>hx.elim,λx _ z=>z,λk a2 o2 e1 e2=>by
   match k,e1,e2 with
   |0,e1,e2=>cases e1;cases e2;exact ro
   |k+1,e1,_=>simp at e1⟩
  have env:EnvR (λ_=>False) [b] H1 (some (.ref a)::some (.ref b)::List.replicate (N.length-2) none) (none::some (.m 0)::List.replicate (N.length-2) none):=by
   refine .cons (λu e=>by cases e) (.cons (λu e=>by cases e;exact⟨_,rfl,.m rfl⟩) ?_);generalize N.length-2=m
   induction m with
   |zero=>exact .nil
   |succ m ih=>exact .cons (λu e=>by cases e) ih
  refine hU.h (λ_=>False) [b] _ H1 _ [o] _ { nx:=λ_ _=>False,rt:=λz _=>z=.p (.bl true) } w1 env ⟨λ_ _ _ _ _ _ _ _ q=>q.elim,λι v H2 u M _ _ ru q=>?_,λ_ _ _ _ _ _ _ _ q=>q.elim,λ_ _ _ _ _ _ _ _ q=>q.elim⟩ (hq o sg);have q:u=.p (.bl true):=q;subst q;cases ru with
  |p r=>cases r;exact k H2
theorem qai(B:BagO o)(h0:0<aT)(h1:aT.natAbs.log2<9000)(q:∀(aS:Int)(o':MO),0<=aS->aS<aT->BagO o'->Q (.p (.int aS)) (o'::L)):JD [.m 0,.p (.int aT)] (o::L) Q :=
 ⟨0,o,aT,rfl,rfl,B,h0,h1,λf o' f0 f1 B'=>q f o' f0 f1 B'⟩
abbrev sLaw:Stmt:=top 69
theorem scLaw:q00 ["script","bag","laying","left","order","great","held","used","k","deed","tight","store","ahead","found","due","behind"] ["script"] (qc sLaw):=by ac_rfl
theorem qae{α β:Type}{f:α->β}:∀{l:List α}{j:Nat},(l.map f).eraseIdx j=(l.eraseIdx j).map f
 | [],_=>rfl
 |_::_,0=>rfl
 |_::_,j+1=>Uo _ (qae (j:=j))
theorem qad:∀{l:List Nat}{j:Nat}(h:j<l.length),(l[j]::l.eraseIdx j).Perm l
 |_::_,0,_=>.refl _
 |_::_,j+1,h=>(List.Perm.swap ..).trans ((qad (Nat.lt_of_succ_lt_succ h)).cons _)
theorem Yq(W:Wide bits ms)(o:Od order)(hg:Bt 120 great/\2^60<=great.natAbs)(hr:(lcnt bits great:Int)+7<=room)(sj:room<=400):Fl bits ms room order great:=by
 have hb:=W.R.b;have hc:=Jt hb.1 hg.1;have wf:∀k:Str,k = "far" \/ k = "pair" -> (64:Int)<=2^(bits-wOf ms k).toNat:=λk hk=>by
  obtain⟨m,hm⟩:=W.R.kind (kind:=k) (by rcases hk with rfl|rfl<;>decide);have:=W.f m hm.mem (by rw[hm.is];exact hk);have p:(2:Int)^(6:Int).toNat<=2^(bits-wOf ms k).toNat:=Q7 (by rw[Zq hm];lia);exact p
 refine⟨W.R,o,Um ?_,q2s hb.1 hg.1 (by decide),?_,⟨by lia,sj⟩⟩
 ·obtain⟨m,hm⟩:=W.R.kind (kind := "small") (by decide)
  have h2:=W.R.w m hm.mem;have p:(2:Int)^(bits-(qV ms "small").2.1-1).toNat<=2^(59:Int).toNat:=Q7 (by rw[hm.mk];lia);have e:(2:Int)^(59:Int).toNat=2^59:=rfl;have:=hg.2;lia
 ·have h1:=wf "far" (.inl rfl)
  have h2:=wf "pair" (.inr rfl);unfold Z6 min3;lia
theorem Qz(f:Frm (o::L) M F)(h:0∉F):∃L',M=o::L':=by
 have:=f.2 0 (Nat.succ_pos _) h;cases M with
 |nil=>cases this
 |cons a L'=>cases this;exact⟨L',rfl⟩
theorem q2j{R:T->T->MM->Prop}(S:StA C M s h kp A)(q:R (vb A.ws) (vb A.os) M):Zn C "words" (.m s) M (V8 C [.m s] M λx M1=>SnsS M1 [x] λts=>k9 ts λt=>Zn C "outside" (.m s) M1 (q1k C [.m s] M1 λx M1=>SnsS M1 [x] λts=>k9 ts λt1=>R t t1 M1)):=by
 refine mS S (by rfl) ⟨s,h,kp,A,rfl,S,?_⟩;symm;refine⟨_,_,rfl,rfl,?_⟩;refine mS S (by rfl) ⟨s,h,kp,A,rfl,S,?_⟩;symm;exact⟨_,_,rfl,rfl,q⟩
theorem JE{R:T->T->List T->MM->Prop}(TP:q01 Ξ C)(S:StA C M s h kp A)(q:R (vb A.ws) (vb A.os) [.int A.qu,.int A.sl,.int A.sw] M):Zn C "words" (.m s) M (V8 C [.m s] M λx M1=>SnsS M1 [x] λts=>k9 ts λt=>Zn C "outside" (.m s) M1 (q1k C [.m s] M1 λx M1=>SnsS M1 [x] λts=>k9 ts λt1=>FldS Ξ "quick" (.m s) M1 λx M1=>FldS Ξ "slow" (.m s) M1 λx1 M1=>FldS Ξ "sweeps" (.m s) M1 λx2 M1=>PurS [x,x1,x2] λts=>R t t1 ts M1)):=by
 refine q2j S (v8 TP.c TP.n5 S.S.s0 (by rfl) (v8 TP.c TP.n6 S.S.s0 (by rfl) (v8 TP.c TP.n7 S.S.s0 (by rfl) ?_)));symm;exact q
theorem hd0{o:MO}{L:MM}(a:(o::L).length<=s)(b:(o::L).length<=h)(c:(o::L).length<=k):0∉[s,h,k]:=by
 rw[Dj]at a b c;simp;lia
theorem q8F(o:Od order):∀x∈vL order great 8,Hk x:=λx hx=>by
 obtain⟨j,hj,rfl⟩:=List.mem_iff_getElem.mp hx;obtain⟨_,_,m⟩:=zi (bits:=0) (ms:=[]) (room:=0) (great:=great) o (j:=j) (by rwa [xq]at hj);have:=m.k;rwa [DA,Dc hj]at this
theorem q4U(h:dueT hs e ≠ .non):∃a x,dueT hs e=.tup [.str a,x]/\q06 (.tup [.str a,x]):=by
 rcases Xq (hs:=hs) (e:=e)with z|z|z|z
 ·exact absurd z h
 ·exact⟨_,_,z,by decide+kernel,by decide+kernel,by decide+kernel⟩
 ·exact⟨_,_,z,by decide+kernel,by decide+kernel,by decide+kernel⟩
 ·exact⟨_,_,z,by decide+kernel,by decide+kernel,by decide+kernel⟩
theorem in2t(h:a=x\/a=y)(q:Q (.bl false)):sIn true (.str a) (.lst [.str x,.str y]) Q:=by
 refine⟨_,_, [.str x,.str y],rfl,rfl,rfl,?_⟩;rw[show([.str x,.str y]:List V)=([x,y]:List Str).map V.str from rfl,xy,Uj rfl,Ur (by simpa using h)];exact q
theorem q9m(hn:tk.length=8)(hp:(tk++lf).Perm (List.range 8)):Od tk:=by
 have hl:=hp.length_eq;rw[Dg,RU,hn]at hl;obtain rfl:lf=[]:=RL.mp (by lia);rw[DD]at hp;exact⟨hn,λx hx=>DZ.mp (hp.subset hx),hp.nodup_iff.mpr List.nodup_range,λj hj=>hp.mem_iff.mpr (DZ.mpr hj)⟩
theorem q5C(F:Fun Ξ "law" "law" sLaw f fd)(N:Nms mg)(TP:q01 Ξ C)(a4:Cls Ξ C)(gb:Def P w Ξ mg base "_law_bag" 1 ["script"] (q4W Ξ))(ap:Def P w Ξ mg base "_law_draw" 1 ["bag","many"] (spU JD))(eG:Def P w Ξ mg base "_law_wide" 4 ["bag","least"] (spU q6i))(eI:Def P w Ξ mg base "_law_held" 1 ["order","great"] (spP q6G))(bX:Def P w Ξ mg base "_law_filled" 10 ["laying","room","order","great"] (spU (G6 C)))(dv:Def P w Ξ mg base "_law_needy" 2 ["bag"] (spU q2T))(cM:Def P w Ξ mg base "_law_tried" 13 ["store","deed"] (spU (GU C)))(gc:Def P w Ξ mg base "_law_due" 1 ["held","deed"] (spP gDue))(ce:Def P w Ξ mg base "_law_alike" 1 ["found","due"] (spP G7))(aL:MDef P w Ξ mg base C "words" 1 ["self"] (spU (V8 C)))(aw:MDef P w Ξ mg base C "outside" 1 ["self"] (spU (q1k C))):FnOk P w Ξ mg base CX0 14 f fd ["script"] (Y1 Ξ):=by
 refine q4y F scLaw (by decide) (λa9 A outer s H E hr=>?_);refine⟨_,(qb (qi (i:=1) scLaw.nd rfl GD (qg gb (WE hr) (qa1 qv0))) (qb (qi (i:=2) scLaw.nd rfl GC (qg eG (WE hr) (qa2 qv1 qa))) (qb (qi (i:=3) scLaw.nd rfl GD (qT (Zk rfl) (by rfl) N.list zy (qa1 (qT JM (by rfl) N.range q5F (qa1 qa))))) (qb (q7b (i:=4) [false,true,false,true,false,false,false,false,false,false,false,false,false,false,false,false] [] scLaw.nd rfl rfl (zl rfl N.range (qa1 qa)) (λ_ _ _=>(vi (i:=8) scLaw.nd rfl GC)) (λ_ _ _=>Qe) (λ_ _ _=>(Q1 PySem.F.slot_list_pop PySem.F.type_list_pop q1C qv3 (qa1 (qg ap (WE hr) (qa2 qv1 (qx vJ (by rfl) N.len Q6 (qa1 qv3)))))))) (qb (qi (i:=5) scLaw.nd rfl GC (ql Ve (ql vB (ql Ve (qg ap (WE hr) (qa2 qv1 qa)) qa) qa) (ql qL (ql Kc qa qa) (qg ap (WE hr) (qa2 qv1 (ql Kc qa qa)))))) (qb (qi (i:=6) scLaw.nd rfl GC (qg eI (WE hr) (qa2 qv4 qv5))) (qb (qi (i:=7) scLaw.nd rfl GC (qx vJ (by rfl) N.len Q6 (qa1 (vR aw a4 (qg bX (WE hr) (qa4 qv2 qa qv4 qv5)) (WE hr))))) (qb (xL PassesOwn.never rfl (zl rfl N.range (qa1 (ql qL qa (qg ap (WE hr) (qa2 qv1 qa))))) (vi (i:=8) scLaw.nd rfl GC) (qb (qi (i:=9) scLaw.nd rfl GC (qg dv (WE hr) (qa1 qv1))) (qb (qi (i:=10) scLaw.nd rfl GC (xn op_eq (qg ap (WE hr) (qa2 qv1 qa)) qa (qt _))) (qb (qi (i:=11) scLaw.nd rfl GC (qg bX (WE hr) (qa4 qv2 (vd (vM (qv 10)) qv7 qa) qv4 qv5))) (qb (qi (i:=12) scLaw.nd rfl GC (qw (qa_c (qT qI (by rfl) N.list zy (qa1 (vR aL a4 qv11 (WE hr)))) (qa4 (qT qI (by rfl) N.list zy (qa1 (vR aw a4 qv11 (WE hr)))) (qy qv11 rfl) (qy qv11 rfl) (qy qv11 rfl))))) (qb (qi (i:=13) scLaw.nd rfl GC (qg cM (WE hr) (qa2 qv11 (qv 9)))) (qb (qi (i:=14) scLaw.nd rfl GC (qg gc (WE hr) (qa2 qv6 (qv 9)))) (qb (qi (i:=15) scLaw.nd rfl GC (qw (qa_c (qT qI (by rfl) N.list zy (qa1 (vR aL a4 qv11 (WE hr)))) (qa4 (qT qI (by rfl) N.list zy (qa1 (vR aw a4 qv11 (WE hr)))) (qy qv11 rfl) (qy qv11 rfl) (qy qv11 rfl))))) (qb (vp (Q0 (j8 (qh Jm (qv 14) vG (qt _)) (xl (Q0 (q7U (J9 (vM (qg ce (WE hr) (qa2 (qv 13) (qv 14))))) (q2Y (J9 (vM (qg ce (WE hr) (qa2 (qv 15) (qv 12))))))))))) (qd (qp q1r)) qJ) (qb (vp (Q0 (j8 (qh Kd (qv 14) vG (qt _)) (xl (qh op_eq (qr (Uc Ξ) (qv 13) qa (λ_ _=>rfl)) qe (qt _))))) (qd (vp (Q0 (q7U (J9 (vM (qg ce (WE hr) (qa2 (qv 15) (ql j9 (vc (Ua Ξ) (qv 12) v6 (qY qa)) (qw (qa1 qa))))))) (q2Y (qh Jm (qr (Uc Ξ) (qv 13) qa (λ_ _=>rfl)) vG (qt _))))) (qd (qp q1r)) qJ)) qJ) (qd (vp (Q0 (j8 (qh Kd (qv 14) vG (qt _)) (xl (qh (WW (Ξ:=Ξ) rfl) (qr (Uc Ξ) (qv 13) qa (λ_ _=>rfl)) (qw (qa2 qe qe)) (by with_unfolding_all rfl))))) (qd (qp q1r)) qJ)))))))))))) (qb (qi (i:=11) scLaw.nd rfl GC (qg bX (WE hr) (qa4 qv2 qv7 qv4 qv5))) (qb (qi (i:=12) scLaw.nd rfl GC (qw (qa_c (qT qI (by rfl) N.list zy (qa1 (vR aL a4 qv11 (WE hr)))) (qa4 (qT qI (by rfl) N.list zy (qa1 (vR aw a4 qv11 (WE hr)))) qa qa qa)))) (qb (qi (i:=13) scLaw.nd rfl GC (qg cM (WE hr) (qa2 qv11 (qA (qa4 qe (qr (Ub Ξ) qv4 qa (λ_ _=>rfl)) (qr (Ub Ξ) qv4 qa (λ_ _=>rfl)) (qr (Ub Ξ) qv4 qa (λ_ _=>rfl))))))) (qb (qi (i:=15) scLaw.nd rfl GC (qw (qa_c (qT qI (by rfl) N.list zy (qa1 (vR aL a4 qv11 (WE hr)))) (qa4 (qT qI (by rfl) N.list zy (qa1 (vR aw a4 qv11 (WE hr)))) (qy qv11 rfl) (qy qv11 rfl) (qy qv11 rfl))))) (qd (qp (q2C (xn (WY (Ξ:=Ξ) rfl hr.units) (qv 13) (qA (qa2 qe vG)) (qt _)) (q2F (qg ce (WE hr) (qa2 (qv 15) (qv 12))))))))))))))))))),_,(qk (by right) (qk (vf (qaJ (qo WF qU)) (qH 3)) (by right))),λo hB=>?_⟩;show uSeq _ _ _ [none,some (.m 0),none,none,none,none,none,none,none,none,none,none,none,none,none,none] _;symm;refine⟨0,o,rfl,rfl,hB,λbits ms o1 B1 W=>?_⟩;symm;simp only[YH];symm;refine⟨8,rfl,by decide,?_⟩;symm;refine Qb (by decide) (by decide) (kM (by show 8<=sizeLine;decide) (λi a8 M2=>∃(o':MO)(tk lf:List Nat),BagO o'/\a8=tk.map (λn:Nat=>T.int n)/\M2=[o',.lst ((lf.map λn:Nat=>T.int n).map U.p)]/\tk.length=i/\(tk++lf).Perm (List.range 8)) ⟨o1, [],_,B1,rfl,rfl,rfl,.refl _⟩ (λi a8 M2 hi _ h=>?_) (λa8 M2 h=>?_))
 ·obtain⟨o2,tk,lf,B2,rfl,rfl,rfl,hp⟩:=h
  have hl:tk.length+lf.length=8:=by have:=hp.length_eq;rwa [Dg,RU]at this
  left;rw[Dd,Dd];refine qai B2 (by lia) (by rw[Bj];exact Bf (Nat.log2_le_self _) (by lia)) λd o3 d0 d1 B3=>?_;obtain⟨j,rfl⟩:∃j:Nat,d=j:=⟨d.toNat,by lia⟩;have hj:j<lf.length:=by lia
  refine⟨_,rfl,j,.p (.int lf[j]),rfl,by simp[hj],by rw[Dd,Dd,Ul];lia,_,rfl,o3,tk++[lf[j]],lf.eraseIdx j,B3,by simp,by rw[qae,qae];rfl,by simp,?_⟩;rw[DF];exact((qad hj).append_left tk).trans hp
 obtain⟨o2,tk,lf,B2,rfl,rfl,hn,hp⟩:=h;have od:=q9m hn hp;symm;refine qai B2 (by decide) (by decide) λd1 o3 so sr B3=>?_;symm;refine⟨.inr ⟨by decide,by decide⟩,⟨by decide,by decide,by decide⟩,⟨by decide,by decide,by decide⟩,qai B3 (by decide) (by decide) λd2 o4 nr md B4=>?_⟩;symm;refine⟨.inl ⟨by lia,by lia⟩,?_⟩;obtain⟨great,eg⟩:∃great:Int,great=(d1*2-1)*(10^Int.toNat 20+d2):=⟨_,rfl⟩;rw[<-eg];have hg:Bt 120 great/\2^60<=great.natAbs:=by
  have su:(10:Int)^Int.toNat 20=100000000000000000000:=by decide
  have sv:(10:Int)^Int.toNat 30=1000000000000000000000000000000:=by decide
  rw[sv]at md;rw[su]at eg;show great.natAbs<2^120/\_;rcases(show d1=0\/d1=1 by lia)with rfl|rfl<;>lia
 symm;refine⟨tk,great,rfl,hn,od.l,?_⟩;symm;have hc:=Jt W.R.b.1 hg.1;refine⟨bits,ms,400,tk,great,rfl,Yq W od hg (by lia) (by decide),hg.1.mono (by decide),λM1 s1 h1 sy f1 _ _ _ S1=>?_⟩;obtain⟨L1,rfl⟩:=Qz f1 (λz=>nomatch z);symm;refine mS S1 (by rfl) ⟨s1,h1,sy,_,rfl,S1,?_⟩;symm;obtain⟨bi,eu⟩:∃bi:Int,bi=((List.map T.int (flM bits ms 400 tk great 8).os).length:Int):=⟨_,rfl⟩;rw[<-eu];rw[Dd,os8]at eu;refine qai B4 (by decide) (by decide) λd3 o5 sA sB B5=>?_;symm;refine Qb (by lia) (by lia) (ki (λ_ ρ M=>∃o L x8 x9 eA g5 dD dN ge gf,BagO o/\M=o::L/\ρ=[none,some (.m 0),some (.p (layT bits ms)),some (.m 1),some (.p (.lst (tk.map λn:Nat=>T.int n))),some (.p (.int great)),some (.p (.lst (vL tk great 8))),some (.p (.int bi)),x8,x9,eA,g5,dD,dN,ge,gf]) ⟨_,_,_,_,_,_,_,_,_,_,B5,rfl,rfl⟩ (λi ρ M hi h=>?_) (λρ M h=>?_))
 ·obtain⟨o6,L6,x8,x9,eA,g5,dD,dN,ge,gf,B6,rfl,rfl⟩:=h
  symm;refine⟨0,o6,rfl,rfl,B6,λe o7 B7 he sC=>?_⟩;symm;refine qai B7 (by decide) (by decide) λd4 o8 nu ny B8=>?_;walk_at "vs";refine Vs (λb8 M'=>∃o L x8 eA dD dN ge gf room s h kp,BagO o/\M'=o::L/\Fl bits ms room tk great/\room<=400/\StA C M' s h kp (flM bits ms room tk great 8)/\0∉[s,h,kp]/\b8=[none,some (.m 0),some (.p (layT bits ms)),some (.m 1),some (.p (.lst (tk.map λn:Nat=>T.int n))),some (.p (.int great)),some (.p (.lst (vL tk great 8))),some (.p (.int bi)),x8,some (.p e.t),eA,some (.m s),dD,dN,ge,gf]) (λnx fb=>?_) (λb8 M' hI=>?_)
  ·symm
   refine ite2 (λ_=>?_) λ_=>?_
   ·refine⟨bits,ms,bi,tk,great,rfl,Yq W od hg (by lia) (by lia),hg.1.mono (by decide),λM2 s2 h2 iz f2 ls lh lk S2=>?_⟩
    obtain⟨L2,rfl⟩:=Qz f2 (λz=>nomatch z);exact fb _ _ ⟨_,_,_,_,_,_,_,_,bi,s2,h2,iz,B8,rfl,Yq W od hg (by lia) (by lia),by lia,S2,hd0 ls lh lk,rfl⟩
   ·refine⟨bits,ms,400,tk,great,rfl,Yq W od hg (by lia) (by decide),hg.1.mono (by decide),λM2 s2 h2 iz f2 ls lh lk S2=>?_⟩
    obtain⟨L2,rfl⟩:=Qz f2 (λz=>nomatch z);exact fb _ _ ⟨_,_,_,_,_,_,_,_,400,s2,h2,iz,B8,rfl,Yq W od hg (by lia) (by decide),by lia,S2,hd0 ls lh lk,rfl⟩
  obtain⟨o9,L9,x8,eA,dD,dN,ge,gf,room,s9,h9,nO,B9,rfl,F9,r4,S9,z9,rfl⟩:=hI;symm;have h4:(flM bits ms room tk great 8).os.length<=400:=Mc.os_le S9.O;refine JE TP S9 ?_;refine Vs (λb8 M'=>∃o L h kp B iA,BagO o/\M'=o::L/\StA C M' s9 h kp B/\(dueT (vL tk great 8) e ≠ .non/\iA=dueT (vL tk great 8) e/\B=flM bits ms room tk great 8\/dueT (vL tk great 8) e=.non/\(iA=.tup [.str "",.non]\/iA=.tup [.str "NoRoom",.non]/\B={ flM bits ms room tk great 8 with sw:=1 }))/\b8=[none,some (.m 0),some (.p (layT bits ms)),some (.m 1),some (.p (.lst (tk.map λn:Nat=>T.int n))),some (.p (.int great)),some (.p (.lst (vL tk great 8))),some (.p (.int bi)),x8,some (.p e.t),eA,some (.m s9),some (.p (flM bits ms room tk great 8).five),some (.p iA),ge,gf]) (λnx fb=>?_) (λb8 M' hI=>?_)
  ·symm
   refine⟨s9,h9,nO,bits,ms,room,tk,great,e,rfl,F9,hg.1,S9,he,λhd=>fb _ _ ⟨_,_,h9,nO,_,_,B9,rfl,S9,.inl ⟨hd,rfl,rfl⟩,rfl⟩,λhd=>⟨λB hf M' h' aW f a b S'=>?_,λM' h' aW f a b S'=>?_⟩⟩
   ·obtain⟨L',rfl⟩:=Qz f z9
    exact fb _ _ ⟨_,_,h',aW,_,_,B9,rfl,S',.inr ⟨hd,.inl rfl⟩,rfl⟩
   ·obtain⟨L',rfl⟩:=Qz f z9
    exact fb _ _ ⟨_,_,h',aW,_,_,B9,rfl,S',.inr ⟨hd,.inr ⟨rfl,rfl⟩⟩,rfl⟩
  obtain⟨nB,L10,nN,kp10,B,iA,gB,rfl,mI,eJ,rfl⟩:=hI;symm;refine⟨_,e,rfl,xq _,q8F od,he,sC,?_⟩;symm;refine JE TP mI ?_;rcases eJ with⟨hd,rfl,rfl⟩|⟨hd,eJ⟩
  ·obtain⟨a,x,ed,sd⟩:=q4U hd
   rw[ed];symm;refine⟨_,rfl,sd,?_⟩;symm;refine⟨_,rfl,Mc.five_show mI.O h4 rfl rfl (.inl rfl),?_⟩;symm;exact⟨_,_,_,_,_,_,_,_,_,_,gB,rfl,rfl⟩
  rw[hd];rcases eJ with rfl|⟨rfl,rfl⟩
  ·symm
   refine ve (by decide) ?_;symm;refine in2t (.inl rfl) ?_;symm;exact⟨_,_,_,_,_,_,_,_,_,_,gB,rfl,rfl⟩
  ·symm
   refine⟨_,rfl,?_⟩;symm;refine⟨by rw[Ul];show 4+1<=_;decide,Mc.five _,rfl,Mc.five_show mI.O h4 rfl rfl (.inr rfl),?_⟩;symm;refine in2t (.inr rfl) ?_;symm;exact⟨_,_,_,_,_,_,_,_,_,_,gB,rfl,rfl⟩
 ·obtain⟨o6,L6,x8,x9,eA,g5,dD,dN,ge,gf,B6,rfl,rfl⟩:=h
  symm;have F6:Fl bits ms bi tk great:=Yq W od hg (by lia) (by lia);refine⟨bits,ms,bi,tk,great,rfl,F6,hg.1.mono (by decide),λM2 s2 h2 iz f2 ls lh lk S2=>?_⟩;obtain⟨L2,rfl⟩:=Qz f2 (λz=>nomatch z);symm;refine q2j S2 ?_;symm;refine qB (atT (od.at (k:=0) (by decide)).1) ?_;symm;refine qB (atT (od.at (k:=6) (by decide)).1) ?_;symm;refine qB (atT (od.at (k:=7) (by decide)).1) ?_;symm;refine⟨s2,h2,iz,bits,ms,bi,tk,great,.pr (tk.getD 0 0) (tk.getD 6 0) (tk.getD 7 0),rfl,F6,hg.1,S2,⟨(od.at (by decide)).2,(od.at (by decide)).2,(od.at (by decide)).2⟩,λhd=>absurd rfl hd,λ_=>⟨λB hf=>?_,λM' h' aW f a b S'=>?_⟩⟩
  ·have hm:(flM bits ms bi tk great 8).most<=bi:=by
    show min3 bi _ _<=bi;unfold min3;lia
   have ho:=os8 (bits:=bits) (ms:=ms) (room:=bi) (order:=tk) (great:=great);have lk:(flM bits ms bi tk great 8).most<(flM bits ms bi tk great 8).os.length+(3:Nat):=by lia
   have hf:(((flM bits ms bi tk great 8).mk' 3).os.length:Int)+(3:Nat)<=(flM bits ms bi tk great 8).most:=hf;unfold Mc.mk' at hf;rw[Uj lk,Mc.swp_all (q6b od)]at hf;exact absurd lk (BW.mpr hf)
  obtain⟨L',rfl⟩:=Qz f (hd0 ls lh lk);symm;refine JE TP S' ?_;symm;refine qag (λx hx=>?_) ?_
  ·simp only[Dr,DW,UU]at hx
   rcases hx with rfl|rfl<;>trivial
  symm;exact⟨Mc.five _,rfl,Mc.five_show S'.O (Mc.os_le S'.O) rfl rfl (.inr rfl),rfl⟩
--@XI
abbrev X6:Stmt:=qj (top 2) 0
theorem q1T:q00 ["self","part"] ["self","part"] (qc X6):=by ac_rfl
theorem q1J(F:Fun Ξ "__init__" "WrongKind.__init__" X6 f fd)(ck:ExcK Ξ C f)(na:NoAttr Ξ C "part")(ib:q4O Ξ mg "WordError" B):FnOk P w Ξ mg base CX0 1 f fd ["self","part"] (spI C):=by
 refine F.okQ q1T (λvs H Q E h=>?_) (λa9 A outer s H vs Q E hr h=>?_)
 ·obtain⟨_,_,rfl,_⟩:=h
  rfl
 refine⟨_,(qb (q0s ck ib (qa_c (qv 0) (qa_c (q6Q (by decide) (by decide) (qv 1)) v7)))
  (qd (q45 ck na (qv 0) (qv 1)))),?_⟩
 obtain⟨a,n,rfl,hn,ha,q⟩:=h;refine⟨.ref a,rfl,.int n,rfl,n,rfl,hn.1,hn.2.1,a,none,_,rfl,ha,by show 1<=1000;decide,?_⟩;refine⟨.int n,rfl,.ref a,rfl,a,rfl,ha,λd hd=>q d hd⟩
end
end Mw
local macro_rules|`(tactic|walk_at "fk")=>`(tactic|(refine' L2.fun_mk ?l ?c ?k; (case l=>k_is); (case c=>k_is); (case k=>k_is)))
local macro_rules|`(tactic|walk_at "fg")=>`(tactic|(refine' ⟨?n,?m⟩; (case n=>show _=_; k_is); (case m=>walk_at "fk")))
local macro_rules|`(tactic|walk_at "mg")=>`(tactic|(refine' ⟨?u,?n,?m⟩; (case u=>k_is); (case n=>k_is); (case m=>walk_at "fk")))
namespace Mw
open PySem L2
structure FG(K:PySem.W.Frag)(x:Str)(s:Stmt)(f:Addr)(d:FuncData):Prop where
 a:W.nsIn K mainGlobals x=some (some (.ref f))
 F:Fun K x x s f d
structure MG(K:PySem.W.Frag)(C:Addr)(x q:Str)(s:Stmt)(f:Addr)(d:FuncData):Prop where
 a:W.findIn K (.ref C) x=some (some (.ref f))
 n:W.isFn K (.ref f)=true
 F:Fun K x q s f d
structure GB(P:Program)(w:World)(K:PySem.W.Frag)(mg:Str->Option Value)(base h:Heap):Prop where
 X:K.In h
 G:h.Ns mainGlobals mg
theorem mk1{P:Program}{w:World}{K:PySem.W.Frag}{h base:Heap}{mg:Str->Option Value}{x:Str}{st:Stmt}{f:Addr}{d:FuncData}{k:Nat}{ps:List Str}{sp:Sp}(B:GB P w K mg base h)(A:FG K x st f d)(F:FnOk P w K mg base CX0 k f d ps sp)(b:∀(kV bZ pm:Value)(an:Option Addr)(a9 ct:Value)(us:List Value),us.length=ps.length->bindArgs (W.fnOf x x (zK st) (va st) (qc st) .none kV bZ pm an a9 ct) ⟨us, []⟩=pure (ps.zip us)):Def P w K mg base x k ps sp:=⟨f,_,By B.X B.G A.a,A.F.kp,A.F.binds b,F⟩
theorem mk1X{P:Program}{w:World}{K:PySem.W.Frag}{h base:Heap}{mg:Str->Option Value}{x:Str}{st:Stmt}{f:Addr}{d:FuncData}{k:Nat}{ps:List Str}{sp:Sp}(B:GB P w K mg base h)(A:FG K x st f d)(F:FnOk P w K mg base (CXe P w) k f d ps sp)(b:∀(kV bZ pm:Value)(an:Option Addr)(a9 ct:Value)(us:List Value),us.length=ps.length->bindArgs (W.fnOf x x (zK st) (va st) (qc st) .none kV bZ pm an a9 ct) ⟨us, []⟩=pure (ps.zip us)):DefX P w K mg base x k ps sp:=⟨f,_,By B.X B.G A.a,A.F.kp,A.F.binds b,F⟩
theorem mk2{C:Addr}{q:Str}{P:Program}{w:World}{K:PySem.W.Frag}{h base:Heap}{mg:Str->Option Value}{x:Str}{st:Stmt}{f:Addr}{d:FuncData}{k:Nat}{ps:List Str}{sp:Sp}(B:GB P w K mg base h)(A:MG K C x q st f d)(F:FnOk P w K mg base CX0 k f d ps sp)(b:∀(kV bZ pm:Value)(an:Option Addr)(a9 ct:Value)(us:List Value),us.length=ps.length->bindArgs (W.fnOf x q (zK st) (va st) (qc st) .none kV bZ pm an a9 ct) ⟨us, []⟩=pure (ps.zip us)):MDef P w K mg base C x k ps sp:=⟨f,_,⟨A.a,A.n,A.F.kp⟩,A.F.binds b,F⟩
theorem mk2X{C:Addr}{q:Str}{P:Program}{w:World}{K:PySem.W.Frag}{h base:Heap}{mg:Str->Option Value}{x:Str}{st:Stmt}{f:Addr}{d:FuncData}{k:Nat}{ps:List Str}{sp:Sp}(B:GB P w K mg base h)(A:MG K C x q st f d)(F:FnOk P w K mg base (CXe P w) k f d ps sp)(b:∀(kV bZ pm:Value)(an:Option Addr)(a9 ct:Value)(us:List Value),us.length=ps.length->bindArgs (W.fnOf x q (zK st) (va st) (qc st) .none kV bZ pm an a9 ct) ⟨us, []⟩=pure (ps.zip us)):q02 P w K mg base C x k ps sp:=⟨f,_,⟨A.a,A.n,A.F.kp⟩,A.F.binds b,F⟩
theorem ln1{α:Type}:∀{l:List α},l.length=1->∃a,l=[a]
 | [a],_=>⟨a,rfl⟩
theorem ln2{α:Type}:∀{l:List α},l.length=2->∃a b,l=[a,b]
 | [a,b],_=>⟨a,b,rfl⟩
theorem ln3{α:Type}:∀{l:List α},l.length=3->∃a b c,l=[a,b,c]
 | [a,b,c],_=>⟨a,b,c,rfl⟩
theorem ln4{α:Type}:∀{l:List α},l.length=4->∃a b c d,l=[a,b,c,d]
 | [a,b,c,d],_=>⟨a,b,c,d,rfl⟩
theorem ln5{α:Type}:∀{l:List α},l.length=5->∃a b c d e,l=[a,b,c,d,e]
 | [a,b,c,d,e],_=>⟨a,b,c,d,e,rfl⟩
set_option hygiene false
local macro_rules|`(tactic|walk_at "bn")=>`(tactic|(intro _ _ _ _ _ _ _ h; first|(obtain⟨_,rfl⟩:=ln1 h; rfl)|(obtain⟨_,_,rfl⟩:=ln2 h; rfl)|(obtain⟨_,_,_,rfl⟩:=ln3 h; rfl)|(obtain⟨_,_,_,_,rfl⟩:=ln4 h; rfl)|(obtain⟨_,_,_,_,_,rfl⟩:=ln5 h; rfl)))
abbrev Ue(K:PySem.W.Frag)(x:Str)(v:Value):=W.nsIn K mainGlobals x=some (some v)
abbrev Uf(K:PySem.W.Frag)(x:Str):=W.nsIn K mainGlobals x=some none
theorem all_mk{l:PySem.W.OpenLaw}{w:World}{K:PySem.W.Frag}{h:Heap}{mg:Str->Option Value}(X:K.In h)(G:h.Ns mainGlobals mg)(sD:mg "law" = some (.ref fa))(ca1:Ue K "Store" (.ref C1))(cb1:W.plainGet K C1 Str.empty=true)(cc1:W.hasDictIn K C1=true)(cd1:W.plainOver K C1=true)(ce1:W.findIn K (.ref C1) "__setattr__" = some (some (.builtin "object.__setattr__")))(cf1:W.makesIn K C1=true)(cg1:W.keepIn K (.ref C1)=true)(ch1_1:W.findIn K (.ref C1) "laying" = some none)(ch1_2:W.findIn K (.ref C1) "room" = some none)(ch1_3:W.findIn K (.ref C1) "held" = some none)(ch1_4:W.findIn K (.ref C1) "kept" = some none)(ch1_5:W.findIn K (.ref C1) "quick" = some none)(ch1_6:W.findIn K (.ref C1) "slow" = some none)(ch1_7:W.findIn K (.ref C1) "sweeps" = some none)(xaNought:Ue K "Nought" (.ref CENought))(xaNoRoom:Ue K "NoRoom" (.ref CENoRoom))(xaFaulty:Ue K "Faulty" (.ref CEFaulty))(xaNoText:Ue K "NoText" (.ref CENoText))(xaNotFormed:Ue K "NotFormed" (.ref CENotFormed))(xoNought:W.excIn K CENought [.type "ValueError",.type "Exception",.type "BaseException",.type "object"] "ValueError.__new__" = true)(xoNoRoom:W.excIn K CENoRoom [.type "ValueError",.type "Exception",.type "BaseException",.type "object"] "ValueError.__new__" = true)(xaWk:Ue K "WrongKind" (.ref CEWk))(xaWordError:Ue K "WordError" (.ref CEWordError))(EWk_WordError:W.exmOne K (.ref CEWk) (.ref CEWordError)=some true)(ENought_WordError:W.exmOne K (.ref CENought) (.ref CEWordError)=some true)(ENoRoom_WordError:W.exmOne K (.ref CENoRoom) (.ref CEWordError)=some true)(A1:FG K "_law_bag" sBag f1 d1)(A2:FG K "_law_draw" q1X f2 d2)(A3:FG K "_law_full_laying" xX f3 d3)(A4:FG K "_law_laying" Jc f4 d4)(A5:FG K "mark_for" VH f5 d5)(A6:FG K "load_bits" k8 f6 d6)(A7:FG K "kinds_on" VI f7 d7)(A8:FG K "mark_of" Ja f8 d8)(A9:FG K "load_of" Jb f9 d9)(A10:FG K "marked" X9 f10 so)(A11:FG K "small_of" VG f11 sr)(A12:FG K "worth_of" VF f12 d12)(A13:FG K "word_of" X5 f13 d13)(A14:FG K "is_small" VJ f14 d14)(A15:FG K "size_at" X7 f15 d15)(A16:FG K "number_at" kZ f16 d16)(A17:FG K "heads_in" VM f17 d17)(A18:FG K "address_of" jO f18 d18)(A19:FG K "most_outside" xj f19 d19)(A20:FG K "pair_words_at" xg f20 nr)(A21:FG K "reached_from" xf f21 md)(A22:FG K "new_places" jL f22 d22)(A23:FG K "moved_word" jM f23 d23)(A24:FG K "moved_thing" xW f24 d24)(A25:FG K "swept" Wc f25 d25)(A26:MG K C1 "sweep" "Store.sweep" xS f26 d26)(A27:MG K C1 "lacks" "Store.lacks" xT f27 d27)(A28:MG K C1 "make_room" "Store.make_room" zf f28 d28)(A29:FG K "limb_count" jN f29 d29)(A30:FG K "is_great" VL f30 sA)(A31:FG K "rows_of" X8 f31 sB)(A32:MG K C1 "lay" "Store.lay" kY f32 d32)(A33:MG K C1 "number" "Store.number" vS f33 d33)(A34:MG K C1 "words" "Store.words" xQ f34 d34)(A35:MG K C1 "outside" "Store.outside" zD f35 d35)(A36:MG K C1 "in_word" "Store.in_word" xc f36 d36)(A37:MG K C1 "kind" "Store.kind" jG f37 d37)(A38:FG K "read_worth" jJ f38 d38)(A39:MG K C1 "told" "Store.told" jA f39 d39)(a40:W.findIn K (.ref CEWk) "__init__" = some (some (.ref f40)))(F40:Fun K "__init__" "WrongKind.__init__" X6 f40 nu)(A41:FG K "need_numbers" xh f41 ny)(A42:FG K "need_divisor" xi f42 d42)(A43:MG K C1 "come_of_two" "Store.come_of_two" v3 f43 d43)(A44:MG K C1 "plus" "Store.plus" jD f44 d44)(A45:MG K C1 "less" "Store.less" jF f45 d45)(A46:MG K C1 "times" "Store.times" xR f46 d46)(A47:MG K C1 "over" "Store.over" jE f47 d47)(A48:MG K C1 "rest" "Store.rest" jC f48 d48)(A49:MG K C1 "below" "Store.below" xV f49 d49)(A50:FG K "own_laying" jK f50 rm)(A51:MG K C1 "__init__" "Store.__init__" jH f51 rn)(A52:MG K C1 "sign" "Store.sign" jB f52 d52)(A53:MG K C1 "one" "Store.one" kX f53 d53)(A54:MG K C1 "copy" "Store.copy" jI f54 d54)(A55:FG K "need_pair" k7 f55 d55)(A56:MG K C1 "pair_in" "Store.pair_in" xb f56 d56)(A57:MG K C1 "pair" "Store.pair" zk f57 d57)(A58:MG K C1 "first" "Store.first" xU f58 d58)(A59:MG K C1 "second" "Store.second" xa f59 d59)(A60:MG K C1 "set_first" "Store.set_first" ze f60 d60)(A61:MG K C1 "set_second" "Store.set_second" vZ f61 d61)(A62:FG K "_law_needy" We f62 d62)(A63:FG K "_law_held" q4i f63 d63)(A64:FG K "_law_due" sDue f64 d64)(A65:MG K C1 "number" "Store.number" vS f65 d65)(A66:MG K C1 "pair" "Store.pair" zk f66 d66)(A67:FG K "_law_filled" Je f67 d67)(A68:MG K C1 "same" "Store.same" KZ f68 d68)(A69:FG K "_law_deed_done" Qa f69 d69)(A70:FG K "_law_wide" q3z f70 d70)(A71:FG K "_law_word" q4q f71 d71)(A72:FG K "_law_tried" Wb f72 d72)(A73:FG K "_law_alike" Wg f73 d73)(A74:FG K "law" sLaw f74 d74)(CWk:ExcK K CEWk f40)(xk8Wk:W.findIn K (.ref CEWk) "part" = some none)(xb1WordError:W.specialIn K (.ref CEWordError) "__getattribute__" = some (some (.builtin "type.__getattribute__")))(xb2WordError:W.readsIn K CEWordError (.type "type")=true)(xb3WordError:W.findCls K (.ref CEWordError) (.type "type") "__init__" = some (.val (.builtin "ValueError.__init__")))(WWk:WdX K CEWk CEWk CENought CENoRoom CEFaulty CENoText CENotFormed 0)(WNought:WdX K CENought CEWk CENought CENoRoom CEFaulty CENoText CENotFormed 1)(WNoRoom:WdX K CENoRoom CEWk CENought CENoRoom CEFaulty CENoText CENotFormed 2)(ynNRepr:Uf K "repr")(ynNVE:Uf K "ValueError")(y1:Uf K "reversed")(z1:Uf K "abs")(z2:Uf K "len")(z3:Uf K "min")(z4:Uf K "max")(z5:Uf K "sum")(z6:Uf K "sorted")(z7:Uf K "all")(z8:Uf K "any")(z9:Uf K "isinstance")(z10:Uf K "range")(z11:Uf K "int")(z12:Uf K "list")(z13:Uf K "str")(z14:Uf K "bool")(z15:Uf K "tuple")(z16:Uf K "zip")(z17:Uf K "enumerate")(z18:Uf K "dict")(p1:Ue K "THREE" (.ref ft1))(q1:K.lookup ft1=some ⟨.type "tuple", none,.seq #[.str "none" tk1_0,.str "no" tk1_1,.str "yes" tk1_2] tn1,tsl1⟩)(g1:W.nsIn K mainGlobals "SIGNS" = some (some (.int 128 gk1)))(g2:W.nsIn K mainGlobals "REGISTERS" = some (some (.int 8 gk2)))(g3:W.nsIn K mainGlobals "PAIR_HEAD" = some (some (.int 1 gk3)))(g4:W.nsIn K mainGlobals "PAIR_SIZE" = some (some (.int 3 gk4)))(kg1:Ue K "KINDS_BY_MARK" (.ref fd_1))(kl1:K.lookup fd_1=some ⟨.type "dict", none,.dict (([("small", ka1_0,.str "number" kb1_0),("far", ka1_1,.str "number" kb1_1),("pair", ka1_2,.str "pair" kb1_2),("sign", ka1_3,.str "sign" kb1_3),("one", ka1_4,.str "one" kb1_4)]:List (Str×Tok×Value)).map (entD w.params)).toArray ke1, #[]⟩):
  ∃fd:FuncData,(∀(s:Shared)(v:Value),BindsTo s fd ⟨[v], []⟩ [("script", v)])/\∀base:Heap,K.In base->base.Ns mainGlobals mg->FnOk l.prog w K mg base CX0 14 fa fd ["script"] (Y1 K):=by
 have e:=sD.symm.trans (By X G A74.a);cases e;have mo:=λ{x:Str}{v:Value} (a:W.nsIn K mainGlobals x=some (some v))=>By X G a;have mn:=λ{x:Str} (a:W.nsIn K mainGlobals x=some none)=>W.mg_none_of X G a;have N:Nms mg:=⟨mn z1,mn z2,mn z3,mn z4,mn z5,mn z6,mn z7,mn z8,mn z9,mn z10,mn z11,mn z12,mn z13,mn z14,mn z15,mn z16,mn z17,mn z18⟩;have T3:Tup3 K mg "THREE" ft1 "none" "no" "yes" := ⟨mo p1,_,_,_,_,_,q1⟩;have N2:Nms2 mg:=⟨mn y1⟩;have dk:GInt mg "SIGNS" 128:=⟨_,mo g1⟩;have g9:GInt mg "REGISTERS" 8:=⟨_,mo g2⟩;have aV:GInt mg "PAIR_HEAD" 1:=⟨_,mo g3⟩;have bU:GInt mg "PAIR_SIZE" 3:=⟨_,mo g4⟩;have dn:KDi K w mg "KINDS_BY_MARK" fd_1 GG:=⟨mo kg1,_,_,kl1,by show(["small","far","pair","sign","one"]:List Str).Nodup;decide+kernel,.cons ⟨rfl,_,rfl⟩ (.cons ⟨rfl,_,rfl⟩ (.cons ⟨rfl,_,rfl⟩ (.cons ⟨rfl,_,rfl⟩ (.cons ⟨rfl,_,rfl⟩ (.nil)))))⟩;have a4:Cls K C1:=⟨cb1,cc1,cd1,ce1⟩;have aq:q01 K C1:=⟨a4,ch1_1,ch1_2,ch1_3,ch1_4,ch1_5,ch1_6,ch1_7⟩;have cG:ExcC K mg "Nought" CENought:=⟨mo xaNought,xoNought⟩;have aX:ExcC K mg "NoRoom" CENoRoom:=⟨mo xaNoRoom,xoNoRoom⟩;have bV:=mo xaFaulty;have bW:=mo xaNoText;have b3:=mo xaNotFormed;have iT:NoAttr K CEWk "part" := xk8Wk;have eB:=mo xaWk;have dw:q4O K mg "WordError" CEWordError:=⟨mo xaWordError,xb1WordError,xb2WordError,xb3WordError⟩;have b6:=mo xaNought;have b7:=mo xaNoRoom;have dE:=mn ynNRepr;have iw:=mn ynNVE;have b4:=mo xaWordError;have sE:=F40.binds (ps:=["self","part"]) λ_ _ _ _ _ _ _ h=>by obtain⟨_,_,rfl⟩:=ln2 h;rfl
 have sF:=A51.F.binds (ps:=["self","laying","room"]) λ_ _ _ _ _ _ _ h=>by obtain⟨_,_,_,rfl⟩:=ln3 h;rfl
 have sG:=A68.F.binds (ps:=["self","q","p"]) λ_ _ _ _ _ _ _ h=>by obtain⟨_,_,_,rfl⟩:=ln3 h;rfl
 have mJ:=A71.F.binds (ps:=["e"]) λ_ _ _ _ _ _ _ h=>by obtain⟨_,rfl⟩:=ln1 h;rfl
 refine⟨d74,λs v=>?_,λbase _ _=>?_⟩
 ·obtain⟨_,_,_,_,_,_,_,_,_,rfl,_⟩:=A74.F.ex
  exact .of_eq rfl
 have B:GB l.prog w K mg base h:=⟨X,G⟩;have gb:=mk1 B A1 (q6W A1.F N) (by ac_nf);have ap:=mk1 B A2 (q0E A2.F N) (by ac_nf);have bn:=mk1 B A3 (q1L A3.F N ap) (by ac_nf);have cH:=mk1 B A4 (K5 A4.F N ap bn) (by ac_nf);have aM:=mk1 B A5 (ZZ A5.F) (by ac_nf);have ao:=mk1 B A6 (VZ A6.F aM) (by ac_nf);have cp:=mk1 B A7 (Z0 A7.F) (by ac_nf);have ar:=mk1 B A8 (Jo A8.F cp) (by ac_nf);have bw:=mk1 B A9 (Jp A9.F aM) (by ac_nf);have bT:=mk1 B A10 (K4 A10.F aM) (by ac_nf);have cq:=mk1 B A11 (ZY A11.F) (by ac_nf);have cu:=mk1 B A12 (ZW A12.F N T3 dk ar bw cq ao) (by ac_nf);have am:=mk1 B A13 (Jn A13.F N T3 bT ao) (by ac_nf);have bb:=mk1 B A14 (Z1 A14.F ao) (by ac_nf);have aJ:=mk1 B A15 (q0B A15.F aV bU) (by ac_nf);have c9:=mk1 B A16 (q3Z A16.F N2 aJ) (by ac_nf);have cr:=mk1 B A17 (q0G A17.F N aJ) (by ac_nf);have az:=mk1 B A18 (q4Y A18.F ar bw) (by ac_nf);have bf:=mk1 B A19 (q4A A19.F N ao) (by ac_nf);have aG:=mk1 B A20 (q0d A20.F aV) (by ac_nf);have bd:=mk1 B A21 (q1G A21.F N az aG) (by ac_nf);have bE:=mk1 B A22 (q1w A22.F cr aJ) (by ac_nf);have aO:=mk1 B A23 (Gc A23.F az ar am) (by ac_nf);have bo:=mk1 B A24 (Gd A24.F aV aG aO aJ) (by ac_nf);have dm:=mk1 B A25 (q1f A25.F bd bE bo aO) (by ac_nf);have bp:=mk2 B A26 (q21 A26.F aq dm) (by ac_nf);have b5:=mk2 B A27 (q1g A27.F N aq bf) (by ac_nf);have ae:=mk2X B A28 (q0q A28.F a4 aX b5 bp) (by ac_nf);have aP:=mk1 B A29 (Q4 A29.F N) (by ac_nf);have bc:=mk1 B A30 (Z2 A30.F aP) (by ac_nf);have bx:=mk1 B A31 (q1t A31.F N aP) (by ac_nf);have au:=mk2 B A32 (q3v A32.F N aq am) (by ac_nf);have aH:=mk2X B A33 (Gb A33.F N aq a4 aX bb am bc bx ae au) (by ac_nf);have aL:=mk2 B A34 (W6 A34.F N aq) (by ac_nf);have aw:=mk2 B A35 (q4S A35.F N aq) (by ac_nf);have aN:=mk2 B A36 (q5y A36.F aq ar) (by ac_nf);have ak:=mk2 B A37 (q1P A37.F N aq dn ar) (by ac_nf);have bF:=mk1 B A38 (q1n A38.F N cu ar c9) (by ac_nf);have a5:=mk2 B A39 (q17 A39.F N aq a4 ak bF) (by ac_nf);have g8:ExcD l.prog w K mg base "WrongKind" CEWk 1:=⟨mo xaWk,f40,_,CWk,sE,q1J F40 CWk iT dw⟩;have aa:=mk1X B A41 (q0l A41.F a4 g8 ak) (by ac_nf);have aI:=mk1X B A42 (q11 A42.F a4 cG aa a5) (by ac_nf);have a7:=mk2X B A43 (q5G A43.F aq a4 aN aH) (by ac_nf);have bJ:=mk2X B A44 (q1B A44.F a4 aa a5 a7) (by ac_nf);have bK:=mk2X B A45 (q25 A45.F a4 aa a5 a7) (by ac_nf);have bq:=mk2X B A46 (W7 A46.F a4 aa a5 a7) (by ac_nf);have bL:=mk2X B A47 (q0O A47.F a4 aI a5 a7) (by ac_nf);have bM:=mk2X B A48 (q0v A48.F a4 aI a5 a7) (by ac_nf);have bt:=mk2X B A49 (W9 A49.F a4 aa a5) (by ac_nf);have bG:=mk1 B A50 (Q3 A50.F N) (by ac_nf);have dq:q5z l.prog w K mg base C1 "Store" 4 ["self","laying","room"] (spU (GX C1)):=⟨f51,_,⟨cf1,A51.a,A51.n,cg1⟩,mo ca1,sF,q1E A51.F aq g9 bG am⟩;have aQ:=mk2 B A52 (q0k A52.F aq am) (by ac_nf);have aY:=mk2 B A53 (q44 A53.F aq am) (by ac_nf);have bI:=mk2 B A54 (q0U A54.F aq) (by ac_nf);have cb:=mk1X B A55 (q0P A55.F a4 g8 ak) (by ac_nf);have ah:=mk2X B A56 (Ga A56.F aq cb az) (by ac_nf);have bN:=mk2X B A57 (Ke A57.F aq a4 aV bU ae au) (by ac_nf);have br:=mk2X B A58 (W8 A58.F aq a4 ah) (by ac_nf);have bh:=mk2X B A59 (K3 A59.F aq a4 ah) (by ac_nf);have aZ:=mk2X B A60 (q1S A60.F aq a4 ah) (by ac_nf);have aU:=mk2X B A61 (q08 A61.F aq a4 ah) (by ac_nf);have dv:=mk1 B A62 (q0u A62.F ap) (by ac_nf);have eI:=mk1 B A63 (q5X A63.F N) (by ac_nf);have gc:=mk1 B A64 (q8v A64.F N) (by ac_nf);have bg:=mk2 B A65 (q5O A65.F N aq a4 aX bb am bc bx ae au) (by ac_nf);have bH:=mk2 B A66 (q1z A66.F aq a4 aV bU ae au) (by ac_nf);have bX:=mk1 B A67 (Ge A67.F N a4 dq bg bH aQ aY) (by ac_nf);have bO:MDef l.prog w K mg base C1 "same" 6 ["self","q","p"] (spU gNo):=⟨f68,_,⟨A68.a,A68.n,A68.F.kp⟩,sG,FnOk.no⟩;have cc:=mk1X B A69 (q19 A69.F a4 aH aQ aY bI bJ bK bq bL bM bN br bh aZ aU bt bO ak a5) (by ac_nf);have eG:=mk1 B A70 (q49 A70.F N cH) (by ac_nf);have mH:=WWk.t;have dt:W.kitOne K (.ref CEWk) (.ref CEWk)=some true:=WWk.x0;have cL:DefE l.prog w K mg "_law_word" 1 ["e"] CEWk λa d=>spU (Qr 0 a d):=⟨f71,_,mo A71.a,A71.F.kp,mJ,λbase a d oe ob hb=>VY (i:=0) A71.F (by decide) N iw eB b6 b7 bV bW b3 WWk ob hb⟩;have cJ:=WNought.t;have bP:W.kitOne K (.ref CENought) (.ref CEWk)=some false:=WNought.x0;have bu:DefE l.prog w K mg "_law_word" 1 ["e"] CENought λa d=>spU (Qr 1 a d):=⟨f71,_,mo A71.a,A71.F.kp,mJ,λbase a d oe ob hb=>VY (i:=1) A71.F (by decide) N iw eB b6 b7 bV bW b3 WNought ob hb⟩;have cK:=WNoRoom.t;have bQ:W.kitOne K (.ref CENoRoom) (.ref CEWk)=some false:=WNoRoom.x0;have bv:DefE l.prog w K mg "_law_word" 1 ["e"] CENoRoom λa d=>spU (Qr 2 a d):=⟨f71,_,mo A71.a,A71.F.kp,mJ,λbase a d oe ob hb=>VY (i:=2) A71.F (by decide) N iw eB b6 b7 bV bW b3 WNoRoom ob hb⟩;have cM:=mk1 B A72 (W5 A72.F N CWk iT mH cJ cK b4 eB b6 b7 EWk_WordError ENought_WordError ENoRoom_WordError dt bP bQ cL bu bv cc) (by ac_nf);have ce:=mk1 B A73 (Gf A73.F dE) (by ac_nf);exact q5C A74.F N aq a4 gb ap eG eI bX dv cM gc ce aL aw
theorem walk{l:PySem.W.OpenLaw}{q:Program}{loose:List Str}{XP:(Str->Option Value)->Heap->Prop}{YP:World->Heap->Prop}{d:DefRec}{K:Params->PySem.W.Frag}(hn:l.most=some 63)(gM:d.params.defaults=[])(hY:∀(w:World)(h:Heap),YP w h->(K w.params).In h)(F:∀(w:World)(mg:Str->Option Value)(fa:Addr)(h:Heap),(K w.params).In h->h.Ns mainGlobals mg->mg d.name=some (.ref fa) ->
   ∃fd:FuncData,(∀(s:Shared)(u:Value),BindsTo s fd ⟨[u], []⟩ [("script", u)])/\∀base:Heap,(K w.params).In base->base.Ns mainGlobals mg->FnOk l.prog w (K w.params) mg base CX0 14 fa fd ["script"] (Y1 (K w.params))):
  PySem.W.WalkO q loose XP YP l.row.toRowW d [] (λf vs=>PySem.call f vs):=
 L2.walk_of (n:=63) (k:=14) (x := "script") (CX:=λ_=>CX0) (sp:=λw=>Y1 (K w.params)) hn (by decide) gM ⟨rfl,by decide,by decide,rfl⟩ hY F (λ_ _ a ns hl _ hS=>⟨a,ns,rfl,hS,hl,λ_=>rfl⟩) λ_ _ _ _ _ z=>z
end Mw
open PySem PySem.W PyProof.Rows
set_option maxRecDepth 100000 in
set_option maxHeartbeats 0 in
theorem PySem.Challenge.cw_markwords_k37_refused_by_a_store_holds : PySem.Challenge.rw_markwords_k37_refused_by_a_store.Holds := by
 w_on; o_law
 refine Hd.close (q:=Mx.vw) (loose:=Mx.ls) (lv:=Mx.lv) (H:=kHook Mx.K Mx.KA Mx.K_as) (N:=8702) Mx.hLf9 (by rfl) (by rfl) (by rfl) (by rfl) (by assumption) (by decide +kernel) ⟨rfl,rfl,rfl,rfl,rfl,by decide +kernel⟩ ?hw ?hc
 case hw=>w_witness2
 k_fill
 refine Mw.walk (l:=PySem.Challenge.rw_markwords_k37_refused_by_a_store) rfl rfl (fun w h Y=>PySem.W.kIn_of Y) ?F
 case F =>
  intro w mg fa h KX G hmg
  refine' Mw.all_mk KX G hmg ?ca1 ?cb1 ?cc1 ?cd1 ?ce1 ?cf1 ?cg1 ?ch1_1 ?ch1_2 ?ch1_3 ?ch1_4 ?ch1_5 ?ch1_6 ?ch1_7 ?xaNought ?xaNoRoom ?xaFaulty ?xaNoText ?xaNotFormed ?xoNought ?xoNoRoom ?xaWk ?xaWordError ?EWk_WordError ?ENought_WordError ?ENoRoom_WordError ?A1 ?A2 ?A3 ?A4 ?A5 ?A6 ?A7 ?A8 ?A9 ?A10 ?A11 ?A12 ?A13 ?A14 ?A15 ?A16 ?A17 ?A18 ?A19 ?A20 ?A21 ?A22 ?A23 ?A24 ?A25 ?A26 ?A27 ?A28 ?A29 ?A30 ?A31 ?A32 ?A33 ?A34 ?A35 ?A36 ?A37 ?A38 ?A39 ?a40 ?F40 ?A41 ?A42 ?A43 ?A44 ?A45 ?A46 ?A47 ?A48 ?A49 ?A50 ?A51 ?A52 ?A53 ?A54 ?A55 ?A56 ?A57 ?A58 ?A59 ?A60 ?A61 ?A62 ?A63 ?A64 ?A65 ?A66 ?A67 ?A68 ?A69 ?A70 ?A71 ?A72 ?A73 ?A74 ?CWk ?xk8Wk ?xb1WordError ?xb2WordError ?xb3WordError ?WWk ?WNought ?WNoRoom ?ynNRepr ?ynNVE ?y1 ?z1 ?z2 ?z3 ?z4 ?z5 ?z6 ?z7 ?z8 ?z9 ?z10 ?z11 ?z12 ?z13 ?z14 ?z15 ?z16 ?z17 ?z18 ?p1 ?q1 ?g1 ?g2 ?g3 ?g4 ?kg1 ?kl1
  (case ca1|cb1|cc1|cd1|ce1|cf1|cg1|ch1_1|ch1_2|ch1_3|ch1_4|ch1_5|ch1_6|ch1_7|xaNought|xaNoRoom|xaFaulty|xaNoText|xaNotFormed|xaWk|xaWordError|a40|ynNRepr|ynNVE|y1|z1|z2|z3|z4|z5|z6|z7|z8|z9|z10|z11|z12|z13|z14|z15|z16|z17|z18|p1|q1|g1|g2|g3|g4|kg1|kl1=>show _=_;k_is)
  (case xoNought|xoNoRoom|EWk_WordError|ENought_WordError|ENoRoom_WordError|xk8Wk|xb1WordError|xb2WordError|xb3WordError=>kernel_rfl)
  (case A1|A2|A3|A4|A5|A6|A7|A8|A9|A10|A11|A12|A13|A14|A15|A16|A17|A18|A19|A20|A21|A22|A23|A24|A25|A29|A30|A31|A38|A41|A42|A50|A55|A62|A63|A64|A67|A69|A70|A71|A72|A73|A74=>walk_at "fg")
  (case A26|A27|A28|A32|A33|A34|A35|A36|A37|A39|A43|A44|A45|A46|A47|A48|A49|A51|A52|A53|A54|A56|A57|A58|A59|A60|A61|A65|A66|A68=>walk_at "mg")
  (case F40=>walk_at "fk")
  (case CWk=>constructor<;>kernel_rfl)
  (case WWk|WNought|WNoRoom=>constructor; (constructor<;>kernel_rfl); all_goals kernel_rfl)
