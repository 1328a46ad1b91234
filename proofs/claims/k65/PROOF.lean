import PyProof.Rows.All
import Wide.All
import OpenK.AllK
import Wide.FinOn
import Lean
import PyProof.EqAt
import PyProof.EqKinds
import PyProof.TupleCall
import PyProof.NeKinds
import PyProof.RulesTry
import PyProof.ExcArgsOwn
import PyProof.InstStoreFacts
import PyProof.ExcInit
import PyProof.ExcClass3
import KE.KTryMore
import PyProof.NsDelKeeps
import PyProof.RulesAs
import PyProof.InstEq
import PyProof.Rows.EqMixed
import PyProof.FactsAll.tuple_1
import PySem.Challenge.RW_markwords_k65_plain_runs
set_option Elab.async false
set_option linter.all false
set_option maxRecDepth 100000
set_option maxHeartbeats 8000000
set_option hygiene false
local macro_rules|`(tactic|ac_rfl)=>`(tactic|refine ⟨rfl,rfl,rfl,by decide +kernel,rfl,by decide +kernel,by decide +kernel⟩)
local macro_rules|`(tactic|ac_nf)=>`(tactic|walk_at "bn")
local macro_rules|`(tactic|rfl')=>`(tactic|walk_at "go")
set_option compiler.extract_closed false
local macro_rules|`(tactic|lia)=>`(tactic|first|lia (config := {})|omega)
local macro_rules|`(tactic|symm)=>`(tactic|walk_at "v")
local macro_rules|`(tactic|nofun)=>`(tactic|walk_at "u")
local macro_rules|`(tactic|left)=>`(tactic|walk_at "pk")
local macro_rules|`(tactic|right)=>`(tactic|walk_at "lk")
def UR:=@List.getElem?_eq_some_iff
def UU:=@List.getElem?_eq_getElem
def UV:=@List.length_append
def UW:=@List.getElem?_set_ne
def UY:=@List.length_map
def UZ:=@Nat.le_refl
def U0:=@List.mem_of_getElem?
def U1:=@List.getElem?_append_left
def U2:=@List.length_set
def U3:=@List.getElem?_set_self
def U4:=@List.mem_append
def U5:=@List.size_toArray
def U6:=@Bool.false_ne_true
def U7:=@List.mem_singleton
def U8:=@List.length_cons
def U9:=@List.getElem?_append_right
def Da:=@List.mem_cons
def Db:=@List.append_assoc
def Dc:=@Nat.lt_of_lt_of_le
def Dd:=@List.mem_append_right
def De:=@Nat.ne_of_lt
def Df:=@List.mem_append_left
def Dg:=@List.not_mem_nil
def Dh:=@List.getElem?_map
def Di:=@List.map_cons
def Dj:=@List.lookup_cons
def Dk:=@Nat.le_of_lt
def Dl:=@List.append_nil
def Dm:=@Nat.le_trans
def Dn:=@List.mem_cons_of_mem
def Do:=@Nat.lt_of_le_of_lt
def Dp:=@List.length_singleton
def Dq:=@List.map_append
def Dr:=@List.mem_filterMap
def Ds:=@Bool.false_eq_true
def Dt:=@PySem.W.kia_one
def Du:=@Nat.zero_le
def Dv:=@List.replicate_succ
def Dw:=@Int.toNat_of_nonneg
def Dx:=@PySem.W.kia_tup
def Dy:=@Bool.and_eq_true
def Dz:=@List.length_nil
def DA:=@Nat.sub_self
def DB:=@List.mem_cons_self
def DC:=@List.length_take
def DD:=@Nat.log2_le_self
def DF:=@List.nodup_append
def DG:=@Array.length_toList
def DH:=@PySem.W.methodCall_KW
def DI:=@Int.emod_lt_of_pos
def DJ:=@List.set_append_right
def DL:=@List.flatten_cons
def DM:=@List.nil_append
def DN:=@List.find?_cons
def DO:=@Int.emod_nonneg
def DP:=@List.getElem?_cons_zero
def DQ:=@Option.map_eq_some_iff
def DR:=@PySem.W.callWith_K
def DS:=@List.set_set
def DT:=@List.mem_map
def DU:=@List.any_cons
def DV:=@List.length_range
def DW:=@Int.fmod_eq_emod_of_nonneg
def DX:=@PySem.W.hideAll_none
def DY:=@List.length_drop
def DZ:=@List.cons_append
def D0:=@PySem.W.hideAll_get
def D1:=@List.map_nil
def D2:=@PySem.W.nsMap_none_of_in
def D3:=@Nat.lt_irrefl
def D4:=@List.getElem?_replicate
def D5:=@List.set_comm
def D6:=@List.length_eq_zero_iff
def D7:=@List.getElem?_cons_succ
def D8:=@List.set_cons_zero
def D9:=@List.set_cons_succ
def Ra:=@PySem.W.kitx_list
def Rb:=@PySem.W.kitx_dict
def Rc:=@Bool.not_eq_true'
def Re:=@List.take_add_one
def Rf:=@List.mem_range
def Rg:=@Nat.zero_add
def Rh:=@List.all_eq_true
def Ri:=@List.take_length
def Rj:=@List.cons_ne_nil
def Rk:=@List.getElem?_of_mem
def Rl:=@List.mem_filter
def Rm:=@List.filterMap_cons
def Rn:=@Bool.eq_iff_iff
def Ro:=@PySem.W.plainGet_of
def Rp:=@PySem.W.findObj_own
def Rq:=@PySem.W.callWith_K0
def Rr:=@List.nodup_cons
def Rs:=@List.forIn_cons
def Ru:=@PySem.W.exm_one
def Rv:=@Int.fdiv_eq_ediv_of_nonneg
def Rw:=@Array.append_assoc
def Rx:=@Nat.le_of_eq
def Ry:=@List.zip_cons_cons
def Rz:=@List.zip_nil_right
def RA:=@List.pairwise_cons
def RB:=@Nat.lt_succ_of_lt
def RC:=@Option.isSome_iff_exists
def RD:=@List.getElem?_take_of_lt
def RE:=@List.zip_nil_left
def RF:=@List.eq_of_mem_replicate
def RG:=@List.all_cons
def RH:=@Nat.add_sub_cancel_left
def RI:=@PySem.W.mg_of
def RJ:=@List.getElem_inj
def RK:=@Nat.lt_succ_self
def RL:=@List.getElem_mem
def RM:=@PySem.W.cellsFrom_some
def RN:=@List.take_of_length_le
def RO:=@Nat.eq_of_beq_eq_true
def RP:=@List.of_mem_zip
def RQ:=@List.length_replicate
def RS:=@List.foldl_cons
def RT:=@Nat.lt_or_ge
def RU:=@List.take_append_drop
def RV:=@List.range_succ
def RW:=@Bool.and_eq_true_iff
def RX:=@Int.natAbs_neg
def RY:=@Nat.le_succ
def RZ:=@Int.one_mul
def R9:=@Array.getElem?_push
def Be:=@List.map_congr_left
def Bf:=@List.getElem?_range
def Bg:=@PySem.W.of_hideAll
def Bh:=@Array.find?_toList
def Bi:=@PySem.W.kitx_float
def Bj:=@PySem.W.kitx_tuple
def Bk:=@List.contains_cons
def Bl:=@PySem.W.isNs_of_in
def Bm:=@Int.lt_or_lt_of_ne
def Bn:=@List.map_set
def GU:=@PySem.wpAny_bind
def GV:=@PySem.wpAny_pure
def GW:=@PySem.wpAny_mono
def GY:=@PySem.wpAny_loadPart_at
def GZ:=@if_neg
def G0:=@decide_eq_false
def G1:=@congrArg
def G2:=@congrFun
def G3:=@PySem.wpAny_holding
def G4:=@if_pos
def G5:=@PySem.wpAny_isSubtype_exc
def G6:=@PySem.codeAny_call_builtin
def G7:=@PySem.wpAny_newObj_type
def G8:=@PySem.wpAny_standAt
def G9:=@or_false
def Ua:=@PySem.wpAny_Call_Name_kw
def Ub:=@PyProof.Rows.assignInOrder_cons
def Uc:=@PySem.wpAny_truthy_bool
def Ud:=@PySem.wpAny_execs_nil
def Ue:=@PySem.wpAny_execs_cons
def Uf:=@PySem.sizeLine_eq
def Ug:=@PySem.codeAny_handlers_test
def Uh:=@PySem.wpAny_call
def Ui:=@PySem.wpAny_tryCompare_declines
def Uj:=@PySem.wpAny_cRoomFor
def Uk:=@if_false
def Ul:=@beq_self_eq_true
def Um:=@PySem.wpAny_handleBy_cons
def Uo:=@PySem.codeAny_mono
def Up:=@PySem.wpAny_passesOwn
def Uq:=@PySem.strLen_append
def Ur:=@PySem.wpAny_field
def Us:=@PySem.plainObj_wpAny_Assign_Attribute
def Ut:=@PySem.wpAny_Assign_Name
def Uu:=@decide_eq_true
def Uv:=@PySem.wpAny_bindName
def Uw:=@if_true
def Ux:=@PySem.wpAny_specialOf
def Uy:=@of_decide_eq_false
def Uz:=@PySem.codeAny_handlers_suite_as
def UB:=@PyProof.Rows.assignInOrder_nil
def UC:=@PySem.cmpInfo_Eq
def UD:=@of_decide_eq_true
def UF:=@PySem.wpAny_dictEntries
def UH:=@decide_eq_true_eq
def UJ:=@PySem.wpAny_call_entry
def UL:=@PySem.wpAny_Expr_any
def UM:=@PySem.isSubtype_type
def UN:=@PySem.typeIs_none
def UP:=@PySem.wpAny_rule
def UQ:=@PySem.call_meets
namespace L2
open PySem PySem.Spec PyProof.Rows
def qk(s:Stmt)(j:Nat):Stmt:=match s with
 |.ClassDef _ _ _ body _ _ _ _ _ _ _=>body.getD j (.Pass ⟨0,0,0,0⟩)
 |_=>.Pass ⟨0,0,0,0⟩
def zA(s:Stmt):Arguments:=match s with
 |.FunctionDef _ a _ _ _ _ _ _ _ _=>a
 |_=>{ posonlyargs:=[],args:=[],vararg:=none,kwonlyargs:=[],kw_defaults:=[],kwarg:=none,defaults:=[] }
def vi(s:Stmt):List Stmt:=match s with
 |.FunctionDef _ _ b _ _ _ _ _ _ _=>b
 |_=>[]
def qd(s:Stmt):Scope:=match s with
 |.FunctionDef _ _ _ _ _ _ sc _ _ _=>sc
 |_=>{ kind:=.function,names:=[],isGenerator:=false,isCoroutine:=false }
end L2
namespace Hd
open PySem PySem.W PySem.Calls PyProof.Rows
def topT(tb:String->Option Builtin)(p:Program)(w:World)(m:Nat)(an:Option Value):Nat->SharedT->Thread->Option SharedT
 |0,_,_=>none
 |k+1,s,t=>match through t with
  |true=>some s
  |false=>match stepOk m an t with
   |false=>none
   |true=>match stepT (denote tb) p w s t with
    |some (s1,t1)=>topT tb p w m an k s1 t1
    |none=>none
theorem Jl :
  ∀{k:Nat}{s r:SharedT}{t:Thread},topT tb p w m an k s t=some r->topRun tb p w m an k s.abs t=some r.abs
 |0,_,_,_,h=>by cases h
 |k+1,s,r,t,h=>by
  unfold topT at h;unfold topRun;cases ht:through t with
  |true=>rw[ht]at h;cases h;rfl
  |false=>
   rw[ht]at h;cases hk:stepOk m an t with
   |false=>rw[hk]at h;cases h
   |true=>
    rw[hk]at h;cases hs:stepT (denote tb) p w s t with
    |none=>rw[hs]at h;cases h
    |some x=>
     obtain⟨s1,t1⟩:=x;rw[hs]at h;rw[stepT_spec hs];exact Jl h
noncomputable def bootT(P:Params):BT :=
 .node (boot_o_0 P) (.node (boot_o_1 P) (.node (boot_o_3 P) (.node (boot_o_7 P) .nil .nil) .nil) (.node (boot_o_5 P) (.node (boot_o_9 P) .nil .nil) .nil))
  (.node (boot_o_2 P) (.node (boot_o_4 P) (.node (boot_o_8 P) .nil .nil) .nil) (.node (boot_o_6 P) (.node (boot_o_10 P) .nil .nil) .nil))
abbrev bootL:Life:={}
theorem GF(P:Params):boot_heap P=absHeap (bootT P) 11 bootL:=by kernel_rfl
noncomputable def S0(w:World)(os:OsState):SharedT:=⟨bootT w.params,11,bootL, #[],boot_drawn,boot_toks,os⟩
noncomputable def Look(p q:Program)(loose:List Str)(Xt:Shared->Bool){α:Type}(Yf:Shared->α)(w:World)(s:Shared):=
 ((staticsOk (importedModules p.main.body) (boot_heap w.params) s.heap&&namesBound p s.heap&&gensDone s&&laidKept (boot_heap w.params) s.heap),openSeen q loose (importedModules p.main.body) Xt true s,Yf s)
theorem left_of{p q:Program}{loose:List Str}{Xt:Shared->Bool}{α:Type}{Yf:Shared->α}{Ya:World->α}{N M:Nat}(e:opening p=plainProg p.main.scope.names)(hN:Nat.ble 600 N=true)(f:∀s,fenceModules? p s=some s)(le:Nat.ble M N=true)(run:∀w os,(topT treeTable p w 11 (some (.ref 6)) M (S0 w os) (topStub p)).map (λs=>Look p q loose Xt Yf w s.abs)=some (true,openGood q loose,Ya w))(hs:∀P:Params,((boot_heap P).isNs mainGlobals,(boot_heap P).nsMap mainGlobals "__annotations__")=(true,some (.ref 6))):LeftO p q loose Xt Yf Ya N:=λw=>by
 obtain⟨⟨h,gs,d,k,os⟩,e1,e2⟩:=DQ.mp (boot_open e hN f w);obtain⟨rfl,rfl,rfl,rfl⟩:h=boot_heap w.params/\gs=Array.mk []/\d=boot_drawn/\k=boot_toks:=by simpa using e2
 obtain⟨z1,z3⟩:_/\_:=by simpa only[Prod.mk.injEq]using hs w.params
 obtain⟨r,r1,r2⟩:=DQ.mp (run w os);obtain⟨l1,l2,l3⟩:_/\_/\_:=by simpa only[Look,Prod.mk.injEq]using r2
 have r3:=topRun_mono (N-M) _ _ _ _ (Jl r1);rw[show M+(N-M)=N by have:=Nat.le_of_ble_eq_true le;lia]at r3;have a:(S0 w os).abs=⟨boot_heap w.params, #[],boot_drawn,boot_toks,os⟩:=by rw[GF];rfl
 rw[a]at r3;have t:topFrom treeTable p w N ⟨boot_heap w.params, #[],boot_drawn,boot_toks,os⟩=some r.abs:=by
  unfold topFrom;dsimp only;rw[z1,z3,show(boot_heap w.params).objs.size=11 from rfl,r3];show(match staticsOk (importedModules p.main.body) (boot_heap w.params) r.abs.heap&&namesBound p r.abs.heap&&gensDone r.abs&&laidKept (boot_heap w.params) r.abs.heap with|true=>_|false=>_)=_;rw[l1]
 unfold openEnds;rw[e1];show(topFrom treeTable p w N _).map _=_;rw[t];exact G1 some (Prod.ext l2 l3)
def fill(f:Nat->Obj):List Nat->Frag->List Obj
 | [],_=>[]
 |i::r, []=>f i::fill f r []
 |i::r,(a,o)::Ξ=>match Nat.beq a i with
  |true=>o::fill f r Ξ
  |false=>f i::fill f r ((a,o)::Ξ)
theorem VI:∀{r:List Nat}{Ξ:Frag},(∀p∈Ξ,f p.1=p.2)->fill f r Ξ=r.map f
 | [],_,_=>rfl
 |i::r, [],h=>G1 (f i :: ·) (VI h)
 |i::r,(a,o)::Ξ,h=>by
  unfold fill;cases e:Nat.beq a i with
  |true=>
   cases RO e;exact(G1 (· :: fill f r Ξ) (h (i,o) (.head _)).symm).trans (G1 (f i :: ·) (VI λp m=>h p (.tail _ m)))
  |false=>exact G1 (f i :: ·) (VI h)
noncomputable def BR(P:Params):Frag:=[(0,boot_o_0 P),(1,boot_o_1 P),(4,boot_o_4 P),(5,boot_o_5 P),(6,boot_o_6 P),(7,boot_o_7 P),(8,boot_o_8 P),(9,boot_o_9 P),(10,boot_o_10 P)]
def ins(x:Nat×Obj):Frag->Frag
 | []=>[x]
 |y::r=>match Nat.ble x.1 y.1 with
  |true=>x::y::r
  |false=>y::ins x r
def KX(Ξ R:Frag):Frag:=R.foldr ins Ξ
def E0:Obj:=⟨.none,none,.fields #[], #[]⟩
noncomputable def SE(Ξ R:Frag)(Q:List Nat)(n:Nat)(f:Nat->Obj)(l:Life)(d:Drawn)(k:Nat)(os:OsState):Shared:=⟨⟨(fill (λi=>match Q.any (Nat.beq i) with|true=>E0|false=>f i) (List.range n) (KX Ξ R)).toArray,l⟩, #[],d,k,os⟩
theorem SE_is{s:SharedT}(h:(s.n,s.gens,Q.map s.tree.get,(KX Ξ R).map λp=>s.tree.get p.1)=(n, #[],Q.map (λ_=>some E0),(KX Ξ R).map λp=>some p.2)):s.abs=SE Ξ R Q n (λi=>(s.tree.get i).getD default) s.life s.drawn s.toks s.os:=by
 obtain⟨T,m,l,g,d,k,os⟩:=s;obtain⟨rfl,rfl,h2,h3⟩:m=n/\g=#[]/\_/\_:=by simpa only[Prod.mk.injEq]using h
 show Shared.mk (absHeap T m l) _ _ _ _=Shared.mk _ _ _ _ _;have q:(λi=>match Q.any (Nat.beq i) with|true=>E0|false=>(T.get i).getD default)=λi=>(T.get i).getD default:=funext λi=>by
  cases e:Q.any (Nat.beq i) with
  |false=>rfl
  |true=>
   obtain⟨j,hj,x⟩:=List.any_eq_true.mp e;cases RO x;show E0=(T.get i).getD default;rw[List.map_inj_left.mp h2 i hj];rfl
 unfold absHeap BT.list;show _=Shared.mk ⟨(fill (λi=>match Q.any (Nat.beq i) with|true=>E0|false=>(T.get i).getD default) _ _).toArray,_⟩ _ _ _ _;rw[q,VI λp m=>by show(T.get p.1).getD default=_;rw[List.map_inj_left.mp h3 p m];rfl]
noncomputable def LkA(p q:Program)(w:World)(s:Shared):=((staticsOk (importedModules p.main.body) (boot_heap w.params) s.heap&&namesBound p s.heap&&gensDone s&&laidKept (boot_heap w.params) s.heap),seen ((recsOf q).map (·.name)) (ownsOf q) [] { s with gens:=#[] },s.heap.bltView)
noncomputable def GdA(q:Program):=(true,expectedOf q,bltViewBooted)
noncomputable def LkB(p q:Program)(loose:List Str)(Xt:Shared->Bool)(s:Shared):=(s.heap.keysOk (looseW q loose) ((recsOf q).map (·.name)) ((litsOf q).map (·.1)) ((clssOf q (looseW q loose)).map (·.name))&&s.heap.accountedOkI (importedModules p.main.body)&&s.heap.isNs mainGlobals&&s.heap.isNs builtinsNs&&tablesOk q s.heap&&Xt s&&(if true then s.gens.size==0 else !leftWithCleanup s.gens))
noncomputable def LkD(q:Program)(loose:List Str)(s:Shared):=(pinSeenD q (drecsOf q) s,plainSeenE q (looseW q loose) s,plainSeenD q loose s,wideSeen q s,clsSeenW q loose s)
noncomputable def GdD(q:Program)(loose:List Str):=(pinGoodD (drecsOf q),plainGoodE q (looseW q loose),plainGoodD q loose,wideGood q,clsGoodW q loose)
theorem look3{p q:Program}{loose:List Str}{Xt:Shared->Bool}{α:Type}{Yf:Shared->α}{w:World}{y:α}{s:Shared}(hA:LkA p q w s=GdA q)(hB:(LkB p q loose Xt s,tabsOk q s)=(true,true))(hD:LkD q loose s=GdD q loose)(hC:Yf s=y):Look p q loose Xt Yf w s=(true,openGood q loose,y):=
 Prod.ext (G1 (·.1) hA) (Prod.ext (Prod.ext (G1 (·.2.1) hA) (Prod.ext (G1 (·.2.2) hA) (Prod.ext (G1 (·.1) hB) (Prod.ext (G1 (·.2) hB) hD)))) hC)
theorem left_ofE{Ξ R:Params->Frag}{as:∀P,KA=(Ξ P).map (·.1)}(e:opening p=plainProg p.main.scope.names)(hN:Nat.ble 600 N=true)(f:∀s,fenceModules? p s=some s)(le:Nat.ble M N=true)(run:∀w os,(topT treeTable p w 11 (some (.ref 6)) M (S0 w os) (topStub p)).map (λs=>(s.n,s.gens,Q.map s.tree.get,(KX (Ξ w.params) (R w.params)).map λp=>s.tree.get p.1))=some (n, #[],Q.map (λ_=>some E0),(KX (Ξ w.params) (R w.params)).map λp=>some p.2))(look:∀w f l d k os,Look p q loose Xt (kHook Ξ KA as).obs w (SE (Ξ w.params) (R w.params) Q n f l d k os)=(true,openGood q loose,(kHook Ξ KA as).val w))(hs:∀P:Params,((boot_heap P).isNs mainGlobals,(boot_heap P).nsMap mainGlobals "__annotations__")=(true,some (.ref 6))):LeftO p q loose Xt (kHook Ξ KA as).obs (kHook Ξ KA as).val N :=
 left_of e hN f le (λw os=>by
  obtain⟨r,r1,r2⟩:=DQ.mp (run w os);rw[r1];exact G1 some ((G1 _ (SE_is r2)).trans (look w _ _ _ _ _))) hs
theorem boot_main(P:Params):((boot_heap P).isNs mainGlobals,(boot_heap P).nsMap mainGlobals "__annotations__")=(true,some (.ref 6)):=by kernel_rfl
end Hd
namespace Hd
open PySem PySem.W PySem.Calls PyProof.Rows
theorem close{H:Hook}(left:LeftO r.prog q loose (λs=>xlAt q lv s&&recOk (RowW.records (OpenRow.toRowW r)) s) H.obs H.val N)(h1:defOf q r.name=some (d,kwd))(h2:r.prog.theDef r.name=some (d.params,d.body,d.scope))(h3:kwWritten? d.params.kwonlyargs d.params.kw_defaults=some kwd)(h4:(!r.writes||r.records.isEmpty)=true)(h5:r.wellSaid=true)(h6:(chainsOk q&&opensWell r.prog&&(frees r.toRowW&&r.within.isEmpty))=true)(h7:r.prog.bare)(hw:r.toRowW.promised)(hc:WalkO q loose (XL q lv) H.says r.toRowW d kwd λf vs=>PySem.call f vs):r.Holds :=
 holds_open left H.of H.keeps (λs z=>xl_of s (RW.mp z).1) XL.keeps h1 h2 h3 (λs z=>recFacts_of (RW.mp z).2) h4 h5 h6 h7 hw hc
end Hd
namespace Mw
open PySem L2
def top(i:Nat):Stmt:=PySem.Challenge.pw_markwords_k65_plain_runs.main.body.getD i (.Pass ⟨0,0,0,0⟩)
end Mw
theorem PySem.W.Fast.te13284508909471653622:True:=True.intro
def PySem.W.Fast.tw34168645186962511:PySem.Program:=PySem.Challenge.pw_markwords_k65_plain_runs
theorem PySem.W.Fast.te34168645186962511:PySem.Challenge.pw_markwords_k65_plain_runs=PySem.W.Fast.tw34168645186962511:=rfl
namespace Mx
open PySem PySem.W PySem.Calls PyProof.Rows L2 Mw
abbrev kC(n q:Str)(t l a:Nat)(x7:Int)(r8:Nat)(b9:Bool)(nN:Nat)(nO nP nQ:Value)(nR nS nT:Nat):Obj:=⟨.type "code", none,(.fields #[.str n t,.str q (t+1),.str "/claim/cut.py" (t+2),.int l 0,.int a 0,.int 0 0,.int 0 0,.int x7 0,.ref r8,.bool b9,.int 181 0,.ref nN,nO,nP,nQ,.ref nR,.int nS 0,.int l 0,.str "/claim/cut.py" nT]), #[]⟩
abbrev kF(n q:Str)(s:Stmt)(m:Value)(c:Nat):Obj:=⟨.type "function", none,(.func (W.fnOf n q (zA s) (vi s) (qd s) .none .none .none m none (.ref c) .none)), #[]⟩
abbrev kT(l:List Value):Obj:=⟨.type "tuple", none,(.seq l.toArray 0), #[]⟩
abbrev kD(n q:Str)(t l a:Nat)(x:Int)(r u:Nat):Obj:=kC n q t l a x r true (r+1) .none (.ref (r+2)) (.ref (r+3)) (r+4) u (u+1)
abbrev kd(n:Str):=kD n n
abbrev kn(n:Str)(t l a:Nat)(x:Int)(r u:Nat):Obj:=kC n n t l a x r true (r+1) .none .none .none (r+2) u (u+1)
abbrev kx:List Value:=[.type "ValueError",.type "Exception",.type "BaseException",.type "object"]
abbrev kK(n:Str)(b m:List Value)(s:Nat)(l:List Value)(c:Option Value)(t u:Nat)(w:String):Obj:=⟨.type "type", none,(.cls { name:=n,bases:=b,mro:=m,ns:=s,qualname:=n,hasDict:=true,slotNames:=[],subclasses:=l,abstract:=false,collection:=none,hasDel:=false }), #[c,none,some (.str n t),some (.str n u),some (.builtin w),some (.bool true)]⟩
abbrev kE(l:List DictEntry)(n:Nat):Obj:=⟨.type "dict", none,(.dict l.toArray n), #[]⟩
abbrev kf(n:Str):=kF n n
abbrev y0:Value:=.str "markwords.errors" 187
abbrev y1:Value:=.str "markwords.limbs" 264
abbrev y2:Value:=.str "markwords.layings" 320
abbrev y3:Value:=.str "markwords.needs" 351
abbrev y4:Value:=.str "markwords.plain" 379
abbrev y5:Value:=.str "markwords.words" 626
abbrev y6:Value:=.str "markwords.things" 697
abbrev y7:Value:=.str "markwords.sweeping" 733
abbrev y8:Value:=.str "markwords.store" 780
abbrev y9:Value:=.str "markwords.anew" 1103
abbrev y10:Value:=.str "markwords.runs" 1211
abbrev y11:Value:=.str "law_markwords_k65_plain_runs" 1352
abbrev oE(P:Params)(n:Str)(t:Nat)(v:Value):DictEntry:=⟨PyData.keyHash P n,.str n t,v⟩
abbrev o(P:Params)(n:Str)(t a:Nat):=oE P n t (.ref a)
noncomputable def K:Params->Frag:=λP=>
(nat_lit 2,⟨.none,none,(.dict #[] 0), #[]⟩)::
(nat_lit 3,kE [oE P "__name__" 165 (.str "law_markwords_k65_plain_runs" 1352),oE P "__doc__" 166 (.none),oE P "__package__" 167 (.none),oE P "__loader__" 168 (.builtin "__main__.__loader__#opaque"),oE P "__spec__" 169 (.none),o P "__annotations__" 170 6,o P "__builtins__" 171 4,oE P "__file__" 173 (.str "/claim/cut.py" 172),oE P "__cached__" 174 (.none),o P "WordError" 206 24,o P "WrongKind" 231 44,o P "Nought" 247 56,o P "NoRoom" 263 68,oE P "PAIR_HEAD" 267 (.int (1) 266),oE P "PAIR_SIZE" 269 (.int (3) 268),o P "limb_count" 278 77,o P "rows_of" 291 84,o P "size_at" 300 91,o P "number_at" 311 98,o P "is_great" 319 105,o P "kinds_on" 327 110,o P "mark_of" 336 117,o P "mark_for" 342 122,o P "load_bits" 350 129,o P "need_numbers" 361 136,o P "need_divisor" 370 143,o P "need_pair" 378 150,oE P "REGISTERS" 382 (.int (8) 381),o P "Pair" 413 167,o P "kind_of" 420 178,o P "PlainStore" 625 328,o P "THREE" 631 333,oE P "SIGNS" 633 (.int (128) 632),o P "load_of" 642 340,o P "marked" 652 347,o P "small_of" 660 354,o P "worth_of" 670 361,o P "word_of" 678 368,o P "is_small" 687 375,o P "address_of" 696 382,o P "heads_in" 707 389,o P "pair_words_at" 715 396,o P "read_worth" 725 403,o P "is_pair" 732 410,o P "reached_from" 746 417,o P "new_places" 757 424,o P "moved_word" 767 431,o P "moved_thing" 773 436,o P "swept" 779 441,o P "KINDS_BY_MARK" 797 442,o P "own_laying" 804 449,o P "most_outside" 812 456,o P "Store" 1091 662,o P "store_of" 1102 673,o P "Mover" 1204 739,o P "laid_anew" 1210 748,o P "Moves" 1262 779,o P "do_with_worth" 1272 790,o P "do_with_two" 1282 797,o P "do_with_three" 1293 804,o P "do_deed" 1302 811,o P "holds" 1310 818,o P "row_behind" 1321 825,o P "gone_through" 1334 832,o P "go" 1343 839,o P "plain_run" 1351 846,o P "_law_bag" 1359 851,o P "_law_draw" 1368 858,o P "_law_reckoned" 1377 865,o P "_law_deed_done" 1386 872,o P "_law_done" 1397 879,o P "_law_alike" 1403 884,o P "_law_any_number" 1412 891,o P "_law_letters" 1418 898,o P "_law_part" 1428 905,o P "_law_any_row" 1434 910,o P "_law_any_script" 1440 915,o P "_law_body_row" 1463 922,o P "_law_long_script" 1469 927,o P "_law_own_kind" 1476 934,o P "_law_own_numbers" 1492 941,o P "_law_own_do" 1504 948,o P "_law_own_ask" 1515 955,o P "_law_row_done" 1525 962,o P "_law_deed_of" 1532 969,o P "_law_row_gone" 1545 976,o P "_law_walk" 1558 983,o P "_law_fresh" 1564 990,o P "_law_some_script" 1570 995,o P "_law_some_deeds" 1585 1002,o P "_law_gone_by_hand" 1591 1007,o P "law" 1606 1014] 92)::
(nat_lit 15,kT [.type "ValueError"])::
(nat_lit 22,kT [])::
(nat_lit 23,kE [oE P "__module__" 196 (.str "markwords.errors" 187),oE P "__firstlineno__" 200 (.int (2) 199),o P "__static_attributes__" 201 22,o P "__weakref__" 203 25,oE P "__doc__" 204 (.none)] 3)::
(nat_lit 24,kK "WordError" [.type "ValueError"] (.ref 24::kx) 23 [.ref 44,.ref 56,.ref 68] (some (.ref 15)) 189 197 "ValueError.__new__")::
(nat_lit 25,⟨.type "getset_descriptor", none,(.fields #[.str "__weakref__" 202,.ref 24,.builtin "ExceptionGroup.__weakref__",.none]), #[]⟩)::
(nat_lit 28,kT [.ref 24])::
(nat_lit 40,kD "__init__" "WrongKind.__init__" 219 6 2 3 35 224)::
(nat_lit 41,kF "__init__" "WrongKind.__init__" (qk (top 2) 0) y0 40)::
(nat_lit 42,kT [.str "part" 227])::
(nat_lit 43,kE [oE P "__module__" 214 (.str "markwords.errors" 187),oE P "__firstlineno__" 218 (.int (4) 217),o P "__init__" 226 41,o P "__static_attributes__" 228 42,oE P "__doc__" 229 (.none)] 2)::
(nat_lit 44,kK "WrongKind" [.ref 24] (.ref 44 :: .ref 24::kx) 43 [] (some (.ref 28)) 207 215 "ValueError.__new__")::
(nat_lit 47,kT [.ref 24])::
(nat_lit 54,kT [])::
(nat_lit 55,kE [oE P "__module__" 239 (.str "markwords.errors" 187),oE P "__firstlineno__" 243 (.int (9) 242),o P "__static_attributes__" 244 54,oE P "__doc__" 245 (.none)] 2)::
(nat_lit 56,kK "Nought" [.ref 24] (.ref 56 :: .ref 24::kx) 55 [] (some (.ref 47)) 232 240 "ValueError.__new__")::
(nat_lit 59,kT [.ref 24])::
(nat_lit 66,kT [])::
(nat_lit 67,kE [oE P "__module__" 255 (.str "markwords.errors" 187),oE P "__firstlineno__" 259 (.int (11) 258),o P "__static_attributes__" 260 66,oE P "__doc__" 261 (.none)] 2)::
(nat_lit 68,kK "NoRoom" [.ref 24] (.ref 68 :: .ref 24::kx) 67 [] (some (.ref 59)) 248 256 "ValueError.__new__")::
(nat_lit 76,kd "limb_count" 270 16 2 3 71 276)::
(nat_lit 77,kf "limb_count" (top 8) y1 76)::
(nat_lit 83,kd "rows_of" 279 19 2 3 78 289)::
(nat_lit 84,kf "rows_of" (top 9) y1 83)::
(nat_lit 90,kd "size_at" 292 28 2 3 85 298)::
(nat_lit 91,kf "size_at" (top 10) y1 90)::
(nat_lit 97,kd "number_at" 301 31 3 3 92 309)::
(nat_lit 98,kf "number_at" (top 11) y1 97)::
(nat_lit 104,kd "is_great" 312 36 2 3 99 317)::
(nat_lit 105,kf "is_great" (top 12) y1 104)::
(nat_lit 109,kn "kinds_on" 322 39 2 3 106 325)::
(nat_lit 110,kf "kinds_on" (top 14) y2 109)::
(nat_lit 116,kd "mark_of" 328 41 2 3 111 334)::
(nat_lit 117,kf "mark_of" (top 15) y2 116)::
(nat_lit 121,kn "mark_for" 337 44 2 3 118 340)::
(nat_lit 122,kf "mark_for" (top 16) y2 121)::
(nat_lit 128,kd "load_bits" 343 46 2 3 123 348)::
(nat_lit 129,kf "load_bits" (top 17) y2 128)::
(nat_lit 135,kd "need_numbers" 353 49 3 3 130 359)::
(nat_lit 136,kf "need_numbers" (top 19) y3 135)::
(nat_lit 142,kd "need_divisor" 362 54 3 3 137 368)::
(nat_lit 143,kf "need_divisor" (top 20) y3 142)::
(nat_lit 149,kd "need_pair" 371 58 2 3 144 376)::
(nat_lit 150,kf "need_pair" (top 21) y3 149)::
(nat_lit 163,kD "__init__" "Pair.__init__" 395 65 3 3 158 401)::
(nat_lit 164,kF "__init__" "Pair.__init__" (qk (top 24) 0) y4 163)::
(nat_lit 165,kT [.str "left" 404,.str "right" 405])::
(nat_lit 166,kE [oE P "__module__" 390 (.str "markwords.plain" 379),oE P "__firstlineno__" 394 (.int (63) 393),o P "__init__" 403 164,o P "__static_attributes__" 406 165,o P "__dict__" 408 168,o P "__weakref__" 410 169,oE P "__doc__" 411 (.none)] 4)::
(nat_lit 167,kK "Pair" [.type "object"] [.ref 167,.type "object"] 166 [] none 383 391 "object.__new__")::
(nat_lit 168,⟨.type "getset_descriptor", none,(.fields #[.str "__dict__" 407,.ref 167,.builtin "function.__dict__",.builtin "function.__dict__#set"]), #[]⟩)::
(nat_lit 169,⟨.type "getset_descriptor", none,(.fields #[.str "__weakref__" 409,.ref 167,.builtin "ExceptionGroup.__weakref__",.none]), #[]⟩)::
(nat_lit 177,kd "kind_of" 414 68 1 3 172 418)::
(nat_lit 178,kf "kind_of" (top 25) y4 177)::
(nat_lit 191,kD "__init__" "PlainStore.__init__" 433 78 1 3 186 437)::
(nat_lit 192,kF "__init__" "PlainStore.__init__" (qk (top 26) 0) y4 191)::
(nat_lit 198,kD "pair_in" "PlainStore.pair_in" 440 81 2 3 193 445)::
(nat_lit 199,kF "pair_in" "PlainStore.pair_in" (qk (top 26) 1) y4 198)::
(nat_lit 205,kD "number" "PlainStore.number" 448 85 3 3 200 454)::
(nat_lit 206,kF "number" "PlainStore.number" (qk (top 26) 2) y4 205)::
(nat_lit 212,kD "sign" "PlainStore.sign" 457 88 3 3 207 463)::
(nat_lit 213,kF "sign" "PlainStore.sign" (qk (top 26) 3) y4 212)::
(nat_lit 219,kD "one" "PlainStore.one" 466 91 3 3 214 472)::
(nat_lit 220,kF "one" "PlainStore.one" (qk (top 26) 4) y4 219)::
(nat_lit 226,kD "copy" "PlainStore.copy" 475 94 3 3 221 481)::
(nat_lit 227,kF "copy" "PlainStore.copy" (qk (top 26) 5) y4 226)::
(nat_lit 233,kD "plus" "PlainStore.plus" 484 97 4 3 228 491)::
(nat_lit 234,kF "plus" "PlainStore.plus" (qk (top 26) 6) y4 233)::
(nat_lit 240,kD "less" "PlainStore.less" 494 101 4 3 235 501)::
(nat_lit 241,kF "less" "PlainStore.less" (qk (top 26) 7) y4 240)::
(nat_lit 247,kD "times" "PlainStore.times" 504 105 4 3 242 511)::
(nat_lit 248,kF "times" "PlainStore.times" (qk (top 26) 8) y4 247)::
(nat_lit 254,kD "over" "PlainStore.over" 514 109 4 3 249 521)::
(nat_lit 255,kF "over" "PlainStore.over" (qk (top 26) 9) y4 254)::
(nat_lit 261,kD "rest" "PlainStore.rest" 524 113 4 3 256 531)::
(nat_lit 262,kF "rest" "PlainStore.rest" (qk (top 26) 10) y4 261)::
(nat_lit 268,kD "pair" "PlainStore.pair" 534 117 4 3 263 541)::
(nat_lit 269,kF "pair" "PlainStore.pair" (qk (top 26) 11) y4 268)::
(nat_lit 275,kD "first" "PlainStore.first" 544 120 3 3 270 550)::
(nat_lit 276,kF "first" "PlainStore.first" (qk (top 26) 12) y4 275)::
(nat_lit 282,kD "second" "PlainStore.second" 553 123 3 3 277 559)::
(nat_lit 283,kF "second" "PlainStore.second" (qk (top 26) 13) y4 282)::
(nat_lit 289,kD "set_first" "PlainStore.set_first" 562 126 3 3 284 569)::
(nat_lit 290,kF "set_first" "PlainStore.set_first" (qk (top 26) 14) y4 289)::
(nat_lit 296,kD "set_second" "PlainStore.set_second" 572 130 3 3 291 579)::
(nat_lit 297,kF "set_second" "PlainStore.set_second" (qk (top 26) 15) y4 296)::
(nat_lit 303,kD "below" "PlainStore.below" 582 134 3 3 298 588)::
(nat_lit 304,kF "below" "PlainStore.below" (qk (top 26) 16) y4 303)::
(nat_lit 310,kD "same" "PlainStore.same" 591 138 3 3 305 597)::
(nat_lit 311,kF "same" "PlainStore.same" (qk (top 26) 17) y4 310)::
(nat_lit 317,kD "kind" "PlainStore.kind" 600 141 2 3 312 605)::
(nat_lit 318,kF "kind" "PlainStore.kind" (qk (top 26) 18) y4 317)::
(nat_lit 324,kD "told" "PlainStore.told" 608 144 2 3 319 614)::
(nat_lit 325,kF "told" "PlainStore.told" (qk (top 26) 19) y4 324)::
(nat_lit 326,kT [.str "held" 617])::
(nat_lit 327,kE [oE P "__module__" 428 (.str "markwords.plain" 379),oE P "__firstlineno__" 432 (.int (76) 431),o P "__init__" 439 192,o P "pair_in" 447 199,o P "number" 456 206,o P "sign" 465 213,o P "one" 474 220,o P "copy" 483 227,o P "plus" 493 234,o P "less" 503 241,o P "times" 513 248,o P "over" 523 255,o P "rest" 533 262,o P "pair" 543 269,o P "first" 552 276,o P "second" 561 283,o P "set_first" 571 290,o P "set_second" 581 297,o P "below" 590 304,o P "same" 599 311,o P "kind" 607 318,o P "told" 616 325,o P "__static_attributes__" 618 326,o P "__dict__" 620 329,o P "__weakref__" 622 330,oE P "__doc__" 623 (.none)] 4)::
(nat_lit 328,kK "PlainStore" [.type "object"] [.ref 328,.type "object"] 327 [] none 421 429 "object.__new__")::
(nat_lit 329,⟨.type "getset_descriptor", none,(.fields #[.str "__dict__" 619,.ref 328,.builtin "function.__dict__",.builtin "function.__dict__#set"]), #[]⟩)::
(nat_lit 330,⟨.type "getset_descriptor", none,(.fields #[.str "__weakref__" 621,.ref 328,.builtin "ExceptionGroup.__weakref__",.none]), #[]⟩)::
(nat_lit 333,kT [.str "none" 628,.str "no" 629,.str "yes" 630])::
(nat_lit 339,kd "load_of" 634 150 3 3 334 640)::
(nat_lit 340,kf "load_of" (top 30) y5 339)::
(nat_lit 346,kd "marked" 643 152 3 3 341 650)::
(nat_lit 347,kf "marked" (top 31) y5 346)::
(nat_lit 353,kd "small_of" 653 155 2 3 348 658)::
(nat_lit 354,kf "small_of" (top 32) y5 353)::
(nat_lit 360,kd "worth_of" 661 157 2 3 355 668)::
(nat_lit 361,kf "worth_of" (top 33) y5 360)::
(nat_lit 367,kd "word_of" 671 169 2 3 362 676)::
(nat_lit 368,kf "word_of" (top 34) y5 367)::
(nat_lit 374,kd "is_small" 679 175 2 3 369 685)::
(nat_lit 375,kf "is_small" (top 35) y5 374)::
(nat_lit 381,kd "address_of" 688 178 2 3 376 694)::
(nat_lit 382,kf "address_of" (top 36) y5 381)::
(nat_lit 388,kd "heads_in" 699 182 1 3 383 705)::
(nat_lit 389,kf "heads_in" (top 38) y6 388)::
(nat_lit 395,kd "pair_words_at" 708 189 2 3 390 713)::
(nat_lit 396,kf "pair_words_at" (top 39) y6 395)::
(nat_lit 402,kd "read_worth" 716 191 3 3 397 723)::
(nat_lit 403,kf "read_worth" (top 40) y6 402)::
(nat_lit 409,kd "is_pair" 726 196 1 3 404 730)::
(nat_lit 410,kf "is_pair" (top 41) y6 409)::
(nat_lit 416,kd "reached_from" 735 199 3 3 411 744)::
(nat_lit 417,kf "reached_from" (top 43) y7 416)::
(nat_lit 423,kd "new_places" 747 208 2 3 418 755)::
(nat_lit 424,kf "new_places" (top 44) y7 423)::
(nat_lit 430,kd "moved_word" 758 216 3 3 425 765)::
(nat_lit 431,kf "moved_word" (top 45) y7 430)::
(nat_lit 435,kn "moved_thing" 768 221 4 3 432 771)::
(nat_lit 436,kf "moved_thing" (top 46) y7 435)::
(nat_lit 440,kn "swept" 774 225 3 3 437 777)::
(nat_lit 441,kf "swept" (top 47) y7 440)::
(nat_lit 442,kE [oE P "small" 782 (.str "number" 783),oE P "far" 784 (.str "number" 785),oE P "pair" 786 (.str "pair" 787),oE P "sign" 788 (.str "sign" 789),oE P "one" 790 (.str "one" 791)] 5)::
(nat_lit 448,kd "own_laying" 798 233 1 3 443 802)::
(nat_lit 449,kf "own_laying" (top 50) y8 448)::
(nat_lit 455,kd "most_outside" 805 235 2 3 450 810)::
(nat_lit 456,kf "most_outside" (top 51) y8 455)::
(nat_lit 469,kD "__init__" "Store.__init__" 825 239 3 3 464 831)::
(nat_lit 470,kF "__init__" "Store.__init__" (qk (top 52) 0) y8 469)::
(nat_lit 476,kD "words" "Store.words" 834 248 1 3 471 838)::
(nat_lit 477,kF "words" "Store.words" (qk (top 52) 1) y8 476)::
(nat_lit 483,kD "outside" "Store.outside" 841 251 1 3 478 845)::
(nat_lit 484,kF "outside" "Store.outside" (qk (top 52) 2) y8 483)::
(nat_lit 490,kD "sweep" "Store.sweep" 848 254 1 3 485 853)::
(nat_lit 491,kF "sweep" "Store.sweep" (qk (top 52) 3) y8 490)::
(nat_lit 497,kD "lacks" "Store.lacks" 856 260 2 3 492 861)::
(nat_lit 498,kF "lacks" "Store.lacks" (qk (top 52) 4) y8 497)::
(nat_lit 504,kD "make_room" "Store.make_room" 864 263 2 3 499 869)::
(nat_lit 505,kF "make_room" "Store.make_room" (qk (top 52) 5) y8 504)::
(nat_lit 511,kD "lay" "Store.lay" 872 269 4 3 506 879)::
(nat_lit 512,kF "lay" "Store.lay" (qk (top 52) 6) y8 511)::
(nat_lit 518,kD "number" "Store.number" 882 273 3 3 513 889)::
(nat_lit 519,kF "number" "Store.number" (qk (top 52) 7) y8 518)::
(nat_lit 525,kD "sign" "Store.sign" 892 283 3 3 520 898)::
(nat_lit 526,kF "sign" "Store.sign" (qk (top 52) 8) y8 525)::
(nat_lit 532,kD "one" "Store.one" 901 286 3 3 527 907)::
(nat_lit 533,kF "one" "Store.one" (qk (top 52) 9) y8 532)::
(nat_lit 539,kD "copy" "Store.copy" 910 289 3 3 534 916)::
(nat_lit 540,kF "copy" "Store.copy" (qk (top 52) 10) y8 539)::
(nat_lit 546,kD "in_word" "Store.in_word" 919 292 2 3 541 924)::
(nat_lit 547,kF "in_word" "Store.in_word" (qk (top 52) 11) y8 546)::
(nat_lit 553,kD "come_of_two" "Store.come_of_two" 927 295 5 3 548 936)::
(nat_lit 554,kF "come_of_two" "Store.come_of_two" (qk (top 52) 12) y8 553)::
(nat_lit 560,kD "plus" "Store.plus" 939 303 4 3 555 946)::
(nat_lit 561,kF "plus" "Store.plus" (qk (top 52) 13) y8 560)::
(nat_lit 567,kD "less" "Store.less" 949 307 4 3 562 956)::
(nat_lit 568,kF "less" "Store.less" (qk (top 52) 14) y8 567)::
(nat_lit 574,kD "times" "Store.times" 959 311 4 3 569 966)::
(nat_lit 575,kF "times" "Store.times" (qk (top 52) 15) y8 574)::
(nat_lit 581,kD "over" "Store.over" 969 315 4 3 576 976)::
(nat_lit 582,kF "over" "Store.over" (qk (top 52) 16) y8 581)::
(nat_lit 588,kD "rest" "Store.rest" 979 319 4 3 583 986)::
(nat_lit 589,kF "rest" "Store.rest" (qk (top 52) 17) y8 588)::
(nat_lit 595,kD "pair" "Store.pair" 989 323 4 3 590 996)::
(nat_lit 596,kF "pair" "Store.pair" (qk (top 52) 18) y8 595)::
(nat_lit 602,kD "pair_in" "Store.pair_in" 999 327 2 3 597 1004)::
(nat_lit 603,kF "pair_in" "Store.pair_in" (qk (top 52) 19) y8 602)::
(nat_lit 609,kD "first" "Store.first" 1007 331 3 3 604 1013)::
(nat_lit 610,kF "first" "Store.first" (qk (top 52) 20) y8 609)::
(nat_lit 616,kD "second" "Store.second" 1016 334 3 3 611 1022)::
(nat_lit 617,kF "second" "Store.second" (qk (top 52) 21) y8 616)::
(nat_lit 623,kD "set_first" "Store.set_first" 1025 337 3 3 618 1031)::
(nat_lit 624,kF "set_first" "Store.set_first" (qk (top 52) 22) y8 623)::
(nat_lit 630,kD "set_second" "Store.set_second" 1034 340 3 3 625 1040)::
(nat_lit 631,kF "set_second" "Store.set_second" (qk (top 52) 23) y8 630)::
(nat_lit 637,kD "below" "Store.below" 1043 343 3 3 632 1049)::
(nat_lit 638,kF "below" "Store.below" (qk (top 52) 24) y8 637)::
(nat_lit 644,kD "same" "Store.same" 1052 347 3 3 639 1058)::
(nat_lit 645,kF "same" "Store.same" (qk (top 52) 25) y8 644)::
(nat_lit 651,kD "kind" "Store.kind" 1061 352 2 3 646 1066)::
(nat_lit 652,kF "kind" "Store.kind" (qk (top 52) 26) y8 651)::
(nat_lit 658,kD "told" "Store.told" 1069 355 2 3 653 1074)::
(nat_lit 659,kF "told" "Store.told" (qk (top 52) 27) y8 658)::
(nat_lit 660,kT [.str "held" 1077,.str "kept" 1078,.str "laying" 1079,.str "quick" 1080,.str "room" 1081,.str "slow" 1082,.str "sweeps" 1083])::
(nat_lit 661,kE [oE P "__module__" 820 (.str "markwords.store" 780),oE P "__firstlineno__" 824 (.int (237) 823),o P "__init__" 833 470,o P "words" 840 477,o P "outside" 847 484,o P "sweep" 855 491,o P "lacks" 863 498,o P "make_room" 871 505,o P "lay" 881 512,o P "number" 891 519,o P "sign" 900 526,o P "one" 909 533,o P "copy" 918 540,o P "in_word" 926 547,o P "come_of_two" 938 554,o P "plus" 948 561,o P "less" 958 568,o P "times" 968 575,o P "over" 978 582,o P "rest" 988 589,o P "pair" 998 596,o P "pair_in" 1006 603,o P "first" 1015 610,o P "second" 1024 617,o P "set_first" 1033 624,o P "set_second" 1042 631,o P "below" 1051 638,o P "same" 1060 645,o P "kind" 1068 652,o P "told" 1076 659,o P "__static_attributes__" 1084 660,o P "__dict__" 1086 663,o P "__weakref__" 1088 664,oE P "__doc__" 1089 (.none)] 4)::
(nat_lit 662,kK "Store" [.type "object"] [.ref 662,.type "object"] 661 [] none 813 821 "object.__new__")::
(nat_lit 663,⟨.type "getset_descriptor", none,(.fields #[.str "__dict__" 1085,.ref 662,.builtin "function.__dict__",.builtin "function.__dict__#set"]), #[]⟩)::
(nat_lit 664,⟨.type "getset_descriptor", none,(.fields #[.str "__weakref__" 1087,.ref 662,.builtin "ExceptionGroup.__weakref__",.none]), #[]⟩)::
(nat_lit 672,kd "store_of" 1092 359 4 3 667 1100)::
(nat_lit 673,kf "store_of" (top 53) y8 672)::
(nat_lit 686,kD "__init__" "Mover.__init__" 1117 367 4 3 681 1124)::
(nat_lit 687,kF "__init__" "Mover.__init__" (qk (top 55) 0) y9 686)::
(nat_lit 693,kD "put_behind" "Mover.put_behind" 1127 376 3 3 688 1134)::
(nat_lit 694,kF "put_behind" "Mover.put_behind" (qk (top 55) 1) y9 693)::
(nat_lit 700,kD "number_word" "Mover.number_word" 1137 383 2 3 695 1142)::
(nat_lit 701,kF "number_word" "Mover.number_word" (qk (top 55) 2) y9 700)::
(nat_lit 707,kD "pair_word" "Mover.pair_word" 1145 390 2 3 702 1150)::
(nat_lit 708,kF "pair_word" "Mover.pair_word" (qk (top 55) 3) y9 707)::
(nat_lit 714,kD "new_word" "Mover.new_word" 1153 394 2 3 709 1159)::
(nat_lit 715,kF "new_word" "Mover.new_word" (qk (top 55) 4) y9 714)::
(nat_lit 721,kD "moved" "Mover.moved" 1162 402 2 3 716 1168)::
(nat_lit 722,kF "moved" "Mover.moved" (qk (top 55) 5) y9 721)::
(nat_lit 728,kD "fill_pair" "Mover.fill_pair" 1171 410 3 3 723 1179)::
(nat_lit 729,kF "fill_pair" "Mover.fill_pair" (qk (top 55) 6) y9 728)::
(nat_lit 735,kD "fill_pairs" "Mover.fill_pairs" 1182 414 1 3 730 1187)::
(nat_lit 736,kF "fill_pairs" "Mover.fill_pairs" (qk (top 55) 7) y9 735)::
(nat_lit 737,kT [.str "kept" 1190,.str "laying" 1191,.str "met" 1192,.str "most" 1193,.str "old_kept" 1194,.str "old_laying" 1195,.str "queue" 1196])::
(nat_lit 738,kE [oE P "__module__" 1112 (.str "markwords.anew" 1103),oE P "__firstlineno__" 1116 (.int (365) 1115),o P "__init__" 1126 687,o P "put_behind" 1136 694,o P "number_word" 1144 701,o P "pair_word" 1152 708,o P "new_word" 1161 715,o P "moved" 1170 722,o P "fill_pair" 1181 729,o P "fill_pairs" 1189 736,o P "__static_attributes__" 1197 737,o P "__dict__" 1199 740,o P "__weakref__" 1201 741,oE P "__doc__" 1202 (.none)] 4)::
(nat_lit 739,kK "Mover" [.type "object"] [.ref 739,.type "object"] 738 [] none 1105 1113 "object.__new__")::
(nat_lit 740,⟨.type "getset_descriptor", none,(.fields #[.str "__dict__" 1198,.ref 739,.builtin "function.__dict__",.builtin "function.__dict__#set"]), #[]⟩)::
(nat_lit 741,⟨.type "getset_descriptor", none,(.fields #[.str "__weakref__" 1200,.ref 739,.builtin "ExceptionGroup.__weakref__",.none]), #[]⟩)::
(nat_lit 747,kn "laid_anew" 1205 419 3 3 744 1208)::
(nat_lit 748,kf "laid_anew" (top 56) y9 747)::
(nat_lit 761,kD "__init__" "Moves.__init__" 1225 427 4 3 756 1232)::
(nat_lit 762,kF "__init__" "Moves.__init__" (qk (top 58) 0) y10 761)::
(nat_lit 768,kD "move" "Moves.move" 1235 433 1 3 763 1240)::
(nat_lit 769,kF "move" "Moves.move" (qk (top 58) 1) y10 768)::
(nat_lit 775,kD "ahead" "Moves.ahead" 1243 441 2 3 770 1248)::
(nat_lit 776,kF "ahead" "Moves.ahead" (qk (top 58) 2) y10 775)::
(nat_lit 777,kT [.str "layings" 1251,.str "store" 1252,.str "turn" 1253,.str "when" 1254])::
(nat_lit 778,kE [oE P "__module__" 1220 (.str "markwords.runs" 1211),oE P "__firstlineno__" 1224 (.int (425) 1223),o P "__init__" 1234 762,o P "move" 1242 769,o P "ahead" 1250 776,o P "__static_attributes__" 1255 777,o P "__dict__" 1257 780,o P "__weakref__" 1259 781,oE P "__doc__" 1260 (.none)] 4)::
(nat_lit 779,kK "Moves" [.type "object"] [.ref 779,.type "object"] 778 [] none 1213 1221 "object.__new__")::
(nat_lit 780,⟨.type "getset_descriptor", none,(.fields #[.str "__dict__" 1256,.ref 779,.builtin "function.__dict__",.builtin "function.__dict__#set"]), #[]⟩)::
(nat_lit 781,⟨.type "getset_descriptor", none,(.fields #[.str "__weakref__" 1258,.ref 779,.builtin "ExceptionGroup.__weakref__",.none]), #[]⟩)::
(nat_lit 789,kd "do_with_worth" 1263 444 4 3 784 1270)::
(nat_lit 790,kf "do_with_worth" (top 59) y10 789)::
(nat_lit 796,kd "do_with_two" 1273 451 4 3 791 1280)::
(nat_lit 797,kf "do_with_two" (top 60) y10 796)::
(nat_lit 803,kd "do_with_three" 1283 462 5 3 798 1291)::
(nat_lit 804,kf "do_with_three" (top 61) y10 803)::
(nat_lit 810,kd "do_deed" 1294 475 2 3 805 1300)::
(nat_lit 811,kf "do_deed" (top 62) y10 810)::
(nat_lit 817,kd "holds" 1303 483 2 3 812 1308)::
(nat_lit 818,kf "holds" (top 63) y10 817)::
(nat_lit 824,kd "row_behind" 1311 489 4 3 819 1319)::
(nat_lit 825,kf "row_behind" (top 64) y10 824)::
(nat_lit 831,kd "gone_through" 1322 500 3 3 826 1332)::
(nat_lit 832,kf "gone_through" (top 65) y10 831)::
(nat_lit 838,kd "go" 1335 516 3 3 833 1341)::
(nat_lit 839,kf "go" (top 66) y10 838)::
(nat_lit 845,kd "plain_run" 1344 518 2 3 840 1349)::
(nat_lit 846,kf "plain_run" (top 67) y10 845)::
(nat_lit 850,kn "_law_bag" 1354 521 1 3 847 1357)::
(nat_lit 851,kf "_law_bag" (top 69) y11 850)::
(nat_lit 857,kd "_law_draw" 1360 526 2 3 852 1366)::
(nat_lit 858,kf "_law_draw" (top 70) y11 857)::
(nat_lit 864,kd "_law_reckoned" 1369 537 3 3 859 1375)::
(nat_lit 865,kf "_law_reckoned" (top 71) y11 864)::
(nat_lit 871,kd "_law_deed_done" 1378 545 2 3 866 1384)::
(nat_lit 872,kf "_law_deed_done" (top 72) y11 871)::
(nat_lit 878,kd "_law_done" 1387 580 2 3 873 1395)::
(nat_lit 879,kf "_law_done" (top 73) y11 878)::
(nat_lit 883,kn "_law_alike" 1398 593 2 3 880 1401)::
(nat_lit 884,kf "_law_alike" (top 74) y11 883)::
(nat_lit 890,kd "_law_any_number" 1404 603 1 3 885 1410)::
(nat_lit 891,kf "_law_any_number" (top 75) y11 890)::
(nat_lit 897,kd "_law_letters" 1413 611 0 3 892 1416)::
(nat_lit 898,kf "_law_letters" (top 76) y11 897)::
(nat_lit 904,kd "_law_part" 1419 613 3 3 899 1426)::
(nat_lit 905,kf "_law_part" (top 77) y11 904)::
(nat_lit 909,kn "_law_any_row" 1429 620 3 3 906 1432)::
(nat_lit 910,kf "_law_any_row" (top 78) y11 909)::
(nat_lit 914,kn "_law_any_script" 1435 622 1 3 911 1438)::
(nat_lit 915,kf "_law_any_script" (top 79) y11 914)::
(nat_lit 921,kd "_law_body_row" 1441 627 4 3 916 1461)::
(nat_lit 922,kf "_law_body_row" (top 80) y11 921)::
(nat_lit 926,kn "_law_long_script" 1464 644 1 3 923 1467)::
(nat_lit 927,kf "_law_long_script" (top 81) y11 926)::
(nat_lit 933,kd "_law_own_kind" 1470 655 1 3 928 1474)::
(nat_lit 934,kf "_law_own_kind" (top 82) y11 933)::
(nat_lit 940,kd "_law_own_numbers" 1477 661 2 3 935 1490)::
(nat_lit 941,kf "_law_own_numbers" (top 83) y11 940)::
(nat_lit 947,kd "_law_own_do" 1493 671 2 3 942 1502)::
(nat_lit 948,kf "_law_own_do" (top 84) y11 947)::
(nat_lit 954,kd "_law_own_ask" 1505 695 2 3 949 1513)::
(nat_lit 955,kf "_law_own_ask" (top 85) y11 954)::
(nat_lit 961,kd "_law_row_done" 1516 708 2 3 956 1523)::
(nat_lit 962,kf "_law_row_done" (top 86) y11 961)::
(nat_lit 968,kd "_law_deed_of" 1526 716 1 3 963 1530)::
(nat_lit 969,kf "_law_deed_of" (top 87) y11 968)::
(nat_lit 975,kd "_law_row_gone" 1533 722 4 3 970 1543)::
(nat_lit 976,kf "_law_row_gone" (top 88) y11 975)::
(nat_lit 982,kd "_law_walk" 1546 736 3 3 977 1556)::
(nat_lit 983,kf "_law_walk" (top 89) y11 982)::
(nat_lit 989,kd "_law_fresh" 1559 744 0 3 984 1562)::
(nat_lit 990,kf "_law_fresh" (top 90) y11 989)::
(nat_lit 994,kn "_law_some_script" 1565 746 2 3 991 1568)::
(nat_lit 995,kf "_law_some_script" (top 91) y11 994)::
(nat_lit 1001,kd "_law_some_deeds" 1571 751 3 3 996 1583)::
(nat_lit 1002,kf "_law_some_deeds" (top 92) y11 1001)::
(nat_lit 1006,kn "_law_gone_by_hand" 1586 763 3 3 1003 1589)::
(nat_lit 1007,kf "_law_gone_by_hand" (top 93) y11 1006)::
(nat_lit 1013,kd "law" 1592 776 1 3 1008 1604)::
(nat_lit 1014,kf "law" (top 94) y11 1013)::
[]
def KA:List Addr:=[2,3,15,22,23,24,25,28,40,41,42,43,44,47,54,55,56,59,66,67,68,76,77,83,84,90,91,97,98,104,105,109,110,116,117,121,122,128,129,135,136,142,143,149,150,163,164,165,166,167,168,169,177,178,191,192,198,199,205,206,212,213,219,220,226,227,233,234,240,241,247,248,254,255,261,262,268,269,275,276,282,283,289,290,296,297,303,304,310,311,317,318,324,325,326,327,328,329,330,333,339,340,346,347,353,354,360,361,367,368,374,375,381,382,388,389,395,396,402,403,409,410,416,417,423,424,430,431,435,436,440,441,442,448,449,455,456,469,470,476,477,483,484,490,491,497,498,504,505,511,512,518,519,525,526,532,533,539,540,546,547,553,554,560,561,567,568,574,575,581,582,588,589,595,596,602,603,609,610,616,617,623,624,630,631,637,638,644,645,651,652,658,659,660,661,662,663,664,672,673,686,687,693,694,700,701,707,708,714,715,721,722,728,729,735,736,737,738,739,740,741,747,748,761,762,768,769,775,776,777,778,779,780,781,789,790,796,797,803,804,810,811,817,818,824,825,831,832,838,839,845,846,850,851,857,858,864,865,871,872,878,879,883,884,890,891,897,898,904,905,909,910,914,915,921,922,926,927,933,934,940,941,947,948,954,955,961,962,968,969,975,976,982,983,989,990,994,995,1001,1002,1006,1007,1013,1014]
theorem K_as:∀P,KA=(K P).map (·.1):=λ_=>by kernel_rfl
noncomputable def KR(P:Params):Frag:=Hd.BR P++[]
def Q:List Nat:=[36,72,79,86,93,100,107,112,119,124,131,138,145,159,173,187,194,201,208,215,222,229,236,243,250,257,264,271,278,285,292,299,306,313,320,335,342,349,356,363,370,377,384,391,398,405,412,419,426,433,438,444,451,465,472,479,486,493,500,507,514,521,528,535,542,549,556,563,570,577,584,591,598,605,612,619,626,633,640,647,654,668,682,689,696,703,710,717,724,731,745,757,764,771,785,792,799,806,813,820,827,834,841,848,853,860,867,874,881,886,893,900,907,912,917,924,929,936,943,950,957,964,971,978,985,992,997,1004,1009]
noncomputable def vw:Program:=W.view PySem.Challenge.pw_markwords_k65_plain_runs [1,2,3,4,6,7,8,9,10,11,12,14,15,16,17,19,20,21,23,24,25,26,28,29,30,31,32,33,34,35,36,38,39,40,41,43,44,45,46,47,49,50,51,52,53,55,56,58,59,60,61,62,63,64,65,66,67,69,70,71,72,73,74,75,76,77,78,79,80,81,82,83,84,85,86,87,88,89,90,91,92,93,94]
def ls:List Str:=["KINDS_BY_MARK"]
def lv:List (Str×WData):=[]
noncomputable def Xt(s:Shared):Bool:=xlAt vw lv s&&recOk (RowW.records (OpenRow.toRowW (OpenLaw.row PySem.Challenge.rw_markwords_k65_plain_runs))) s
noncomputable def Lf(w:World)(os:OsState):=(Hd.topT treeTable PySem.Challenge.pw_markwords_k65_plain_runs w 11 (some (.ref 6)) 12424 (Hd.S0 w os) (topStub PySem.Challenge.pw_markwords_k65_plain_runs)).map (λs=>(s.n,s.gens,Q.map s.tree.get,(Hd.KX (K w.params) (KR w.params)).map λp=>s.tree.get p.1))
noncomputable def Rt(w:World)(_:OsState):Option (Nat×Array GenState×List (Option Obj)×List (Option Obj)):=some (1015, #[],Q.map (λ_=>some Hd.E0),(Hd.KX (K w.params) (KR w.params)).map λp=>some p.2)
theorem Lf_is:Lf=Lf:=rfl
theorem Rt_is:Rt=Rt:=rfl
name_quick MwLq for Lf by Lf_is
name_quick MwRq for Rt by Rt_is
theorem run0(w:World):Lf (World.withFollow w "special-get-raises" false)=Rt (World.withFollow w "special-get-raises" false):=
 (G2 PySem.W.Fast.MwLq_eq (World.withFollow w "special-get-raises" false)).trans (Eq.trans (by kernel_rfl:PySem.W.Fast.MwLq (World.withFollow w "special-get-raises" false)=PySem.W.Fast.MwRq (World.withFollow w "special-get-raises" false)) (G2 PySem.W.Fast.MwRq_eq (World.withFollow w "special-get-raises" false)).symm)
theorem run1(w:World):Lf (World.withFollow w "special-get-raises" true)=Rt (World.withFollow w "special-get-raises" true):=
 (G2 PySem.W.Fast.MwLq_eq (World.withFollow w "special-get-raises" true)).trans (Eq.trans (by kernel_rfl:PySem.W.Fast.MwLq (World.withFollow w "special-get-raises" true)=PySem.W.Fast.MwRq (World.withFollow w "special-get-raises" true)) (G2 PySem.W.Fast.MwRq_eq (World.withFollow w "special-get-raises" true)).symm)
theorem run(w:World):Lf w=Rt w:=byRow2 "special-get-raises" (P:=λw=>Lf w=Rt w) run0 run1 w
theorem L_eq(w:World)(os:OsState):Lf w os=(Hd.topT treeTable PySem.Challenge.pw_markwords_k65_plain_runs w 11 (some (.ref 6)) 12424 (Hd.S0 w os) (topStub PySem.Challenge.pw_markwords_k65_plain_runs)).map (λs=>(s.n,s.gens,Q.map s.tree.get,(Hd.KX (K w.params) (KR w.params)).map λp=>s.tree.get p.1)):=by delta Lf;exact Eq.refl _
theorem R_eq(w:World)(os:OsState):Rt w os=some (1015, #[],Q.map (λ_=>some Hd.E0),(Hd.KX (K w.params) (KR w.params)).map λp=>some p.2):=by delta Rt;exact Eq.refl _
noncomputable def LfA(w:World)(f:Nat->Obj)(l:Life)(d:Drawn)(k:Nat)(os:OsState):=Hd.LkA PySem.Challenge.pw_markwords_k65_plain_runs vw w (Hd.SE (K w.params) (KR w.params) Q 1015 f l d k os)
noncomputable def RtA(w:World)(f:Nat->Obj)(l:Life)(d:Drawn)(k:Nat)(os:OsState):=Hd.GdA vw
theorem LfA_is:LfA=LfA:=rfl
name_quick MwLAq for LfA by LfA_is
theorem RtA_is:RtA=RtA:=rfl
name_quick MwRAq for RtA by RtA_is
theorem lookA(w:World):LfA (w)=RtA (w):=
 (G2 PySem.W.Fast.MwLAq_eq (w)).trans (Eq.trans (by kernel_rfl:PySem.W.Fast.MwLAq (w)=PySem.W.Fast.MwRAq (w)) (G2 PySem.W.Fast.MwRAq_eq (w)).symm)
theorem HA_eq(w:World)(f:Nat->Obj)(l:Life)(d:Drawn)(k:Nat)(os:OsState):Hd.LkA PySem.Challenge.pw_markwords_k65_plain_runs vw w (Hd.SE (K w.params) (KR w.params) Q 1015 f l d k os)=Hd.GdA vw:=Eq.trans (by delta LfA;exact Eq.refl _:_=LfA w f l d k os) ((G2 (G2 (G2 (G2 (G2 (lookA w) f) l) d) k) os).trans (by delta RtA;exact Eq.refl _))
noncomputable def LfB(w:World)(f:Nat->Obj)(l:Life)(d:Drawn)(k:Nat)(os:OsState):=(λs=>(Hd.LkB PySem.Challenge.pw_markwords_k65_plain_runs vw ls Xt s,tabsOk vw s)) (Hd.SE (K w.params) (KR w.params) Q 1015 f l d k os)
noncomputable def RtB(w:World)(f:Nat->Obj)(l:Life)(d:Drawn)(k:Nat)(os:OsState):=(true,true)
theorem LfB_is:LfB=LfB:=rfl
name_quick MwLBq for LfB by LfB_is
theorem lookB(w:World):LfB w=RtB w:=(G2 PySem.W.Fast.MwLBq_eq w).trans (by kernel_rfl)
theorem HB_eq(w:World)(f:Nat->Obj)(l:Life)(d:Drawn)(k:Nat)(os:OsState):(λs=>(Hd.LkB PySem.Challenge.pw_markwords_k65_plain_runs vw ls Xt s,tabsOk vw s)) (Hd.SE (K w.params) (KR w.params) Q 1015 f l d k os)=(true,true):=Eq.trans (by delta LfB;exact Eq.refl _:_=LfB w f l d k os) ((G2 (G2 (G2 (G2 (G2 (lookB w) f) l) d) k) os).trans (by delta RtB;exact Eq.refl _))
noncomputable def LfD(w:World)(f:Nat->Obj)(l:Life)(d:Drawn)(k:Nat)(os:OsState):=Hd.LkD vw ls (Hd.SE (K w.params) (KR w.params) Q 1015 f l d k os)
noncomputable def RtD(w:World)(f:Nat->Obj)(l:Life)(d:Drawn)(k:Nat)(os:OsState):=Hd.GdD vw ls
theorem LfD_is:LfD=LfD:=rfl
name_quick MwLDq for LfD by LfD_is
theorem RtD_is:RtD=RtD:=rfl
name_quick MwRDq for RtD by RtD_is
theorem lookD(w:World):LfD (w)=RtD (w):=
 (G2 PySem.W.Fast.MwLDq_eq (w)).trans (Eq.trans (by kernel_rfl:PySem.W.Fast.MwLDq (w)=PySem.W.Fast.MwRDq (w)) (G2 PySem.W.Fast.MwRDq_eq (w)).symm)
theorem HD_eq(w:World)(f:Nat->Obj)(l:Life)(d:Drawn)(k:Nat)(os:OsState):Hd.LkD vw ls (Hd.SE (K w.params) (KR w.params) Q 1015 f l d k os)=Hd.GdD vw ls:=Eq.trans (by delta LfD;exact Eq.refl _:_=LfD w f l d k os) ((G2 (G2 (G2 (G2 (G2 (lookD w) f) l) d) k) os).trans (by delta RtD;exact Eq.refl _))
noncomputable def LfC(w:World)(f:Nat->Obj)(l:Life)(d:Drawn)(k:Nat)(os:OsState):=(kHook K KA K_as).obs (Hd.SE (K w.params) (KR w.params) Q 1015 f l d k os)
noncomputable def RtC(w:World)(f:Nat->Obj)(l:Life)(d:Drawn)(k:Nat)(os:OsState):=(kHook K KA K_as).val w
theorem LfC_is:LfC=LfC:=rfl
name_quick MwLCq for LfC by LfC_is
theorem RtC_is:RtC=RtC:=rfl
name_quick MwRCq for RtC by RtC_is
theorem lookC(w:World):LfC (w)=RtC (w):=
 (G2 PySem.W.Fast.MwLCq_eq (w)).trans (Eq.trans (by kernel_rfl:PySem.W.Fast.MwLCq (w)=PySem.W.Fast.MwRCq (w)) (G2 PySem.W.Fast.MwRCq_eq (w)).symm)
theorem HC_eq(w:World)(f:Nat->Obj)(l:Life)(d:Drawn)(k:Nat)(os:OsState):(kHook K KA K_as).obs (Hd.SE (K w.params) (KR w.params) Q 1015 f l d k os)=(kHook K KA K_as).val w:=Eq.trans (by delta LfC;exact Eq.refl _:_=LfC w f l d k os) ((G2 (G2 (G2 (G2 (G2 (lookC w) f) l) d) k) os).trans (by delta RtC;exact Eq.refl _))
theorem hLf9:LeftO PySem.Challenge.pw_markwords_k65_plain_runs vw ls Xt (kHook K KA K_as).obs (kHook K KA K_as).val 12424 :=
 Hd.left_ofE (R:=KR) (Q:=Q) (M:=12424) (n:=1015) (by kernel_rfl) (by decide) (λ_=>by kernel_rfl) (by decide) (λw os=>(L_eq w os).symm.trans ((G2 (run w) os).trans (R_eq w os))) (λw f l d k os=>Hd.look3 (HA_eq w f l d k os) (HB_eq w f l d k os) (HD_eq w f l d k os) (HC_eq w f l d k os)) Hd.boot_main
end Mx
set_option bootstrap.genMatcherCode false
set_option genSizeOf false
set_option genSizeOfSpec false
set_option tactic.hygienic false
namespace L2
open PySem PySem.Spec PyProof.Rows
theorem Xx(h:Q 4238894112 { s with toks:=s.toks+1 }):wpAny (model prog w) A (pyHash .none) Q E s:=by
 unfold pyHash;have hv:[Value.none].any Value.onHeap=false:=rfl;refine GU ?_;rw[cRoomFor,GZ (by rw[hv];exact U6)];refine GV ?_;refine GU (Ux (UN s) F.slot_NoneType_hash.lookup ?_);show wpAny _ _ (if(some (Value.builtin "NoneType.__hash__")==some Value.none)=true then _ else _) Q E s;rw[GZ (by rw[beq_builtin_none];exact U6)];refine GU (Ux (UN s) F.slot_NoneType_hash.lookup ?_);show wpAny _ _ (callSpecialIfBoundUnlessNone? .none "__hash__" _ >>= _) Q E s;refine GU (wpAny_callSpecialIfBoundUnlessNone?_slot (UN s) F.slot_NoneType_hash
  (UJ F.slot_NoneType_hash (UN s) F.entry_NoneType_hash
   (show wpAny _ _ (do ret (<-mkInt 4238894112)) _ _ s from wpAny_ret_mkInt ?_) (F.args_NoneType_hash_1 _)))
 show wpAny _ _ (if(decide (-(2:Int)^63<=4238894112)&&decide ((4238894112:Int)<2^63))=true then _ else _) Q E _;rw[G4 (by decide)];exact GV h
inductive Key where
 |inl (i:Int)|inr (x:Str)|non
 deriving DecidableEq
noncomputable def XS:Key->Value->Bool
 |.inl k,v=>Value.isInt k v
 |.inr x,v=>Value.isStrOf x v
 |.non,.none=>true
 |.non,_=>false
noncomputable def keyH(w:World):Key->Int
 |.inl k=>hashInt k
 |.inr x=>hashStr w x
 |.non=>4238894112
theorem va:∀{k:Key}{v:Value},XS k v=true->(∃i t,k=Key.inl i/\v=Value.int i t)\/(∃x t,k=Key.inr x/\v=Value.str x t)\/(k=Key.non/\v=Value.none)
 |.inl i,v,h=>by
  obtain⟨t,e⟩:=Value.isInt_shape (k:=i) (v:=v) h;exact .inl ⟨i,t,rfl,e⟩
 |.inr x,v,h=>by
  obtain⟨t,e⟩:=Value.isStrOf_shape (x:=x) (v:=v) h;exact .inr (.inl ⟨x,t,rfl,e⟩)
 |.non,v,h=>by
  cases v<;>first|exact .inr (.inr ⟨rfl,rfl⟩)|exact absurd h (by simp[XS])
theorem WH(i:Int)(t:Tok):XS (.inl i) (.int i t)=true:=by simp[XS,Value.isInt]
theorem WG(x:Str)(t:Tok):XS (.inr x) (.str x t)=true:=by simp[XS,Value.isStrOf]
theorem q6r(a b:Int):decide ((Key.inl a:Key)=Key.inl b)=(a==b):=by
 by_cases e:a=b
 ·subst e;simp
 ·have h:¬(Key.inl a:Key)=Key.inl b:=λq=>e (Key.inl.inj q)
  rw[G0 h];exact(beq_eq_false_iff_ne.mpr e).symm
theorem q4J(a b:Str):decide ((Key.inr a:Key)=Key.inr b)=decide (a=b):=by
 by_cases e:a=b
 ·subst e;simp
 ·have h:¬(Key.inr a:Key)=Key.inr b:=λq=>e (Key.inr.inj q)
  rw[G0 h,G0 e]
theorem q4T(a:Int)(b:Str):decide ((Key.inl a:Key)=Key.inr b)=false:=G0 (λq=>nomatch q)
theorem q5G(a:Str)(b:Int):decide ((Key.inr a:Key)=Key.inl b)=false:=G0 (λq=>nomatch q)
noncomputable def qV(prog:Program)(w:World):PySem.KeyKind prog w Key where
 is:=XS
 hash:=keyH w
 inj:=λv a b ha hb=>by
  rcases va ha with⟨i,t,rfl,rfl⟩|⟨x,t,rfl,rfl⟩|⟨rfl,rfl⟩
  ·rcases va hb with⟨j,u,rfl,e⟩|⟨y,u,rfl,e⟩|⟨rfl,e⟩
   ·injection e with e1 _;rw[e1]
   ·exact nomatch e
   ·exact nomatch e
  ·rcases va hb with⟨j,u,rfl,e⟩|⟨y,u,rfl,e⟩|⟨rfl,e⟩
   ·exact nomatch e
   ·injection e with e1 _;rw[e1]
   ·exact nomatch e
  ·rcases va hb with⟨j,u,rfl,e⟩|⟨y,u,rfl,e⟩|⟨rfl,e⟩
   ·exact nomatch e
   ·exact nomatch e
   ·rfl
 byValue:=λk v h=>by
  rcases va h with⟨i,t,rfl,rfl⟩|⟨x,t,rfl,rfl⟩|⟨rfl,rfl⟩<;>rfl
 pyHash:=λhv h=>by
  rcases va hv with⟨i,t,rfl,rfl⟩|⟨x,t,rfl,rfl⟩|⟨rfl,rfl⟩
  ·exact wpAny_pyHash_int h
  ·exact wpAny_pyHash_str h
  ·exact Xx h
 eqBool:=λhu hv h=>by
  rcases va hu with⟨i,t,rfl,rfl⟩|⟨x,t,rfl,rfl⟩|⟨rfl,rfl⟩
  ·rcases va hv with⟨j,u,rfl,rfl⟩|⟨y,u,rfl,rfl⟩|⟨rfl,rfl⟩
   ·rw[q6r]at h;exact wpAny_eqBool_int h
   ·rw[q4T]at h;exact SeqAt.EqAt.int_str i t y u _ _ _ _ h
   ·exact SeqAt.EqAt.int_none i t _ _ _ _ h
  ·rcases va hv with⟨j,u,rfl,rfl⟩|⟨y,u,rfl,rfl⟩|⟨rfl,rfl⟩
   ·rw[q5G]at h;exact SeqAt.EqAt.str_int x t j u _ _ _ _ h
   ·rw[q4J]at h;exact wpAny_eqBool_str h
   ·exact SeqAt.EqAt.str_none x t _ _ _ _ h
  ·rcases va hv with⟨j,u,rfl,rfl⟩|⟨y,u,rfl,rfl⟩|⟨rfl,rfl⟩
   ·exact SeqAt.EqAt.none_int j u _ _ _ _ h
   ·exact SeqAt.EqAt.none_str y u _ _ _ _ h
   ·exact SeqAt.EqAt.same .none _ _ _ _ h
 «strs»:=λk x t v h=>by
  rcases va h with⟨i,u,rfl,e⟩|⟨y,u,rfl,e⟩|⟨rfl,e⟩
  ·exact nomatch e
  ·injection e with e1 _
   subst e1;cases v<;>rfl
  ·exact nomatch e
theorem XM(prog:Program)(w:World)(i:Int)(t:Tok):(qV prog w).is (.inl i) (.int i t)=true:=WH i t
theorem xJ(prog:Program)(w:World)(x:Str)(t:Tok):(qV prog w).is (.inr x) (.str x t)=true:=WG x t
inductive V where
 |non|bl (b:Bool)|int (i:Int)|str (x:Str)|byt (b:Array UInt8)|flt (b:UInt64)|ref (a:Addr)|ty (n:String)
 deriving DecidableEq
noncomputable def RelV:V->Value->Prop
 |.non,u=>u=Value.none
 |.bl b,u=>u=Value.bool b
 |.int i,u=>∃t,u=Value.int i t
 |.str x,u=>∃t,u=Value.str x t
 |.byt b,u=>∃t,u=Value.bytes b t
 |.flt b,u=>∃t,u=Value.float b t
 |.ref a,u=>u=Value.ref a
 |.ty n,u=>u=Value.type n
noncomputable abbrev Vals:List V->List Value->Prop:=Paired RelV
theorem Vals.length(r:Vals xs us):xs.length=us.length:=Paired.length r
theorem Vals.get:∀{xs:List V}{us:List Value}{i:Nat}{x:V},Vals xs us->xs[i]?=some x->∃u,us[i]?=some u/\RelV x u
 |_,_,_,_,.nil,e=>by simp at e
 |_,_,0,_,.cons r _,e=>by simp at e;subst e;exact⟨_,rfl,r⟩
 |_,_,i+1,x,.cons _ t,e=>by
  obtain⟨u,h1,h2⟩:=Vals.get (i:=i) (x:=x) t (by simpa using e);exact⟨u,by simpa using h1,h2⟩
theorem Vals.set(r:RelV x u):∀{xs:List V}{us:List Value}(i:Nat),Vals xs us->Vals (xs.set i x) (us.set i u)
 |_,_,_,.nil=>.nil
 |_,_,0,.cons _ t=>.cons r t
 |_,_,i+1,.cons q t=>.cons q (Vals.set r i t)
theorem Vals.append:∀{xs ys:List V}{us ws:List Value},Vals xs us->Vals ys ws->Vals (xs++ys) (us++ws)
 |_,_,_,_,.nil,s=>s
 |_,_,_,_,.cons r t,s=>.cons r (Vals.append t s)
theorem Vals.take:∀{xs:List V}{us:List Value}(n:Nat),Vals xs us->Vals (xs.take n) (us.take n)
 |_,_,0,_=>.nil
 |_,_,_+1,.nil=>.nil
 |_,_,n+1,.cons r t=>.cons r (Vals.take n t)
theorem Vals.drop:∀{xs:List V}{us:List Value}(n:Nat),Vals xs us->Vals (xs.drop n) (us.drop n)
 |_,_,0,r=>r
 |_,_,_+1,.nil=>.nil
 |_,_,n+1,.cons _ t=>Vals.drop n t
noncomputable def RelO:Option V->Option Value->Prop
 |some v,some u=>RelV v u
 |none,none=>True
 |_,_=>False
noncomputable def KV{κ:Type}:List (κ×V)->List (κ×Value)->Prop:=Paired λ(p:κ×V) (q:κ×Value)=>p.1=q.1/\RelV p.2 q.2
noncomputable def kV:Key->V
 |.inl i=>.int i
 |.inr x=>.str x
 |.non=>.non
inductive HO where
  |lst (xs:List V)
  |tup (xs:List V)
  |dK (kvs:List (Key×V))|dT (kvs:List (List Key×V))
  |set (S:Int->Bool) (n:Nat)
  |ins (C dx:Addr) (fs:List (Str×V))
  |own (x:Addr)
  |xd (fs:List (Str×V))
  |met (f x:Addr)
  |rng (lo hi:Int)
  |frz (o:Obj) (u:HO)
  |tbl (ps:Array Value)
  |ext (φ:Heap->Prop)
noncomputable abbrev Hp:=Addr->Option HO
noncomputable def upd(H:Hp)(a:Addr)(o:HO):Hp:=λb=>if b=a then some o else H b
theorem upd_same:upd H a o a=some o:=by unfold upd;rw[G4 rfl]
theorem upd_ne(h:b≠a):upd H a o b=H b:=by unfold upd;rw[GZ h]
theorem qU{H:Hp}(h:H a=some o)(h':H b=none):a≠b:=by
 intro e;subst e;rw[h]at h';cases h'
section
variable (P:Program) (w:World)
noncomputable def ObjOk(H:Hp)(h:Heap)(a:Addr):HO->Prop
 |.lst xs=>xs.length<=sizeLine/\∃(its:List Value)(n:Nat),Vals xs its/\h.get? a=some { cls:=.type "list", data:=.seq its.toArray n }
 |.tup xs=>xs.length<=sizeLine/\∃its:List Value,Vals xs its/\IsTup h a its.toArray
 |.dK kvs=>kvs.length<=sizeLine/\(a==sysModules)=false/\∃vs,KV kvs vs/\h.DictOf (qV P w) a vs
 |.dT kvs=>kvs.length<=sizeLine/\(a==sysModules)=false/\∃xs:List (List Key×Addr×Value),
   Paired (λ(p:List Key×V) (q:List Key×Addr×Value)=>p.1=q.1/\H q.2.1=some (.tup (p.1.map kV))/\RelV p.2 q.2.2) kvs xs /\
   ∃o es ep,h.get? a=some o/\o.ExactDict/\o.data=.dict es ep/\es.toList=xs.map (entryOfKey (tupleKind (qV P w)))/\(xs.map (·.1)).Nodup
 |.set S n=>h.SetOf (intKind P w) a S n
 |.ins C dx fs=>H dx=some (.own a)/\fs.length<=1000/\dx≠a/\h.get? a=some (W.instObj C dx) /\
   ∃mA,h.Ns1 dx mA/\(∀f,RelO (fs.lookup f) (mA f))/\PySem.Within mA (fs.map (·.1))
 |.own _=>∃o,h.get? a=some o
 |.xd fs=>∃mA,h.Ns1 a mA/\∀f,RelO (fs.lookup f) (mA f)
 |.rng lo hi=>∃t u v,h.get? a=some { cls:=.type "range", data:=.fields #[.int lo t,.int hi u,.int 1 v] }
 |.frz o u=>h.get? a=some o/\ObjOk H h a u
 |.tbl ps=>h.get? a=some { cls:=.none,data:=.fields ps }
 |.met f x=>h.get? a=some (W.methodObj (.ref f) (.ref x))
 |.ext φ=>φ h/\(∃o,h.get? a=some o)/\∀h1 h2:Heap,φ h1->(∀o,h1.get? a=some o->h2.get? a=some o)->φ h2
noncomputable def HOk(H:Hp)(h:Heap):Prop:=∀a o,H a=some o->ObjOk P w H h a o
end
theorem ObjOk.lt(x:ObjOk P w H h a o):a<h.objs.size:=by
 cases o with
 |lst xs=>obtain⟨_,_,_,_,e⟩:=x;exact Heap.lt_size e
 |tup xs=>obtain⟨_,_,_,p⟩:=x;exact p.lt
 |dK kvs=>obtain⟨_,_,_,_,o,_,_,e,_⟩:=x;exact Heap.lt_size e
 |dT kvs=>obtain⟨_,_,_,_,o,_,_,e,_⟩:=x;exact Heap.lt_size e
 |set S n=>obtain⟨o,_,_,_,e,_⟩:=x;exact Heap.lt_size e
 |ins C dx fs=>obtain⟨_,_,_,e,_⟩:=x;exact Heap.lt_size e
 |own y=>obtain⟨_,e⟩:=x;exact Heap.lt_size e
 |xd fs=>obtain⟨_,⟨_,_,_,e,_⟩,_⟩:=x;exact Heap.lt_size e
 |rng lo hi=>obtain⟨_,_,_,e⟩:=x;exact Heap.lt_size e
 |frz ob u=>obtain⟨e,_⟩:=x;exact Heap.lt_size e
 |tbl ps=>exact Heap.lt_size (show h.get? a=some _ from x)
 |met f y=>exact Heap.lt_size (show h.get? a=some _ from x)
 |ext φ=>obtain⟨_,⟨_,e⟩,_⟩:=x;exact Heap.lt_size e
theorem Paired.mapP{α β:Type}{F G:α->β->Prop}:∀{gg:List α}{gh:List β},Paired F gg gh->(∀a b,F a b->G a b)->Paired G gg gh
 |_,_,.nil,_=>.nil
 |_,_,.cons r t,f=>.cons (f _ _ r) (Paired.mapP t f)
theorem ObjOk.stay(x:ObjOk P w H h a o)(k:∀b u,(b=a\/H b=some (.own a))->h.get? b=some u->h'.get? b=some u)(ho:∀b,H b=some (.own a)->H' b=some (.own a))(ht:∀b xs,H b=some (.tup xs)->H' b=some (.tup xs)):ObjOk P w H' h' a o:=by
 induction o with
 |lst xs=>obtain⟨z,its,n,r,e⟩:=x;exact⟨z,its,n,r,k _ _ (.inl rfl) e⟩
 |tup xs=>obtain⟨z,its,r,ob,e,c⟩:=x;exact⟨z,its,r,ob,k _ _ (.inl rfl) e,c⟩
 |dK kvs=>obtain⟨z,y,vs,r,ob,es,ep,e,c⟩:=x;exact⟨z,y,vs,r,ob,es,ep,k _ _ (.inl rfl) e,c⟩
 |dT kvs=>
  obtain⟨z,y,xs,r,ob,es,ep,e,c⟩:=x;exact⟨z,y,xs,Paired.mapP r λp q z=>⟨z.1,ht _ _ z.2.1,z.2.2⟩,ob,es,ep,k _ _ (.inl rfl) e,c⟩
 |set S n=>obtain⟨ob,es,ep,t,e,c⟩:=x;exact⟨ob,es,ep,t,k _ _ (.inl rfl) e,c⟩
 |ins C dx fs=>
  obtain⟨d,z,ne,e,mA,⟨od,es,ep,e2,c⟩,r⟩:=x;exact⟨ho _ d,z,ne,k _ _ (.inl rfl) e,mA,⟨od,es,ep,k _ _ (.inr d) e2,c⟩,r⟩
 |own y=>obtain⟨ob,e⟩:=x;exact⟨ob,k _ _ (.inl rfl) e⟩
 |xd fs=>obtain⟨mA,⟨od,es,ep,e,c⟩,r⟩:=x;exact⟨mA,⟨od,es,ep,k _ _ (.inl rfl) e,c⟩,r⟩
 |rng lo hi=>obtain⟨t,u,v,e⟩:=x;exact⟨t,u,v,k _ _ (.inl rfl) e⟩
 |frz ob u ih=>obtain⟨e,q⟩:=x;exact⟨k _ _ (.inl rfl) e,ih q⟩
 |tbl ps=>
  have e:h.get? a=some { cls:=.none,data:=.fields ps }:=x;show h'.get? a=some { cls:=.none,data:=.fields ps };exact k a _ (.inl rfl) e
 |met f y=>
  have e:h.get? a=some (W.methodObj (.ref f) (.ref y)):=x;show h'.get? a=some (W.methodObj (.ref f) (.ref y));exact k a _ (.inl rfl) e
 |ext φ=>obtain⟨p,⟨o,e⟩,st⟩:=x;exact⟨st _ _ p λo q=>k _ _ (.inl rfl) q,⟨o,k _ _ (.inl rfl) e⟩,st⟩
theorem HOk.lt(x:HOk P w H h)(e:H a=some o):a<h.objs.size:=(x a o e).lt
theorem HOk.fresh(x:HOk P w H h)(e:h.objs.size<=a):H a=none:=by
 cases q:H a with
 |none=>rfl
 |some u=>exact absurd (Dc (x.lt q) e) (D3 _)
theorem HOk.kept(x:HOk P w H h)(k:∀b u,h.get? b=some u->h'.get? b=some u):HOk P w H h':=λa o e=>
 (x a o e).stay (λb u _a q=>k b u q) (λ_a q=>q) λ_a _a q=>q
theorem HOk.laid(x:HOk P w H h)(k:∀b u,h.get? b=some u->h'.get? b=some u)(hp:h.objs.size<=a)(new:ObjOk P w (upd H a o) h' a o):HOk P w (upd H a o) h':=λb u e=>by
 have hn:=x.fresh hp;by_cases hb:b=a
 ·subst hb;rw[upd_same]at e;cases e;exact new
 ·rw[upd_ne hb]at e
  exact(x b u e).stay (λc v _a q=>k c v q) (λc q=>by rw[upd_ne (qU q hn)];exact q) λc xs q=>by rw[upd_ne (qU q hn)];exact q
noncomputable def Rd(H:Hp)(a:Addr)(u:HO):Prop:=H a=some u\/∃o,H a=some (.frz o u)
theorem Rd.ok(r:Rd H a u)(x:HOk P w H h):ObjOk P w H h a u:=by
 rcases r with r|⟨o,r⟩
 ·exact x a u r
 ·obtain⟨_,q⟩:=x a _ r
  exact q
noncomputable def Mut:Option HO->Prop
 |some (.lst _)=>True
 |some (.dK _)=>True
 |some (.dT _)=>True
 |some (.set _ _)=>True
 |some (.ins _ _ _)=>True
 |some (.ext _)=>True
 |_=>False
theorem HOk.write(ok:HOk P w H h)(mu:Mut (H x))(he:e=x\/H e=some (.own x))(k:∀b u,b≠e->h.get? b=some u->h'.get? b=some u)(fS:∃u,h'.get? e=some u)(new:ObjOk P w (upd H x o') h' x o'):HOk P w (upd H x o') h':=λb u q=>by
 have gi:∀c y,H c=some (.own y)->c≠x:=λc y r z=>by subst z;rw[r]at mu;exact mu
 have iM:∀c xs,H c=some (.tup xs)->c≠x:=λc xs r z=>by subst z;rw[r]at mu;exact mu
 by_cases hb:b=x
 ·subst hb;rw[upd_same]at q;cases q;exact new
 ·rw[upd_ne hb]at q
  by_cases dY:b=e
  ·have q':H b=some (.own x):=by
    rcases he with z|z
    ·exact absurd (dY.trans z) hb
    ·rw[dY];exact z
   rw[q]at q';cases q';obtain⟨v,hv⟩:=fS;exact⟨v,by rw[dY];exact hv⟩
  ·refine(ok b u q).stay (λc v hc r=>k c v ?_ r) (λc r=>by rw[upd_ne (gi c b r)];exact r) λc xs r=>by rw[upd_ne (iM c xs r)];exact r
   rcases hc with rfl|hc
   ·exact dY
   ·rintro rfl
    rcases he with z|z
    ·exact gi c b hc z
    ·rw[hc]at z;cases z;exact hb rfl
structure Un(fs ex:List Addr)(H H':Hp)(h h':Heap):Prop where
 keep:∀b o,h.get? b=some o->H b=none->b∉fs->b∉ex->h'.get? b=some o
 slot:∀b o,h.get? b=some o->H b=none->b∈fs->b∉ex->∃sl,h'.get? b=some { o with slots:=sl }
 free:∀b o,h.get? b=some o->H b=none->b∉ex->H' b=none
 there:∀b o,h.get? b=some o->b∉ex->∃o',h'.get? b=some o'
 tups:∀b xs,H b=some (.tup xs)->H' b=some (.tup xs)
 frzs:∀b o u,H b=some (.frz o u)->H' b=some (.frz o u)
 tbls:∀b ps,H b=some (.tbl ps)->∃more,H' b=some (.tbl (ps++more))
theorem Un.any(u:Un fs ex H H1 h h1)(q:h.get? b=some ob)(n:H b=none)(hx:b∉ex):∃sl,h1.get? b=some { ob with slots:=sl }:=by
 by_cases hb:b∈fs
 ·exact u.slot b ob q n hb hx
 ·exact⟨ob.slots,u.keep b ob q n hb hx⟩
theorem Un.trans(a:Un fs ex H H1 h h1)(b:Un fs ex H1 H2 h1 h2):Un fs ex H H2 h h2 where
 keep:=λc ob q n hc hx=>b.keep c ob (a.keep c ob q n hc hx) (a.free c ob q n hx) hc hx
 slot:=λc ob q n hc hx=>by
  obtain⟨sl,e1⟩:=a.slot c ob q n hc hx;obtain⟨i6,e2⟩:=b.slot c _ e1 (a.free c ob q n hx) hc hx;exact⟨i6,e2⟩
 free:=λc ob q n hx=>by
  obtain⟨o',e1⟩:=a.there c ob q hx;exact b.free c o' e1 (a.free c ob q n hx) hx
 there:=λc ob q hx=>by
  obtain⟨o',e1⟩:=a.there c ob q hx;exact b.there c o' e1 hx
 tups:=λc xs q=>b.tups c xs (a.tups c xs q)
 frzs:=λc ob xs q=>b.frzs c ob xs (a.frzs c ob xs q)
 tbls:=λc ps q=>by
  obtain⟨m1,e1⟩:=a.tbls c ps q;obtain⟨m2,e2⟩:=b.tbls c _ e1;exact⟨m1++m2,by rw[e2,Rw]⟩
theorem Un.kept(k:∀b u,h.get? b=some u->h'.get? b=some u):Un fs ex H H h h' :=
 ⟨λb ob q _a _a _a=>k b ob q,λb ob q _a _a _a=>⟨ob.slots,k b ob q⟩,λ_a _a _a n _a=>n,λb ob q _a=>⟨ob,k b ob q⟩,λ_a _a q=>q,λ_a _a _a q=>q,λ_a ps q=>⟨#[],by rw[q];simp⟩⟩
theorem Un.refl:Un fs ex H H h h:=Un.kept λ_a _a q=>q
theorem Un.laid(k:∀b u,h.get? b=some u->h'.get? b=some u)(hp:h.objs.size<=a)(hn:H a=none):Un fs ex H (upd H a o) h h' where
 keep:=λb u q _a _a _a=>k b u q
 slot:=λb u q _a _a _a=>⟨u.slots,k b u q⟩
 free:=λb u q n _a=>by rw[upd_ne (De (Dc (Heap.lt_size q) hp))];exact n
 there:=λb u q _a=>⟨u,k b u q⟩
 tups:=λb xs q=>by rw[upd_ne (qU q hn)];exact q
 frzs:=λb u xs q=>by rw[upd_ne (qU q hn)];exact q
 tbls:=λb ps q=>⟨#[],by rw[upd_ne (qU q hn),q];simp⟩
theorem Un.write(mu:Mut (H x))(he:e=x\/H e=some (.own x))(k:∀b u,b≠e->h.get? b=some u->h'.get? b=some u)(fS:∃u,h'.get? e=some u):Un fs ex H (upd H x o) h h':=by
 have hx:∀b,H b=none->b≠x:=λb n z=>by subst z;rw[n]at mu;exact mu
 have hb:∀b,H b=none->b≠e:=λb n z=>by
  subst z;rcases he with r|r
  ·exact hx b n r
  ·rw[n]at r;cases r
 have hm:∀b u,H b=some u->¬Mut (some u)->b≠x:=λb u q nm z=>by subst z;rw[q]at mu;exact nm mu
 refine⟨λb u q n _a _a=>k b u (hb b n) q,λb u q n _a _a=>⟨u.slots,k b u (hb b n) q⟩,λb u q n _a=>by rw[upd_ne (hx b n)];exact n,λb u q _a=>?_,
  λb xs q=>by rw[upd_ne (hm b _ q λz=>z)];exact q,λb u xs q=>by rw[upd_ne (hm b _ q λz=>z)];exact q,λb ps q=>⟨#[],by rw[upd_ne (hm b _ q λz=>z),q];simp⟩⟩
 by_cases dY:b=e
 ·subst dY;exact fS
 ·exact⟨u,k b u dY q⟩
theorem Un.mono(u:Un fs ex H H1 h h1)(hs:∀b∈fs,b∈fs')(hx:∀b∈ex,b∈ex'):Un fs' ex' H H1 h h1 :=
 ⟨λb ob q n hb he=>u.keep b ob q n (λz=>hb (hs b z)) λz=>he (hx b z),λ_a _a q n _a he=>u.any q n λz=>he (hx _ z),λb ob q n he=>u.free b ob q n λz=>he (hx b z),λb ob q he=>u.there b ob q λz=>he (hx b z),u.tups,u.frzs,u.tbls⟩
noncomputable def trk(h:Heap)(H:Hp):List Addr:=(List.range h.objs.size).filter λa=>(H a).isSome
noncomputable def hidT(h:Heap)(H:Hp):Heap:=W.hideAll h (trk h H)
theorem WQ(h:Heap)(H:Hp):(hidT h H).objs.size=h.objs.size:=W.hideAll_size _ _
theorem q0r(e:h.get? b=some o)(n:H b=none):(hidT h H).get? b=some o :=
 D0 _ e λhm=>by
  have q:(H b).isSome=true:=(Rl.mp hm).2;rw[n]at q;simp at q
theorem q3Y(e:(hidT h H).get? b=some o):h.get? b=some o/\H b=none:=by
 have e':h.get? b=some o:=Bg (trk h H) e;refine⟨e',?_⟩;cases q:H b with
 |none=>rfl
 |some x=>
  have hm:b∈trk h H:=Rl.mpr ⟨Rf.mpr (Heap.lt_size e'),by simp[q]⟩;have z:(hidT h H).get? b=none:=DX (trk h H) hm;rw[z]at e;cases e
noncomputable def q3M(g h:Heap)(L:Addr):List (Addr×Obj):=(List.range h.objs.size).filterMap λa=>if a=L\/(g.get? a).isSome=true then none else(h.get? a).map λo=>(a,o)
noncomputable def rest(g h:Heap)(L d:Addr):List (Addr×Obj):=(q3M g h L).filter λp=>decide (p.1≠d)
structure Mod(Ξ:PySem.W.Frag)(mg:Str->Option Value)(base:Heap):Prop where
 kin:Ξ.In base
 glob:base.Ns mainGlobals mg
 blt:∃mb,base.Ns builtinsNs mb/\∀x:Str,x ≠ "__name__" -> mb x=bootBuiltins x
 nolimit:base.NoLimit
structure Cx where
 prog:Program
 w:World
 K:PySem.W.Frag
 mg:Str->Option Value
 base:Heap
 A:Around
 N:List Str
 s₀:Shared
 H₀:Hp
 env:Env
 outer:List Env
 stack:List Env
 ex:List Addr
 fn:Str->Bool
 calm:Bool
 pn:List (Addr×Obj)
 xe:Value->Shared->Prop
noncomputable def frs(l:List Env):List Addr:=l.filterMap (·.frame)
noncomputable abbrev Cx.fs(X:Cx):List Addr:=frs X.outer
noncomputable def Vis(sc:Scope)(x:Str):Prop:=sc.names.lookup x=some .local\/sc.names.lookup x=some .cell\/sc.names.lookup x=some .free
noncomputable def Loc(sc:Scope)(x:Str):Prop:=sc.names.lookup x=some .local\/sc.names.lookup x=some .cell
noncomputable def Look(env:Env)(h:Heap)(m:Str->Option Value)(x:Str)(u:Value):Prop :=
 (env.kindOf x=some .local/\m x=some u)\/((env.kindOf x=some .cell\/env.kindOf x=some .free)/\∃c,env.cells.lookup x=some c/\h.IsCell c (some u))
structure Cx.Ok(X:Cx):Prop where
 mod:Mod X.K X.mg X.base
 kind:X.env.scope.kind=.function
 glob:X.env.globals=mainGlobals
 blt:X.env.builtins=builtinsNs
 above:X.s₀.heap.objs.size<=X.env.locals
 inj:∀x y c,X.env.cells.lookup x=some c->X.env.cells.lookup y=some c->x=y
 has:∀x,(X.env.kindOf x=some .cell\/X.env.kindOf x=some .free)->∃c,X.env.cells.lookup x=some c
 cab:∀x c,X.fn x=true->X.env.cells.lookup x=some c->X.s₀.heap.objs.size<=c
 hd:X.calm=true->X.A.handled=none
 frames:X.A.frames=some X.stack
 stk:X.stack=X.outer\/(X.stack=X.env::X.outer/\X.env.frame=some X.env.locals)
 exf:∀b∈X.ex,b≠X.env.locals/\∀x c,X.env.cells.lookup x=some c->c≠b
 bs:∀b o,X.base.get? b=some o->X.s₀.heap.get? b=some o/\X.H₀ b=none
 bsz:X.base.objs.size<=X.s₀.heap.objs.size
 noex:∀b o,X.base.get? b=some o->b∉X.ex
 exfs:∀b∈X.ex,b∉X.fs
 funs:X.s₀.heap.FunFrames X.base X.outer
 frf:∀b∈X.fs,X.H₀ b=none
structure Inv(X:Cx)(a5:List (Addr×Obj))(σ:List (Option V))(H:Hp)(s:Shared):Prop where
 ok:X.Ok
 os:s.os=X.s₀.os
 bare:AllBare s.gens
 base:Un X.fs X.ex X.H₀ H X.s₀.heap s.heap
 loc:∃m,s.heap.Ns X.env.locals m/\∀(i:Nat)(x:Str)(v:V),X.N[i]?=some x->σ[i]?=some (some v)->Vis X.env.scope x->∃u,RelV v u/\Look X.env s.heap m x u
 cell:∀x c,X.env.cells.lookup x=some c->∃v,s.heap.IsCell c v
 free:H X.env.locals=none
 freeC:∀x c,X.env.cells.lookup x=some c->H c=none
 pin:∀p∈X.pn++a5,s.heap.get? p.1=some p.2/\H p.1=none/\p.1≠X.env.locals/\p.1∉X.fs/\∀v,p.2.data ≠ .cell v
 hok:HOk X.prog X.w H s.heap
 len:σ.length=X.N.length
theorem Cx.Ok.nofr{X:Cx}(ok:X.Ok)(e:X.base.get? b=some o):b∉X.fs:=λhb=>by
 have:=(ok.funs.mem hb).1;rw[e]at this;cases this
theorem Inv.bs(I:Inv X a5 σ H s):∀b o,X.base.get? b=some o->s.heap.get? b=some o/\H b=none:=λb o e=>
 ⟨I.base.keep b o (I.ok.bs b o e).1 (I.ok.bs b o e).2 (I.ok.nofr e) (I.ok.noex b o e),I.base.free b o (I.ok.bs b o e).1 (I.ok.bs b o e).2 (I.ok.noex b o e)⟩
theorem Inv.bk(I:Inv X a5 σ H s):∀b o,X.base.get? b=some o->s.heap.get? b=some o:=λb o e=>(I.bs b o e).1
theorem Inv.mod(I:Inv X a5 σ H s):Mod X.K X.mg X.base:=I.ok.mod
theorem Inv.kIn(I:Inv X a5 σ H s):X.K.In s.heap:=I.ok.mod.kin.keeps I.bk
theorem Inv.fr(I:Inv X a5 σ H s):∃m,Fr X.base X.env.locals s.heap m :=
 let⟨m,hn,_⟩:=I.loc
 ⟨m,hn,I.bk,Dm I.ok.bsz I.ok.above⟩
theorem Inv.lt(I:Inv X a5 σ H s):X.env.locals<s.heap.objs.size:=let⟨_,hn,_⟩:=I.loc;hn.lt
theorem Inv.sz(I:Inv X a5 σ H s):X.s₀.heap.objs.size<=s.heap.objs.size:=Dm I.ok.above (Dk I.lt)
theorem Inv.nofs(I:Inv X a5 σ H s)(h:s.heap.objs.size<=a):a∉X.fs:=λhb=>by
 obtain⟨_,o,ho,_⟩:=I.ok.funs.mem hb;exact absurd (Dc (Heap.lt_size ho) (Dm I.sz h)) (D3 _)
theorem Inv.cne(I:Inv X a5 σ H s):∀x c,X.env.cells.lookup x=some c->c≠X.env.locals:=λx c e z=>by
 obtain⟨v,o,ho,hd⟩:=I.cell x c e;obtain⟨m,⟨o',es,ep,c8,dh,_⟩,_⟩:=I.loc;rw[z,c8]at ho;cases ho;rw[dh]at hd;cases hd
theorem Inv.funs(I:Inv X a5 σ H s):s.heap.FunFrames X.base X.outer:=by
 have all:∀(l:List Env),(∀b∈frs l,b∈X.fs)->X.s₀.heap.FunFrames X.base l->s.heap.FunFrames X.base l:=by
  intro l
  induction l with
  |nil=>intro _ _;trivial
  |cons env r ih=>
   intro hs hl;obtain⟨hk,⟨L,o,hf,hn,ho,hd⟩,hr⟩:=hl;have hL:L∈X.fs:=hs L (by unfold frs;rw[Rm,hf];exact DB);obtain⟨sl,e⟩:=I.base.slot L o ho (I.ok.frf L hL) hL λz=>I.ok.exfs L z hL;exact⟨hk,⟨L,_,hf,hn,e,hd⟩,ih (λb hb=>hs b (by unfold frs;rw[Rm,hf];exact Dn _ hb)) hr⟩
 exact all X.outer (λ_a hb=>hb) I.ok.funs
theorem Inv.stack(I:Inv X a5 σ H s):s.heap.FunFrames X.base X.stack:=by
 rcases I.ok.stk with e|⟨e,hf⟩
 ·rw[e];exact I.funs
 ·rw[e]
  obtain⟨m,hn,_⟩:=I.loc;refine .cons (by rw[I.ok.kind];decide) hf hn ?_ I.funs;exact Heap.get?_none_of_le (Dm I.ok.bsz I.ok.above)
theorem Inv.stkSub(I:Inv X a5 σ H s):∀b∈frs X.stack,b∈X.env.locals::X.fs:=λb hb=>by
 rcases I.ok.stk with e|⟨e,hf⟩
 ·rw[e]at hb;exact Dn _ hb
 ·rw[e]at hb
  unfold frs at hb;rw[Rm,hf]at hb;exact hb
theorem Inv.stkFree(I:Inv X a5 σ H s):∀b∈frs X.stack,H b=none:=λb hb=>by
 rcases Da.mp (I.stkSub b hb)with e|hb
 ·rw[e];exact I.free
 ·obtain⟨_,o,ho,_⟩:=I.ok.funs.mem hb
  exact I.base.free b o ho (I.ok.frf b hb) λz=>I.ok.exfs b z hb
theorem Inv.step{ch:List Addr}(I:Inv X a5 σ H s)(dO:∀b∈ch,(b∈X.ex\/X.s₀.heap.objs.size<=b)/\b≠X.env.locals/\(∀x c,X.env.cells.lookup x=some c->c≠b)/\∀p∈X.pn++a5,p.1≠b)(keep:∀b o,b≠X.env.locals->b∉X.fs->b∉ch->s.heap.get? b=some o->H b=none->h'.get? b=some o)(slot:∀b o,b≠X.env.locals->b∈X.fs->b∉ch->s.heap.get? b=some o->H b=none->∃sl,h'.get? b=some { o with slots:=sl })(free:∀b o,b∉ch->s.heap.get? b=some o->H b=none->H' b=none)(there:∀b o,b∉ch->s.heap.get? b=some o->∃o',h'.get? b=some o')(tups:∀b xs,H b=some (.tup xs)->H' b=some (.tup xs))(frzs:∀b o u,H b=some (.frz o u)->H' b=some (.frz o u))(tbls:∀b ps,H b=some (.tbl ps)->∃more,H' b=some (.tbl (ps++more)))(ns:∀m,s.heap.Ns X.env.locals m->h'.Ns X.env.locals m)(hok:HOk X.prog X.w H' h')(hg:AllBare g'):
  Inv X a5 σ H' { s with heap:=h',gens:=g',drawn:=d',toks:=t' }:=by
 have mE:∀b o,X.s₀.heap.get? b=some o->b≠X.env.locals:=λb o e=>De (Dc (Heap.lt_size e) I.ok.above);have i7:∀b o,X.s₀.heap.get? b=some o->b∉X.ex->b∉ch:=λb o e hx hb=>by
  rcases(dO b hb).1 with z|z
  ·exact hx z
  ·exact absurd (Dc (Heap.lt_size e) z) (D3 _)
 have eE:∀x c,X.env.cells.lookup x=some c->∀v,s.heap.IsCell c v->h'.IsCell c v:=λx c e v zz=>by
  obtain⟨o,ho,hd⟩:=zz;have gj:c∉ch:=λz=>(dO c z).2.2.1 x c e rfl;by_cases hc:c∈X.fs
  ·obtain⟨sl,q⟩:=slot c o (I.cne x c e) hc gj ho (I.freeC x c e)
   exact⟨_,q,hd⟩
  ·exact⟨o,keep c o (I.cne x c e) hc gj ho (I.freeC x c e),hd⟩
 refine⟨I.ok,I.os,hg,⟨λb o e n hb hx=>?_,λb o e n hb hx=>?_,λb o e n hx=>?_,λb o e hx=>?_,λb xs e=>tups b xs (I.base.tups b xs e),λb o xs e=>frzs b o xs (I.base.frzs b o xs e),λb ps e=>?_⟩,?_,λx c e=>?_,?_,λx c e=>?_,λp hp=>?_,hok,I.len⟩
 ·exact keep b o (mE b o e) hb (i7 b o e hx) (I.base.keep b o e n hb hx) (I.base.free b o e n hx)
 ·obtain⟨sl,e1⟩:=I.base.slot b o e n hb hx
  obtain⟨i6,e2⟩:=slot b _ (mE b o e) hb (i7 b o e hx) e1 (I.base.free b o e n hx);exact⟨i6,e2⟩
 ·obtain⟨o',e1⟩:=I.base.there b o e hx
  exact free b o' (i7 b o e hx) e1 (I.base.free b o e n hx)
 ·obtain⟨o',e1⟩:=I.base.there b o e hx
  exact there b o' (i7 b o e hx) e1
 ·obtain⟨m1,e1⟩:=I.base.tbls b ps e
  obtain⟨m2,e2⟩:=tbls b _ e1;exact⟨m1++m2,by rw[e2,Rw]⟩
 ·obtain⟨m,hn,hl⟩:=I.loc
  refine⟨m,ns m hn,λi x v e1 e2 e3=>?_⟩;obtain⟨u,r,l⟩:=hl i x v e1 e2 e3;refine⟨u,r,?_⟩;rcases l with l|⟨k,c,e,z⟩
  ·exact .inl l
  ·exact .inr ⟨k,c,e,eE x c e _ z⟩
 ·obtain⟨v,z⟩:=I.cell x c e
  exact⟨v,eE x c e v z⟩
 ·obtain⟨m,⟨o,_,_,ho,_⟩,_⟩:=I.loc
  exact free _ o (λz=>(dO _ z).2.1 rfl) ho I.free
 ·obtain⟨v,o,ho,hd⟩:=I.cell x c e
  exact free c o (λz=>(dO c z).2.2.1 x c e rfl) ho (I.freeC x c e)
 ·obtain⟨e,n,ne,nf,d⟩:=I.pin p hp
  have gj:p.1∉ch:=λz=>(dO p.1 z).2.2.2 p hp rfl;exact⟨keep p.1 p.2 ne nf gj e n,free p.1 p.2 gj e n,ne,nf,d⟩
theorem Inv.un(I:Inv X a5 σ H s)(u:Un X.fs [] H H' s.heap h')(hok:HOk X.prog X.w H' h'):Inv X a5 σ H' { s with heap:=h',toks:=t' }:=by
 obtain⟨m,⟨o,es,ep,ho,r⟩,_⟩:=id I.loc;obtain⟨sl,hL⟩:=u.any ho I.free (by simp);exact I.step (g':=s.gens) (d':=s.drawn) (ch:=[]) (λ_a z=>nomatch z) (λb o _a hb _a e n=>u.keep b o e n hb (by simp)) (λb o _a hb _a e n=>u.slot b o e n hb (by simp)) (λb o _a e n=>u.free b o e n (by simp)) (λb o _a e=>u.there b o e (by simp)) u.tups u.frzs u.tbls (λm' hm=>by
  obtain⟨o',gk,i8,c8,r'⟩:=hm;rw[ho]at c8;cases c8;exact⟨_,gk,i8,hL,r'⟩) hok I.bare
theorem Inv.call(I:Inv X a5 σ H s)(u:Un (frs X.stack) ch H H' s.heap h')(hok:HOk X.prog X.w H' h')(hg:AllBare g')(dO:∀b∈ch,(b∈X.ex\/X.s₀.heap.objs.size<=b)/\b≠X.env.locals/\(∀x c,X.env.cells.lookup x=some c->c≠b)/\∀p∈X.pn++a5,p.1≠b):
  Inv X a5 σ H' { s with heap:=h',gens:=g',drawn:=d',toks:=t' }:=by
 obtain⟨m,⟨o,es,ep,ho,r⟩,_⟩:=id I.loc;obtain⟨sl,hL⟩:=u.any ho I.free λz=>(dO _ z).2.1 rfl;exact I.step (ch:=ch) dO (λb o hL hb hc e n=>u.keep b o e n (λz=>(Da.mp (I.stkSub b z)).elim hL hb) hc) (λb o _a _a hc e n=>u.any e n hc) (λb o hc e n=>u.free b o e n hc) (λb o hc e=>u.there b o e hc) u.tups u.frzs u.tbls (λm' hm=>by
  obtain⟨o',gk,i8,c8,r'⟩:=hm;rw[ho]at c8;cases c8;exact⟨_,gk,i8,hL,r'⟩) hok hg
theorem Inv.turned(I:Inv X a5 σ H s)(k:∀b o,b≠it->s.heap.get? b=some o->h'.get? b=some o)(hn:H it=none)(hL:it≠X.env.locals)(h1:it∈X.ex\/X.s₀.heap.objs.size<=it)(h2:∀x c,X.env.cells.lookup x=some c->c≠it)(h3:∀p∈X.pn++a5,p.1≠it):Inv X a5 σ H { s with heap:=h',toks:=t' }:=by
 have mF:∀b u,H b=some u->b≠it:=λb u e z=>by rw[z,hn]at e;cases e
 refine I.step (g':=s.gens) (d':=s.drawn) (ch:=[it]) (λb hb=>?_) (λb o _a _a hc e _a=>k b o (λz=>hc (by simp[z])) e) (λb o _a _a hc e _a=>⟨o.slots,k b o (λz=>hc (by simp[z])) e⟩) (λ_a _a _a _a n=>n)
  (λb o hc e=>⟨o,k b o (λz=>hc (by simp[z])) e⟩) (λ_a _a e=>e) (λ_a _a _a e=>e) (λb ps e=>⟨#[],by rw[e];simp⟩) (λm hm=>?_) (λb u e=>?_) I.bare
 ·have e:b=it:=by simpa using hb
  subst e;exact⟨h1,hL,h2,h3⟩
 ·obtain⟨o,es,ep,ho,r⟩:=hm
  exact⟨o,es,ep,k _ o (Ne.symm hL) ho,r⟩
 ·refine(I.hok b u e).stay (λc v hc q=>k c v ?_ q) (λ_a q=>q) λ_a _a q=>q
  rcases hc with z|z
  ·rw[z];exact mF b u e
  ·exact mF c _ z
theorem Inv.tok(I:Inv X a5 σ H s)(t:Nat):Inv X a5 σ H { s with toks:=t }:=I.un (h':=s.heap) (t':=t) Un.refl I.hok
theorem Inv.kept(I:Inv X a5 σ H s)(k:∀b u,s.heap.get? b=some u->h'.get? b=some u):Inv X a5 σ H { s with heap:=h',toks:=t' }:=I.un (Un.kept k) (I.hok.kept k)
theorem Inv.laid(I:Inv X a5 σ H s)(k:∀b u,s.heap.get? b=some u->h'.get? b=some u)(hp:s.heap.objs.size<=a)(new:ObjOk X.prog X.w (upd H a o) h' a o):
  Inv X a5 σ (upd H a o) { s with heap:=h',toks:=t' }:=I.un (Un.laid k hp (I.hok.fresh hp)) (I.hok.laid k hp new)
theorem Inv.write(I:Inv X a5 σ H s)(mu:Mut (H x))(he:e=x\/H e=some (.own x))(k:∀b u,b≠e->s.heap.get? b=some u->h'.get? b=some u)(fS:∃u,h'.get? e=some u)(new:ObjOk X.prog X.w (upd H x o) h' x o):Inv X a5 σ (upd H x o) { s with heap:=h',toks:=t' }:=I.un (Un.write mu he k fS) (I.hok.write mu he k fS new)
theorem Inv.weak(I:Inv X a5 σ H s)(hl:ah.length=σ.length)(w:∀(i:Nat) v,ah[i]?=some (some v)->σ[i]?=some (some v)):Inv X a5 ah H s :=
 ⟨I.ok,I.os,I.bare,I.base,let⟨m,hn,mG⟩:=I.loc;⟨m,hn,λi x v e1 e2 e3=>mG i x v e1 (w i v e2) e3⟩,I.cell,I.free,I.freeC,I.pin,I.hok,hl.trans I.len⟩
theorem Inv.pins_of(I:Inv X a5 σ H s)(h:∀p∈cV,s.heap.get? p.1=some p.2/\H p.1=none/\p.1≠X.env.locals/\p.1∉X.fs/\∀v,p.2.data ≠ .cell v):Inv X cV σ H s :=
 ⟨I.ok,I.os,I.bare,I.base,I.loc,I.cell,I.free,I.freeC,λp hp=>(U4.mp hp).elim (λz=>I.pin p (Df _ z)) (h p),I.hok,I.len⟩
theorem Vs{N:List Str}(hN:N.Nodup){i j:Nat}(a:N[i]?=some x)(b:N[j]?=some x):i=j:=by
 obtain⟨h1,e1⟩:=UR.mp a;obtain⟨h2,e2⟩:=UR.mp b;exact(RJ hN).mp (e1.trans e2.symm)
theorem V9(I:Inv X a5 σ H s)(hN:X.N.Nodup)(hi:X.N[i]?=some x)(hx:Loc X.env.scope x)(r:RelV v u)(h:∀s',Inv X a5 (σ.set i (some v)) H s'->(∃a,Heap.SameBut a s.heap s'.heap/\(a=X.env.locals\/X.env.cells.lookup x=some a))->Q () s')(hf:X.fn x=true\/X.env.scope.names.lookup x=some .local:=by first|exact .inl rfl|exact .inr rfl|assumption):wpAny M A (storeName X.env x u) Q E s:=by
 obtain⟨m,hn,hl⟩:=id I.loc;have eT:(X.env.scope.kind == .class||(X.env.scope.kind == .module&&X.env.locals != X.env.globals))=false:=by rw[I.ok.kind];rfl
 have gl:i<σ.length:=by rw[I.len];exact(UR.mp hi).1
 have cne:=I.cne;have cg:∀{a:Addr}{h':Heap},(∃o,s.heap.get? a=some o/\H a=none)->Heap.SameBut a s.heap h'->HOk X.prog X.w H h':=λ{a h'} ha hs b ob e=>by
  obtain⟨_,_,cu⟩:=ha;refine(I.hok b ob e).stay (λc w' hc q=>(hs.2 c ?_).trans q) (λ_a q=>q) λ_a _a q=>q;rintro rfl;rcases hc with rfl|hc
  ·rw[cu]at e;cases e
  ·rw[cu]at hc;cases hc
 rcases hx with hk|hk
 ·refine wpAny_storeName_local hk hn (λh' eF hs=>?_) eT
  obtain⟨oL,_,_,mH,_⟩:=id hn;refine h _ ⟨I.ok,I.os,I.bare,⟨λb o e n hb hx=>?_,λb o e n hb hx=>?_,I.base.free,λb o e hx=>?_,I.base.tups,I.base.frzs,I.base.tbls⟩,⟨_,eF,λj y v' e1 e2 e3=>?_⟩,λy c e=>?_,I.free,I.freeC,λp hp=>?_,cg ⟨oL,mH,I.free⟩ hs,by simpa using I.len⟩ ⟨_,hs,.inl rfl⟩
  ·exact(hs.2 b (De (Dc (Heap.lt_size e) I.ok.above))).trans (I.base.keep b o e n hb hx)
  ·obtain⟨sl,e1⟩:=I.base.slot b o e n hb hx
   exact⟨sl,(hs.2 b (De (Dc (Heap.lt_size e) I.ok.above))).trans e1⟩
  ·obtain⟨o',e1⟩:=I.base.there b o e hx
   exact⟨o',(hs.2 b (De (Dc (Heap.lt_size e) I.ok.above))).trans e1⟩
  ·by_cases hj:j=i
   ·subst hj
    rw[hi]at e1;cases e1;rw[U3 gl]at e2;cases e2;exact⟨u,r,.inl ⟨hk,by simp⟩⟩
   ·rw[UW (Ne.symm hj)]at e2
    obtain⟨u',r',q⟩:=hl j y v' e1 e2 e3;refine⟨u',r',?_⟩;rcases q with⟨k,e⟩|⟨k,c,e,z⟩
    ·refine .inl ⟨k,?_⟩
     have:y≠x:=λe=>hj (Vs hN e1 (e▸hi));simp[this,e]
    ·exact .inr ⟨k,c,e,z.sameBut hs (cne y c e)⟩
  ·obtain⟨w',z⟩:=I.cell y c e
   exact⟨w',z.sameBut hs (cne y c e)⟩
  ·obtain⟨e,n,ne,nf,d⟩:=I.pin p hp
   exact⟨(hs.2 p.1 ne).trans e,n,ne,nf,d⟩
 ·have iN:X.fn x=true:=by
   rcases hf with z|z
   ·exact z
   ·rw[z]at hk;cases hk
  obtain⟨c,hc⟩:=I.ok.has x (.inl hk);obtain⟨w',z⟩:=I.cell x c hc;refine wpAny_storeName_cell I.ok.kind hk hc z (λh' cH hs=>?_);obtain⟨oc,mI,iO⟩:=id z;refine h { s with heap:=h' } ⟨I.ok,I.os,I.bare,⟨λb o e n hb hx=>?_,λb o e n hb hx=>?_,I.base.free,λb o e hx=>?_,I.base.tups,I.base.frzs,I.base.tbls⟩,⟨m,hn.sameBut hs (Ne.symm (cne x c hc)),λj y v' e1 e2 e3=>?_⟩,λy c' e=>?_,I.free,I.freeC,λp hp=>?_,cg ⟨oc,mI,I.freeC x c hc⟩ hs,by simpa using I.len⟩ ⟨c,hs,.inr hc⟩
  ·exact(hs.2 b (De (Dc (Heap.lt_size e) (I.ok.cab x c iN hc)))).trans (I.base.keep b o e n hb hx)
  ·obtain⟨sl,e1⟩:=I.base.slot b o e n hb hx
   exact⟨sl,(hs.2 b (De (Dc (Heap.lt_size e) (I.ok.cab x c iN hc)))).trans e1⟩
  ·obtain⟨o',e1⟩:=I.base.there b o e hx
   exact⟨o',(hs.2 b (De (Dc (Heap.lt_size e) (I.ok.cab x c iN hc)))).trans e1⟩
  ·by_cases hj:j=i
   ·subst hj
    rw[hi]at e1;cases e1;rw[U3 gl]at e2;cases e2;exact⟨u,r,.inr ⟨.inl hk,c,hc,cH⟩⟩
   ·rw[UW (Ne.symm hj)]at e2
    obtain⟨u',r',q⟩:=hl j y v' e1 e2 e3;refine⟨u',r',?_⟩;rcases q with q|⟨k,c',e,z'⟩
    ·exact .inl q
    ·refine .inr ⟨k,c',e,z'.sameBut hs ?_⟩
     rintro rfl;exact hj (Vs hN e1 (I.ok.inj _ _ _ e hc▸hi))
  ·by_cases i9:c'=c
   ·subst i9;exact⟨_,cH⟩
   ·obtain⟨w2,z2⟩:=I.cell y c' e
    exact⟨w2,z2.sameBut hs i9⟩
  ·obtain⟨e,n,ne,nf,d⟩:=I.pin p hp
   refine⟨(hs.2 p.1 ?_).trans e,n,ne,nf,d⟩;intro q;rw[q,mI]at e;have q':oc=p.2:=Option.some.inj e;exact d w' (by rw[<-q'];exact iO)
theorem vE(I:Inv X a5 σ H s)(hN:X.N.Nodup)(hi:X.N[i]?=some x)(hx:Loc X.env.scope x)(r:RelV v u)(h:∀s',Inv X a5 (σ.set i (some v)) H s'->Q () s')(hf:X.fn x=true\/X.env.scope.names.lookup x=some .local:=by first|exact .inl rfl|exact .inr rfl|assumption):wpAny M A (storeName X.env x u) Q E s :=
 V9 I hN hi hx r (λs' I' _a=>h s' I') hf
theorem Inv.call'(I:Inv X a5 σ H s)(ho:s'.os=s.os)(u:Un (frs X.stack) ch H H' s.heap s'.heap)(hok:HOk X.prog X.w H' s'.heap)(hg:AllBare s'.gens)(dO:∀b∈ch,(b∈X.ex\/X.s₀.heap.objs.size<=b)/\b≠X.env.locals/\(∀x c,X.env.cells.lookup x=some c->c≠b)/\∀p∈X.pn++a5,p.1≠b):Inv X a5 σ H' s':=by
 obtain⟨h',g',d',t',o'⟩:=s';have e:o'=s.os:=ho;subst e;exact I.call (g':=g') (t':=t') (d':=d') u hok hg dO
noncomputable abbrev XK:=Value->Option Addr->Hp->Prop
noncomputable abbrev St:=List (Option V)
noncomputable abbrev VK:=V->Hp->Prop
noncomputable abbrev TE:=St->Hp->VK->Prop
noncomputable abbrev TT:=St->Hp->(Bool->Hp->Prop)->Prop
noncomputable abbrev TA:=St->Hp->(List V->Hp->Prop)->Prop
structure Ends where
 nx:St->Hp->Prop
 rt:VK
 bk:St->Hp->Prop:=λ_a _a=>False
 ct:St->Hp->Prop:=λ_a _a=>False
noncomputable abbrev TS:=Ends->St->Hp->Prop
noncomputable def EP(X:Cx)(a5:List (Addr×Obj))(σ:St)(Q:VK)(u:Value)(s':Shared):Prop:=∃v H',Inv X a5 σ H' s'/\RelV v u/\Q v H'
noncomputable def TP(X:Cx)(a5:List (Addr×Obj))(σ:St)(Q:Bool->Hp->Prop)(b:Bool)(s':Shared):Prop:=∃H',Inv X a5 σ H' s'/\Q b H'
noncomputable def AP(X:Cx)(a5:List (Addr×Obj))(σ:St)(Q:List V->Hp->Prop)(us:List Value)(s':Shared):Prop:=∃vs H',Inv X a5 σ H' s'/\Vals vs us/\Q vs H'
noncomputable def SP(X:Cx)(a5:List (Addr×Obj))(D:Ends)(f:Flow)(s':Shared):Prop :=
 match f with
 |.next=>∃ah H',Inv X a5 ah H' s'/\D.nx ah H'
 |.brk=>∃ah H',Inv X a5 ah H' s'/\D.bk ah H'
 |.cont=>∃ah H',Inv X a5 ah H' s'/\D.ct ah H'
 |.ret u=>∃v ah H',Inv X a5 ah H' s'/\RelV v u/\D.rt v H'
noncomputable def PE(X:Cx)(e:Expr)(t:TE):Prop :=
 ∀(a5:List (Addr×Obj))(s:Shared)(σ:St)(H:Hp)(Q:VK),Inv X a5 σ H s->t σ H Q->wpAny (model X.prog X.w) X.A (eval e X.env) (EP X a5 σ Q) X.xe s
noncomputable def PT(X:Cx)(e:Expr)(t:TT):Prop :=
 ∀(a5:List (Addr×Obj))(s:Shared)(σ:St)(H:Hp)(Q:Bool->Hp->Prop),Inv X a5 σ H s->t σ H Q->wpAny (model X.prog X.w) X.A (isTrue e X.env (eval e X.env)) (TP X a5 σ Q) X.xe s
noncomputable def PW(X:Cx)(e:Expr)(t:TT):Prop :=
 ∀(bW:Sem Value)(a5:List (Addr×Obj))(s:Shared)(σ:St)(H:Hp)(Q:Bool->Hp->Prop),Inv X a5 σ H s->t σ H Q->wpAny (model X.prog X.w) X.A (isTrue e X.env bW) (TP X a5 σ Q) X.xe s
theorem PW.pt(h:PW X e t):PT X e t:=h _
noncomputable def PA(X:Cx)(es:List Expr)(t:TA):Prop :=
 ∀(pos:Pos)(a5:List (Addr×Obj))(s:Shared)(σ:St)(H:Hp)(Q:List V->Hp->Prop),Inv X a5 σ H s->t σ H Q->wpAny (model X.prog X.w) X.A (spliced (backTo pos (starEach es X.env))) (AP X a5 σ Q) X.xe s
noncomputable def PS(X:Cx)(st:Stmt)(t:TS):Prop :=
 ∀(a5:List (Addr×Obj))(s:Shared)(σ:St)(H:Hp)(D:Ends),Inv X a5 σ H s->t D σ H->wpAny (model X.prog X.w) X.A (exec st X.env) (SP X a5 D) X.xe s
noncomputable def PSs(X:Cx)(st:List Stmt)(t:TS):Prop :=
 ∀(a5:List (Addr×Obj))(s:Shared)(σ:St)(H:Hp)(D:Ends),Inv X a5 σ H s->t D σ H->wpAny (model X.prog X.w) X.A (execs st X.env) (SP X a5 D) X.xe s
theorem thn{α:Type}{t:Sem α}{Q Q':α->Shared->Prop}{M:Model}{A:Around}{E:Value->Shared->Prop}{s:Shared}(h:wpAny M A t Q E s)(hQ:∀a s,Q a s->Q' a s):wpAny M A t Q' E s:=GW h hQ λ_a _a x=>x
section
variable {X:Cx}
noncomputable def tVar(i:Nat):TE:=λσ H Q=>∃v,σ[i]?=some (some v)/\Q v H
noncomputable def tC(v:V):TE:=λ_a H Q=>Q v H
theorem q21(hN:X.N[i]?=some x)(hv:Vis X.env.scope x)(hd:(x==("__debug__" : Str))=false:=by decide)(cW:(x==("__classdict__" : Str))=false:=by decide):PE X (.Name x pos) (tVar i):=by
 intro a5 s σ H Q I h;obtain⟨v,e,h⟩:=h;obtain⟨m,hn,hl⟩:=I.loc;obtain⟨u,r,l⟩:=hl i x v hN e hv;have fin:EP X a5 σ Q u s:=⟨v,H,I,r,h⟩;rcases l with⟨hk,hm⟩|⟨hk,c,hc,c9⟩
 ·exact wpAny_Name (wpAny_loadName_local I.ok.kind hk hn hm fin) hd
 ·rcases hk with hk|hk
  ·exact wpAny_Name (wpAny_loadName_cell I.ok.kind hk hc c9 fin) hd
  ·exact wpAny_Name (wpAny_loadName_free I.ok.kind hk hc c9 fin cW) hd
theorem q57:PE X (.Constant (.int i) j pos) (tC (.int i)):=λ_a _a _a H _a I h=>wpAny_Constant_int ⟨.int i,H,I.tok _,⟨_,rfl⟩,h⟩
theorem q7x:PE X (.Constant (.bool b) j pos) (tC (.bl b)):=λ_a _a _a H _a I h=>Constant_bool ⟨.bl b,H,I,rfl,h⟩
theorem q5f:PE X (.Constant .none j pos) (tC .non):=λ_a _a _a H _a I h=>Constant_none ⟨.non,H,I,rfl,h⟩
theorem q5Q:PE X (.Constant (.str x) j pos) (tC (.str x)):=λ_a _a _a H _a I h=>Calls.Constant_str ⟨.str x,H,I.tok _,⟨_,rfl⟩,h⟩
noncomputable def Gl(X:Cx)(x:Str):Prop:=X.env.kindOf x=some .globalImplicit
theorem vV(I:Inv X a5 σ H s)(hg:Gl X x)(hm:X.mg x=some u)(h:Q u s)(hd:(x==("__debug__" : Str))=false:=by decide):wpAny (model X.prog X.w) X.A (eval (.Name x pos) X.env) Q E s :=
 Calls.Name_function_global I.ok.kind hg (Calls.loadGlobal_global (by rw[I.ok.glob];exact I.mod.glob.keeps I.bk) hm h) hd
theorem JG(I:Inv X a5 σ H s)(hg:Gl X x)(hm:X.mg x=none)(hv:bootBuiltins x=some u)(h:Q u s)(hn:x ≠ "__name__" := by decide)(hd:(x==("__debug__" : Str))=false:=by decide):wpAny (model X.prog X.w) X.A (eval (.Name x pos) X.env) Q E s:=by
 obtain⟨mb,h1,h2⟩:=I.mod.blt;exact Calls.Name_function_global I.ok.kind hg (Calls.loadGlobal_builtin (by rw[I.ok.glob];exact I.mod.glob.keeps I.bk) hm (by rw[I.ok.blt];exact h1.keeps I.bk) ((h2 x hn).trans hv) h) hd
theorem q2L(hg:Gl X x)(hm:X.mg x=some u)(r:RelV v u)(hd:(x==("__debug__" : Str))=false:=by decide):PE X (.Name x pos) (tC v):=
 λ_a _a _a H _a I h=>vV I hg hm ⟨v,H,I,r,h⟩ hd
variable {a b:Expr}{ta tb:TE}{pos:Pos}
noncomputable def tB(t:TE):TT:=λσ H Q=>t σ H λx H1=>∃c,x=.bl c/\Q c H1
variable {tA ic:TT}{rest:List Expr}
noncomputable def tAnd(t u:TT):TT:=λσ H Q=>t σ H λc H1=>if c=true then u σ H1 Q else Q false H1
noncomputable def tOr(t u:TT):TT:=λσ H Q=>t σ H λc H1=>if c=true then Q true H1 else u σ H1 Q
noncomputable def tNot(t:TT):TT:=λσ H Q=>t σ H λc H1=>Q (!c) H1
noncomputable def V6(ta tb:TE):TE:=λσ H Q=>ta σ H λx H1=>∃c,x=.bl c/\if c=true then tb σ H1 Q else Q (.bl false) H1
noncomputable def tOrV(ta tb:TE):TE:=λσ H Q=>ta σ H λx H1=>∃c,x=.bl c/\if c=true then Q (.bl true) H1 else tb σ H1 Q
noncomputable def q1H(ta:TE):TE:=λσ H Q=>ta σ H λx H1=>∃c,x=.bl c/\Q (.bl (!c)) H1
noncomputable def tIf(t:TT)(ta tb:TE):TE:=λσ H Q=>t σ H λc H1=>if c=true then ta σ H1 Q else tb σ H1 Q
end
noncomputable def SqL(Ξ:PySem.W.Frag)(H:Hp)(a:Addr)(xs:List V):Prop :=
 Rd H a (.lst xs) \/
  ∃(o:Obj)(its:Array Value)(n:Nat),Ξ.lookup a=some o/\o.cls=.type "list" /\ o.dict=none/\o.data=.seq its n/\its.size<=sizeLine/\Vals xs its.toList
noncomputable def SqT(Ξ:PySem.W.Frag)(H:Hp)(a:Addr)(xs:List V):Prop :=
 Rd H a (.tup xs) \/
  ∃(o:Obj)(its:Array Value)(n:Nat),Ξ.lookup a=some o/\o.cls=.type "tuple" /\ o.data=.seq its n/\its.size<=sizeLine/\Vals xs its.toList
noncomputable def absV:Value->Option V
 |.none=>some .non
 |.bool b=>some (.bl b)
 |.int i _=>some (.int i)
 |.str x _=>some (.str x)
 |.bytes b _=>some (.byt b)
 |.float b _=>some (.flt b)
 |.ref a=>some (.ref a)
 |.type n=>some (.ty n)
 |_=>none
theorem RelV.abs(r:RelV x u):absV u=some x:=by
 cases x with
 |non=>cases r;rfl
 |bl _=>cases r;rfl
 |int _=>obtain⟨t,rfl⟩:=r;rfl
 |str _=>obtain⟨t,rfl⟩:=r;rfl
 |byt _=>obtain⟨t,rfl⟩:=r;rfl
 |flt _=>obtain⟨t,rfl⟩:=r;rfl
 |ref _=>cases r;rfl
 |ty _=>cases r;rfl
theorem RelV.inj(r:RelV x u)(q:RelV y u):x=y:=Option.some.inj (r.abs.symm.trans q.abs)
theorem Vals.inj:∀{xs ys:List V}{us:List Value},Vals xs us->Vals ys us->xs=ys
 |_,_,_,.nil,.nil=>rfl
 |_,_,_,.cons r t,.cons r' t'=>by rw[r.inj r',Vals.inj t t']
theorem SqL.of(h:H a=some (.lst xs)):SqL Ξ H a xs:=.inl (.inl h)
theorem SqT.of(h:H a=some (.tup xs)):SqT Ξ H a xs:=.inl (.inl h)
theorem Inv.list(I:Inv X a5 σ H s)(h:SqL X.K H a xs):∃its:List Value,Vals xs its/\PlainL s.heap a its.toArray/\xs.length<=sizeLine:=by
 rcases h with h|⟨o,its,n,hk,hc,hd,hs,hz,r⟩
 ·obtain⟨z,its,n,r,e⟩:=h.ok I.hok
  exact⟨its,r,⟨_,n,e,rfl,rfl,rfl⟩,z⟩
 ·refine⟨its.toList,r,⟨o,n,I.kIn a o hk,hc,hd,by simpa using hs⟩,?_⟩
  have e:=r.length;simp only[DG]at e;lia
theorem Inv.tuple(I:Inv X a5 σ H s)(h:SqT X.K H a xs):∃its:List Value,Vals xs its/\IsTup s.heap a its.toArray/\xs.length<=sizeLine:=by
 rcases h with h|⟨o,its,n,hk,hc,hs,hz,r⟩
 ·obtain⟨z,its,r,p⟩:=h.ok I.hok
  exact⟨its,r,p,z⟩
 ·refine⟨its.toList,r,⟨o,I.kIn a o hk,hc,n,by simpa using hs⟩,?_⟩
  have e:=r.length;simp only[DG]at e;lia
theorem Inv.list_inj(I:Inv X a5 σ H s)(h:SqL X.K H a xs)(h':SqL X.K H a ys):xs=ys:=by
 obtain⟨its,r,⟨o,n,e,_,_,d⟩,_⟩:=I.list h;obtain⟨its',r',⟨o',n',e',_,_,d'⟩,_⟩:=I.list h';rw[e]at e';cases e';rw[d]at d';injection d' with d1 _
 have:its=its':=by simpa using G1 Array.toList d1
 subst this;exact r.inj r'
noncomputable abbrev Cx.wish(X:Cx)(E:Value->Shared->Prop):Cx:={ X with xe:=E }
noncomputable abbrev Cx.nox(X:Cx):Cx:=X.wish λ_a _a=>False
theorem Cx.Ok.wish{X:Cx}(ok:X.Ok)(E:Value->Shared->Prop):(X.wish E).Ok :=
 ⟨ok.mod,ok.kind,ok.glob,ok.blt,ok.above,ok.inj,ok.has,ok.cab,ok.hd,ok.frames,ok.stk,ok.exf,ok.bs,ok.bsz,ok.noex,ok.exfs,ok.funs,ok.frf⟩
theorem Cx.Ok.unwish{X:Cx}(ok:(X.wish E).Ok):X.Ok :=
 ⟨ok.mod,ok.kind,ok.glob,ok.blt,ok.above,ok.inj,ok.has,ok.cab,ok.hd,ok.frames,ok.stk,ok.exf,ok.bs,ok.bsz,ok.noex,ok.exfs,ok.funs,ok.frf⟩
theorem Inv.wish(I:Inv X a5 σ H s)(E:Value->Shared->Prop):Inv (X.wish E) a5 σ H s:=⟨I.ok.wish E,I.os,I.bare,I.base,I.loc,I.cell,I.free,I.freeC,I.pin,I.hok,I.len⟩
theorem Inv.unwish(I:Inv (X.wish E) a5 σ H s):Inv X a5 σ H s:=⟨I.ok.unwish,I.os,I.bare,I.base,I.loc,I.cell,I.free,I.freeC,I.pin,I.hok,I.len⟩
theorem SP.unwish(h:SP (X.wish E) a5 D f s'):SP X a5 D f s':=by
 cases f with
 |next=>obtain⟨ah,H',I,q⟩:=h;exact⟨ah,H',I.unwish,q⟩
 |brk=>obtain⟨ah,H',I,q⟩:=h;exact⟨ah,H',I.unwish,q⟩
 |cont=>obtain⟨ah,H',I,q⟩:=h;exact⟨ah,H',I.unwish,q⟩
 |ret u=>obtain⟨v,ah,H',I,r,q⟩:=h;exact⟨v,ah,H',I.unwish,r,q⟩
theorem PE.nox(h:PE X.nox e t):PE X e t:=λa5 s σ H Q I hw=>
 GW (h a5 s σ H Q (I.wish _) hw) (λ_ _ ⟨v,H',I',r,q⟩=>⟨v,H',I'.unwish,r,q⟩) λ_a _a z=>False.elim z
theorem PT.nox(h:PT X.nox e t):PT X e t:=λa5 s σ H Q I hw=>
 GW (h a5 s σ H Q (I.wish _) hw) (λ_ _ ⟨H',I',q⟩=>⟨H',I'.unwish,q⟩) λ_a _a z=>False.elim z
theorem PSs.nox{st:List Stmt}(h:PSs X.nox st t):PSs X st t:=λa5 s σ H D I hw=>
 GW (h a5 s σ H D (I.wish _) hw) (λ_a _a q=>q.unwish) λ_a _a z=>False.elim z
noncomputable def Q0:TS:=λD σ H=>D.nx σ H
noncomputable def tSeq(t u:TS):TS:=λD σ H=>t { D with nx:=u D } σ H
theorem q3r:PSs X [] Q0:=λ_ _ σ H _ I h=>Ud ⟨σ,H,I,h⟩
theorem Inv.quiet(I:Inv X a5 σ H s):interactive X.env=false:=by simp[interactive,I.ok.kind]
noncomputable def V5(te:TE):TS:=λD σ H=>te σ H λ_a H1=>D.nx σ H1
noncomputable def tRet(te:TE):TS:=λD σ H=>te σ H D.rt
noncomputable def q0k:TS:=λD _a H=>D.rt .non H
noncomputable def tIfS(c:TT)(t u:TS):TS:=λD σ H=>c σ H λb H1=>if b=true then t D σ H1 else u D σ H1
noncomputable abbrev TG:=V->St->Hp->(St->Hp->Prop)->Prop
noncomputable abbrev TGs:=List V->St->Hp->(St->Hp->Prop)->Prop
noncomputable def PG(X:Cx)(eV:Expr)(t:TG):Prop :=
 ∀(a5:List (Addr×Obj))(s:Shared)(σ:St)(H:Hp)(v:V)(u:Value)(Q:St->Hp->Prop),Inv X a5 σ H s->RelV v u->t v σ H Q ->
  wpAny (model X.prog X.w) X.A (assign eV X.env u) (λ_a s'=>∃ah H',Inv X a5 ah H' s'/\Q ah H') X.xe s
noncomputable def PGs(X:Cx)(ts:List Expr)(t:TGs):Prop :=
 ∀(a5:List (Addr×Obj))(s:Shared)(σ:St)(H:Hp)(vs:List V)(us:List Value)(Q:St->Hp->Prop),Inv X a5 σ H s->Vals vs us->t vs σ H Q ->
  wpAny (model X.prog X.w) X.A (assignInOrder ((assignEach ts X.env).map (·.2)) us) (λ_a s'=>∃ah H',Inv X a5 ah H' s'/\Q ah H') X.xe s
noncomputable abbrev TSet:=V->V->V->Hp->(Hp->Prop)->Prop
noncomputable def PSet(X:Cx)(t:TSet):Prop :=
 ∀(a5:List (Addr×Obj))(s:Shared)(σ:St)(H:Hp)(o i v:V)(ov iv u:Value)(Q:Hp->Prop),Inv X a5 σ H s->RelV o ov->RelV i iv->RelV v u->t o i v H Q ->
  wpAny (model X.prog X.w) X.A (setItem ov iv u) (λ_a s'=>∃H',Inv X a5 σ H' s'/\Q H') X.xe s
noncomputable def qT(i:Nat):TG:=λv σ H Q=>Q (σ.set i (some v)) H
theorem js(hN:X.N.Nodup)(hi:X.N[i]?=some x)(hx:Loc X.env.scope x)(hf:X.fn x=true\/X.env.scope.names.lookup x=some .local:=by first|exact .inl rfl|exact .inr rfl|assumption):PG X (.Name x pos) (qT i):=by
 intro a5 s σ H v u Q I r h;exact wpAny_assign_Name (vE I hN hi hx r (λs' I'=>⟨_,H,I',h⟩) hf)
noncomputable def gNil:TGs:=λvs σ H Q=>vs=[]/\Q σ H
noncomputable def vk(t:TG)(u:TGs):TGs:=λvs σ H Q=>∃v r,vs=v::r/\t v σ H λah H'=>u r ah H' Q
theorem Xy:PGs X [] gNil:=by
 intro a5 s σ H vs us Q I r h;obtain⟨e,h⟩:=h;subst e;cases r;exact UB ⟨σ,H,I,h⟩
theorem xl(h1:PG X e t)(h2:PGs X es u)(hs:(assignEach (e::es) X.env).map (·.2)=assign e X.env::(assignEach es X.env).map (·.2):=by rfl):PGs X (e::es) (vk t u):=by
 intro a5 s σ H vs us Q I r h;obtain⟨v,vr,e1,h⟩:=h;subst e1;cases r with
 |cons r rr=>
  rw[hs];refine Ub (thn (h1 a5 s σ H _ _ _ I r h) λ_a s1 zz=>?_);obtain⟨cv,H1,I1,q1⟩:=zz;exact h2 a5 s1 cv H1 _ _ Q I1 rr q1
noncomputable def gTup(Ξ:PySem.W.Frag)(n:Nat)(t:TGs):TG:=λv σ H Q=>∃a xs,v=.ref a/\SqT Ξ H a xs/\xs.length=n/\t xs σ H Q
theorem YW(hc:X.calm=true)(h:PGs X es t)(hn:(assignEach es X.env).length=n:=by rfl)(dq:(assignEach es X.env).findIdx? (·.1)=none:=by rfl):PG X (.Tuple es k pos) (gTup X.K n t):=by
 intro a5 s σ H v u Q I r hw;obtain⟨a,xs,e1,hq,hl,hw⟩:=hw;subst e1;cases r;obtain⟨its,rv,ht,hz⟩:=I.tuple hq;refine assign_Tuple_tuple (I.ok.hd hc) ht (by simp[hn, <-hl,rv.length]) dq λh' hx=>?_;have I1:Inv X a5 σ H { s with heap:=h' }:=I.kept (t':=s.toks) λb o e=>hx b o (De (Heap.lt_size e)) e;exact h a5 _ σ H xs _ Q I1 (by simpa using rv) hw
noncomputable def gSub(to ti:TE)(t:TSet):TG:=λv σ H Q=>to σ H λo H1=>ti σ H1 λi H2=>t o i v H2 λH3=>Q σ H3
noncomputable def tAsg(te:TE)(g:TG):TS:=λD σ H=>te σ H λx H1=>g x σ H1 D.nx
noncomputable def tPar(i j:Nat)(ta:TA):TS:=λD σ H=>ta σ H λvs H1=>∃v w,vs=[v,w]/\D.nx ((σ.set i (some v)).set j (some w)) H1
structure It where
 go:Nat->Hp->Prop
 yld:Nat->Hp->V->Hp->Prop
 stop:Nat->Hp->Prop
noncomputable def FpOk(X:Cx)(a5:List (Addr×Obj))(H:Hp)(b:Addr):Prop :=
 H b=none/\b≠X.env.locals/\b∉X.fs/\(b∈X.ex\/X.s₀.heap.objs.size<=b)/\(∀x c,X.env.cells.lookup x=some c->c≠b)/\∀p∈X.pn++a5,p.1≠b
theorem Inv.fpOk(I:Inv X a5 σ H s)(hb:s.heap.objs.size<=b)(hn:H' b=none):FpOk X a5 H' b:=by
 refine⟨hn,Nat.ne_of_gt (Dc I.lt hb),I.nofs hb,.inr (Dm I.sz hb),λx c e z=>?_,λp hp z=>?_⟩
 ·obtain⟨v,q⟩:=I.cell x c e
  exact absurd (Dc q.lt (by rw[z];exact hb)) (D3 _)
 ·exact absurd (Dc (Heap.lt_size (I.pin p hp).1) (by rw[z];exact hb)) (D3 _)
noncomputable def CalP:Bool->Cx->Prop
 |true,X=>X.calm=true
 |false,X=>∃a oe vs,X.A.handled=some (.ref a)/\X.base.get? a=some oe/\oe.data=.fields vs/\vs[2]?=some .none
structure q3d(cm:Bool)(P:Program)(w:World)(Ξ:PySem.W.Frag)(tg:Expr)(J:It)(fp:List Addr)(it:Addr)(tn:Nat->Heap->Prop):Prop where
 mem:it∈fp
 obj:∀i h,tn i h->∀b∈fp,∃o,h.get? b=some o/\∀v,o.data ≠ .cell v
 keep:∀i h h',tn i h->(∀b∈fp,∀o,h.get? b=some o->h'.get? b=some o)->tn i h'
 item:∀(X:Cx),X.prog=P->X.w=w->X.K=Ξ->CalP cm X->∀(i:Nat)(a5:List (Addr×Obj))(s:Shared)(σ:St)(H:Hp)(E:Value->Shared->Prop),Inv X a5 σ H s->(∀b∈fp,FpOk X a5 H b)->tn i s.heap->J.go i H ->
  wpAny (model P w) X.A (pyNext (.ref it)) (λr s1=>∃u,r=some u /\
   wpAny (model P w) X.A (letOwnedTupleGo tg (.ref it) u) (λ_a s2=>∃x H',Inv X a5 σ H' s2/\RelV x u/\J.yld i H x H'/\tn (i+1) s2.heap/\∀b∈fp,H' b=none) E s1) E s
 done:∀(X:Cx),X.prog=P->X.w=w->X.K=Ξ->CalP cm X->∀(i:Nat)(a5:List (Addr×Obj))(s:Shared)(σ:St)(H:Hp)(E:Value->Shared->Prop),Inv X a5 σ H s->(∀b∈fp,FpOk X a5 H b)->tn i s.heap->J.stop i H ->
  wpAny (model P w) X.A (pyNext (.ref it)) (λr s1=>r=none/\Inv X a5 σ H s1) E s
 self:∀(A:Around)(i:Nat)(s:Shared)(Q:Value->Shared->Prop)(E:Value->Shared->Prop),tn i s.heap->Q (.ref it) s->wpAny (model P w) A (pyIter (.ref it)) Q E s
noncomputable abbrev Turn:=q3d true
noncomputable abbrev TI:=St->Hp->(It->Hp->Prop)->Prop
noncomputable def PIEC(cm:Bool)(X:Cx)(a5:List (Addr×Obj))(σ:St)(tg:Expr)(R:It->Hp->Prop)(iP:Value)(s2:Shared):Prop :=
 ∃(it:Addr)(fp:List Addr)(tn:Nat->Heap->Prop)(J:It)(H':Hp),iP=.ref it/\Inv X a5 σ H' s2/\q3d cm X.prog X.w X.K tg J fp it tn/\tn 0 s2.heap/\(∀b∈fp,FpOk X a5 H' b)/\R J H'
noncomputable def PIC(cm:Bool)(X:Cx)(tg az:Expr)(wi:TI):Prop :=
 ∀(a5:List (Addr×Obj))(s:Shared)(σ:St)(H:Hp)(R:It->Hp->Prop),Inv X a5 σ H s->wi σ H R ->
  wpAny (model X.prog X.w) X.A (eval az X.env) (λv s1=>wpAny (model X.prog X.w) X.A (pyIter v) (PIEC cm X a5 σ tg R) X.xe s1) X.xe s
noncomputable abbrev PI:=PIC true
theorem q3o(ho:s.heap.get? it=some o)(hc:o.cls=.type n)(hd:o.data=.fields vs)(hn:["enumerate","zip","dict_itemiterator","dict_reverseitemiterator","odict_iterator","itertools.zip_longest","itertools.pairwise"].contains n=false)(hQ:Q () s):wpAny M A (letOwnedTupleGo tg (.ref it) u) Q E s:=by
 unfold letOwnedTupleGo;cases tg<;>first
  |exact GV hQ
  | (cases u<;>first
    |exact GV hQ
    | (refine GU (wpAny_load ho ?_)
       rw[hc,hd];show wpAny M A (if(["enumerate","zip","dict_itemiterator","dict_reverseitemiterator","odict_iterator","itertools.zip_longest","itertools.pairwise"].contains n&&vs[0]?==some (rawInt _))=true then _ else _) Q E s;rw[GZ (by intro h;rw[hn,Bool.false_and]at h;cases h)];exact GV hQ))
noncomputable def Itl(Ξ:PySem.W.Frag)(a:Addr):It :=
 ⟨λi H=>∃xs x,SqL Ξ H a xs/\xs[i]?=some x,λi H x H'=>H'=H/\∀xs,SqL Ξ H a xs->xs[i]?=some x,λi H=>∃xs,SqL Ξ H a xs/\xs.length<=i⟩
noncomputable def Itr(lo:Int)(n:Nat):It:=⟨λi _a=>i<n,λi H x H'=>H'=H/\x=.int (lo+i),λi _a=>n<=i⟩
theorem Yj(a it:Addr):Turn P w Ξ tg (Itl Ξ a) [it] it (λi h=>h.IsListIter it a i) where
 mem:=by simp
 obj:=λi h st b hb=>by
  have e:b=it:=by simpa using hb
  subst e;obtain⟨o,e,c,d⟩:=st;exact⟨o,e,λv z=>by rw[d]at z;cases z⟩
 keep:=λi h h' st k=>st.at λo e=>k it (by simp) o e
 item:=by
  intro X hP hw hK hc i a5 s σ H E I hf st hg;subst hP hw hK;obtain⟨xs,x,hq,hx⟩:=hg;obtain⟨its,rv,p,hz⟩:=I.list hq;obtain⟨u,hu,ru⟩:=rv.get hx;obtain⟨f0,f1,f2,f3,f4,f5⟩:=hf it (by simp);refine wpAny_pyNext_list_item st p.isList (x:=u) (by simpa using hu) λh' cI sb=>?_;have I1:Inv X a5 σ H { s with heap:=h' }:=I.turned (t':=s.toks) (λb o hb e=>(sb.2 b hb).trans e) f0 f1 f3 f4 f5;obtain⟨o,e,c,d⟩:=id cI;exact⟨u,rfl,q3o (s:={ s with heap:=h' }) e c d (by decide) ⟨x,H,I1,ru,⟨rfl,λys hy=>by rw[I.list_inj hy hq];exact hx⟩,cI,λb hb=>(hf b hb).1⟩⟩
 done:=by
  intro X hP hw hK hc i a5 s σ H E I hf st hg;subst hP hw hK;obtain⟨xs,hq,hx⟩:=hg;obtain⟨its,rv,p,hz⟩:=I.list hq;obtain⟨f0,f1,f2,f3,f4,f5⟩:=hf it (by simp);have hl:=rv.length;exact wpAny_pyNext_list_end (I.ok.hd hc) st p.isList (by simp;lia) λh' eb=>⟨rfl,I.turned (t':=s.toks) (λb o hb e=>eb b o hb e) f0 f1 f3 f4 f5⟩
 self:=λ_a _a _a _a _a st h=>wpAny_pyIter_listiter st h
theorem VJ:entryFor table "proto.unchain" = some Builtin.«proto.unchain»:=entryFor_of_fast (by kernel_rfl)
theorem Kr{x left step:Int}(hh:A.handled=some (.ref a))(ho:s.heap.get? a=some oe)(hd:oe.data=.fields vs)(h2:vs[2]?=some .none)(ie:IsRangeIter s.heap it x left step)(gm:left<=0)(hQ:∀h',Heap.ExtBut it s.heap h'->Q none { s with heap:=h' }):wpAny (model prog w) A (pyNext (.ref it)) Q E s:=by
 have hT:s.TypeIs (.ref it) "range_iterator" := ⟨_,ie,rfl⟩;unfold pyNext;refine GU (wpAny_attempt (wpAny_callSpecial?_slot (name:=Str.ofString "__next__") hT F.slot_range_iterator_next
  (UJ F.slot_range_iterator_next hT F.entry_range_iterator_next ?_ (F.args_range_iterator_next_1 _))))
 show wpAny _ _ (field (.ref it) 0 >>= _) _ _ s;refine GU (Ur ie rfl (x:=rawInt x) rfl ?_);show wpAny _ _ (field (.ref it) 1 >>= _) _ _ s;refine GU (Ur ie rfl (x:=rawInt left) rfl ?_);show wpAny _ _ (field (.ref it) 2 >>= _) _ _ s;refine GU (Ur ie rfl (x:=rawInt step) rfl ?_);show wpAny _ _ (if left<=0 then _ else _) _ _ s;rw[G4 gm];refine GU (UP ?_);refine GU ?_;show wpAny _ _ (newExc (.type "StopIteration") [] >>= _) _ _ _;refine GU ?_;simp only[newExc,newTuple];refine GU (G7 ?_ (by size_fits));refine GU (m:=firstArgMember _ _) (wpAny_of_eq (a:=Value.none) (by first|rfl|(simp only[firstArgMember];rfl)) ?_);refine G7 ?_ (by size_fits);simp only[raiseNew];refine GU (wpAny_handled ?_)
 first|rw[show A.in1.handled=some (.ref a)from hh]|rw[hh]
 have lt:=Heap.lt_size ho;have cE:((Value.ref a) != Value.ref (s.heap.push { cls:=Value.type "tuple", data:=Data.seq #[] }).objs.size)=true:=bne_iff_ne.mpr λz=>by
  have:=Value.ref.inj z;rw[Heap.size_push]at this;exact De (RB lt) this
 show wpAny _ _ (if _=true then _ else _) _ _ _;rw[G4 cE];refine GU (G3 (runValue_entry VJ ?_));show wpAny _ _ (field (.ref a) 2 >>= _) _ _ _;refine GU (Ur (Heap.get?_push_of_some _ (Heap.get?_push_of_some _ ho)) hd h2 ?_);refine GV ⟨_,rfl,?_⟩;show wpAny _ _ (setField (.ref _) 2 _ >>= _) _ _ _;refine GU (wpAny_setField (Heap.get?_push_size _ rfl) rfl (by show 2<6;decide) (wpAny_throw ?_));refine GU (wpAny_isInstance (T := "StopIteration") (b:=true) ⟨_,Heap.get?_update_self _ (Heap.get?_push_size _ rfl) rfl,rfl⟩ isSubtype_stop ?_);exact GV (hQ _ λb o hb q=>Heap.get?_update_of_ne _ (λz=>by have:=Heap.lt_size q;rw[<-z,Heap.size_push]at this;exact absurd this (Nat.not_lt.mpr (RY _))) (((Heap.ExtBut.refl it s.heap).push _).push _ b o hb q))
theorem Ke(it:Addr)(lo:Int)(n:Nat):q3d cm P w Ξ tg (Itr lo n) [it] it (λi h=>IsRangeIter h it (lo+(i:Nat)*1) ((n:Int)-(i:Nat)) 1) where
 mem:=by simp
 obj:=λi h st b hb=>by
  have e:b=it:=by simpa using hb
  subst e;exact⟨_,st,λv z=>by
   have z':Data.fields _=Data.cell v:=z;cases z'⟩
 keep:=λi h h' st k=>k it (by simp) _ st
 item:=by
  intro X hP hw hK hc i a5 s σ H E I hf st hg;subst hP hw hK;obtain⟨f0,f1,f2,f3,f4,f5⟩:=hf it (by simp);refine wpAny_pyNext_range_item st (by have:i<n:=hg;lia) λh' cI kk=>?_;have I1:Inv X a5 σ H { s with heap:=h',toks:=s.toks+1 }:=I.turned (λb o hb e=>kk.extBut b o hb e) f0 f1 f3 f4 f5;have fT:IsRangeIter h' it (lo+((i+1:Nat):Int)*1) ((n:Int)-((i+1:Nat):Int)) 1:=by
   rw[show lo+((i+1:Nat):Int)*1=lo+(i:Int)*1+1 by lia,show(n:Int)-((i+1:Nat):Int)=(n:Int)-(i:Int)-1 by lia];exact cI
  refine⟨_,rfl,q3o (s:={ s with heap:=h',toks:=s.toks+1 }) (n := "range_iterator") cI rfl rfl (by decide) ⟨.int (lo+i),H,I1,⟨s.toks,?_⟩,⟨rfl,rfl⟩,fT,λb hb=>(hf b hb).1⟩⟩;rw[Int.mul_one]
 done:=by
  intro X hP hw hK hc i a5 s σ H E I hf st hg;subst hP hw hK;obtain⟨f0,f1,f2,f3,f4,f5⟩:=hf it (by simp);have hl:(n:Int)-(i:Nat)<=0:=by have:n<=i:=hg;lia
  cases cm with
  |true=>exact wpAny_pyNext_range_end (I.ok.hd hc) st hl λh' eb=>⟨rfl,I.turned (t':=s.toks) (λb o hb e=>eb b o hb e) f0 f1 f3 f4 f5⟩
  |false=>
   obtain⟨a,oe,vs,h1,h2,h3,h4⟩:=hc;exact Kr h1 (I.bk a oe h2) h3 h4 st hl λh' eb=>⟨rfl,I.turned (t':=s.toks) (λb o hb e=>eb b o hb e) f0 f1 f3 f4 f5⟩
 self:=λ_a _a _a _a _a st h=>wpAny_pyIter_rangeiter st h
noncomputable def KM(Ξ:PySem.W.Frag)(tl:TE):TI:=λσ H R=>tl σ H λx H1=>∃a,x=.ref a/\(∃xs,SqL Ξ H1 a xs)/\R (Itl Ξ a) H1
theorem q3A(hl:PE X l tl):PI X tg l (KM X.K tl):=by
 intro a5 s σ H R I h;refine thn (hl a5 s σ H _ I h) λv s1 zz=>?_;obtain⟨x,H1,I1,r1,q1⟩:=zz;obtain⟨a,e,⟨xs,hq⟩,q⟩:=q1;subst e;cases r1;obtain⟨its,rv,p,hz⟩:=I1.list hq;refine wpAny_pyIter_list p.isList ?_;refine⟨s1.heap.objs.size, [s1.heap.objs.size],_,_,H1,rfl,I1.kept (t':=s1.toks) λb o e=>Heap.get?_push_of_some _ e,Yj a _,⟨_,Heap.get?_push_size _ rfl,rfl,rfl⟩,λb hb=>?_,q⟩;have e:b=s1.heap.objs.size:=by simpa using hb
 subst e;exact I1.fpOk (UZ _) (I1.hok.fresh (UZ _))
theorem q14{lo hi:Int}(I:Inv X a5 σ H s)(h1 : -(2^62)<=lo)(h2:lo<2^62)(h3 : -(2^62)<=hi)(h4:hi<2^62)(q:R (Itr lo (hi-lo).toNat) H):wpAny (model X.prog X.w) X.A (pyIter (.ref s.heap.objs.size)) (PIEC cm X a5 σ tg R) E { s with heap:=s.heap.push { cls:=.type "range", data:=.fields #[.int lo t,.int hi u,.int 1 v] },toks:=tk }:=by
 refine wpAny_pyIter_range (IsRange.new ..) (small_one h1 h2 h3 h4) ?_;have I1:Inv X a5 σ H { s with heap:=s.heap.push { cls:=.type "range", data:=.fields #[.int lo t,.int hi u,.int 1 v] },toks:=tk }:=I.kept λb o e=>Heap.get?_push_of_some _ e;refine⟨(s.heap.push { cls:=.type "range", data:=.fields #[.int lo t,.int hi u,.int 1 v] }).objs.size, [(s.heap.push { cls:=.type "range", data:=.fields #[.int lo t,.int hi u,.int 1 v] }).objs.size],_,_,H,rfl,
  I1.kept (t':=tk) λb o e=>Heap.get?_push_of_some _ e,Ke _ lo (hi-lo).toNat,?_,λb hb=>?_,q⟩
 ·have e1:lo+((0:Nat):Int)*1=lo:=by simp
  have e2:(((hi-lo).toNat:Nat):Int)-((0:Nat):Int)=Builtin.Range.rangeSize lo hi 1:=by rw[rangeSize_one];split<;>lia
  show IsRangeIter _ _ (lo+((0:Nat):Int)*1) ((((hi-lo).toNat:Nat):Int)-((0:Nat):Int)) 1;rw[e1,e2];exact Heap.get?_push_size _ rfl
 ·have e:b=(s.heap.push { cls:=.type "range", data:=.fields #[.int lo t,.int hi u,.int 1 v] }).objs.size:=by simpa using hb
  subst e;exact I1.fpOk (UZ _) (I1.hok.fresh (UZ _))
noncomputable def WP(ta:TA):TI:=λσ H R=>ta σ H λvs H1=>∃j:Int,vs=[.int j] /\ -(2^62)<=j/\j<2^62/\R (Itr 0 j.toNat) H1
noncomputable def tFor(wi:TI)(g:TG)(tb:TS):TS:=λD σ H=>wi σ H λJ H1=>∃W:Nat->Nat->St->Hp->Prop,(∃m,W 0 m σ H1)/\∀i m σ H,W i m σ H ->
 (J.stop i H/\D.nx σ H)\/(J.go i H/\∃N:St->Hp->Prop,(∀ah H',N ah H'->∃m',m'<m/\W (i+1) m' ah H')/\∀x H',J.yld i H x H'->g x σ H' λcF H2=>tb { D with nx:=N,ct:=N,bk:=D.nx } cF H2)
noncomputable def Zg(fp:List Addr)(h:Heap):List (Addr×Obj):=fp.filterMap λb=>(h.get? b).map λo=>(b,o)
theorem xm(hb:b∈fp)(e:h.get? b=some o):(b,o)∈Zg fp h:=Dr.mpr ⟨b,hb,by rw[e];rfl⟩
theorem Wq(hp:p∈Zg fp h):p.1∈fp/\h.get? p.1=some p.2:=by
 obtain⟨b,hb,e⟩:=Dr.mp hp;cases q:h.get? b with
 |none=>rw[q]at e;cases e
 |some o=>
  rw[q]at e;have e':(b,o)=p:=Option.some.inj e;subst e';exact⟨hb,q⟩
theorem Inv.pinned(I:Inv X a5 σ H s)(hf:∀b∈fp,FpOk X a5 H b)(ho:∀b∈fp,∃o,s.heap.get? b=some o/\∀v,o.data ≠ .cell v):Inv X (a5++Zg fp s.heap) σ H s :=
 I.pins_of λp hp=>(U4.mp hp).elim (λz=>I.pin p (Dd _ z)) λz=>by
  obtain⟨hb,e⟩:=Wq z;obtain⟨f0,f1,f2,_⟩:=hf p.1 hb;obtain⟨o,e',d⟩:=ho p.1 hb;rw[e]at e';cases e';exact⟨e,f0,f1,f2,d⟩
theorem Inv.unpinned(I:Inv X (a5++pl) σ H s):Inv X a5 σ H s:=I.pins_of λp hp=>I.pin p (Dd _ (Df _ hp))
theorem q6m(hp:PassesOwn (model X.prog X.w) X.A X.env X.xe)(hc:X.calm=true)(hi:PI X tg az wi)(hg:PG X tg g)(hb:PSs X body tb)(hs:∀x,foldedSetIterable az X.env x=pure x:=by intro _;rfl):PS X (.For tg az body [] pos) (tFor wi g tb):=by
 intro a5 s σ H D I h;refine wpAny_For (thn (hi a5 s σ H _ I h) λv s1 h1=>thn h1 λiP s2 h2=>?_) hs;obtain⟨it,fp,tn,J,H2,e,I2,T,fT,f2,W,⟨m0,w0⟩,eW⟩:=h2;subst e
 -- what stays true of the iterator's objects through the eX
 have eY:∀{H':Hp},(∀b∈fp,H' b=none)->∀b∈fp,FpOk X a5 H' b:=λhn b hb=>⟨hn b hb,(f2 b hb).2⟩;refine codeAny_forLoop_any (λn s'=>∃i ah H',Inv X a5 ah H' s'/\tn i s'.heap/\(∀b∈fp,H' b=none)/\W i n ah H') ?_ m0 ⟨0,σ,H2,I2,fT,λb hb=>(f2 b hb).1,w0⟩;rintro n s3 ⟨i,gn,H3,I3,ig,mJ,w3⟩;rcases eW i n gn H3 w3 with⟨stop,qn⟩|⟨go,N,hN,step⟩
 ·refine Up hp (thn (T.done X rfl rfl rfl hc i a5 s3 gn H3 X.xe I3 (eY mJ) ig stop) λr s4 zz=>?_)
  obtain⟨hr,I4⟩:=zz;subst hr;exact Ud ⟨gn,H3,I4,qn⟩
 ·refine Up hp (thn (T.item X rfl rfl rfl hc i a5 s3 gn H3 X.xe I3 (eY mJ) ig go) λr s4 zz=>?_)
  obtain⟨u,hr,h4⟩:=zz;subst hr;refine Up hp (thn h4 λ_a s5 zz=>?_);obtain⟨x,H5,I5,r5,y5,fU,eZ⟩:=zz;have nU:=I5.pinned (eY eZ) (T.obj _ _ fU);refine Up hp (thn (hg _ s5 gn H5 x u _ nU r5 (step x H5 y5)) λ_a s6 zz=>?_);obtain⟨nV,H6,I6,q6⟩:=zz;refine Up hp (thn (hb _ s6 nV H6 _ I6 q6) λf s7 q7=>?_);have again:∀{dv:St}{H7:Hp},Inv X (a5++Zg fp s5.heap) dv H7 s7->N dv H7->∃m,m<n/\∃i ah H',Inv X a5 ah H' s7/\tn i s7.heap/\(∀b∈fp,H' b=none)/\W i m ah H':=λ{dv H7} I7 n7=>by
   obtain⟨m',hm,w7⟩:=hN dv H7 n7;refine⟨m',hm,i+1,dv,H7,I7.unpinned,T.keep _ _ _ fU λb hb o e=>(I7.pin (b,o) (Dd _ (Dd _ (xm hb e)))).1,λb hb=>?_,w7⟩;obtain⟨o,e,d⟩:=T.obj _ _ fU b hb;exact(I7.pin (b,o) (Dd _ (Dd _ (xm hb e)))).2.1
  cases f with
  |next=>obtain⟨dv,H7,I7,n7⟩:=q7;exact again I7 n7
  |cont=>obtain⟨dv,H7,I7,n7⟩:=q7;exact again I7 n7
  |brk=>obtain⟨dv,H7,I7,q7⟩:=q7;exact⟨dv,H7,I7.unpinned,q7⟩
  |ret v=>obtain⟨x7,dv,H7,I7,r7,q7⟩:=q7;exact⟨x7,dv,H7,I7.unpinned,r7,q7⟩
theorem q1d{g:TG}{tb:TS}{D:Ends}(Pv:Nat->St->Hp->Prop)(h0:Pv 0 σ H)(hl:∀i σ H,i<=xs.length->Pv i σ H->SqL Ξ H a xs)(hs:∀i x σ H,xs[i]?=some x->Pv i σ H->g x σ H λcF H2=>tb { D with nx:=Pv (i+1),ct:=Pv (i+1),bk:=D.nx } cF H2)(hd:∀σ H,Pv xs.length σ H->D.nx σ H):
  ∃W:Nat->Nat->St->Hp->Prop,(∃m,W 0 m σ H)/\∀i m σ H,W i m σ H ->
   ((Itl Ξ a).stop i H/\D.nx σ H)\/((Itl Ξ a).go i H/\∃N:St->Hp->Prop,(∀ah H',N ah H'->∃m',m'<m/\W (i+1) m' ah H')/\∀x H',(Itl Ξ a).yld i H x H'->g x σ H' λcF H2=>tb { D with nx:=N,ct:=N,bk:=D.nx } cF H2):=by
 refine⟨λi m σ H=>m=xs.length-i/\i<=xs.length/\Pv i σ H,⟨xs.length,by simp,Du _,h0⟩,?_⟩;rintro i m σ H ⟨rfl,hi,p⟩;have q:=hl i σ H hi p;by_cases bQ:i<xs.length
 ·refine .inr ⟨⟨xs,xs[i],q,by simp[bQ]⟩,Pv (i+1),λah H' p'=>⟨xs.length-(i+1),by lia,rfl,bQ,p'⟩,λx H' y=>?_⟩
  obtain⟨e,y⟩:=y;subst e;exact hs i x σ _ (y xs q) p
 ·have e:i=xs.length:=by lia
  subst e;exact .inl ⟨⟨xs,q,UZ _⟩,hd σ H p⟩
noncomputable abbrev R2:=V->V->Hp->VK->Prop
noncomputable def OpR(X:Cx)(f:Value->Value->Sem Value)(r:R2):Prop :=
 ∀(a5:List (Addr×Obj))(s:Shared)(σ:St)(H:Hp)(x y:V)(v u:Value)(Q:VK),Inv X a5 σ H s->RelV x v->RelV y u->r x y H Q ->
  wpAny (model X.prog X.w) X.A (f v u) (EP X a5 σ Q) X.xe s
noncomputable def UnR(X:Cx)(f:Value->Sem Value)(r:V->Hp->VK->Prop):Prop :=
 ∀(a5:List (Addr×Obj))(s:Shared)(σ:St)(H:Hp)(x:V)(v:Value)(Q:VK),Inv X a5 σ H s->RelV x v->r x H Q ->
  wpAny (model X.prog X.w) X.A (f v) (EP X a5 σ Q) X.xe s
noncomputable def zJ(X:Cx)(f:Value)(r:List V->Hp->VK->Prop):Prop :=
 ∀(a5:List (Addr×Obj))(s:Shared)(σ:St)(H:Hp)(xs:List V)(us:List Value)(Q:VK),Inv X a5 σ H s->Vals xs us->r xs H Q ->
  wpAny (model X.prog X.w) X.A (call f us) (EP X a5 σ Q) X.xe s
noncomputable def tOp(r:R2)(ta tb:TE):TE:=λσ H Q=>ta σ H λx H1=>tb σ H1 λy H2=>r x y H2 Q
noncomputable def tUn(r:V->Hp->VK->Prop)(ta:TE):TE:=λσ H Q=>ta σ H λx H1=>r x H1 Q
noncomputable def rI(C:Int->Int->Prop)(g:Int->Int->V):R2:=λx y H Q=>∃i j,x=.int i/\y=.int j/\C i j/\Q (g i j) H
noncomputable def rI0(g:Int->Int->V):R2:=λx y H Q=>∃i j,x=.int i/\y=.int j/\Q (g i j) H
noncomputable def rU(g:Int->V):V->Hp->VK->Prop:=λx H Q=>∃i,x=.int i/\Q (g i) H
theorem binT(ha:PE X a ta)(hb:PE X b tb){R:V->V->Hp->Prop}(I:Inv X a5 σ H s)(h:ta σ H λx H1=>tb σ H1 λy H2=>R x y H2){f:Value->Value->Sem Value}(hf:∀v u s2 x y H2,Inv X a5 σ H2 s2->RelV x v->RelV y u->R x y H2->wpAny (model X.prog X.w) X.A (f v u) Q X.xe s2):
  wpAny (model X.prog X.w) X.A (eval a X.env) (λv ag=>wpAny (model X.prog X.w) X.A (eval b X.env) (λu bz=>wpAny (model X.prog X.w) X.A (f v u) Q X.xe bz) X.xe ag) X.xe s:=by
 refine thn (ha a5 s σ H _ I h) λv s1 zz=>?_;obtain⟨x,H1,I1,r1,q1⟩:=zz;refine thn (hb a5 s1 σ H1 _ I1 q1) λu s2 zz=>?_;obtain⟨y,H2,I2,r2,q2⟩:=zz;exact hf v u s2 x y H2 I2 r1 r2 q2
theorem opI{g:Int->Int->Int}(rule:∀(i j:Int)(t u:Tok)(s:Shared)(Q:Value->Shared->Prop)(E:Value->Shared->Prop),C i j->Q (.int (g i j) s.toks) { s with toks:=s.toks+1 }->wpAny (model X.prog X.w) X.A (f (.int i t) (.int j u)) Q E s):
  OpR X f (rI C λi j=>.int (g i j)):=by
 intro a5 s σ H x y v u Q I rx ry h;obtain⟨i,j,rfl,rfl,hc,q⟩:=h;obtain⟨t,rfl⟩:=rx;obtain⟨t',rfl⟩:=ry;exact rule i j t t' s _ _ hc ⟨.int (g i j),H,I.tok _,⟨_,rfl⟩,q⟩
theorem opI0{g:Int->Int->Int}(rule:∀(i j:Int)(t u:Tok)(s:Shared)(Q:Value->Shared->Prop)(E:Value->Shared->Prop),Q (.int (g i j) s.toks) { s with toks:=s.toks+1 }->wpAny (model X.prog X.w) X.A (f (.int i t) (.int j u)) Q E s):
  OpR X f (rI0 λi j=>.int (g i j)):=by
 intro a5 s σ H x y v u Q I rx ry h;obtain⟨i,j,rfl,rfl,q⟩:=h;obtain⟨t,rfl⟩:=rx;obtain⟨t',rfl⟩:=ry;exact rule i j t t' s _ _ ⟨.int (g i j),H,I.tok _,⟨_,rfl⟩,q⟩
theorem opB0{g:Int->Int->Bool}(rule:∀(i j:Int)(t u:Tok)(s:Shared)(Q:Value->Shared->Prop)(E:Value->Shared->Prop),Q (.bool (g i j)) s->wpAny (model X.prog X.w) X.A (f (.int i t) (.int j u)) Q E s):
  OpR X f (rI0 λi j=>.bl (g i j)):=by
 intro a5 s σ H x y v u Q I rx ry h;obtain⟨i,j,rfl,rfl,q⟩:=h;obtain⟨t,rfl⟩:=rx;obtain⟨t',rfl⟩:=ry;exact rule i j t t' s _ _ ⟨.bl (g i j),H,I,rfl,q⟩
noncomputable def CPow(i j:Int):Prop:=0<=j/\j<=1000000/\i.natAbs<2^64
noncomputable def CMul(i j:Int):Prop:=(-(2^64)<i/\i<2^64)\/(-(2^64)<j/\j<2^64)
theorem CMul.ok(h:CMul i j):IntMulOk i j:=by
 rcases h with⟨h1,h2⟩|⟨h1,h2⟩
 ·exact .of_left (intBits_le_64 h1 h2)
 ·exact .of_right (intBits_le_64 h1 h2)
theorem vz:OpR X (binaryOp .Add) (rI0 λi j=>.int (i+j)):=opI0 λ_a _a _a _a _a _a _a q=>add_int q
theorem jF:OpR X (binaryOp .Sub) (rI0 λi j=>.int (i-j)):=opI0 λ_a _a _a _a _a _a _a q=>sub_int q
theorem kI:OpR X (binaryOp .Mult) (rI CMul λi j=>.int (i*j)):=opI λ_a _a _a _a _a _a _a hc q=>mul_int q hc.ok
theorem xw:OpR X (binaryOp .Mod) (rI (λ_a j=>0<j) λi j=>.int (i % j)):=opI λi j _a _a _a _a _a hc q=>by
 have h1:(0:Int)<j:=hc;exact mod_int' (by lia) (by rw[DW i (by lia)];exact q)
theorem Y0:OpR X (binaryOp .Mod) (rI (λ_a j=>j≠0) λi j=>.int (i.fmod j)):=opI λ_a _a _a _a _a _a _a hc q=>mod_int' hc q
theorem Jx:OpR X (binaryOp .Pow) (rI CPow λi j=>.int (i^j.toNat)):=opI λ_a _a _a _a _a _a _a hc q=>pow_int_small hc.1 hc.2.1 hc.2.2 q
theorem q2t:OpR X (binaryOp .LShift) (rI CPow λi j=>.int (i*2^j.toNat)):=opI λ_a _a _a _a _a _a _a hc q=>lshift_int_small hc.1 hc.2.1 hc.2.2 q
theorem unI{g:Int->Int}(rule:∀(i:Int)(t:Tok)(s:Shared)(Q:Value->Shared->Prop)(E:Value->Shared->Prop),Q (.int (g i) s.toks) { s with toks:=s.toks+1 }->wpAny (model X.prog X.w) X.A (f (.int i t)) Q E s):
  UnR X f (rU λi=>.int (g i)):=by
 intro a5 s σ H x v Q I rx h;obtain⟨i,rfl,q⟩:=h;obtain⟨t,rfl⟩:=rx;exact rule i t s _ _ ⟨.int (g i),H,I.tok _,⟨_,rfl⟩,q⟩
theorem q5s:UnR X (unaryOp .USub) (rU λi=>.int (-i)):=unI λ_a _a _a _a _a q=>neg_int q
noncomputable def scal:V->V->Bool
 |.non,.non=>true | .non,.int _=>true | .int _,.non=>true | .non,.bl _=>true | .bl _,.non=>true | .non,.str _=>true | .str _,.non=>true
 |.int _,.int _=>true | .bl _,.bl _=>true | .str _,.str _=>true | .byt _,.byt _=>true
 |.int _,.str _=>true | .str _,.int _=>true | .bl _,.str _=>true | .str _,.bl _=>true
 |_,_=>false
noncomputable def rEq:R2:=λx y H Q=>scal x y=true/\Q (.bl (decide (x=y))) H
noncomputable def rNe:R2:=λx y H Q=>scal x y=true/\Q (.bl (!decide (x=y))) H
theorem Ge:decide (V.int i=V.int j)=(i==j):=by
 rw[Rn];simp
theorem q1W:decide (V.bl i=V.bl j)=(i==j):=by
 rw[Rn];simp
theorem Gd:decide (V.str i=V.str j)=(i==j):=by
 rw[Rn];simp
theorem Gf:decide (V.byt i=V.byt j)=(i.toList==j.toList):=by
 rw[Rn];cases i;cases j;simp
theorem qZ(I:Inv X a5 σ H s)(q:Q (.bl k) H)(e:k=k'):EP X a5 σ Q (.bool k') s:=by
 subst e;exact⟨.bl k,H,I,rfl,q⟩
theorem op_eq:OpR X (compareOp .Eq) rEq:=by
 intro a5 s σ H x y v u Q I rx ry h;obtain⟨hs,q⟩:=h;cases x with
 |non=>
  cases rx;cases y with
  |non=>cases ry;exact PySem.EqNone.eq_none_none (qZ I q (by simp))
  |bl j=>cases ry;exact PySem.EqNone.eq_none_bool (qZ I q (by simp))
  |int j=>obtain⟨t',rfl⟩:=ry;exact PySem.EqNone.eq_none_int (qZ I q (by simp))
  |str j=>obtain⟨t',rfl⟩:=ry;exact PySem.EqNone.eq_none_str (qZ I q (by simp))
  |_=>exact absurd (show false=true from hs) U6
 |bl i=>
  cases rx;cases y with
  |non=>cases ry;exact PySem.EqNone.eq_bool_none (qZ I q (by simp))
  |bl j=>cases ry;exact eq_bool (qZ I q q1W)
  |str j=>obtain⟨t',rfl⟩:=ry;exact PySem.EqMixed.eq_bool_str (qZ I q (by simp))
  |_=>exact absurd (show false=true from hs) U6
 |int i=>
  obtain⟨t,rfl⟩:=rx;cases y with
  |non=>cases ry;exact PySem.EqNone.eq_int_none (qZ I q (by simp))
  |int j=>obtain⟨t',rfl⟩:=ry;exact eq_int (qZ I q Ge)
  |str j=>obtain⟨t',rfl⟩:=ry;exact PySem.EqMixed.eq_int_str (qZ I q (by simp))
  |_=>exact absurd (show false=true from hs) U6
 |str i=>
  obtain⟨t,rfl⟩:=rx;cases y with
  |non=>cases ry;exact PySem.EqNone.eq_str_none (qZ I q (by simp))
  |bl j=>cases ry;exact PySem.EqMixed.eq_str_bool (qZ I q (by simp))
  |int j=>obtain⟨t',rfl⟩:=ry;exact PySem.EqMixed.eq_str_int (qZ I q (by simp))
  |str j=>obtain⟨t',rfl⟩:=ry;exact eq_str (qZ I q Gd)
  |_=>exact absurd (show false=true from hs) U6
 |byt i=>
  obtain⟨t,rfl⟩:=rx;cases y with
  |byt j=>obtain⟨t',rfl⟩:=ry;exact W.eq_bytes (qZ I q Gf)
  |_=>exact absurd (show false=true from hs) U6
 |_=>cases y<;>exact absurd (show false=true from hs) U6
theorem jR:OpR X (compareOp .NotEq) rNe:=by
 intro a5 s σ H x y v u Q I rx ry h;obtain⟨hs,q⟩:=h;cases x with
 |non=>
  cases rx;cases y with
  |non=>cases ry;exact PySem.EqNone.ne_none_none (qZ I q (by simp))
  |bl j=>cases ry;exact PySem.EqNone.ne_none_bool (qZ I q (by simp))
  |int j=>obtain⟨t',rfl⟩:=ry;exact PySem.EqNone.ne_none_int (qZ I q (by simp))
  |str j=>obtain⟨t',rfl⟩:=ry;exact PySem.EqNone.ne_none_str (qZ I q (by simp))
  |_=>exact absurd (show false=true from hs) U6
 |bl i=>
  cases rx;cases y with
  |non=>cases ry;exact PySem.EqNone.ne_bool_none (qZ I q (by simp))
  |bl j=>cases ry;exact ne_bool (qZ I q (G1 not q1W))
  |str j=>obtain⟨t',rfl⟩:=ry;exact PySem.EqMixed.ne_bool_str (qZ I q (by simp))
  |_=>exact absurd (show false=true from hs) U6
 |int i=>
  obtain⟨t,rfl⟩:=rx;cases y with
  |non=>cases ry;exact PySem.EqNone.ne_int_none (qZ I q (by simp))
  |int j=>obtain⟨t',rfl⟩:=ry;exact ne_int (qZ I q (G1 not Ge))
  |str j=>obtain⟨t',rfl⟩:=ry;exact PySem.EqMixed.ne_int_str (qZ I q (by simp))
  |_=>exact absurd (show false=true from hs) U6
 |str i=>
  obtain⟨t,rfl⟩:=rx;cases y with
  |non=>cases ry;exact PySem.EqNone.ne_str_none (qZ I q (by simp))
  |bl j=>cases ry;exact PySem.EqMixed.ne_str_bool (qZ I q (by simp))
  |int j=>obtain⟨t',rfl⟩:=ry;exact PySem.EqMixed.ne_str_int (qZ I q (by simp))
  |str j=>obtain⟨t',rfl⟩:=ry;exact ne_str (qZ I q (G1 not Gd))
  |_=>exact absurd (show false=true from hs) U6
 |byt i=>
  obtain⟨t,rfl⟩:=rx;cases y with
  |byt j=>obtain⟨t',rfl⟩:=ry;exact W.ne_bytes (qZ I q (G1 not Gf))
  |_=>exact absurd (show false=true from hs) U6
 |_=>cases y<;>exact absurd (show false=true from hs) U6
theorem Kw:OpR X (compareOp .Lt) (rI0 λi j=>.bl (decide (i<j))):=opB0 λ_a _a _a _a _a _a _a q=>lt_int q
theorem q6Z:OpR X (compareOp .Gt) (rI0 λi j=>.bl (decide (j<i))):=opB0 λ_a _a _a _a _a _a _a q=>gt_int q
theorem q78:OpR X (compareOp .GtE) (rI0 λi j=>.bl (decide (j<=i))):=opB0 λ_a _a _a _a _a _a _a q=>ge_int q
theorem Y1:OpR X (compareOp .In) (λx y H Q=>∃i j,x=.str i/\y=.str j/\Q (.bl (!(Builtin.Str.occurrences j i 0 j.length 1).isEmpty)) H):=by
 intro a5 s σ H x y v u Q I rx ry h;obtain⟨i,j,rfl,rfl,q⟩:=h;obtain⟨t,rfl⟩:=rx;obtain⟨t',rfl⟩:=ry;exact in_str (qZ I q rfl)
theorem q45:OpR X (compareOp .IsNot) (λx y H Q=>y=.non/\Q (.bl (!decide (x=.non))) H):=by
 intro a5 s σ H x y v u Q I rx ry h;obtain⟨rfl,q⟩:=h;cases ry;refine isnot_none_gen (qZ I q ?_);cases x<;>first
  | (cases rx;rfl)
  | (obtain⟨t,rfl⟩:=rx;rfl)
theorem OpR.or(h:OpR X f r)(h':OpR X f r'):OpR X f (λx y H Q=>r x y H Q\/r' x y H Q):=by
 intro a5 s σ H x y v u Q I rx ry q;rcases q with q|q
 ·exact h a5 s σ H x y v u Q I rx ry q
 ·exact h' a5 s σ H x y v u Q I rx ry q
theorem qm(b:Expr)(h:op ≠ .In:=by decide)(h2:op ≠ .NotIn:=by decide):behindInMarks op b=false:=by
 have e1:(op==CmpOp.In)=false:=by cases op<;>first|rfl|exact absurd rfl h
 have e2:(op==CmpOp.NotIn)=false:=by cases op<;>first|rfl|exact absurd rfl h2
 cases b<;>simp[behindInMarks,e1,e2]
noncomputable def QZ(t:TE):TT:=λσ H Q=>t σ H λx H'=>∃k,x=.bl k/\Q k H'
noncomputable def Jo(r r':R2)(ta tb tc:TE):TE:=λσ H Q=>ta σ H λx H1=>tb σ H1 λy H2=>r x y H2 λz H3=>∃k,z=.bl k /\
 (if k=true then tc σ H3 λw' H4=>r' y w' H4 Q else Q (.bl false) H3)
noncomputable def TruV(Ξ:PySem.W.Frag)(x:V)(H:Hp)(k:Bool):Prop :=
 match x with
 |.non=>k=false
 |.bl b=>k=b
 |.int i=>k=(i != 0)
 |.str y=>y.length<=sizeLine/\k=((y.length:Int) != 0)
 |.byt y=>y.size<=sizeLine/\k=((y.size:Int) != 0)
 |.ref p=>(∃xs,SqL Ξ H p xs/\k = !xs.isEmpty)\/(∃xs,SqT Ξ H p xs/\k = !xs.isEmpty)\/∃kvs,H p=some (.dK kvs)/\k = !kvs.isEmpty
 |_=>False
theorem JF:(sizeLine:Nat)<2^63:=by rw[Uf];decide
theorem QU(r:Vals [x] us):∃u,us=[u]/\RelV x u:=by
 cases r with
 |cons r1 r2=>cases r2;exact⟨_,rfl,r1⟩
theorem vals2(r:Vals [x,y] us):∃u w',us=[u,w']/\RelV x u/\RelV y w':=by
 cases r with
 |cons r1 r2=>
  cases r2 with
  |cons r3 r4=>cases r4;exact⟨_,_,rfl,r1,r3⟩
theorem J8:zJ X (.builtin "abs") (λxs H Q=>∃i,xs=[.int i]/\Q (.int (if i<0 then -i else i)) H):=by
 intro a5 s σ H xs us Q I r h;obtain⟨i,rfl,q⟩:=h;obtain⟨u,rfl,t,rfl⟩:=QU r;exact call_abs_int λu tk=>⟨.int (if i<0 then -i else i),H,I.tok _,⟨_,rfl⟩,q⟩
theorem Qc:zJ X (.type "int") (λxs H Q=>(∃i,xs=[.int i]/\Q (.int i) H)\/∃k,xs=[.bl k]/\Q (.int (if k then 1 else 0)) H):=by
 intro a5 s σ H xs us Q I r h;rcases h with⟨i,rfl,q⟩|⟨k,rfl,q⟩
 ·obtain⟨u,rfl,t,rfl⟩:=QU r
  exact call_int_int ⟨.int i,H,I,⟨_,rfl⟩,q⟩
 ·obtain⟨u,rfl,r1⟩:=QU r
  cases r1;exact call_int_bool ⟨.int (if k then 1 else 0),H,I.tok _,⟨_,rfl⟩,q⟩
structure ObjM(h:Heap)(x dx C:Addr)(mA:Str->Option Value):Prop where
 obj:h.get? x=some (W.instObj C dx)
 ns:h.Ns1 dx mA
 ne:dx≠x
set_option tactic.hygienic true in
theorem kP{h:Heap}(n:h.Ns1 dx mA):∃od,h.get? dx=some od/\∀name,W.lookIn name od=some (mA name):=by
 obtain⟨o,es,ep,ho,hd,hk,_,hm⟩:=n;refine⟨o,ho,λname=>?_⟩;have e:=hm name;unfold nsFind findBy at e;rw[<-Bh]at e;unfold W.lookIn;rw[hd];dsimp only;split
 ·rename_i y q
  rw[q]at e;exact G1 some e
 ·rename_i q
  rw[q]at e;have a:es.toList.any (·.refKey)=false:=by
   rw[List.any_eq_false];intro y hy;obtain⟨z,t,hkey⟩:=hk y (Array.mem_toList_iff.mp hy);simp[DictEntry.refKey,hkey]
  have a':¬es.toList.any (·.refKey)=true:=by rw[a];exact U6
  rw[GZ a'];exact G1 some e
theorem ObjM.look(I:ObjM h x dx C mA):∃od,PySem.W.InstAt h x (W.instObj C dx) C (some od)/\∀name,W.lookIn name od=some (mA name):=
 let⟨od,ho,hl⟩:=kP I.ns
 ⟨od,⟨I.obj,rfl,rfl,ho⟩,hl⟩
theorem q3E(X:Ξ.In s.heap)(I:ObjM s.heap x dx C mA)(hg:W.plainGet Ξ C name=true)(hh:W.hasDictIn Ξ C=true)(ha:W.findIn Ξ (.ref C) name=some none)(hv:mA name=some v)(nW:W.handedIn v=true)(h:Q v { s with toks:=s.toks+1 }):
  wpAny (model prog w) A (getAttr (.ref x) name expr) Q E s:=by
 obtain⟨od,J,hl⟩:=I.look;exact W.get_value X J (Ro hg).1 (Rp hh ha rfl (by rw[hl,hv])) nW h
theorem q1J(X:Ξ.In s.heap)(I:ObjM s.heap x dx C mA)(hg:W.plainGet Ξ C name=true)(hf:W.findIn Ξ (.ref C) name=some (some (.ref f)))(ht:W.isFn Ξ (.ref f)=true)(hv:mA name=none)(h:Q (.ref f, [.ref x]) s):
  wpAny (model prog w) A (getMethod (.ref x) name pl) Q E s:=by
 obtain⟨od,J,hl⟩:=I.look;exact W.method_fn X J (Ro hg).1 (Ro hg).2 hf (beq_iff_eq.mp ht) (by show(W.lookIn name od).map (·.isSome)=some false;rw[hl,hv];rfl) h
theorem q4a(X:Ξ.In s.heap)(I:ObjM s.heap x dx C mA)(hs:W.findIn Ξ (.ref C) "__setattr__" = some (some (.builtin "object.__setattr__")))(hp:W.plainOver Ξ C=true)(ht:W.takerIn Ξ C name=some none)(hh:W.hasDictIn Ξ C=true)(hw:PySem.Within mA ns)(hsz:ns.length<=sizeLine)(h:∀h',ObjM h' x dx C (λy=>if y=name then some v else mA y)->Heap.SameBut dx s.heap h'->Q () { s with heap:=h',toks:=s.toks+2 }):
  wpAny (model prog w) A (setAttr (.ref x) name v) Q E s:=by
 obtain⟨od,J,hl⟩:=I.look;refine W.set_plain X J hs (W.osa_open (s:={ s with toks:=s.toks+1 }) (r:=none) X J hp ht λb=>?_);obtain⟨cd,hc,dh⟩:=W.any_some hh;have hx:s.heap.get? x=some ⟨.ref C,some dx,.plain, #[]⟩:=I.obj;refine GU (GV (GU (GU (wpAny_loadPart hx (GU (PySem.W.Looks.here (s:={ s with toks:=s.toks+1 }) (W.looks_clsIn X hc) ?_))))));rw[dh];refine GV (a:=some dx) (GU (GV (GU ?_)));refine wpAny_nsSet1 (s:={ s with toks:=s.toks+1 }) I.ns λh' fV eG=>?_;obtain⟨oD,nX,nY,iQ,iR,iS⟩:=fV.count (PySem.Within.cons name v hw);refine GU (wpAny_lookBehind iQ (by rw[iR];exact pastItsLine_dict (Dm iS (by rw[U8];lia))) ?_);exact GV (h _ ⟨(eG.2 _ (Ne.symm I.ne)).trans I.obj,fV,I.ne⟩ eG)
theorem q0V(X:Ξ.In s.heap)(hm:W.makesIn Ξ C=true)(hi:W.findIn Ξ (.ref C) "__init__" = some (some (.ref f)))(hf:W.typeIn Ξ (.ref f)=some (.type "function"))(h:codeAny (model prog w) (A.under (.builtin "type.__call__" ⟨.ref C::vs,kw⟩)) (.call (.ref f) ⟨.ref (s.heap.objs.size+1)::vs,kw⟩) (PySem.W.InitBack (s.heap.objs.size+1) R)
   { s with heap:=(s.heap.push W.emptyDict).push (W.instObj C s.heap.objs.size) }):
  codeAny (model prog w) A (.call (.ref C) ⟨vs,kw⟩) R s:=by
 obtain⟨hh,g,d,t,os⟩:=s;exact W.make_core (W.makes_of X hm) (W.looks_findIn X hi) (λself=>W.bind_fn X self hf) (.inl rfl) h
noncomputable def putF(f:Str)(v:V):List (Str×V)->List (Str×V)
 | []=>[(f,v)]
 | (g,x)::r=>if g=f then(g,v)::r else(g,x)::putF f v r
theorem kO(f g:Str)(v:V):∀fs:List (Str×V),(putF f v fs).lookup g=if g=f then some v else fs.lookup g
 | []=>by
  show List.lookup g [(f,v)]=_;by_cases h:g=f
  ·have hb:(g==f)=true:=beq_iff_eq.mpr h
   simp only[List.lookup,hb,G4 h]
  ·have hb:(g==f)=false:=beq_eq_false_iff_ne.mpr h
   simp only[List.lookup,hb,GZ h]
 | (k,x)::r=>by
  have ih:=kO f g v r;rw[show putF f v ((k,x)::r)=(if k=f then(k,v)::r else(k,x)::putF f v r)from rfl];by_cases hk:k=f
  ·rw[G4 hk]
   by_cases h:g=k
   ·have hb:(g==k)=true:=beq_iff_eq.mpr h
    simp only[List.lookup,hb,G4 (h.trans hk)]
   ·have hb:(g==k)=false:=beq_eq_false_iff_ne.mpr h
    simp only[List.lookup,hb,GZ (λe:g=f=>h (e.trans hk.symm))]
  ·rw[GZ hk]
   by_cases h:g=k
   ·have hb:(g==k)=true:=beq_iff_eq.mpr h
    simp only[List.lookup,hb,GZ (λe:g=f=>hk (h.symm.trans e))]
   ·have hb:(g==k)=false:=beq_eq_false_iff_ne.mpr h
    simp only[List.lookup,hb];exact ih
theorem kS(f:Str)(v:V):∀fs:List (Str×V),f∈(putF f v fs).map (·.1)/\∀g,g∈fs.map (·.1)->g∈(putF f v fs).map (·.1)
 | []=>⟨by simp[putF],λg h=>by simp at h⟩
 | (k,x)::r=>by
  obtain⟨i1,i2⟩:=kS f v r;rw[show putF f v ((k,x)::r)=(if k=f then(k,v)::r else(k,x)::putF f v r)from rfl];by_cases hk:k=f
  ·rw[G4 hk]
   subst hk;exact⟨by simp,λg h=>by simpa using h⟩
  ·rw[GZ hk]
   refine⟨?_,λg h=>?_⟩
   ·rw[Di]
    exact Dn _ i1
   ·rw[Di]at h ⊢
    rcases Da.mp h with e|e
    ·exact Da.mpr (.inl e)
    ·exact Dn _ (i2 g e)
theorem kQ(f:Str)(v:V):∀fs:List (Str×V),(putF f v fs).length<=fs.length+1
 | []=>by simp[putF]
 | (k,x)::r=>by
  have ih:=kQ f v r;rw[show putF f v ((k,x)::r)=(if k=f then(k,v)::r else(k,x)::putF f v r)from rfl];by_cases hk:k=f
  ·rw[G4 hk,U8,U8];lia
  ·rw[GZ hk,U8,U8];lia
theorem RelO.some_of(r:RelO (some v) o):∃u,o=some u/\RelV v u:=by
 cases o with
 |none=>exact(show False from r).elim
 |some u=>exact⟨u,rfl,r⟩
theorem RelO.none_of(r:RelO none o):o=none:=by
 cases o with
 |none=>rfl
 |some u=>exact(show False from r).elim
theorem WR(r:RelV v u):W.handedIn u=true:=by
 cases v with
 |non=>cases(show u=Value.none from r);rfl
 |bl b=>cases(show u=Value.bool b from r);rfl
 |int i=>obtain⟨t,e⟩:=(show ∃t,u=Value.int i t from r);cases e;rfl
 |str x=>obtain⟨t,e⟩:=(show ∃t,u=Value.str x t from r);cases e;rfl
 |byt b=>obtain⟨t,e⟩:=(show ∃t,u=Value.bytes b t from r);cases e;rfl
 |flt b=>obtain⟨t,e⟩:=(show ∃t,u=Value.float b t from r);cases e;rfl
 |ref a=>cases(show u=Value.ref a from r);rfl
 |ty n=>cases(show u=Value.type n from r);rfl
theorem Vz(hok:HOk P w H h)(e:H a=some (.ins C dx fs)):∃mA,ObjM h a dx C mA/\(∀f,RelO (fs.lookup f) (mA f))/\PySem.Within mA (fs.map (·.1))/\fs.length<=1000/\H dx=some (.own a):=by
 obtain⟨d,z,ne,ob,mA,n,r,q⟩:=(show ObjOk P w H h a (.ins C dx fs)from hok a _ e);exact⟨mA,⟨ob,n,ne⟩,r,q,z,d⟩
structure Cls(Ξ:PySem.W.Frag)(C:Addr):Prop where
 pg:W.plainGet Ξ C Str.empty=true
 hd:W.hasDictIn Ξ C=true
 po:W.plainOver Ξ C=true
 sa:W.findIn Ξ (.ref C) "__setattr__" = some (some (.builtin "object.__setattr__"))
theorem Cls.get(c:Cls Ξ C)(f:Str):W.plainGet Ξ C f=true:=c.pg
noncomputable def NoAttr(Ξ:PySem.W.Frag)(C:Addr)(f:Str):Prop:=W.findIn Ξ (.ref C) f=some none
theorem NoAttr.taker(n:NoAttr Ξ C f):W.takerIn Ξ C f=some none:=by
 unfold W.takerIn;rw[show W.findIn Ξ (.ref C) f=some none from n];rfl
structure Meth(Ξ:PySem.W.Frag)(C:Addr)(m:Str)(f:Addr):Prop where
 at_:W.findIn Ξ (.ref C) m=some (some (.ref f))
 fn:W.isFn Ξ (.ref f)=true
 kp:W.keepIn Ξ (.ref f)=true
theorem Qy(I:Inv X a5 σ H s)(e:H a=some (.ins C dx fs))(c:Cls X.K C)(n:NoAttr X.K C f)(l:fs.lookup f=some v)(h:∀u s',Inv X a5 σ H s'->RelV v u->Q u s'):wpAny (model X.prog X.w) A (getAttr (.ref a) f b) Q E s:=by
 obtain⟨mA,O,r,_,_,_⟩:=Vz I.hok e;obtain⟨u,hu,ru⟩:=RelO.some_of (v:=v) (o:=mA f) (by rw[<-l];exact r f);exact q3E I.kIn O (c.get f) c.hd n hu (WR ru) (h u _ (I.tok _) ru)
theorem xn(I:Inv X a5 σ H s)(e:H a=some (.ins C dx fs))(c:Cls X.K C)(k:Meth X.K C m g)(l:fs.lookup m=none)(h:Q (.ref g, [.ref a]) s):wpAny (model X.prog X.w) A (getMethod (.ref a) m pl) Q E s:=by
 obtain⟨mA,O,r,_,_,_⟩:=Vz I.hok e;have hn:mA m=none:=RelO.none_of (by rw[<-l];exact r m);exact q1J I.kIn O (c.get m) k.at_ k.fn hn h
theorem Ki(I:Inv X a5 σ H s)(e:H a=some (.ins C dx fs))(c:Cls X.K C)(n:NoAttr X.K C f)(hl:fs.length<1000)(ry:RelV y u)(h:∀s',Inv X a5 σ (upd H a (.ins C dx (putF f y fs))) s'->Q () s'):wpAny (model X.prog X.w) A (setAttr (.ref a) f u) Q E s:=by
 obtain⟨mA,O,r,wi,_,ho⟩:=Vz I.hok e;have hz:(fs.map (·.1)).length<=sizeLine:=by rw[UY,Uf];lia
 refine q4a I.kIn O c.sa c.po n.taker c.hd wi hz λh' O' sb=>h _ ?_;have hd:∃o,h'.get? dx=some o:=let⟨o,_,_,e',_⟩:=O'.ns;⟨o,e'⟩;refine I.write (x:=a) (e:=dx) (by rw[e];exact True.intro) (.inr ho) (λb q hb z=>(sb.2 b hb).trans z) hd ?_;refine⟨by rw[upd_ne O.ne];exact ho,?_,O.ne,O'.obj,_,O'.ns,λg=>?_,λg hg=>?_⟩
 ·have:=kQ f y fs;lia
 ·show RelO ((putF f y fs).lookup g) (if g=f then some u else mA g)
  rw[kO];by_cases q:g=f
  ·rw[G4 q,G4 q];exact ry
  ·rw[GZ q,GZ q];exact r g
 ·by_cases q:g=f
  ·rw[q];exact(kS f y fs).1
  ·refine(kS f y fs).2 g (wi g λz=>hg ?_)
   show(if g=f then some u else mA g)=none;rw[GZ q];exact z
theorem Inv.made(I:Inv X a5 σ H s):Inv X a5 σ (upd (upd H s.heap.objs.size (.own (s.heap.objs.size+1))) (s.heap.objs.size+1) (.ins C s.heap.objs.size []))
  { s with heap:=(s.heap.push W.emptyDict).push (W.instObj C s.heap.objs.size) }:=by
 have e1:(s.heap.push W.emptyDict).get? s.heap.objs.size=some W.emptyDict:=Heap.get?_push_size s.heap rfl;have e2:((s.heap.push W.emptyDict).push (W.instObj C s.heap.objs.size)).get? (s.heap.objs.size+1)=some (W.instObj C s.heap.objs.size):=by
  have:=Heap.get?_push_size (s.heap.push W.emptyDict) (o:=W.instObj C s.heap.objs.size) rfl;rwa [Heap.size_push]at this
 have e3:(s.heap.push W.emptyDict).Ns s.heap.objs.size (λ_a=>none):=⟨W.emptyDict, #[],_,e1,rfl,(λe he=>absurd he (by simp)),λ_a=>rfl⟩;have I1:=I.laid (a:=s.heap.objs.size) (o:=.own (s.heap.objs.size+1)) (h':=s.heap.push W.emptyDict) (t':=s.toks) (λb u q=>Heap.get?_push_of_some _ q) (UZ _) ⟨_,e1⟩;refine I1.laid (a:=s.heap.objs.size+1) (o:=.ins C s.heap.objs.size []) (t':=s.toks) (λb u q=>Heap.get?_push_of_some _ q) (Rx (Heap.size_push _ _)) ?_;have ne:s.heap.objs.size≠s.heap.objs.size+1:=De (RK _);refine⟨by rw[upd_ne ne,upd_same],Du _,ne,e2,λ_a=>none,(Heap.Ns1.of_empty e3).at λo q=>Heap.get?_push_of_some _ q,λ_a=>True.intro,λy hy=>absurd rfl hy⟩
theorem VT(hb:attributeBase e f env (eval e env)=eval e env)(h:wpAny (model prog w) A (eval e env) (λo ag=>wpAny (model prog w) A (getAttr o f true) Q E ag) E s):wpAny (model prog w) A (eval (.Attribute e f pos) env) Q E s :=
 Attribute_any_ h (by rw[arm_eval_Attribute,hb])
noncomputable def tFld(Ξ:PySem.W.Frag)(ta:TE)(f:Str):TE:=λσ H Q=>ta σ H λx H1=>∃a C dx fs v,x=.ref a/\H1 a=some (.ins C dx fs)/\Cls Ξ C/\NoAttr Ξ C f/\fs.lookup f=some v/\Q v H1
noncomputable def sFld(Ξ:PySem.W.Frag)(ta tv:TE)(f:Str):TS:=λD σ H=>tv σ H λy H1=>ta σ H1 λx H2=>∃a C dx fs,x=.ref a/\H2 a=some (.ins C dx fs)/\Cls Ξ C/\NoAttr Ξ C f/\fs.length<1000 /\
 D.nx σ (upd H2 a (.ins C dx (putF f y fs)))
section
variable {X:Cx}{a5:List (Addr×Obj)}{σ:St}{H:Hp}{s:Shared}{A:Around}{E:Value->Shared->Prop}{Q:Value->Shared->Prop}{c:Value}{b:Bool}
inductive TyOf(Ξ:PySem.W.Frag)(H:Hp):V->Value->Prop where
 |non:TyOf Ξ H .non (.type "NoneType")
 |bl (x:Bool):TyOf Ξ H (.bl x) (.type "bool")
 |int (i:Int):TyOf Ξ H (.int i) (.type "int")
 |str (x:Str):TyOf Ξ H (.str x) (.type "str")
 |flt (x:UInt64):TyOf Ξ H (.flt x) (.type "float")
 |lst {a:Addr}{xs:List V} (e:H a=some (.lst xs)):TyOf Ξ H (.ref a) (.type "list")
 |frz {a:Addr}{o:Obj}{xs:List V} (e:H a=some (.frz o (.lst xs))):TyOf Ξ H (.ref a) (.type "list")
 |tup {a:Addr}{xs:List V} (e:H a=some (.tup xs)):TyOf Ξ H (.ref a) (.type "tuple")
 |dK {a:Addr}{kvs:List (Key×V)} (e:H a=some (.dK kvs)):TyOf Ξ H (.ref a) (.type "dict")
 |dT {a:Addr}{kvs:List (List Key×V)} (e:H a=some (.dT kvs)):TyOf Ξ H (.ref a) (.type "dict")
 |ins {a C dx:Addr}{fs:List (Str×V)} (e:H a=some (.ins C dx fs)) (cl:Cls Ξ C) (ha:W.findIn Ξ (.ref C) "__class__" = some (some (.builtin "object.__class__")))
   (hn:W.specialIn Ξ (.builtin "object.__class__") "__get__" = some (some (.builtin "getset_descriptor.__get__"))) (htk:W.takesIn Ξ (.builtin "object.__class__")=some true)
   (hm:W.mroIn Ξ C (.type "object")=some true):TyOf Ξ H (.ref a) (.ref C)
theorem Zq(I:Inv X a5 σ H s)(rx:RelV x u)(ty:TyOf X.K H x t)(e:W.kitOne X.K t c=some b)(h:∀tk,Q (.bool b) { s with toks:=tk }):
  wpAny (model X.prog X.w) A (call (.builtin "isinstance") [u,c]) Q E s:=by
 cases ty with
 |non=>cases(show u=Value.none from rx);exact Dt W.kitx_none I.kIn True.intro e (λz=>nomatch z) h
 |bl y=>cases(show u=Value.bool y from rx);exact Dt W.kitx_bool I.kIn True.intro e (λz=>nomatch z) h
 |int i=>obtain⟨t,q⟩:=(show ∃t,u=Value.int i t from rx);cases q;exact Dt W.kitx_int I.kIn True.intro e (λz=>nomatch z) h
 |str y=>obtain⟨t,q⟩:=(show ∃t,u=Value.str y t from rx);cases q;exact Dt W.kitx_str I.kIn True.intro e (λz=>nomatch z) h
 |flt y=>obtain⟨t,q⟩:=(show ∃t,u=Value.float y t from rx);cases q;exact Dt Bi I.kIn True.intro e (λz=>nomatch z) h
 | @lst a xs ea=>
  cases(show u=Value.ref a from rx);obtain⟨_,_,n,_,h1⟩:=(show ObjOk X.prog X.w H s.heap a (.lst xs)from I.hok a _ ea);exact Dt Ra I.kIn ⟨_,h1,rfl⟩ e (λz=>nomatch z) h
 | @frz a ob xs ea=>
  cases(show u=Value.ref a from rx);obtain⟨_,_,_,n,_,h1⟩:=(show ObjOk X.prog X.w H s.heap a (.frz ob (.lst xs))from I.hok a _ ea);exact Dt Ra I.kIn ⟨_,h1,rfl⟩ e (λz=>nomatch z) h
 | @tup a xs ea=>
  cases(show u=Value.ref a from rx);obtain⟨_,_,_,p⟩:=(show ObjOk X.prog X.w H s.heap a (.tup xs)from I.hok a _ ea);obtain⟨o,h1,h2,_⟩:=p;exact Dt Bj I.kIn ⟨o,h1,h2⟩ e (λz=>nomatch z) h
 | @dK a kvs ea=>
  cases(show u=Value.ref a from rx);obtain⟨_,_,vs,_,p⟩:=(show ObjOk X.prog X.w H s.heap a (.dK kvs)from I.hok a _ ea);obtain⟨o,es,ep,h1,h2,_⟩:=p;exact Dt Rb I.kIn ⟨o,h1,h2.1⟩ e (λz=>nomatch z) h
 | @dT a kvs ea=>
  cases(show u=Value.ref a from rx);obtain⟨_,_,xs,_,o,es,ep,h1,h2,_⟩:=(show ObjOk X.prog X.w H s.heap a (.dT kvs)from I.hok a _ ea);exact Dt Rb I.kIn ⟨o,h1,h2.1⟩ e (λz=>nomatch z) h
 | @ins a C dx fs ea cl ha hn htk hm=>
  cases(show u=Value.ref a from rx);obtain⟨mA,O,_⟩:=Vz I.hok ea;obtain⟨od,J,_⟩:=O.look;exact Dt (W.kitx_own (cl.get _) cl.hd ha hn htk hm) I.kIn J e (λz=>nomatch z) h
end
structure Room(k:Nat)(A:Around):Prop where
 hd:A.handled=none
 dp:A.depth+3*k+5<recursionLimit
 un:A.units+16*k+200<cLine
 gd:A.guards=some []
theorem Room.mono(r:Room k A)(h:j<=k):Room j A:=⟨r.hd,by have:=r.dp;lia,by have:=r.un;lia,r.gd⟩
theorem Room.deeper(r:Room (k+1) A)(env:Env):Room k (A.deeper env):=
 ⟨r.hd,by have:=r.dp;show A.depth+1+3*k+5<_;lia,by have:=r.un;show A.units+3+16*k+200<_;lia,r.gd⟩
theorem KL{A:Around}:(A.under (.builtin "type.__call__" ⟨.ref C::us,kw⟩)).depth=A.depth+1:=by
 first|rfl|simp[Around.under,Code.weight,Code.isCreation,Code.isGuard,Code.isCaller,Code.frames,Code.isFrame,guardIds]
theorem KK{A:Around}:(A.under (.builtin "type.__call__" ⟨.ref C::us,kw⟩)).units=A.units+1:=by
 first|rfl|simp[Around.under,Code.cUnits,Code.frames,Code.isFrame]
theorem make_guards{A:Around}:(A.under (.builtin "type.__call__" ⟨.ref C::us,kw⟩)).guards=A.guards:=by
 first|rfl|simp[Around.under,Code.guards,Code.isGuard,guardIds,pushGuards]
theorem Room.make(r:Room (k+1) A)(C:Addr)(us:List Value)(kw:List (Str×Value)):Room k (A.under (.builtin "type.__call__" ⟨.ref C::us,kw⟩)):=
 ⟨r.hd,by have:=r.dp;rw[KL];lia,by have:=r.un;rw[KK];lia,make_guards.trans r.gd⟩
theorem Room.depth(r:Room k A):A.depth<recursionLimit:=by have:=r.dp;lia
theorem Room.units(r:Room k A):A.units+64<cLine:=by have:=r.un;lia
noncomputable def tNil:TA:=λ_a H Q=>Q [] H
noncomputable def vH(ta:TE)(tr:TA):TA:=λσ H Q=>ta σ H λx H1=>tr σ H1 λxs H2=>Q (x::xs) H2
theorem q5B:PA X [] tNil:=λ_a _a _a _a H Q I h=>Calls.spliced_nil ⟨[],H,I,.nil,h⟩
theorem q3h(ha:PE X e te)(hr:PA X es t)(hs:starEach (e::es) X.env=(false,eval e X.env)::starEach es X.env:=by rfl):PA X (e::es) (vH te t):=by
 intro pos a5 s σ H Q I h;rw[hs];show wpAny _ _ (spliced ((false,eval e X.env)::backTo pos (starEach es X.env))) _ _ s;refine Calls.spliced_cons (thn (ha a5 s σ H _ I h) λu s1 zz=>?_);obtain⟨x,H1,I1,r1,q1⟩:=zz;exact thn (hr pos a5 s1 σ H1 _ I1 q1) λus s2 ⟨xs,H2,I2,r2,q2⟩=>⟨x::xs,H2,I2,.cons r1 r2,q2⟩
noncomputable def tTup(t:TA):TE:=λσ H Q=>t σ H λxs H1=>xs.length<=sizeLine/\∀p,H1 p=none->Q (.ref p) (upd H1 p (.tup xs))
noncomputable def tLst(t:TA):TE:=λσ H Q=>t σ H λxs H1=>xs.length<=sizeLine/\∀p,H1 p=none->Q (.ref p) (upd H1 p (.lst xs))
noncomputable abbrev Sp:=List V->Hp->VK->XK->Prop
noncomputable abbrev CXT:=List Env->Hp->Shared->XK->Value->Shared->Prop
structure Env0(P:Program)(w:World)(Ξ:PySem.W.Frag)(mg:Str->Option Value)(base:Heap)(A:Around)(outer:List Env)(s:Shared)(H:Hp):Prop where
 frames:A.frames=some outer
 mod:Mod Ξ mg base
 bs:∀b o,base.get? b=some o->s.heap.get? b=some o/\H b=none
 bsz:base.objs.size<=s.heap.objs.size
 funs:s.heap.FunFrames base outer
 frf:∀b∈frs outer,H b=none
 hok:HOk P w H s.heap
 bare:AllBare s.gens
noncomputable def CE(outer:List Env)(P:Program)(w:World)(H:Hp)(s:Shared)(Q:VK)(u:Value)(s':Shared):Prop :=
 ∃v H',s'.os=s.os/\AllBare s'.gens/\Un (frs outer) [] H H' s.heap s'.heap/\HOk P w H' s'.heap/\RelV v u/\Q v H'
noncomputable def CR(CX:CXT)(outer:List Env)(P:Program)(w:World)(H:Hp)(s:Shared)(Q:VK)(E:XK)(r:Result)(s':Shared):Prop :=
 match r with
 |.ok (.ret u)=>CE outer P w H s Q u s'
 |.ok _=>False
 |.error e=>CX outer H s E e s'
structure FnOk(P:Program)(w:World)(Ξ:PySem.W.Frag)(mg:Str->Option Value)(base:Heap)(CX:CXT)(k:Nat)(f:Addr)(fd:FuncData)(ps:List Str)(sp:Sp):Prop where
 len:∀vs H Q E,sp vs H Q E->vs.length=ps.length
 run:∀(A:Around)(outer:List Env)(s:Shared)(H:Hp)(args:Args)(us:List Value)(vs:List V)(Q:VK)(E:XK),Room k A->Env0 P w Ξ mg base A outer s H->BindsTo s fd args (ps.zip us)->Vals vs us->sp vs H Q E ->
  codeAny (model P w) A (.call (.ref f) args) (CR CX outer P w H s Q E) s
theorem FnOk.mono(F:FnOk P w Ξ mg base CX j f fd ps sp)(h:j<=k):
  FnOk P w Ξ mg base CX k f fd ps sp:=⟨F.len,λA outer s H args us vs Q E hr=>F.run A outer s H args us vs Q E (hr.mono h)⟩
theorem FnOk.imp(F:FnOk P w Ξ mg base CX k f fd ps sp)(h:∀vs H Q E,sp' vs H Q E->sp vs H Q E):FnOk P w Ξ mg base CX k f fd ps sp' :=
 ⟨λvs H Q E q=>F.len vs H Q E (h _ _ _ _ q),λA outer s H args us vs Q E hr he hb hv hs=>F.run A outer s H args us vs Q E hr he hb hv (h _ _ _ _ hs)⟩
theorem Env0.make(e:Env0 P w Ξ mg base A outer s H)(C:Addr)(us:List Value)(kw:List (Str×Value)):
  Env0 P w Ξ mg base (A.under (.builtin "type.__call__" ⟨.ref C::us,kw⟩)) outer s H:=⟨by first|exact e.frames|(simpa[Around.under,Code.envs,Code.isFrame,pushEnvs]using e.frames),e.mod,e.bs,e.bsz,e.funs,e.frf,e.hok,e.bare⟩
theorem Inv.env0(I:Inv X a5 σ H s):Env0 X.prog X.w X.K X.mg X.base X.A X.stack s H :=
 ⟨I.ok.frames,I.ok.mod,I.bs,Dm I.ok.bsz I.sz,I.stack,I.stkFree,I.hok,I.bare⟩
theorem Inv.after(I:Inv X a5 σ H s)(h:CE X.stack X.prog X.w H s Q u s'):EP X a5 σ Q u s':=by
 obtain⟨v,H',os,bare,un,hok,r,q⟩:=h;obtain⟨hh,g,d,t,nZ⟩:=s';obtain rfl:nZ=s.os:=os;exact⟨v,H',I.call (h':=hh) (g':=g) (d':=d) (t':=t) (ch:=[]) un hok bare (λb z=>absurd z (by simp)),r,q⟩
noncomputable def zG(sp:Sp)(bR:List V)(E:XK)(t:TA):TE:=λσ H Q=>t σ H λvs H1=>sp (vs++bR) H1 Q E
noncomputable def Z2(C:Addr)(m:Str)(sp:Sp)(bR:List V)(E:XK)(ta:TE)(t:TA):TE:=λσ H Q=>ta σ H λx H1=>∃a dx fs,x=.ref a/\H1 a=some (.ins C dx fs)/\fs.lookup m=none /\
 t σ H1 λvs H2=>sp (x::(vs++bR)) H2 Q E
noncomputable def Kf(C:Addr)(sp:Sp)(bR:List V)(E:XK)(t:TA):TE:=λσ H Q=>t σ H λvs H1=>∀x dx,H1 x=none->H1 dx=none->dx≠x ->
 sp (.ref x::(vs++bR)) (upd (upd H1 dx (.own x)) x (.ins C dx [])) (λv H2=>v=.non/\Q (.ref x) H2) E
noncomputable def Binds(Ξ:PySem.W.Frag)(fd:FuncData)(ps:List Str)(ds:List Value):Prop :=
 ∀(s:Shared)(us:List Value),Ξ.In s.heap->(us++ds).length=ps.length->BindsTo s fd ⟨us, []⟩ (ps.zip (us++ds))
theorem Binds.all(h:∀us:List Value,us.length=ps.length->bindArgs fd ⟨us, []⟩=pure (ps.zip us)):Binds Ξ fd ps []:=λs us _a hl=>by
 rw[Dl]at hl ⊢;exact .of_eq (h us hl)
noncomputable def jh(CX:CXT)(X:Cx)(E:XK):Prop:=∀(a5:List (Addr×Obj))(σ:St)(H:Hp)(s:Shared)(e:Value)(s':Shared),Inv X a5 σ H s->CX X.stack H s E e s'->X.xe e s'
section
variable {X:Cx}{CX:CXT}{k:Nat}{f C:Addr}{fd:FuncData}{ps:List Str}{sp:Sp}{bR:List V}{ds:List Value}{E:XK}{x m:Str}{p pos aI:Pos}{e o:Expr}{es:List Expr}{ta:TE}{t:TA}
theorem Jq(F:FnOk X.prog X.w X.K X.mg X.base CX k f fd ps sp)(hr:Room k X.A)(hb:Binds X.K fd ps ds)(hd:Vals bR ds)(hx:jh CX X E)(I:Inv X a5 σ H s)(r:Vals vs us)(h:sp (vs++bR) H Q E):wpAny (model X.prog X.w) X.A (call (.ref f) us) (EP X a5 σ Q) X.xe s:=by
 have r2:Vals (vs++bR) (us++ds):=r.append hd;have hl:(us++ds).length=ps.length:=by rw[<-r2.length];exact F.len _ _ _ _ h
 refine Uh (Uo (F.run X.A X.stack s H ⟨us, []⟩ (us++ds) (vs++bR) Q E hr I.env0 (hb s us I.kIn hl) r2 h) λr s' hq=>?_);cases r with
 |error e=>exact hx a5 σ H s e s' I hq
 |ok fl=>
  cases fl with
  |ret u=>exact I.after hq
  |next=>exact False.elim hq
  |brk=>exact False.elim hq
  |cont=>exact False.elim hq
theorem q3s(F:FnOk X.prog X.w X.K X.mg X.base CX k f fd ps sp)(hr:Room k X.A)(hg:Gl X x)(hm:X.mg x=some (.ref f))(hk:W.keepIn X.K (.ref f)=true)(hb:Binds X.K fd ps ds)(hd:Vals bR ds)(hx:jh CX X E)(ha:PA X (e::es) t)(bb:(x==("__debug__" : Str))=false:=by decide)(he:starEach (e::es) X.env=(false,eval e X.env)::starEach es X.env:=by rfl)(bH:(backTo pos (starEach es X.env)).any (·.1)=false:=by rfl):
  PE X (.Call (.Name x p) (e::es) [] pos) (zG sp bR E t):=by
 intro a5 s σ H Q I h;refine Ua (vV I hg hm ?_ bb);refine DR (h₀:=X.base) I.ok.mod.kin hk (thn (ha pos a5 s σ H _ I h) λus s1 ⟨vs,H1,I1,r,q⟩=>⟨I1.kIn,?_⟩) he bH;exact Jq F hr hb hd hx I1 r q
theorem q1s(F:FnOk X.prog X.w X.K X.mg X.base CX k f fd ps sp)(hr:Room k X.A)(hg:Gl X x)(hm:X.mg x=some (.ref f))(hk:W.keepIn X.K (.ref f)=true)(hb:Binds X.K fd ps ds)(hd:Vals bR ds)(hx:jh CX X E)(bb:(x==("__debug__" : Str))=false:=by decide):PE X (.Call (.Name x p) [] [] pos) (zG sp bR E tNil):=by
 intro a5 s σ H Q I h;refine Ua (vV I hg hm ?_ bb);exact Rq I.kIn hk (Jq (us:=[]) F hr hb hd hx I .nil h)
theorem q3H(he:PE X o ta)(c:Cls X.K C)(hm:Meth X.K C m f)(F:FnOk X.prog X.w X.K X.mg X.base CX k f fd ps sp)(hr:Room k X.A)(hb:Binds X.K fd ps ds)(hd:Vals bR ds)(hx:jh CX X E)(ha:PA X (e::es) t)(dq:starEach (e::es) X.env=(false,eval e X.env)::starEach es X.env:=by rfl)(bH:(backTo pos (starEach es X.env)).any (·.1)=false:=by rfl)(ht:eval (.Call (.Attribute o m aI) (e::es) [] pos) X.env=(do
   let ov <-eval o X.env
   standAt aI.atName;let(f,first) <-holding [ov] (getMethod ov m pl)
   callWith pos f first (backTo pos (starEach (e::es) X.env)) (backToKw pos (keywordEach [] X.env))):=by rfl):
  PE X (.Call (.Attribute o m aI) (e::es) [] pos) (Z2 C m sp bR E ta t):=by
 intro a5 s σ H Q I h;refine DH (pl:=pl) (thn (he a5 s σ H _ I h) λu s1 ⟨x,H1,I1,rx,a,dx,fs,ex,ea,l,q⟩=>?_) ht;subst ex;obtain rfl:u=Value.ref a:=rx;refine xn I1 ea c hm l ?_;refine DR (first:=[.ref a]) (h₀:=X.base) I.ok.mod.kin hm.kp (thn (ha pos a5 s1 σ H1 _ I1 q) λus s2 ⟨vs,H2,I2,r,q2⟩=>⟨I2.kIn,?_⟩) dq bH;exact Jq (us:=.ref a::us) (vs:=.ref a::vs) F hr hb hd hx I2 (.cons rfl r) q2
theorem q08(he:PE X o ta)(c:Cls X.K C)(hm:Meth X.K C m f)(F:FnOk X.prog X.w X.K X.mg X.base CX k f fd ps sp)(hr:Room k X.A)(hb:Binds X.K fd ps ds)(hd:Vals bR ds)(hx:jh CX X E)(ht:eval (.Call (.Attribute o m aI) [] [] pos) X.env=(do
   let ov <-eval o X.env
   standAt aI.atName;let(f,first) <-holding [ov] (getMethod ov m pl)
   callWith pos f first (backTo pos (starEach [] X.env)) (backToKw pos (keywordEach [] X.env))):=by rfl):
  PE X (.Call (.Attribute o m aI) [] [] pos) (Z2 C m sp bR E ta tNil):=by
 intro a5 s σ H Q I h;refine DH (pl:=pl) (thn (he a5 s σ H _ I h) λu s1 ⟨x,H1,I1,rx,a,dx,fs,ex,ea,l,q⟩=>?_) ht;subst ex;obtain rfl:u=Value.ref a:=rx;refine xn I1 ea c hm l ?_;exact Rq (first:=[.ref a]) I1.kIn hm.kp (Jq (us:=[.ref a]) (vs:=[.ref a]) F hr hb hd hx I1 (.cons rfl .nil) q)
structure Mk(Ξ:PySem.W.Frag)(C f:Addr):Prop where
 makes:W.makesIn Ξ C=true
 init:W.findIn Ξ (.ref C) "__init__" = some (some (.ref f))
 fn:W.isFn Ξ (.ref f)=true
 kp:W.keepIn Ξ (.ref C)=true
theorem Jp(M:Mk X.K C f)(F:FnOk X.prog X.w X.K X.mg X.base CX k f fd ps sp)(hr:Room (k+1) X.A)(hb:Binds X.K fd ps ds)(hd:Vals bR ds)(hx:jh CX X E)(I:Inv X a5 σ H s)(r:Vals vs us)(h:∀x dx,H x=none->H dx=none->dx≠x->sp (.ref x::(vs++bR)) (upd (upd H dx (.own x)) x (.ins C dx [])) (λv H2=>v=.non/\Q (.ref x) H2) E):
  wpAny (model X.prog X.w) X.A (call (.ref C) us) (EP X a5 σ Q) X.xe s:=by
 have hq:=h (s.heap.objs.size+1) s.heap.objs.size (I.hok.fresh (RY _)) (I.hok.fresh (UZ _)) (De (RK _));have I2:=Inv.made (C:=C) I;have r2:Vals (V.ref (s.heap.objs.size+1)::(vs++bR)) (Value.ref (s.heap.objs.size+1)::(us++ds)):=.cons rfl (r.append hd);have hl:(Value.ref (s.heap.objs.size+1)::us++ds).length=ps.length:=by
  have e:=r2.length;rw[F.len _ _ _ _ hq]at e;exact e.symm
 refine Uh (q0V (f:=f) I.kIn M.makes M.init (beq_iff_eq.mp M.fn) (Uo (F.run _ X.stack _ _ ⟨Value.ref (s.heap.objs.size+1)::us, []⟩ (Value.ref (s.heap.objs.size+1)::(us++ds)) _ _ E (hr.make C us [])
  (I2.env0.make C us []) (hb _ (Value.ref (s.heap.objs.size+1)::us) I2.kIn hl) r2 hq) λr s' dw=>?_))
 cases r with
 |error e=>exact hx a5 σ _ _ e s' I2 dw
 |ok fl=>
  cases fl with
  |ret u=>
   obtain⟨v,H',I3,rv,ev,q3⟩:=I2.after dw;subst ev;exact⟨rv,⟨V.ref (s.heap.objs.size+1),H',I3,rfl,q3⟩⟩
  |next=>exact False.elim dw
  |brk=>exact False.elim dw
  |cont=>exact False.elim dw
theorem q3R(M:Mk X.K C f)(F:FnOk X.prog X.w X.K X.mg X.base CX k f fd ps sp)(hr:Room (k+1) X.A)(hg:Gl X x)(hm:X.mg x=some (.ref C))(hb:Binds X.K fd ps ds)(hd:Vals bR ds)(hx:jh CX X E)(ha:PA X (e::es) t)(bb:(x==("__debug__" : Str))=false:=by decide)(he:starEach (e::es) X.env=(false,eval e X.env)::starEach es X.env:=by rfl)(bH:(backTo pos (starEach es X.env)).any (·.1)=false:=by rfl):
  PE X (.Call (.Name x p) (e::es) [] pos) (Kf C sp bR E t):=by
 intro a5 s σ H Q I h;refine Ua (vV I hg hm ?_ bb);refine DR (h₀:=X.base) I.ok.mod.kin M.kp (thn (ha pos a5 s σ H _ I h) λus s1 ⟨vs,H1,I1,r,q⟩=>⟨I1.kIn,?_⟩) he bH;exact Jp M F hr hb hd hx I1 r q
theorem q0L(M:Mk X.K C f)(F:FnOk X.prog X.w X.K X.mg X.base CX k f fd ps sp)(hr:Room (k+1) X.A)(hg:Gl X x)(hm:X.mg x=some (.ref C))(hb:Binds X.K fd ps ds)(hd:Vals bR ds)(hx:jh CX X E)(bb:(x==("__debug__" : Str))=false:=by decide):PE X (.Call (.Name x p) [] [] pos) (Kf C sp bR E tNil):=by
 intro a5 s σ H Q I h;refine Ua (vV I hg hm ?_ bb);exact Rq I.kIn M.kp (Jp (us:=[]) M F hr hb hd hx I .nil h)
end
structure q00(N P:List Str)(sc:Scope):Prop where
 kind:sc.kind=.function
 co:sc.isCoroutine=false
 gen:sc.isGenerator=false
 nd:N.Nodup
 pre:N.take P.length=P
 par:∀x∈P,sc.names.lookup x=some .local\/sc.names.lookup x=some .cell
 nofree:∀y∈sc.names,y.2 ≠ .free
theorem ZN{kindOf:Str->Option NameKind}:∀{binds:List (Str×Value)}{m:Str->Option Value},(∀v,(x,v)∉binds)->bindL kindOf binds m x=m x
 | [],_,_=>rfl
 | (n,v)::r,m,h=>by
  unfold bindL;rw[ZN λw hw=>h w (Dn _ hw)];split
  ·have:x≠n:=by rintro rfl;exact h v DB
   simp[this]
  ·rfl
theorem ZR{kindOf:Str->Option NameKind}:∀{binds:List (Str×Value)}{m:Str->Option Value},(∀v,(x,v)∉binds)->bindC kindOf binds m x=m x
 | [],_,_=>rfl
 | (n,v)::r,m,h=>by
  unfold bindC;rw[ZR λw hw=>h w (Dn _ hw)];split
  ·rfl
  ·have:x≠n:=by rintro rfl;exact h v DB
   simp[this]
theorem ZQ{kindOf:Str->Option NameKind}:∀{P:List Str}{vs:List Value}{i:Nat}{m:Str->Option Value},P.Nodup->P[i]?=some x->vs[i]?=some v->kindOf x=some .local ->
  bindL kindOf (P.zip vs) m x=some v
 | [],_,_,_,_,h,_,_=>by simp at h
 |_::_, [],_,_,_,_,h,_=>by simp at h
 |p::P,w::vs,0,m,nd,h1,h2,hk=>by
  simp at h1 h2;subst h1;subst h2;show bindL kindOf ((p,w)::P.zip vs) m p=_;unfold bindL;rw[ZN λv hv=>(Rr.mp nd).1 (RP hv).1,G4 hk];simp
 |p::P,w::vs,i+1,m,nd,h1,h2,hk=>by
  show bindL kindOf ((p,w)::P.zip vs) m x=_;unfold bindL;exact ZQ (i:=i) (Rr.mp nd).2 (by simpa using h1) (by simpa using h2) hk
theorem ZU{kindOf:Str->Option NameKind}:∀{P:List Str}{vs:List Value}{i:Nat}{m:Str->Option Value},P.Nodup->P[i]?=some x->vs[i]?=some v->kindOf x≠some .local ->
  bindC kindOf (P.zip vs) m x=some v
 | [],_,_,_,_,h,_,_=>by simp at h
 |_::_, [],_,_,_,_,h,_=>by simp at h
 |p::P,w::vs,0,m,nd,h1,h2,hk=>by
  simp at h1 h2;subst h1;subst h2;show bindC kindOf ((p,w)::P.zip vs) m p=_;unfold bindC;rw[ZR λv hv=>(Rr.mp nd).1 (RP hv).1,GZ hk];simp
 |p::P,w::vs,i+1,m,nd,h1,h2,hk=>by
  show bindC kindOf ((p,w)::P.zip vs) m x=_;unfold bindC;exact ZU (i:=i) (Rr.mp nd).2 (by simpa using h1) (by simpa using h2) hk
noncomputable def start(N:List Str)(vs:List V):St:=vs.map some++List.replicate (N.length-vs.length) none
noncomputable def cxOf(CX:CXT)(P:Program)(w:World)(Ξ:PySem.W.Frag)(mg:Str->Option Value)(base:Heap)(N:List Str)(af:Str)(scope:Scope)(f:Addr)(cd:Value)(A:Around)(outer:List Env)(s:Shared)(H:Hp)(E:XK):Cx where
 prog:=P
 w:=w
 K:=Ξ
 mg:=mg
 base:=base
 A:=A.deeper (envOfC af scope s.heap.objs.size f cd)
 N:=N
 s₀:=s
 H₀:=H
 env:=envOfC af scope s.heap.objs.size f cd
 outer:=outer
 stack:=envOfC af scope s.heap.objs.size f cd::outer
 ex:=[]
 calm:=true
 fn:=λ_a=>true
 pn:=[]
 xe:=λe s'=>wpAny (model P w) (A.deeper (envOfC af scope s.heap.objs.size f cd)) (leaving (envOfC af scope s.heap.objs.size f cd) e) (λ_a fb=>CX outer H s E e fb) (λe' fb=>CX outer H s E e' fb) s'
theorem J4{sc:Scope}(h:sc.names.lookup x=some .cell):∃c,(cellsFrom n sc.names []).lookup x=some c:=by
 have q:=RM sc.names n [] (.inl h);exact RC.mp q
theorem WO(S:q00 N ps scope)(hd:A.handled=none)(e0:Env0 P w Ξ mg base A outer s H)(hl:vs.length=ps.length)(r:Vals vs us)(x:InCallC s s.heap.objs.size (bindL (envOfC af scope s.heap.objs.size f cd).kindOf (ps.zip us) λ_a=>none) (cellsFrom (s.heap.objs.size+1) scope.names []) (bindC (envOfC af scope s.heap.objs.size f cd).kindOf (ps.zip us) λ_a=>none) s1):
  Inv (cxOf CX P w Ξ mg base N af scope f cd A outer s H E) [] (start N vs) H s1:=by
 have bH:ps.length<=N.length:=by have:=G1 List.length S.pre;rw[DC]at this;lia
 obtain⟨h1,tk,rfl,hk⟩:=x.done;have gp:∀b:Addr,b∉(cxOf CX P w Ξ mg base N af scope f cd A outer s H E).ex:=λb z=>absurd (show b∈([]:List Addr)from z) (by simp);refine⟨⟨e0.mod,S.kind,rfl,rfl,UZ _,λy z c h1 h2=>?_,λy hy=>?_,λy c _a h=>?_,λ_a=>hd,Around.frames_deeper e0.frames,.inr ⟨rfl,rfl⟩,λb z=>absurd z (gp b),e0.bs,e0.bsz,λb _a _a=>gp b,λb z=>absurd z (gp b),e0.funs,e0.frf⟩,
  rfl,e0.bare,Un.kept hk,⟨_,x.toInCall.ns,λi y v h1 h2 h3=>?_⟩,λy c h=>⟨_,x.cell y c h⟩,e0.hok.fresh (UZ _),λy c h=>?_,λp hp=>absurd (show p∈([]:List (Addr×Obj))from hp) (by simp),e0.hok.kept hk,?_⟩
 ·exact name_of_addr x.apart (PySem.mem_of_lookup h1) (PySem.mem_of_lookup h2)
 ·have hy:scope.names.lookup y=some .cell\/scope.names.lookup y=some .free:=hy
  rcases hy with hy|hy
  ·exact J4 hy
  ·exact absurd rfl (S.nofree _ (PySem.mem_of_lookup hy))
 ·exact Dk (x.above y c (PySem.mem_of_lookup h))
 ·have hi:i<vs.length:=by
   unfold start at h2;by_cases hi:i<vs.length
   ·exact hi
   ·rw[U9 (by simpa using hi)]at h2
    rw[D4]at h2;split at h2<;>cases h2
  have ha:vs[i]?=some v:=by
   unfold start at h2;rw[U1 (by simpa using hi),Dh]at h2;cases e:vs[i]? with
   |none=>rw[e]at h2;cases h2
   |some a=>rw[e]at h2;cases h2;rfl
  obtain⟨u,hu,rv⟩:=r.get ha;have hp:ps[i]?=some y:=by
   rw[<-S.pre,RD (by lia)];exact h1
  have mK:ps.Nodup:=by rw[<-S.pre];exact S.nd.sublist (List.take_sublist _ _)
  refine⟨u,rv,?_⟩;rcases S.par y (U0 hp)with k|k
  ·exact .inl ⟨k,ZQ mK hp hu k⟩
  ·obtain⟨c,e⟩:=J4 (n:=s.heap.objs.size+1) k
   refine .inr ⟨.inl k,c,e,?_⟩;have q:=x.cell y c e;rw[ZU mK hp hu (by show scope.names.lookup y≠_;rw[k];decide)]at q;exact q
 ·exact e0.hok.fresh (Dk (x.above y c (PySem.mem_of_lookup h)))
 ·unfold start
  show _=N.length;rw[UV,UY,RQ];lia
theorem q67{dV kV bI pm ac ct oc:Value}(lk:Ξ.lookup f=some ⟨oc,od,.func (W.fnOf name af params body scope dV kV bI pm an ac ct),dZ⟩)(cW:W.codeIn Ξ ac af=true)(S:q00 N ps scope)(len:∀vs H Q E,sp vs H Q E->vs.length=ps.length)(aA:∀(A:Around)(outer:List Env)(s:Shared)(H:Hp)(vs:List V)(Q:VK)(E:XK),Room k (A.deeper (envOfC af scope s.heap.objs.size f ac))->sp vs H Q E ->
   ∃t,PSs (cxOf CX P w Ξ mg base N af scope f ac A outer s H E) body t/\t { nx:=λ_a H'=>Q .non H',rt:=Q } (start N vs) H):
  FnOk P w Ξ mg base CX (k+1) f (W.fnOf name af params body scope dV kV bI pm an ac ct) ps sp:=by
 refine⟨len,λA outer s H args us vs Q E hr e0 hb r di=>?_⟩;have hl:=len _ _ _ _ di;have KX:Ξ.In s.heap:=e0.mod.kin.keeps λb o e=>(e0.bs b o e).1;have og:s.heap.NoLimit:=e0.mod.nolimit.keeps λb o e=>(e0.bs b o e).1;have gq:∀y∈ps.zip us,scope.names.lookup y.1=some .local\/(scope.names.lookup y.1=some .cell/\((cellsFrom (s.heap.objs.size+1) scope.names []).lookup y.1).isSome=true):=λ⟨n,v⟩ hy=>by
  rcases S.par n (RP hy).1 with q|q
  ·exact .inl q
  ·exact .inr ⟨q,RM _ _ _ (.inl q)⟩
 refine codeAny_call_function hr.depth (KX _ _ lk) rfl S.co S.gen rfl (W.codeRec_of KX cW) (hb _ _ _ _ ?_);refine wpAny_newFunctionEnv_cells S.kind gq λenv he s1 x=>?_;subst he;refine⟨og.keeps x.toInCall.keep,codeAny_func ?_⟩;obtain⟨t,ht,hq⟩:=aA A outer s H vs Q E (hr.deeper _) di;have I:Inv (cxOf CX P w Ξ mg base N af scope f ac A outer s H E) [] (start N vs) H s1:=WO S hr.hd e0 hl r x;refine GW (ht [] s1 (start N vs) H _ I hq) (λfl s' hs=>?_) λe s' hs=>hs;have fin:∀{ah:St}{H':Hp}{v:V}{u:Value},Inv (cxOf CX P w Ξ mg base N af scope f ac A outer s H E) [] ah H' s'->RelV v u->Q v H'->CE outer P w H s Q u s' :=
  λ{ah H' v u} J rv q=>⟨v,H',J.os,J.bare,J.base,J.hok,rv,q⟩
 cases fl with
 |ret u=>
  obtain⟨v,ah,H',J,rv,q⟩:=hs;exact fin J rv q
 |next=>
  obtain⟨ah,H',J,q⟩:=hs;exact fin (v:=V.non) (u:=Value.none) J rfl q
 |brk=>
  obtain⟨_,_,_,q⟩:=hs;exact False.elim q
 |cont=>
  obtain⟨_,_,_,q⟩:=hs;exact False.elim q
section
variable {X:Cx}{x:Str}{p pos:Pos}{e:Expr}{es:List Expr}{t:TA}{id T:String}{r:List V->Hp->VK->Prop}
noncomputable def tCB(r:List V->Hp->VK->Prop)(t:TA):TE:=λσ H Q=>t σ H λvs H1=>r vs H1 Q
end
end L2
namespace HT
open PySem PyProof.Rows
section
variable {prog:Program}{w:World}{A:Around}{E:Value->Shared->Prop}{s:Shared}
theorem cat_tup(ht:IsTup s.heap t vs.toArray)(hb:IsTup s.heap b ws.toArray)(hv:vs≠[])(h1:ws=[]->Q (.ref t) s)(h2:ws≠[]->Q (.ref s.heap.objs.size) { s with heap:=s.heap.push { cls:=.type "tuple", data:=.seq (vs++ws).toArray } })(hsz:vs.length+ws.length<=sizeLine):wpAny (model prog w) A (binaryOp .Add (.ref t) (.ref b)) Q E s:=by
 obtain⟨⟨cls,dd,data,sl⟩,ho,hc,n,hd⟩:=id ht;obtain⟨⟨cls2,mL,data2,eI⟩,ii,fW,n2,cJ⟩:=id hb;simp only at hc hd fW cJ;subst hc hd fW cJ;have e:vs.toArray++ws.toArray=(vs++ws).toArray:=by simp
 by_cases hw:ws=[]
 ·exact concat_meets ⟨_,ho,rfl⟩ ⟨_,ii,rfl⟩ noFill_tuple_add seq_tuple_add PySem.F.slot_tuple_add PySem.F.entry_tuple_add (PySem.F.args_tuple_add_2 _ _)
   (tuple_addW1 t b vs.toArray ws.toArray n n2 dd mL sl eI (by simpa using hv) (by simp[hw])) ⟨ho,ii,h1 hw⟩
 ·refine concat_meets ⟨_,ho,rfl⟩ ⟨_,ii,rfl⟩ noFill_tuple_add seq_tuple_add PySem.F.slot_tuple_add PySem.F.entry_tuple_add (PySem.F.args_tuple_add_2 _ _)
   (tuple_addW2 t b vs.toArray ws.toArray n n2 dd mL sl eI (by simpa using hv) (by simpa using hw) (by rw[U5,U5];exact hsz)) ⟨ho,ii,?_⟩
  rw[e];exact h2 hw
noncomputable def sIx(n d:Nat):Option Int->Nat
 |none=>d
 |some v=>if v<0 then(v+(n:Int)).toNat else min v.toNat n
theorem sIx_nat(n d k:Nat):sIx n d (some (k:Int))=min k n:=by
 show(if(k:Int)<0 then((k:Int)+(n:Int)).toNat else min (k:Int).toNat n)=min k n;rw[GZ (by lia),Int.toNat_natCast]
theorem q5v(n d:Nat)(hd:d<=n)(o:Option Int):sIx n d o<=n:=by
 cases o with
 |none=>exact hd
 |some v=>
  show(if v<0 then(v+(n:Int)).toNat else min v.toNat n)<=n;by_cases hv:v<0
  ·rw[G4 hv];lia
  ·rw[GZ hv];exact Nat.min_le_right _ _
theorem Gv(v:Int)(n d:Nat):(if v<0 then max (v+(n:Int)) 0 else min v (n:Int))=((sIx n d (some v):Nat):Int):=by
 show(if v<0 then max (v+(n:Int)) 0 else min v (n:Int))=(((if v<0 then(v+(n:Int)).toNat else min v.toNat n):Nat):Int);by_cases hv:v<0
 ·simp only[G4 hv];lia
 ·simp only[GZ hv];lia
theorem KZ(lo hi:Option Int)(n:Nat):Builtin.Slice.sliceAdjust lo hi 1 (n:Int)=(((sIx n 0 lo:Nat):Int),((sIx n n hi:Nat):Int)):=by
 have h1:¬((1:Int)<0):=by lia
 unfold Builtin.Slice.sliceAdjust;simp only[h1,Uk];refine Prod.ext ?_ ?_
 ·cases lo with
  |none=>rfl
  |some v=>exact Gv v n 0
 ·cases hi with
  |none=>rfl
  |some v=>exact Gv v n n
theorem Kt(i j:Nat):Builtin.Slice.slicePlaces (i:Int) (j:Int) 1=j-i:=by
 unfold Builtin.Slice.slicePlaces;have h1:(1:Int)>0:=by lia
 simp only[h1,Uw,Int.ediv_one];split<;>lia
theorem Qq(p:IsPart v o)(h:Q o s):wpAny (model prog w) A (Builtin.Slice.slicePartIndex v) Q E s:=by
 cases p with
 |none=>exact slicePart_none h
 |int i t=>exact slicePart_int h
theorem jQ{sl:Addr}{vl vu:Value}{lo hi:Option Int}{n:Nat}(hs:s.heap.IsSliceOf sl vl vu .none)(pl:IsPart vl lo)(pu:IsPart vu hi)(h:Q (((sIx n 0 lo:Nat):Int),1,sIx n n hi-sIx n 0 lo) s):wpAny (model prog w) A (Builtin.Slice.sliceApplied (.ref sl) (pure (n:Int))) Q E s:=by
 obtain⟨os,gr,iT,dP⟩:=id hs;unfold Builtin.Slice.sliceApplied Builtin.Slice.sliceFields;refine GU (GU (Ur gr dP (x:=vl) rfl (GU (Ur gr dP (x:=vu) rfl (GU (Ur gr dP (x:=.none) rfl (GV ?_)))))));refine GU (slicePart_none ?_);show wpAny _ _ (if((1:Int)==0)=true then _ else _) _ _ s;rw[GZ (by decide)];refine GU (Qq pl (GU (Qq pu (GU (GV ?_)))));show wpAny _ _ (match Builtin.Slice.sliceAdjust lo hi 1 (n:Int) with|(lo,hi)=>pure (lo,(1:Int),Builtin.Slice.slicePlaces lo hi 1)) _ _ s;rw[KZ lo hi n];show wpAny _ _ (pure (((sIx n 0 lo:Nat):Int),(1:Int),Builtin.Slice.slicePlaces ((sIx n 0 lo:Nat):Int) ((sIx n n hi:Nat):Int) 1)) _ _ s;rw[Kt];exact GV h
theorem q0f(xs:Array Value)(i k:Nat):((List.range k).filterMap λ(m:Nat)=>xs[((i:Int)+(m:Int)*1).toNat]?).toArray=((xs.toList.drop i).take k).toArray:=by
 have e:(λ(m:Nat)=>xs[((i:Int)+(m:Int)*1).toNat]?)=λm=>xs[i+m]?:=by
  funext m;have:((i:Int)+(m:Int)*1).toNat=i+m:=by lia
  rw[this]
 rw[e];have:=pick_run xs i k;rw[List.filterMap_map]at this;have e2:((λx=>xs[x]?) ∘ λx=>i+x)=λm=>xs[i+m]?:=rfl;rw[e2]at this;rw[this]
theorem getItem_tuple_cut{lo hi:Option Int}(ht:IsTup s.heap t items)(hs:s.heap.IsSliceOf sl vl vu .none)(pl:IsPart vl lo)(pu:IsPart vu hi)(hw:¬(sIx items.size 0 lo=0/\sIx items.size items.size hi=items.size))(h:Q (.ref s.heap.objs.size) { s with heap:=s.heap.push { cls:=.type "tuple", data:=.seq ((items.toList.drop (sIx items.size 0 lo)).take (sIx items.size items.size hi-sIx items.size 0 lo)).toArray } })(hsz:items.size<=sizeLine):wpAny (model prog w) A (getItem (.ref t) (.ref sl)) Q E s:=by
 have cY:sizeOk (.seq ((items.toList.drop (sIx items.size 0 lo)).take (sIx items.size items.size hi-sIx items.size 0 lo)).toArray):=by
  show((items.toList.drop (sIx items.size 0 lo)).take (sIx items.size items.size hi-sIx items.size 0 lo)).toArray.size<=sizeLine;rw[U5,DC,DY,DG];lia
 have hj:sIx items.size items.size hi<=items.size:=q5v _ _ (UZ _) hi;obtain⟨os,gr,iT,dP⟩:=id hs;have oh:s.TypeIs (.ref sl) "slice" := ⟨os,gr,iT⟩;unfold getItem
 try with_reducible refine G3 ?_
 first|refine GU (GV ?_)|skip
 refine GU (wpAny_sequenceKey ht.typeIs (by decide) ?_);refine GU (wpAny_callSpecial?_slot (name:=Str.ofString "__getitem__") ht.typeIs PyProof.Rows.slot_tuple_getitem
  (UJ PyProof.Rows.slot_tuple_getitem ht.typeIs entry_tuple_getitem ?_ (args_tuple_getitem _ _)))
 show wpAny _ _ (Builtin.Tuple.tupleItemsOf (.ref t) >>= _) _ _ s;refine GU (tupleItemsOf_ ht ?_);refine GU (wpAny_typeOf oh ?_);rw[G4 (by decide)];refine GU (jQ hs pl pu ?_);have ij:¬((((sIx items.size 0 lo:Nat):Int)==0&&(1:Int)==1&&(sIx items.size items.size hi-sIx items.size 0 lo)==items.size)=true):=by
  intro q;rw[Dy,Dy]at q;have q1:((sIx items.size 0 lo:Nat):Int)=0:=eq_of_beq q.1.1;have q2:sIx items.size items.size hi-sIx items.size 0 lo=items.size:=eq_of_beq q.2;exact hw ⟨by lia,by lia⟩
 show wpAny _ _ (if(((sIx items.size 0 lo:Nat):Int)==0&&(1:Int)==1&&(sIx items.size items.size hi-sIx items.size 0 lo)==items.size)=true then _ else _) _ _ s;rw[GZ ij,q0f]
 first
  |exact GU (m:=Builtin.Tuple.tupleExact _) (G7 (GV ⟨_,rfl,GV h⟩) cY)
  |exact GU (m:=Builtin.Tuple.tupleExact _) (G7 (GU (GV (GV ⟨_,rfl,GV h⟩))) cY)
  |exact GU (GU (m:=Builtin.Tuple.tupleExact _) (G7 (GV (GV ⟨_,rfl,GV h⟩)) cY))
  |exact GU (GU (m:=Builtin.Tuple.tupleExact _) (G7 (GV ⟨_,rfl,GV h⟩) cY))
end
end HT
namespace L2
open PySem PySem.Spec PyProof.Rows
noncomputable abbrev TO:=St->Hp->(Option Int->Hp->Prop)->Prop
noncomputable def PO(X:Cx)(e:Option Expr)(t:TO):Prop :=
 ∀(a5:List (Addr×Obj))(s:Shared)(σ:St)(H:Hp)(Q:Option Int->Hp->Prop),Inv X a5 σ H s->t σ H Q ->
  wpAny (model X.prog X.w) X.A (evalPart e X.env) (λu s'=>∃o H',Inv X a5 σ H' s'/\IsPart u o/\Q o H') X.xe s
noncomputable def zL:TO:=λ_a H Q=>Q none H
noncomputable def V4(t:TE):TO:=λσ H Q=>t σ H λx H1=>∃i,x=.int i/\Q (some i) H1
theorem q4B:PO X none zL:=by
 intro a5 s σ H Q I h;rw[evalPart_none];exact GV ⟨none,H,I,.none,h⟩
noncomputable def SlR(X:Cx)(r:V->Option Int->Option Int->Hp->VK->Prop):Prop :=
 ∀(a5:List (Addr×Obj))(s:Shared)(σ:St)(H:Hp)(x:V)(v vl vu:Value)(lo hi:Option Int)(sl:Addr)(Q:VK),Inv X a5 σ H s->RelV x v->s.heap.IsSliceOf sl vl vu .none->IsPart vl lo->IsPart vu hi->r x lo hi H Q ->
  ∃T id,typeLookup (.type T) "__getitem__" = pure (some (.builtin id))/\s.TypeIs v T/\wpAny (model X.prog X.w) X.A (getItem v (.ref sl)) (EP X a5 σ Q) X.xe s
noncomputable def tSl(r:V->Option Int->Option Int->Hp->VK->Prop)(te:TE)(tl th:TO):TE:=λσ H Q=>te σ H λx H1=>tl σ H1 λl H2=>th σ H2 λu H3=>r x l u H3 Q
noncomputable def cutV(xs:List V)(lo hi:Option Int):List V:=(xs.drop (HT.sIx xs.length 0 lo)).take (HT.sIx xs.length xs.length hi-HT.sIx xs.length 0 lo)
theorem k7(xs:List V)(lo hi:Option Int):(cutV xs lo hi).length<=xs.length:=by
 unfold cutV;rw[DC,DY];lia
noncomputable def rSlT(Ξ:PySem.W.Frag):V->Option Int->Option Int->Hp->VK->Prop:=λx lo hi H Q=>∃a xs,x=.ref a/\SqT Ξ H a xs /\
 ¬(HT.sIx xs.length 0 lo=0/\HT.sIx xs.length xs.length hi=xs.length)/\∀p,H p=none->Q (.ref p) (upd H p (.tup (cutV xs lo hi)))
theorem q53:SlR X (rSlT X.K):=by
 intro a5 s σ H x v vl vu lo hi sl Q I rx hs pl pu h;obtain⟨a,xs,rfl,hx,hw,q⟩:=h;cases rx;obtain⟨its,r,ht,hz⟩:=I.tuple hx;have ar:its.toArray.size=xs.length:=by rw[U5];exact r.length.symm
 refine⟨"tuple", _,PyProof.Rows.slot_tuple_getitem.lookup,ht.typeIs,?_⟩;refine HT.getItem_tuple_cut ht hs pl pu (by rw[ar];exact hw) ?_ (by rw[ar];exact hz);rw[ar];refine⟨.ref s.heap.objs.size,_,I.laid (t':=s.toks) (o:=.tup (cutV xs lo hi)) (λb ob q=>Heap.get?_push_of_some _ q) (UZ _) ?_,rfl,q _ (I.hok.fresh (UZ _))⟩;exact⟨Dm (k7 xs lo hi) hz,_,(r.drop (HT.sIx xs.length 0 lo)).take (HT.sIx xs.length xs.length hi-HT.sIx xs.length 0 lo),IsTup.new _ _⟩
noncomputable def q3Q(Ξ:PySem.W.Frag):R2:=λx y H Q=>∃a b xs ys,x=.ref a/\y=.ref b/\SqT Ξ H a xs/\SqT Ξ H b ys/\xs≠[]/\xs.length+ys.length<=sizeLine /\
 (ys=[]->Q (.ref a) H)/\(ys≠[]->∀p,H p=none->Q (.ref p) (upd H p (.tup (xs++ys))))
theorem Vals.nil_iff(r:Vals xs us):us=[]↔xs=[]:=by
 cases r with
 |nil=>simp
 |cons _ _=>simp
theorem q3n:OpR X (binaryOp .Add) (q3Q X.K):=by
 intro a5 s σ H x y v u Q I rx ry h;obtain⟨a,b,xs,ys,rfl,rfl,ha,hb,hx,hz,q1,q2⟩:=h;cases rx;cases ry;obtain⟨its,r1,p1,_⟩:=I.tuple ha;obtain⟨bS,r2,p2,_⟩:=I.tuple hb;refine HT.cat_tup p1 p2 (λz=>hx (r1.nil_iff.mp z)) (λz=>⟨.ref a,H,I,rfl,q1 (r2.nil_iff.mp z)⟩) (λz=>?_) (by rw[<-r1.length, <-r2.length];exact hz);refine⟨.ref s.heap.objs.size,_,I.laid (t':=s.toks) (o:=.tup (xs++ys)) (λb ob q=>Heap.get?_push_of_some _ q) (UZ _) ?_,rfl,q2 (λw=>z (r2.nil_iff.mpr w)) _ (I.hok.fresh (UZ _))⟩;exact⟨by rw[UV];exact hz,_,r1.append r2,IsTup.new _ _⟩
noncomputable def ixN(n:Nat)(i:Int):Option Nat:=if 0<=i then(if i<n then some i.toNat else none) else if -(n:Int)<=i then some (i+n).toNat else none
noncomputable def atI{α:Type}(xs:List α)(i:Int):Option α:=(ixN xs.length i).bind λj=>xs[j]?
theorem WJ(h:ixN n i=some j):seqIndex? i n=some j/\j<n /\ -(n:Int)<=i/\i<n:=by
 unfold ixN at h;by_cases h0:0<=i
 ·rw[G4 h0]at h
  by_cases h1:i<n
  ·rw[G4 h1]at h
   have e:i.toNat=j:=Option.some.inj h;exact⟨by rw[seqIndex_of h0 h1,e],by lia,by lia,h1⟩
  ·rw[GZ h1]at h;cases h
 ·rw[GZ h0]at h
  by_cases h1 : -(n:Int)<=i
  ·rw[G4 h1]at h
   have e:(i+n).toNat=j:=Option.some.inj h;exact⟨by rw[seqIndex_neg (by lia) h1,e],by lia,h1,by lia⟩
  ·rw[GZ h1]at h;cases h
theorem GJ{α:Type}{xs:List α}{i:Int}{v:α}(h:atI xs i=some v):∃j,seqIndex? i xs.length=some j/\xs[j]?=some v/\j<xs.length /\ -(xs.length:Int)<=i/\i<xs.length:=by
 unfold atI at h;cases e:ixN xs.length i with
 |none=>rw[e]at h;cases h
 |some j=>
  rw[e]at h;obtain⟨h1,h2,h3,h4⟩:=WJ e;exact⟨j,h1,h,h2,h3,h4⟩
theorem ze{α:Type}{xs:List α}{j:Nat}{v:α}(h:xs[j]?=some v):atI xs (j:Int)=some v:=by
 have hj:j<xs.length:=(UR.mp h).1;have e:ixN xs.length (j:Int)=some j:=by
  unfold ixN;rw[G4 (by lia),G4 (by lia)];simp
 unfold atI;rw[e];exact h
noncomputable def GK(b:Expr):Prop:=∀o i,subscripted b false o i=operate [o,i] (getItem o i)
noncomputable def IxR(X:Cx)(r:R2):Prop :=
 ∀(value slice:Expr)(a5:List (Addr×Obj))(s:Shared)(σ:St)(H:Hp)(x y:V)(v u:Value)(Q:VK),Inv X a5 σ H s->RelV x v->RelV y u->r x y H Q ->
  subscripted slice false v u=operate [v,u] (getItem v u)->wpAny (model X.prog X.w) X.A (subscriptTail value slice v u) (EP X a5 σ Q) X.xe s
noncomputable def MtR(X:Cx)(id:String)(r:V->List V->Hp->VK->Prop):Prop :=
 ∀(a5:List (Addr×Obj))(s:Shared)(σ:St)(H:Hp)(x:V)(xs:List V)(v:Value)(us:List Value)(Q:VK),Inv X a5 σ H s->RelV x v->Vals xs us->r x xs H Q ->
  wpAny (model X.prog X.w) X.A (call (.builtin id) (v::us)) (EP X a5 σ Q) X.xe s
theorem IxR.or(h:IxR X r)(h':IxR X r'):IxR X (λx y H Q=>r x y H Q\/r' x y H Q):=by
 intro value slice a5 s σ H x y v u Q I rx ry q hs;rcases q with q|q
 ·exact h value slice a5 s σ H x y v u Q I rx ry q hs
 ·exact h' value slice a5 s σ H x y v u Q I rx ry q hs
noncomputable def rIxL(Ξ:PySem.W.Frag):R2:=λx y H Q=>∃p xs i v,x=.ref p/\y=.int i/\SqL Ξ H p xs/\atI xs i=some v/\Q v H
noncomputable def rIxT(Ξ:PySem.W.Frag):R2:=λx y H Q=>∃p xs i v,x=.ref p/\y=.int i/\SqT Ξ H p xs/\atI xs i=some v/\Q v H
theorem q4p:IxR X (rIxL X.K):=by
 intro value slice a5 s σ H x y v u Q I rx ry h hs;obtain⟨p,xs,i,z,rfl,rfl,hq,he,q⟩:=h;cases rx;obtain⟨t,rfl⟩:=ry;obtain⟨its,r,pl,hz⟩:=I.list hq;obtain⟨j,h1,h2,h3,h4,h5⟩:=GJ he;obtain⟨w,ew,dg⟩:=r.get h2;have hl:=r.length;have hn:=JF;have fin:EP X a5 σ Q w s:=⟨z,H,I,dg,q⟩;by_cases h0:0<=i
 ·have hj:i.toNat=j:=by
   rw[seqIndex_of h0 h5]at h1;exact Option.some.inj h1
  exact item_listR pl.isList h0 (by lia) (by rw[hj];simpa using ew) fin hs
 ·have hj:(i+(its.toArray.size:Int)).toNat=j:=by
   rw[seqIndex_neg (by lia) h4]at h1;rw[U5, <-hl];exact Option.some.inj h1
  exact subscriptTail_builtinR (x:=w) pl.isList.typeIs slot_list_getitem.lookup
   (wpAny_getItem_list_neg (Q:=λr s'=>r=w/\EP X a5 σ Q r s') pl.isList (by lia) (by rw[U5]<;>lia) (by lia) (by rw[hj];simpa using ew) ⟨rfl,fin⟩) hs
theorem q6j:IxR X (rIxT X.K):=by
 intro value slice a5 s σ H x y v u Q I rx ry h hs;obtain⟨p,xs,i,z,rfl,rfl,hq,he,q⟩:=h;cases rx;obtain⟨t,rfl⟩:=ry;obtain⟨its,r,pl,hz⟩:=I.tuple hq;obtain⟨j,h1,h2,h3,h4,h5⟩:=GJ he;obtain⟨w,ew,dg⟩:=r.get h2;have hl:=r.length;have hn:=JF;have fin:EP X a5 σ Q w s:=⟨z,H,I,dg,q⟩;exact subscriptTail_builtinR (x:=w) pl.typeIs slot_tuple_getitem.lookup
  (getItem_tuple (j:=j) (Q:=λr s'=>r=w/\EP X a5 σ Q r s') pl (by lia) (by lia) (by rw[U5, <-hl];exact h1) (by simpa using ew) ⟨rfl,fin⟩) hs
theorem KJ(its:List Value)(n j:Nat)(u:Value):Obj.mapSeq (·.setIfInBounds j u) { cls:=.type "list", data:=.seq its.toArray n }={ cls:=.type "list", data:=.seq (its.set j u).toArray n }:=by
 simp[Obj.mapSeq]
theorem Inv.lst(I:Inv X a5 σ H s)(h:H p=some (.lst xs)):
  ∃(its:List Value)(n:Nat),Vals xs its/\s.heap.get? p=some { cls:=.type "list", data:=.seq its.toArray n }/\xs.length<=sizeLine:=by
 obtain⟨z,its,n,r,e⟩:=I.hok p _ h;exact⟨its,n,r,e,z⟩
theorem Inv.lstUpd{its its':List Value}(I:Inv X a5 σ H s)(h:H p=some (.lst xs))(ho:s.heap.get? p=some { cls:=.type "list", data:=.seq its.toArray n })(hf:f { cls:=.type "list", data:=.seq its.toArray n }={ cls:=.type "list", data:=.seq its'.toArray n' })(r:Vals ys its')(hz:ys.length<=sizeLine)(t:Nat):
  Inv X a5 σ (upd H p (.lst ys)) { s with heap:=s.heap.update p f,toks:=t }:=by
 have e:(s.heap.update p f).get? p=some { cls:=.type "list", data:=.seq its'.toArray n' }:=by
  rw[Heap.get?_update_self f ho (by rw[hf]<;>rfl),hf]
 refine I.write (x:=p) (e:=p) (by rw[h];trivial) (.inl rfl) (λb u hb q=>(Heap.get?_update_other _ _ (Ne.symm hb)).trans q) ⟨_,e⟩ ?_;exact⟨hz,its',n',r,e⟩
noncomputable def q3X:V->V->V->Hp->(Hp->Prop)->Prop:=λo i v H Q=>∃p xs k j,o=.ref p/\i=.int k/\H p=some (.lst xs)/\ixN xs.length k=some j/\Q (upd H p (.lst (xs.set j v)))
theorem qR:PSet X q3X:=by
 intro a5 s σ H o i v ov iv u Q I ro ri rv h;obtain⟨p,xs,k,j,rfl,rfl,hp,hj,q⟩:=h;cases ro;obtain⟨t,rfl⟩:=ri;obtain⟨its,n,r,ho,hz⟩:=I.lst hp;obtain⟨h1,h2,h3,h4⟩:=WJ hj;have hl:=r.length;have hn:=JF;have I':Inv X a5 σ (upd H p (.lst (xs.set j v))) { s with heap:=s.heap.update p (Obj.mapSeq (·.setIfInBounds j u)) } :=
  I.lstUpd hp ho (KJ its n j u) (r.set rv j) (by rw[U2];exact hz) s.toks
 by_cases h0:0<=k
 ·have hk:k.toNat=j:=by
   rw[seqIndex_of h0 h4]at h1;exact Option.some.inj h1
  exact W.ki_setAt ho h0 (by lia) (by rw[U5, <-hl];exact h4) (by rw[hk];exact⟨_,I',q⟩)
 ·have hk:(k+(its.toArray.size:Int)).toNat=j:=by
   rw[seqIndex_neg (by lia) h3]at h1;rw[U5, <-hl];exact Option.some.inj h1
  exact W.ki_setBack ho (by lia) (by rw[U5, <-hl];exact h3) (by lia) (by rw[hk];exact⟨_,I',q⟩)
theorem Za(lo hi:Option Int)(n:Nat):(sliceBounds lo hi none n).1=((HT.sIx n 0 lo:Nat):Int)/\(sliceBounds lo hi none n).2.1=((HT.sIx n n hi:Nat):Int)/\(sliceBounds lo hi none n).2.2=1:=by
 refine⟨?_,?_,rfl⟩
 ·cases lo with
  |none=>simp[sliceBounds,HT.sIx]
  |some i=>
   simp only[sliceBounds,HT.sIx,Option.getD_none,show(1:Int)>0 by decide,Uw];by_cases h:i<0
   ·simp only[h,Uw]<;>lia
   ·simp only[h,Uk]<;>lia
 ·cases hi with
  |none=>simp[sliceBounds,HT.sIx]
  |some i=>
   simp only[sliceBounds,HT.sIx,Option.getD_none,show(1:Int)>0 by decide,Uw];by_cases h:i<0
   ·simp only[h,Uw]<;>lia
   ·simp only[h,Uk]<;>lia
theorem Q2(its:List Value)(lo hi:Option Int):slicePick its.toArray lo hi none=((its.drop (HT.sIx its.length 0 lo)).take (HT.sIx its.length its.length hi-HT.sIx its.length 0 lo)).toArray:=by
 obtain⟨h1,h2,h3⟩:=Za lo hi its.toArray.size;unfold slicePick;rw[h1,h2,h3];simp only[sliceRange_one,pick_run,U5]<;>rfl
noncomputable def rSlL(Ξ:PySem.W.Frag):V->Option Int->Option Int->Hp->VK->Prop:=λx lo hi H Q=>∃a xs,x=.ref a/\SqL Ξ H a xs/\∀p,H p=none->Q (.ref p) (upd H p (.lst (cutV xs lo hi)))
theorem q2Q:SlR X (rSlL X.K):=by
 intro a5 s σ H x v vl vu lo hi sl Q I rx hs pl pu h;obtain⟨a,xs,rfl,hx,q⟩:=h;cases rx;obtain⟨its,r,ht,hz⟩:=I.list hx;have ar:=r.length;refine⟨"list", _,slot_list_getitem.lookup,ht.isList.typeIs,?_⟩;refine wpAny_getItem_list_slice ht.isList hs pl pu .none (by simp) ?_ (by rw[U5]<;>lia);rw[Q2, <-ar];refine⟨.ref s.heap.objs.size,_,I.laid (t':=s.toks) (o:=.lst (cutV xs lo hi)) (λb ob q=>Heap.get?_push_of_some _ q) (UZ _) ?_,rfl,q _ (I.hok.fresh (UZ _))⟩;exact⟨Dm (k7 xs lo hi) hz,_,0,(r.drop (HT.sIx xs.length 0 lo)).take (HT.sIx xs.length xs.length hi-HT.sIx xs.length 0 lo),Heap.get?_push_size _ rfl⟩
noncomputable def jU:V->Bool
 |.non=>true
 |.bl _=>true
 |.int _=>true
 |.str _=>true
 |_=>false
noncomputable def eqV:V->V->Bool
 |.non,.non=>true
 |.bl a,.bl b=>a==b
 |.bl a,.int b=>(if a then 1 else 0)==b
 |.int a,.bl b=>a==(if b then 1 else 0)
 |.int a,.int b=>a==b
 |.str a,.str b=>a==b
 |_,_=>false
theorem q2d(ry:RelV y u)(rx:RelV x v)(fy:jU y=true)(fx:jU x=true):SeqAt.EqAt A s u v (eqV y x):=by
 cases y with
 |non=>
  cases ry;cases x with
  |non=>cases rx;exact SeqAt.EqAt.same _
  |bl b=>cases rx;exact SeqAt.EqAt.none_bool b
  |int b=>obtain⟨t,rfl⟩:=rx;exact SeqAt.EqAt.none_int b t
  |str b=>obtain⟨t,rfl⟩:=rx;exact SeqAt.EqAt.none_str b t
  |_=>exact absurd (show false=true from fx) U6
 |bl a=>
  cases ry;cases x with
  |non=>cases rx;exact SeqAt.EqAt.bool_none a
  |bl b=>cases rx;exact SeqAt.EqAt.bool_bool a b
  |int b=>obtain⟨t,rfl⟩:=rx;exact SeqAt.EqAt.bool_int a b t
  |str b=>obtain⟨t,rfl⟩:=rx;exact SeqAt.EqAt.bool_str a b t
  |_=>exact absurd (show false=true from fx) U6
 |int a=>
  obtain⟨t',rfl⟩:=ry;cases x with
  |non=>cases rx;exact SeqAt.EqAt.int_none a t'
  |bl b=>cases rx;exact SeqAt.EqAt.int_bool a t' b
  |int b=>obtain⟨t,rfl⟩:=rx;exact SeqAt.EqAt.int_int a t' b t
  |str b=>obtain⟨t,rfl⟩:=rx;exact SeqAt.EqAt.int_str a t' b t
  |_=>exact absurd (show false=true from fx) U6
 |str a=>
  obtain⟨t',rfl⟩:=ry;cases x with
  |non=>cases rx;exact SeqAt.EqAt.str_none a t'
  |bl b=>cases rx;exact SeqAt.EqAt.str_bool a t' b
  |int b=>obtain⟨t,rfl⟩:=rx;exact SeqAt.EqAt.str_int a t' b t
  |str b=>obtain⟨t,rfl⟩:=rx;exact SeqAt.EqAt.str_str a t' b t
  |_=>exact absurd (show false=true from fx) U6
 |_=>exact absurd (show false=true from fy) U6
noncomputable def eqU(x:V)(u:Value):Bool:=match u with
 |.none=>eqV .non x
 |.bool b=>eqV (.bl b) x
 |.int i _=>eqV (.int i) x
 |.str z _=>eqV (.str z) x
 |_=>false
theorem q1V(r:RelV y u)(f:jU y=true):eqU x u=eqV y x:=by
 cases y with
 |non=>cases r;rfl
 |bl b=>cases r;rfl
 |int i=>obtain⟨t,rfl⟩:=r;rfl
 |str z=>obtain⟨t,rfl⟩:=r;rfl
 |_=>exact absurd (show false=true from f) U6
theorem Je:∀{xs:List V}{us:List Value},Vals xs us->xs.all jU=true->us.any (eqU x)=xs.any λy=>eqV y x
 |_,_,.nil,_=>rfl
 |y::xs,u::us,.cons r t,f=>by
  rw[RG,Dy]at f;rw[DU,DU,q1V r f.1,Je t f.2]
theorem Vx(rx:RelV x v)(fx:jU x=true):∀{xs:List V}{us:List Value},Vals xs us->xs.all jU=true->∀u∈us,SeqAt.EqAt A s u v (eqU x u)
 |_,_,.nil,_=>λu hu=>by cases hu
 |y::xs,u::us,.cons r t,f=>λu' hu=>by
  rw[RG,Dy]at f;rcases Da.mp hu with rfl|hu
  ·rw[q1V r f.1];exact q2d r rx f.1 fx
  ·exact Vx rx fx t f.2 u' hu
noncomputable def inV(x:V)(xs:List V):Bool:=xs.any λy=>eqV y x
noncomputable def rIn(Ξ:PySem.W.Frag)(neg:Bool):R2:=λx y H Q=>∃p xs,y=.ref p/\(SqL Ξ H p xs\/SqT Ξ H p xs)/\jU x=true/\xs.all jU=true/\Q (.bl (if neg then !inV x xs else inV x xs)) H
theorem Y2:OpR X (compareOp .In) (rIn X.K false):=by
 intro a5 s σ H x y v u Q I rx ry h;obtain⟨p,xs,rfl,hq,fx,fs,q⟩:=h;cases ry;rcases hq with hq|hq
 ·obtain⟨its,r,pl,hz⟩:=I.list hq
  refine SeqAt.in_listAt (eqU x) pl.isList (λw hw=>Vx rx fx r fs w (by simpa using hw)) ⟨.bl _,H,I,rfl,?_⟩;rw[show its.toArray.any (eqU x)=its.any (eqU x) by simp,Je r fs];exact q
 ·obtain⟨its,r,pl,hz⟩:=I.tuple hq
  refine SeqAt.in_tupleAt (eqU x) pl (λw hw=>Vx rx fx r fs w (by simpa using hw)) ⟨.bl _,H,I,rfl,?_⟩;rw[show its.toArray.any (eqU x)=its.any (eqU x) by simp,Je r fs];exact q
theorem jK:zJ X (.builtin "len") (λxs H Q=>∃p ys,xs=[.ref p]/\(SqL X.K H p ys\/SqT X.K H p ys)/\Q (.int ys.length) H):=by
 intro a5 s σ H xs us Q I r h;obtain⟨p,ys,rfl,hq,q⟩:=h;obtain⟨u,rfl,rx⟩:=QU r;cases rx;have hn:=JF;rcases hq with hq|hq
 ·obtain⟨its,r',pl,hz⟩:=I.list hq
  have ar:=r'.length;exact Calls.call_len_list pl.isList (by simp only[U5]<;>lia) ⟨.int ys.length,H,I.tok _,⟨s.toks+1,by rw[U5,ar]⟩,q⟩
 ·obtain⟨its,r',pl,hz⟩:=I.tuple hq
  have ar:=r'.length;exact len_tuple pl (by simp only[U5]<;>lia) ⟨.int ys.length,H,I.tok _,⟨s.toks+1,by rw[U5,ar]⟩,q⟩
theorem zj:zJ X (.type "list") (λxs H Q=>∃p ys,xs=[.ref p]/\(SqL X.K H p ys\/SqT X.K H p ys)/\∀l,H l=none->Q (.ref l) (upd H l (.lst ys))):=by
 intro a5 s σ H xs us Q I r h;obtain⟨p,ys,rfl,hq,q⟩:=h;obtain⟨u,rfl,rx⟩:=QU r;cases rx;have fin:∀(its:List Value),Vals ys its->ys.length<=sizeLine->∀(h':Heap)(c':Nat),(∀b o',s.heap.get? b=some o'->h'.get? b=some o') ->
   h'.get? s.heap.objs.size=some { cls:=.type "list", dict:=none,data:=.seq its.toArray c',slots:=#[] }->EP X a5 σ Q (.ref s.heap.objs.size) { s with heap:=h' }:=λits r' hz h' c' kp e=>
  ⟨.ref s.heap.objs.size,_,I.laid (t':=s.toks) kp (UZ _) (show ObjOk X.prog X.w _ h' _ (.lst ys) from⟨hz,its,c',r',e⟩),rfl,q _ (I.hok.fresh (UZ _))⟩
 rcases hq with hq|hq
 ·obtain⟨its,r',pl,hz⟩:=I.list hq
  have ar:=r'.length;obtain⟨o,ho,hc,n,hd⟩:=pl.isList;exact call_list_seq p (.inl rfl) ho hc hd (λh' c' kp e=>fin its r' hz h' c' kp e) (by simp only[U5]<;>lia)
 ·obtain⟨its,r',pl,hz⟩:=I.tuple hq
  have ar:=r'.length;obtain⟨o,ho,hc,n,hd⟩:=pl;exact call_list_seq p (.inr rfl) ho hc hd (λh' c' kp e=>fin its r' hz h' c' kp e) (by simp only[U5]<;>lia)
theorem VQ:zJ X (.type "tuple") (λxs H Q=>∃p ys,xs=[.ref p]/\((SqL X.K H p ys/\∀l,H l=none->Q (.ref l) (upd H l (.tup ys)))\/(SqT X.K H p ys/\Q (.ref p) H))):=by
 intro a5 s σ H xs us Q I r h;obtain⟨p,ys,rfl,h⟩:=h;obtain⟨u,rfl,rx⟩:=QU r;cases rx;rcases h with⟨hq,q⟩|⟨hq,q⟩
 ·obtain⟨its,r',pl,hz⟩:=I.list hq
  have ar:=r'.length;refine call_tuple_list pl.isList (λh' kp=>?_) (by simp only[U5]<;>lia);have I1:Inv X a5 σ H { s with heap:=h' }:=I.kept (t':=s.toks) kp;have I2:Inv X a5 σ (upd H h'.objs.size (.tup ys)) { s with heap:=h'.push { cls:=.type "tuple", data:=.seq its.toArray } } :=
   I1.laid (t':=s.toks) (λb o e=>Heap.get?_push_of_some _ e) (UZ _) (show ObjOk X.prog X.w _ _ _ (.tup ys) from⟨hz,its,r',IsTup.new _ _⟩)
  exact⟨.ref h'.objs.size,_,I2,rfl,q _ (I1.hok.fresh (UZ _))⟩
 ·obtain⟨its,r',pl,hz⟩:=I.tuple hq
  exact call_tuple_same pl ⟨.ref p,H,I,rfl,q⟩
noncomputable def tyV(Ξ:PySem.W.Frag)(T:String)(x:V)(H:Hp):Prop:=match x with
 |.str _=>T = "str"
 |.int _=>T = "int"
 |.ref p=>(T = "list" /\ ∃xs,SqL Ξ H p xs)\/(T = "tuple" /\ ∃o,Ξ.lookup p=some o/\o.cls=.type "tuple" /\ o.dict=none) \/
   (T = "dict" /\ ((∃kvs,H p=some (.dK kvs))\/∃kvs,H p=some (.dT kvs)))\/(T = "set" /\ ∃S n,H p=some (.set S n))
 |_=>False
theorem q62{T:String}(I:Inv X a5 σ H s)(r:RelV x v)(ty:tyV X.K T x H):
  s.TypeIs v T/\∀a,v=.ref a->∃ob,s.heap.get? a=some ob/\ob.dict=none:=by
 cases x with
 |str z=>
  obtain⟨t,rfl⟩:=r;cases(show T = "str" from ty);exact⟨typeIs_str s z t,λ_a e=>nomatch e⟩
 |int i=>
  obtain⟨t,rfl⟩:=r;cases(show T = "int" from ty);exact⟨typeIs_int s i t,λ_a e=>nomatch e⟩
 |ref p=>
  cases r;rcases ty with⟨rfl,xs,hq⟩|⟨rfl,o,hk,hc,hd⟩|⟨rfl,hk⟩|⟨rfl,S,n,hk⟩
  ·obtain⟨its,_,pl,_⟩:=I.list hq
   refine⟨pl.isList.typeIs,λa e=>?_⟩;cases e;obtain⟨o,n,e,c,hd,_⟩:=pl;exact⟨o,e,hd⟩
  ·refine⟨⟨o,I.kIn p o hk,hc⟩,λa e=>?_⟩
   cases e;exact⟨o,I.kIn _ o hk,hd⟩
  ·have z:∃o,s.heap.get? p=some o/\o.ExactDict:=by
    rcases hk with⟨kvs,hk⟩|⟨kvs,hk⟩
    ·obtain⟨_,_,_,_,o,_,_,e,ex,_⟩:=I.hok p _ hk
     exact⟨o,e,ex⟩
    ·obtain⟨_,_,_,_,o,_,_,e,ex,_⟩:=I.hok p _ hk
     exact⟨o,e,ex⟩
   obtain⟨o,e,ex⟩:=z;refine⟨⟨o,e,ex.1⟩,λa e2=>?_⟩;cases e2;exact⟨o,e,ex.2.1⟩
  ·obtain⟨o,_,_,_,e,ex,_⟩:=I.hok p _ hk
   refine⟨⟨o,e,ex.1⟩,λa e2=>?_⟩;cases e2;exact⟨o,e,ex.2.1⟩
 |_=>exact False.elim ty
noncomputable def tBM0(Ξ:PySem.W.Frag)(T:String)(r:V->List V->Hp->VK->Prop)(to:TE):TE:=λσ H Q=>to σ H λx H1=>tyV Ξ T x H1/\r x [] H1 Q
noncomputable def tBM(Ξ:PySem.W.Frag)(T:String)(r:V->List V->Hp->VK->Prop)(to:TE)(t:TA):TE:=λσ H Q=>to σ H λx H1=>tyV Ξ T x H1/\t σ H1 λxs H2=>r x xs H2 Q
noncomputable def MtM(X:Cx)(id:String)(r:V->List V->Hp->VK->Prop):Prop :=
 ∀(a5:List (Addr×Obj))(s:Shared)(σ:St)(H:Hp)(x:V)(xs:List V)(v:Value)(us:List Value)(Q:VK),Inv X a5 σ H s->RelV x v->Vals xs us->r x xs H Q ->
  wpAny (model X.prog X.w) X.A (call (.builtin id) (v::us)) (EP X a5 σ Q) X.xe s
theorem Vals.one:∀{x:V}{us:List Value},Vals [x] us->∃u,us=[u]/\RelV x u
 |_,_,.cons r .nil=>⟨_,rfl,r⟩
theorem Vals.two:∀{x y:V}{us:List Value},Vals [x,y] us->∃u v,us=[u,v]/\RelV x u/\RelV y v
 |_,_,_,.cons r (.cons q .nil)=>⟨_,_,rfl,r,q⟩
theorem Vals.rep(h:Vals xs us):∀k:Nat,Vals (List.replicate k xs).flatten (List.replicate k us).flatten
 |0=>.nil
 |k+1=>by
  rw[Dv,Dv,DL,DL];exact Vals.append h (Vals.rep h k)
theorem ZB(its:List Value):∀(k:Nat)(a9:List Value),
  List.foldl (λx1 x2=>x1++x2) a9.toArray (List.replicate k its.toArray)=(a9++(List.replicate k its).flatten).toArray
 |0,a9=>by simp
 |k+1,a9=>by
  have e:a9.toArray++its.toArray=(a9++its).toArray:=by simp
  have e2:(a9++its)++(List.replicate k its).flatten=a9++(List.replicate (k+1) its).flatten:=by
   rw[Dv,DL,Db]
  rw[<-e2, <-ZB its k (a9++its), <-e,Dv,RS]
theorem Inv.lset{its its':List Value}(I:Inv X a5 σ H s)(hH:H l=some (.lst xs))(e:s.heap.get? l=some { cls:=.type "list", data:=.seq its.toArray n })(hf:f its.toArray=its'.toArray)(hv:Vals ys its')(hz:ys.length<=sizeLine):
  Inv X a5 σ (upd H l (.lst ys)) { s with heap:=s.heap.update l (Obj.mapSeq f),toks:=t' }:=by
 have q:=PySem.IsL.update e f;rw[hf]at q;refine I.write (x:=l) (e:=l) (by rw[hH];exact trivial) (.inl rfl) (λb' u hb hu=>(Heap.get?_update_other s.heap (Obj.mapSeq f) (Ne.symm hb)).trans hu) ⟨_,q⟩ ?_;exact⟨hz,its',_,hv,q⟩
theorem Inv.lnew(I:Inv X a5 σ H s)(hv:Vals ys its)(hz:ys.length<=sizeLine):
  Inv X a5 σ (upd H s.heap.objs.size (.lst ys)) { s with heap:=s.heap.push { cls:=.type "list", data:=.seq its.toArray },toks:=t' } :=
 I.laid (λ_a _a q=>Heap.get?_push_of_some _ q) (UZ _) ⟨hz,its,0,hv,Heap.get?_push_size _ rfl⟩
theorem Inv.fresh(I:Inv X a5 σ H s):H s.heap.objs.size=none:=I.hok.fresh (UZ _)
theorem Inv.lstM(I:Inv X a5 σ H s)(hH:H l=some (.lst xs)):xs.length<=sizeLine/\∃(its:List Value)(n:Nat),Vals xs its/\xs.length=its.length/\s.heap.get? l=some { cls:=.type "list", data:=.seq its.toArray n }:=by
 obtain⟨z,its,n,r,e⟩:=I.hok l _ hH;exact⟨z,its,n,r,r.length,e⟩
theorem JB(h:n<=sizeLine):Builtin.List.listTooLong n=false:=by
 unfold Builtin.List.listTooLong;exact G0 (by lia)
noncomputable def YL:V->List V->Hp->VK->Prop:=λx vs H Q=>∃l xs y,x=.ref l/\vs=[y]/\H l=some (.lst xs)/\xs.length<sizeLine/\Q .non (upd H l (.lst (xs++[y])))
theorem xc:MtM X "list.append" YL:=by
 intro a5 s σ H x vs v us Q I rx rv h;obtain⟨l,xs,y,rfl,rfl,hH,hz,q⟩:=h;cases rx;obtain⟨u,rfl,ru⟩:=rv.one;obtain⟨z,its,n,r,hl,e⟩:=I.lstM hH;refine UQ F.slot_list_append ⟨_,e,rfl⟩ F.entry_list_append (F.args_list_append_2 _ _) (PySem.list_append l its.toArray n u (by rw[U5];lia)) ⟨e,?_⟩;refine⟨.non,_,I.lset (its':=its++[u]) hH e (by simp) (r.append (.cons ru .nil)) ?_,rfl,q⟩;rw[UV,Dp];lia
noncomputable def rCat:R2:=λx y H Q=>∃l b xs zs,x=.ref l/\y=.ref b/\H l=some (.lst xs)/\H b=some (.lst zs)/\xs.length+zs.length<=sizeLine/\∀p,H p=none->Q (.ref p) (upd H p (.lst (xs++zs)))
theorem zE:OpR X (binaryOp .Add) rCat:=by
 intro a5 s σ H x y v u Q I rx ry h;obtain⟨l,b,xs,zs,rfl,rfl,hH,hB,hz,q⟩:=h;cases rx;cases ry;obtain⟨z,its,n,r,hl,e⟩:=I.lstM hH;obtain⟨z2,bS,n2,r2,oi,e2⟩:=I.lstM hB;refine PySem.P.add_list e e2 ?_ (by rw[U5,U5];lia);have ea:its.toArray++bS.toArray=(its++bS).toArray:=by simp
 rw[ea];exact⟨.ref _,_,I.lnew (t':=s.toks) (r.append r2) (by rw[UV];lia),rfl,q _ I.fresh⟩
noncomputable def rRep:R2:=λx y H Q=>∃l k xs,x=.ref l/\y=.int k/\H l=some (.lst xs) /\ -(2^63)<=k/\k<2^63/\xs.length*k.toNat<=sizeLine /\
 ∀p,H p=none->Q (.ref p) (upd H p (.lst (List.replicate k.toNat xs).flatten))
theorem q2U{α:Type}(xs:List α)(k:Nat):(List.replicate k xs).flatten.length=k*xs.length:=by
 induction k with
 |zero=>simp
 |succ k ih=>rw[Dv,DL,UV,ih,Nat.succ_mul,Nat.add_comm]
theorem q1N:OpR X (binaryOp .Mult) rRep:=by
 intro a5 s σ H x y v u Q I rx ry h;obtain⟨l,k,xs,rfl,rfl,hH,h1,h2,hz,q⟩:=h;cases rx;obtain⟨t,rfl⟩:=ry;obtain⟨z,its,n,r,hl,e⟩:=I.lstM hH;have ar:its.toArray.size*k.toNat<=sizeLine:=by rw[U5, <-hl];exact hz
 have iU:¬its.toArray.size*k.toNat>(2^63-1) / 8:=by
  have:(sizeLine:Nat)<=(2^63-1) / 8:=by decide
  lia
 have iV:¬(!Builtin.List.listFitsIndex k)=true:=by
  rw[fitsIndex_both h1 h2];exact U6
 have gu:¬Builtin.List.listTooLong (its.toArray.size*k.toNat)=true:=by
  rw[JB ar];exact U6
 have cx:List.foldl (λx1 x2=>x1++x2) #[] (List.replicate (if its.toArray.isEmpty=true then 0 else k.toNat) its.toArray)=(List.replicate k.toNat its).flatten.toArray:=by
  have f0:∀m:Nat,List.foldl (λx1 x2=>x1++x2) #[] (List.replicate m its.toArray)=(List.replicate m its).flatten.toArray:=λm=>by
   have:=ZB its m [];rw[DM]at this;exact this
  rw[f0];cases its with
  |nil=>simp
  |cons a r'=>rw[GZ (by simp)]
 refine wpAny_binaryOp_repeat_ref (T := "list") (U := "int") (by decide) ⟨_,e,rfl⟩ (λs'=>typeIs_int s' k t) noFill_list_mul F.fills_int_mul F.slot_int_rmul repeat_list F.slot_int_index.lookup
  (UQ F.slot_int_rmul (typeIs_int s k t) F.entry_int_rmul (F.args_int_rmul_2 _ _) (int___rmul___int_list k t l its.toArray n)
   ⟨e,rfl,⟨_,e,rfl⟩,UQ F.slot_list_mul ⟨_,e,rfl⟩ F.entry_list_mul (F.args_list_mul_2 _ _) (AutoListH.list___mul___list_int_3 l its.toArray n k t iV iU gu) ⟨e,?_⟩⟩)
 rw[cx];exact⟨.ref _,_,I.lnew (t':=s.toks) (r.rep k.toNat) (by rw[q2U,Nat.mul_comm];exact hz),rfl,q _ I.fresh⟩
end L2
namespace Att
open PySem PySem.W PySem.Calls PyProof.Rows
theorem kW:∀(ns:List Int)(vs:List Value),WellAll P h vs (ns.map WData.int)->IntsAre vs ns:=by
 intro ns
 induction ns with
 |nil=>
  intro vs w;rw[D1]at w;cases w;exact .nil
 |cons n ns ih=>
  intro vs w;rw[Di]at w;cases w with
  |cons a b=>
   cases a;exact .cons _ _ (ih _ b)
theorem Yp{l:OpenLaw}(hn:l.most=some n)(e7:l.row.toRowW.claim.pre args=true)(iW:WellAll P h gw args):
  ∃a vs ns,gw=[Value.ref a]/\args=[WData.list (ns.map WData.int)]/\h.get? a=some { cls:=.type "list", data:=.seq vs.toArray }/\IntsAre vs ns/\ns.length<=n:=by
 have oj:WShape.hasAll [] args [.list .int]=true:=(pre_splitW e7).1;have hc:l.pre.holds [] { args:=args }=true:=(pre_splitW e7).2;obtain⟨d,r,rfl,h1,h2⟩:=hasAllW_cons oj;obtain rfl:=hasAllW_nil h2;obtain⟨xs,rfl,h3⟩:=hasW_list h1;obtain⟨ns,rfl⟩:=items_int h3;have ar:ns.length<=n:=by
  unfold OpenLaw.pre at hc;have h4:(WTm.not (.lt (.lit (.int (n:Int))) (.len (.arg 0)))).holds [] { args:=[.list (ns.map .int)] }=true:=by
   have h4:=(holds_andW hc).1;rw[hn]at h4;exact h4
  have h5:=condW_of h4 (w_not (w_lt w_lit (w_len_list (w_arg rfl))));rw[UY]at h5;refine Nat.le_of_not_lt λq=>?_;have q':(n:Int)<((ns.length:Nat):Int):=by lia
  first
   | (rw[Uu q']at h5;exact absurd h5 (by decide))
   | (simp at h5;lia)
 cases iW with
 |cons w1 w2=>
  cases w2;cases w1 with
  |list ho cK=>exact⟨_,_,ns,rfl,rfl,ho,kW ns _ cK,ar⟩
theorem YU(l:OpenLaw)(args:List WData):l.row.toRowW.claim.post args (.bool true) args=true :=
 postW_of (r:=l.row.toRowW) (X:=(true==true))
  (show WShape.has [] (.bool true) .bool=true by first|rfl|decide|simp[WShape.has,WShape.arms,WShape.armsAll])
  (show(WTm.eq .res (.lit (.bool true))).value [] { args:=args,res:=some (.bool true),after:=args }=some (.bool (true==true))from w_eq_bool (w_res rfl) w_lit) rfl
theorem attach_call{l:OpenLaw}(hn:l.most=some n)(gx:d.params.defaults=[])(call:∀(w:World)(s₀ ag:Shared)(mg mb:Str->Option Value)(fa:Addr)(o:Obj)(pm cd bI:Value)(a:Addr)(vs:List Value)(ns:List Int),
   Ground q loose [] XP w s₀ mg mb ag.heap->YP w ag.heap ->
   ag.heap.get? fa=some o->o.data=.func (docDef d.name d.params d.body d.scope pm cd bI)->ag.heap.CodeRec cd d.name->mg d.name=some (.ref fa) ->
   ag.heap.get? a=some { cls:=.type "list", data:=.seq vs.toArray }->IntsAre vs ns->ns.length<=n->ag.gens=#[] ->
   codeAny (model l.prog w) callerA (.call (.ref fa) ⟨[.ref a], []⟩) (λr s'=>r=.ok (.ret (.bool true))/\OldK ag.heap s'.heap/\s'.os=ag.os/\AllBare s'.gens) ag):
  WalkO q loose XP YP l.row.toRowW d [] (λf vs=>PySem.call f vs):=by
 intro w s₀ ag mg mb G Y fa o pm cd bI dV kV ho hd cW hD hmg hg args gw as e7 hlay hrd iW hlo;obtain rfl:dV=.none:=Dflts.none hD gx;obtain rfl:kV=.none:=Dflts.noKw hD;obtain⟨a,vs,ns,rfl,rfl,fc,dz,ar⟩:=Yp hn e7 iW;refine enter_call (Uo (call w s₀ ag mg mb fa o pm cd bI a vs ns G Y ho (fd_plain hd) cW hmg fc dz ar hg) λr s' hq=>?_);obtain⟨rfl,h2,h3,h4⟩:=hq;exact⟨.inl ⟨.bool true,.bool true, [],rfl,λ_a=>rfl,.bool true,YU l _,λ_a=>⟨List.Pairwise.nil,λ_a hm=>(nomatch hm)⟩⟩,h2,h3,h4⟩
end Att
namespace L2
open PySem PySem.Spec PyProof.Rows
theorem VY:∀{vs:List Value}{ns:List Int},IntsAre vs ns->Vals (ns.map V.int) vs
 |_,_,.nil=>.nil
 |_,_,.cons n t h=>.cons ⟨t,rfl⟩ (VY h)
noncomputable def Only(H:Hp):Prop:=∀b,H b=none\/∃o xs,H b=some (.frz o (.lst xs))
theorem q0C(KX:Ξ.In ag.heap)(cL:ag.heap.Ns mainGlobals mg)(hb:ag.heap.Ns builtinsNs mb)(ik:∀x:Str,x ≠ "__name__" -> mb x=bootBuiltins x)(iX:ag.heap.NoLimit)(hg:ag.gens=#[])(ha:ag.heap.get? a=some { cls:=.type "list", data:=.seq vs.toArray })(hi:IntsAre vs ns)(hl:ns.length<=sizeLine)(hr:Room k callerA)(F:∀base:Heap,Ξ.In base->base.Ns mainGlobals mg->FnOk P w Ξ mg base CX k fa fd [x] sp)(gy:∀(s:Shared)(u:Value),BindsTo s fd ⟨[u], []⟩ [(x,u)])(di:∀H:Hp,Only H->SqL Ξ H a (ns.map V.int)->sp [.ref a] H (λv _a=>v=.bl true) λ_a _a _a=>False)(iY:∀H e s',CX [] H ag (λ_a _a _a=>False) e s'->False):
  codeAny (model P w) callerA (.call (.ref fa) ⟨[.ref a], []⟩) (λr s'=>r=.ok (.ret (.bool true))/\OldK ag.heap s'.heap/\s'.os=ag.os/\AllBare s'.gens) ag:=by
 have rv:=VY hi;have iZ:=hi.length
 -- from an abstract heap in which nothing but the script may be cg
 have gz:∀H:Hp,Only H->SqL Ξ H a (ns.map V.int)->HOk P w H ag.heap->(∀b,H b≠none->b=a)->(H a≠none->Ξ.lookup a=none) ->
   codeAny (model P w) callerA (.call (.ref fa) ⟨[.ref a], []⟩) (λr s'=>r=.ok (.ret (.bool true))/\OldK ag.heap s'.heap/\s'.os=ag.os/\AllBare s'.gens) ag:=by
  intro H hO hS hok hA hK;have cZ:∀{b:Addr}{o:Obj},ag.heap.get? b=some o->H b=none->(hidT ag.heap H).get? b=some o:=λe n=>q0r e n;have gp:∀{b:Addr}{o:Obj}{es:Array DictEntry}{ep:Nat},ag.heap.get? b=some o->o.data=.dict es ep->H b=none:=λ{b o es ep} e d=>by
   cases q:H b with
   |none=>rfl
   |some u=>
    have e':b=a:=hA b (by rw[q];simp);subst e';rw[ha]at e;cases e;have d':Data.seq vs.toArray _=Data.dict es ep:=d;cases d'
  have il:∀{b:Addr}{m:Str->Option Value},ag.heap.Ns b m->(hidT ag.heap H).Ns b m:=λ{b m} ⟨o,es,ep,e,d,r⟩=>⟨o,es,ep,cZ e (gp e d),d,r⟩;have mM:Ξ.In (hidT ag.heap H):=λb o e=>cZ (KX b o e) (by
   cases q:H b with
   |none=>rfl
   |some u=>
    have e':b=a:=hA b (by rw[q];simp);subst e';rw[hK (by rw[q];simp)]at e;cases e)
  have hM:Mod Ξ mg (hidT ag.heap H):=⟨mM,il cL,⟨mb,il hb,ik⟩,let⟨mc,h1,h2⟩:=iX;⟨mc,il h1,h2⟩⟩;have e0:Env0 P w Ξ mg (hidT ag.heap H) callerA [] ag H:=⟨rfl,hM,λb o e=>q3Y e,Rx (WQ _ _),trivial,λb hb=>absurd (show b∈([]:List Addr)from hb) (by simp),hok,.of_eq hg⟩;refine Uo ((F _ mM (il cL)).run callerA [] ag H ⟨[.ref a], []⟩ [.ref a] [.ref a] _ _ hr e0 (gy ag (.ref a)) (.cons rfl .nil) (di H hO hS)) λr s' h=>?_;cases r with
  |error e=>exact(iY H e s' h).elim
  |ok fl=>
   cases fl with
   |next=>exact False.elim h
   |brk=>exact False.elim h
   |cont=>exact False.elim h
   |ret u=>
    obtain⟨v,H',os,bare,un,l7,r',q⟩:=h;have q':v=.bl true:=q;subst q';obtain rfl:u=Value.bool true:=r';refine⟨rfl,OldK.of_keep λb o e=>?_,os,bare⟩;cases q:H b with
    |none=>exact un.keep b o e q (by intro z;exact absurd (show b∈([]:List Addr)from z) (by simp)) (by simp)
    |some u=>
     rcases hO b with z|⟨ob,xs,z⟩
     ·rw[q]at z;cases z
     ·have z2:=un.frzs b ob _ z
      obtain⟨e1,_⟩:=hok b _ z;obtain⟨e2,_⟩:=l7 b _ z2;rw[e]at e1;cases e1;exact e2
 cases hk:Ξ.lookup a with
 |some o=>
  -- the script is one of the module's own objects
  have e:=KX a o hk;rw[ha]at e;cases e;refine gz (λ_a=>none) (λ_a=>.inl rfl) (.inr ⟨_,vs.toArray,_,hk,rfl,rfl,rfl,by rw[U5,iZ];exact hl,by simpa using rv⟩) (λb u z=>by have z':(none:Option HO)=some u:=z;cases z') (λb z=>absurd rfl z) λz=>absurd rfl z
 |none=>
  refine gz (λb=>if b=a then some (.frz { cls:=.type "list", data:=.seq vs.toArray } (.lst (ns.map V.int))) else none) (λb=>?_) (.inl (.inr ⟨{ cls:=.type "list", data:=.seq vs.toArray },G4 rfl⟩)) (λb u z=>?_) (λb z=>?_) λ_a=>hk
  ·by_cases hb:b=a
   ·exact .inr ⟨_,_,G4 hb⟩
   ·exact .inl (GZ hb)
  ·by_cases hb:b=a
   ·have z':=(G4 hb).symm.trans z
    cases z';subst hb;exact⟨ha,by rw[UY];exact hl,vs,_,rv,ha⟩
   ·have z':=(GZ hb).symm.trans z
    cases z'
  ·by_cases hb:b=a
   ·exact hb
   ·exact absurd (GZ hb) z
theorem walk_of{l:PySem.W.OpenLaw}{Ξ:Params->PySem.W.Frag}{CX:World->CXT}{sp:World->Sp}(hn:l.most=some n)(fV:n<=sizeLine)(gx:d.params.defaults=[])(hr:Room k callerA)(hY:∀(w:World)(h:Heap),YP w h->(Ξ w.params).In h)(F:∀(w:World)(mg:Str->Option Value)(fa:Addr)(h:Heap),(Ξ w.params).In h->h.Ns mainGlobals mg->mg d.name=some (.ref fa) ->
   ∃fd:FuncData,(∀(s:Shared)(u:Value),BindsTo s fd ⟨[u], []⟩ [(x,u)]) /\
    ∀base:Heap,(Ξ w.params).In base->base.Ns mainGlobals mg->FnOk l.prog w (Ξ w.params) mg base (CX w) k fa fd [x] (sp w))(di:∀(w:World)(H:Hp)(a:Addr)(ns:List Int),ns.length<=n->Only H->SqL (Ξ w.params) H a (ns.map V.int)->sp w [.ref a] H (λv _a=>v=.bl true) λ_a _a _a=>False)(iY:∀(w:World)(H:Hp)(s:Shared)(e:Value)(s':Shared),CX w [] H s (λ_a _a _a=>False) e s'->False):
  PySem.W.WalkO q loose XP YP l.row.toRowW d [] (λf vs=>PySem.call f vs):=by
 refine Att.attach_call hn gx λw s₀ ag mg mb fa o pm cd bI a vs ns G Y ho hd cW hmg fc dz ar hg=>?_;have KX:=hY w _ Y;obtain⟨fd,hb,hF⟩:=F w mg fa _ KX G.T.g hmg;exact q0C KX G.T.g G.T.b G.T.builtins G.T.nolimit hg fc dz (Dm ar fV) hr hF hb (λH hO hS=>di w H a ns ar hO hS) λH e s'=>iY w H ag e s'
noncomputable abbrev CX0:CXT:=λ_a _a _a _a _a _a=>False
noncomputable abbrev E0:XK:=λ_a _a _a=>False
theorem Ku:jh CX0 X E0:=λ_a _a _a _a _a _a _a h=>h.elim
structure Fun(Ξ:PySem.W.Frag)(x af:Str)(st:Stmt)(f:Addr)(fd:FuncData):Prop where
 ex:∃(oc:Value)(od:Option Addr)(kV bI pm:Value)(an:Option Addr)(ac ct:Value)(dZ:Array (Option Value)),
  fd=W.fnOf x af (zA st) (vi st) (qd st) .none kV bI pm an ac ct/\Ξ.lookup f=some ⟨oc,od,.func fd,dZ⟩/\W.codeIn Ξ ac af=true
 kp:W.keepIn Ξ (.ref f)=true
theorem Fun.ok{st:Stmt}(F:Fun Ξ x af st f fd)(S:q00 N ps (qd st))(len:∀vs H Q E,sp vs H Q E->vs.length=ps.length)(aA:∀(ac:Value)(A:Around)(outer:List Env)(s:Shared)(H:Hp)(vs:List V)(Q:VK)(E:XK),Room k (A.deeper (envOfC af (qd st) s.heap.objs.size f ac))->sp vs H Q E ->
   ∃t,PSs (cxOf CX0 P w Ξ mg base N af (qd st) f ac A outer s H E).nox (vi st) t/\t { nx:=λ_a H'=>Q .non H',rt:=Q } (start N vs) H):FnOk P w Ξ mg base CX0 (k+1) f fd ps sp:=by
 obtain⟨oc,od,kV,bI,pm,an,ac,ct,dZ,rfl,lk,cW⟩:=F.ex;refine q67 lk cW S len λA outer s H vs Q E hr di=>?_;obtain⟨t,h,q⟩:=aA ac A outer s H vs Q E hr di;exact⟨t,h.nox,q⟩
theorem Fun.binds{st:Stmt}(F:Fun Ξ x af st f fd)(h:∀(kV bI pm:Value)(an:Option Addr)(ac ct:Value)(us:List Value),us.length=ps.length->bindArgs (W.fnOf x af (zA st) (vi st) (qd st) .none kV bI pm an ac ct) ⟨us, []⟩=pure (ps.zip us)):Binds Ξ fd ps []:=by
 obtain⟨oc,od,kV,bI,pm,an,ac,ct,dZ,rfl,lk,cW⟩:=F.ex;exact .all (h kV bI pm an ac ct)
theorem fun_mk{st:Stmt}{kV bI pm ac ct:Value}(l:Ξ.lookup f=some ⟨oc,od,.func (W.fnOf x af (zA st) (vi st) (qd st) .none kV bI pm an ac ct),dZ⟩)(c:W.codeIn Ξ ac af=true)(k:W.keepIn Ξ (.ref f)=true):Fun Ξ x af st f (W.fnOf x af (zA st) (vi st) (qd st) .none kV bI pm an ac ct):=⟨⟨oc,od,kV,bI,pm,an,ac,ct,dZ,rfl,l,c⟩,k⟩
theorem q39(hr:Room k A):A.units+1<cLine:=Do (Nat.add_le_add_left (by decide:1<=64) _) hr.units
theorem qF(h:n<=1000):n<sizeLine:=Do h (by decide)
theorem ite2{c A B:Prop}[Decidable c](h1:c->A)(h2:¬c->B):if c then A else B:=by
 by_cases h:c
 ·rw[G4 h]
  exact h1 h
 ·rw[GZ h]
  exact h2 h
noncomputable def Same(H H':Hp):Prop:=∀b o,H b=some o->H' b=some o
theorem Same.refl(H:Hp):Same H H:=λ_a _a h=>h
theorem Same.trans(a:Same H H1)(b:Same H1 H2):Same H H2:=λc o h=>b c o (a c o h)
theorem Same.free(e:Same H H')(h:H' l=Option.none):H l=Option.none:=by
 cases q:H l with
 |none=>rfl
 |some o=>
  rw[e l o q]at h;cases h
theorem Same.seq(e:Same H H')(h:SqL Ξ H a xs):SqL Ξ H' a xs:=by
 rcases h with(h|⟨o,h⟩)|h
 ·exact .inl (.inl (e _ _ h))
 ·exact .inl (.inr ⟨o,e _ _ h⟩)
 ·exact .inr h
section
variable {κ:Type} [DecidableEq κ]
noncomputable def valV(kvs:List (κ×V))(k:κ):Option V:=(kvs.find? λkv=>decide (kv.1=k)).map (·.2)
noncomputable def putK(kvs:List (κ×V))(k:κ)(v:V):List (κ×V):=
 if(kvs.any λkv=>decide (kv.1=k))=true then kvs.map (λkv=>if kv.1=k then(kv.1,v) else kv) else kvs++[(k,v)]
theorem Jh{p:κ×V}{r:List (κ×V)}{k:κ}(e:p.1=k):valV (p::r) k=some p.2:=by simp[valV,DN,e]
theorem Ji{p:κ×V}{r:List (κ×V)}{k:κ}(e:¬p.1=k):valV (p::r) k=valV r k:=by simp[valV,DN,e]
theorem XR(kvs:List (κ×V))(k:κ)(v:V):(putK kvs k v).length<=kvs.length+1:=by
 unfold putK;split
 ·rw[UY];lia
 ·rw[UV,U8,Dz];lia
theorem KV.val{kvs:List (κ×V)}{vs:List (κ×Value)}(r:KV kvs vs)(k:κ):RelO (valV kvs k) (valueAt vs k):=by
 unfold KV at r
 induction r with
 |nil=>exact True.intro
 | @cons p q ps qs h t ih=>
  obtain⟨h1,h2⟩:=h;by_cases e:p.1=k
  ·have e':q.1=k:=h1.symm.trans e
   have b:valueAt (q::qs) k=some q.2:=by simp[valueAt,DN,e']
   rw[Jh e,b];exact h2
  ·have e':¬q.1=k:=λz=>e (h1.trans z)
   have b:valueAt (q::qs) k=valueAt qs k:=by simp[valueAt,DN,e']
   rw[Ji e,b];exact ih
theorem KV.any{kvs:List (κ×V)}{vs:List (κ×Value)}(r:KV kvs vs)(k:κ):(kvs.any λkv=>decide (kv.1=k))=vs.any λkv=>decide (kv.1=k):=by
 unfold KV at r
 induction r with
 |nil=>rfl
 |cons h t ih=>rw[DU,DU,ih,h.1]
theorem KV.repl{kvs:List (κ×V)}{vs:List (κ×Value)}(r:KV kvs vs)(k:κ){y:V}{u:Value}(ry:RelV y u):
  KV (kvs.map λkv=>if kv.1=k then(kv.1,y) else kv) (vs.map λkv=>if kv.1=k then(kv.1,u) else kv):=by
 unfold KV at r ⊢
 induction r with
 |nil=>exact .nil
 | @cons p q ps qs h t ih=>
  rw[Di,Di];refine .cons ?_ ih;obtain⟨h1,h2⟩:=h;by_cases e:p.1=k
  ·rw[G4 e,G4 (h1.symm.trans e)];exact⟨h1,ry⟩
  ·rw[GZ e,GZ (λz=>e (h1.trans z))];exact⟨h1,h2⟩
theorem KV.put{kvs:List (κ×V)}{vs:List (κ×Value)}(r:KV kvs vs)(k:κ){y:V}{u:Value}(ry:RelV y u):KV (putK kvs k y) (stored vs k u):=by
 unfold putK stored;rw[r.any k];by_cases e:(vs.any λkv=>decide (kv.1=k))=true
 ·rw[G4 e,G4 e];exact r.repl k ry
 ·rw[GZ e,GZ e];exact Paired.snoc r ⟨rfl,ry⟩
theorem KV.keys{kvs:List (κ×V)}{vs:List (κ×Value)}(r:KV kvs vs):kvs.map (·.1)=vs.map (·.1):=by
 unfold KV at r
 induction r with
 |nil=>rfl
 |cons h t ih=>rw[Di,Di,ih,h.1]
theorem KV.length{kvs:List (κ×V)}{vs:List (κ×Value)}(r:KV kvs vs):kvs.length=vs.length:=Paired.length r
end
theorem q4l(r:RelV (kV k) u):(qV P w).is k u=true:=by
 cases k with
 |inl i=>obtain⟨t,e⟩:=(show ∃t,u=Value.int i t from r);subst e;exact XM P w i t
 |inr x=>obtain⟨t,e⟩:=(show ∃t,u=Value.str x t from r);subst e;exact xJ P w x t
 |non=>cases(show u=Value.none from r);rfl
theorem Zp:∀{ks:List Key}{us:List Value},Vals (ks.map kV) us->ItemsAre (qV P w) ks us
 | [],_,r=>by rw[D1]at r;cases r;exact .nil
 |k::ks,_,r=>by
  rw[Di]at r;cases r with
  |cons h t=>exact .cons (q4l h) (Zp t)
noncomputable abbrev KT(H:Hp):List (List Key×V)->List (List Key×Addr×Value)->Prop:=Paired λp q=>p.1=q.1/\H q.2.1=some (.tup (p.1.map kV))/\RelV p.2 q.2.2
theorem KT.val(r:KT H kvs xs)(k:List Key):RelO (valV kvs k) ((atKey xs k).map (·.2)):=by
 induction r with
 |nil=>exact True.intro
 | @cons p q ps qs h t ih=>
  obtain⟨h1,_,h2⟩:=h;by_cases e:p.1=k
  ·have e':q.1=k:=h1.symm.trans e
   have b:atKey (q::qs) k=some q.2:=by simp[atKey,DN,e']
   rw[Jh e,b];exact h2
  ·have e':¬q.1=k:=λz=>e (h1.trans z)
   have b:atKey (q::qs) k=atKey qs k:=by simp[atKey,DN,e']
   rw[Ji e,b];exact ih
theorem q5d(ok:HOk P w H h)(e:Rd H a u):ObjOk P w H h a u:=e.ok ok
theorem q0G(ok:HOk P w H h)(e:Rd H a (.dK kvs)):kvs.length<=sizeLine/\(a==sysModules)=false/\∃vs,KV kvs vs/\h.DictOf (qV P w) a vs :=
 show ObjOk P w H h a (.dK kvs)from q5d ok e
theorem q7a(ok:HOk P w H h)(e:H a=some (.dK kvs)):kvs.length<=sizeLine/\(a==sysModules)=false/\∃vs,KV kvs vs/\h.DictOf (qV P w) a vs:=q0G ok (.inl e)
theorem q2o(ok:HOk P w H h)(e:H a=some (.tup (ks.map kV))):(tupleKind (qV P w)).is h ks a:=by
 obtain⟨_,its,r,o,h1,h2,n,h3⟩:=(show ObjOk P w H h a (.tup (ks.map kV))from ok a _ e);exact⟨o,its.toArray,n,h1,h2,h3,by simpa using Zp r⟩
theorem q5P(ok:HOk P w H h)(e:Rd H a (.dT kvs)):kvs.length<=sizeLine/\(a==sysModules)=false /\
  ∃xs,KT H kvs xs/\h.DictOfH (tupleKind (qV P w)) a xs:=by
 obtain⟨z,y,xs,r,o,es,ep,h1,h2,h3,h4,h5⟩:=(show ObjOk P w H h a (.dT kvs)from q5d ok e);refine⟨z,y,xs,r,o,es,ep,h1,h2,h3,h4,λx hx=>?_,h5⟩;have all:∀{l:List (List Key×V)}{m:List (List Key×Addr×Value)},KT H l m->∀x∈m,(tupleKind (qV P w)).is h x.1 x.2.1:=by
  intro l m q
  induction q with
  |nil=>intro x hx;exact nomatch hx
  | @cons p q ps qs hq t ih=>
   intro x hx;rcases Da.mp hx with e|hx
   ·subst e
    exact q2o ok (by rw[<-hq.1];exact hq.2.1)
   ·exact ih x hx
 exact all r x hx
noncomputable def DGet(H:Hp)(a:Addr)(y:V)(r:Option V):Prop :=
 (∃kvs k,Rd H a (.dK kvs)/\y=kV k/\r=valV kvs k)\/∃kvs k b,Rd H a (.dT kvs)/\y=.ref b/\H b=some (.tup (k.map kV))/\r=valV kvs k
noncomputable def DPut(H:Hp)(a:Addr)(y v:V)(H':Hp):Prop :=
 (∃kvs k,H a=some (.dK kvs)/\y=kV k/\kvs.length<sizeLine/\H'=upd H a (.dK (putK kvs k v))) \/
 ∃kvs k b,H a=some (.dT kvs)/\y=.ref b/\H b=some (.tup (k.map kV))/\kvs.length<sizeLine/\H'=upd H a (.dT (putK kvs k v))
theorem DGet.k{k:Key}(e:H a=some (.dK kvs)):DGet H a (kV k) (valV kvs k):=.inl ⟨kvs,k,.inl e,rfl,rfl⟩
theorem DGet.t{k:List Key}(e:H a=some (.dT kvs))(eb:H b=some (.tup (k.map kV))):DGet H a (.ref b) (valV kvs k):=.inr ⟨kvs,k,b,.inl e,rfl,eb,rfl⟩
theorem DPut.k{k:Key}(e:H a=some (.dK kvs))(hl:kvs.length<sizeLine):DPut H a (kV k) v (upd H a (.dK (putK kvs k v))):=.inl ⟨kvs,k,e,rfl,hl,rfl⟩
theorem DPut.t{k:List Key}(e:H a=some (.dT kvs))(eb:H b=some (.tup (k.map kV)))(hl:kvs.length<sizeLine):
  DPut H a (.ref b) v (upd H a (.dT (putK kvs k v))):=.inr ⟨kvs,k,b,e,rfl,eb,hl,rfl⟩
theorem Inv.big(I:Inv X a5 σ H s):sysModules<s.heap.objs.size:=by
 have h:mainGlobals<s.heap.objs.size:=(I.mod.glob.keeps I.bk).lt;exact Nat.lt_trans (by decide) h
theorem Gg(hu:A.units+1<cLine)(I:Inv X a5 σ H s)(g:DGet H a y (some v))(ry:RelV y u)(h:∀w' s',Inv X a5 σ H s'->RelV v w'->Q w' s'):
  wpAny (model X.prog X.w) A (getItem (.ref a) u) Q E s:=by
 rcases g with⟨kvs,k,e,ey,l⟩|⟨kvs,k,b,e,ey,eb,l⟩
 ·subst ey
  obtain⟨z,hd,vs,dj,dd⟩:=q0G I.hok e;obtain⟨w',hw,dg⟩:=RelO.some_of (v:=v) (o:=valueAt vs k) (by rw[l];exact dj.val k);exact wpAny_getItem_of (q4l ry) dd.mapOf hw (h w' _ (I.tok _) dg)
 ·subst ey
  cases(show u=Value.ref b from ry);obtain⟨z,hd,xs,dj,dd⟩:=q5P I.hok e;obtain⟨w',hw,dg⟩:=RelO.some_of (v:=v) (o:=(atKey xs k).map (·.2)) (by rw[l];exact dj.val k);obtain⟨p,hp,gA⟩:=DQ.mp hw;refine wpAny_getItem_heap (tupleKind_room_in1 hu) (q2o I.hok eb) dd hp ?_;rw[gA];exact h w' _ (I.tok _) dg
theorem q31(I:Inv X a5 σ H s)(mu:Mut (H a))(hs:Heap.SameBut a s.heap h')(he:∃q,h'.get? a=some q)(new:ObjOk X.prog X.w (upd H a ob) h' a ob):
  Inv X a5 σ (upd H a ob) { s with heap:=h',toks:=t' } :=
 I.write (x:=a) (e:=a) mu (.inl rfl) (λb q hb z=>(hs.2 b hb).trans z) he new
theorem q4E(z:kvs.length<=sizeLine)(hd:(a==sysModules)=false)(dj:KV kvs vs)(dd:h'.DictOf (qV P w) a vs):
  ObjOk P w H' h' a (.dK kvs):=⟨z,hd,vs,dj,dd⟩
noncomputable def NoSl(i:Expr):Prop:=∀ov iv,subscripted i false ov iv=operate [ov,iv] (getItem ov iv)
theorem q4v{prog:Program}{w:World}{A:Around}{E:Value->Shared->Prop}{s:Shared}{env:Env}{value slice:Expr}{pos:Pos}{T id:String}{Q:Value->Shared->Prop}(hl:typeLookup (.type T) "__getitem__" = pure (some (.builtin id)))(hs:NoSl slice)(h:wpAny (model prog w) A (eval value env) (λo ag=>wpAny (model prog w) A (eval slice env) (λi bz=>bz.TypeIs o T/\wpAny (model prog w) A (getItem o i) Q E bz) E ag) E s):
  wpAny (model prog w) A (eval (.Subscript value slice pos) env) Q E s:=by
 refine Subscript_ (GW h (λo ag cM=>GW cM (λi bz cN=>?_) λ_a _a x=>x) λ_a _a x=>x);obtain⟨hT,cN⟩:=cN;unfold subscriptTail;refine GU ?_;rw[getitemInPython_of_ne hT.not_modules];refine GU (Ux hT hl ?_);have fin:wpAny (model prog w) A (subscripted slice false o i) (λr dA=>wpAny (model prog w) A (letTemporaryGo value o r >>= λ_a=>pure r) Q E dA) E bz:=by
  rw[hs o i];exact wpAny_operating (GW cN (λr dA fe=>GU (wpAny_letTemporaryGo (GV fe))) λ_a _a x=>x)
 first
  |exact GV (GU fin)
  |exact GU (GV (GU fin))
  |exact GU fin
theorem X5(I:Inv X a5 σ H s)(g:DGet H a y o):s.TypeIs (.ref a) "dict" := by
 rcases g with⟨kvs,k,e,_,_⟩|⟨kvs,k,b,e,_,_,_⟩
 ·obtain⟨_,_,vs,_,dd⟩:=q0G I.hok e
  exact dd.typeIs
 ·obtain⟨_,_,xs,_,dd⟩:=q5P I.hok e
  exact dd.typeIs
noncomputable def q5g(td ty:TE):TE:=λσ H Q=>td σ H λx H1=>ty σ H1 λy H2=>∃a v,x=.ref a/\DGet H2 a y (some v)/\Q v H2
theorem q1A(h:Heap)(hb:sysModules<h.objs.size):ObjOk P w H (h.push { cls:=.type "dict", data:=.dict #[] }) h.objs.size (.dK []):=
 ⟨Du _,beq_eq_false_iff_ne.mpr (Ne.symm (De hb)), [],.nil,Heap.DictOf.new h⟩
noncomputable def Jn:List (TE×TE)->St->Hp->(List (V×V)->Hp->Prop)->Prop
 | [],_,H,Q=>Q [] H
 | (tk,tv)::r,σ,H,Q=>tk σ H λx H1=>tv σ H1 λy H2=>Jn r σ H2 λps H3=>Q ((x,y)::ps) H3
noncomputable abbrev VV:List (V×V)->List (Value×Value)->Prop:=Paired λp q=>RelV p.1 q.1/\RelV p.2 q.2
noncomputable def PPs(X:Cx)(pos:Pos)(keys:List (Option Expr))(bC:List Expr)(dB:List (TE×TE)):Prop :=
 ∀(a5:List (Addr×Obj))(s:Shared)(σ:St)(H:Hp)(Q:List (V×V)->Hp->Prop),Inv X a5 σ H s->Jn dB σ H Q ->
  wpAny (model X.prog X.w) X.A (evalPairs (pairTrees keys bC X.env pos)) (λvs s'=>∃ps H',Inv X a5 σ H' s'/\VV ps vs/\Q ps H') X.xe s
theorem q36:PPs X pos [] [] []:=λa5 s σ H Q I h=>pairTrees_nil_walk ⟨[],H,I,.nil,h⟩
noncomputable def kN(kvs more:List (Key×V)):List (Key×V):=more.foldl (λa9 kv=>putK a9 kv.1 kv.2) kvs
theorem KV.merge:∀{more:List (Key×V)}{rs:List (Key×Value)}{kvs:List (Key×V)}{vs:List (Key×Value)},KV more rs->KV kvs vs->KV (kN kvs more) (merged vs rs):=by
 intro more rs kvs vs r;unfold KV at r
 induction r generalizing kvs vs with
 |nil=>intro q;exact q
 | @cons p q ps qs h t ih=>
  intro r0;have e:KV (putK kvs p.1 p.2) (stored vs q.1 q.2):=by
   have:=r0.put p.1 h.2;rw[<-h.1];exact this
  exact ih e
theorem xY:∀(more kvs:List (Key×V)),(kN kvs more).length<=kvs.length+more.length
 | [],kvs=>by show kvs.length<=kvs.length+0;lia
 |p::r,kvs=>by
  have h1:=xY r (putK kvs p.1 p.2);have h2:=XR kvs p.1 p.2;show(kN (putK kvs p.1 p.2) r).length<=_;rw[U8];lia
theorem QP:∀{kvs:List (Key×V)}{ws:List (Value×Value)},VV (kvs.map λkv=>(kV kv.1,kv.2)) ws->∃rs,Carries (qV P w) ws rs/\KV kvs rs
 | [],_,r=>by rw[D1]at r;cases r;exact⟨[],True.intro,.nil⟩
 |p::kvs,_,r=>by
  rw[Di]at r;cases r with
  | @cons a b as bs h t=>
   obtain⟨rs,c,q⟩:=QP (P:=P) (w:=w) t;obtain⟨b1,b2⟩:=b;exact⟨(p.1,b2)::rs,⟨q4l h.1,rfl,c⟩,.cons ⟨rfl,h.2⟩ q⟩
noncomputable def q56(dB:List (TE×TE)):TE:=λσ H Q=>∀p,H p=none->Jn dB σ (upd H p (.dK [])) λps H2=>H2 p=some (.dK [])/\∃kvs:List (Key×V),ps=kvs.map (λkv=>(kV kv.1,kv.2))/\kvs.length<=15/\Q (.ref p) (upd H2 p (.dK (kN [] kvs)))
structure M1(X:Cx)(o:Expr)(m:Str)(aI:Pos)(e:Expr)(aG:Pos):Prop where
 base:attributeBase o m X.env (eval o X.env)=eval o X.env
 few:((backTo aG (starEach [e] X.env)).all (λx=> !x.1)&&(backToKw aG (keywordEach [] X.env)).all (λx=>x.1.isSome)
  && decide (([e]:List Expr).length+([]:List Keyword).length+(if([]:List Keyword).isEmpty then 0 else 1)<30))=true
 line:(aI.endLine==aG.line)=true
 trees:backTo aG (starEach [e] X.env)=[(false,eval e X.env)]
structure M2(X:Cx)(o:Expr)(m:Str)(aI:Pos)(e f:Expr)(aG:Pos):Prop where
 base:attributeBase o m X.env (eval o X.env)=eval o X.env
 few:((backTo aG (starEach [e,f] X.env)).all (λx=> !x.1)&&(backToKw aG (keywordEach [] X.env)).all (λx=>x.1.isSome)
  && decide (([e,f]:List Expr).length+([]:List Keyword).length+(if([]:List Keyword).isEmpty then 0 else 1)<30))=true
 line:(aI.endLine==aG.line)=true
 trees:backTo aG (starEach [e,f] X.env)=[(false,eval e X.env),(false,eval f X.env)]
noncomputable def cxC(X:Cx)(scope:Scope)(cl:List (Str×Addr))(M:List Str)(fp:List Addr)(s:Shared)(H:Hp):Cx :=
 { X with N:=M,s₀:=s,H₀:=H,env:=compEnvC scope cl s.heap.objs.size X.env,outer:=X.stack,stack:=X.stack,ex:=fp,fn:=λ_a=>false,pn:=[],xe:=λ_a _a=>False }
noncomputable def zk(bs:List Bool)(n:Nat)(σ:St):St:=(bs.zip σ).map (λp=>if p.1 then p.2 else none)++List.replicate n none
noncomputable def ExtS(σ τ:St):Prop:=∀(i:Nat) v,σ[i]?=some (some v)->τ[i]?=some (some v)
theorem ExtS.refl(σ:St):ExtS σ σ:=λ_a _a h=>h
theorem ExtS.trans(h:ExtS a b)(k:ExtS b c):ExtS a c:=λi v e=>k i v (h i v e)
theorem ExtS.put(h:ExtS σ τ)(e:σ[i]?=some none):ExtS σ (τ.set i (some v)):=λj w q=>by
 by_cases hj:i=j
 ·subst hj;rw[e]at q;cases q
 ·rw[UW hj];exact h j w q
noncomputable def q3J(J:It)(a9:Addr)(g:TG)(tt:TT)(te:TE)(dC:St)(H1:Hp)(Q:VK):Prop:=∃W:Nat->Nat->Hp->Prop,(∃m,W 0 m (upd H1 a9 (.lst []))) /\
 ∀i m H2,W i m H2->(J.stop i H2/\Q (.ref a9) H2)\/(J.go i H2/\∃N:Hp->Prop,(∀H',N H'->∃m',m'<m/\W (i+1) m' H')/\∀x H3,J.yld i H2 x H3->g x dC H3 λc5 H4=>(ExtS dC c5/\c5.length=dC.length)/\tt c5 H4 λb H5=>
  if b=true then te c5 H5 λv H6=>∃ys,H6 a9=some (.lst ys)/\ys.length<sizeLine/\N (upd H6 a9 (.lst (ys++[v]))) else N H5)
noncomputable def xz(wi:TI)(bs:List Bool)(n:Nat)(g:TG)(tt:TT)(te:TE):TE:=λσ H Q=>wi σ H λJ H1=>∀a9,H1 a9=none->q3J J a9 g tt te (zk bs n σ) H1 Q
noncomputable def PTs(X:Cx)(c6:List Expr)(t:TT):Prop :=
 ∀(a5:List (Addr×Obj))(s:Shared)(σ:St)(H:Hp)(Q:Bool->Hp->Prop),Inv X a5 σ H s->t σ H Q ->
  wpAny (model X.prog X.w) X.A (forIn c6 true λc r=>if r=true then do let ok <-isTrue c X.env (eval c X.env);pure (ForInStep.yield ok) else pure (ForInStep.yield r)) (TP X a5 σ Q) X.xe s
noncomputable def tYes:TT:=λ_a H Q=>Q true H
theorem q3w:PTs X [] tYes:=λ_a _a _a H _a I h=>wpAny_tests_nil ⟨H,I,h⟩
structure CompS(X:Cx)(scope:Scope)(cl:List (Str×Addr))(bs:List Bool)(ext:List Str):Prop where
 clos:closureFor scope X.env=pure cl
 cell:∀y∈scope.names,y.2 ≠ .cell
 kind:scope.kind=.function
 names:∀y∈scope.names,y.2=.local->scope.names.lookup y.1=some .local
 sub:∀x c,cl.lookup x=some c->X.env.cells.lookup x=some c
 has:∀x,((relabel scope X.env).names.lookup x=some .cell\/(relabel scope X.env).names.lookup x=some .free)->∃c,cl.lookup x=some c
 len:bs.length=X.N.length
 vis:∀(i:Nat) x,X.N[i]?=some x->bs[i]?=some true->Vis (relabel scope X.env) x->(relabel scope X.env).names.lookup x≠some .local/\(X.env.kindOf x=some .cell\/X.env.kindOf x=some .free)/\Vis X.env.scope x
theorem Wy(h:bs.length=σ.length):(zk bs n σ).length=σ.length+n:=by
 unfold zk;simp[h]
set_option tactic.hygienic true in
theorem Wz(h:bs.length=σ.length)(e:(zk bs n σ)[i]?=some (some v)):i<σ.length/\bs[i]?=some true/\σ[i]?=some (some v):=by
 unfold zk at e;by_cases hi:i<σ.length
 ·rw[U1 (by simp[h];exact hi),Dh]at e
  have hb:i<bs.length:=by lia
  rw[UU (by simp[h];exact hi)]at e;simp only[List.getElem_zip,Option.map_some]at e;split at e
  ·rename_i l8
   refine⟨hi,?_,?_⟩
   ·rw[UU hb];rw[l8]
   ·rw[UU hi];exact e
  ·cases e
 ·rw[U9 (by simp[h];lia),D4]at e
  split at e<;>cases e
theorem q6e(S:CompS X scope cl bs ext)(I:Inv X a5 σ H s)(hf:∀b∈fp,FpOk X a5 H b)(l9:∀b∈fp,b<s.heap.objs.size):
  (cxC X scope cl (X.N++ext) fp s H).Ok where
 mod:=I.ok.mod
 kind:=S.kind
 glob:=I.ok.glob
 blt:=I.ok.blt
 above:=UZ _
 inj:=λx y c a b=>I.ok.inj x y c (S.sub x c a) (S.sub y c b)
 has:=S.has
 cab:=λx c h=>nomatch h
 hd:=I.ok.hd
 frames:=I.ok.frames
 stk:=.inl rfl
 exf:=λb hb=>⟨De (l9 b hb),λx c e=>(hf b hb).2.2.2.2.1 x c (S.sub x c e)⟩
 bs:=I.bs
 bsz:=Dm I.ok.bsz I.sz
 noex:=λb o e hb=>by
  rcases(hf b hb).2.2.2.1 with z|z
  ·exact I.ok.noex b o e z
  ·exact absurd (Dc (Dc (Heap.lt_size e) I.ok.bsz) z) (D3 _)
 exfs:=λb hb z=>by
  rcases Da.mp (I.stkSub b z)with q|q
  ·exact(hf b hb).2.1 q
  ·exact(hf b hb).2.2.1 q
 funs:=I.stack
 frf:=I.stkFree
theorem Gh(S:CompS X scope cl bs ext)(I:Inv X a5 σ H s)(hf:∀b∈fp,FpOk X a5 H b)(l9:∀b∈fp,b<s.heap.objs.size)(hn:h1.Ns s.heap.objs.size (λ_a=>none))(k:∀b o,s.heap.get? b=some o->h1.get? b=some o):
  Inv (cxC X scope cl (X.N++ext) fp s H) [] (zk bs ext.length σ) H { s with heap:=h1,toks:=t' }:=by
 have hl:bs.length=σ.length:=S.len.trans I.len.symm;have eJ:∀c v,s.heap.IsCell c v->h1.IsCell c v:=λc v ⟨o,ho,hd⟩=>⟨o,k c o ho,hd⟩;refine⟨q6e S I hf l9,rfl,I.bare,Un.kept k,⟨_,hn,λi x v e1 e2 e3=>?_⟩,λx c e=>?_,I.hok.fresh (UZ _),λx c e=>I.freeC x c (S.sub x c e),λp hp=>absurd hp (by simp[cxC]),I.hok.kept k,?_⟩
 ·obtain⟨hi,hb,hs⟩:=Wz hl e2
  have im:X.N[i]?=some x:=by
   have lc:(X.N++ext)[i]?=some x:=e1;rwa [U1 (by have:=I.len;lia)]at lc
  obtain⟨nl,kk,vv⟩:=S.vis i x im hb e3;obtain⟨m,_,lf⟩:=I.loc;obtain⟨u,r,l⟩:=lf i x v im hs vv;refine⟨u,r,.inr ⟨?_,?_⟩⟩
  ·rcases e3 with z|z|z
   ·exact absurd z nl
   ·exact .inl z
   ·exact .inr z
  ·have hc:=S.has x (by
    rcases e3 with z|z|z
    ·exact absurd z nl
    ·exact .inl z
    ·exact .inr z)
   obtain⟨c,hc⟩:=hc;rcases l with⟨kl,_⟩|⟨_,c',cH,c9⟩
   ·rcases kk with z|z<;>(rw[kl]at z;cases z)
   ·rw[S.sub x c hc]at cH
    cases cH;exact⟨c,hc,eJ c _ c9⟩
 ·obtain⟨v,z⟩:=I.cell x c (S.sub x c e)
  exact⟨v,eJ c v z⟩
 ·rw[Wy hl,I.len];show _=(X.N++ext).length;simp
theorem Gi(I:Inv X a5 σ H s)(hf:∀b∈fp,FpOk X a5 H b)(J:Inv (cxC X scope cl (X.N++ext) fp s H) cV ah H' s')(sb:Heap.SameBut s.heap.objs.size s'.heap h'):Inv X a5 σ H' { s' with heap:=h' }:=by
 have B:Un (frs X.stack) fp H H' s.heap s'.heap:=J.base;have nC:∀b o,s.heap.get? b=some o->b≠s.heap.objs.size:=λb o e=>De (Heap.lt_size e);refine I.call' (ch:=fp) (s':={ s' with heap:=h' }) J.os ⟨λb o e n hb hx=>?_,λb o e n hb hx=>?_,λb o e n hx=>B.free b o e n hx,λb o e hx=>?_,B.tups,B.frzs,B.tbls⟩ ?_ J.bare λb hb=>⟨(hf b hb).2.2.2.1,(hf b hb).2.1,(hf b hb).2.2.2.2.1,(hf b hb).2.2.2.2.2⟩
 ·exact sb.extBut b o (nC b o e) (B.keep b o e n hb hx)
 ·obtain⟨sl,q⟩:=B.slot b o e n hb hx
  exact⟨sl,sb.extBut b _ (nC b o e) q⟩
 ·obtain⟨o',q⟩:=B.there b o e hx
  exact⟨o',sb.extBut b o' (nC b o e) q⟩
 ·intro a o e
  have fr:H' s.heap.objs.size=none:=J.free;refine(J.hok a o e).stay (λb u hb q=>sb.extBut b u ?_ q) (λ_a q=>q) λ_a _a q=>q;rcases hb with z|z
  ·subst z;intro z;rw[z,fr]at e;cases e
  ·intro z2;rw[z2,fr]at z;cases z
theorem JY(S:CompS X scope cl bs ext)(hc:CalP cm X)(hi:PIC cm X tg az wi)(hg:∀fp s H,PG (cxC X scope cl (X.N++ext) fp s H) tg g)(ht:∀fp s H,PTs (cxC X scope cl (X.N++ext) fp s H) c6 tt)(he:∀fp s H,PE (cxC X scope cl (X.N++ext) fp s H) elt te)(hs:∀x,foldedSetIterable az X.env x=pure x)(I:Inv X a5 σ H s)(h:xz wi bs ext.length g tt te σ H Q)(ep:Pos)(ff:∀(a9:Addr)(s2:Shared)(H2:Hp)(fp:List Addr)(ah:St)(H':Hp)(s':Shared),Inv X a5 σ H2 s2->(∀b∈fp,FpOk X a5 H2 b)->Inv (cxC X scope cl (X.N++ext) fp s2 H2) [] ah H' s'->Q (.ref a9) H' ->
   compPost (model X.prog X.w) X.A X.xe use RR (.ref a9) s2.heap.objs.size (.ok .next) s'):
  wpAny (model X.prog X.w) X.A (comprehension (.ListComp elt [⟨tg,az,c6,0⟩] scope pos) scope X.env ep (newList []) false (eval az X.env) use) RR X.xe s:=by
 refine wpAny_comprehension_free (use:=use) rfl hs S.clos S.kind S.names (thn (hi a5 s σ H _ I h) λv s1 h1=>thn h1 λiP s2 h2=>?_);obtain⟨it,fp,tn,J,H2,e,I2,T,fT,f2,hW⟩:=h2;subst e;refine wpAny_newList ?_ (by decide);have fV:H2 s2.heap.objs.size=none:=I2.hok.fresh (UZ _);obtain⟨W,⟨m0,w0⟩,eW⟩:=hW s2.heap.objs.size fV;have I3:=I2.lnew (its:=[]) (ys:=[]) (t':=s2.toks) .nil (Du _);generalize hs3:({ s2 with heap:=s2.heap.push { cls:=.type "list", data:=.seq ([]:List Value).toArray },toks:=s2.toks }:Shared)=s3 at I3;have lg:s3.heap.objs.size=s2.heap.objs.size+1:=by rw[<-hs3];exact Heap.size_push ..
 have k3:∀b o,s2.heap.get? b=some o->s3.heap.get? b=some o:=λb o e=>by rw[<-hs3];exact Heap.get?_push_of_some _ e
 have mO:∀b∈fp,b<s2.heap.objs.size:=λb hb=>by obtain⟨o,e,_⟩:=T.obj _ _ fT b hb;exact Heap.lt_size e
 have f3:∀b∈fp,FpOk X a5 (upd H2 s2.heap.objs.size (.lst [])) b:=λb hb=>⟨by rw[upd_ne (De (mO b hb))];exact(f2 b hb).1,(f2 b hb).2⟩;have mP:∀b∈fp,b<s3.heap.objs.size:=λb hb=>by rw[lg];exact RB (mO b hb)
 have ig:tn 0 s3.heap:=T.keep _ _ _ fT λb hb o e=>k3 b o e;refine wpAny_newFunctionEnv S.cell (by intro y hy;simp at hy) (λh4 lh lj=>?_) S.kind;have k4:∀b o,s3.heap.get? b=some o->h4.get? b=some o:=λb o e=>lj.extBut b o (De (Heap.lt_size e)) (Heap.get?_push_of_some _ e);have I4:=Gh (ext:=ext) (t':=s3.toks+([]:List (Str×Value)).length) S I3 f3 mP (h1:=h4) lh k4;have om:tn 0 h4:=T.keep _ _ _ ig λb hb o e=>k4 b o e;generalize hs4:({ s3 with heap:=h4,toks:=s3.toks+([]:List (Str×Value)).length }:Shared)=s4 at I4 ⊢;have gB:tn 0 s4.heap:=by rw[<-hs4];exact om
 -- the block
 generalize hY:cxC X scope cl (X.N++ext) fp s3 (upd H2 s2.heap.objs.size (.lst []))=Y at I4;have lm:∀{H':Hp},(∀b∈fp,H' b=none)->∀b∈fp,FpOk Y [] H' b:=λhn b hb=>by
  subst hY;refine⟨hn b hb,De (mP b hb),λz=>?_,.inl hb,λx c e=>(f3 b hb).2.2.2.2.1 x c (S.sub x c e),λp hp=>absurd hp (by simp[cxC])⟩;rcases Da.mp (I3.stkSub b z)with q|q
  ·exact(f3 b hb).2.1 q
  ·exact(f3 b hb).2.2.1 q
 have on:PG Y tg g:=by subst hY;exact hg _ _ _
 have oq:PTs Y c6 tt:=by subst hY;exact ht _ _ _
 have ot:PE Y elt te:=by subst hY;exact he _ _ _
 have mQ:CalP cm Y:=by subst hY;cases cm<;>exact hc
 have ou:Y.prog=X.prog/\Y.w=X.w/\Y.K=X.K/\Y.A=X.A/\Y.env=compEnvC scope cl s3.heap.objs.size X.env/\Y.xe=λ_a _a=>False:=by subst hY;exact⟨rfl,rfl,rfl,rfl,rfl,rfl⟩
 obtain⟨e1,e2,e3,e4,e5,e6⟩:=ou;have never:∀{α:Type}{t:Sem α}{Q:α->Shared->Prop}{s:Shared}{E:Value->Shared->Prop},wpAny (model Y.prog Y.w) Y.A t Q Y.xe s->wpAny (model X.prog X.w) X.A t Q E s:=λ{α t Q s E} q=>by
  rw[e1,e2,e4,e6]at q;exact GW q (λ_a _a z=>z) λ_a _a z=>z.elim
 have eX:codeAny (model X.prog X.w) X.A (.compLoop (.ListComp elt [⟨tg,az,c6,0⟩] scope pos) 0 (.ref it) (.ref s2.heap.objs.size) (compEnvC scope cl s3.heap.objs.size X.env))
   (compPost (model X.prog X.w) X.A X.xe use RR (.ref s2.heap.objs.size) s3.heap.objs.size) s4:=by
  refine codeAny_loop rfl (λn s'=>∃i H',Inv Y [] (zk bs ext.length σ) H' s'/\tn i s'.heap/\(∀b∈fp,H' b=none)/\W i n H') (λn s5 hI=>?_) m0 ⟨0,_,I4,gB,λb hb=>(f3 b hb).1,w0⟩;obtain⟨i,H5,I5,fU,eZ,w5⟩:=hI;show wpAny _ X.A ((compTurn (.ListComp elt [⟨tg,az,c6,0⟩] scope pos) 0 (.ref it) (.ref s2.heap.objs.size) (compEnvC scope cl s3.heap.objs.size X.env)).onRaise (λx=>do noteFrame x (compEnvC scope cl s3.heap.objs.size X.env);theTreesLotGoes x)) _ _ s5;refine wpAny_noted ?_;rw[compTurn_list];rcases eW i n H5 w5 with⟨stop,qn⟩|⟨go,N,hN,step⟩
  ·refine GU (G8 (GU ?_))
   have hd:=T.done Y e1 e2 e3 mQ i [] s5 _ H5 (λ_a _a=>False) I5 (lm eZ) fU stop;rw[e4]at hd;refine GW hd (λr s6 ⟨hr,I6⟩=>?_) λ_a _a z=>z.elim;subst hr;subst hY;exact GV (ff s2.heap.objs.size s3 _ fp _ H5 s6 I3 f3 I6 qn)
  ·refine GU (G8 (GU ?_))
   have hd:=T.item Y e1 e2 e3 mQ i [] s5 _ H5 (λ_a _a=>False) I5 (lm eZ) fU go;rw[e4]at hd;refine GW hd (λr s6 ⟨u,hr,h6⟩=>?_) λ_a _a z=>z.elim;subst hr;refine GU (GW h6 (λ_ s7 ⟨x,H7,I7,r7,y7,lq,ow⟩=>?_) λ_a _a z=>z.elim);have oz:=I7.pinned (lm ow) (T.obj _ _ lq);rw[<-e5];refine GU (never (thn (on _ s7 _ H7 x u _ oz r7 (step x H7 y7)) λ_a s8 zz=>?_));obtain⟨io,H8,I8,⟨oA,oB⟩,q8⟩:=zz;refine GU (never (thn (oq _ s8 io H8 _ I8 q8) λb s9 zz=>?_));obtain⟨H9,I9,q9⟩:=zz;have again:∀{fX:Hp}{fY:Shared}{m':Nat},Inv Y ([]++Zg fp s7.heap) io fX fY->m'<n->W (i+1) m' fX->∃m,m<n/\∃i H',Inv Y [] (zk bs ext.length σ) H' fY/\tn i fY.heap/\(∀b∈fp,H' b=none)/\W i m H':=λ{fX fY m'} fh hm lr=>by
    refine⟨m',hm,i+1,fX,(fh.unpinned).weak oB.symm oA,T.keep _ _ _ lq λb hb o e=>(fh.pin (b,o) (Dd _ (Dd _ (xm hb e)))).1,λb hb=>?_,lr⟩;obtain⟨o,e,d⟩:=T.obj _ _ lq b hb;exact(fh.pin (b,o) (Dd _ (Dd _ (xm hb e)))).2.1
   cases b with
   |false=>
    rw[GZ U6]at q9;obtain⟨m',hm,w9⟩:=hN _ q9;exact GV ⟨by rw[e5],again I9 hm w9⟩
   |true=>
    rw[G4 rfl]at q9;refine GU (GU (never (thn (ot _ s9 io H9 _ I9 q9) λxv fY zz=>?_)));obtain⟨y,fX,fh,oC,ys,fj,hz,oG⟩:=zz;obtain⟨m',hm,lr⟩:=hN _ oG;refine GU (never (thn (xc (X:=Y) _ fY io fX (.ref s2.heap.objs.size) [y] (.ref s2.heap.objs.size) [xv] (λ_a H=>∃m',m'<n/\W (i+1) m' H) fh rfl (.cons oC .nil) ⟨_,ys,y,rfl,rfl,fj,hz,m',hm,lr⟩) λ_a s11 zz=>?_));obtain⟨_,H11,oH,_,m2,ip,oJ⟩:=zz;exact GV (GV ⟨by rw[e5],again oH ip oJ⟩)
 exact codeAny_compStart_list eX (T.self X.A 0 s4 _ _ gB eX)
theorem q3v(S:CompS X scope cl bs ext)(hc:CalP cm X)(hi:PIC cm X tg az wi)(hg:∀fp s H,PG (cxC X scope cl (X.N++ext) fp s H) tg g)(ht:∀fp s H,PTs (cxC X scope cl (X.N++ext) fp s H) c6 tt)(he:∀fp s H,PE (cxC X scope cl (X.N++ext) fp s H) elt te)(hs:∀x,foldedSetIterable az X.env x=pure x:=by intro _;rfl):PE X (.ListComp elt [⟨tg,az,c6,0⟩] scope pos) (xz wi bs ext.length g tt te):=by
 intro a5 s σ H Q I h;rw[eval_ListComp];refine JY (use:=none) S hc hi hg ht he hs I h _ λa9 s2 H2 fp ah H' s' I2 f2 J q=>?_;obtain⟨m,hn,_⟩:=J.loc;exact⟨m,hn,λh' sb=>⟨.ref a9,H',Gi I2 f2 J sb,rfl,q⟩⟩
theorem q32(S:CompS X scope cl bs ext)(hc:X.calm=true)(hN:X.N.Nodup)(gC:X.N[i]?=some x)(hx:X.env.scope.names.lookup x=some .local)(hi:PI X tg az wi)(hg:∀fp s H,PG (cxC X scope cl (X.N++ext) fp s H) tg g)(ht:∀fp s H,PTs (cxC X scope cl (X.N++ext) fp s H) c6 tt)(he:∀fp s H,PE (cxC X scope cl (X.N++ext) fp s H) elt te)(gD:swapsWith (.ListComp elt [⟨tg,az,c6,0⟩] scope pos) (some (.Name x pos')) spos.line X.env=pure true)(hs:∀x,foldedSetIterable az X.env x=pure x:=by intro _;rfl):PS X (.Assign [.Name x pos'] (.ListComp elt [⟨tg,az,c6,0⟩] scope pos) spos) (tAsg (xz wi bs ext.length g tt te) (qT i)):=by
 intro a5 s σ H D I h;rw[exec_Assign_Name_used _ _ _ _ gD];refine GU (G8 (GU ?_));show wpAny _ X.A (do let _ <-comprehension (.ListComp elt [⟨tg,az,c6,0⟩] scope pos) scope X.env _ (newList []) false (eval az X.env) (some (assign (.Name x pos') X.env))) _ _ s;refine GU (GW (JY (cm:=true) (use:=some (assign (.Name x pos') X.env)) (RR:=λ_a s'=>SP X a5 D .next s') S hc hi hg ht he hs I h _ λa9 s2 H2 fp ah H' s' I2 f2 J q=>?_) (λ_a s' hq=>GV (GV hq)) λ_a _a e=>e);have I5:Inv X a5 σ H' s':=by
  have:=Gi (h':=s'.heap) I2 f2 J (.refl ..);exact this
 show wpAny _ X.A (assign (.Name x pos') X.env (.ref a9)) _ _ s';obtain⟨m,hn,_⟩:=J.loc;have mR:s2.heap.objs.size≠X.env.locals:=Nat.ne_of_gt I2.lt;have nC:∀b o,s2.heap.get? b=some o->b≠s2.heap.objs.size:=λb o e=>De (Heap.lt_size e);have cC:∀y c,X.env.cells.lookup y=some c->c≠s2.heap.objs.size:=λy c e=>by
  obtain⟨v,o,ho,_⟩:=I2.cell y c e;exact nC c o ho
 refine wpAny_assign_Name (V9 I5 hN gC (.inl hx) (v:=.ref a9) rfl (λs6 I6 k6=>?_) (.inr hx));obtain⟨a,oM,ha⟩:=k6;have oN:a≠s2.heap.objs.size:=by
  rcases ha with z|z
  ·rw[z];exact mR.symm
  ·exact cC x a z
 refine⟨m,hn.sameBut oM oN.symm,λh' sb=>?_⟩;refine⟨_,H',I6.turned (t':=s6.toks) (it:=s2.heap.objs.size) (λb o hb e=>sb.extBut b o hb e) ?_ mR (.inr (Dm I2.ok.above (Dk I2.lt))) cC λp hp=>?_,q⟩
 ·have fr:H' s2.heap.objs.size=none:=J.free
  exact fr
 ·exact nC p.1 p.2 (I2.pin p hp).1
theorem Gr(Pv:Nat->Hp->Prop)(h0:Pv 0 (upd H1 a9 (.lst [])))(hl:∀i H,i<=xs.length->Pv i H->SqL Ξ H a xs)(hs:∀i x H,xs[i]?=some x->Pv i H->g x dC H λc5 H4=>(ExtS dC c5/\c5.length=dC.length)/\tt c5 H4 λb H5=>
   if b=true then te c5 H5 λv H6=>∃ys,H6 a9=some (.lst ys)/\ys.length<sizeLine/\Pv (i+1) (upd H6 a9 (.lst (ys++[v]))) else Pv (i+1) H5)(hd:∀H,Pv xs.length H->Q (.ref a9) H):q3J (Itl Ξ a) a9 g tt te dC H1 Q:=by
 refine⟨λi m H=>m=xs.length-i/\i<=xs.length/\Pv i H,⟨xs.length,by simp,Du _,h0⟩,?_⟩;rintro i m H ⟨rfl,hi,p⟩;have q:=hl i H hi p;by_cases bQ:i<xs.length
 ·refine .inr ⟨⟨xs,xs[i],q,by simp[bQ]⟩,Pv (i+1),λH' p'=>⟨xs.length-(i+1),by lia,rfl,bQ,p'⟩,λx H' y=>?_⟩
  obtain⟨e,y⟩:=y;subst e;exact hs i x _ (y xs q) p
 ·have e:i=xs.length:=by lia
  subst e;exact .inl ⟨⟨xs,q,UZ _⟩,hd H p⟩
theorem KU{lo:Int}(Pv:Nat->Hp->Prop)(h0:Pv 0 (upd H1 a9 (.lst [])))(hs:∀(i:Nat) H,i<n->Pv i H->g (.int (lo+i)) dC H λc5 H4=>(ExtS dC c5/\c5.length=dC.length)/\tt c5 H4 λb H5=>
   if b=true then te c5 H5 λv H6=>∃ys,H6 a9=some (.lst ys)/\ys.length<sizeLine/\Pv (i+1) (upd H6 a9 (.lst (ys++[v]))) else Pv (i+1) H5)(hd:∀H,Pv n H->Q (.ref a9) H):q3J (Itr lo n) a9 g tt te dC H1 Q:=by
 refine⟨λi m H=>m=n-i/\i<=n/\Pv i H,⟨n,by simp,Du _,h0⟩,?_⟩;rintro i m H ⟨rfl,hi,p⟩;by_cases bQ:i<n
 ·refine .inr ⟨bQ,Pv (i+1),λH' p'=>⟨n-(i+1),by lia,rfl,bQ,p'⟩,λx H' y=>?_⟩
  obtain⟨e,y⟩:=y;subst e y;exact hs i _ bQ p
 ·have e:i=n:=by lia
  subst e;exact .inl ⟨UZ _,hd H p⟩
noncomputable def clOf(env:Env):List (Str×NameKind)->List (Str×Addr)->List (Str×Addr)
 | [],cs=>cs
 | (n,k)::r,cs=>clOf env r (if(k==NameKind.free)=true then(n,(env.cells.lookup n).getD 0)::cs else cs)
theorem q3a(scope:Scope)(h:∀p∈scope.names,p.2=.free->∃c,env.cells.lookup p.1=some c):closureFor scope env=pure (clOf env scope.names []):=by
 unfold closureFor;generalize([]:List (Str×Addr))=cs0;generalize scope.names=ns at h;have key:∀(ns:List (Str×NameKind))(cs:List (Str×Addr)),(∀p∈ns,p.2=.free->∃c,env.cells.lookup p.1=some c) ->
   (forIn ns cs λ(x:Str×NameKind) (r:List (Str×Addr))=>(match x with|(name,kind)=>if(kind==NameKind.free)=true then do let c <-cellOf env name;pure (ForInStep.yield ((name,c)::r)) else pure (ForInStep.yield r):Sem (ForInStep (List (Str×Addr)))))=pure (clOf env ns cs):=by
  intro ns
  induction ns with
  |nil=>intro cs _;rfl
  |cons p r ih=>
   intro cs hp;obtain⟨n,k⟩:=p;rw[Rs];by_cases hk:(k==NameKind.free)=true
   ·obtain⟨c,hc⟩:=hp (n,k) DB (by simpa using hk)
    have c9:cellOf env n=pure c:=by unfold cellOf;rw[hc]
    simp only[hk,Uw,c9,pure_bind];rw[ih _ λq hq=>hp q (Dn _ hq)];have cH:List.lookup n env.cells=some c:=hc;simp[clOf,hk,cH]
   ·simp only[hk,Ds,Uk,pure_bind]
    rw[ih _ λq hq=>hp q (Dn _ hq)];simp[clOf,hk]
 have:=key ns cs0 h;rw[show(do
   let mut cs:=cs0
   for (name,kind) in ns do
    if kind == .free then cs:=(name, <-cellOf env name)::cs
   return cs:Sem (List (Str×Addr)))=(forIn ns cs0 λ(x:Str×NameKind) (r:List (Str×Addr))=>(match x with|(name,kind)=>if(kind==NameKind.free)=true then do let c <-cellOf env name;pure (ForInStep.yield ((name,c)::r)) else pure (ForInStep.yield r):Sem (ForInStep (List (Str×Addr))))) >>= pure from rfl]
 rw[this,pure_bind]
set_option tactic.hygienic true in
theorem JZ:∀(ns:List (Str×NameKind))(cs:List (Str×Addr)),(∀p∈ns,p.2=.free->∃c,env.cells.lookup p.1=some c)->(∀x c,cs.lookup x=some c->env.cells.lookup x=some c)->∀x c,(clOf env ns cs).lookup x=some c->env.cells.lookup x=some c
 | [],cs,_,h,x,c,e=>h x c e
 | (n,k)::r,cs,hp,h,x,c,e=>by
  refine JZ r _ (λq hq=>hp q (Dn _ hq)) (λy d e'=>?_) x c e;split at e'
  ·rename_i hk
   obtain⟨c',hc⟩:=hp (n,k) DB (by simpa using hk);rw[Dj]at e';have cH:List.lookup n env.cells=some c':=hc;rw[cH]at e';split at e'
   ·rename_i hy
    have oO:y=n:=by simpa using hy
    subst oO;rw[<-e'];exact cH
   ·exact h y d e'
  ·exact h y d e'
theorem J0:∀(ns:List (Str×NameKind))(cs:List (Str×Addr))(x:Str),((x,NameKind.free)∈ns\/∃c,cs.lookup x=some c)->∃c,(clOf env ns cs).lookup x=some c
 | [],cs,x,h=>by
  rcases h with h|h
  ·cases h
  ·exact h
 | (n,k)::r,cs,x,h=>by
  refine J0 r _ x ?_;rcases h with h|⟨c,h⟩
  ·rcases Da.mp h with h|h
   ·injection h with h1 h2
    subst h1 h2;right;exact⟨_,by simp[Dj];rfl⟩
   ·exact .inl h
  ·right
   split
   ·rw[Dj]
    split
    ·exact⟨_,rfl⟩
    ·exact⟨c,h⟩
   ·exact⟨c,h⟩
noncomputable def jw(scope:Scope)(env:Env)(N:List Str)(bs:List Bool):Bool :=
 scope.names.all (λp=>p.2 != .cell)&&(scope.kind == .function)&&scope.names.all (λp=>p.2 != .local||scope.names.lookup p.1==some .local)&&(bs.length==N.length)
  && scope.names.all (λp=>p.2 != .free||(env.kindOf p.1==some .cell||env.kindOf p.1==some .free))&&(N.zip bs).all (λp=> !p.2||scope.names.lookup p.1==some .free)
set_option tactic.hygienic true in
theorem mem_of_lookup{β:Type}{x:Str}{b:β}:∀{l:List (Str×β)},l.lookup x=some b->(x,b)∈l
 | [],h=>by simp at h
 | (y,c)::r,h=>by
  rw[Dj]at h;split at h
  ·rename_i hy
   have:x=y:=by simpa using hy
   subst this;cases h;exact DB
  ·exact Dn _ (mem_of_lookup h)
theorem vN{env:Env}:∀{names:List (Str×NameKind)}{x:Str}{k:NameKind},
  (names.map λ(n,k)=>if(k==NameKind.free&&env.scope.kind == .function&&env.kindOf n==some .cell) then(n,NameKind.cell) else(n,k)).lookup x=some k->names.lookup x=some k\/(k=.cell/\names.lookup x=some .free)
 | [],_,_,h=>by simp at h
 | (n,k')::r,x,k,h=>by
  have ih:=@vN env r x k;have h':List.lookup x ((if(k'==NameKind.free&&env.scope.kind == .function&&env.kindOf n==some .cell)=true then(n,NameKind.cell) else(n,k'))::(r.map λ(n,k)=>if(k==NameKind.free&&env.scope.kind == .function&&env.kindOf n==some .cell) then(n,NameKind.cell) else(n,k)))=some k:=h;by_cases hc:(k'==NameKind.free&&env.scope.kind == .function&&env.kindOf n==some .cell)=true
  ·rw[G4 hc,Dj]at h'
   rw[Dj];have hf:k'=.free:=by
    cases k'<;>first|rfl|(exfalso;revert hc;simp)
   split at h'
   ·right
    injection h' with h'
    rw[hf];exact⟨h'.symm,rfl⟩
   ·exact ih h'
  ·rw[GZ hc,Dj]at h'
   rw[Dj];split at h'
   ·exact .inl h'
   ·exact ih h'
theorem CompS.of(I:Inv X a5 σ H s)(h:jw scope X.env X.N bs=true):CompS X scope (clOf X.env scope.names []) bs ext:=by
 unfold jw at h;simp only[Dy,Rh]at h;obtain⟨⟨⟨⟨⟨h1,h2⟩,h3⟩,h4⟩,h5⟩,h6⟩:=h;have hc:∀p∈scope.names,p.2=.free->∃c,X.env.cells.lookup p.1=some c:=λp hp hf=>by
  have:=h5 p hp;rw[hf]at this;refine I.ok.has p.1 ?_;simpa using this
 have fm:∀{x:Str},scope.names.lookup x≠some .cell:=λ{x} e=>by
  have:=h1 _ (mem_of_lookup e);simp at this
 refine⟨q3a scope hc,λy hy=>by simpa using h1 y hy,by simpa using h2,λy hy hl=>?_,λx c e=>JZ scope.names [] hc (λ_a _a z=>by simp at z) x c e,λx hx=>?_,by simpa using h4,λi x hN hb hv=>?_⟩
 ·have:=h3 y hy
  rw[hl]at this;simpa using this
 ·refine J0 scope.names [] x (.inl ?_)
  rcases hx with hx|hx
  ·rcases vN hx with z|⟨_,z⟩
   ·exact absurd z fm
   ·exact mem_of_lookup z
  ·rcases vN hx with z|⟨z,_⟩
   ·exact mem_of_lookup z
   ·cases z
 ·have hz:(x,true)∈X.N.zip bs:=by
   have:(X.N.zip bs)[i]?=some (x,true):=by
    rw[List.getElem?_zip_eq_some];exact⟨hN,hb⟩
   exact U0 this
  have hf:=h6 _ hz;have hf:scope.names.lookup x=some .free:=by simpa using hf
  have hk:=h5 _ (mem_of_lookup hf);have hk:X.env.kindOf x=some .cell\/X.env.kindOf x=some .free:=by simpa using hk
  refine⟨λz=>?_,hk,?_⟩
  ·rcases vN z with q|⟨q,_⟩
   ·rw[hf]at q;cases q
   ·cases q
  ·rcases hk with q|q
   ·exact .inr (.inl q)
   ·exact .inr (.inr q)
noncomputable abbrev cxB(X:Cx)(scope:Scope)(ext:List Str)(fp:List Addr)(s:Shared)(H:Hp):Cx:=cxC X scope (clOf X.env scope.names []) (X.N++ext) fp s H
theorem q7t(bs:List Bool)(ext:List Str)(hi:PI X tg az wi)(hg:∀fp s H,PG (cxB X scope ext fp s H) tg g)(ht:∀fp s H,PTs (cxB X scope ext fp s H) c6 tt)(he:∀fp s H,PE (cxB X scope ext fp s H) elt te)(hk:jw scope X.env X.N bs=true:=by rfl)(hc:X.calm=true:=by rfl)(hs:∀x,foldedSetIterable az X.env x=pure x:=by intro _;rfl):
  PE X (.ListComp elt [⟨tg,az,c6,0⟩] scope pos) (xz wi bs ext.length g tt te):=λa5 s σ H Q I h=>q3v (cm:=true) (CompS.of I hk) hc hi hg ht he hs a5 s σ H Q I h
theorem q7w(bs:List Bool)(ext:List Str)(hN:X.N.Nodup)(gC:X.N[i]?=some x)(hx:X.env.scope.names.lookup x=some .local)(hi:PI X tg az wi)(hg:∀fp s H,PG (cxB X scope ext fp s H) tg g)(ht:∀fp s H,PTs (cxB X scope ext fp s H) c6 tt)(he:∀fp s H,PE (cxB X scope ext fp s H) elt te)(hk:jw scope X.env X.N bs=true:=by rfl)(hc:X.calm=true:=by rfl)(gD:swapsWith (.ListComp elt [⟨tg,az,c6,0⟩] scope pos) (some (.Name x pos')) spos.line X.env=pure true:=by rfl)(hs:∀x,foldedSetIterable az X.env x=pure x:=by intro _;rfl):
  PS X (.Assign [.Name x pos'] (.ListComp elt [⟨tg,az,c6,0⟩] scope pos) spos) (tAsg (xz wi bs ext.length g tt te) (qT i)):=λa5 s σ H D I h=>q32 (CompS.of I hk) hc hN gC hx hi hg ht he gD hs a5 s σ H D I h
noncomputable def q4M(i j:Int):Prop:=0<j/\j.natAbs.log2<9000
theorem q7f(h:q4M i j):Builtin.divisionGoesByPylong i j=false:=PyProof.noPylong_of_log2 h.2
theorem Vp:OpR X (binaryOp .FloorDiv) (rI q4M λi j=>.int (i / j)):=opI λi j _a _a _a _a _a hc q=>by
 refine floordiv_int (by have:=hc.1;lia) ?_ (.inl (q7f hc));rw[Rv _ (by have:=hc.1;lia)];exact q
theorem rd_I:rI C g (.int i) (.int j) H Q=(C i j/\Q (g i j) H):=
 propext ⟨λzz=>by obtain⟨_,_,e1,e2,h⟩:=zz;cases e1;cases e2;exact h,λh=>⟨i,j,rfl,rfl,h⟩⟩
theorem q1y:rI0 g (.int i) (.int j) H Q=Q (g i j) H :=
 propext ⟨λzz=>by obtain⟨_,_,e1,e2,h⟩:=zz;cases e1;cases e2;exact h,λh=>⟨i,j,rfl,rfl,h⟩⟩
theorem rd_U:rU g (.int i) H Q=Q (g i) H :=
 propext ⟨λzz=>by obtain⟨_,e1,h⟩:=zz;cases e1;exact h,λh=>⟨i,rfl,h⟩⟩
theorem Vj:QZ t σ H R=t σ H λx H'=>∃k,x=.bl k/\R k H':=rfl
theorem q1G{R:Bool->Prop}:(∃k',V.bl k=.bl k'/\R k')=R k:=propext ⟨λzz=>by obtain⟨_,e,h⟩:=zz;cases e;exact h,λh=>⟨k,rfl,h⟩⟩
theorem q1u{R:Int->Prop}:(∃j,([V.int i]:List V)=[V.int j]/\R j)=R i:=propext ⟨λzz=>by obtain⟨_,e,h⟩:=zz;cases e;exact h,λh=>⟨i,rfl,h⟩⟩
theorem q0g{R:Int->Int->Prop}:(∃i j,([V.int a,V.int b]:List V)=[V.int i,V.int j]/\R i j)=R a b:=propext ⟨λzz=>by obtain⟨_,_,e,h⟩:=zz;cases e;exact h,λh=>⟨a,b,rfl,h⟩⟩
theorem q0P{R:Addr->List V->Prop}:(∃p ys,([V.ref a]:List V)=[V.ref p]/\R p ys)=∃ys,R a ys:=propext ⟨λzz=>by obtain⟨_,ys,e,h⟩:=zz;cases e;exact⟨ys,h⟩,λ⟨ys,h⟩=>⟨a,ys,rfl,h⟩⟩
theorem zK(hp:H p=none)(h:H x=some o):upd H p o' x=some o:=by rw[upd_ne (qU h hp)];exact h
theorem jX(hn:x≠p)(h:H x=some o):upd H p o' x=some o:=by rw[upd_ne hn];exact h
theorem VH(h:upd H p o' x=none):H x=none/\x≠p:=by
 have hx:x≠p:=λe=>by subst e;rw[upd_same]at h;cases h
 rw[upd_ne hx]at h;exact⟨h,hx⟩
theorem Same.upd{H:Hp}{H1:Hp}{p:Addr}{o:HO}(s:Same H H1)(h:H p=none):Same H (upd H1 p o):=λb o' e=>by
 rw[upd_ne (qU e h)];exact s b o' e
theorem ExtS.nl:ExtS [] []:=λ_a _a h=>h
theorem ExtS.no(h:ExtS a b):ExtS (none::a) (x::b):=λi v e=>by
 cases i with
 |zero=>simp at e
 |succ i=>simpa using h i v (by simpa using e)
theorem ExtS.sm(h:ExtS a b):ExtS (x::a) (x::b):=λi v e=>by
 cases i with
 |zero=>simpa using e
 |succ i=>simpa using h i v (by simpa using e)
structure Def(P:Program)(w:World)(Ξ:PySem.W.Frag)(mg:Str->Option Value)(base:Heap)(x:Str)(k:Nat)(ps:List Str)(sp:Sp):Prop where
 ex:∃(f:Addr)(fd:FuncData),mg x=some (.ref f)/\W.keepIn Ξ (.ref f)=true/\Binds Ξ fd ps []/\FnOk P w Ξ mg base CX0 k f fd ps sp
noncomputable def rIsi(Ξ:PySem.W.Frag):List V->Hp->VK->Prop:=λxs H Q=>∃x n t b,xs=[x,.ty n]/\TyOf Ξ H x (.type t)/\W.kitOne Ξ (.type t) (.type n)=some b/\Q (.bl b) H
theorem q1h:zJ X (.builtin "isinstance") (rIsi X.K):=by
 intro a5 s σ H xs us Q I r h;obtain⟨x,n,t,b,rfl,ty,e,q⟩:=h;obtain⟨u,v,rfl,ru,rv⟩:=vals2 r;obtain rfl:v=Value.type n:=rv;exact Zq I ru ty e λtk=>⟨.bl b,H,I.tok tk,rfl,q⟩
inductive DE(Ξ:PySem.W.Frag)(H:Hp):Nat->V->V->Bool->Prop
 |flat {n:Nat}{x y:V}:jU x=true->jU y=true->DE Ξ H n x y (eqV x y)
 |same {n:Nat}{a:Addr}:DE Ξ H n (.ref a) (.ref a) true
 |tup {n:Nat}{a b:Addr}{xs ys:List V}{e:Nat->Bool}:a≠b->SqT Ξ H a xs->SqT Ξ H b ys->(∀(j:Nat) x y,xs[j]?=some x->ys[j]?=some y->DE Ξ H n x y (e j))->DE Ξ H (n+1) (.ref a) (.ref b) ((List.range (min xs.length ys.length)).all e&&xs.length==ys.length)
 |lst {n:Nat}{a b:Addr}{xs ys:List V}{e:Nat->Bool}:a≠b->SqL Ξ H a xs->SqL Ξ H b ys->xs.length=ys.length->(∀(j:Nat) x y,xs[j]?=some x->ys[j]?=some y->DE Ξ H n x y (e j))->DE Ξ H (n+1) (.ref a) (.ref b) ((List.range xs.length).all e)
 |lstN {n:Nat}{a b:Addr}{xs ys:List V}:a≠b->SqL Ξ H a xs->SqL Ξ H b ys->xs.length≠ys.length->DE Ξ H (n+1) (.ref a) (.ref b) false
theorem xZ{A:Around}:A.in1.units=A.units+1:=rfl
theorem DE.eqAt(I:Inv X a5 σ H s)(d:DE X.K H n x y b):∀{A:Around}{u v:Value},A.units+n<cLine->RelV x u->RelV y v->SeqAt.EqAt A s u v b:=by
 induction d with
 |flat f g=>intro A u v _ rx ry;exact q2d rx ry f g
 |same=>
  intro A u v _ rx ry;obtain rfl:u=_:=rx;obtain rfl:v=_:=ry;exact SeqAt.EqAt.same _
 | @tup n a b xs ys e ne ha hb _ ih=>
  intro A u v hu rx ry;obtain rfl:u=Value.ref a:=rx;obtain rfl:v=Value.ref b:=ry;obtain⟨its,r1,p1,_⟩:=I.tuple ha;obtain⟨bS,r2,p2,_⟩:=I.tuple hb;have:=SeqAt.RcAt.tuples (A:=A) (e:=e) p1 p2 (by lia) λj h1 h2=>by
   have l1:j<xs.length:=by rw[r1.length];simpa using h1
   have l2:j<ys.length:=by rw[r2.length];simpa using h2
   obtain⟨u1,q1,s1⟩:=r1.get (UU l1);obtain⟨u2,q2,s2⟩:=r2.get (UU l2);have e1:its.toArray[j]=u1:=by
    have:=UR.mp q1;obtain⟨_,z⟩:=this;simpa using z
   have e2:bS.toArray[j]=u2:=by
    have:=UR.mp q2;obtain⟨_,z⟩:=this;simpa using z
   rw[e1,e2];exact ih j _ _ (UU l1) (UU l2) (by rw[xZ];lia) s1 s2
  rw[U5,U5, <-r1.length, <-r2.length]at this;exact .of_refs ne this
 | @lst n a b xs ys e ne ha hb hl _ ih=>
  intro A u v hu rx ry;obtain rfl:u=Value.ref a:=rx;obtain rfl:v=Value.ref b:=ry;obtain⟨its,r1,p1,_⟩:=I.list ha;obtain⟨bS,r2,p2,_⟩:=I.list hb;have:=SeqAt.RcAt.lists (A:=A) (e:=e) p1.isList p2.isList (by simp[<-r1.length, <-r2.length,hl]) (by lia) λj h1 h2=>by
   have l1:j<xs.length:=by rw[r1.length];simpa using h1
   have l2:j<ys.length:=by rw[r2.length];simpa using h2
   obtain⟨u1,q1,s1⟩:=r1.get (UU l1);obtain⟨u2,q2,s2⟩:=r2.get (UU l2);have e1:its.toArray[j]=u1:=by
    have:=UR.mp q1;obtain⟨_,z⟩:=this;simpa using z
   have e2:bS.toArray[j]=u2:=by
    have:=UR.mp q2;obtain⟨_,z⟩:=this;simpa using z
   rw[e1,e2];exact ih j _ _ (UU l1) (UU l2) (by rw[xZ];lia) s1 s2
  rw[U5, <-r1.length]at this;exact .of_refs ne this
 | @lstN n a b xs ys ne ha hb hl=>
  intro A u v hu rx ry;obtain rfl:u=Value.ref a:=rx;obtain rfl:v=Value.ref b:=ry;obtain⟨its,r1,p1,_⟩:=I.list ha;obtain⟨bS,r2,p2,_⟩:=I.list hb;exact .of_refs ne (SeqAt.RcAt.lists_lengths p1.isList p2.isList (by simp[<-r1.length, <-r2.length,hl]) (by lia))
structure Nms(mg:Str->Option Value):Prop where
 abs:mg "abs" = none
 len:mg "len" = none
 min:mg "min" = none
 max:mg "max" = none
 sum:mg "sum" = none
 sorted:mg "sorted" = none
 all:mg "all" = none
 any:mg "any" = none
 isinstance:mg "isinstance" = none
 range:mg "range" = none
 int:mg "int" = none
 list:mg "list" = none
 str:mg "str" = none
 bool:mg "bool" = none
 tuple:mg "tuple" = none
 zip:mg "zip" = none
 enumerate:mg "enumerate" = none
 dict:mg "dict" = none
theorem q5M:bootBuiltins "abs" = some (.builtin "abs"):=by decide+kernel
theorem Ql:bootBuiltins "len" = some (.builtin "len"):=by decide+kernel
theorem q7g:bootBuiltins "all" = some (.builtin "all"):=by decide+kernel
theorem qD:bootBuiltins "isinstance" = some (.builtin "isinstance"):=by decide+kernel
theorem VS:bootBuiltins "int" = some (.type "int"):=by decide+kernel
theorem jg:bootBuiltins "list" = some (.type "list"):=by decide+kernel
theorem q0e:bootBuiltins "str" = some (.type "str"):=by decide+kernel
theorem q2e:bootBuiltins "bool" = some (.type "bool"):=by decide+kernel
theorem VR:bootBuiltins "tuple" = some (.type "tuple"):=by decide+kernel
noncomputable def SameB(b:Addr)(H H':Hp):Prop:=∀x o,H x=some o->x≠b->H' x=some o
theorem SameB.trans(h:SameB b H H1)(k:SameB b H1 H2):SameB b H H2:=λx o e n=>k x o (h x o e n) n
theorem SameB.upd{b p:Addr}{H H1:Hp}{o:HO}(s:SameB b H H1)(h:H p=none\/p=b):SameB b H (upd H1 p o):=λx o' e n=>by
 have:x≠p:=by
  rcases h with h|h
  ·exact qU e h
  ·rw[h];exact n
 rw[upd_ne this];exact s x o' e n
noncomputable def q3i:List V->Hp->VK->Prop:=λvs H Q=>∃p ys,vs=[.ref p]/\H p=some (.lst ys)/\Q (.int ys.length) H
theorem zt:zJ X (.builtin "len") q3i:=by
 intro a5 s σ H xs us Q I r h;obtain⟨p,ys,e,h,q⟩:=h;exact jK a5 s σ H xs us Q I r ⟨p,ys,e,.inl (SqL.of h),q⟩
theorem WK(h:H p=some (.lst xs))(e:atI xs i=some v)(q:Q v H):rIxL Ξ (.ref p) (.int i) H Q:=⟨p,xs,i,v,rfl,rfl,SqL.of h,e,q⟩
theorem q6c(h:H p=some (.tup xs))(e:atI xs i=some v)(q:Q v H):rIxT Ξ (.ref p) (.int i) H Q:=⟨p,xs,i,v,rfl,rfl,SqT.of h,e,q⟩
theorem at0{α:Type}{x:α}{l:List α}:atI (x::l) 0=some x:=ze (j:=0) rfl
theorem at1{α:Type}{x y:α}{l:List α}:atI (x::y::l) 1=some y:=ze (j:=1) rfl
theorem q4k(h:H p=some (.lst xs))(e:ixN xs.length i=some j)(q:R (upd H p (.lst (xs.set j v)))):q3X (.ref p) (.int i) v H R:=⟨p,xs,i,j,rfl,rfl,h,e,q⟩
theorem W7(h:scal x y=true)(q:Q (.bl (decide (x=y))) H):rEq x y H Q:=⟨h,q⟩
theorem q7d(h:scal x y=true)(q:Q (.bl (!decide (x=y))) H):rNe x y H Q:=⟨h,q⟩
theorem q6v(h:H p=some (.lst xs))(q:Q (.int xs.length) H):q3i [.ref p] H Q:=⟨p,xs,rfl,h,q⟩
theorem JM(h:H p=some (.tup [x,y]))(q:R ((σ.set i (some x)).set j (some y)) H):gTup Ξ 2 (vk (qT i) (vk (qT j) gNil)) (.ref p) σ H R :=
 ⟨p,_,rfl,SqT.of h,rfl,_,_,rfl,_,_,rfl,rfl,q⟩
theorem JL(h:H p=some (.tup [x,y,z]))(q:R (((σ.set i (some x)).set j (some y)).set k (some z)) H):gTup Ξ 3 (vk (qT i) (vk (qT j) (vk (qT k) gNil))) (.ref p) σ H R :=
 ⟨p,_,rfl,SqT.of h,rfl,_,_,rfl,_,_,rfl,_,_,rfl,rfl,q⟩
theorem xp:(V.int i=V.int j)=(i=j):=propext ⟨λh=>by cases h;rfl,λh=>by rw[h]⟩
theorem xo:(V.str i=V.str j)=(i=j):=propext ⟨λh=>by cases h;rfl,λh=>by rw[h]⟩
theorem q7b(hN:X.N.Nodup)(hc:X.calm=true)(hi:X.N[i]?=some x)(hj:X.N[j]?=some y)(lx:Loc X.env.scope x)(ly:Loc X.env.scope y)(fx:X.fn x=true\/X.env.scope.names.lookup x=some .local)(fy:X.fn y=true\/X.env.scope.names.lookup y=some .local):
  PG X (.Tuple [.Name x px,.Name y py] kk pos) (gTup X.K 2 (vk (qT i) (vk (qT j) gNil))):=YW hc (xl (js hN hi lx fx) (xl (js hN hj ly fy) Xy))
theorem q6S(hN:X.N.Nodup)(hc:X.calm=true)(hi:X.N[i]?=some x)(hj:X.N[j]?=some y)(hk:X.N[k]?=some z)(lx:Loc X.env.scope x)(ly:Loc X.env.scope y)(lz:Loc X.env.scope z)(fx:X.fn x=true\/X.env.scope.names.lookup x=some .local)(fy:X.fn y=true\/X.env.scope.names.lookup y=some .local)(fz:X.fn z=true\/X.env.scope.names.lookup z=some .local):
  PG X (.Tuple [.Name x px,.Name y py,.Name z pz] kk pos) (gTup X.K 3 (vk (qT i) (vk (qT j) (vk (qT k) gNil)))):=YW hc (xl (js hN hi lx fx) (xl (js hN hj ly fy) (xl (js hN hk lz fz) Xy)))
theorem qf(h:X.K=Ξ):IxR X (rIxL Ξ):=h▸q4p
theorem qh(h:X.K=Ξ):IxR X (rIxT Ξ):=h▸q6j
theorem Q4(h:X.K=Ξ):SlR X (rSlL Ξ):=h▸q2Q
theorem z0(h:X.K=Ξ):OpR X (compareOp .In) (rIn Ξ false):=h▸Y2
theorem vp(h:X.K=Ξ):zJ X (.builtin "isinstance") (rIsi Ξ):=h▸q1h
noncomputable def tTru(Ξ:PySem.W.Frag)(ta:TE):TT:=λσ H Q=>ta σ H λx H'=>∃k,TruV Ξ x H' k/\Q k H'
noncomputable def q2l(x:V)(H:Hp)(k:Prop):Prop:=∃p xs,x=.ref p/\H p=some (.lst xs)/\k
theorem q7v(h:H p=some (.lst xs))(q:k):q2l (.ref p) H k:=⟨p,xs,rfl,h,q⟩
noncomputable def tLM(r:V->List V->Hp->VK->Prop)(to:TE)(t:TA):TE:=λσ H Q=>to σ H λx H1=>q2l x H1 (t σ H1 λvs H2=>r x vs H2 Q)
noncomputable def ForW(J:It)(g:TG)(tb:TS)(D:Ends)(σ:St)(H1:Hp):Prop:=∃W:Nat->Nat->St->Hp->Prop,(∃m,W 0 m σ H1)/\∀i m σ H,W i m σ H ->
 (J.stop i H/\D.nx σ H)\/(J.go i H/\∃N:St->Hp->Prop,(∀ah H',N ah H'->∃m',m'<m/\W (i+1) m' ah H')/\∀x H',J.yld i H x H'->g x σ H' λcF H2=>tb { D with nx:=N,ct:=N,bk:=D.nx } cF H2)
theorem Jr:tFor wi g tb D σ H=wi σ H λJ H1=>ForW J g tb D σ H1:=rfl
noncomputable def q1T(Ξ:PySem.W.Frag)(x:V)(H:Hp)(R:It->Hp->Prop):Prop:=∃a,x=.ref a/\(∃xs,SqL Ξ H a xs)/\R (Itl Ξ a) H
theorem j2:KM Ξ tl σ H R=tl σ H λx H1=>q1T Ξ x H1 R:=rfl
theorem q74(h:H p=some (.lst xs))(q:R (Itl Ξ p) H):q1T Ξ (.ref p) H R:=⟨p,rfl,⟨xs,SqL.of h⟩,q⟩
noncomputable def q27(vs:List V)(H:Hp)(R:It->Hp->Prop):Prop:=∃j:Int,vs=[.int j] /\ -(2^62)<=j/\j<2^62/\R (Itr 0 j.toNat) H
theorem jZ:WP ta σ H R=ta σ H λvs H1=>q27 vs H1 R:=rfl
theorem q7s(h1 : -(2^62)<=j)(h2:j<2^62)(q:R (Itr 0 j.toNat) H):q27 [.int j] H R:=⟨j,rfl,h1,h2,q⟩
theorem q0z{R:Int->Prop}:(∃i,V.int k=.int i/\R i)=R k:=propext ⟨λzz=>by obtain⟨_,e,h⟩:=zz;cases e;exact h,λh=>⟨k,rfl,h⟩⟩
theorem jH(ty:TyOf Ξ H x (.type t))(e:W.kitOne Ξ (.type t) (.type n)=some b)(q:Q (.bl b) H):rIsi Ξ [x,.ty n] H Q:=⟨x,n,t,b,rfl,ty,e,q⟩
noncomputable def rEqT(Ξ:PySem.W.Frag):R2:=λx y H Q=>∃a b xs ys e,x=.ref a/\y=.ref b/\SqT Ξ H a xs/\SqT Ξ H b ys/\(∀(j:Nat) x y,xs[j]?=some x->ys[j]?=some y->DE Ξ H 20 x y (e j))/\Q (.bl ((List.range (min xs.length ys.length)).all e&&xs.length==ys.length)) H
theorem q2T(hK:X.K=Ξ)(hu:X.A.units+64<cLine):OpR X (compareOp .Eq) (rEqT Ξ):=by
 subst hK;intro a5 s σ H x y v u Q I rx ry h;obtain⟨a,b,xs,ys,e,rfl,rfl,ha,hb,he,q⟩:=h;obtain rfl:v=Value.ref a:=rx;obtain rfl:u=Value.ref b:=ry;obtain⟨its,r1,p1,_⟩:=I.tuple ha;obtain⟨bS,r2,p2,_⟩:=I.tuple hb;refine SeqAt.eq_tupleAt (A:=X.A) (e:=e) p1 p2 (by lia) (λj h1 h2=>?_) ⟨.bl _,H,I,rfl,?_⟩
 ·have l1:j<xs.length:=by rw[r1.length];simpa using h1
  have l2:j<ys.length:=by rw[r2.length];simpa using h2
  obtain⟨u1,q1,s1⟩:=r1.get (UU l1);obtain⟨u2,q2,s2⟩:=r2.get (UU l2);have e1:its.toArray[j]=u1:=by
   obtain⟨_,z⟩:=UR.mp q1;simpa using z
  have e2:bS.toArray[j]=u2:=by
   obtain⟨_,z⟩:=UR.mp q2;simpa using z
  rw[e1,e2];exact(he j _ _ (UU l1) (UU l2)).eqAt I (by rw[xZ];lia) s1 s2
 ·rw[U5,U5, <-r1.length, <-r2.length]
  exact q
noncomputable def QJ:V->Bool
 |.int _=>true
 |.str _=>true
 |_=>false
noncomputable def q1v(Ξ:PySem.W.Frag):R2:=λx y H Q=>∃a xs,QJ x=true/\y=.ref a/\SqT Ξ H a xs/\Q (.bl false) H
noncomputable def q0J(Ξ:PySem.W.Frag):R2:=λx y H Q=>∃a xs,QJ y=true/\x=.ref a/\SqT Ξ H a xs/\Q (.bl false) H
theorem q1m(hK:X.K=Ξ)(hu:X.A.units+64<cLine):OpR X (compareOp .Eq) (q1v Ξ):=by
 subst hK;intro a5 s σ H x y v u Q I rx ry h;obtain⟨a,xs,hf,rfl,ha,q⟩:=h;obtain rfl:u=Value.ref a:=ry;obtain⟨its,r1,p1,_⟩:=I.tuple ha;cases x with
 |int i=>
  obtain⟨t,rfl⟩:=rx;exact SeqAt.RcAt.int_tuple i t p1 (by lia) _ _ _ _ ⟨.bl false,H,I,rfl,q⟩
 |str i=>
  obtain⟨t,rfl⟩:=rx;exact SeqAt.RcAt.str_tuple i t p1 (by lia) _ _ _ _ ⟨.bl false,H,I,rfl,q⟩
 |_=>exact absurd (show false=true from hf) U6
theorem q0o(hK:X.K=Ξ)(hu:X.A.units+64<cLine):OpR X (compareOp .Eq) (q0J Ξ):=by
 subst hK;intro a5 s σ H x y v u Q I rx ry h;obtain⟨a,xs,hf,rfl,ha,q⟩:=h;obtain rfl:v=Value.ref a:=rx;obtain⟨its,r1,p1,_⟩:=I.tuple ha;cases y with
 |int i=>
  obtain⟨t,rfl⟩:=ry;exact SeqAt.RcAt.tuple_int i t p1 (by lia) _ _ _ _ ⟨.bl false,H,I,rfl,q⟩
 |str i=>
  obtain⟨t,rfl⟩:=ry;exact SeqAt.RcAt.tuple_str i t p1 (by lia) _ _ _ _ ⟨.bl false,H,I,rfl,q⟩
 |_=>exact absurd (show false=true from hf) U6
theorem q2k(hK:X.K=Ξ)(hu:X.A.units+64<cLine):OpR X (compareOp .Eq) (λx y H Q=>rEq x y H Q\/rEqT Ξ x y H Q\/q1v Ξ x y H Q\/q0J Ξ x y H Q):=
 op_eq.or ((q2T hK hu).or ((q1m hK hu).or (q0o hK hu)))
noncomputable def q6R(Ξ:PySem.W.Frag):List V->Hp->VK->Prop:=λxs H Q=>∃(x:V)(p:Addr)(ns:List String)(t:String)(b:Bool),xs=[x,.ref p]/\H p=some (.tup (ns.map V.ty))/\TyOf Ξ H x (.type t)/\W.kitAny Ξ (.type t) (ns.map Value.type)=some b/\Q (.bl b) H
theorem K1:∀{ns:List String}{us:List Value},Vals (ns.map V.ty) us->us=ns.map Value.type
 | [],_,h=>by cases h;rfl
 |n::ns,_,h=>by
  cases h with
  |cons r t=>
   have:=K1 t;subst this;obtain rfl:=(show _=Value.type n from r);rfl
theorem ZM(hK:X.K=Ξ):zJ X (.builtin "isinstance") (q6R Ξ):=by
 subst hK;intro a5 s σ H xs us Q I r h;obtain⟨x,p,ns,t,b,rfl,hp,ty,e,q⟩:=h;obtain⟨u,v,rfl,ru,rv⟩:=vals2 r;obtain rfl:v=Value.ref p:=rv;obtain⟨_,its,r1,o,ho,hc,n,hd⟩:=(show ObjOk X.prog X.w H s.heap p (.tup (ns.map V.ty))from I.hok p _ hp);obtain rfl:=K1 r1;obtain⟨c,dd,dt,sl⟩:=o;simp only at hc hd;subst hc hd;have fin:∀tk,EP X a5 σ Q (.bool b) { s with toks:=tk }:=λtk=>⟨.bl b,H,I.tok tk,rfl,q⟩;cases ty with
 |non=>cases(show u=Value.none from ru);exact Dx W.kitx_none I.kIn True.intro ho e (λz=>nomatch z) fin
 |bl y=>cases(show u=Value.bool y from ru);exact Dx W.kitx_bool I.kIn True.intro ho e (λz=>nomatch z) fin
 |int i=>obtain⟨t,q'⟩:=(show ∃t,u=Value.int i t from ru);cases q';exact Dx W.kitx_int I.kIn True.intro ho e (λz=>nomatch z) fin
 |str y=>obtain⟨t,q'⟩:=(show ∃t,u=Value.str y t from ru);cases q';exact Dx W.kitx_str I.kIn True.intro ho e (λz=>nomatch z) fin
 |flt y=>obtain⟨t,q'⟩:=(show ∃t,u=Value.float y t from ru);cases q';exact Dx Bi I.kIn True.intro ho e (λz=>nomatch z) fin
 | @lst a xs ea=>
  cases(show u=Value.ref a from ru);obtain⟨_,_,n,_,h1⟩:=(show ObjOk X.prog X.w H s.heap a (.lst xs)from I.hok a _ ea);exact Dx Ra I.kIn ⟨_,h1,rfl⟩ ho e (λz=>nomatch z) fin
 | @frz a ob xs ea=>
  cases(show u=Value.ref a from ru);obtain⟨_,_,_,n,_,h1⟩:=(show ObjOk X.prog X.w H s.heap a (.frz ob (.lst xs))from I.hok a _ ea);exact Dx Ra I.kIn ⟨_,h1,rfl⟩ ho e (λz=>nomatch z) fin
 | @tup a xs ea=>
  cases(show u=Value.ref a from ru);obtain⟨_,_,_,o2,h1,h2,_⟩:=(show ObjOk X.prog X.w H s.heap a (.tup xs)from I.hok a _ ea);exact Dx Bj I.kIn ⟨o2,h1,h2⟩ ho e (λz=>nomatch z) fin
 | @dK a kvs ea=>
  cases(show u=Value.ref a from ru);obtain⟨_,_,vs,_,p2⟩:=(show ObjOk X.prog X.w H s.heap a (.dK kvs)from I.hok a _ ea);obtain⟨o2,es,ep,h1,h2,_⟩:=p2;exact Dx Rb I.kIn ⟨o2,h1,h2.1⟩ ho e (λz=>nomatch z) fin
 | @dT a kvs ea=>
  cases(show u=Value.ref a from ru);obtain⟨_,_,xs,_,o2,es,ep,h1,h2,_⟩:=(show ObjOk X.prog X.w H s.heap a (.dT kvs)from I.hok a _ ea);exact Dx Rb I.kIn ⟨o2,h1,h2.1⟩ ho e (λz=>nomatch z) fin
structure MDef(P:Program)(w:World)(Ξ:PySem.W.Frag)(mg:Str->Option Value)(base:Heap)(C:Addr)(m:Str)(k:Nat)(ps:List Str)(sp:Sp):Prop where
 ex:∃(f:Addr)(fd:FuncData),Meth Ξ C m f/\Binds Ξ fd ps []/\FnOk P w Ξ mg base CX0 k f fd ps sp
structure Tup3(Ξ:PySem.W.Frag)(mg:Str->Option Value)(nm:Str)(p:Addr)(x y z:Str):Prop where
 mg:mg nm=some (.ref p)
 lk:∃(a b c:Tok)(n:Nat)(sl:Array (Option Value)),Ξ.lookup p=some ⟨.type "tuple", none,.seq #[.str x a,.str y b,.str z c] n,sl⟩
theorem Tup3.ty{mg:Str->Option Value}(T:Tup3 Ξ mg nm p x y z)(H:Hp):tyV Ξ "tuple" (.ref p) H:=by
 obtain⟨a,b,c,n,sl,e⟩:=T.lk;exact .inr (.inl ⟨rfl,_,e,rfl,rfl⟩)
noncomputable def h00:Heap:={}
noncomputable def JC(h:Heap)(L:Addr):List (Addr×Obj):=(List.range h.objs.size).filterMap λa=>if a=L then none else(h.get? a).map λo=>(a,o)
theorem JJ(a:Addr):h00.get? a=none:=Heap.get?_none_of_le (Du _)
theorem q0O(e:h.get? b=some o)(n:b≠L):(b,o)∈JC h L:=by
 refine Dr.mpr ⟨b,Rf.mpr (Heap.lt_size e),?_⟩;rw[GZ n,e];rfl
theorem q2X:News h00 L h (JC h L):=λp hp=>by
 obtain⟨a,_,e⟩:=Dr.mp hp;by_cases n:a=L
 ·rw[G4 n]at e;cases e
 ·rw[GZ n]at e
  cases q:h.get? a with
  |none=>rw[q]at e;cases e
  |some o=>rw[q]at e;cases e;exact⟨q,n,JJ _⟩
theorem Inv.ledger(I:Inv X a5 σ H s):∃m,Fr h00 X.env.locals s.heap m/\News h00 X.env.locals s.heap (JC s.heap X.env.locals) /\
  ∀(h':Heap)(tk:Nat),Fr h00 X.env.locals h' m->News h00 X.env.locals h' (JC s.heap X.env.locals)->Inv X a5 σ H { s with heap:=h',toks:=tk }:=by
 obtain⟨m,hn,_⟩:=I.loc;refine⟨m,⟨hn,λb o e=>(by rw[JJ]at e;cases e),Du _⟩,q2X,λh' tk F W=>?_⟩;have kp:∀b o,b≠X.env.locals->s.heap.get? b=some o->h'.get? b=some o:=λb o n e=>(W _ (q0O e n)).1;refine I.step (ch:=[]) (H':=H) (λb hb=>nomatch hb) (λb o n _a _a e _a=>kp b o n e) (λb o n _a _a e _a=>⟨o.slots,kp b o n e⟩) (λb o _a _a z=>z) (λb o _a e=>?_) (λ_a _a z=>z) (λ_a _a _a z=>z) (λb ps z=>⟨#[],by simpa using z⟩) (λm' lu=>?_) (λa o e=>?_) I.bare
 ·by_cases n:b=X.env.locals
  ·subst n
   obtain⟨o',_,_,e',_⟩:=F.ns;exact⟨o',e'⟩
  ·exact⟨o,kp b o n e⟩
 ·have:m'=m:=funext λx=>by
   obtain⟨o,es,ep,e1,e2,e3,e4⟩:=lu;obtain⟨o',gk,i8,f1,f2,f3,f4⟩:=hn;rw[e1]at f1;cases f1;rw[e2]at f2;cases f2;rw[<-e4, <-f4]
  rw[this];exact F.ns
 ·refine(I.hok a o e).stay (λb u hb q=>kp b u ?_ q) (λ_a q=>q) λ_a _a q=>q
  intro z;subst z;have:=I.free;rcases hb with hb|hb
  ·subst hb;rw[e]at this;cases this
  ·rw[hb]at this;cases this
theorem J9:∀{bs:List Bool}{us:List Value},Vals (bs.map V.bl) us->LSm.BoolsAre us bs
 | [],_,h=>by cases h;exact .nil
 |b::bs,_,h=>by
  cases h with
  |cons r t=>
   obtain rfl:=(show _=Value.bool b from r);exact .cons b (J9 t)
noncomputable def rAll:List V->Hp->VK->Prop:=λxs H Q=>∃(l:Addr)(bs:List Bool),xs=[.ref l]/\H l=some (.lst (bs.map V.bl))/\Q (.bl (bs.all id)) H
theorem q1e(hc:X.calm=true):zJ X (.builtin "all") rAll:=by
 intro a5 s σ H xs us Q I r h;obtain⟨l,bs,rfl,hl,q⟩:=h;obtain⟨u,rfl,rx⟩:=QU r;cases rx;obtain⟨its,r',pl,hz⟩:=I.list (SqL.of hl);obtain⟨m,F,W,fin⟩:=I.ledger;exact LSm.all_bools F W (I.ok.hd hc) pl.isList (J9 r') λh' tk F' W'=>⟨.bl _,H,fin h' tk F' W',rfl,q⟩
noncomputable def rIxA(Ξ:PySem.W.Frag):R2:=λx y H Q=>rIxL Ξ x y H Q\/rIxT Ξ x y H Q
theorem WI(h:X.K=Ξ):IxR X (rIxA Ξ):=(qf h).or (qh h)
noncomputable def q4L(Ξ:PySem.W.Frag):List V->Hp->VK->Prop:=λxs H Q=>∃p ys,xs=[.ref p]/\(SqL Ξ H p ys\/SqT Ξ H p ys)/\Q (.int ys.length) H
theorem xq(h:X.K=Ξ):zJ X (.builtin "len") (q4L Ξ):=h▸jK
structure GInt(mg:Str->Option Value)(nm:Str)(n:Int):Prop where
 ex:∃t,mg nm=some (.int n t)
noncomputable def Bt(n:Nat)(i:Int):Prop:=i.natAbs<2^n
theorem Bt.bits(h:Bt n i):Builtin.Int.intBits i<=n:=intBits_le_iff.mpr h
theorem Bt.mono(h:Bt n i)(hm:n<=m):Bt m i:=Dc h (Nat.pow_le_pow_right (by decide) hm)
theorem Bt.neg(h:Bt n i):Bt n (-i):=by unfold Bt;rw[RX];exact h
theorem Bt.add(h:Bt n i)(h':Bt m j):Bt (max n m+1) (i+j):=by
 have a:=h.mono (Nat.le_max_left n m);have b:=h'.mono (Nat.le_max_right n m);unfold Bt at *;have:=Int.natAbs_add_le i j;rw[Nat.pow_succ];lia
theorem Bt.sub(h:Bt n i)(h':Bt m j):Bt (max n m+1) (i-j):=by
 rw[Int.sub_eq_add_neg];exact h.add h'.neg
theorem Bt.shl(h:Bt n i):Bt (n+k) (i*2^k):=by
 unfold Bt at *;rw[Int.natAbs_mul,Int.natAbs_pow,Nat.pow_add];exact Nat.mul_lt_mul_of_pos_right h (Nat.pow_pos (by decide))
theorem Bt.pow(k:Nat):Bt (1+k) ((1:Int)*2^k):=Bt.shl (n:=1) (by unfold Bt;decide)
theorem Bt.small(h0 : -(2^62)<i)(h1:i<2^62)(hn:62<=n):Bt n i:=by
 refine Bt.mono (n:=62) ?_ hn;unfold Bt;lia
theorem Bt.nonneg_le(h:Bt n i)(h0:0<=j)(h1:j<=i):Bt n j:=by
 unfold Bt at *;lia
theorem Bt.sign(h:Bt n i)(hs:s=1\/s = -1):Bt n (s*i):=by
 rcases hs with rfl|rfl
 ·rw[RZ];exact h
 ·rw[Int.neg_mul,RZ];exact h.neg
noncomputable def Itv(Ξ:PySem.W.Frag)(a:Addr)(n:Nat):It :=
 ⟨λi H=>i<n/\∃xs,SqL Ξ H a xs/\xs.length=n,λi H x H'=>H'=H/\∀xs,SqL Ξ H a xs->xs[n-1-i]?=some x,λi H=>n=i⟩
noncomputable def q1L(Ξ:PySem.W.Frag)(vs:List V)(H:Hp)(R:It->Hp->Prop):Prop:=∃a xs,vs=[.ref a]/\SqL Ξ H a xs/\R (Itv Ξ a xs.length) H
noncomputable def iRev(Ξ:PySem.W.Frag)(ta:TA):TI:=λσ H R=>ta σ H λvs H1=>q1L Ξ vs H1 R
theorem Vl:iRev Ξ ta σ H R=ta σ H λvs H1=>q1L Ξ vs H1 R:=rfl
noncomputable def Ite(Ξ:PySem.W.Frag)(a:Addr):It :=
 ⟨λi H=>∃xs x,SqL Ξ H a xs/\xs[i]?=some x,λi H x H'=>∃(p:Addr)(v:V),x=.ref p/\H p=none/\H'=upd H p (.tup [.int i,v])/\∀xs,SqL Ξ H a xs->xs[i]?=some v,λi H=>∃xs,SqL Ξ H a xs/\xs.length<=i⟩
noncomputable def q22(Ξ:PySem.W.Frag)(vs:List V)(H:Hp)(R:It->Hp->Prop):Prop:=∃a xs,vs=[.ref a]/\SqL Ξ H a xs/\R (Ite Ξ a) H
noncomputable def q7c(Ξ:PySem.W.Frag)(ta:TA):TI:=λσ H R=>ta σ H λvs H1=>q22 Ξ vs H1 R
theorem j3:q7c Ξ ta σ H R=ta σ H λvs H1=>q22 Ξ vs H1 R:=rfl
noncomputable def rNeL(Ξ:PySem.W.Frag):R2:=λx y H Q=>∃a b xs ys,x=.ref a/\y=.ref b/\SqL Ξ H a xs/\SqL Ξ H b ys/\((xs.length≠ys.length/\Q (.bl true) H)\/(xs.length=ys.length/\∃e:Nat->Bool,(∀(j:Nat) x y,xs[j]?=some x->ys[j]?=some y->DE Ξ H 20 x y (e j))/\Q (.bl (!(List.range xs.length).all e)) H))
theorem q4z(hK:X.K=Ξ)(hu:X.A.units+64<cLine):OpR X (compareOp .NotEq) (rNeL Ξ):=by
 subst hK;intro a5 s σ H x y v u Q I rx ry h;obtain⟨a,b,xs,ys,rfl,rfl,ha,hb,h⟩:=h;obtain rfl:v=Value.ref a:=rx;obtain rfl:u=Value.ref b:=ry;obtain⟨its,r1,p1,_⟩:=I.list ha;obtain⟨bS,r2,p2,_⟩:=I.list hb;rcases h with⟨hl,q⟩|⟨hl,e,he,q⟩
 ·exact EqBoolInt.of_rcne (SeqAt.RcNeAt.lists_lengths (A:=X.A) p1.isList p2.isList (by simp[<-r1.length, <-r2.length,hl]) (by lia)) ⟨.bl _,H,I,rfl,q⟩
 ·refine EqBoolInt.of_rcne (SeqAt.RcNeAt.lists (A:=X.A) (e:=e) p1.isList p2.isList (by simp[<-r1.length, <-r2.length,hl]) (by lia) λj h1 h2=>?_) ⟨.bl _,H,I,rfl,?_⟩
  ·have l1:j<xs.length:=by rw[r1.length];simpa using h1
   have l2:j<ys.length:=by rw[r2.length];simpa using h2
   obtain⟨u1,q1,s1⟩:=r1.get (UU l1);obtain⟨u2,q2,s2⟩:=r2.get (UU l2);have e1:its.toArray[j]=u1:=by
    obtain⟨_,z⟩:=UR.mp q1;simpa using z
   have e2:bS.toArray[j]=u2:=by
    obtain⟨_,z⟩:=UR.mp q2;simpa using z
   rw[e1,e2];exact(he j _ _ (UU l1) (UU l2)).eqAt I (by rw[xZ];lia) s1 s2
  ·rw[U5, <-r1.length]
   exact q
noncomputable def q7C(n:Nat):List Nat:=sliceRange (sliceBounds none none (some (-1)) n).1 (sliceBounds none none (some (-1)) n).2.1 (sliceBounds none none (some (-1)) n).2.2
noncomputable def q7D(xs:List V):List V:=(q7C xs.length).filterMap λi=>xs[i]?
noncomputable def q4g(Ξ:PySem.W.Frag)(x:V)(H:Hp)(Q:VK):Prop:=∃a xs,x=.ref a/\SqL Ξ H a xs/\∀r,H r=none->Q (.ref r) (upd H r (.lst (q7D xs)))
noncomputable def tRev(Ξ:PySem.W.Frag)(te:TE):TE:=λσ H Q=>te σ H λx H1=>q4g Ξ x H1 Q
noncomputable def zn:Expr->Bool
 |.Starred _ _=>false
 |_=>true
theorem Yn(h:zn e=true):starEach (e::es) env=(false,eval e env)::starEach es env:=by
 cases e<;>first|rfl|cases h
structure QE(X:Cx)(e:Expr)(t:TE):Prop where
 h:PE X e t
structure QT(X:Cx)(e:Expr)(t:TT):Prop where
 h:PT X e t
structure QW(X:Cx)(e:Expr)(t:TT):Prop where
 h:PW X e t
structure QA(X:Cx)(e:List Expr)(t:TA):Prop where
 h:PA X e t
structure QS(X:Cx)(e:Stmt)(t:TS):Prop where
 h:PS X e t
structure QSs(X:Cx)(e:List Stmt)(t:TS):Prop where
 h:PSs X e t
structure QG(X:Cx)(e:Expr)(t:TG):Prop where
 h:PG X e t
structure QGs(X:Cx)(e:List Expr)(t:TGs):Prop where
 h:PGs X e t
structure QTs(X:Cx)(e:List Expr)(t:TT):Prop where
 h:PTs X e t
structure QO(X:Cx)(e:Option Expr)(t:TO):Prop where
 h:PO X e t
structure QI(X:Cx)(tg e:Expr)(t:TI):Prop where
 h:PI X tg e t
structure QPs(X:Cx)(pos:Pos)(ks:List (Option Expr))(vs:List Expr)(t:List (TE×TE)):Prop where
 h:PPs X pos ks vs t
theorem qx:QSs X [] Q0:=⟨q3r ⟩
theorem qe{st:Stmt}(h1:QS X st t):QSs X [st] t:=⟨by
 intro a5 s σ H D I h;refine Ue (thn (h1.h a5 s σ H D I h) λf s1 q=>?_);cases f with
 |next=>exact Ud q
 |ret v=>exact q
 |brk=>exact q
 |cont=>exact q⟩
theorem qb{rest:List Stmt}{st:Stmt}(h1:QS X st t)(h2:QSs X rest u):QSs X (st::rest) (tSeq t u):=⟨by
 intro a5 s σ H D I h;refine Ue (thn (h1.h a5 s σ H { D with nx:=u D } I h) λf s1 q=>?_);cases f with
 |next=>
  obtain⟨ah,H',I',q⟩:=q;exact h2.h a5 s1 ah H' D I' q
 |ret v=>exact q
 |brk=>exact q
 |cont=>exact q⟩
theorem q3B(bs:List Bool)(ext:List Str)(hN:X.N.Nodup)(gC:X.N[i]?=some x)(hx:X.env.scope.names.lookup x=some .local)(hi:QI X tg az wi)(hg:∀fp s H,QG (cxB X scope ext fp s H) tg g)(ht:∀fp s H,QTs (cxB X scope ext fp s H) c6 tt)(he:∀fp s H,QE (cxB X scope ext fp s H) elt te)(hk:jw scope X.env X.N bs=true:=by rfl)(hc:X.calm=true:=by rfl)(gD:swapsWith (.ListComp elt [⟨tg,az,c6,0⟩] scope pos) (some (.Name x pos')) spos.line X.env=pure true:=by rfl)(hs:∀x,foldedSetIterable az X.env x=pure x:=by intro _;rfl):QS X (.Assign [.Name x pos'] (.ListComp elt [⟨tg,az,c6,0⟩] scope pos) spos) (tAsg (xz wi bs ext.length g tt te) (qT i)):=⟨q7w bs ext hN gC hx hi.h (λfp s H=>(hg fp s H).h) (λfp s H=>(ht fp s H).h) (λfp s H=>(he fp s H).h) hk hc gD hs⟩
theorem xT(ha:QE X o ta)(hv:QE X value tv)(hs:swapsWith value (some (.Attribute o f pos')) pos.line X.env=pure false):QS X (.Assign [.Attribute o f pos'] value pos) (sFld X.K ta tv f):=⟨by
 intro a5 s σ H D I h;refine Us (thn (hv.h a5 s σ H _ I h) λu s1 ⟨y,H1,I1,ry,q⟩=>thn (ha.h a5 s1 σ H1 _ I1 q) λov s2 ⟨x,H2,I2,rx,a,C,dx,fs,ex,ea,c,n,l,q2⟩=>?_) hs;subst ex;obtain rfl:ov=Value.ref a:=rx;exact Ki I2 ea c n l ry λs3 I3=>⟨σ,_,I3,q2⟩⟩
theorem qB(hN:X.N.Nodup)(hi:X.N[i]?=some x)(hx:Loc X.env.scope x)(he:QE X e te)(hs:swapsWith e (some (.Name x pos')) pos.line X.env=pure false:=by rfl)(hf:X.fn x=true\/X.env.scope.names.lookup x=some .local:=by first|exact .inl rfl|exact .inr rfl|assumption):QS X (.Assign [.Name x pos'] e pos) (tAsg te (qT i)):=⟨by
 intro a5 s σ H D I h;refine Ut (thn (he.h a5 s σ H _ I h) λv s1 ⟨y,H1,I1,r1,q1⟩=>?_) hs;exact vE I1 hN hi hx r1 (λs2 I2=>⟨_,H1,I2,q1⟩) hf⟩
theorem vh(he:QE X e te)(hg:QG X tg g)(hs:swapsWithSole [tg] e pos.line X.env=pure false:=by rfl)(hw:swappedStores [tg] e X.env=pure none:=by rfl)(h1:(assignEach [tg] X.env).map (·.2)=[assign tg X.env]:=by rfl):QS X (.Assign [tg] e pos) (tAsg te g):=⟨by
 intro a5 s σ H D I h;refine wpAny_Assign_stores (thn (he.h a5 s σ H _ I h) λv s1 ⟨x,H1,I1,r1,q1⟩=>?_) hs hw;rw[h1];exact thn (hg.h a5 s1 σ H1 x v _ I1 r1 q1) λ_a s2 q=>q⟩
theorem qt(he:QE X e te):QS X (.Return (some e) pos) (tRet te):=⟨by
 intro a5 s σ H D I h;exact wpAny_Return_some (thn (he.h a5 s σ H _ I h) λv s1 ⟨x,H1,I1,r1,q1⟩=>⟨x,σ,H1,I1,r1,q1⟩)⟩
theorem qP(hc:QT X c tc)(ha:QSs X a t)(hb:QSs X b u):QS X (.If c a b pos) (tIfS tc t u):=⟨by
 intro a5 s σ H D I h;refine wpAny_If (thn (hc.h a5 s σ H _ I h) λd s1 zz=>?_);obtain⟨H1,I1,q1⟩:=zz;cases d with
 |true=>exact ha.h a5 s1 σ H1 D I1 q1
 |false=>exact hb.h a5 s1 σ H1 D I1 q1⟩
theorem xu(hp:PassesOwn (model X.prog X.w) X.A X.env X.xe)(hc:X.calm=true)(hi:QI X tg az wi)(hg:QG X tg g)(hb:QSs X body tb)(hs:∀x,foldedSetIterable az X.env x=pure x:=by intro _;rfl):QS X (.For tg az body [] pos) (tFor wi g tb):=⟨q6m hp hc hi.h hg.h hb.h hs⟩
theorem v3(he:QE X e te)(hs:swapsWith e none pos.line X.env=pure false:=by rfl):QS X (.Expr e pos) (V5 te):=⟨by
 intro a5 s σ H D I h;exact UL (thn (he.h a5 s σ H _ I h) λv s1 ⟨x,H1,I1,r1,q1⟩=>⟨σ,H1,I1,q1⟩) I.quiet hs⟩
theorem vK(hg:Gl X "range")(hm:X.mg "range" = none)(ha:QA X [a] ta)(hs:starEach [a] X.env=[(false,eval a X.env)]:=by rfl):QI X tg (.Call (.Name "range" p) [a] [] pos) (WP ta):=⟨by
 intro a5 s σ H R I h;refine Call_ (JG I hg hm boot_range (PyProof.Rows.callWith_type1 (thn (ha.h pos a5 s σ H _ I h) λus s1 ⟨vs,H1,I1,r1,q1⟩=>?_) hs rfl));obtain⟨j,e,q1,q2,q⟩:=q1;subst e;cases r1 with
 |cons r rr=>
  cases rr;obtain⟨t,rfl⟩:=r;exact call_range_1 (q14 I1 (by lia) (by lia) q1 q2 (by simpa using q))⟩
theorem v9(h:X.K=Ξ)(hl:QE X l tl):QI X tg l (KM Ξ tl):=⟨h▸q3A hl.h⟩
theorem vb(hN:X.N.Nodup)(hi:X.N[i]?=some x)(hx:Loc X.env.scope x)(hf:X.fn x=true\/X.env.scope.names.lookup x=some .local:=by first|exact .inl rfl|exact .inr rfl|assumption):QG X (.Name x pos) (qT i):=⟨js hN hi hx hf⟩
theorem YR(h:X.K=Ξ)(hN:X.N.Nodup)(hc:X.calm=true)(hi:X.N[i]?=some x)(hj:X.N[j]?=some y)(lx:Loc X.env.scope x)(ly:Loc X.env.scope y)(fx:X.fn x=true\/X.env.scope.names.lookup x=some .local)(fy:X.fn y=true\/X.env.scope.names.lookup y=some .local):QG X (.Tuple [.Name x px,.Name y py] kk pos) (gTup Ξ 2 (vk (qT i) (vk (qT j) gNil))):=⟨h▸q7b hN hc hi hj lx ly fx fy⟩
theorem q23(h:X.K=Ξ)(hN:X.N.Nodup)(hc:X.calm=true)(hi:X.N[i]?=some x)(hj:X.N[j]?=some y)(hk:X.N[k]?=some z)(lx:Loc X.env.scope x)(ly:Loc X.env.scope y)(lz:Loc X.env.scope z)(fx:X.fn x=true\/X.env.scope.names.lookup x=some .local)(fy:X.fn y=true\/X.env.scope.names.lookup y=some .local)(fz:X.fn z=true\/X.env.scope.names.lookup z=some .local):QG X (.Tuple [.Name x px,.Name y py,.Name z pz] kk pos) (gTup Ξ 3 (vk (qT i) (vk (qT j) (vk (qT k) gNil)))):=⟨h▸q6S hN hc hi hj hk lx ly lz fx fy fz⟩
theorem q5V(hc:X.calm=true)(h:QGs X es t)(hn:(assignEach es X.env).length=n:=by rfl)(dq:(assignEach es X.env).findIdx? (·.1)=none:=by rfl):QG X (.Tuple es k pos) (gTup X.K n t):=⟨YW hc h.h hn dq⟩
theorem q3u:QGs X [] gNil:=⟨Xy ⟩
theorem j4(h1:QG X e t)(h2:QGs X es u)(hs:(assignEach (e::es) X.env).map (·.2)=assign e X.env::(assignEach es X.env).map (·.2):=by rfl):QGs X (e::es) (vk t u):=⟨xl h1.h h2.h hs⟩
theorem vq(ho:QE X o to)(hi:QE X i ti)(hs:PSet X t)(ha:∀v,assign (.Subscript o i pos) X.env v=(do
   let ov <-holding [v] (eval o X.env);let iv <-holding [v,ov] (eval i X.env)
   standAt pos
   holding [v,ov,iv] (setItem ov iv v)
   release [v,ov,iv] []):=by intro _;rfl):QG X (.Subscript o i pos) (gSub to ti t):=⟨by
 intro a5 s σ H v u Q I r h;rw[ha];refine GU (G3 (thn (ho.h a5 s σ H _ I h) λov s1 zz=>?_));obtain⟨x,H1,I1,r1,q1⟩:=zz;refine GU (G3 (thn (hi.h a5 s1 σ H1 _ I1 q1) λiv s2 zz=>?_));obtain⟨y,H2,I2,r2,q2⟩:=zz;refine GU (G8 (GU (G3 (thn (hs a5 s2 σ H2 x y v ov iv u _ I2 r1 r2 r q2) λ_a s3 zz=>?_))));obtain⟨H3,I3,q3⟩:=zz;exact wpAny_release ⟨σ,H3,I3,q3⟩⟩
theorem zx:QTs X [] tYes:=⟨q3w ⟩
theorem qa_c(ha:QE X e te)(hr:QA X es t)(h:zn e=true:=by rfl):QA X (e::es) (vH te t):=⟨q3h ha.h hr.h (Yn h)⟩
theorem vD:QA X [] tNil:=⟨q5B ⟩
theorem qi(ho:OpR X (compareOp op) r)(ha:QE X a ta)(hb:QE X b tb)(hm:behindInMarks op b=false):QT X (.Compare a [op] [b] pos) (QZ (tOp r ta tb)):=⟨by
 intro a5 s σ H Q I h;refine wpAny_isTrue_Compare1 (thn (ha.h a5 s σ H _ I h) λv s1 ⟨x,H1,I1,r1,q1⟩=>thn (hb.h a5 s1 σ H1 _ I1 q1) λu s2 ⟨y,H2,I2,r2,q2⟩=>
  thn (ho a5 s2 σ H2 x y v u _ I2 r1 r2 q2) λc s3 ⟨z,H3,I3,r3,k,e,q3⟩=>?_) hm
 subst e;cases r3;exact Uc ⟨H3,I3,q3⟩⟩
theorem Xv(h:QW X e t):QT X e t:=⟨PW.pt h.h⟩
theorem Zd{rest:List Expr}(ha:QT X a tA)(hb:QW X (.BoolOp .And (b::rest) pos) ic):QW X (.BoolOp .And (a::b::rest) pos) (tAnd tA ic):=⟨by
 intro wh a5 s σ H Q I h;refine isTrue_and (thn (ha.h a5 s σ H _ I h) λc s1 zz=>?_);obtain⟨H1,I1,q1⟩:=zz;cases c with
 |true=>exact hb.h wh a5 s1 σ H1 Q I1 q1
 |false=>exact⟨H1,I1,q1⟩⟩
theorem Vm(ha:QT X a tA):QW X (.BoolOp .And [a] pos) tA:=⟨by
 intro wh a5 s σ H Q I h;refine isTrue_and (thn (ha.h a5 s σ H Q I h) λc s1 e=>?_);cases c with
 |true=>exact isTrue_and_nil e
 |false=>exact e⟩
theorem q3K{rest:List Expr}(ha:QT X a tA)(hb:QW X (.BoolOp .Or (b::rest) pos) ic):QW X (.BoolOp .Or (a::b::rest) pos) (tOr tA ic):=⟨by
 intro wh a5 s σ H Q I h;refine isTrue_or (thn (ha.h a5 s σ H _ I h) λc s1 zz=>?_);obtain⟨H1,I1,q1⟩:=zz;cases c with
 |true=>exact⟨H1,I1,q1⟩
 |false=>exact hb.h wh a5 s1 σ H1 Q I1 q1⟩
theorem YM(ha:QT X a tA):QW X (.BoolOp .Or [a] pos) tA:=⟨by
 intro wh a5 s σ H Q I h;refine isTrue_or (thn (ha.h a5 s σ H Q I h) λc s1 e=>?_);cases c with
 |false=>exact isTrue_or_nil e
 |true=>exact e⟩
theorem Qr(ha:QT X a tA):QT X (.UnaryOp .Not a pos) (tNot tA):=⟨by
 intro a5 s σ H Q I h;exact isTrue_not (ha.h a5 s σ H (λc H1=>Q (!c) H1) I h)⟩
theorem vJ(h:QE X e t)(he:∀bW,isTrue e X.env bW=(do let v <-bW;standAt e.pos;holding [v] (truthy v)):=by intro _;rfl):QT X e (tB t):=⟨by
 intro a5 s σ H Q I hw;refine isTrue_plain (thn (h.h a5 s σ H _ I hw) λv s1 ⟨x,H1,I1,r1,q1⟩=>?_) (he _);obtain⟨d,rfl,q⟩:=q1;cases r1;exact Uc ⟨H1,I1,q⟩⟩
theorem jD:QE X (.Constant .none j pos) (tC .non):=⟨q5f ⟩
theorem Vn:QE X (.Constant (.bool b) j pos) (tC (.bl b)):=⟨q7x ⟩
theorem qa:QE X (.Constant (.int i) j pos) (tC (.int i)):=⟨q57 ⟩
theorem qc:QE X (.Constant (.str x) j pos) (tC (.str x)):=⟨q5Q ⟩
theorem qv{X:Cx}(i:Nat){x:Str}{pos:Pos}(hN:X.N[i]?=some x:=by rfl)(hv:Vis X.env.scope x:=by first|exact Or.inl rfl|exact Or.inr (Or.inl rfl)|exact Or.inr (Or.inr rfl))(hd:(x==("__debug__" : Str))=false:=by decide)(cW:(x==("__classdict__" : Str))=false:=by decide):QE X (.Name x pos) (tVar i):=⟨q21 hN hv hd cW⟩
theorem q73(ho:UnR X (unaryOp op) r)(ha:QE X a ta):QE X (.UnaryOp op a pos) (tUn r ta):=⟨by
 intro a5 s σ H Q I h;exact UnaryOp_ (thn (ha.h a5 s σ H _ I h) λv s1 ⟨x,H1,I1,r1,q1⟩=>ho a5 s1 σ H1 x v Q I1 r1 q1)⟩
theorem qC(ho:OpR X (binaryOp op) r)(ha:QE X a ta)(hb:QE X b tb):QE X (.BinOp a op b pos) (tOp r ta tb):=⟨by
 intro a5 s σ H Q I h;exact wpAny_BinOp (binT ha.h hb.h I h λv u s2 x y H2 I2 rx ry q=>ho a5 s2 σ H2 x y v u Q I2 rx ry q)⟩
theorem vF(ho:OpR X (compareOp op) r)(ha:QE X a ta)(hb:QE X b tb)(hm:behindInMarks op b=false):QE X (.Compare a [op] [b] pos) (tOp r ta tb):=⟨by
 intro a5 s σ H Q I h;exact wpAny_Compare1 (binT ha.h hb.h I h λv u s2 x y H2 I2 rx ry q=>ho a5 s2 σ H2 x y v u Q I2 rx ry q) hm⟩
theorem Ze(h:QE X a t):QE X (.BoolOp op [a] pos) t:=⟨λa5 s σ H Q I hw=>BoolOp_one (h.h a5 s σ H Q I hw)⟩
theorem Ju{rest:List Expr}(ha:QE X a ta)(hb:QE X (.BoolOp .And (b::rest) pos) tb):QE X (.BoolOp .And (a::b::rest) pos) (V6 ta tb):=⟨by
 intro a5 s σ H Q I h;refine BoolOp_and (thn (ha.h a5 s σ H _ I h) λv s1 zz=>?_);obtain⟨x,H1,I1,r1,q1⟩:=zz;obtain⟨c,rfl,q1⟩:=q1;cases r1;refine Uc ?_;cases c with
 |true=>exact hb.h a5 s1 σ H1 Q I1 q1
 |false=>exact⟨.bl false,H1,I1,rfl,q1⟩⟩
theorem q7u{rest:List Expr}(ha:QE X a ta)(hb:QE X (.BoolOp .Or (b::rest) pos) tb):QE X (.BoolOp .Or (a::b::rest) pos) (tOrV ta tb):=⟨by
 intro a5 s σ H Q I h;refine BoolOp_or (thn (ha.h a5 s σ H _ I h) λv s1 zz=>?_);obtain⟨x,H1,I1,r1,q1⟩:=zz;obtain⟨c,rfl,q1⟩:=q1;cases r1;refine Uc ?_;cases c with
 |false=>exact hb.h a5 s1 σ H1 Q I1 q1
 |true=>exact⟨.bl true,H1,I1,rfl,q1⟩⟩
theorem vm(hc:QT X c tA)(ha:QE X a ta)(hb:QE X b tb):QE X (.IfExp c a b pos) (tIf tA ta tb):=⟨by
 intro a5 s σ H Q I h;refine wpAny_IfExp (thn (hc.h a5 s σ H _ I h) λd s1 zz=>?_);obtain⟨H1,I1,q1⟩:=zz;cases d with
 |true=>exact ha.h a5 s1 σ H1 Q I1 q1
 |false=>exact hb.h a5 s1 σ H1 Q I1 q1⟩
theorem qG(h:QA X es t):QE X (.List es pos) (tLst t):=⟨by
 intro a5 s σ H Q I hq;refine wpAny_List_spliced (thn (h.h pos a5 s σ H _ I hq) λus s1 ⟨xs,H1,I1,r,z,q⟩=>⟨by rw[<-r.length];exact z,?_⟩);have hf:H1 s1.heap.objs.size=none:=I1.hok.fresh (UZ _);refine⟨.ref s1.heap.objs.size,upd H1 s1.heap.objs.size (.lst xs),I1.laid (t':=s1.toks) (λb u e=>Heap.get?_push_of_some _ e) (UZ _) ?_,rfl,q _ hf⟩;exact⟨z,us,0,r,Heap.get?_push_size _ rfl⟩⟩
theorem qu(h:QA X es t):QE X (.Tuple es x1 pos) (tTup t):=⟨by
 intro a5 s σ H Q I hq;refine wpAny_Tuple_spliced (thn (h.h pos a5 s σ H _ I hq) λus s1 ⟨xs,H1,I1,r,z,q⟩=>⟨by rw[<-r.length];exact z,?_⟩);have hf:H1 s1.heap.objs.size=none:=I1.hok.fresh (UZ _);refine⟨.ref s1.heap.objs.size,upd H1 s1.heap.objs.size (.tup xs),I1.laid (t':=s1.toks) (λb u e=>Heap.get?_push_of_some _ e) (UZ _) ?_,rfl,q _ hf⟩;exact⟨z,us,r,⟨_,Heap.get?_push_size _ rfl,rfl,_,rfl⟩⟩⟩
theorem zy{hi lo:Option Expr}(hr:SlR X r)(he:QE X e te)(hl:QO X lo tl)(hu:QO X hi th):QE X (.Subscript e (.Slice lo hi none p2) pos) (tSl r te tl th):=⟨by
 intro a5 s σ H Q I h;refine Subscript_ (thn (he.h a5 s σ H _ I h) λv s1 zz=>?_);obtain⟨x,H1,I1,r1,q1⟩:=zz;refine wpAny_Slice (thn (hl.h a5 s1 σ H1 _ I1 q1) λvl s2 ⟨l,H2,I2,pl,q2⟩=>thn (hu.h a5 s2 σ H2 _ I2 q2) λvu s3 zz=>?_);obtain⟨u,H3,I3,pu,q3⟩:=zz;rw[evalPart_none];refine GV ?_;have I4:Inv X a5 σ H3 { s3 with heap:=s3.heap.push { cls:=.type "slice", data:=.fields #[vl,vu,.none] } }:=I3.kept (t':=s3.toks) λb ob q=>Heap.get?_push_of_some _ q;obtain⟨T,id,hT,ht,hg⟩:=hr a5 { s3 with heap:=s3.heap.push { cls:=.type "slice", data:=.fields #[vl,vu,.none] } } σ H3 x v vl vu l u s3.heap.objs.size Q I4 r1 (Heap.IsSliceOf.new ..) pl pu q3;show wpAny (model X.prog X.w) X.A (subscriptTail e (.Slice lo hi none p2) v (.ref s3.heap.objs.size)) (EP X a5 σ Q) X.xe { s3 with heap:=s3.heap.push { cls:=.type "slice", data:=.fields #[vl,vu,.none] } };exact tail_any (ops:=[.ref s3.heap.objs.size,v]) ht hT hg (by with_unfolding_all rfl)⟩
theorem xG(h:QE X e te):QO X (some e) (V4 te):=⟨by
 intro a5 s σ H Q I hw;rw[evalPart_some];refine thn (h.h a5 s σ H _ I hw) λu s1 zz=>?_;obtain⟨x,H1,I1,r1,q1⟩:=zz;obtain⟨i,rfl,q⟩:=q1;obtain⟨t,rfl⟩:=r1;exact⟨some i,H1,I1,.int i t,q⟩⟩
theorem xH:QO X none zL:=⟨q4B ⟩
theorem qj(hr:IxR X r)(ha:QE X a ta)(hb:QE X b tb)(hs:GK b):QE X (.Subscript a b pos) (tOp r ta tb):=⟨by
 intro a5 s σ H Q I h;exact Subscript_ (binT ha.h hb.h I h λv u s2 x y H2 I2 rx ry q=>hr a b a5 s2 σ H2 x y v u Q I2 rx ry q (hs _ _))⟩
theorem Xw(hu:X.A.units+1<cLine)(ho:QE X o td)(hi:QE X i ty)(hs:NoSl i):QE X (.Subscript o i pos) (q5g td ty):=⟨by
 intro a5 s σ H Q I h;refine q4v PySem.F.slot_dict_getitem.lookup hs (thn (ho.h a5 s σ H _ I h) λu s1 ⟨x,H1,I1,rx,q1⟩=>thn (hi.h a5 s1 σ H1 _ I1 q1) λiv s2 zz=>?_);obtain⟨y,H2,I2,ry,a,v,ex,g,q2⟩:=zz;subst ex;obtain rfl:u=Value.ref a:=rx;exact⟨X5 I2 g,Gg hu I2 g ry λw' s3 I3 dg=>⟨v,H2,I3,dg,q2⟩⟩⟩
theorem qS(he:QE X e ta)(hb:attributeBase e f X.env (eval e X.env)=eval e X.env):QE X (.Attribute e f pos) (tFld X.K ta f):=⟨by
 intro a5 s σ H Q I h;refine VT hb (thn (he.h a5 s σ H _ I h) λu s1 zz=>?_);obtain⟨x,H1,I1,rx,a,C,dx,fs,v,ex,ea,c,n,l,q⟩:=zz;subst ex;obtain rfl:u=Value.ref a:=rx;exact Qy I1 ea c n l λu' s2 I2 ru=>⟨v,H1,I2,ru,q⟩⟩
theorem Ks(bs:List Bool)(ext:List Str)(hi:QI X tg az wi)(hg:∀fp s H,QG (cxB X scope ext fp s H) tg g)(ht:∀fp s H,QTs (cxB X scope ext fp s H) c6 tt)(he:∀fp s H,QE (cxB X scope ext fp s H) elt te)(hk:jw scope X.env X.N bs=true:=by rfl)(hc:X.calm=true:=by rfl)(hs:∀x,foldedSetIterable az X.env x=pure x:=by intro _;rfl):QE X (.ListComp elt [⟨tg,az,c6,0⟩] scope pos) (xz wi bs ext.length g tt te):=⟨q7t bs ext hi.h (λfp s H=>(hg fp s H).h) (λfp s H=>(ht fp s H).h) (λfp s H=>(he fp s H).h) hk hc hs⟩
theorem YT(h:QPs X pos keys bC dB)(cK:keys.all (·.isSome)=true)(hl:keys.length=bC.length)(h0:keys≠[])(iq:keys.length<=15):QE X (.Dict keys bC pos) (q56 dB):=⟨by
 intro a5 s σ H Q I q;have hn:=I.hok.fresh (UZ s.heap.objs.size);have I1:=I.laid (a:=s.heap.objs.size) (o:=.dK []) (h':=s.heap.push { cls:=.type "dict", data:=.dict #[] }) (t':=s.toks) (λ_a _a q=>Heap.get?_push_of_some _ q) (UZ _) (q1A s.heap I.big);refine wpAny_Dict_walk (knd:=qV X.prog X.w) cK hl h0 iq (thn (h.h a5 _ σ _ _ I1 (q _ hn)) λws s2 zz=>?_);obtain⟨ps,H2,I2,dj,e,kvs,ep,lk,q2⟩:=zz;subst ep;obtain⟨rs,c,rk⟩:=QP (P:=X.prog) (w:=X.w) dj;obtain⟨z,hd,vs0,r0,dd⟩:=q7a I2.hok e;cases r0;refine⟨rs,c,dd,λh' mT hs=>⟨.ref s.heap.objs.size,_,?_,rfl,q2⟩⟩;have hz:(kN [] kvs).length<=sizeLine:=by
  have h1:=xY kvs [];rw[Dz]at h1;rw[Uf];lia
 have he:∃q,h'.get? s.heap.objs.size=some q:=let⟨q,_,_,hq,_⟩:=mT;⟨q,hq⟩;exact q31 I2 (by rw[e];exact True.intro) hs he (q4E hz hd (rk.merge .nil) mT)⟩
theorem YO:QPs X pos [] [] []:=⟨q36 ⟩
theorem xj(hk:QE X k tk)(hv:QE X v tv)(hr:QPs X pos ks vs dB):QPs X pos (some k::ks) (v::vs) ((tk,tv)::dB):=⟨λa5 s σ H Q I h=>
 pairTrees_cons_walk (thn (hk.h a5 s σ H _ I h) λu s1 ⟨x,H1,I1,rx,q1⟩=>thn (hv.h a5 s1 σ H1 _ I1 q1) λw2 s2 ⟨y,H2,I2,ry,q2⟩=>
  thn (hr.h a5 s2 σ H2 _ I2 q2) λws s3 ⟨ps,H3,I3,dj,q3⟩=>⟨(x,y)::ps,H3,I3,.cons ⟨rx,ry⟩ dj,q3⟩)⟩
theorem qo(D:Def X.prog X.w X.K X.mg X.base x k ps sp)(hr:Room k X.A)(ha:QA X (e::es) t)(hg:Gl X x:=by rfl)(bb:(x==("__debug__" : Str))=false:=by decide)(he:starEach (e::es) X.env=(false,eval e X.env)::starEach es X.env:=by rfl)(bH:(backTo pos (starEach es X.env)).any (·.1)=false:=by rfl):QE X (.Call (.Name x p) (e::es) [] pos) (zG sp [] E0 t):=⟨by
 obtain⟨f,fd,h1,h2,h3,h4⟩:=D.ex;exact q3s h4 hr hg h1 h2 h3 .nil Ku ha.h bb he bH⟩
theorem kG(D:Def X.prog X.w X.K X.mg X.base x k ps sp)(hr:Room k X.A)(hg:Gl X x:=by rfl)(bb:(x==("__debug__" : Str))=false:=by decide):QE X (.Call (.Name x p) [] [] pos) (zG sp [] E0 tNil):=⟨by
 obtain⟨f,fd,h1,h2,h3,h4⟩:=D.ex;exact q1s h4 hr hg h1 h2 h3 .nil Ku bb⟩
theorem qH{id:String}(hc:zJ X (.builtin id) r)(hg:Gl X x)(hm:X.mg x=none)(hv:bootBuiltins x=some (.builtin id))(ha:QA X (e::es) t)(hn:x ≠ "__name__" := by decide)(bb:(x==("__debug__" : Str))=false:=by decide)(he:starEach (e::es) X.env=(false,eval e X.env)::starEach es X.env:=by rfl)(bH:(backTo pos (starEach es X.env)).any (·.1)=false:=by rfl):QE X (.Call (.Name x p) (e::es) [] pos) (tCB r t):=⟨by
 intro a5 s σ H Q I h;refine Ua (JG I hg hm hv ?_ hn bb);exact PyProof.Rows.callWith_builtin1 (thn (ha.h pos a5 s σ H _ I h) λus s1 ⟨vs,H1,I1,r1,q1⟩=>hc a5 s1 σ H1 vs us Q I1 r1 q1) he bH⟩
theorem vL{T:String}(hc:zJ X (.type T) r)(hg:Gl X x)(hm:X.mg x=none)(hv:bootBuiltins x=some (.type T))(ha:QA X (e::es) t)(hn:x ≠ "__name__" := by decide)(bb:(x==("__debug__" : Str))=false:=by decide)(he:starEach (e::es) X.env=(false,eval e X.env)::starEach es X.env:=by rfl)(bH:(backTo pos (starEach es X.env)).any (·.1)=false:=by rfl):QE X (.Call (.Name x p) (e::es) [] pos) (tCB r t):=⟨by
 intro a5 s σ H Q I h;refine Ua (JG I hg hm hv ?_ hn bb);exact PyProof.Rows.callWith_type1 (thn (ha.h pos a5 s σ H _ I h) λus s1 ⟨vs,H1,I1,r1,q1⟩=>hc a5 s1 σ H1 vs us Q I1 r1 q1) he bH⟩
theorem vn(hg:Gl X x)(hm:X.mg x=none)(hv:bootBuiltins x=some u)(r:RelV v u)(hn:x ≠ "__name__" := by decide)(hd:(x==("__debug__" : Str))=false:=by decide):QE X (.Name x pos) (tC v):=⟨
 λ_a _a _a H _a I h=>JG I hg hm hv ⟨v,H,I,r,h⟩ hn hd⟩
theorem q0t{id:String}(slot:Slot "list" name id)(fZ:typeOf (.builtin id)=pure (.type "method_descriptor"))(hm:MtR X id r)(ho:QE X o to)(ha:QA X (e::es) t)(gE:attributeBase o name X.env (eval o X.env)=eval o X.env:=by rfl)(lw:((backTo aG (starEach (e::es) X.env)).all (λx=> !x.1)&&(backToKw aG (keywordEach [] X.env)).all (λx=>x.1.isSome)
   && decide ((e::es).length+([]:List Keyword).length+(if([]:List Keyword).isEmpty then 0 else 1)<30))=true:=by rfl)(gF:(aI.endLine==aG.line)=true:=by rfl)(hs:starEach (e::es) X.env=(false,eval e X.env)::starEach es X.env:=by rfl)(cO:(backTo aG (starEach es X.env)).any (·.1)=false:=by rfl):QE X (.Call (.Attribute o name aI) (e::es) [] aG) (tLM r to t):=⟨by
 intro a5 s σ H Q I h;refine wpAny_Call_method_late gE lw gF rfl (thn (ho.h a5 s σ H _ I h) λv s1 zz=>?_);obtain⟨x,H1,I1,r1,p,xs,ex,hp,q1⟩:=zz;subst ex;obtain⟨h1,h2⟩:=q62 (T := "list") I1 r1 (.inl ⟨rfl,xs,SqL.of hp⟩);refine⟨"list", id,PySem.F.plainAttrs_list,slot,fZ,h1,h2,?_⟩;have hA:=ha.h aG a5 s1 σ H1 _ I1 q1;rw[hs]at hA ⊢;refine Calls.callWith_builtin (by show(false||(backTo aG (starEach es X.env)).any (·.1))=false;rw[cO]<;>rfl) (Calls.evalArgs_plain ?_);exact thn hA λus s2 ⟨vs,H2,I2,r2,q2⟩=>hm a5 s2 σ H2 (.ref p) vs v us Q I2 r1 r2 q2⟩
theorem vd(D:MDef X.prog X.w X.K X.mg X.base C m k ps sp)(c:Cls X.K C)(he:QE X o ta)(hr:Room k X.A)(ha:QA X (e::es) t)(dq:starEach (e::es) X.env=(false,eval e X.env)::starEach es X.env:=by rfl)(bH:(backTo pos (starEach es X.env)).any (·.1)=false:=by rfl)(ht:eval (.Call (.Attribute o m aI) (e::es) [] pos) X.env=(do
   let ov <-eval o X.env
   standAt aI.atName;let(f,first) <-holding [ov] (getMethod ov m pl)
   callWith pos f first (backTo pos (starEach (e::es) X.env)) (backToKw pos (keywordEach [] X.env))):=by rfl):QE X (.Call (.Attribute o m aI) (e::es) [] pos) (Z2 C m sp [] E0 ta t):=⟨by
 obtain⟨f,fd,h1,h2,h3⟩:=D.ex;exact q3H he.h c h1 h3 hr h2 .nil Ku ha.h dq bH ht⟩
theorem q4t(G:GInt X.mg x n)(hg:Gl X x)(hd:(x==("__debug__" : Str))=false:=by decide):QE X (.Name x pos) (tC (.int n)):=⟨by
 obtain⟨t,e⟩:=G.ex;exact q2L hg e ⟨t,rfl⟩ hd⟩
structure q02(P:Program)(w:World)(Ξ:PySem.W.Frag)(mg:Str->Option Value)(base:Heap)(C:Addr)(x:Str)(k:Nat)(ps:List Str)(sp:Sp):Prop where
 ex:∃(f:Addr)(fd:FuncData),Mk Ξ C f/\mg x=some (.ref C)/\Binds Ξ fd ps []/\FnOk P w Ξ mg base CX0 k f fd ps sp
theorem YS(D:q02 X.prog X.w X.K X.mg X.base C x k ps sp)(hr:Room (k+1) X.A)(hg:Gl X x)(bb:(x==("__debug__" : Str))=false:=by decide):QE X (.Call (.Name x p) [] [] pos) (Kf C sp [] E0 tNil):=by
 obtain⟨f,fd,h1,h2,h3,h4⟩:=D.ex;exact⟨q0L h1 h4 hr hg h2 h3 .nil Ku bb⟩
theorem q4V(D:q02 X.prog X.w X.K X.mg X.base C x k ps sp)(hr:Room (k+1) X.A)(hg:Gl X x)(ha:QA X (e::es) t)(bb:(x==("__debug__" : Str))=false:=by decide)(he:starEach (e::es) X.env=(false,eval e X.env)::starEach es X.env:=by rfl)(bH:(backTo pos (starEach es X.env)).any (·.1)=false:=by rfl):QE X (.Call (.Name x p) (e::es) [] pos) (Kf C sp [] E0 t):=by
 obtain⟨f,fd,h1,h2,h3,h4⟩:=D.ex;exact⟨q3R h1 h4 hr hg h2 h3 .nil Ku ha.h bb he bH⟩
theorem q2z(hc:X.calm=true)(hN:X.N.Nodup)(hi:X.N[i]?=some x)(hj:X.N[j]?=some y)(g6:i≠j)(hx:X.env.scope.names.lookup x=some .local)(hy:X.env.scope.names.lookup y=some .local)(ha:QA X [a,b] ta)(hw:swappedStores [.Tuple [.Name x px,.Name y py] kt pt] (.Tuple [a,b] k2 pt2) X.env=pure (some [x,y]))(hs:swapsWithSole [.Tuple [.Name x px,.Name y py] kt pt] (.Tuple [a,b] k2 pt2) pos.line X.env=pure false:=by rfl):
  QS X (.Assign [.Tuple [.Name x px,.Name y py] kt pt] (.Tuple [a,b] k2 pt2) pos) (tPar i j ta):=⟨by
 intro a5 s σ H D I h;rw[exec_Assign_arm];refine GU (G8 ?_);rw[hs];refine GU (GV ?_);rw[GZ (by decide)];refine GU (Tuple_ (thn (ha.h _ a5 s σ H _ I h) λus s1 zz=>?_));obtain⟨vs,H1,I1,r1,q1⟩:=zz;obtain⟨v,w,e1,q1⟩:=q1;subst e1;obtain⟨u1,u2,rfl,rv,dg⟩:∃u1 u2,us=[u1,u2]/\RelV v u1/\RelV w u2:=by
  cases r1 with
  |cons p q=>
   cases q with
   |cons p' q'=>
    cases q';exact⟨_,_,rfl,p,p'⟩
 refine G7 ?_ (by show 2<=sizeLine;decide);have I2:Inv X a5 σ H1 { s1 with heap:=s1.heap.push { cls:=.type "tuple", data:=.seq [u1,u2].toArray } }:=I1.kept (t':=s1.toks) λb o e=>Heap.get?_push_of_some _ e;rw[hw];refine GU (GV ?_);show wpAny (model X.prog X.w) X.A (do rule "assign.swapped-stores";let items <-unpackItems (.ref s1.heap.objs.size) 2 none;assignInOrder [λv=>bindName X.env y v,λv=>bindName X.env x v] items.reverse;pure Flow.next) _ _ _;refine GU (UP (GU (unpackItems_tuple (items:=#[u1,u2]) (I.ok.hd hc) (IsTup.new s1.heap _) λh' lA=>?_)));have I3:=I2.kept (h':=h') (t':=s1.toks) λb o e=>lA b o (De (Heap.lt_size e)) e;show wpAny _ _ (assignInOrder [λv=>bindName X.env y v,λv=>bindName X.env x v] [u2,u1] >>= λ_a=>pure Flow.next) _ _ _;refine GU (Ub (Uv (vE I3 hN hj (.inl hy) dg (λs2 I4=>?_) (.inr hy))));refine Ub (Uv (vE I4 hN hi (.inl hx) rv (λs3 I5=>UB (GV ?_)) (.inr hx)));rw[D5 _ _ (Ne.symm g6)]at I5;exact⟨_,H1,I5,q1⟩⟩
noncomputable def q6f(i j k:Nat)(ta:TA):TS:=λD σ H=>ta σ H λvs H1=>∃v w u,vs=[v,w,u]/\D.nx (((σ.set i (some v)).set j (some w)).set k (some u)) H1
theorem YN(hc:X.calm=true)(hN:X.N.Nodup)(hi:X.N[i]?=some x)(hj:X.N[j]?=some y)(hk:X.N[k]?=some z)(g6:i≠j)(lB:i≠k)(oP:j≠k)(hx:X.env.scope.names.lookup x=some .local)(hy:X.env.scope.names.lookup y=some .local)(hz:X.env.scope.names.lookup z=some .local)(ha:QA X [a,b,c] ta)(hw:swappedStores [.Tuple [.Name x px,.Name y py,.Name z pz] kt pt] (.Tuple [a,b,c] k2 pt2) X.env=pure (some [x,y,z]))(hs:swapsWithSole [.Tuple [.Name x px,.Name y py,.Name z pz] kt pt] (.Tuple [a,b,c] k2 pt2) pos.line X.env=pure false:=by rfl):
  QS X (.Assign [.Tuple [.Name x px,.Name y py,.Name z pz] kt pt] (.Tuple [a,b,c] k2 pt2) pos) (q6f i j k ta):=⟨by
 intro a5 s σ H D I h;rw[exec_Assign_arm];refine GU (G8 ?_);rw[hs];refine GU (GV ?_);rw[GZ (by decide)];refine GU (Tuple_ (thn (ha.h _ a5 s σ H _ I h) λus s1 zz=>?_));obtain⟨vs,H1,I1,r1,q1⟩:=zz;obtain⟨v,w,u,e1,q1⟩:=q1;subst e1;obtain⟨u1,u2,u3,rfl,rv,dg,ru⟩:∃u1 u2 u3,us=[u1,u2,u3]/\RelV v u1/\RelV w u2/\RelV u u3:=by
  cases r1 with
  |cons p q=>
   cases q with
   |cons p' q'=>
    cases q' with
    |cons p2 q2=>
     cases q2;exact⟨_,_,_,rfl,p,p',p2⟩
 refine G7 ?_ (by show 3<=sizeLine;decide);have I2:Inv X a5 σ H1 { s1 with heap:=s1.heap.push { cls:=.type "tuple", data:=.seq [u1,u2,u3].toArray } }:=I1.kept (t':=s1.toks) λb o e=>Heap.get?_push_of_some _ e;rw[hw];refine GU (GV ?_);show wpAny (model X.prog X.w) X.A (do rule "assign.swapped-stores";let items <-unpackItems (.ref s1.heap.objs.size) 3 none;assignInOrder [λv=>bindName X.env z v,λv=>bindName X.env y v,λv=>bindName X.env x v] items.reverse;pure Flow.next) _ _ _;refine GU (UP (GU (unpackItems_tuple (items:=#[u1,u2,u3]) (I.ok.hd hc) (IsTup.new s1.heap _) λh' lA=>?_)));have I3:=I2.kept (h':=h') (t':=s1.toks) λb o e=>lA b o (De (Heap.lt_size e)) e;show wpAny _ _ (assignInOrder [λv=>bindName X.env z v,λv=>bindName X.env y v,λv=>bindName X.env x v] [u3,u2,u1] >>= λ_a=>pure Flow.next) _ _ _;refine GU (Ub (Uv (vE I3 hN hk (.inl hz) ru (λs2 I4=>?_) (.inr hz))));refine Ub (Uv (vE I4 hN hj (.inl hy) dg (λs3 I5=>?_) (.inr hy)));refine Ub (Uv (vE I5 hN hi (.inl hx) rv (λs4 I6=>UB (GV ?_)) (.inr hx)));have e:(((σ.set k (some u)).set j (some w)).set i (some v))=((σ.set i (some v)).set j (some w)).set k (some u):=by
  rw[D5 _ _ (Ne.symm g6),D5 _ _ (Ne.symm lB),D5 (some u) (some w) (Ne.symm oP)]
 rw[e]at I6;exact⟨_,H1,I6,q1⟩⟩
theorem Qb(Ξ:PySem.W.Frag)(h:X.K=Ξ):zJ X (.builtin "isinstance") (λxs H Q=>∃x n t b,xs=[x,.ty n]/\TyOf Ξ H x t/\W.kitOne Ξ t (.type n)=some b/\Q (.bl b) H):=by
 subst h;intro a5 s σ H xs us Q I r h;obtain⟨x,n,t,b,rfl,ty,e,q⟩:=h;obtain⟨u,v,rfl,ru,rv⟩:=vals2 r;obtain rfl:v=Value.type n:=rv;exact Zq I ru ty e λtk=>⟨.bl b,H,I.tok tk,rfl,q⟩
noncomputable def okey(o:Obj):Option Addr×Option Value:=(o.dict,match o.data with | .fields vs=>vs[2]?|_=>none)
noncomputable def Obk(h h':Heap):Prop:=∀(b:Nat)(o:Obj),h.objs[b]?=some o->∃o',h'.objs[b]?=some o'/\okey o'=okey o
theorem Obk.refl(h:Heap):Obk h h:=λb o e=>⟨o,e,rfl⟩
theorem Obk.trans(x:Obk h h')(y:Obk h' ir):Obk h ir:=λb o e=>by
 obtain⟨o',e',d'⟩:=x b o e;obtain⟨o2,e2,d2⟩:=y b o' e';exact⟨o2,e2,d2.trans d'⟩
theorem Obk.push(h:Heap)(o:Obj):Obk h (h.push o):=λb u e=>⟨u,by
 have hb:b<h.objs.size:=(Array.getElem?_eq_some_iff.mp e).1;cases h;simp only[Heap.push]at e hb ⊢;rw[R9,GZ (De hb)];exact e,rfl⟩
theorem Obk.update(h:Heap)(a:Addr)(hf:∀o,okey (f o)=okey o):Obk h (h.update a f):=λb u e=>by
 cases h;simp only[Heap.update]at e ⊢;rw[Array.getElem?_modify];split
 ·exact⟨f u,by rw[e];rfl,hf u⟩
 ·exact⟨u,e,rfl⟩
theorem Obk.get{h h':Heap}{a d:Addr}{o o':Obj}(x:Obk h h')(e:h.get? a=some o)(e':h'.get? a=some o'):okey o'=okey o:=by
 obtain⟨u,eu,du⟩:=x a o (Heap.get?_some_iff.mp e).1;rw[(Heap.get?_some_iff.mp e').1]at eu;cases eu;exact du
noncomputable def DK{α:Type}:Sem α->Prop
 |.pure _=>True
 |.raise _=>True
 |.unsupported _=>True
 |.finish _=>True
 |.rule _ k=>DK (k ())
 |.at _ k=>DK (k ())
 |.load _ _ k=>∀o,DK (k o)
 |.update _ _ f k=>(∀o,okey (f o)=okey o)/\DK (k ())
 |.alloc _ k=>∀a,DK (k a)
 |.loadIfAlive _ k=>∀o,DK (k o)
 |.point _ k=>DK (k ())
 |.register _ _=>True
 |.fresh k=>∀t,DK (k t)
 |.ask k=>∀x,DK (k x)
 |.choose _ _ k=>∀n,DK (k n)
 |.os _ _ k=>∀r,DK (k r)
 |.call _ _ _ _ _=>False
 |.handled _ k=>∀x,DK (k x)
 |.newGen _ k=>∀n,DK (k n)
 |.genState _ k=>∀x,DK (k x)
 |.resume _ _ _ _=>False
 |.yield _ _ _ _=>True
 |.stack k=>∀l,DK (k l)
 |.fork _ _=>True
 |.thread k=>∀n,DK (k n)
 |.await _ _ _ _ _=>True
theorem DK.wp{α:Type}{M:Model}{Γ:PySem.Ctx}:∀{t:Sem α}{Q:α->Pos->Shared->Prop}{E:Value->Pos->Shared->Prop}{p:Pos}{s:Shared},DK t->Sem.wp M Γ t Q E p s ->
  Sem.wp M Γ t (λa p' s'=>Q a p' s'/\Obk s.heap s'.heap) (λe p' s'=>E e p' s'/\Obk s.heap s'.heap) p s:=by
 intro t
 induction t with
 |pure a=>intro Q E p s _ h;rw[Sem.wp]at h ⊢;exact⟨h,.refl _⟩
 |raise e=>intro Q E p s _ h;rw[Sem.wp]at h ⊢;exact⟨h,.refl _⟩
 |unsupported x=>intro Q E p s _ h;rw[Sem.wp]at h;exact h.elim
 |finish x=>intro Q E p s _ h;rw[Sem.wp]at h;exact h.elim
 |rule x k ih=>intro Q E p s d h;rw[Sem.wp]at h ⊢;exact ih () d h
 | «at» x k ih=>intro Q E p s d h;rw[Sem.wp]at h ⊢;exact ih () d h
 |load a x k ih=>intro Q E p s d h;rw[Sem.wp]at h ⊢;obtain⟨o,e,h⟩:=h;exact⟨o,e,ih o (d o) h⟩
 |update a x f k ih=>
  intro Q E p s d h;rw[Sem.wp]at h ⊢;refine⟨h.1,Sem.wp_mono M Γ _ (λa p' s' z=>⟨z.1,(Obk.update _ _ d.1).trans z.2⟩) (λa p' s' z=>⟨z.1,(Obk.update _ _ d.1).trans z.2⟩) _ _ (ih () d.2 h.2)⟩
 |alloc o k ih=>
  intro Q E p s d h;rw[Sem.wp]at h ⊢;exact Sem.wp_mono M Γ _ (λa p' s' z=>⟨z.1,(Obk.push _ _).trans z.2⟩) (λa p' s' z=>⟨z.1,(Obk.push _ _).trans z.2⟩) _ _ (ih _ (d _) h)
 |loadIfAlive a k ih=>intro Q E p s d h;rw[Sem.wp]at h ⊢;exact ih _ (d _) h
 |point x k ih=>intro Q E p s d h;rw[Sem.wp]at h ⊢;exact ih () d h
 |register a k ih=>intro Q E p s d h;rw[Sem.wp]at h;exact h.elim
 |fresh k ih=>intro Q E p s d h;rw[Sem.wp]at h ⊢;exact ih _ (d _) h
 |ask k ih=>intro Q E p s d h;rw[Sem.wp]at h ⊢;exact ih _ (d _) h
 |choose x n k ih=>intro Q E p s d h;rw[Sem.wp]at h ⊢;exact⟨h.1,ih _ (d _) h.2⟩
 |os q l k ih=>intro Q E p s d h;rw[Sem.wp]at h ⊢;exact ih _ (d _) h
 |call c x g l k ih=>intro Q E p s d h;exact d.elim
 |handled x k ih=>intro Q E p s d h;rw[Sem.wp]at h ⊢;exact ih _ (d _) h
 |newGen c k ih=>intro Q E p s d h;rw[Sem.wp]at h ⊢;exact ih _ (d _) h
 |genState g k ih=>intro Q E p s d h;rw[Sem.wp]at h ⊢;obtain⟨o,e,h⟩:=h;exact⟨o,e,ih _ (d _) h⟩
 |resume g r l k ih=>intro Q E p s d h;exact d.elim
 |yield v g l k ih=>intro Q E p s d h;rw[Sem.wp]at h;exact h.elim
 |stack k ih=>intro Q E p s d h;rw[Sem.wp]at h ⊢;exact ih _ (d _) h
 |fork c k ih=>intro Q E p s d h;rw[Sem.wp]at h;exact h.elim
 |thread k ih=>intro Q E p s d h;rw[Sem.wp]at h ⊢;exact ih _ (d _) h
 |await a f b l k ih=>intro Q E p s d h;rw[Sem.wp]at h;exact h.elim
theorem DK.any{α:Type}{M:Model}{A:Around}{t:Sem α}{Q:α->Shared->Prop}{E:Value->Shared->Prop}{s:Shared}(d:DK t)(h:wpAny M A t Q E s):
  wpAny M A t (λa s'=>Q a s'/\Obk s.heap s'.heap) (λe s'=>E e s'/\Obk s.heap s'.heap) s:=λΓ p oQ=>DK.wp d (h Γ p oQ)
theorem DK.bind{α β:Type}{f:α->Sem β}:∀{m:Sem α},DK m->(∀a,DK (f a))->DK (m >>= f):=by
 intro m;show DK m->_->DK (m.bind f)
 induction m with
 |pure a=>intro _ h;exact h a
 |update a x g k ih=>intro d h;exact⟨d.1,ih () d.2 h⟩
 |raise e=>intro _ _;trivial
 |unsupported x=>intro _ _;trivial
 |finish x=>intro _ _;trivial
 |rule x k ih=>intro d h;exact ih () d h
 | «at» x k ih=>intro d h;exact ih () d h
 |load a x k ih=>intro d h o;exact ih o (d o) h
 |alloc o k ih=>intro d h o;exact ih o (d o) h
 |loadIfAlive a k ih=>intro d h o;exact ih o (d o) h
 |point x k ih=>intro d h;exact ih () d h
 |register a k ih=>intro _ _;trivial
 |fresh k ih=>intro d h o;exact ih o (d o) h
 |ask k ih=>intro d h o;exact ih o (d o) h
 |choose x n k ih=>intro d h o;exact ih o (d o) h
 |os q l k ih=>intro d h o;exact ih o (d o) h
 |call c x g l k ih=>intro d h;exact d.elim
 |handled x k ih=>intro d h o;exact ih o (d o) h
 |newGen c k ih=>intro d h o;exact ih o (d o) h
 |genState g k ih=>intro d h o;exact ih o (d o) h
 |resume g r l k ih=>intro d h;exact d.elim
 |yield v g l k ih=>intro _ _;trivial
 |stack k ih=>intro d h o;exact ih o (d o) h
 |fork c k ih=>intro _ _;trivial
 |thread k ih=>intro d h o;exact ih o (d o) h
 |await a f b l k ih=>intro _ _;trivial
theorem DK.pure{α:Type}(a:α):DK (Pure.pure a:Sem α):=trivial
theorem X3(a:Addr):DK (load a):=λ_a=>trivial
theorem dk_stack:DK stack:=λ_a=>trivial
theorem ZD(a:Addr)(h:∀o,okey (f o)=okey o):DK (update a f):=⟨h,trivial⟩
theorem ZH(hf:∀vs,(f vs)[2]?=vs[2]?)(o:Obj):okey (Obj.mapFields f o)=okey o:=by
 unfold Obj.mapFields;split
 ·exact G1 (Prod.mk _) (hf _)
 ·rfl
theorem X4(v:Value):DK (fieldsOf v):=by
 unfold fieldsOf;split
 ·refine(X3 _).bind λo=>?_
  split<;>trivial
 ·trivial
theorem j6(v:Value)(i:Nat):DK (field v i):=by
 unfold field;refine(X4 v).bind λo=>?_;split<;>trivial
theorem xM(v:Value)(x:Value)(hi:i≠2):DK (setField v i x):=by
 unfold setField;split
 ·unfold updateField
  refine(X3 _).bind λo=>?_;split
  ·split
   ·exact ZD _ (ZH λvs=>Array.getElem?_setIfInBounds_ne hi)
   ·trivial
  ·trivial
 ·trivial
theorem vX(e:Value)(f:Option Addr):DK (setFlight e f):=by
 unfold setFlight;refine(j6 _ _).bind λo=>?_;split
 ·exact xM _ _ (by decide)
 ·trivial
theorem ZF(ty:String)(vs:List Value):DK (newFields ty vs):=by
 unfold newFields newObj;dsimp only;split
 ·trivial
 ·unfold newObjAsIs
  exact λa=>trivial
theorem Ga(env:Env)(l:List Env):DK (behindIsImport env l):=by
 unfold behindIsImport;split
 ·trivial
 ·split
  ·trivial
  ·exact(j6 _ _).bind λ_a=>trivial
theorem q4A(env:Env)(b:Bool)(l:List Env):DK (keptBack env b l):=by
 unfold keptBack;split
 ·split
  ·trivial
  ·unfold underTheClaimsCaller
   exact DK.bind (dk_stack.bind λ_a=>trivial) λ_a=>trivial
 ·trivial
theorem JV:∀l:List Env,DK (readyFrames l)
 | []=>by unfold readyFrames;trivial
 |env::outer=>by
  unfold readyFrames;split
  ·refine(X3 _).bind λo=>?_
   split
   ·trivial
   ·refine(Ga _ _).bind λ_a=>(q4A _ _ _).bind λ_a=>DK.bind ?_ λ_a=>JV outer
    exact ZD _ λo=>rfl
  ·trivial
theorem KP(env:Env):DK (PySem.frameOf env):=by
 unfold PySem.frameOf frameEnvs;refine DK.bind (dk_stack.bind λ_a=>trivial) λl=>DK.bind ?_ λx=>?_
 ·unfold frameObject
  split
  ·trivial
  ·exact(JV _).bind λ_a=>trivial
 ·split<;>trivial
theorem q1b(f:Addr)(b:Bool):DK (entryPlaceOf f b):=by
 unfold entryPlaceOf;refine dk_stack.bind λl=>?_;split<;>trivial
theorem W9(e:Value)(env:Env):DK (noteFrame e env):=by
 unfold noteFrame;have k:∀f head,DK (do setField e 1 (<-EntryCells.newEntry head (<-PySem.frameOf env) .none (rawInt f) .none (<-entryPlaceOf f (head != .none))):Sem Unit):=λf head=>
  (KP _).bind λ_a=>(q1b _ _).bind λ_a=>DK.bind (by unfold EntryCells.newEntry;exact ZF _ _) λ_a=>xM _ _ (by decide)
 split
 ·refine(j6 _ _).bind λhead=>?_
  split
  ·refine(j6 _ _).bind λ_a=>?_
   split
   ·trivial
   ·exact(xM _ _ (by decide)).bind λ_a=>k _ _
  ·exact k _ _
 ·trivial
theorem QL(env:Env)(e:Value):DK (leaving env e):=by
 unfold leaving;exact(W9 _ _).bind λ_a=>vX _ _
end L2
namespace PySem.W
open Builtin.ObjectAttr
theorem getX_value(X:Ξ.In s.heap)(I:InstAt s.heap x ox C od)(oR:findIn Ξ (.ref C) "__getattribute__" = some (some (.builtin "BaseException.__getattribute__")))(oS:findIn Ξ (.ref C) "__getattr__" = some none)(hm:mroIn Ξ C (.type "BaseException")=some true)(hf:findObj Ξ C od name=some (.value v))(hh:handedIn v=true)(h:Q v { s with toks:=s.toks+1 }):wpAny (model prog w) A (getAttr (.ref x) name expr) Q E s:=by
 obtain⟨hp,g,d,t,os⟩:=s;have L0:=I.type (M:=model prog w);have L1:=looks_findIn (M:=model prog w) X oR;have L2:=looks_findIn (M:=model prog w) X oS;have L3:=looks_find (M:=model prog w) X I hf;have L4:=looks_mroIn (M:=model prog w) X hm;have FB:=PySem.F.excAttr_ValueError;have f3:=FB.ga.bind (.ref x);have gG:(expr&&onTheHeap (Value.builtin "BaseException.__getattribute__"))=false:=by cases expr<;>rfl
 have g7:(Value.builtin "BaseException.__getattribute__" == Value.builtin "object.__getattribute__")=false:=by decide+kernel
 have hx1:(onTheHeap (Value.ref C)&&Value.builtin "BaseException.__getattribute__" == Value.builtin "object.__getattribute__")=false:=by rw[g7];rfl
 have ha:=F.args_bexc_ga (.ref x) (.str name t);have hk:builtinKind "BaseException.__getattribute__" = some .slot:=by decide+kernel
 have fo:splitId "BaseException.__getattribute__" = some ("BaseException","__getattribute__"):=by decide+kernel
 unfold getAttr getAttrBy;refine GU (wpAny_mkText (G3 (GU (L0.at (GU (L1.at ?_))))))
 repeat (any_goals (first|assumption|with_reducible refine L0.at ?_|with_reducible refine L2.at ?_|wp_step))
 refine G6 FB.ga.plain F.entry_bexc_ga ?_;simp only[checkBuiltinCall,hk,fo,DZ,DM];refine GU ?_;unfold isInstance;refine GU (L0.at (L4.at ?_))
 repeat (any_goals (first|assumption|with_reducible refine L0.at ?_|with_reducible refine L3.at ?_|wp_step))
 show wpAny _ _ (handedOut v) _ _ _;rw[handedOut_of hh];exact GV h
noncomputable def jb(dk:List Value):List Value->Bool
 |.ref _::r=>jb dk r
 |l=>l==dk
theorem QK:jb dk (.ref c::r)=jb dk r:=by rw[jb]
theorem VL(h:refuseLoop self "__setattr__" dk=pure ()):∀l,jb dk l=true->refuseLoop self "__setattr__" l=pure ():=by
 intro l
 induction l with
 |nil=>intro e;have e:(([]:List Value)==dk)=true:=e;rw[eq_of_beq e];exact h
 |cons x r ih=>
  intro e;cases x with
  |ref c=>rw[refuseLoop_ref];exact ih (by rw[QK]at e;exact e)
  |_=>
   rw[jb]at e
   ·rw[eq_of_beq e];exact h
   ·intro a r' q;cases q
theorem KN(h:dk.contains v=true):∀l,jb dk l=true->l.contains v=true:=by
 intro l
 induction l with
 |nil=>intro e;have e:(([]:List Value)==dk)=true:=e;rw[eq_of_beq e];exact h
 |cons x r ih=>
  intro e;cases x with
  |ref c=>rw[Bk,ih (by rw[QK]at e;exact e),Bool.or_true]
  |_=>
   rw[jb]at e
   ·rw[eq_of_beq e];exact h
   ·intro a r' q;cases q
noncomputable def excOver(Ξ:Frag)(C:Addr):Bool:=(clsIn Ξ C).any λcd=>jb [.type "ValueError",.type "Exception",.type "BaseException",.type "object"] cd.mro&&cd.hasDict && !cd.mro.isEmpty
theorem setX_new(X:Ξ.In s.heap)(I:InstAt s.heap x ox C none)(mU:ox.dict=none)(mV:ox.data=.fields vs)(oU:findIn Ξ (.ref C) "__setattr__" = some (some (.builtin "object.__setattr__")))(hp:excOver Ξ C=true)(ht:findIn Ξ (.ref C) name=some none)(h:∀h' d,d=s.heap.objs.size->(∀b o,b≠x->s.heap.get? b=some o->h'.get? b=some o)->h'.get? x=some { ox with dict:=some d }->h'.Ns1 d (λy=>if y=name then some v else none)->Q () { s with heap:=h',toks:=s.toks+2 }):
  wpAny (model prog w) A (setAttr (.ref x) name v) Q E s:=by
 have SF:=PySem.F.store_ValueError;obtain⟨cd,hc,ho⟩:=any_some hp;simp only[Dy,Rc]at ho;obtain⟨⟨ho,hd⟩,ne⟩:=ho;refine set_plain X I oU ?_;have sub:Looks (model prog w) s.heap (isInstance (.ref x) (.type "object")) true:=I.type.andThen (looks_mroIn X (by unfold mroIn;rw[hc,Option.bind_some,GZ (by rw[ne];decide),KN (by decide) _ ho]));refine G6 SF.slot.plain SF.entry (@check_slot (model prog w) _ _ { s with toks:=s.toks+1 } "object.__setattr__" "object" "__setattr__" (.ref x) [.str name s.toks,v] [] _ SF.kind SF.split sub (SF.args (.ref x) (.str name s.toks) v) ?_);have hm:Looks (model prog w) s.heap (mroOf (.ref C)) cd.mro:=(looks_clsIn X hc).andThen .now;rw[osa_eq,refuse_eq];refine GU (GU (Looks.here (s:={ s with toks:=s.toks+1 }) I.type (GU (Looks.here (s:={ s with toks:=s.toks+1 }) hm ?_))));rw[VL (SF.passes _) _ ho];refine GV (GU (Looks.here (s:={ s with toks:=s.toks+1 }) I.type (GU (Looks.here (s:={ s with toks:=s.toks+1 }) (looks_findIn X ht) (GU (GV ?_))))));obtain⟨hx,g8,hn, -⟩:=I;obtain⟨oc,odi,oda,dZ⟩:=ox;dsimp only at g8 mU mV;subst g8 mU mV;refine GU (GV (GU (GU (wpAny_loadPart hx (GU (Looks.here (s:={ s with toks:=s.toks+1 }) (looks_clsIn X hc) ?_))))));rw[hd];have eK:(s.heap.push { cls:=.type "dict", data:=.dict #[] }).get? x=some ⟨.ref C,none,.fields vs,dZ⟩:=Heap.get?_push_of_some _ hx;have mW:x≠s.heap.objs.size:=De (Heap.lt_size hx);refine GU (wpAny_alloc' (GU (wpAny_update' eK (GV ?_))));have oV:((s.heap.push { cls:=.type "dict", data:=.dict #[] }).update x λo=>{ cls:=o.cls,dict:=some s.heap.objs.size,data:=o.data,slots:=o.slots }).get? s.heap.objs.size=some { cls:=.type "dict", data:=.dict #[] } :=
  (Heap.get?_update_ne _ _ _ _ mW.symm).trans (Heap.get?_push_at rfl rfl)
 have mX:((s.heap.push { cls:=.type "dict", data:=.dict #[] }).update x λo=>{ cls:=o.cls,dict:=some s.heap.objs.size,data:=o.data,slots:=o.slots }).Ns s.heap.objs.size (λ_a=>none):=
  ⟨_, #[],_,oV,rfl,λe he=>absurd he (by simp),λ_a=>rfl⟩
 show wpAny _ _ (storeInDict s.heap.objs.size (.str name s.toks) name v) _ _ _;unfold storeInDict newKeyGuard;refine GU (GV (GU (wpAny_nsSet1 (Heap.Ns1.of_empty mX) λh' eF hs=>?_)));obtain⟨oD,nX,nY,iQ,iR,iS⟩:=eF.count (Within.cons name v Within.nil);refine GU (wpAny_lookBehind iQ (by rw[iR];exact pastItsLine_dict (Dm iS (by rw[U8,Dz,Uf];lia))) ?_);refine GV (h h' s.heap.objs.size rfl (λb ob oW hb=>?_) ?_ eF)
 ·exact(hs.2 b (De (Heap.lt_size hb))).trans ((Heap.get?_update_ne _ _ _ _ oW).trans (Heap.get?_push_of_some _ hb))
 ·exact(hs.2 x mW).trans (Heap.get?_update_self _ eK rfl)
end PySem.W
namespace PySem.W
noncomputable abbrev bmV:List Value:=[.type "ValueError",.type "Exception",.type "BaseException",.type "object"]
structure ExcI(h:Heap)(C f:Addr):Prop where
 ex:∃bm N nm qn bs hdct sn sub ab col dd k0 k1 k2 k3 k5 mN oI,h.get? C=some (excClassObj nm qn C N bs bm hdct sn sub ab col dd k0 k1 k2 k3 k5 "ValueError.__new__")/\h.Ns N mN/\mN "__init__" = some (.ref f)/\OwnTail h bmV bm/\h.get? f=some oI/\oI.cls=.type "function"
noncomputable def excInI(Ξ:Frag)(C f:Addr):Bool:=match Ξ.lookup C with
 |some ⟨.type "type", _,.cls cd,sl⟩=>(match cd.mro,sl.toList with
  |.ref C'::bm, [_,_,_,_,some (.builtin n),_]=>C'==C&&n == "ValueError.__new__" && !cd.hasDel&&tailIn Ξ bmV bm&&nsOkIn Ξ cd.ns&&nsIn Ξ cd.ns "__init__" == some (some (.ref f))&&typeIn Ξ (.ref f)==some (.type "function")
  |_,_=>false)
 |_=>false
set_option tactic.hygienic true in
theorem KG(X:Ξ.In h)(G:h.Ns N mg)(e:nsIn Ξ N n=some (some v)):mg n=some v:=by
 obtain⟨o,es,ep,ho,hd,_,hf⟩:=G;unfold nsIn at e;split at e
 ·rename_i c d gk n' sl q
  have:=X _ _ q;rw[ho]at this;cases this;cases hd;split at e
  ·rename_i en he
   cases e;rw[<-hf];unfold nsFind findBy;rw[<-Bh,he];rfl
  ·first|cases e|(split at e<;>cases e)
 ·cases e
theorem q5F(X:Ξ.In h)(e:typeIn Ξ (.ref f)=some (.type "function")):∃oI,h.get? f=some oI/\oI.cls=.type "function" := by
 unfold typeIn at e;dsimp only at e;cases q:Ξ.lookup f with
 |none=>rw[q]at e;cases e
 |some o=>rw[q]at e;exact⟨o,X _ _ q,by simpa using e⟩
set_option tactic.hygienic true in
theorem excI_of(X:Ξ.In h)(q:excInI Ξ C f=true):ExcI h C f:=by
 unfold excInI at q;split at q
 ·rename_i dd cd sl ho
  split at q
  ·rename_i C' bm k0 k1 k2 k3 n k5 hm hs
   obtain⟨nm,bs,mro,ns,qn,hd,sn,sub,ab,col,mY⟩:=cd;simp only[Dy,beq_iff_eq,Rc]at q hm;obtain⟨⟨⟨⟨⟨⟨z1,z2⟩,z3⟩,z4⟩,z5⟩,z6⟩,z7⟩:=q;subst z1;subst z2;subst hm;subst z3;obtain⟨l⟩:=sl;have hs:l=_:=hs;subst hs;obtain⟨oI,e1,e2⟩:=q5F X z7;have N1:=Heap.Ns.of_isNs (isNs_of_in X z5);exact⟨bm,ns,nm,qn,bs,hd,sn,sub,ab,col,dd,k0,k1,k2,k3,k5,_,oI,X _ _ ho,N1,KG X N1 z6,tail_of_in X z4,e1,e2⟩
  ·cases q
 ·cases q
theorem Qd{os:OsState}(J:ExcI h C f)(ca:rest.length<=sizeLine)(hq:∀h' e,Heap.MadeExcOf h h' e (.ref C) rest->wpAny (model prog w) A (call (.ref f) (.ref e::rest)) (λr s'=>r=.none/\Q (.done (.ret (.ref e))) s') E ⟨h',g,d,t,os⟩):
  wpAny (model prog w) A (Builtin.«type.__call__» ⟨.ref C::rest, []⟩) Q E ⟨h,g,d,t,os⟩:=by
 obtain⟨bm,N,nm,qn,bs,hdct,sn,sub,ab,col,dd,k0,k1,k2,k3,k5,mN,oI,hC,hn,hi,T,gH,gI⟩:=J.ex;have Fn:=PySem.F.excBase_ValueError
 repeat (first|with_reducible refine GY hC ?_|with_reducible refine wpAny_madeBy_exc hC ?_|wp_step)
 refine codeAny_call_builtin_code (Code.quiet_builtin _ Fn.quiet) (wpAny_check_new_subU Fn (by decide) T hC ?_);refine codeAny_exc_new_subU Fn (by decide) Fn T hC ?_ ca;show wpAny _ _ _ _ _ _;have kk:∀b o,h.get? b=some o->((h.push { cls:=.type "tuple", data:=.seq rest.toArray }).push { cls:=.ref C,data:=.fields #[.ref h.objs.size,.none,.none,.none,.bool false,.none] }).get? b=some o :=
  λb o e=>Heap.get?_push_of_some _ (Heap.get?_push_of_some _ e)
 have gJ:((h.push { cls:=.type "tuple", data:=.seq rest.toArray }).push
   { cls:=.ref C,data:=.fields #[.ref h.objs.size,.none,.none,.none,.bool false,.none] }).get? (h.objs.size+1)=some
   { cls:=.ref C,data:=.fields #[.ref h.objs.size,.none,.none,.none,.bool false,.none] }:=by heap_get
 have eL:=kk _ _ hC;have gK:=hn.keeps kk;have lC:=T.keeps kk;have oX:(Value.ref C::bm).contains (.ref C)=true:=by simp
 unfold isInstance
 repeat (first|with_reducible refine GY gJ ?_|(with_reducible refine G5 eL ?_;rw[oX])|wp_step)
 show wpAny _ _ (typeLookup (.ref C) _) _ _ _;refine wpAny_typeLookup_tail eL gK lC Fn.mroIs Fn.init.lookup ?_;rw[hi];refine G3 (GU ?_);unfold bindSpecial;refine GU (wpAny_typeOf (T := "function") ⟨_,kk _ _ gH,gI⟩ ?_);rw[G4 (by decide)];refine GV (GU (GW (hq _ (h.objs.size+1) ⟨kk,Heap.get?_none_of_le (RY _),h.objs.size,gJ,Heap.get?_none_of_le (UZ _),?_⟩) (λr s' hr=>?_) λ_a _a x=>x))
 ·exact Heap.get?_push_of_some _ (Heap.get?_push_at rfl rfl)
 ·obtain⟨rfl,hQ⟩:=hr
  wp_walk;exact hQ
theorem GE(J:ExcI s.heap C f)(ca:rest.length<=sizeLine)(hq:∀h' e,Heap.MadeExcOf s.heap h' e (.ref C) rest->wpAny (model prog w) (A.under (.builtin "type.__call__" ⟨.ref C::rest, []⟩)) (call (.ref f) (.ref e::rest)) (λr s'=>r=.none/\Q (.ref e) s') E { s with heap:=h' }):
  wpAny (model prog w) A (call (.ref C) rest) Q E s:=by
 obtain⟨h,g,d,t,os⟩:=s;obtain⟨bm,N,nm,qn,bs,hdct,sn,sub,ab,col,dd,k0,k1,k2,k3,k5,mN,oI,hC,hn,hi,T,gH,gI⟩:=J.ex;have f1:=tc_lookup;have f2:=tc_bind (.ref C);have hT:(⟨h,g,d,t,os⟩:Shared).TypeIs (.ref C) "type" := ⟨_,hC,rfl⟩;refine Uh (codeAny_of_tree ?_);show wpAny _ _ (callAny (.ref C) _) _ _ _
 repeat (any_goals (first|assumption|with_reducible refine GY hC ?_|wp_step))
 refine⟨rfl,?_⟩;refine codeAny_call_builtin_at (Code.quiet_builtin _ (by decide+kernel)) entry_typeCall (wpAny_check_type_call_sub hC (Qd J ca λh' e hm=>?_));exact hq h' e hm
noncomputable abbrev excOb(C:Addr)(d:Option Addr)(t:Addr):Obj:={ cls:=.ref C,dict:=d,data:=.fields #[.ref t,.none,.none,.none,.bool false,.none] }
theorem Xs(hh:A.handled=none)(h:wpAny (model prog w) A x (λv ag=>∃e d t,v=.ref e/\ExcI ag.heap C f/\ag.heap.get? e=some (excOb C d t)/\E (.ref e) ag) E s):wpAny (model prog w) A (raiseStmt env (some x) none) Q E s:=by
 unfold raiseStmt;refine GU (GW h (λv ag cM=>?_) λ_a _a x=>x);obtain⟨e,dx,tx,rfl,J,he,hE⟩:=cM;obtain⟨bm,N,nm,qn,bs,hdct,sn,sub,ab,col,dd,k0,k1,k2,k3,k5,mN,oI,hC,hn,hi,T,gH,gI⟩:=J.ex;have oY:(Value.ref C::bm).contains (.type "BaseException")=true:=by rw[Bk,T.hasType (b:=true) (by decide),Bool.or_true]
 obtain⟨hp,g,d,tk,os⟩:=ag
 repeat (first|with_reducible refine GY he ?_|with_reducible refine GY hC ?_|(with_reducible refine G5 hC ?_;rw[oY])|wp_step)
 exact wpAny_raiseNew_none hh hE
theorem Raise_I(hh:A.handled=none)(cO:(backTo aG (starEach args env)).any (·.1)=false)(h:wpAny (model prog w) A (eval (.Name x np) env) (λc ag=>c=.ref C/\wpAny (model prog w) A (evalArgs (.ref C) true (backTo aG (starEach args env)) [])
   (λa bz=>a.kw=[]/\a.pos.length<=sizeLine/\ExcI bz.heap C f/\∀h' e,Heap.MadeExcOf bz.heap h' e (.ref C) a.pos ->
    wpAny (model prog w) (A.under (.builtin "type.__call__" ⟨.ref C::a.pos, []⟩)) (call (.ref f) (.ref e::a.pos)) (λr s'=>r=.none/\∃d t,ExcI s'.heap C f/\s'.heap.get? e=some (excOb C d t)/\E (.ref e) s') E { bz with heap:=h' }) E ag) E s):
  wpAny (model prog w) A (exec (.Raise (some (.Call (.Name x np) args [] aG)) none pos) env) Q E s:=by
 rw[arm_exec_Raise];refine GU (G8 (Xs (C:=C) (f:=f) hh ?_));refine GU (GW (wpAny_Call_ofName (GW h (λc ag cM=>?_) λ_a _a x=>x)) (λv dA fe=>GU (G8 (GV fe))) λ_a _a x=>x);obtain⟨rfl,cM⟩:=cM;unfold callWith;refine GU (G3 (GW cM (λa bz cN=>GU (G8 ?_)) λ_a _a x=>x));obtain⟨aI,oZ⟩:=a;obtain⟨p8,ar,J,cN⟩:=cN;obtain rfl:oZ=[]:=p8;obtain⟨bm,N,nm,qn,bs,hdct,sn,sub,ab,col,dd,k0,k1,k2,k3,k5,mN,oI,hC,hn,hi,T,gH,gI⟩:=J.ex;obtain⟨hp,g,d,tk,os⟩:=bz;simp only[cO];refine GU (wpAny_keeperOf_exc hC ?_);refine GU (GE J ar λh' e hm=>GW (cN h' e hm) (λr s' z=>⟨z.1,GU (G3 (wpAny_point (GV ?_)))⟩) λ_a _a x=>x);obtain⟨_,dx,tx,J',he,hE⟩:=z;exact⟨e,dx,tx,rfl,J',he,hE⟩
theorem bexc_init(J:ExcI s.heap C f)(he:s.heap.get? e=some (excOb C dx tx))(ca:rest.length<=sizeLine)(hq:∀h' t',(∀b o,b≠e->s.heap.get? b=some o->h'.get? b=some o)->h'.get? e=some (excOb C dx t')->R (.ok (.ret .none)) { s with heap:=h' }):
  codeAny (model prog w) A (.call (.builtin "ValueError.__init__") ⟨.ref e::rest, []⟩) R s:=by
 obtain⟨bm,N,nm,qn,bs,hdct,sn,sub,ab,col,dd,k0,k1,k2,k3,k5,mN,oI,hC,hn,hi,T,gH,gI⟩:=J.ex;have F:=PySem.F.excBase_ValueError;obtain⟨h,g,d,t,os⟩:=s;refine G6 F.init.plain F.initEntry (wpAny_check_init_subU F T hC he rfl ?_);have cE:e≠h.objs.size:=De (Heap.lt_size he);have p9:(h.push { cls:=.type "tuple", data:=.seq rest.toArray }).get? e=some (excOb C dx tx):=Heap.get?_push_of_some _ he
 wp_walk;refine hq _ h.objs.size (λb o hb q=>?_) ?_
 ·rw[Heap.get?_update_other _ _ (Ne.symm hb)];exact Heap.get?_push_of_some _ q
 ·exact(Heap.get?_update_self _ p9 rfl).trans rfl
end PySem.W
namespace L2
open PySem PySem.Spec PyProof.Rows
noncomputable def q6J(a C:Addr)(d:Option Addr):Heap->Prop:=λh=>∃t,h.get? a=some (W.excOb C d t)
noncomputable abbrev excO(a C:Addr)(d:Option Addr):HO:=.ext (q6J a C d)
theorem XW(e:h.get? a=some (W.excOb C d t)):ObjOk P w H h a (excO a C d):=
 ⟨⟨t,e⟩,⟨_,e⟩,λh1 h2 ⟨t',e'⟩ k=>⟨t',k _ e'⟩⟩
theorem j5(x:HOk P w H h)(e:H a=some (excO a C d)):∃t,h.get? a=some (W.excOb C d t):=(x a _ e).1
structure ExcK(Ξ:PySem.W.Frag)(C f:Addr):Prop where
 i:W.excInI Ξ C f=true
 sa:W.findIn Ξ (.ref C) "__setattr__" = some (some (.builtin "object.__setattr__"))
 ov:W.excOver Ξ C=true
 ga:W.findIn Ξ (.ref C) "__getattribute__" = some (some (.builtin "BaseException.__getattribute__"))
 gt:W.findIn Ξ (.ref C) "__getattr__" = some none
 mr:W.mroIn Ξ C (.type "BaseException")=some true
 hd:W.hasDictIn Ξ C=true
noncomputable def q7y(Ξ:PySem.W.Frag)(C:Addr)(ta tv:TE)(f:Str):TS:=λD σ H=>tv σ H λy H1=>ta σ H1 λx H2=>∃a,x=.ref a/\H2 a=some (excO a C none)/\∀d,H2 d=none->D.nx σ (upd (upd H2 d (.xd [(f,y)])) a (excO a C (some d)))
noncomputable def tFs3(a b:Str)(te:TE):TE:=λσ H Q=>te σ H λv H1=>∃n,v=.int n/\n.natAbs.log2<1920/\(Str.ofString (toString n)).length<=10000/\Q (.str (Str.empty++a++(Str.ofString (toString n))++b)) H1
theorem q6x(la:a.length<=10000)(lb:b.length<=10000)(he:QE X e te):QE X (.JoinedStr [.Constant (.str a) ka pa,.FormattedValue e (-1) none pf,.Constant (.str b) kb pb] pos) (tFs3 a b te):=⟨by
 intro a5 s σ H Q I h;refine wpAny_JoinedStr ?_;refine Calls.Constant_str ⟨a,_,rfl,by rw[Uq,show Str.empty.length=0 from rfl,Uf];lia,?_⟩;show wpAny _ _ (eval (.FormattedValue e (-1) none pf) X.env) _ _ _;refine wpAny_FormattedValue_plain (thn (he.h a5 _ σ H _ (I.tok _) h) λu s1 zz=>?_);obtain⟨v,H1,I1,rv,n,ev,hn,ln,q⟩:=zz;subst ev;obtain⟨t,rfl⟩:=(show ∃t,u=Value.int n t from rv);refine wpAny_formatField_int hn ?_;refine⟨_,_,rfl,by rw[Uq,Uq,show Str.empty.length=0 from rfl,Uf];lia,?_⟩;have lz:(Str.empty++a++Str.ofString (toString n)++b).length<=sizeLine:=by rw[Uq,Uq,Uq,show Str.empty.length=0 from rfl,Uf];lia
 refine Calls.Constant_str ⟨b,_,rfl,lz,lz,?_⟩;exact⟨.str (Str.empty++a++Str.ofString (toString n)++b),H1,(((I1.tok _).tok _).tok _),⟨_,rfl⟩,q⟩⟩
theorem q3N(c:ExcK X.K C g)(n:NoAttr X.K C f)(ha:QE X o ta)(hv:QE X value tv)(hs:swapsWith value (some (.Attribute o f pos')) pos.line X.env=pure false:=by rfl):QS X (.Assign [.Attribute o f pos'] value pos) (q7y X.K C ta tv f):=⟨by
 intro a5 s σ H D I h;refine Us (thn (hv.h a5 s σ H _ I h) λu s1 ⟨y,H1,I1,ry,q⟩=>thn (ha.h a5 s1 σ H1 _ I1 q) λov s2 ⟨x,H2,I2,rx,a,ex,ea,q2⟩=>?_) hs;subst ex;obtain rfl:ov=Value.ref a:=rx;obtain⟨t,hx⟩:=j5 I2.hok ea;refine W.setX_new I2.kIn (C:=C) (ox:=W.excOb C none t) ⟨hx,rfl,rfl,trivial⟩ rfl rfl c.sa c.ov n λh' d hd k e1 e2=>?_;obtain⟨od,es,ep,ho,hr⟩:=e2;have hf:=(Heap.get?_some_iff.mp ho).2;have hm:(s2.heap.push od).get? d=some od:=by rw[hd];exact Heap.get?_push_size _ hf
 have ne:a≠d:=by rw[hd];exact De (Heap.lt_size hx)
 have J:=I2.laid (a:=d) (o:=.xd [(f,y)]) (h':=s2.heap.push od) (t':=s2.toks) (λb v q=>Heap.get?_push_of_some _ q) (by rw[hd];exact UZ _)
  ⟨_,⟨od,es,ep,hm,hr⟩,λz=>by
   show RelO (([(f,y)]:List (Str×V)).lookup z) (if z=f then some u else none);rw[Dj];by_cases q:z=f
   ·subst q;rw[Ul,G4 rfl];exact ry
   ·rw[GZ q,beq_eq_false_iff_ne.mpr q];exact True.intro⟩
 have fr:H2 d=none:=I2.hok.fresh (by rw[hd];exact UZ _);have J2:=J.write (x:=a) (e:=a) (o:=excO a C (some d)) (h':=h') (t':=s2.toks+2) (by rw[upd_ne ne,ea];exact True.intro) (.inl rfl) (λb v hb q=>?_) ⟨_,e1⟩ (XW (t:=t) e1)
 ·exact⟨σ,_,J2,q2 d fr⟩
 ·by_cases hbd:b=d
  ·subst hbd;rw[hm]at q;rw[ho];exact q
  ·have q':s2.heap.get? b=some v:=by
    have hz:b≠s2.heap.objs.size:=by rw[<-hd];exact hbd
    have:=Heap.get?_some_iff.mp q;refine Heap.get?_some_iff.mpr ⟨?_,this.2⟩;have q1:=this.1;revert q1 hz;cases s2.heap;intro hz q1;simp only[Heap.push]at q1 hz ⊢;rw[R9,GZ hz]at q1;exact q1
   exact k b v hb q'⟩
structure q4c(Ξ:PySem.W.Frag)(mg:Str->Option Value)(x:Str)(B:Addr):Prop where
 b:mg x=some (.ref B)
 sp:W.specialIn Ξ (.ref B) "__getattribute__" = some (some (.builtin "type.__getattribute__"))
 rd:W.readsIn Ξ B (.type "type")=true
 fi:W.findCls Ξ (.ref B) (.type "type") "__init__" = some (.val (.builtin "ValueError.__init__"))
noncomputable def q6z(C:Addr)(ta:TA):TS:=λD σ H=>ta σ H λvs H1=>∃a d rest,vs=.ref a::rest/\H1 a=some (excO a C d)/\rest.length<=1000/\D.nx σ H1
set_option tactic.hygienic true in
theorem q0Z(c:ExcK X.K C g)(b:q4c X.K X.mg x B)(ha:QA X (e::es) tl)(hg:Gl X x:=by rfl)(bb:(x==("__debug__" : Str))=false:=by decide)(dq:starEach (e::es) X.env=(false,eval e X.env)::starEach es X.env:=by rfl)(bH:(backTo pos (starEach es X.env)).any (·.1)=false:=by rfl)(ht:eval (.Call (.Attribute (.Name x p) "__init__" aI) (e::es) [] pos) X.env=(do
   let ov <-eval (.Name x p) X.env
   standAt aI.atName;let(f,first) <-holding [ov] (getMethod ov "__init__" pl)
   callWith pos f first (backTo pos (starEach (e::es) X.env)) (backToKw pos (keywordEach [] X.env))):=by rfl)(hs:swapsWith (.Call (.Attribute (.Name x p) "__init__" aI) (e::es) [] pos) none pos'.line X.env=pure false:=by rfl):
  QS X (.Expr (.Call (.Attribute (.Name x p) "__init__" aI) (e::es) [] pos) pos') (q6z C tl):=⟨by
 intro a5 s σ H D I h;refine UL ?_ I.quiet hs;refine DH (pl:=pl) (vV I hg b.b ?_ bb) ht;refine W.method_cls I.kIn b.sp (W.cls_value I.kIn b.rd b.fi rfl ?_);refine PyProof.Rows.callWith_builtin1 (thn (ha.h pos a5 _ σ H _ (I.tok _) h) λus s1 ⟨vs,H1,I1,r1,a,d,rest,ev,ea,hl,q1⟩=>?_) dq bH;subst ev;cases r1 with
 |cons ra rr=>
 rename_i u cq _;obtain rfl:u=Value.ref a:=ra;obtain⟨t,hx⟩:=j5 I1.hok ea;refine Uh (W.bexc_init (W.excI_of I1.kIn c.i) hx (by rw[<-rr.length,Uf];lia) λh' t' k e1=>?_);have J:=I1.write (x:=a) (e:=a) (o:=excO a C d) (h':=h') (t':=s1.toks) (by rw[ea];exact True.intro) (.inl rfl) (λb v hb q=>k b v hb q) ⟨_,e1⟩ (XW (t:=t') e1);refine⟨σ,H1,?_,q1⟩;have eH:upd H1 a (excO a C d)=H1:=by
  funext b;unfold upd;split
  ·rename_i q;rw[q,ea]
  ·rfl
 rw[eH]at J;exact J⟩
structure Fli(P:Program)(w:World)(outer:List Env)(H:Hp)(s:Shared)(a:Addr)(C:Value)(d:Option Addr)(H':Hp)(s':Shared):Prop where
 own:∀o,s'.heap.get? a=some o->okey o=(d,some .none)
 os:s'.os=s.os
 bare:AllBare s'.gens
 fly:∃(B:Heap)(a0:Value),Heap.FlyingW B outer a C a0 s'.heap/\HOk P w H' B/\(∀b∈frs outer,B.get? b=none)/\(∀b o,s.heap.get? b=some o->H b=none->b∉frs outer->B.get? b=some o) /\
  ∀b o,s.heap.get? b=some o->H b≠none->∃o',B.get? b=some o'
 up:∀b o,s.heap.get? b=some o->H b=none->b∈frs outer->∃sl,s'.heap.get? b=some { o with slots:=sl }
 free:∀b o,s.heap.get? b=some o->H b=none->H' b=none
 tups:∀b xs,H b=some (.tup xs)->H' b=some (.tup xs)
 frzs:∀b o u,H b=some (.frz o u)->H' b=some (.frz o u)
 tbls:∀b ps,H b=some (.tbl ps)->∃more,H' b=some (.tbl (ps++more))
noncomputable def CXe(P:Program)(w:World):CXT:=λouter H s E e s'=>∃a C d H',e=.ref a/\Fli P w outer H s a C d H' s'/\E C d H'
theorem CXe.mono(h:CXe P w outer H s E e s')(k:∀C d H',E C d H'->E' C d H'):CXe P w outer H s E' e s':=by
 obtain⟨a,C,d,H',e1,f,q⟩:=h;exact⟨a,C,d,H',e1,f,k C d H' q⟩
structure Body(X:Cx)(outer:List Env):Prop where
 stk:X.stack=X.env::outer
 out:X.outer=outer
 fr:X.env.frame=some X.env.locals
 ex:X.ex=[]
theorem Inv.old(I:Inv X a5 σ H s)(q:X.s₀.heap.get? b=some o):b≠X.env.locals:=λz=>by
 subst z;exact absurd (Heap.lt_size q) (Nat.not_lt.mpr I.ok.above)
theorem Body.mem(Y:Body X outer)(hb:b∈frs X.stack):b=X.env.locals\/b∈frs outer:=by
 rw[Y.stk]at hb;obtain⟨env,he,hf⟩:=Dr.mp hb;rcases Da.mp he with rfl|he
 ·rw[Y.fr]at hf;exact .inl (Option.some.inj hf).symm
 ·exact .inr (Dr.mpr ⟨env,he,hf⟩)
theorem Body.in_(Y:Body X outer)(hb:b∈frs outer):b∈frs X.stack:=by
 rw[Y.stk];obtain⟨env,he,hf⟩:=Dr.mp hb;exact Dr.mpr ⟨env,.tail _ he,hf⟩
noncomputable def untr(H:Hp)(a:Addr):Hp:=λb=>if b=a then none else H b
theorem xy(h:b≠a):untr H a b=H b:=by unfold untr;rw[GZ h]
theorem K2:untr H a a=none:=by unfold untr;rw[G4 rfl]
theorem HOk.untr{P:Program}{w:World}{H:Hp}{h h':Heap}{a:Addr}{φ:Heap->Prop}(x:HOk P w H h)(ea:H a=some (.ext φ))(k:∀b u,b≠a->H b≠none->h.get? b=some u->h'.get? b=some u):HOk P w (untr H a) h':=λb o e=>by
 have hb:b≠a:=λz=>by rw[z,K2]at e;cases e
 rw[xy hb]at e;refine(x b o e).stay (λc u hc q=>?_) (λc hc=>?_) λc xs hc=>?_
 ·rcases hc with rfl|hc
  ·exact k _ u hb (by rw[e];simp) q
  ·exact k c u (λz=>by rw[z,ea]at hc;cases hc) (by rw[hc];simp) q
 ·rw[xy λz=>by rw[z,ea]at hc;cases hc];exact hc
 ·rw[xy λz=>by rw[z,ea]at hc;cases hc];exact hc
theorem XQ(Y:Body X outer)(I:Inv X a5 σ H s)(hA:A.frames=some X.stack)(hx:H e=some (excO e C d))(pc:X.s₀.heap.get? e=none)(hE:E (.ref C) d (untr H e)):
  wpAny M A (leaving X.env (.ref e)) (λ_a fb=>CXe X.prog X.w outer X.H₀ X.s₀ E (.ref e) fb) R s:=by
 obtain⟨t0,mZ⟩:=j5 I.hok hx;have eN:∀env∈X.stack,∀b,env.frame=some b->b∈e::frs X.stack:=λenv he b hb=>.tail _ (Dr.mpr ⟨env,he,hb⟩);have hl:s.heap.FunFrames (W.hideAll s.heap (e::frs X.stack)) X.stack:=W.funFrames_hide I.stack eN;rw[Y.stk]at hA;have ob:∀b o,X.s₀.heap.get? b=some o->b∉frs outer->b∉e::frs X.stack:=λb o q n z=>by
  rcases Da.mp z with rfl|z
  ·rw[pc]at q;cases q
  ·rcases Y.mem z with z|z
   ·exact I.old q z
   ·exact n z
 have nx:∀b,b∉X.ex:=λb=>by rw[Y.ex];simp
 have fs:∀b,b∈frs outer↔b∈X.fs:=λb=>by show _↔b∈frs X.outer;rw[Y.out]
 refine GW (DK.any (QL _ _) (wpAny_leaving_firstW (base:=W.hideAll s.heap (e::frs X.stack)) hA (by rw[<-Y.stk];exact hl) Y.fr mZ (λb o q=>Bg _ q) (DX _ (.head _)) rfl rfl rfl (Q:=λ_a s'=>Heap.LeftW (W.hideAll s.heap (e::frs X.stack)) (X.env::outer) e (.ref C) (.ref t0) s.heap s'.heap/\∃h',s'={ s with heap:=h' }) λh' q=>⟨q,h',rfl⟩)) (λ_a s' q=>?_) λ_a _a q=>q.1;obtain⟨⟨⟨k1,⟨_,_,k2⟩,k3,k4⟩,h',rfl⟩,kd⟩:=q;refine⟨e,.ref C,d,untr H e,rfl,⟨?_,I.os,I.bare,⟨_,.ref t0,⟨k1,DX _ (.head _),k2,k3⟩,?_,?_,?_,?_⟩,?_,?_,?_,?_,?_⟩,hE⟩
 ·exact λo q=>(kd.get (d:=0) mZ q)
 ·exact I.hok.untr hx λb u hb pd q=>D0 _ q λhm=>by
   rcases Da.mp hm with z|hm
   ·exact hb z
   ·exact pd (I.stkFree b hm)
 ·exact λb hb=>DX _ (.tail _ (Y.in_ hb))
 ·exact λb o q n hb=>D0 _ (I.base.keep b o q n (λz=>hb ((fs b).mpr z)) (nx b)) (ob b o q hb)
 ·intro b o q n
  obtain⟨o',e1⟩:=I.base.there b o q (nx b);refine⟨o',D0 _ e1 (ob b o q λz=>n (I.ok.frf b ((fs b).mp z)))⟩
 ·intro b o q n hb
  obtain⟨sl,e1⟩:=I.base.slot b o q n ((fs b).mp hb) (nx b);obtain⟨_,o',c8,hd⟩:=I.ok.funs.mem (show b∈X.outer.filterMap (·.frame) from(fs b).mp hb);rw[q]at c8;cases c8;obtain⟨eI,e2⟩:=k4 b _ e1 hd;exact⟨eI,e2⟩
 ·intro b o q n
  have:=I.base.free b o q n (nx b);unfold untr;split
  ·rfl
  ·exact this
 ·intro b xs q
  have:=I.base.tups b xs q;rw[xy λz=>by rw[z,hx]at this;cases this];exact this
 ·intro b o u q
  have:=I.base.frzs b o u q;rw[xy λz=>by rw[z,hx]at this;cases this];exact this
 ·intro b ps q
  obtain⟨m,this⟩:=I.base.tbls b ps q;exact⟨m,by rw[xy λz=>by rw[z,hx]at this;cases this];exact this⟩
theorem Y3(Y:Body X outer)(I:Inv X a5 σ H s)(hA:A.frames=some X.stack)(hx:CXe X.prog X.w X.stack H s E e s'):
  wpAny M A (leaving X.env e) (λ_a fb=>CXe X.prog X.w outer X.H₀ X.s₀ E e fb) R s':=by
 obtain⟨a,C,d,H',rfl,F,hE⟩:=hx;obtain⟨B,a0,fl,hok,nb,kp,th⟩:=F.fly;have ob:∀b o,X.s₀.heap.get? b=some o->b∉frs outer->b∉frs X.stack:=λb o q n z=>by
  rcases Y.mem z with z|z
  ·exact I.old q z
  ·exact n z
 have nx:∀b,b∉X.ex:=λb=>by rw[Y.ex];simp
 have fs:∀b,b∈frs outer↔b∈X.fs:=λb=>by show _↔b∈frs X.outer;rw[Y.out]
 rw[Y.stk]at hA fl;refine GW (DK.any (QL _ _) (wpAny_leaves_onW hA Y.fr fl (Q:=λ_a s2=>(Heap.FlyingW B outer a C a0 s2.heap/\s'.heap.UpToSlots s2.heap)/\∃h',s2={ s' with heap:=h' }) λh' x1 x4=>⟨⟨x1,x4⟩,h',rfl⟩)) (λ_a s2 z=>?_) λ_a _a q=>q.1;obtain⟨⟨⟨x1,x4⟩,h',rfl⟩,kd⟩:=z;refine⟨a,C,d,H',rfl,⟨?_,F.os.trans I.os,F.bare,⟨B,a0,x1,hok,λb hb=>nb b (Y.in_ hb),?_,?_⟩,?_,?_,λb xs q=>F.tups b xs (I.base.tups b xs q),λb o u q=>F.frzs b o u (I.base.frzs b o u q),?_⟩,hE⟩
 ·obtain⟨o1,e1,_⟩:=fl.there
  exact λo q=>(kd.get (d:=0) e1 q).trans (F.own o1 e1)
 ·exact λb o q n hb=>kp b o (I.base.keep b o q n (λz=>hb ((fs b).mpr z)) (nx b)) (I.base.free b o q n (nx b)) (ob b o q hb)
 ·intro b o q n
  obtain⟨o',e1⟩:=I.base.there b o q (nx b);cases hb:H b with
  |none=>exact⟨o',kp b o' e1 hb (ob b o q λz=>n (I.ok.frf b ((fs b).mp z)))⟩
  |some u=>exact th b o' e1 (by rw[hb];simp)
 ·intro b o q n hb
  obtain⟨sl,e1⟩:=I.base.slot b o q n ((fs b).mp hb) (nx b);obtain⟨i6,e2⟩:=F.up b _ e1 (I.base.free b o q n (nx b)) (Y.in_ hb);obtain⟨_,o',c8,hd⟩:=I.ok.funs.mem (show b∈X.outer.filterMap (·.frame) from(fs b).mp hb);rw[q]at c8;cases c8;obtain⟨eI,e3⟩:=x4 b _ e2 hd;exact⟨eI,e3⟩
 ·intro b o q n
  obtain⟨o',e1⟩:=I.base.there b o q (nx b);exact F.free b o' e1 (I.base.free b o q n (nx b))
 ·intro b ps q
  obtain⟨m1,e1⟩:=I.base.tbls b ps q;obtain⟨m2,e2⟩:=F.tbls b _ e1;exact⟨m1++m2,by rw[e2,Rw]⟩
noncomputable def q6D:List Str:=["laying","room","word","head","end","limb","small","kind","address"]
noncomputable def wW(n:Int):Str:=(q6D[((n-1000000) % 9).toNat]?).getD ""
noncomputable def wK(n:Int):Int:=(n-1000000) / 9
noncomputable def xfs(n:Int):List (Str×V):=if n<1000000 then[("part",.int n)] else[("word",.str (wW n)),("k",.int (wK n))]
theorem QR(h:n<1000000):xfs n=([("part",.int n)]:List (Str×V)):=G4 h
noncomputable def pV:Option Int->V
 |none=>.non
 |some n=>.int n
theorem q2B(h:pV p=pV q):p=q:=by
 cases p<;>cases q<;>first|rfl|cases h
 rfl
noncomputable def PartIs(d:Option Addr)(H:Hp):Option Int->Prop
 |none=>d=none
 |some n=>∃x,d=some x/\H x=some (.xd (xfs n))
noncomputable def EX(mg:Str->Option Value)(D:Ends)(σ:St):XK:=λC d H'=>∃nm p,mg nm=some C/\PartIs d H' p/\D.bk (some (.str nm)::some (pV p)::σ) H'
noncomputable def Cmp(X:Cx)(E:XK)(σ:St):Prop:=∀a5 H s e s',Inv X a5 σ H s->CXe X.prog X.w X.stack H s E e s'->X.xe e s'
noncomputable def CmpD(r:Prop)(X:Cx)(D:Ends):Prop:=(∀σ,Cmp X (EX X.mg D σ) σ)/\(r->∀a5 σ H s e C d,Inv X a5 σ H s->H e=some (excO e C d)->X.s₀.heap.get? e=none->EX X.mg D σ (.ref C) d (untr H e)->X.xe (.ref e) s)
structure QX(r:Prop)(X:Cx)(st:Stmt)(t:TS):Prop where
 h:∀a5 s σ H D,CmpD r X D->Inv X a5 σ H s->t D σ H->wpAny (model X.prog X.w) X.A (exec st X.env) (SP X a5 D) X.xe s
structure QXs(r:Prop)(X:Cx)(st:List Stmt)(t:TS):Prop where
 h:∀a5 s σ H D,CmpD r X D->Inv X a5 σ H s->t D σ H->wpAny (model X.prog X.w) X.A (execs st X.env) (SP X a5 D) X.xe s
noncomputable abbrev TX:=St->Hp->VK->XK->Prop
structure QXe(X:Cx)(e:Expr)(t:TX):Prop where
 h:∀a5 s σ H Q E,Cmp X E σ->Inv X a5 σ H s->t σ H Q E->wpAny (model X.prog X.w) X.A (eval e X.env) (EP X a5 σ Q) X.xe s
section
variable {r:Prop}{X:Cx}{st:Stmt}{rest:List Stmt}{t u:TS}{e:Expr}{tx:TX}{pos:Pos}
theorem qA(h1:QX r X st t)(h2:QXs r X rest u):QXs r X (st::rest) (tSeq t u):=⟨λa5 s σ H D c I h=>by
 refine Ue (thn (h1.h a5 s σ H { D with nx:=u D } c I h) λf s1 q=>?_);cases f with
 |next=>
  obtain⟨ah,H',I',q⟩:=q;exact h2.h a5 s1 ah H' D c I' q
 |ret v=>exact q
 |brk=>exact q
 |cont=>exact q⟩
theorem vC:QXs r X [] Q0:=⟨λa5 s σ H D c I h=>Ud ⟨σ,H,I,h⟩⟩
theorem qw(h1:QX r X st t):QXs r X [st] t:=⟨λa5 s σ H D c I h=>by
 refine Ue (thn (h1.h a5 s σ H D c I h) λf s1 q=>?_);cases f with
 |next=>exact Ud q
 |ret v=>exact q
 |brk=>exact q
 |cont=>exact q⟩
theorem vT(h:QS X.nox st t):QX r X st t:=⟨λa5 s σ H D _ I q=>GW (h.h a5 s σ H D (I.wish _) q) (λ_a _a z=>z.unwish) λ_a _a z=>False.elim z⟩
theorem vR(hc:QT X.nox c tc)(ha:QXs r X a t)(hb:QXs r X b u):QX r X (.If c a b pos) (tIfS tc t u):=⟨λa5 s σ H D k I h=>by
 refine wpAny_If (thn (hc.h.nox a5 s σ H _ I h) λd s1 zz=>?_);obtain⟨H1,I1,q1⟩:=zz;cases d with
 |true=>exact ha.h a5 s1 σ H1 D k I1 q1
 |false=>exact hb.h a5 s1 σ H1 D k I1 q1⟩
noncomputable def q25(tx:TX)(mg:Str->Option Value):TS:=λD σ H=>tx σ H (λ_a H1=>D.nx σ H1) (EX mg D σ)
theorem vg(he:QXe X e tx)(hs:swapsWith e none pos.line X.env=pure false:=by rfl):QX r X (.Expr e pos) (q25 tx X.mg):=⟨λa5 s σ H D k I h=>
 UL (thn (he.h a5 s σ H _ _ (k.1 σ) I h) λv s1 ⟨x,H1,I1,r1,q1⟩=>⟨σ,H1,I1,q1⟩) I.quiet hs⟩
noncomputable def q4S(tx:TX)(mg:Str->Option Value):TS:=λD σ H=>tx σ H D.rt (EX mg D σ)
theorem zD(he:QXe X e tx):QX r X (.Return (some e) pos) (q4S tx X.mg):=⟨λa5 s σ H D k I h=>
 wpAny_Return_some (thn (he.h a5 s σ H _ _ (k.1 σ) I h) λv s1 ⟨x,H1,I1,r1,q1⟩=>⟨x,σ,H1,I1,r1,q1⟩)⟩
noncomputable def q6d(i:Nat)(tx:TX)(mg:Str->Option Value):TS:=λD σ H=>tx σ H (λv H1=>D.nx (σ.set i (some v)) H1) (EX mg D σ)
theorem Jt(hN:X.N.Nodup)(hi:X.N[i]?=some x)(hx:Loc X.env.scope x)(he:QXe X e tx)(hs:swapsWith e (some (.Name x pos')) pos.line X.env=pure false:=by rfl)(hf:X.fn x=true\/X.env.scope.names.lookup x=some .local:=by first|exact .inl rfl|exact .inr rfl|assumption):
  QX r X (.Assign [.Name x pos'] e pos) (q6d i tx X.mg):=⟨λa5 s σ H D k I h=>by
 refine Ut (thn (he.h a5 s σ H _ _ (k.1 σ) I h) λv s1 ⟨y,H1,I1,r1,q1⟩=>?_) hs;exact vE I1 hN hi hx r1 (λs2 I2=>⟨_,H1,I2,q1⟩) hf⟩
theorem YB(F:FnOk X.prog X.w X.K X.mg X.base (CXe X.prog X.w) k f fd ps sp)(hr:Room k X.A)(hb:Binds X.K fd ps [])(hx:Cmp X E σ)(I:Inv X a5 σ H s)(rv:Vals vs us)(h:sp vs H Q E):wpAny (model X.prog X.w) X.A (call (.ref f) us) (EP X a5 σ Q) X.xe s:=by
 have hl:us.length=ps.length:=by rw[<-rv.length];exact F.len _ _ _ _ h
 refine Uh (Uo (F.run X.A X.stack s H ⟨us, []⟩ us vs Q E hr I.env0 (by simpa using hb s us I.kIn (by simpa using hl)) rv h) λrr s' hq=>?_);cases rr with
 |error e=>exact hx a5 H s e s' I hq
 |ok fl=>
  cases fl with
  |ret u=>exact I.after hq
  |next=>exact False.elim hq
  |brk=>exact False.elim hq
  |cont=>exact False.elim hq
structure DefX(P:Program)(w:World)(Ξ:PySem.W.Frag)(mg:Str->Option Value)(base:Heap)(x:Str)(k:Nat)(ps:List Str)(sp:Sp):Prop where
 ex:∃(f:Addr)(fd:FuncData),mg x=some (.ref f)/\W.keepIn Ξ (.ref f)=true/\Binds Ξ fd ps []/\FnOk P w Ξ mg base (CXe P w) k f fd ps sp
structure q3l(P:Program)(w:World)(Ξ:PySem.W.Frag)(mg:Str->Option Value)(base:Heap)(C:Addr)(m:Str)(k:Nat)(ps:List Str)(sp:Sp):Prop where
 ex:∃(f:Addr)(fd:FuncData),Meth Ξ C m f/\Binds Ξ fd ps []/\FnOk P w Ξ mg base (CXe P w) k f fd ps sp
noncomputable def q26(sp:Sp)(t:TA):TX:=λσ H Q E=>t σ H λvs H1=>sp vs H1 Q E
theorem vI(D:DefX X.prog X.w X.K X.mg X.base x k ps sp)(hr:Room k X.A)(ha:QA X.nox (e::es) ta)(hg:Gl X x:=by rfl)(bb:(x==("__debug__" : Str))=false:=by decide)(he:starEach (e::es) X.env=(false,eval e X.env)::starEach es X.env:=by rfl)(bH:(backTo pos (starEach es X.env)).any (·.1)=false:=by rfl):
  QXe X (.Call (.Name x p) (e::es) [] pos) (q26 sp ta):=⟨λa5 s σ H Q E hx I h=>by
 obtain⟨f,fd,hm,hk,hb,F⟩:=D.ex;refine Ua (vV I hg hm ?_ bb);refine DR (h₀:=X.base) I.ok.mod.kin hk (GW (ha.h pos a5 s σ H _ (I.wish _) h) (λus s1 ⟨vs,H1,I1,r,q⟩=>⟨I1.unwish.kIn,?_⟩) λ_a _a z=>False.elim z) he bH;exact YB F hr hb hx I1.unwish r q⟩
noncomputable def q2v(C:Addr)(m:Str)(sp:Sp)(ta:TE)(t:TA):TX:=λσ H Q E=>ta σ H λx H1=>∃a dx fs,x=.ref a/\H1 a=some (.ins C dx fs)/\fs.lookup m=none/\t σ H1 λvs H2=>sp (x::vs) H2 Q E
theorem qY(hq:QE X.nox o ta)(c:Cls X.K C)(D:q3l X.prog X.w X.K X.mg X.base C m k ps sp)(hr:Room k X.A)(ha:QA X.nox (e::es) tl)(dq:starEach (e::es) X.env=(false,eval e X.env)::starEach es X.env:=by rfl)(bH:(backTo pos (starEach es X.env)).any (·.1)=false:=by rfl)(ht:eval (.Call (.Attribute o m aI) (e::es) [] pos) X.env=(do
   let ov <-eval o X.env
   standAt aI.atName;let(f,first) <-holding [ov] (getMethod ov m pl)
   callWith pos f first (backTo pos (starEach (e::es) X.env)) (backToKw pos (keywordEach [] X.env))):=by rfl):
  QXe X (.Call (.Attribute o m aI) (e::es) [] pos) (q2v C m sp ta tl):=⟨λa5 s σ H Q E hx I h=>by
 obtain⟨f,fd,hm,hb,F⟩:=D.ex;refine DH (pl:=pl) (thn (hq.h.nox a5 s σ H _ I h) λu s1 ⟨x,H1,I1,rx,a,dx,fs,ex,ea,l,q⟩=>?_) ht;subst ex;obtain rfl:u=Value.ref a:=rx;refine xn I1 ea c hm l ?_;refine DR (first:=[.ref a]) (h₀:=X.base) I.ok.mod.kin hm.kp (GW (ha.h pos a5 s1 σ H1 _ (I1.wish _) q) (λus s2 ⟨vs,H2,I2,r,q2⟩=>⟨I2.unwish.kIn,?_⟩) λ_a _a z=>False.elim z) dq bH;exact YB (us:=.ref a::us) (vs:=.ref a::vs) F hr hb hx I2.unwish (.cons rfl r) q2⟩
end
set_option tactic.hygienic true in
theorem q2J(X:Ξ.In h)(q:W.excIn Ξ C dk bc=true):
  ∃bm N nm qn bs hdct sn sub ab col dd k0 k1 k2 k3 k5 mN,h.get? C=some (excClassObj nm qn C N bs bm hdct sn sub ab col dd k0 k1 k2 k3 k5 bc)/\h.Ns N mN/\mN "__init__" = none/\OwnTail h dk bm:=by
 unfold W.excIn at q;split at q
 ·rename_i dd cd sl ho
  split at q
  ·rename_i C' bm k0 k1 k2 k3 n k5 hm hs
   obtain⟨nm,bs,mro,ns,qn,hd,sn,sub,ab,col,mY⟩:=cd;simp only[Dy,beq_iff_eq,Rc]at q hm;obtain⟨⟨⟨⟨⟨z1,z2⟩,z3⟩,z4⟩,z5⟩,z6⟩:=q;subst z1;subst z2;subst hm;subst z3;obtain⟨l⟩:=sl;have hs:l=_:=hs;subst hs;exact⟨bm,ns,nm,qn,bs,hd,sn,sub,ab,col,dd,k0,k1,k2,k3,k5,_,X _ _ ho,.of_isNs (Bl X z5),D2 X z5 z6,W.tail_of_in X z4⟩
  ·cases q
 ·cases q
structure ExcC(Ξ:PySem.W.Frag)(mg:Str->Option Value)(x:Str)(C:Addr):Prop where
 b:mg x=some (.ref C)
 o:W.excIn Ξ C [.type "ValueError",.type "Exception",.type "BaseException",.type "object"] "ValueError.__new__" = true
set_option tactic.hygienic true in
theorem q06(h:H a=none):untr (upd H a o) a=H:=by
 funext b;unfold untr upd;split
 ·rename_i q;rw[q,h]
 ·rfl
theorem Inv.none0(I:Inv X a5 σ H s)(hx:e∉X.ex)(h:s.heap.get? e=none):X.s₀.heap.get? e=none:=by
 cases z:X.s₀.heap.get? e with
 |none=>rfl
 |some o=>
  obtain⟨o',q⟩:=I.base.there e o z hx;rw[h]at q;cases q
theorem ObjOk.here(x:ObjOk P w H h a o):∃u,h.get? a=some u:=by
 cases o with
 |lst xs=>obtain⟨_,_,_,_,e⟩:=x;exact⟨_,e⟩
 |tup xs=>obtain⟨_,_,_,o,e,_⟩:=x;exact⟨o,e⟩
 |dK kvs=>obtain⟨_,_,_,_,o,_,_,e,_⟩:=x;exact⟨_,e⟩
 |dT kvs=>obtain⟨_,_,_,_,o,_,_,e,_⟩:=x;exact⟨_,e⟩
 |set S n=>obtain⟨o,_,_,_,e,_⟩:=x;exact⟨_,e⟩
 |ins C dx fs=>obtain⟨_,_,_,e,_⟩:=x;exact⟨_,e⟩
 |own y=>obtain⟨_,e⟩:=x;exact⟨_,e⟩
 |xd fs=>obtain⟨_,⟨_,_,_,e,_⟩,_⟩:=x;exact⟨_,e⟩
 |rng lo hi=>obtain⟨_,_,_,e⟩:=x;exact⟨_,e⟩
 |frz ob u=>obtain⟨e,_⟩:=x;exact⟨_,e⟩
 |tbl ps=>exact⟨_,(show h.get? a=some _ from x)⟩
 |met f y=>exact⟨_,(show h.get? a=some _ from x)⟩
 |ext φ=>obtain⟨_,⟨o,e⟩,_⟩:=x;exact⟨o,e⟩
theorem Inv.exc(I:Inv X a5 σ H s)(hm:Heap.MadeExcOf s.heap h1 e (.ref C) args):H e=none/\Inv X a5 σ (upd H e (excO e C none)) { s with heap:=h1 }:=by
 obtain⟨k,hn,t,ht,_⟩:=hm;have fr:H e=none:=by
  cases z:H e with
  |none=>rfl
  |some o=>
   obtain⟨u,q⟩:=(I.hok e o z).here;rw[hn]at q;cases q
 refine⟨fr,?_⟩;refine I.un (h':=h1) (t':=s.toks) ⟨λb u q _a _a _a=>k b u q,λb u q _a _a _a=>⟨u.slots,k b u q⟩,λb u q n _a=>?_,λb u q _a=>⟨u,k b u q⟩,λb xs q=>?_,λb u xs q=>?_,λb ps q=>⟨#[],?_⟩⟩ λb u q=>?_
 ·rw[upd_ne λz=>by rw[z,hn]at q;cases q];exact n
 ·rw[upd_ne (qU q fr)];exact q
 ·rw[upd_ne (qU q fr)];exact q
 ·rw[upd_ne (qU q fr),q];simp
 ·by_cases hb:b=e
  ·subst hb;rw[upd_same]at q;cases q;exact XW (t:=t) ht
  ·rw[upd_ne hb]at q
   exact(I.hok b u q).stay (λc v _a q=>k c v q) (λc q=>by rw[upd_ne (qU q fr)];exact q) λc xs q=>by rw[upd_ne (qU q fr)];exact q
noncomputable def q2h(x:Str)(t:TA):TS:=λD σ H=>t σ H λvs H1=>vs.length<=sizeLine/\D.bk (some (.str x)::some .non::σ) H1
theorem q0W(hc:X.calm=true)(hx:X.ex=[])(O:ExcC X.K X.mg x C)(ha:QA X.nox (e::es) ta)(hg:Gl X x:=by rfl)(bb:(x==("__debug__" : Str))=false:=by decide)(he:starEach (e::es) X.env=(false,eval e X.env)::starEach es X.env:=by rfl)(bH:(backTo aG (starEach es X.env)).any (·.1)=false:=by rfl):
  QX True X (.Raise (some (.Call (.Name x np) (e::es) [] aG)) none pos) (q2h x ta):=⟨λa5 s σ H D k I h=>by
 obtain⟨bm,N,nm,qn,bs,hdct,sn,sub,ab,col,dd,k0,k1,k2,k3,k5,mN,hC,hN,pe,T⟩:=q2J I.mod.kin O.o;have hh:=I.ok.hd hc;refine wpAny_Raise_call_subU (C:=C) (nm:=nm) (q:=qn) (N:=N) (bs:=bs) (bm:=bm) (hdct:=hdct) (sn:=sn) (sub:=sub) (ab:=ab) (col:=col) (dd:=dd) (k0:=k0) (k1:=k1) (k2:=k2) (k3:=k3) (k5:=k5)
  PySem.F.excBase_ValueError (by decide) PySem.F.excBase_ValueError (mN:=mN) (T.hasType PySem.F.excBase_ValueError.hasBase) hh (by rw[he];show(false||(backTo aG (starEach es X.env)).any (·.1))=false;rw[bH];rfl) pe (vV I hg O.b ⟨rfl,?_⟩ bb)
 have h1:=ha.h aG a5 s σ H _ (I.wish _) h;rw[he]at h1 ⊢;refine Calls.evalArgs_plain (GW h1 (λvs bz ⟨xs,H1,I1,r,hl,q⟩=>?_) λ_a _a z=>False.elim z);have I2:=I1.unwish;refine⟨rfl,by rw[<-r.length];exact hl,I2.bk _ _ hC,hN.keeps I2.bk,T.keeps I2.bk,λh' e' hm=>?_⟩;obtain⟨fr,J⟩:=I2.exc hm;refine k.2 trivial a5 σ _ _ e' C none J upd_same (I2.none0 (by rw[hx];simp) hm.new) ⟨x,none,O.b,rfl,?_⟩;rw[q06 fr];exact q⟩
noncomputable abbrev kh(n:Int):Prop:=n.natAbs.log2<1920/\(Str.ofString (toString n)).length<=10000/\n<1000000
noncomputable def spI(C:Addr):Sp:=λvs H Q _a=>∃a n,vs=[.ref a,.int n]/\kh n/\H a=some (excO a C none)/\∀d,H d=none->Q .non (upd (upd H d (.xd [("part",.int n)])) a (excO a C (some d)))
structure ExcD(P:Program)(w:World)(Ξ:PySem.W.Frag)(mg:Str->Option Value)(base:Heap)(x:Str)(C:Addr)(k:Nat):Prop where
 b:mg x=some (.ref C)
 ex:∃f fd,ExcK Ξ C f/\Binds Ξ fd ["self","part"] []/\FnOk P w Ξ mg base CX0 k f fd ["self","part"] (spI C)
noncomputable def Yk(x:Str)(t:TA):TS:=λD σ H=>t σ H λvs H1=>∃n,vs=[.int n]/\kh n/\∀d,H1 d=none->D.bk (some (.str x)::some (.int n)::σ) (upd H1 d (.xd [("part",.int n)]))
theorem kB(hc:X.calm=true)(hx:X.ex=[])(O:ExcD X.prog X.w X.K X.mg X.base x C kk)(hr:Room (kk+1) X.A)(ha:QA X.nox (e::es) ta)(hg:Gl X x:=by rfl)(bb:(x==("__debug__" : Str))=false:=by decide)(he:starEach (e::es) X.env=(false,eval e X.env)::starEach es X.env:=by rfl)(bH:(backTo aG (starEach es X.env)).any (·.1)=false:=by rfl):
  QX True X (.Raise (some (.Call (.Name x np) (e::es) [] aG)) none pos) (Yk x ta):=⟨λa5 s σ H D k I h=>by
 obtain⟨f,fd,ck,hb,F⟩:=O.ex;have hh:=I.ok.hd hc;refine PySem.W.Raise_I (C:=C) (f:=f) hh (by rw[he];show(false||(backTo aG (starEach es X.env)).any (·.1))=false;rw[bH];rfl) (vV I hg O.b ⟨rfl,?_⟩ bb);have h1:=ha.h aG a5 s σ H _ (I.wish _) h;rw[he]at h1 ⊢;refine Calls.evalArgs_plain (GW h1 (λus bz ⟨xs,H1,I1,r,n,ev,hn,q⟩=>?_) λ_a _a z=>False.elim z);subst ev;have I2:=I1.unwish;have n5:us.length=1:=by rw[<-r.length];rfl
 refine⟨rfl,by show us.length<=_;rw[n5,Uf];lia,W.excI_of I2.kIn ck.i,λh' e' hm=>?_⟩;obtain⟨fr,J⟩:=I2.exc hm;have r2:Vals [V.ref e',V.int n] (Value.ref e'::us):=.cons rfl r;refine Uh (Uo (F.run _ X.stack _ _ ⟨Value.ref e'::us, []⟩ (Value.ref e'::us) _ (λv H2=>v=.non/\∃d,H1 d=none/\d≠e'/\H2=upd (upd (upd H1 e' (excO e' C none)) d (.xd [("part",.int n)])) e' (excO e' C (some d))) E0 (hr.make C us [])
  (J.env0.make C us []) (by simpa using hb _ (Value.ref e'::us) J.kIn (by simp[n5])) r2 ⟨e',n,rfl,hn,upd_same,λd hd=>⟨rfl,d,?_,?_,rfl⟩⟩) λrr s' dw=>?_)
 ·by_cases z:d=e'
  ·subst z;rw[upd_same]at hd;cases hd
  ·rwa [upd_ne z]at hd
 ·intro z;subst z;rw[upd_same]at hd;cases hd
 ·cases rr with
  |error e=>exact False.elim dw
  |ok fl=>
   cases fl with
   |ret u=>
    obtain⟨v,H2,I3,rv,ev,d,iu,cJ,eH⟩:=J.after dw;subst ev eH;obtain⟨t,ht⟩:=j5 I3.hok (upd_same (H:=upd (upd H1 e' (excO e' C none)) d (.xd [("part",.int n)])) (o:=excO e' C (some d)));refine⟨rv,some d,t,W.excI_of I3.kIn ck.i,ht,?_⟩;refine k.2 trivial a5 σ _ _ e' C (some d) I3 upd_same (I2.none0 (by rw[hx];simp) hm.new) ⟨x,some n,O.b,⟨d,rfl,?_⟩,?_⟩
    ·rw[xy cJ,upd_ne cJ,upd_same,QR hn.2.2]
    ·have eU:untr (upd (upd (upd H1 e' (excO e' C none)) d (.xd [("part",.int n)])) e' (excO e' C (some d))) e'=upd H1 d (.xd [("part",.int n)]):=by
      funext b;unfold untr upd;by_cases z:b=e'
      ·subst z;simp only[Uw];rw[GZ (Ne.symm cJ),fr]
      ·simp only[z,Uk]
     rw[eU];exact q d iu
   |next=>exact False.elim dw
   |brk=>exact False.elim dw
   |cont=>exact False.elim dw⟩
noncomputable def bkX(n:Nat)(mg:Str->Option Value)(E:XK):St->Hp->Prop:=λτ H'=>∃nm p ah,τ=some (.str nm)::some (pV p)::ah/\ah.length=n/\∀C d,mg nm=some C->PartIs d H' p->E C d H'
theorem bkX.ex(h:EX mg { nx:=nx,rt:=Q,bk:=bkX n mg E } σ C d H'):E C d H':=by
 obtain⟨nm,p,hm,hp,gL,p',ah,e,_,k⟩:=h;simp only[List.cons.injEq,Option.some.injEq,V.str.injEq]at e;exact k C d (e.1▸hm) (q2B e.2.1▸hp)
theorem Fun.okX{st:Stmt}(F:Fun Ξ x af st f fd)(S:q00 N ps (qd st))(len:∀vs H Q E,sp vs H Q E->vs.length=ps.length)(aA:∀(ac:Value)(A:Around)(outer:List Env)(s:Shared)(H:Hp)(vs:List V)(Q:VK)(E:XK),Room k (A.deeper (envOfC af (qd st) s.heap.objs.size f ac))->sp vs H Q E ->
   ∃t,QXs True (cxOf (CXe P w) P w Ξ mg base N af (qd st) f ac A outer s H E) (vi st) t/\t { nx:=λ_a H'=>Q .non H',rt:=Q,bk:=bkX N.length mg E } (start N vs) H):FnOk P w Ξ mg base (CXe P w) (k+1) f fd ps sp:=by
 obtain⟨oc,od,kV,bI,pm,an,ac,ct,dZ,rfl,lk,cW⟩:=F.ex;refine q67 lk cW S len λA outer s H vs Q E hr di=>?_;obtain⟨t,h,q⟩:=aA ac A outer s H vs Q E hr di;refine⟨λD σ H1=>D={ nx:=λ_a H'=>Q .non H',rt:=Q }/\t { nx:=λ_a H'=>Q .non H',rt:=Q,bk:=bkX N.length mg E } σ H1,λa5 s1 σ H1 D I hd=>?_,rfl,q⟩;obtain⟨rfl,hd⟩:=hd;have Y:Body (cxOf (CXe P w) P w Ξ mg base N af (qd st) f ac A outer s H E) outer:=⟨rfl,rfl,rfl,rfl⟩;refine GW (h.h a5 s1 σ H1 _ ⟨λσ a5 H s e s' I hx=>?_,λ_ a5 σ H s e C d I hm h0 hx=>?_⟩ I hd) (λfl s' z=>?_) λ_a _a z=>z
 ·exact Y3 Y I I.ok.frames (hx.mono λC d H' z=>bkX.ex z)
 ·exact XQ Y I I.ok.frames hm h0 (bkX.ex hx)
 ·cases fl with
  |next=>exact z
  |ret u=>exact z
  |cont=>exact z
  |brk=>
   obtain⟨ah,H',I',nm,p,ph,e,hl,_⟩:=z;have:=I'.len;rw[e,U8,U8,hl]at this;exact absurd this (by show N.length+1+1≠N.length;lia)
theorem Fli.un(F:Fli P w outer H s a C d H' s'):Un (frs outer) [] H H' s.heap s'.heap/\HOk P w H' s'.heap:=by
 obtain⟨B,a0,fl,hok,nb,kp,th⟩:=F.fly;refine⟨⟨λb o q n hb _a=>fl.1 b o (kp b o q n hb),λb o q n hb _a=>F.up b o q n hb,λb o q n _a=>F.free b o q n,λb o q _a=>?_,F.tups,F.frzs,F.tbls⟩,hok.kept fl.1⟩;cases hb:H b with
 |some u=>
  obtain⟨o',e⟩:=th b o q (by rw[hb];simp);exact⟨o',fl.1 b o' e⟩
 |none=>
  by_cases hf:b∈frs outer
  ·obtain⟨sl,e⟩:=F.up b o q hb hf
   exact⟨_,e⟩
  ·exact⟨o,fl.1 b o (kp b o q hb hf)⟩
theorem Fli.inv(I:Inv X a5 σ H s)(F:Fli X.prog X.w X.stack H s a C d H' s'):Inv X a5 σ H' s' :=
 I.call' F.os F.un.1 F.un.2 F.bare (ch:=[]) λb z=>absurd z (by simp)
theorem Fli.step(F:Fli P w outer H s a C d H' s'):∃B a0,Heap.FlyingW B outer a C a0 s'.heap/\∀h',Heap.FlyingW B outer a C a0 h'->s'.heap.UpToSlots h'->Obk s'.heap h'->Fli P w outer H s a C d H' { s' with heap:=h' }:=by
 obtain⟨B,a0,fl,hok,nb,kp,th⟩:=F.fly;refine⟨B,a0,fl,λh' fq up kd=>⟨λo q=>by
  obtain⟨o1,e1,_⟩:=fl.there;exact(kd.get (d:=0) e1 q).trans (F.own o1 e1),F.os,F.bare,⟨B,a0,fq,hok,nb,kp,th⟩,λb o q n hb=>?_,F.free,F.tups,F.frzs,F.tbls⟩⟩
 obtain⟨sl,e⟩:=F.up b o q n hb;obtain⟨_,o',c8,hd⟩:=fl.2.2.1.mem (show b∈outer.filterMap (·.frame)from hb);rw[e]at c8;cases c8;obtain⟨eI,e2⟩:=up b _ e hd;exact⟨eI,e2⟩
theorem Fli.ty(F:Fli P w outer H s a C d H' s'):PySem.W.Looks M s'.heap (typeOf (.ref a)) C:=by
 obtain⟨B,a0,fl,_⟩:=F.fly;obtain⟨ob,pj,hc⟩:=fl.there;subst hc;exact(PySem.W.Looks.ld pj).andThen .now
noncomputable abbrev Cx.caught(X:Cx)(a:Addr):Cx:={ X with A:=X.A.mark (some (.ref a)),calm:=false,xe:=λ_a _a=>False }
theorem Inv.caught(I:Inv X a5 σ H s)(a:Addr):Inv (X.caught a) a5 σ H s :=
 ⟨⟨I.ok.mod,I.ok.kind,I.ok.glob,I.ok.blt,I.ok.above,I.ok.inj,I.ok.has,I.ok.cab,(λz=>nomatch z),I.ok.frames,I.ok.stk,I.ok.exf,I.ok.bs,I.ok.bsz,I.ok.noex,I.ok.exfs,I.ok.funs,I.ok.frf⟩,I.os,I.bare,I.base,I.loc,I.cell,I.free,I.freeC,I.pin,I.hok,I.len⟩
theorem Inv.back(ok:X.Ok)(I:Inv (X.caught a) a5 σ H s):Inv X a5 σ H s:=⟨ok,I.os,I.bare,I.base,I.loc,I.cell,I.free,I.freeC,I.pin,I.hok,I.len⟩
noncomputable abbrev Cx.tried(X:Cx)(a5:List (Addr×Obj))(xe:Value->Shared->Prop):Cx:={ X with pn:=X.pn++a5,xe:=xe }
theorem Inv.tried(I:Inv X a5 σ H s)(xe:Value->Shared->Prop):Inv (X.tried a5 xe) [] σ H s :=
 ⟨⟨I.ok.mod,I.ok.kind,I.ok.glob,I.ok.blt,I.ok.above,I.ok.inj,I.ok.has,I.ok.cab,I.ok.hd,I.ok.frames,I.ok.stk,I.ok.exf,I.ok.bs,I.ok.bsz,I.ok.noex,I.ok.exfs,I.ok.funs,I.ok.frf⟩,I.os,I.bare,I.base,I.loc,I.cell,I.free,I.freeC,λp hp=>I.pin p (by simpa using hp),I.hok,I.len⟩
theorem Inv.untried(ok:X.Ok)(I:Inv (X.tried a5 xe) cV σ H s):Inv X a5 σ H s :=
 ⟨ok,I.os,I.bare,I.base,I.loc,I.cell,I.free,I.freeC,λp hp=>I.pin p (Df _ hp),I.hok,I.len⟩
structure QH(X:Cx)(hs:List ExceptHandler)(C:Value)(q:Option Int)(t:TS):Prop where
 h:∀a5 σ H1 s1 d H' s a D,Inv X a5 σ H1 s1->Fli X.prog X.w X.stack H1 s1 a C d H' s->PartIs d H' q->t D σ H'->wpAny (model X.prog X.w) X.A (handleBy (.ref a) X.env hs) (SP X a5 D) X.xe s
theorem YQ(hm:X.mg x=some cX)(he:W.exmOne X.K C cX=some false)(hr:QH X hs C qp t)(hg:Gl X x:=by rfl)(bb:(x==("__debug__" : Str))=false:=by decide):
  QH X (.ExceptHandler (some (.Name x p)) nmo suite pos::hs) C qp t:=⟨λa5 σ H1 s1 d H' s a D I F hq h=>by
 have J:=F.inv I;refine Um (Ug (vV (X:=X.caught a) (J.caught a) hg hm ?_ bb)) (by intro q;cases q);refine Ru J.kIn F.ty he _ _ _ s (λ_a _a z=>z) ?_;exact hr.h a5 σ H1 s1 d H' s a D I F hq h⟩
theorem q24(hm:X.mg x=some cX)(he:W.exmOne X.K C cX=some true)(hb:∀a,QSs (X.caught a) (b0::suite) t)(hg:Gl X x:=by rfl)(bb:(x==("__debug__" : Str))=false:=by decide):
  QH X (.ExceptHandler (some (.Name x p)) none (b0::suite) pos::hs) C qp t:=⟨λa5 σ H1 s1 d H' s a D I F hq h=>by
 have J:=F.inv I;refine Um (Ug (vV (X:=X.caught a) (J.caught a) hg hm ?_ bb)) (by intro q;cases q);refine Ru J.kIn F.ty he _ _ _ s (λ_a _a z=>z) ?_;show codeAny _ _ _ _ s;refine codeAny_handlers_suite ?_;obtain⟨B,a0,fl,st⟩:=F.step;refine GW (DK.any (vX _ _) (lands_againW fl (Q:=λ_a s2=>(Heap.FlyingW B X.stack a C a0 s2.heap/\s.heap.UpToSlots s2.heap)/\∃h',s2={ s with heap:=h' }) (E:=λ_a _a=>False) λh' x1 x4=>⟨⟨x1,x4⟩,h',rfl⟩)) (λ_a s2 z=>?_) λ_a _a q=>q.1.elim;obtain⟨⟨⟨fq,up⟩,h',rfl⟩,kd⟩:=z;have J2:=(st h' fq up kd).inv I;refine GW ((hb a).h a5 _ σ H' D (J2.caught a) h) (λf s2 q=>?_) λ_a _a z=>False.elim z;cases f with
 |next=>obtain⟨ah,H2,I2,q⟩:=q;exact⟨ah,H2,I2.back I.ok,q⟩
 |brk=>obtain⟨ah,H2,I2,q⟩:=q;exact⟨ah,H2,I2.back I.ok,q⟩
 |cont=>obtain⟨ah,H2,I2,q⟩:=q;exact⟨ah,H2,I2.back I.ok,q⟩
 |ret u=>obtain⟨v,ah,H2,I2,r,q⟩:=q;exact⟨v,ah,H2,I2.back I.ok,r,q⟩⟩
noncomputable def tTry(n:Nat)(tb:TS)(l:List (Str×(Option Int->TS))):TS:=λD σ H=>tb { D with bk:=λτ H'=>∃nm p ah t,τ=some (.str nm)::some (pV p)::ah/\ah.length=n/\l.lookup nm=some t/\t p D ah H' } σ H
theorem q2x(Y:Body X outer)(hb:∀a5 xe,QXs False (X.tried a5 xe) body tb)(hh:∀nm t C,l.lookup nm=some t->X.mg nm=some C->∀p,QH X (h0::hs) C p (t p)):QS X (.Try body (h0::hs) [] [] pos) (tTry X.N.length tb l):=⟨λa5 s σ H D I h=>by
 refine wpAny_Try_except ?_;refine GW ((hb a5 λe s1=>wpAny (model X.prog X.w) X.A (noteFrame e X.env) (λ_a bz=>wpAny (model X.prog X.w) X.A (setFlight e none) (λ_a dA=>wpAny (model X.prog X.w) X.A (handleBy e X.env (h0::hs)) (SP X a5 D) X.xe dA) X.xe bz) X.xe s1).h [] s σ H _ ⟨λcv cV H1 s1 e s' IY hx=>?_,λz=>z.elim⟩ (I.tried _) h) (λf s1 q=>?_) λ_a _a z=>z
 ·obtain⟨a,C,d,H',rfl,F,nm,p,hm,hp,gL,p',ah,t,e,hl,ht,q⟩:=hx
  simp only[List.cons.injEq,Option.some.injEq,V.str.injEq]at e;obtain⟨rfl,ep,rfl⟩:=e;obtain rfl:=q2B ep;have I1:Inv X a5 cv H1 s1:=IY.untried I.ok;have F:Fli X.prog X.w X.stack H1 s1 a C d H' s':=F;obtain⟨B,a0,fl,st⟩:=F.step;have hA:X.A.frames=some (X.env::outer):=by rw[<-Y.stk];exact I.ok.frames
  rw[Y.stk]at fl;refine GW (DK.any (W9 _ _) (wpAny_looks_onW hA Y.fr fl (Q:=λ_a s2=>(Heap.HeldW B (X.env::outer) a C a0 X.env.locals s2.heap/\s'.heap.UpToSlots s2.heap)/\∃h',s2={ s' with heap:=h' }) (E:=λ_a _a=>False) λh' x1 x4=>⟨⟨x1,x4⟩,h',rfl⟩)) (λ_a s2 z=>?_) λ_a _a q=>q.1.elim;obtain⟨⟨⟨lD,up1⟩,h1,rfl⟩,pk⟩:=z;refine GW (DK.any (vX _ _) (wpAny_landsW (s:={ s' with heap:=h1 }) lD (Q:=λ_a s2=>(Heap.FlyingW B (X.env::outer) a C a0 s2.heap/\h1.UpToSlots s2.heap)/\∃h',s2={ s' with heap:=h' }) (E:=λ_a _a=>False) λh' x1 x4=>⟨⟨x1,x4⟩,h',rfl⟩)) (λ_a s2 z=>?_) λ_a _a q=>q.1.elim;obtain⟨⟨⟨pq,pv⟩,h2,rfl⟩,pw⟩:=z;exact(hh nm t C ht hm p).h a5 cv H1 s1 d H' _ a D I1 (st h2 (by rw[Y.stk];exact pq) (up1.trans pv) (pk.trans pw)) hp q
 ·cases f with
  |next=>obtain⟨ah,H2,I2,q⟩:=q;exact Ud ⟨ah,H2,I2.untried I.ok,q⟩
  |cont=>obtain⟨ah,H2,I2,q⟩:=q;exact⟨ah,H2,I2.untried I.ok,q⟩
  |ret u=>obtain⟨v,ah,H2,I2,r,q⟩:=q;exact⟨v,ah,H2,I2.untried I.ok,r,q⟩
  |brk=>
   obtain⟨ah,H2,I2,nm,p,ph,t,e,hl,_⟩:=q;have:=I2.len;rw[e,U8,U8,hl]at this;exact absurd this (by show X.N.length+1+1≠X.N.length;lia)⟩
theorem xX(I:Inv X a5 σ H s)(hN:X.N.Nodup)(hi:X.N[i]?=some x)(hk:X.env.scope.names.lookup x=some .local)(h:∀s',Inv X a5 (σ.set i none) H s'->Q () s'):wpAny M A (do bindName X.env x .none;unbindBehindTheSuite X.env x pos) Q E s:=by
 obtain⟨m,hn,hl⟩:=id I.loc;have eT:(X.env.scope.kind == .class||(X.env.scope.kind == .module&&X.env.locals != X.env.globals))=false:=by rw[I.ok.kind];rfl
 have cne:=I.cne;obtain⟨oL,_,_,mH,_⟩:=id hn;refine wpAny_nameGoes_keeps hk hn eT λh' v eF hs=>h _ ⟨I.ok,I.os,I.bare,⟨λb o e n hb hx=>?_,λb o e n hb hx=>?_,I.base.free,λb o e hx=>?_,I.base.tups,I.base.frzs,I.base.tbls⟩,⟨_,eF,λj y v' e1 e2 e3=>?_⟩,λy c e=>?_,I.free,I.freeC,λp hp=>?_,λb ob e=>?_,by simpa using I.len⟩
 ·exact(hs.2 b (De (Dc (Heap.lt_size e) I.ok.above))).trans (I.base.keep b o e n hb hx)
 ·obtain⟨sl,e1⟩:=I.base.slot b o e n hb hx
  exact⟨sl,(hs.2 b (De (Dc (Heap.lt_size e) I.ok.above))).trans e1⟩
 ·obtain⟨o',e1⟩:=I.base.there b o e hx
  exact⟨o',(hs.2 b (De (Dc (Heap.lt_size e) I.ok.above))).trans e1⟩
 ·have hj:j≠i:=λz=>by
   subst z;rw[List.getElem?_set]at e2;simp only[Uw]at e2;split at e2<;>cases e2
  rw[UW (Ne.symm hj)]at e2;obtain⟨u',r',q⟩:=hl j y v' e1 e2 e3;refine⟨u',r',?_⟩;rcases q with⟨k,e⟩|⟨k,c,e,z⟩
  ·refine .inl ⟨k,?_⟩
   have:y≠x:=λe=>hj (Vs hN e1 (e▸hi));simp[this,e]
  ·exact .inr ⟨k,c,e,z.sameBut hs (cne y c e)⟩
 ·obtain⟨w',z⟩:=I.cell y c e
  exact⟨w',z.sameBut hs (cne y c e)⟩
 ·obtain⟨e,n,ne,nf,d⟩:=I.pin p hp
  exact⟨(hs.2 p.1 ne).trans e,n,ne,nf,d⟩
 ·refine(I.hok b ob e).stay (λc w' hc q=>(hs.2 c ?_).trans q) (λ_a q=>q) λ_a _a q=>q
  rintro rfl;have cu:=I.free;rcases hc with rfl|hc
  ·rw[cu]at e;cases e
  ·rw[cu]at hc;cases hc
theorem Fli.new{X:Cx}(F:Fli X.prog X.w X.stack H1 s1 a C d H' s'):s1.heap.get? a=none/\H' a=none/\∃oe vs,s'.heap.get? a=some oe/\oe.cls=C/\oe.dict=d/\oe.data=.fields vs/\vs[2]?=some .none:=by
 obtain⟨B,a0,fl,hok,nb,kp,th⟩:=F.fly;obtain⟨oe,vs,T,oT,ts,he,hc,hd,_⟩:=fl.2.2.2;refine⟨?_,?_,oe,vs,he,hc.1,G1 Prod.fst (F.own oe he),hd,by have:=G1 Prod.snd (F.own oe he);unfold okey at this;rw[hd]at this;exact this⟩
 ·cases z:s1.heap.get? a with
  |none=>rfl
  |some o=>
   exfalso;have hn:=fl.2.1;by_cases hH:H1 a=none
   ·by_cases hf:a∈frs X.stack
    ·obtain⟨_,o',c8,dh⟩:=fl.2.2.1.mem (show a∈X.stack.filterMap (·.frame)from hf)
     rw[he]at c8;cases c8;exact dh vs hd
    ·rw[kp a o z hH hf]at hn;cases hn
   ·obtain⟨o',q⟩:=th a o z hH
    rw[q]at hn;cases hn
 ·cases z:H' a with
  |none=>rfl
  |some u=>
   obtain⟨o,q⟩:=(hok a u z).here;rw[fl.2.1]at q;cases q
theorem Fli.pinned(Y:Body X outer)(I:Inv X a5 σ H1 s1)(F:Fli X.prog X.w X.stack H1 s1 a C d H' s')(he:s'.heap.get? a=some oe)(hd:oe.data=.fields vs):Inv X (a5++[(a,oe)]) σ H' s':=by
 have J:=F.inv I;obtain⟨n1,n2,_⟩:=F.new;refine J.pins_of λp hp=>?_;rcases U4.mp hp with hp|hp
 ·exact J.pin p (Dd _ hp)
 ·obtain rfl:=U7.mp hp
  refine⟨he,n2,λz=>?_,λz=>?_,λv z=>?_⟩
  ·obtain⟨m,⟨o,_,_,ho,_⟩,_⟩:=I.loc
   have z:a=X.env.locals:=z;rw[<-z,n1]at ho;cases ho
  ·obtain⟨_,o',c8,_⟩:=I.ok.funs.mem (show a∈X.outer.filterMap (·.frame)from z)
   obtain⟨o2,q⟩:=I.base.there a o' c8 (by rw[Y.ex];simp);rw[n1]at q;cases q
  ·have z:oe.data=.cell v:=z
   rw[hd]at z;cases z
noncomputable def tAs(i j k:Nat)(c:Str)(q:Option Int):TS:=λD σ H=>∃n,q=some n/\n<1000000/\D.nx (((σ.set j (some (.str c))).set k (some (.int n))).set i none) H
theorem q7n(Y:Body X outer)(ck:ExcK X.K C g)(na:NoAttr X.K C "part")(hm:X.mg x=some cX)(he:W.exmOne X.K (.ref C) cX=some true)(hN:X.N.Nodup)(hi:X.N[i]?=some e)(hj:X.N[j]?=some w)(hk:X.N[k]?=some v)(g6:i≠j)(lB:i≠k)(dQ:X.env.scope.names.lookup e=some .local)(n6:X.env.scope.names.lookup w=some .local)(n8:X.env.scope.names.lookup v=some .local)(hg:Gl X x:=by rfl)(bb:(x==("__debug__" : Str))=false:=by decide)(pA:(e==("__debug__" : Str))=false:=by decide)(pB:(e==("__classdict__" : Str))=false:=by decide)(pC:swapsWith (.Constant (.str c) kc p2) (some (.Name w p1)) p3.line X.env=pure false:=by rfl)(eG:swapsWith (.Attribute (.Name e p5) "part" p6) (some (.Name v p4)) p7.line X.env=pure false:=by rfl)(ft:attributeBase (.Name e p5) "part" X.env (eval (.Name e p5) X.env)=eval (.Name e p5) X.env:=by rfl):
  QH X (.ExceptHandler (some (.Name x p)) (some e) [.Assign [.Name w p1] (.Constant (.str c) kc p2) p3,.Assign [.Name v p4] (.Attribute (.Name e p5) "part" p6) p7] pos::hs) (.ref C) q (tAs i j k c q):=⟨λa5 σ H1 s1 d H' s a D I F hq h=>by
 obtain⟨n,rfl,lE,h⟩:=h;obtain⟨x0,rfl,gG⟩:=hq;rw[QR lE]at gG;have J:=F.inv I;refine Um (Ug (vV (X:=X.caught a) (J.caught a) hg hm ?_ bb)) (by intro q;cases q);refine Ru J.kIn F.ty he _ _ _ s (λ_a _a z=>z) ?_;show codeAny _ _ _ _ s;refine Uz ?_;obtain⟨B,a0,fl,st⟩:=F.step;refine GW (DK.any (vX _ _) (lands_againW fl (Q:=λ_a s2=>(Heap.FlyingW B X.stack a (.ref C) a0 s2.heap/\s.heap.UpToSlots s2.heap)/\∃h',s2={ s with heap:=h' }) (E:=λ_a _a=>False) λh' x1 x4=>⟨⟨x1,x4⟩,h',rfl⟩)) (λ_a s2 z=>?_) λ_a _a q=>q.1.elim;obtain⟨⟨⟨fq,up⟩,h',rfl⟩,kd⟩:=z;have F2:=st h' fq up kd;obtain⟨n1,n2,oe,vs,lF,g8,lG,fu,_⟩:=F2.new;have J2:=F2.pinned Y I lF fu;refine GW (E:=λ_a _a=>False) (vE J2 hN hi (.inl dQ) (v:=.ref a) (u:=.ref a) rfl (Q:=λ_a s3=>Inv X (a5++[(a,oe)]) (σ.set i (some (.ref a))) H' s3) (λs3 I3=>I3) (.inr dQ)) (λ_a s3 I3=>?_) λ_a _a z=>z.elim;refine GW (E:=λ_a _a=>False) (Q:=λf s4=>f=.next/\Inv X (a5++[(a,oe)]) (((σ.set i (some (.ref a))).set j (some (.str c))).set k (some (.int n))) H' s4) ?_ (λf s4 z=>?_) λ_a _a z=>z.elim
 ·refine Ue (Ut (Calls.Constant_str ?_) pC)
  refine vE (I3.tok _) hN hj (.inl n6) (v:=.str c) ⟨_,rfl⟩ (λs4 I4=>?_) (.inr n6);refine Ue (Ut (VT ft ?_) eG);have I5:=I4.caught a;refine GW (q21 (X:=X.caught a) hi (.inl dQ) pA pB _ s4 _ H' (λv H2=>v=.ref a/\H2=H') I5 ?_) (λu s5 q=>?_) λ_a _a z=>z.elim
  ·have li:i<σ.length:=by rw[J.len];exact(UR.mp hi).1
   exact⟨.ref a,by rw[UW (Ne.symm g6),U3 li],rfl,rfl⟩
  obtain⟨v5,H5,I6,r5,e5,e6⟩:=q;subst e5 e6;obtain rfl:u=Value.ref a:=r5;have I7:Inv X (a5++[(a,oe)]) ((σ.set i (some (.ref a))).set j (some (.str c))) H5 s5:=I6.back I.ok;obtain⟨mA,cL,fv⟩:=I7.hok x0 _ gG;obtain⟨od,gM,lH⟩:=kP cL;have fw:=(I7.pin (a,oe) (by simp)).1;have hv:∃t,mA "part" = some (.int n t):=by
   have:=fv "part";obtain⟨u,hu,t,rfl⟩:=RelO.some_of (v:=.int n) (o:=mA "part") (by simpa using this);exact⟨t,hu⟩
  obtain⟨tn,hv⟩:=hv;refine W.getX_value (v:=.int n tn) (C:=C) (od:=some od) I7.kIn ⟨fw,g8,by unfold W.notCls;rw[fu],by rw[lG];exact gM⟩ ck.ga ck.gt ck.mr ?_ rfl ?_
  ·exact Rp ck.hd na rfl (by rw[lH,hv])
  ·refine vE (I7.tok _) hN hk (.inl n8) (v:=.int n) ⟨_,rfl⟩ (λs6 I8=>?_) (.inr n8)
   exact Ud ⟨rfl,I8⟩
 ·obtain⟨rfl,I8⟩:=z
  show wpAny _ _ _ _ _ _;refine xX I8 hN hi dQ λs9 I9=>?_;have fh:Inv X a5 _ H' s9:=⟨I9.ok,I9.os,I9.bare,I9.base,I9.loc,I9.cell,I9.free,I9.freeC,λp hp=>I9.pin p (by
   rcases U4.mp hp with z|z
   ·exact Df _ z
   ·exact Dd _ (Df _ z)),I9.hok,I9.len⟩
  refine⟨_,H',fh,?_⟩;have e:(((σ.set i (some (V.ref a))).set j (some (.str c))).set k (some (.int n))).set i none=((σ.set j (some (.str c))).set k (some (.int n))).set i none:=by
   rw[D5 _ _ g6,D5 _ _ lB,DS]
  rw[e];exact h⟩
end L2
namespace PySem
theorem Paired.of_get{α β:Type}{F:α->β->Prop}:∀{l:List α}{m:List β},l.length=m.length->(∀(i:Nat) x y,l[i]?=some x->m[i]?=some y->F x y)->Paired F l m
 | [], [],_,_=>.nil
 | [],_::_,h,_=>by simp at h
 |_::_, [],h,_=>by simp at h
 |x::l,y::m,h,r=>.cons (r 0 x y rfl rfl) (Paired.of_get (by simpa using h) λi a b ha hb=>r (i+1) a b (by simpa using ha) (by simpa using hb))
theorem Paired.len{α β:Type}{F:α->β->Prop}:∀{l:List α}{m:List β},Paired F l m->l.length=m.length
 |_,_,.nil=>rfl
 |_,_,.cons _ t=>by rw[U8,U8,Paired.len t]
theorem Paired.get2{α β:Type}{F:α->β->Prop}:∀{l:List α}{m:List β}{i:Nat}{x:α}{y:β},Paired F l m->l[i]?=some x->m[i]?=some y->F x y
 |_,_,_,_,_,.nil,h,_=>by simp at h
 |_,_,0,_,_,.cons r _,h,k=>by simp at h k;subst h k;exact r
 |_,_,i+1,_,_,.cons _ t,h,k=>Paired.get2 (i:=i) t (by simpa using h) (by simpa using k)
theorem Paired.getR{α β:Type}{F:α->β->Prop}{l:List α}{m:List β}{i:Nat}{y:β}(h:Paired F l m)(e:m[i]?=some y):∃x,l[i]?=some x/\F x y:=by
 have hl:=h.len;have hi:=(UR.mp e).1;have hx:l[i]?=some (l[i]'(by lia)):=UU (by lia);exact⟨_,hx,h.get2 hx e⟩
theorem Paired.getL{α β:Type}{F:α->β->Prop}{l:List α}{m:List β}{i:Nat}{x:α}(h:Paired F l m)(e:l[i]?=some x):∃y,m[i]?=some y/\F x y:=by
 have hl:=h.len;have hi:=(UR.mp e).1;have hx:m[i]?=some (m[i]'(by lia)):=UU (by lia);exact⟨_,hx,h.get2 e hx⟩
theorem Paired.app{α β:Type}{F:α->β->Prop}:∀{l l':List α}{m m':List β},Paired F l m->Paired F l' m'->Paired F (l++l') (m++m')
 |_,_,_,_,.nil,h=>h
 |_,_,_,_,.cons r t,h=>.cons r (Paired.app t h)
theorem Paired.put{α β:Type}{F:α->β->Prop}{x:α}{y:β}(r:F x y):∀{l:List α}{m:List β}(i:Nat),Paired F l m->Paired F (l.set i x) (m.set i y)
 |_,_,_,.nil=>.nil
 |_,_,0,.cons _ t=>.cons r t
 |_,_,i+1,.cons q t=>.cons q (Paired.put r i t)
theorem Paired.tk{α β:Type}{F:α->β->Prop}:∀{l:List α}{m:List β}(n:Nat),Paired F l m->Paired F (l.take n) (m.take n)
 |_,_,0,_=>.nil
 |_,_,_+1,.nil=>.nil
 |_,_,n+1,.cons r t=>.cons r (Paired.tk n t)
theorem Paired.dr{α β:Type}{F:α->β->Prop}:∀{l:List α}{m:List β}(n:Nat),Paired F l m->Paired F (l.drop n) (m.drop n)
 |_,_,0,r=>r
 |_,_,_+1,.nil=>.nil
 |_,_,n+1,.cons _ t=>Paired.dr n t
theorem Paired.mapR{α β γ:Type}{F:α->β->Prop}{G:α->γ->Prop}{f:β->γ}(h:∀a b,F a b->G a (f b)):∀{l:List α}{m:List β},Paired F l m->Paired G l (m.map f)
 |_,_,.nil=>.nil
 |_,_,.cons r t=>.cons (h _ _ r) (Paired.mapR h t)
theorem Paired.unmapR{α β γ:Type}{F:α->β->Prop}{G:α->γ->Prop}{f:β->γ}(h:∀a b,G a (f b)->F a b):∀{m:List β}{l:List α},Paired G l (m.map f)->Paired F l m
 | [],_,.nil=>.nil
 |_::m,_,.cons r t=>.cons (h _ _ r) (Paired.unmapR h (m:=m) t)
end PySem
namespace L2
open PySem PySem.Spec PyProof.Rows
inductive T where
 |non|bl (b:Bool)|int (i:Int)|str (x:Str)|tup (xs:List T)|lst (xs:List T)
inductive U where
 |p (t:T)|m (k:Nat)|x (a:Addr) (d:Option Addr) (q:Option Int)
inductive MO where
 |lst (us:List U)|tup (us:List U)|ins (C:Addr) (fs:List (Str×U))|dK (kvs:List (Key×U))|dF (kvs:List (Key×U)) (ob:Obj) (gs:List (Key×V))|tab (P:Addr) (pos:Pos) (af:Str)
noncomputable abbrev MM:=List MO
noncomputable abbrev UEnv:=List (Option U)
inductive RepT(A:Addr->Prop)(H:Hp):V->T->Prop
 |non:RepT A H .non .non
 |bl (b:Bool):RepT A H (.bl b) (.bl b)
 |int (i:Int):RepT A H (.int i) (.int i)
 |str (x:Str):RepT A H (.str x) (.str x)
 |tup {p:Addr}{vs:List V}{ts:List T} (na:¬A p) (e:H p=some (.tup vs)) (l:vs.length=ts.length) (r:∀(i:Nat) v t,vs[i]?=some v->ts[i]?=some t->RepT A H v t):RepT A H (.ref p) (.tup ts)
 |lst {p:Addr}{vs:List V}{ts:List T} (na:¬A p) (e:H p=some (.lst vs)) (l:vs.length=ts.length) (r:∀(i:Nat) v t,vs[i]?=some v->ts[i]?=some t->RepT A H v t):RepT A H (.ref p) (.lst ts)
section
variable {A A':Addr->Prop}{H H':Hp}{v:V}{t:T}{ι ai:List Addr}{M:MM}{u:U}{σ:St}{ρ:UEnv}
noncomputable abbrev RepTs(A:Addr->Prop)(H:Hp):List V->List T->Prop:=Paired (RepT A H)
theorem RepT.tupP(na:¬A p)(e:H p=some (.tup vs))(r:RepTs A H vs ts):RepT A H (.ref p) (.tup ts):=.tup na e r.len λi v t h k=>r.get2 h k
theorem RepT.lstP(na:¬A p)(e:H p=some (.lst vs))(r:RepTs A H vs ts):RepT A H (.ref p) (.lst ts):=.lst na e r.len λi v t h k=>r.get2 h k
theorem RepT.mono(h:∀x o,¬A x->H x=some o->H' x=some o/\¬A' x)(r:RepT A H v t):RepT A' H' v t:=by
 induction r with
 |non=>exact .non
 |bl b=>exact .bl b
 |int i=>exact .int i
 |str x=>exact .str x
 |tup na e l r ih=>exact .tup (h _ _ na e).2 (h _ _ na e).1 l ih
 |lst na e l r ih=>exact .lst (h _ _ na e).2 (h _ _ na e).1 l ih
theorem RepT.tup_inv(r:RepT A H v (.tup ts)):∃p vs,v=.ref p/\¬A p/\H p=some (.tup vs)/\RepTs A H vs ts:=by
 cases r with
 |tup na e l r=>exact⟨_,_,rfl,na,e,Paired.of_get l r⟩
theorem RepT.lst_inv(r:RepT A H v (.lst ts)):∃p vs,v=.ref p/\¬A p/\H p=some (.lst vs)/\RepTs A H vs ts:=by
 cases r with
 |lst na e l r=>exact⟨_,_,rfl,na,e,Paired.of_get l r⟩
noncomputable def Av(A:Addr->Prop)(ι:List Addr):Addr->Prop:=λx=>A x\/x∈ι
noncomputable def PartX(ι:List Addr)(H:Hp)(d:Option Addr):Option Int->Prop
 |none=>d=none
 |some n=>∃x0,d=some x0/\x0∉ι/\H x0=some (.xd (xfs n))
inductive RepU(A:Addr->Prop)(ι:List Addr)(H:Hp):V->U->Prop
 |p {v:V}{t:T} (r:RepT (Av A ι) H v t):RepU A ι H v (.p t)
 |m {k:Nat}{a:Addr} (e:ι[k]?=some a):RepU A ι H (.ref a) (.m k)
 |x {a:Addr}{d:Option Addr}{q:Option Int} (h:PartX ι H d q):RepU A ι H (.ref a) (.x a d q)
noncomputable abbrev RepUs(A:Addr->Prop)(ι:List Addr)(H:Hp):List V->List U->Prop:=Paired (RepU A ι H)
noncomputable def q72(c:Addr)(af:Str):HO:=.ext λh=>h.CodeRec (.ref c) af
noncomputable def ObjR(A:Addr->Prop)(ι:List Addr)(H:Hp)(a:Addr):MO->Prop
 |.lst us=>∃vs,H a=some (.lst vs)/\RepUs A ι H vs us
 |.tup us=>∃vs,H a=some (.tup vs)/\RepUs A ι H vs us
 |.ins C fs=>∃dx gs,H a=some (.ins C dx gs)/\H dx=some (.own a)/\dx∉ι/\Paired (λ(g:Str×V) (f:Str×U)=>g.1=f.1/\RepU A ι H g.2 f.2) gs fs
 |.dK kvs=>∃gs,H a=some (.dK gs)/\Paired (λ(g:Key×V) (f:Key×U)=>g.1=f.1/\RepU A ι H g.2 f.2) gs kvs
 |.dF kvs ob gs=>H a=some (.frz ob (.dK gs))/\Paired (λ(g:Key×V) (f:Key×U)=>g.1=f.1/\RepU A ι H g.2 f.2) gs kvs
 |.tab P pos af=>∃ps:Array Value,H a=some (.tbl ps)/\(TriplesOk ps.toList/\a=P)/\(codeAmong pos ps.toList=none\/∃c,codeAmong pos ps.toList=some (.ref c)/\H c=some (q72 c af)/\c∉ι)
structure Wd(A:Addr->Prop)(ι:List Addr)(H:Hp)(M:MM):Prop where
 nd:ι.Nodup
 len:ι.length=M.length
 dom:∀x,A x->H x≠none
 na:∀x∈ι,¬A x
 obj:∀(k:Nat) a o,ι[k]?=some a->M[k]?=some o->ObjR A ι H a o
structure Le(ι:List Addr)(H:Hp)(ai:List Addr)(H':Hp):Prop where
 ext:∃n,ai=ι++n/\∀x∈n,H x=none
 fr:∀x o,H x=some o->x∉ι->H' x=some o
 al:∀x,H x≠none->H' x≠none
theorem Le.refl(ι:List Addr)(H:Hp):Le ι H ι H:=⟨⟨[],by simp,by simp⟩,λ_a _a h _a=>h,λ_a h=>h⟩
theorem Le.trans(a:Le ι H ai H')(b:Le ai H' ae H2):Le ι H ae H2:=by
 obtain⟨n,rfl,hn⟩:=a.ext;obtain⟨m,rfl,hm⟩:=b.ext;have key:∀x,H x≠none->x∉ι->x∉ι++n:=λx hx h z=>by
  rcases U4.mp z with z|z
  ·exact h z
  ·exact hx (hn x z)
 refine⟨⟨n++m,by rw[Db],λx hx=>?_⟩,λx o e h=>b.fr x o (a.fr x o e h) (key x (by rw[e];simp) h),λx h=>b.al x (a.al x h)⟩;rcases U4.mp hx with z|z
 ·exact hn x z
 ·cases q:H x with
  |none=>rfl
  |some o=>exact absurd (hm x z) (a.al x (by rw[q];simp))
theorem Le.av(l:Le ι H ai H')(h:¬Av A ι x)(e:H x=some o):H' x=some o/\¬Av A ai x:=by
 obtain⟨n,rfl,hn⟩:=l.ext;refine⟨l.fr x o e λz=>h (.inr z),λz=>?_⟩;rcases z with z|z
 ·exact h (.inl z)
 ·rcases U4.mp z with z|z
  ·exact h (.inr z)
  ·rw[hn x z]at e;cases e
theorem RepT.le(l:Le ι H ai H')(r:RepT (Av A ι) H v t):RepT (Av A ai) H' v t:=r.mono λ_a _a h e=>l.av h e
theorem PartX.le(l:Le ι H ai H')(h:PartX ι H d q):PartX ai H' d q:=by
 cases q with
 |none=>exact h
 |some n=>
  obtain⟨x0,e,ni,hx⟩:=h;obtain⟨m,rfl,hm⟩:=l.ext;refine⟨x0,e,λz=>?_,l.fr x0 _ hx ni⟩;rcases U4.mp z with z|z
  ·exact ni z
  ·rw[hm x0 z]at hx;cases hx
theorem RepU.le(l:Le ι H ai H')(r:RepU A ι H v u):RepU A ai H' v u:=by
 cases r with
 |p r=>exact .p (r.le l)
 |m e=>
  obtain⟨n,rfl,_⟩:=l.ext;exact .m (by rw[U1 (UR.mp e).1];exact e)
 |x h=>exact .x (h.le l)
theorem RepUs.le(l:Le ι H ai H')(r:RepUs A ι H vs us):RepUs A ai H' vs us:=Paired.mapP r λ_a _a q=>q.le l
theorem ObjR.some{a:Addr}{o:MO}(r:ObjR A ι H a o):∃h,H a=some h:=by
 cases o with
 |lst=>obtain⟨vs,e,_⟩:=r;exact⟨_,e⟩
 |tup=>obtain⟨vs,e,_⟩:=r;exact⟨_,e⟩
 |ins=>obtain⟨_,_,e,_⟩:=r;exact⟨_,e⟩
 |dK=>obtain⟨_,e,_⟩:=r;exact⟨_,e⟩
 |dF=>obtain⟨e,_⟩:=r;exact⟨_,e⟩
 |tab=>obtain⟨_,e,_⟩:=r;exact⟨_,e⟩
theorem ObjR.le'(l:Le ι H ai H')(ea:H' a=H a)(eo:∀x,H x=Option.some (.own a)->H' x=H x)(r:ObjR A ι H a o):ObjR A ai H' a o:=by
 cases o with
 |lst=>obtain⟨vs,e,r⟩:=r;exact⟨vs,by rw[ea];exact e,Paired.mapP r λ_a _a q=>q.le l⟩
 |tup=>obtain⟨vs,e,r⟩:=r;exact⟨vs,by rw[ea];exact e,Paired.mapP r λ_a _a q=>q.le l⟩
 |ins=>
  obtain⟨dx,gs,e,ed,nd,r⟩:=r;obtain⟨n,rfl,hn⟩:=l.ext;refine⟨dx,gs,by rw[ea];exact e,by rw[eo dx ed];exact ed,λz=>?_,Paired.mapP r λ_a _a q=>⟨q.1,q.2.le l⟩⟩;rcases U4.mp z with z|z
  ·exact nd z
  ·rw[hn dx z]at ed;cases ed
 |dK=>obtain⟨gs,e,r⟩:=r;exact⟨gs,by rw[ea];exact e,Paired.mapP r λ_a _a q=>⟨q.1,q.2.le l⟩⟩
 |dF=>obtain⟨e,r⟩:=r;exact⟨by rw[ea];exact e,Paired.mapP r λ_a _a q=>⟨q.1,q.2.le l⟩⟩
 |tab=>
  obtain⟨ps,e,t,z⟩:=r;obtain⟨n,rfl,hn⟩:=l.ext;refine⟨ps,by rw[ea];exact e,t,z.imp id λ⟨c,h1,h2,h3⟩=>⟨c,h1,l.fr c _ h2 h3,λy=>?_⟩⟩;rcases U4.mp y with y|y
  ·exact h3 y
  ·rw[hn c y]at h2;cases h2
theorem Wd.al(w:Wd A ι H M){k:Nat}(e:ι[k]?=some a):∃o,M[k]?=some o/\ObjR A ι H a o:=by
 have h:=(UR.mp e).1;have e2:M[k]?=some (M[k]'(by rw[<-w.len];exact h)):=UU _;exact⟨_,e2,w.obj k a _ e e2⟩
theorem Wd.at(w:Wd A ι H M){k:Nat}(e:M[k]?=some o):∃a,ι[k]?=some a/\ObjR A ι H a o:=by
 have h:=(UR.mp e).1;have e2:ι[k]?=some (ι[k]'(by rw[w.len];exact h)):=UU _;exact⟨_,e2,w.obj k _ _ e2 e⟩
theorem Wd.mem_some(w:Wd A ι H M)(h:a∈ι):∃o,H a=some o:=by
 obtain⟨k,e⟩:=Rk h;obtain⟨o,_,r⟩:=w.al e;exact r.some
theorem Wd.not_own(w:Wd A ι H M)(h:a∈ι):H a≠some (.own x):=λz=>by
 obtain⟨k,e⟩:=Rk h;obtain⟨o,_,r⟩:=w.al e;cases o with
 |lst=>obtain⟨vs,e,_⟩:=r;rw[z]at e;cases e
 |tup=>obtain⟨vs,e,_⟩:=r;rw[z]at e;cases e
 |ins=>obtain⟨_,_,e,_⟩:=r;rw[z]at e;cases e
 |dK=>obtain⟨_,e,_⟩:=r;rw[z]at e;cases e
 |dF=>obtain⟨e,_⟩:=r;rw[z]at e;cases e
 |tab=>obtain⟨_,e,_⟩:=r;rw[z]at e;cases e
theorem Le.fresh(h:H p=none):Le ι H ι (upd H p o):=⟨⟨[],by simp,by simp⟩,λx o' e _a=>zK h e,λx e=>by
 by_cases z:x=p
 ·subst z;rw[upd_same];simp
 ·rw[upd_ne z];exact e⟩
theorem Le.push(h:H p=none):Le ι H (ι++[p]) (upd H p o):=⟨⟨[p],rfl,λx hx=>by rw[U7.mp hx];exact h⟩,(Le.fresh (ι:=ι) h).fr,(Le.fresh (ι:=ι) h).al⟩
theorem Le.put(h:p∈ι):Le ι H ι (upd H p o):=⟨⟨[],by simp,by simp⟩,λx o' e n=>by rw[upd_ne (λz=>n (by rw[z];exact h))];exact e,λx e=>by
 by_cases z:x=p
 ·subst z;rw[upd_same];simp
 ·rw[upd_ne z];exact e⟩
theorem Wd.fresh(w:Wd A ι H M)(h:H p=none):Wd A ι (upd H p o) M :=
 ⟨w.nd,w.len,λx hx=>(Le.fresh (ι:=ι) h).al x (w.dom x hx),w.na,λk a ob e1 e2=>(w.obj k a ob e1 e2).le' (.fresh h) (upd_ne λz=>by
  obtain⟨q,hq⟩:=w.mem_some (U0 e1);rw[z,h]at hq;cases hq) λx ex=>upd_ne λz=>by rw[z,h]at ex;cases ex⟩
theorem Wd.nin(w:Wd A ι H M)(h:H p=none):p∉ι:=λz=>by
 obtain⟨q,hq⟩:=w.mem_some z;rw[h]at hq;cases hq
theorem Wd.nA(w:Wd A ι H M)(h:H p=none):¬Av A ι p:=λz=>z.elim (λz=>w.dom p z h) (w.nin h)
theorem Wd.push(w:Wd A ι H M)(h:H p=none)(new:ObjR A (ι++[p]) (upd H p o) p mo):Wd A (ι++[p]) (upd H p o) (M++[mo]):=by
 have np:=w.nin h;refine⟨DF.mpr ⟨w.nd,by simp,λa ha b hb=>?_⟩,by simp[w.len],λx hx=>(Le.fresh (ι:=ι) h).al x (w.dom x hx),λx hx=>?_,λk a ob e1 e2=>?_⟩
 ·rw[U7.mp hb];exact λz=>np (by rw[<-z];exact ha)
 ·rcases U4.mp hx with z|z
  ·exact w.na x z
  ·rw[U7.mp z];exact λz=>w.dom p z h
 ·by_cases hk:k<ι.length
  ·rw[U1 hk]at e1
   rw[U1 (by rw[<-w.len];exact hk)]at e2;exact(w.obj k a ob e1 e2).le' (.push h) (upd_ne λz=>np (by rw[<-z];exact U0 e1)) λx ex=>upd_ne λz=>by rw[z,h]at ex;cases ex
  ·have gN:=(UR.mp e1).1
   rw[UV,Dp]at gN;have:k=ι.length:=by lia
   subst this;rw[U9 (UZ _),DA]at e1;rw[w.len,U9 (UZ _),DA]at e2;simp at e1 e2;subst e1 e2;exact new
theorem Wd.put(w:Wd A ι H M)(e:ι[k]?=some p)(new:ObjR A ι (upd H p o) p mo):Wd A ι (upd H p o) (M.set k mo):=by
 have hp:=U0 e;refine⟨w.nd,by rw[U2];exact w.len,λx hx=>(Le.put hp).al x (w.dom x hx),w.na,λj a ob e1 e2=>?_⟩;by_cases hj:k=j
 ·subst hj
  rw[e]at e1;cases e1;rw[U3 (by rw[<-w.len];exact(UR.mp e).1)]at e2;cases e2;exact new
 ·rw[UW hj]at e2
  have na:a≠p:=λz=>by
   subst z;have h1:=UR.mp e;have h2:=UR.mp e1;exact hj ((RJ w.nd).mp (h1.2.trans h2.2.symm))
  exact(w.obj j a ob e1 e2).le' (.put hp) (upd_ne na) λx ex=>upd_ne λz=>by
   rw[z]at ex;exact w.not_own hp ex
noncomputable def EnvR(A:Addr->Prop)(ι:List Addr)(H:Hp):St->UEnv->Prop:=Paired λ(s:Option V) (r:Option U)=>∀u,r=some u->∃v,s=some v/\RepU A ι H v u
theorem EnvR.le(l:Le ι H ai H')(r:EnvR A ι H σ ρ):EnvR A ai H' σ ρ:=Paired.mapP r λ_a _a q u e=>by
 obtain⟨v,h1,h2⟩:=q u e;exact⟨v,h1,h2.le l⟩
theorem EnvR.get(r:EnvR A ι H σ ρ){i:Nat}(e:ρ[i]?=some (some u)):∃v,σ[i]?=some (some v)/\RepU A ι H v u:=by
 obtain⟨s,h1,h2⟩:=Paired.getR r e;obtain⟨v,rfl,h3⟩:=h2 u rfl;exact⟨v,h1,h3⟩
theorem EnvR.put(r:EnvR A ι H σ ρ)(i:Nat)(q:RepU A ι H v u):EnvR A ι H (σ.set i (some v)) (ρ.set i (some u)):=Paired.put (λw e=>by cases e;exact⟨v,rfl,q⟩) i r
noncomputable def KI(bs:List Bool)(n:Nat)(ρ:UEnv):UEnv:=(bs.zip ρ).map (λp=>if p.1 then p.2 else none)++List.replicate n none
theorem EnvR.mask(r:EnvR A ι H σ ρ):EnvR A ι H (zk bs n σ) (KI bs n ρ):=by
 refine Paired.app ?_ ?_
 ·induction r generalizing bs with
  |nil=>simp;exact .nil
  |cons q t ih=>
   cases bs with
   |nil=>exact .nil
   |cons b bs=>
    refine .cons ?_ ih;cases b
    ·intro u e;simp at e
    ·simpa using q
 ·induction n with
  |zero=>exact .nil
  |succ n ih=>exact .cons (λu e=>by cases e) ih
end
noncomputable abbrev UK:=U->MM->Prop
noncomputable abbrev UE:=UEnv->MM->UK->Prop
noncomputable abbrev UT:=UEnv->MM->(Bool->MM->Prop)->Prop
noncomputable abbrev UA:=UEnv->MM->(List U->MM->Prop)->Prop
noncomputable def LE(te:TE)(ue:UE):Prop:=∀(A:Addr->Prop)(ι:List Addr)(σ:St)(H:Hp)(ρ:UEnv)(M:MM)(Qu:UK)(Q:VK),Wd A ι H M->EnvR A ι H σ ρ->ue ρ M Qu ->
 (∀u M' ai v H',Le ι H ai H'->Wd A ai H' M'->RepU A ai H' v u->Qu u M'->Q v H')->te σ H Q
noncomputable def LT(tt:TT)(ut:UT):Prop:=∀(A:Addr->Prop)(ι:List Addr)(σ:St)(H:Hp)(ρ:UEnv)(M:MM)(Qu:Bool->MM->Prop)(Q:Bool->Hp->Prop),Wd A ι H M->EnvR A ι H σ ρ->ut ρ M Qu ->
 (∀b M' ai H',Le ι H ai H'->Wd A ai H' M'->Qu b M'->Q b H')->tt σ H Q
noncomputable def LA(n:Nat)(ta:TA)(ua:UA):Prop:=∀(A:Addr->Prop)(ι:List Addr)(σ:St)(H:Hp)(ρ:UEnv)(M:MM)(Qu:List U->MM->Prop)(Q:List V->Hp->Prop),Wd A ι H M->EnvR A ι H σ ρ->ua ρ M Qu ->
 (∀us M' ai vs H',Le ι H ai H'->Wd A ai H' M'->us.length=n->RepUs A ai H' vs us->Qu us M'->Q vs H')->ta σ H Q
section
noncomputable def uVar(i:Nat):UE:=λρ M Q=>∃u,ρ[i]?=some (some u)/\Q u M
inductive Sc:V->T->Prop
 |non:Sc .non .non
 |bl (b:Bool):Sc (.bl b) (.bl b)
 |int (i:Int):Sc (.int i) (.int i)
 |str (x:Str):Sc (.str x) (.str x)
theorem Sc.rep(h:Sc v t):RepT A H v t:=by cases h<;>constructor
noncomputable def uC(t:T):UE:=λ_a M Q=>Q (.p t) M
noncomputable def uNil:UA:=λ_a M Q=>Q [] M
noncomputable def Kd(ua:UE)(ul:UA):UA:=λρ M Q=>ua ρ M λx M1=>ul ρ M1 λxs M2=>Q (x::xs) M2
theorem q6E:LA 0 tNil uNil:=λA ι σ H ρ M Qu Q w e q k=>k [] M ι [] H (.refl _ _) w rfl .nil q
noncomputable def vS:List U->Option (List T)
 | []=>some []
 |.p t::r=>(vS r).map (t :: ·)
 |.m _::_=>none
 |.x _ _ _::_=>none
@[simp] theorem jr:∀ts:List T,vS (ts.map U.p)=some ts
 | []=>rfl
 |t::r=>by simp[vS,jr r]
theorem zm:∀{us:List U}{ts:List T},vS us=some ts->us=ts.map U.p
 | [],_,h=>by simp[vS]at h;subst h;rfl
 |.p t::r,ts,h=>by
  simp[vS]at h;obtain⟨a,h1,rfl⟩:=h;rw[Di, <-zm h1]
 |.m _::_,_,h=>by simp[vS]at h
 |.x _ _ _::_,_,h=>by simp[vS]at h
noncomputable def sn(M:MM):U->Option T
 |.p t=>some t
 |.m k=>match M[k]? with
  |some (.lst us)=>(vS us).map T.lst
  |some (.tup us)=>(vS us).map T.tup
  |_=>none
 |.x _ _ _=>none
noncomputable def sns(M:MM):List U->Option (List T)
 | []=>some []
 |u::r=>match sn M u,sns M r with
  |some t,some ts=>some (t::ts)
  |_,_=>none
inductive RepV(A:Addr->Prop)(H:Hp):V->T->Prop
 |of {v:V}{t:T} (r:RepT A H v t):RepV A H v t
 |lst {p:Addr}{vs:List V}{ts:List T} (e:H p=some (.lst vs)) (r:RepTs A H vs ts):RepV A H (.ref p) (.lst ts)
 |tup {p:Addr}{vs:List V}{ts:List T} (e:H p=some (.tup vs)) (r:RepTs A H vs ts):RepV A H (.ref p) (.tup ts)
variable {A:Addr->Prop}{H H':Hp}{ι:List Addr}{M:MM}{v:V}{u:U}{t:T}
theorem RepV.lst_inv(r:RepV A H v (.lst ts)):∃p vs,v=.ref p/\H p=some (.lst vs)/\RepTs A H vs ts:=by
 cases r with
 |of r=>obtain⟨p,vs,h1,_,h2,h3⟩:=r.lst_inv;exact⟨p,vs,h1,h2,h3⟩
 |lst e r=>exact⟨_,_,rfl,e,r⟩
theorem RepV.tup_inv(r:RepV A H v (.tup ts)):∃p vs,v=.ref p/\H p=some (.tup vs)/\RepTs A H vs ts:=by
 cases r with
 |of r=>obtain⟨p,vs,h1,_,h2,h3⟩:=r.tup_inv;exact⟨p,vs,h1,h2,h3⟩
 |tup e r=>exact⟨_,_,rfl,e,r⟩
theorem RepV.int_inv(r:RepV A H v (.int i)):v=.int i:=by cases r with|of r=>cases r;rfl
theorem RepV.bl_inv(r:RepV A H v (.bl i)):v=.bl i:=by cases r with|of r=>cases r;rfl
theorem RepV.str_inv(r:RepV A H v (.str i)):v=.str i:=by cases r with|of r=>cases r;rfl
theorem RepV.non_inv(r:RepV A H v .non):v=.non:=by cases r with|of r=>cases r;rfl
theorem RepUs.pures(r:RepUs A ι H vs (ts.map U.p)):RepTs (Av A ι) H vs ts:=Paired.unmapR (λa b q=>by cases q with|p r=>exact r) r
theorem RepTs.ups(r:RepTs (Av A ι) H vs ts):RepUs A ι H vs (ts.map U.p):=Paired.mapR (λa b q=>.p q) r
theorem RepU.sn(w:Wd A ι H M)(r:RepU A ι H v u)(e:sn M u=some t):RepV (Av A ι) H v t:=by
 cases r with
 |p r=>simp[L2.sn]at e;subst e;exact .of r
 |m q=>
  obtain⟨o,h1,h2⟩:=w.al q;simp only[L2.sn,h1]at e;cases o with
  |lst us=>
   simp at e;obtain⟨ts,e1,rfl⟩:=e;obtain⟨vs,h3,h4⟩:=h2;rw[zm e1]at h4;exact .lst h3 h4.pures
  |tup us=>
   simp at e;obtain⟨ts,e1,rfl⟩:=e;obtain⟨vs,h3,h4⟩:=h2;rw[zm e1]at h4;exact .tup h3 h4.pures
  |ins=>simp at e
  |dK=>simp at e
  |dF=>simp at e
  |tab=>simp at e
 |x h=>simp[L2.sn]at e
set_option tactic.hygienic true in
theorem RepUs.sns(w:Wd A ι H M):∀{vs:List V}{us:List U}{ts:List T},RepUs A ι H vs us->sns M us=some ts->Paired (RepV (Av A ι) H) vs ts
 |_,_,ts,.nil,e=>by simp[L2.sns]at e;subst e;exact .nil
 |_,_,ts,.cons r q,e=>by
  simp only[L2.sns]at e;split at e
  ·rename_i h1 h2
   simp at e;subst e;exact .cons (r.sn w h1) (RepUs.sns w q h2)
  ·cases e
noncomputable def OpL(r:R2)(s:T->T->(T->Prop)->Prop):Prop:=∀(A:Addr->Prop)(ι:List Addr)(H:Hp)(M:MM)(x y:V)(a b:T)(Qs:T->Prop)(Q:VK),Wd A ι H M->RepV (Av A ι) H x a->RepV (Av A ι) H y b->s a b Qs ->
 (∀t ai v H',Le ι H ai H'->Wd A ai H' M->RepT (Av A ai) H' v t->Qs t->Q v H')->r x y H Q
noncomputable def uOp(s:T->T->(T->Prop)->Prop)(ua ub:UE):UE:=λρ M Q=>ua ρ M λx M1=>ub ρ M1 λy M2=>∃a b,sn M2 x=some a/\sn M2 y=some b/\s a b λt=>Q (.p t) M2
noncomputable def sI(C:Int->Int->Prop)(g:Int->Int->T):T->T->(T->Prop)->Prop:=λa b Q=>∃i j,a=.int i/\b=.int j/\C i j/\Q (g i j)
noncomputable def sI0(g:Int->Int->T):T->T->(T->Prop)->Prop:=λa b Q=>∃i j,a=.int i/\b=.int j/\Q (g i j)
theorem q7z(hg:∀i j,Sc (gv i j) (g i j)):OpL (rI C gv) (sI C g):=λA ι H M x y a b Qs Q w r1 r2 ⟨i,j,ea,eb,c,q⟩ k=>by
 subst ea eb;exact⟨i,j,r1.int_inv,r2.int_inv,c,k _ ι _ H (.refl _ _) w (hg i j).rep q⟩
theorem Jw(hg:∀i j,Sc (gv i j) (g i j)):OpL (rI0 gv) (sI0 g):=λA ι H M x y a b Qs Q w r1 r2 ⟨i,j,ea,eb,q⟩ k=>by
 subst ea eb;exact⟨i,j,r1.int_inv,r2.int_inv,k _ ι _ H (.refl _ _) w (hg i j).rep q⟩
noncomputable def vt:T->Option V
 |.non=>some .non
 |.bl b=>some (.bl b)
 |.int i=>some (.int i)
 |.str x=>some (.str x)
 |_=>none
theorem j9(e:vt t=some x):Sc x t:=by
 cases t<;>simp[vt]at e<;>subst e<;>constructor
theorem RepV.sc{x y:V}(r:RepV A H v t)(e:vt t=some x):v=x:=by
 cases j9 e with
 |non=>exact r.non_inv
 |bl=>exact r.bl_inv
 |int=>exact r.int_inv
 |str=>exact r.str_inv
noncomputable def sEq(neg:Bool):T->T->(T->Prop)->Prop:=λa b Q=>∃x y,vt a=some x/\vt b=some y/\scal x y=true/\Q (.bl (if neg then !decide (x=y) else decide (x=y)))
theorem Qw:OpL rEq (sEq false):=λA ι H M x y a b Qs Q w r1 r2 ⟨x',y',e1,e2,sc,q⟩ k=>by
 cases r1.sc (y:=.non) e1;cases r2.sc (y:=.non) e2;exact⟨sc,k _ ι _ H (.refl _ _) w (.bl _) q⟩
theorem q5I:OpL rNe (sEq true):=λA ι H M x y a b Qs Q w r1 r2 ⟨x',y',e1,e2,sc,q⟩ k=>by
 cases r1.sc (y:=.non) e1;cases r2.sc (y:=.non) e2;exact⟨sc,k _ ι _ H (.refl _ _) w (.bl _) q⟩
noncomputable def sStr:T->T->(T->Prop)->Prop:=λa b Q=>∃i j,a=.str i/\b=.str j/\i.length+j.length<=sizeLine/\Q (.str (i++j))
noncomputable def vts:List T->Option (List V)
 | []=>some []
 |t::r=>match vt t,vts r with
  |some x,some xs=>some (x::xs)
  |_,_=>none
set_option tactic.hygienic true in
theorem ZW:∀{vs:List V}{ts:List T}{xs:List V},RepTs A H vs ts->vts ts=some xs->vs=xs/\xs.all jU=true
 |_,_,xs,.nil,e=>by simp[vts]at e;subst e;exact⟨rfl,rfl⟩
 |_,_,xs,.cons r q,e=>by
  simp only[vts]at e;split at e
  ·rename_i h1 h2
   simp at e;subst e;obtain⟨z1,z2⟩:=ZW q h2;subst z1;cases(RepV.of r).sc (y:=.non) h1;refine⟨rfl,?_⟩;rw[RG,z2];cases j9 h1<;>rfl
  ·cases e
noncomputable def seqT:T->Option (List T)
 |.lst ts=>some ts
 |.tup ts=>some ts
 |_=>none
noncomputable def sIn(neg:Bool):T->T->(T->Prop)->Prop:=λa b Q=>∃x ts ys,vt a=some x/\seqT b=some ts/\vts ts=some ys/\Q (.bl (if neg then !inV x ys else inV x ys))
theorem q1Z:OpL (rIn Ξ neg) (sIn neg):=λA ι H M x y a b Qs Q w r1 r2 ⟨x',ts,ys,e1,e2,e3,q⟩ k=>by
 cases r1.sc (y:=.non) e1;have hf:jU x=true:=by cases j9 e1<;>rfl
 cases b<;>simp[seqT]at e2
 ·subst e2
  obtain⟨p,vs,rfl,h,r⟩:=r2.tup_inv;obtain⟨rfl,z⟩:=ZW r e3;exact⟨p,vs,rfl,.inr (SqT.of h),hf,z,k _ ι _ H (.refl _ _) w (.bl _) q⟩
 ·subst e2
  obtain⟨p,vs,rfl,h,r⟩:=r2.lst_inv;obtain⟨rfl,z⟩:=ZW r e3;exact⟨p,vs,rfl,.inl (SqL.of h),hf,z,k _ ι _ H (.refl _ _) w (.bl _) q⟩
theorem zr(w:Wd A ι H M)(h:H p=none)(r:RepTs (Av A ι) H vs ts):RepT (Av A ι) (upd H p (.lst vs)) (.ref p) (.lst ts):=
 .lstP (w.nA h) upd_same (Paired.mapP r λ_a _a q=>q.le (.fresh h))
theorem ja(w:Wd A ι H M)(h:H p=none)(r:RepTs (Av A ι) H vs ts):RepT (Av A ι) (upd H p (.tup vs)) (.ref p) (.tup ts):=
 .tupP (w.nA h) upd_same (Paired.mapP r λ_a _a q=>q.le (.fresh h))
noncomputable def sCat:T->T->(T->Prop)->Prop:=λa b Q=>∃xs ys,a=.lst xs/\b=.lst ys/\xs.length+ys.length<=sizeLine/\Q (.lst (xs++ys))
theorem YZ:OpL rCat sCat:=λA ι H M x y a b Qs Q w r1 r2 ⟨xs,ys,ea,eb,hz,q⟩ k=>by
 subst ea eb;obtain⟨p,vs,rfl,h1,q1⟩:=r1.lst_inv;obtain⟨p2,cb,rfl,h2,q2⟩:=r2.lst_inv;exact⟨p,p2,vs,cb,rfl,rfl,h1,h2,by rw[q1.len,q2.len];exact hz,λp hp=>k _ ι _ _ (.fresh hp) (w.fresh hp) (zr w hp (q1.app q2)) q⟩
theorem Qv{α β:Type}{F:α->β->Prop}{l:List α}{m:List β}(h:Paired F l m):∀n:Nat,Paired F (List.replicate n l).flatten (List.replicate n m).flatten
 |0=>.nil
 |n+1=>by rw[Dv,Dv,DL,DL];exact h.app (Qv h n)
noncomputable def XU:U->Bool
 |.p .non=>true
 |_=>false
theorem WN(r:RepU A ι H v u):decide (v=.non)=XU u:=by
 cases r with
 |p r=>cases r<;>simp[XU]
 |m e=>simp[XU]
 |x h=>simp[XU]
noncomputable def uIsN(neg:Bool)(ua:UE):UE:=λρ M Q=>ua ρ M λx M1=>Q (.p (.bl (if neg then !XU x else XU x))) M1
noncomputable def uNeg(ua:UE):UE:=λρ M Q=>ua ρ M λx M1=>∃i,x=.p (.int i)/\Q (.p (.int (-i))) M1
noncomputable def uB(ua:UE):UT:=λρ M Q=>ua ρ M λx M1=>∃b,x=.p (.bl b)/\Q b M1
theorem lt_b(ha:LE ta ua):LT (tB ta) (uB ua):=λA ι σ H ρ M Qu Q w e q k=>
 ha A ι σ H ρ M _ _ w e q λx M1 a7 v H1 l1 w1 r1 zz=>by
  obtain⟨b,ex,q1⟩:=zz;subst ex;cases r1 with
  |p r=>cases r;exact⟨b,rfl,k b M1 a7 H1 l1 w1 q1⟩
noncomputable def uAnd(t s:UT):UT:=λρ M Q=>t ρ M λc M1=>if c=true then s ρ M1 Q else Q false M1
noncomputable def uOr(t s:UT):UT:=λρ M Q=>t ρ M λc M1=>if c=true then Q true M1 else s ρ M1 Q
noncomputable def uNot(t:UT):UT:=λρ M Q=>t ρ M λc M1=>Q (!c) M1
noncomputable def q5C(ua ub:UE):UE:=λρ M Q=>ua ρ M λx M1=>∃c,x=.p (.bl c)/\if c=true then ub ρ M1 Q else Q (.p (.bl false)) M1
noncomputable def uOrV(ua ub:UE):UE:=λρ M Q=>ua ρ M λx M1=>∃c,x=.p (.bl c)/\if c=true then Q (.p (.bl true)) M1 else ub ρ M1 Q
noncomputable def q7E(ua:UE):UE:=λρ M Q=>ua ρ M λx M1=>∃c,x=.p (.bl c)/\Q (.p (.bl (!c))) M1
noncomputable def uIf(t:UT)(ua ub:UE):UE:=λρ M Q=>t ρ M λc M1=>if c=true then ua ρ M1 Q else ub ρ M1 Q
noncomputable def q2r(s s':T->T->(T->Prop)->Prop)(ua ub uc:UE):UE:=λρ M Q=>ua ρ M λx M1=>ub ρ M1 λy M2=>∃a b,sn M2 x=some a/\sn M2 y=some b/\s a b λz=>∃k,z=.bl k /\
 if k=true then uc ρ M2 λc M3=>∃b' c',sn M3 y=some b'/\sn M3 c=some c'/\s' b' c' λt=>Q (.p t) M3 else Q (.p (.bl false)) M2
noncomputable def uTup(ul:UA):UE:=λρ M Q=>ul ρ M λus M1=>∃ts,vS us=some ts/\Q (.p (.tup ts)) M1
noncomputable def uLst(ul:UA):UE:=λρ M Q=>ul ρ M λus M1=>∃ts,vS us=some ts/\Q (.p (.lst ts)) M1
noncomputable def uNew(ul:UA):UE:=λρ M Q=>ul ρ M λus M1=>Q (.m M1.length) (M1++[.lst us])
noncomputable def q4N(ul:UA):UE:=λρ M Q=>ul ρ M λus M1=>Q (.m M1.length) (M1++[.tup us])
theorem qK{α:Type}{l:List α}{x:α}:(l++[x])[l.length]?=some x:=by rw[U9 (UZ _),DA];rfl
theorem xI(w:Wd A ι H M)(h:H p=none)(r:RepUs A ι H vs us):Wd A (ι++[p]) (upd H p (.lst vs)) (M++[.lst us])/\RepU A (ι++[p]) (upd H p (.lst vs)) (.ref p) (.m M.length):=
 ⟨w.push h ⟨vs,upd_same,r.le (.push h)⟩,.m (by rw[<-w.len];exact qK)⟩
theorem Wr(w:Wd A ι H M)(h:H p=none)(r:RepUs A ι H vs us):Wd A (ι++[p]) (upd H p (.tup vs)) (M++[.tup us])/\RepU A (ι++[p]) (upd H p (.tup vs)) (.ref p) (.m M.length):=
 ⟨w.push h ⟨vs,upd_same,r.le (.push h)⟩,.m (by rw[<-w.len];exact qK)⟩
noncomputable def qI(M:MM):U->Option (List U)
 |.p (.lst ts)=>some (ts.map .p)
 |.m k=>match M[k]? with
  |some (.lst us)=>some us
  |_=>none
 |_=>none
noncomputable def vo(M:MM):U->Option (List U)
 |.p (.tup ts)=>some (ts.map .p)
 |.m k=>match M[k]? with
  |some (.tup us)=>some us
  |_=>none
 |_=>none
theorem zq(w:Wd A ι H M)(r:RepU A ι H v u)(e:qI M u=some us):∃p vs,v=.ref p/\H p=some (.lst vs)/\RepUs A ι H vs us:=by
 cases r with
 |p r=>
  cases r with
  |lst na e1 l r=>simp[qI]at e;subst e;exact⟨_,_,rfl,e1,RepTs.ups (Paired.of_get l r)⟩
  |_=>simp[qI]at e
 |m q=>
  obtain⟨o,h1,h2⟩:=w.al q;simp only[qI,h1]at e;cases o with
  |lst us=>simp at e;subst e;obtain⟨vs,h3,h4⟩:=h2;exact⟨_,_,rfl,h3,h4⟩
  |_=>simp at e
 |x h=>simp[qI]at e
theorem zp(w:Wd A ι H M)(r:RepU A ι H v u)(e:vo M u=some us):∃p vs,v=.ref p/\H p=some (.tup vs)/\RepUs A ι H vs us:=by
 cases r with
 |p r=>
  cases r with
  |tup na e1 l r=>simp[vo]at e;subst e;exact⟨_,_,rfl,e1,RepTs.ups (Paired.of_get l r)⟩
  |_=>simp[vo]at e
 |m q=>
  obtain⟨o,h1,h2⟩:=w.al q;simp only[vo,h1]at e;cases o with
  |tup us=>simp at e;subst e;obtain⟨vs,h3,h4⟩:=h2;exact⟨_,_,rfl,h3,h4⟩
  |_=>simp at e
 |x h=>simp[vo]at e
theorem GH(r:RepUs A ι H vs us)(e:atI us i=some z):∃x,atI vs i=some x/\RepU A ι H x z:=by
 unfold atI at e ⊢;rw[r.len];cases q:ixN us.length i with
 |none=>rw[q]at e;cases e
 |some j=>
  rw[q]at e;exact Paired.getR r e
noncomputable def uIx(it:MM->U->Option (List U))(ua ub:UE):UE:=λρ M Q=>ua ρ M λx M1=>ub ρ M1 λy M2=>∃us i z,it M2 x=some us/\y=.p (.int i)/\atI us i=some z/\Q z M2
noncomputable def CbL(r:List V->Hp->VK->Prop)(s:List T->(T->Prop)->Prop):Prop:=∀(A:Addr->Prop)(ι:List Addr)(H:Hp)(M:MM)(vs:List V)(ts:List T)(Qs:T->Prop)(Q:VK),Wd A ι H M->Paired (RepV (Av A ι) H) vs ts->s ts Qs ->
 (∀t ai v H',Le ι H ai H'->Wd A ai H' M->RepT (Av A ai) H' v t->Qs t->Q v H')->r vs H Q
noncomputable def uCb(s:List T->(T->Prop)->Prop)(ul:UA):UE:=λρ M Q=>ul ρ M λus M1=>∃ts,sns M1 us=some ts/\s ts λt=>Q (.p t) M1
theorem pv1(r:Paired (RepV A H) vs [t]):∃v,vs=[v]/\RepV A H v t:=by
 cases r with
 |cons r q=>cases q;exact⟨_,rfl,r⟩
noncomputable def sAbs:List T->(T->Prop)->Prop:=λts Q=>∃i,ts=[.int i]/\Q (.int (if i<0 then -i else i))
theorem q4u:CbL (λxs H Q=>∃i,xs=[.int i]/\Q (.int (if i<0 then -i else i)) H) sAbs:=λA ι H M vs ts Qs Q w r ⟨i,e,q⟩ k=>by
 subst e;obtain⟨v,ev,r1⟩:=pv1 r;subst ev;cases r1.int_inv;exact⟨i,rfl,k _ ι _ H (.refl _ _) w (.int _) q⟩
noncomputable def sMin:List T->(T->Prop)->Prop:=λts Q=>∃i j,ts=[.int i,.int j]/\Q (.int (if j<i then j else i))
noncomputable def sMax:List T->(T->Prop)->Prop:=λts Q=>∃i j,ts=[.int i,.int j]/\Q (.int (if j>i then j else i))
noncomputable def sInt:List T->(T->Prop)->Prop:=λts Q=>(∃i,ts=[.int i]/\Q (.int i))\/∃k,ts=[.bl k]/\Q (.int (if k then 1 else 0))
theorem Jc:CbL (λxs H Q=>(∃i,xs=[.int i]/\Q (.int i) H)\/∃k,xs=[.bl k]/\Q (.int (if k then 1 else 0)) H) sInt:=λA ι H M vs ts Qs Q w r h k=>by
 rcases h with⟨i,e,q⟩|⟨b,e,q⟩
 ·subst e
  obtain⟨v,ev,r1⟩:=pv1 r;subst ev;cases r1.int_inv;exact .inl ⟨i,rfl,k _ ι _ H (.refl _ _) w (.int _) q⟩
 ·subst e
  obtain⟨v,ev,r1⟩:=pv1 r;subst ev;cases r1.bl_inv;exact .inr ⟨b,rfl,k _ ι _ H (.refl _ _) w (.int _) q⟩
noncomputable def bls:List T->Option (List Bool)
 | []=>some []
 |.bl b::r=>(bls r).map (b :: ·)
 |_=>none
@[simp] theorem bls_map:∀bs:List Bool,bls (bs.map T.bl)=some bs
 | []=>rfl
 |b::r=>by simp[bls,bls_map r]
noncomputable def q2I:List T->(T->Prop)->Prop:=λts Q=>∃a xs,ts=[a]/\seqT a=some xs/\Q (.lst xs)
theorem q0M:CbL (λxs H Q=>∃p ys,xs=[.ref p]/\(SqL Ξ H p ys\/SqT Ξ H p ys)/\∀l,H l=none->Q (.ref l) (upd H l (.lst ys))) q2I:=λA ι H M vs ts Qs Q w r ⟨a,xs,e,ea,q⟩ k=>by
 subst e;obtain⟨v,ev,r1⟩:=pv1 r;subst ev;cases a<;>simp[seqT]at ea
 ·subst ea
  obtain⟨p,zs,rfl,h1,h2⟩:=r1.tup_inv;exact⟨p,zs,rfl,.inr (SqT.of h1),λl hl=>k _ ι _ _ (.fresh hl) (w.fresh hl) (zr w hl h2) q⟩
 ·subst ea
  obtain⟨p,zs,rfl,h1,h2⟩:=r1.lst_inv;exact⟨p,zs,rfl,.inl (SqL.of h1),λl hl=>k _ ι _ _ (.fresh hl) (w.fresh hl) (zr w hl h2) q⟩
noncomputable def uLen(it:MM->U->Option (List U))(ul:UA):UE:=λρ M Q=>ul ρ M λus M1=>∃x ys,us=[x]/\it M1 x=some ys/\Q (.p (.int ys.length)) M1
noncomputable def q7q(ua:UE):UE:=λρ M Q=>ua ρ M λx M1=>∃i,x=.p (.int i)/\Q (.p (.int (Builtin.Int.intBits i))) M1
noncomputable def cutT(xs:List T)(lo hi:Option Int):List T:=(xs.drop (HT.sIx xs.length 0 lo)).take (HT.sIx xs.length xs.length hi-HT.sIx xs.length 0 lo)
theorem Gj{lo hi:Option Int}(r:RepTs A H vs ts):RepTs A H (cutV vs lo hi) (cutT ts lo hi):=by
 unfold cutV cutT;rw[r.len];exact(r.dr _).tk _
noncomputable abbrev UO:=UEnv->MM->(Option Int->MM->Prop)->Prop
noncomputable def LO(to:TO)(uo:UO):Prop:=∀(A:Addr->Prop)(ι:List Addr)(σ:St)(H:Hp)(ρ:UEnv)(M:MM)(Qu:Option Int->MM->Prop)(Q:Option Int->Hp->Prop),Wd A ι H M->EnvR A ι H σ ρ->uo ρ M Qu ->
 (∀b M' ai H',Le ι H ai H'->Wd A ai H' M'->Qu b M'->Q b H')->to σ H Q
noncomputable def ZZ:UO:=λ_a M Q=>Q none M
noncomputable def q5U(ua:UE):UO:=λρ M Q=>ua ρ M λx M1=>∃i,x=.p (.int i)/\Q (some i) M1
theorem q4n:LO zL ZZ:=λA ι σ H ρ M Qu Q w e q k=>k _ M ι H (.refl _ _) w q
noncomputable def uSl(ua:UE)(ul uh:UO):UE:=λρ M Q=>ua ρ M λx M1=>ul ρ M1 λl M2=>uh ρ M2 λh M3=>∃ts,sn M3 x=some (.lst ts)/\Q (.p (.lst (cutT ts l h))) M3
end
section
variable {te ta tb:TE}{ue ua ub:UE}{tt:TT}{ut:UT}{tl:TA}{ul:UA}{n:Nat}{A A' A2:Addr->Prop}{H H' H1 H2:Hp}{ι ai a7 ae:List Addr}{M M':MM}{v:V}{u:U}{t:T}{σ:St}{ρ:UEnv}{Ξ:PySem.W.Frag}
structure Lea(A:Addr->Prop)(ι:List Addr)(H:Hp)(A':Addr->Prop)(ai:List Addr)(H':Hp):Prop where
 ext:∃n,ai=ι++n
 av:∀x o,¬Av A ι x->H x=some o->H' x=some o/\¬Av A' ai x
 xd:∀x fs,x∉ι->H x=some (.xd fs)->x∉ai/\H' x=some (.xd fs)
theorem Le.xd(l:Le ι H ai H'):∀x fs,x∉ι->H x=some (.xd fs)->x∉ai/\H' x=some (.xd fs):=λx fs hx e=>by
 obtain⟨m,rfl,hm⟩:=l.ext;refine⟨λz=>?_,l.fr x _ e hx⟩;rcases U4.mp z with z|z
 ·exact hx z
 ·rw[hm x z]at e;cases e
theorem Le.lea(l:Le ι H ai H'):Lea A ι H A ai H':=⟨let⟨n,e,_⟩:=l.ext;⟨n,e⟩,λ_a _a h e=>l.av h e,l.xd⟩
theorem Lea.trans(a:Lea A ι H A' ai H')(b:Lea A' ai H' A2 ae H2):Lea A ι H A2 ae H2:=by
 obtain⟨n,rfl⟩:=a.ext;obtain⟨m,rfl⟩:=b.ext;exact⟨⟨n++m,by rw[Db]⟩,λx o h e=>b.av x o (a.av x o h e).2 (a.av x o h e).1,λx fs h e=>b.xd x fs (a.xd x fs h e).1 (a.xd x fs h e).2⟩
theorem RepU.lea(l:Lea A ι H A' ai H')(r:RepU A ι H v u):RepU A' ai H' v u:=by
 cases r with
 |p r=>exact .p (r.mono l.av)
 |m e=>
  obtain⟨n,rfl⟩:=l.ext;exact .m (by rw[U1 (UR.mp e).1];exact e)
 | @x a d q h=>
  refine .x ?_;cases q with
  |none=>exact h
  |some n=>
   obtain⟨x0,e,ni,hx⟩:=h;have:=l.xd x0 _ ni hx;exact⟨x0,e,this.1,this.2⟩
theorem EnvR.lea(l:Lea A ι H A' ai H')(r:EnvR A ι H σ ρ):EnvR A' ai H' σ ρ:=Paired.mapP r λ_a _a q u e=>by
 obtain⟨v,h1,h2⟩:=q u e;exact⟨v,h1,h2.lea l⟩
structure UIt where
 n:Nat
 ok:MM->Prop
 item:Nat->U->Prop
noncomputable def ItR(A:Addr->Prop)(a7:List Addr)(H1:Hp)(J:It)(it:UIt):Prop:=∀(A':Addr->Prop)(ι:List Addr)(H:Hp)(M:MM)(i:Nat),Lea A a7 H1 A' ι H->Wd A' ι H M->it.ok M ->
 (i<it.n->J.go i H/\∀x H',J.yld i H x H'->∃u,it.item i u/\Le ι H ι H'/\Wd A' ι H' M/\RepU A' ι H' x u)/\(i=it.n->J.stop i H)
noncomputable abbrev UI:=UEnv->MM->(UIt->MM->Prop)->Prop
noncomputable def LI(wi:TI)(ui:UI):Prop:=∀(A:Addr->Prop)(ι:List Addr)(σ:St)(H:Hp)(ρ:UEnv)(M:MM)(Qu:UIt->MM->Prop)(R:It->Hp->Prop),Wd A ι H M->EnvR A ι H σ ρ->ui ρ M Qu ->
 (∀it M' ai J H',Le ι H ai H'->Wd A ai H' M'->ItR A ai H' J it->Qu it M'->R J H')->wi σ H R
noncomputable def q59(ua:UE):UI:=λρ M Q=>ua ρ M λx M1=>∃us,qI M1 x=some us/\Q ⟨us.length,λM=>qI M x=some us,λi z=>us[i]?=some z⟩ M1
noncomputable def uRev(ul:UA):UI:=λρ M Q=>ul ρ M λxs M1=>∃x us,xs=[x]/\qI M1 x=some us/\Q ⟨us.length,λM=>qI M x=some us,λi z=>us[us.length-1-i]?=some z⟩ M1
noncomputable def q5D(ul:UA):UI:=λρ M Q=>ul ρ M λxs M1=>∃j:Int,xs=[.p (.int j)] /\ -(2^62)<=j/\j<2^62/\Q ⟨j.toNat,λ_a=>True,λi z=>z=.p (.int i)⟩ M1
theorem q5b{lo:Int}:ItR A ι H (Itr lo n) ⟨n,λ_a=>True,λi z=>z=.p (.int (lo+i))⟩:=λA' ae H2 M2 i l w2 _a=>
 ⟨λhi=>⟨hi,λx H' y=>by
  obtain⟨rfl,rfl⟩:=y;exact⟨_,rfl,.refl _ _,w2,.p (.int _)⟩⟩,λhi=>Rx hi.symm⟩
noncomputable abbrev UG:=U->UEnv->MM->(UEnv->MM->Prop)->Prop
noncomputable def LG(g:TG)(ug:UG):Prop:=∀(A:Addr->Prop)(ι:List Addr)(σ:St)(H:Hp)(ρ:UEnv)(M:MM)(v:V)(u:U)(Qu:UEnv->MM->Prop)(Q:St->Hp->Prop),Wd A ι H M->EnvR A ι H σ ρ->RepU A ι H v u->ug u ρ M Qu ->
 (∀aP M' ai ah H',Le ι H ai H'->Wd A ai H' M'->EnvR A ai H' ah aP->Qu aP M'->Q ah H')->g v σ H Q
noncomputable def Kc(i:Nat):UG:=λu ρ M Q=>Q (ρ.set i (some u)) M
noncomputable def K8(i j:Nat):UG:=λu ρ M Q=>∃a b,vo M u=some [a,b]/\Q ((ρ.set i (some a)).set j (some b)) M
noncomputable def K7(i j k:Nat):UG:=λu ρ M Q=>∃a b c,vo M u=some [a,b,c]/\Q (((ρ.set i (some a)).set j (some b)).set k (some c)) M
theorem rep2(r:RepUs A ι H vs [a,b]):∃x y,vs=[x,y]/\RepU A ι H x a/\RepU A ι H y b:=by
 cases r with
 |cons r q=>cases q with|cons r2 q=>cases q;exact⟨_,_,rfl,r,r2⟩
theorem rep3(r:RepUs A ι H vs [a,b,c]):∃x y z,vs=[x,y,z]/\RepU A ι H x a/\RepU A ι H y b/\RepU A ι H z c:=by
 cases r with
 |cons r q=>
  obtain⟨y,z,rfl,r2,r3⟩:=rep2 q;exact⟨_,_,_,rfl,r,r2,r3⟩
noncomputable def uSub(uo ui:UE):UG:=λu ρ M Q=>uo ρ M λo M1=>ui ρ M1 λi M2=>∃k us z j,o=.m k/\M2[k]?=some (.lst us)/\i=.p (.int z)/\ixN us.length z=some j/\Q ρ (M2.set k (.lst (us.set j u)))
noncomputable def Jm(bs:List Bool)(n i:Nat):Bool:=match bs[i]? with
 |some b=> !b
 |none=>decide (i<bs.length+n)
theorem Wx(hl:σ.length=bs.length)(h:Jm bs n i=true):(zk bs n σ)[i]?=some none:=by
 unfold Jm at h;unfold zk;have hz:((bs.zip σ).map (λp=>if p.1 then p.2 else none)).length=bs.length:=by simp[hl]
 cases e:bs[i]? with
 |some b=>
  rw[e]at h;have hi:=(UR.mp e).1;rw[U1 (by rw[hz];exact hi),Dh];have hb:b=false:=by simpa using h
  have e2:(bs.zip σ)[i]?=some (b,σ[i]'(by lia)):=by
   rw[UU (by simp[hl];exact hi)];simp;exact(UR.mp e).2
  rw[e2,hb];rfl
 |none=>
  rw[e]at h;have hi:=List.getElem?_eq_none_iff.mp e;simp at h;rw[U9 (by rw[hz];exact hi),hz,D4];rw[G4 (by lia)]
noncomputable def LGx(bs:List Bool)(n:Nat)(g:TG)(ug:UG):Prop:=∀(A:Addr->Prop)(ι:List Addr)(σ:St)(H:Hp)(ρ:UEnv)(M:MM)(v:V)(u:U)(Qu:UEnv->MM->Prop)(Q:St->Hp->Prop),σ.length=bs.length->Wd A ι H M->EnvR A ι H (zk bs n σ) ρ->RepU A ι H v u->ug u ρ M Qu ->
 (∀aP ah,EnvR A ι H ah aP->ExtS (zk bs n σ) ah->ah.length=(zk bs n σ).length->Qu aP M->Q ah H)->g v (zk bs n σ) H Q
theorem q6B:LT tYes (λ_a M Q=>Q true M):=λA ι σ H ρ M Qu Q w e q k=>k true M ι H (.refl _ _) w q
noncomputable abbrev uYes:UT:=λ_a M Q=>Q true M
noncomputable def q1i(it:UIt)(ug:UG)(ut:UT)(ue:UE)(e8:UEnv)(M1:MM)(Q:UK):Prop:=it.n<=sizeLine/\∃Iv:Nat->List T->MM->Prop,Iv 0 [] M1 /\
 (∀i a9 M2,i<it.n->a9.length<=i->Iv i a9 M2->it.ok M2/\∀u,it.item i u->ug u e8 M2 λc7 M4=>ut c7 M4 λb M5=>if b=true then ue c7 M5 λz M6=>∃t,z=.p t/\Iv (i+1) (a9++[t]) M6 else Iv (i+1) a9 M5) /\
 (∀a9 M2,Iv it.n a9 M2->it.ok M2/\Q (.p (.lst a9)) M2)
noncomputable def q5q(ui:UI)(bs:List Bool)(n:Nat)(ug:UG)(ut:UT)(ue:UE):UE:=λρ M Q=>ui ρ M λit M1=>ρ.length=bs.length/\q1i it ug ut ue (KI bs n ρ) M1 Q
theorem Wd.addA(w:Wd A ι H M)(h:H p=none):Wd (λx=>A x\/x=p) ι (upd H p o) M:=by
 have w2:=w.fresh (o:=o) h;have hm:∀x o',¬Av A ι x->(upd H p o) x=some o'->H x≠none->(upd H p o) x=some o'/\¬Av (λx=>A x\/x=p) ι x:=λx o' hx e hs=>⟨e,λz=>by
  rcases z with(z|z)|z
  ·exact hx (.inl z)
  ·subst z;exact hs h
  ·exact hx (.inr z)⟩
 have hl:Lea A ι H (λx=>A x\/x=p) ι (upd H p o):=⟨⟨[],by simp⟩,λx o' hx e=>hm x o' hx (zK h e) (by rw[e];simp),λx fs hx e=>⟨hx,zK h e⟩⟩;refine⟨w.nd,w.len,λx hx=>?_,λx hx z=>?_,λk a ob e1 e2=>?_⟩
 ·rcases hx with hx|hx
  ·exact w2.dom x hx
  ·rw[hx,upd_same];simp
 ·rcases z with z|z
  ·exact w.na x hx z
  ·exact w.nin h (by rw[<-z];exact hx)
 ·have r:=w.obj k a ob e1 e2
  have ea:upd H p o a=H a:=upd_ne λz=>by
   obtain⟨q,hq⟩:=r.some;rw[z,h]at hq;cases hq
  cases ob with
  |lst=>obtain⟨vs,e,r⟩:=r;exact⟨vs,by rw[ea];exact e,Paired.mapP r λ_a _a q=>q.lea hl⟩
  |tup=>obtain⟨vs,e,r⟩:=r;exact⟨vs,by rw[ea];exact e,Paired.mapP r λ_a _a q=>q.lea hl⟩
  |ins=>
   obtain⟨dx,gs,e,ed,nd,r⟩:=r;exact⟨dx,gs,by rw[ea];exact e,zK h ed,nd,Paired.mapP r λ_a _a q=>⟨q.1,q.2.lea hl⟩⟩
  |dK=>obtain⟨gs,e,r⟩:=r;exact⟨gs,by rw[ea];exact e,Paired.mapP r λ_a _a q=>⟨q.1,q.2.lea hl⟩⟩
  |dF=>obtain⟨e,r⟩:=r;exact⟨by rw[ea];exact e,Paired.mapP r λ_a _a q=>⟨q.1,q.2.lea hl⟩⟩
  |tab=>obtain⟨ps,e,t,z⟩:=r;exact⟨ps,by rw[ea];exact e,t,z.imp id λ⟨c,h1,h2,h3⟩=>⟨c,h1,zK h h2,h3⟩⟩
theorem Wd.lessA(w:Wd A' ι H M)(h:∀x,A x->A' x):Wd A ι H M:=by
 have hl:Lea A' ι H A ι H:=⟨⟨[],by simp⟩,λx o hx e=>⟨e,λz=>hx (z.elim (λz=>.inl (h x z)) .inr)⟩,λx fs hx e=>⟨hx,e⟩⟩;refine⟨w.nd,w.len,λx hx=>w.dom x (h x hx),λx hx z=>w.na x hx (h x z),λk a ob e1 e2=>?_⟩;have r:=w.obj k a ob e1 e2;cases ob with
 |lst=>obtain⟨vs,e,r⟩:=r;exact⟨vs,e,Paired.mapP r λ_a _a q=>q.lea hl⟩
 |tup=>obtain⟨vs,e,r⟩:=r;exact⟨vs,e,Paired.mapP r λ_a _a q=>q.lea hl⟩
 |ins=>obtain⟨dx,gs,e,ed,nd,r⟩:=r;exact⟨dx,gs,e,ed,nd,Paired.mapP r λ_a _a q=>⟨q.1,q.2.lea hl⟩⟩
 |dK=>obtain⟨gs,e,r⟩:=r;exact⟨gs,e,Paired.mapP r λ_a _a q=>⟨q.1,q.2.lea hl⟩⟩
 |dF=>obtain⟨e,r⟩:=r;exact⟨e,Paired.mapP r λ_a _a q=>⟨q.1,q.2.lea hl⟩⟩
 |tab=>exact r
theorem Wd.updA(w:Wd A ι H M)(ha:A p)(hp:H p=some (.lst ys)):Lea A ι H A ι (upd H p o)/\Wd A ι (upd H p o) M:=by
 have hl:Lea A ι H A ι (upd H p o):=⟨⟨[],by simp⟩,λx o' hx e=>⟨by rw[upd_ne λz=>hx (.inl (by rw[z];exact ha))];exact e,hx⟩,λx fs hx e=>⟨hx,by rw[upd_ne λz=>by rw[z,hp]at e;cases e];exact e⟩⟩;refine⟨hl,w.nd,w.len,λx hx=>?_,w.na,λk a ob e1 e2=>?_⟩
 ·by_cases z:x=p
  ·rw[z,upd_same];simp
  ·rw[upd_ne z];exact w.dom x hx
 ·have r:=w.obj k a ob e1 e2
  have ea:upd H p o a=H a:=upd_ne λz=>w.na a (U0 e1) (by rw[z];exact ha);cases ob with
  |lst=>obtain⟨vs,e,r⟩:=r;exact⟨vs,by rw[ea];exact e,Paired.mapP r λ_a _a q=>q.lea hl⟩
  |tup=>obtain⟨vs,e,r⟩:=r;exact⟨vs,by rw[ea];exact e,Paired.mapP r λ_a _a q=>q.lea hl⟩
  |ins=>
   obtain⟨dx,gs,e,ed,nd,r⟩:=r;exact⟨dx,gs,by rw[ea];exact e,by rw[upd_ne λz=>by rw[z,hp]at ed;cases ed];exact ed,nd,Paired.mapP r λ_a _a q=>⟨q.1,q.2.lea hl⟩⟩
  |dK=>obtain⟨gs,e,r⟩:=r;exact⟨gs,by rw[ea];exact e,Paired.mapP r λ_a _a q=>⟨q.1,q.2.lea hl⟩⟩
  |dF=>obtain⟨e,r⟩:=r;exact⟨by rw[ea];exact e,Paired.mapP r λ_a _a q=>⟨q.1,q.2.lea hl⟩⟩
  |tab=>obtain⟨ps,e,t,z⟩:=r;exact⟨ps,by rw[ea];exact e,t,z.imp id λ⟨c,h1,h2,h3⟩=>⟨c,h1,by rw[upd_ne λz=>by rw[z,hp]at h2;cases h2];exact h2,h3⟩⟩
theorem Le.updF(l:Le ι H ai H')(h:H p=none):Le ι H ai (upd H' p o):=⟨l.ext,λx o' e n=>by rw[upd_ne (qU e h)];exact l.fr x o' e n,λx e=>by
 by_cases z:x=p
 ·rw[z,upd_same];simp
 ·rw[upd_ne z];exact l.al x e⟩
end
section
variable {ta:TE}{ua ub:UE}{tt:TT}{ut:UT}{tl:TA}{ul:UA}{n:Nat}{A:Addr->Prop}{H H' H1 H2:Hp}{ι ai a7 ae:List Addr}{M M':MM}{v:V}{u:U}{t:T}{σ:St}{ρ:UEnv}
structure q03 where
 nx:UEnv->MM->Prop
 rt:UK
 bk:UEnv->MM->Prop:=λ_a _a=>False
 ct:UEnv->MM->Prop:=λ_a _a=>False
noncomputable abbrev US:=q03->UEnv->MM->Prop
structure EndsR(A:Addr->Prop)(iw:List Addr)(H0:Hp)(E:q03)(D:Ends):Prop where
 nx:∀ι σ H ρ M,Le iw H0 ι H->Wd A ι H M->EnvR A ι H σ ρ->E.nx ρ M->D.nx σ H
 rt:∀ι v H u M,Le iw H0 ι H->Wd A ι H M->RepU A ι H v u->E.rt u M->D.rt v H
 bk:∀ι σ H ρ M,Le iw H0 ι H->Wd A ι H M->EnvR A ι H σ ρ->E.bk ρ M->D.bk σ H
 ct:∀ι σ H ρ M,Le iw H0 ι H->Wd A ι H M->EnvR A ι H σ ρ->E.ct ρ M->D.ct σ H
theorem EndsR.le(l:Le ι H ai H')(r:EndsR A ι H E D):EndsR A ai H' E D :=
 ⟨λ_a _a _a _a _a h=>r.nx _ _ _ _ _ (l.trans h),λ_a _a _a _a _a h=>r.rt _ _ _ _ _ (l.trans h),λ_a _a _a _a _a h=>r.bk _ _ _ _ _ (l.trans h),λ_a _a _a _a _a h=>r.ct _ _ _ _ _ (l.trans h)⟩
noncomputable def LS(ts:TS)(us:US):Prop:=∀(A:Addr->Prop)(ι:List Addr)(σ:St)(H:Hp)(ρ:UEnv)(M:MM)(D:Ends)(E:q03),Wd A ι H M->EnvR A ι H σ ρ->EndsR A ι H E D->us E ρ M->ts D σ H
noncomputable def Z0:US:=λE ρ M=>E.nx ρ M
noncomputable def uSeq(a b:US):US:=λE ρ M=>a { E with nx:=b E } ρ M
noncomputable def q3V(ua:UE):US:=λE ρ M=>ua ρ M λ_a M1=>E.nx ρ M1
noncomputable def uRet(ua:UE):US:=λE ρ M=>ua ρ M E.rt
noncomputable def q6L:US:=λE ρ M=>E.rt (.p .non) M
noncomputable def uIfS(c:UT)(a b:US):US:=λE ρ M=>c ρ M λk M1=>if k=true then a E ρ M1 else b E ρ M1
noncomputable def uAsg(ua:UE)(g:UG):US:=λE ρ M=>ua ρ M λx M1=>g x ρ M1 E.nx
theorem q3j:LS Q0 Z0:=λA ι σ H ρ M D E w e r q=>r.nx ι σ H ρ M (.refl _ _) w e q
noncomputable def UFor(it:UIt)(ug:UG)(ub:US)(E:q03)(ρ:UEnv)(M1:MM):Prop:=∃Iv:Nat->UEnv->MM->Prop,Iv 0 ρ M1 /\
 (∀i aH M2,i<it.n->Iv i aH M2->it.ok M2/\∀u,it.item i u->ug u aH M2 λfA M3=>ub { E with nx:=Iv (i+1),ct:=Iv (i+1),bk:=E.nx } fA M3) /\
 (∀aH M2,Iv it.n aH M2->it.ok M2/\E.nx aH M2)
noncomputable def uFor(ui:UI)(ug:UG)(ub:US):US:=λE ρ M=>ui ρ M λit M1=>UFor it ug ub E ρ M1
noncomputable def MeL(r:V->List V->Hp->VK->Prop)(s:List U->List U->(U->List U->Prop)->Prop):Prop:=∀(A:Addr->Prop)(ι:List Addr)(H:Hp)(M:MM)(k:Nat)(a:Addr)(xs ys:List V)(us ws:List U)(Qs:U->List U->Prop)(Q:VK),Wd A ι H M->ι[k]?=some a->H a=some (.lst xs)->M[k]?=some (.lst us)->RepUs A ι H xs us->RepUs A ι H ys ws->s us ws Qs ->
 (∀z cq v iy,RepUs A ι H iy cq->RepU A ι H v z->Qs z cq->Q v (upd H a (.lst iy)))->r (.ref a) ys H Q
noncomputable def uMe(s:List U->List U->(U->List U->Prop)->Prop)(uo:UE)(ul:UA):UE:=λρ M Q=>uo ρ M λo M1=>∃k,o=.m k/\(∃zs,M1[k]?=some (.lst zs))/\ul ρ M1 λws M2=>∃us,M2[k]?=some (.lst us)/\s us ws λz cq=>Q z (M2.set k (.lst cq))
noncomputable def YA:List U->List U->(U->List U->Prop)->Prop:=λus ws Q=>∃y,ws=[y]/\us.length<sizeLine/\Q (.p .non) (us++[y])
theorem Qx:MeL YL YA:=λA ι H M k a xs ys us ws Qs Q w ek h1 h2 rx ry ⟨y,ey,hz,q⟩ kk=>by
 subst ey;cases ry with
 |cons r q'=>
 cases q';exact⟨a,xs,_,rfl,rfl,h1,by rw[rx.len];exact hz,kk _ _ _ _ (rx.app (.cons r .nil)) (.p .non) q⟩
noncomputable def spU(G:List U->MM->UK->Prop):Sp:=λvs H Q _a=>∃A ι M us Qu,Wd A ι H M/\RepUs A ι H vs us/\G us M Qu/\∀u M' ai v H',Le ι H ai H'->Wd A ai H' M'->RepU A ai H' v u->Qu u M'->Q v H'
noncomputable def q4F(G:List U->MM->UK->Prop)(ul:UA):UE:=λρ M Q=>ul ρ M λus M1=>G us M1 Q
noncomputable def spP(G:List T->(T->Prop)->Prop):Sp:=λvs H Q _a=>∃A ts Qt,(∀x,A x->H x≠none)/\RepTs A H vs ts/\G ts Qt/\∀t v H',Same H H'->RepT A H' v t->Qt t->Q v H'
noncomputable def Yh(G:List T->(T->Prop)->Prop)(ul:UA):UE:=λρ M Q=>ul ρ M λus M1=>∃ts,vS us=some ts/\G ts λt=>Q (.p t) M1
noncomputable def q5T(G:List T->(T->Prop)->Prop)(ul:UA):UE:=λρ M Q=>ul ρ M λus M1=>∃ts,sns M1 us=some ts/\G ts λt=>(∃x,vt t=some x)/\Q (.p t) M1
theorem Same.le(s:Same H H'):Le ι H ι H':=⟨⟨[],by simp,by simp⟩,λx o e _a=>s x o e,λx e=>by
 cases q:H x with
 |none=>exact absurd q e
 |some o=>rw[s x o q];simp⟩
theorem Wd.same(w:Wd A ι H M)(s:Same H H'):Wd A ι H' M :=
 ⟨w.nd,w.len,λx hx=>(Same.le (ι:=ι) s).al x (w.dom x hx),w.na,λk a ob e1 e2=>(w.obj k a ob e1 e2).le' s.le (by
  obtain⟨o,ho⟩:=(w.obj k a ob e1 e2).some;rw[ho,s _ _ ho]) λx ex=>by rw[ex,s _ _ ex]⟩
theorem Wd.domAv(w:Wd A ι H M):∀x,Av A ι x->H x≠none:=λx h=>by
 rcases h with h|h
 ·exact w.dom x h
 ·obtain⟨o,ho⟩:=w.mem_some h
  rw[ho];simp
noncomputable def frzs(f:U->Option T):List U->Option (List T)
 | []=>some []
 |u::r=>match f u,frzs f r with
  |some t,some ts=>some (t::ts)
  |_,_=>none
noncomputable def frzN:Nat->MM->U->Option T
 |_,_,.p t=>some t
 |0,_,.m _=>none
 |_,_,.x _ _ _=>none
 |n+1,M,.m k=>match M[k]? with
  |some (.lst us)=>(frzs (frzN n M) us).map T.lst
  |some (.tup us)=>(frzs (frzN n M) us).map T.tup
  |_=>none
set_option tactic.hygienic true in
theorem VE(r:RepUs A ι H vs us)(h:∀v u t,RepU A ι H v u->f u=some t->RepT A H v t)(e:frzs f us=some ts):RepTs A H vs ts:=by
 induction r generalizing ts with
 |nil=>simp[frzs]at e;subst e;exact .nil
 |cons r q ih=>
  simp only[frzs]at e;split at e
  ·rename_i h1 h2
   simp at e;subst e;exact .cons (h _ _ _ r h1) (ih h2)
  ·cases e
theorem VF(w:Wd A ι H M):∀{n:Nat}{v:V}{u:U}{t:T},RepU A ι H v u->frzN n M u=some t->RepT A H v t
 |n,v,.p t',t,.p r,e=>by
  cases n<;>simp[frzN]at e<;>subst e<;>exact r.mono λx o hx ex=>⟨ex,λz=>hx (.inl z)⟩
 |0,v,.m k,t,r,e=>by simp[frzN]at e
 |n,v,.x a d q,t,r,e=>by cases n<;>simp[frzN]at e
 |n+1,v,.m k,t,r,e=>by
  cases r with
  |m q=>
  obtain⟨o,h1,h2⟩:=w.al q;have fB:=w.na _ (U0 q);simp only[frzN,h1]at e;cases o with
  |lst us=>
   simp at e;obtain⟨ts,e1,rfl⟩:=e;obtain⟨vs,h3,h4⟩:=h2;exact .lstP fB h3 (VE h4 (λv u t r e=>VF w r e) e1)
  |tup us=>
   simp at e;obtain⟨ts,e1,rfl⟩:=e;obtain⟨vs,h3,h4⟩:=h2;exact .tupP fB h3 (VE h4 (λv u t r e=>VF w r e) e1)
  |ins=>simp at e
  |dK=>simp at e
  |dF=>simp at e
  |tab=>simp at e
theorem q01(h:∀t,f (.p t)=some t):∀ts:List T,frzs f (ts.map U.p)=some ts
 | []=>rfl
 |t::r=>by simp[frzs,h t,q01 h r]
@[simp] theorem frzN_p:frzN n M (.p t)=some t:=by cases n<;>rfl
noncomputable def zM(N:List Str)(us:List U):UEnv:=us.map some++List.replicate (N.length-us.length) none
theorem xR(r:RepUs A ι H vs us):EnvR A ι H (start N vs) (zM N us):=by
 unfold start zM;refine Paired.app ?_ ?_
 ·exact Paired.mapR (f:=some) (F:=λs u=>∃v,s=some v/\RepU A ι H v u) (λa b q u e=>by cases e;exact q) (by
   induction r with
   |nil=>exact .nil
   |cons r q ih=>exact .cons ⟨_,rfl,r⟩ ih)
 ·rw[r.len]
  generalize N.length-us.length=m
  induction m with
  |zero=>exact .nil
  |succ m ih=>exact .cons (λu e=>by cases e) ih
end
section
variable {P:Program}{w:World}{Ξ:PySem.W.Frag}{mg:Str->Option Value}{base:Heap}
theorem Fun.okU{st:Stmt}(F:Fun Ξ x af st f fd)(S:q00 N ps (qd st))(len:∀us M Qu,G us M Qu->us.length=ps.length)(aA:∀(ac:Value)(A:Around)(outer:List Env)(s:Shared)(H:Hp)(E:XK),Room k (A.deeper (envOfC af (qd st) s.heap.objs.size f ac)) ->
   ∃t,PSs (cxOf CX0 P w Ξ mg base N af (qd st) f ac A outer s H E).nox (vi st) t/\∃u,LS t u/\∀us M Qu,G us M Qu->u { nx:=λ_a M'=>Qu (.p .non) M',rt:=Qu } (zM N us) M):FnOk P w Ξ mg base CX0 (k+1) f fd ps (spU G):=by
 refine F.ok S (λvs H Q E h=>?_) (λac A outer s H vs Q E hr h=>?_)
 ·obtain⟨A,ι,M,us,Qu,w1,r,g,_⟩:=h
  rw[r.len];exact len us M Qu g
 ·obtain⟨B,ι,M,us,Qu,w1,r,g,kk⟩:=h
  obtain⟨t,ht,u,hu,hb⟩:=aA ac A outer s H E hr;refine⟨t,ht,hu B ι _ H _ M _ { nx:=λ_a M'=>Qu (.p .non) M',rt:=Qu } w1 (xR r) ⟨λa7 cv H1 dm M1 l1 w1 e1 q1=>kk _ M1 a7 _ H1 l1 w1 (.p .non) q1,λa7 v H1 z M1 l1 w1 r1 q1=>kk z M1 a7 v H1 l1 w1 r1 q1,λ_a _a _a _a _a _a _a _a q=>q.elim,λ_a _a _a _a _a _a _a _a q=>q.elim⟩ (hb us M Qu g)⟩
theorem Fun.okP{st:Stmt}(F:Fun Ξ x af st f fd)(S:q00 N ps (qd st))(len:∀ts Qt,G ts Qt->ts.length=ps.length)(aA:∀(ac:Value)(A:Around)(outer:List Env)(s:Shared)(H:Hp)(E:XK),Room k (A.deeper (envOfC af (qd st) s.heap.objs.size f ac)) ->
   ∃t,PSs (cxOf CX0 P w Ξ mg base N af (qd st) f ac A outer s H E).nox (vi st) t/\∃u,LS t u/\∀ts Qt,G ts Qt->u { nx:=λ_a _a=>Qt .non,rt:=λz M'=>∃t,frzN 4 M' z=some t/\Qt t } (zM N (ts.map U.p)) []):FnOk P w Ξ mg base CX0 (k+1) f fd ps (spP G):=by
 refine F.ok S (λvs H Q E h=>?_) (λac A outer s H vs Q E hr h=>?_)
 ·obtain⟨A,ts,Qt,hd,r,g,_⟩:=h
  rw[r.len];exact len ts Qt g
 ·obtain⟨B,ts,Qt,hd,r,g,kk⟩:=h
  obtain⟨t,ht,u,hu,hb⟩:=aA ac A outer s H E hr;have w0:Wd B [] H []:=⟨List.nodup_nil,rfl,hd,λx hx=>by simp at hx,λk a o e _a=>by simp at e⟩;have same:∀{a7:List Addr}{H1:Hp},Le [] H a7 H1->Same H H1:=λl b o e=>l.fr b o e (by simp);have r0:RepUs B [] H vs (ts.map U.p):=RepTs.ups (Paired.mapP r λ_a _a q=>q.mono λx o hx ex=>⟨ex,λz=>z.elim hx (by simp)⟩);refine⟨t,ht,hu B [] _ H _ [] _ { nx:=λ_a _a=>Qt .non,rt:=λz M'=>∃t,frzN 4 M' z=some t/\Qt t } w0 (xR r0) ⟨λa7 cv H1 dm M1 l1 w1 e1 q1=>kk _ _ H1 (same l1) .non q1,λa7 v H1 z M1 l1 w1 r1 ⟨t1,et,q1⟩=>kk t1 v H1 (same l1) (VF w1 r1 et) q1,λ_a _a _a _a _a _a _a _a q=>q.elim,λ_a _a _a _a _a _a _a _a q=>q.elim⟩ (hb ts Qt g)⟩
end
noncomputable def OpS(s:T->T->(T->Prop)->Prop)(M:MM)(x y:U)(Q:UK):Prop:=∃a b,sn M x=some a/\sn M y=some b/\s a b λt=>Q (.p t) M
theorem q76:uOp s ua ub ρ M Q=ua ρ M λx M1=>ub ρ M1 λy M2=>OpS s M2 x y Q:=rfl
theorem q5K:OpS s M (.p a) (.p b) Q=s a b λt=>Q (.p t) M :=
 propext ⟨λzz=>by obtain⟨_,_,e1,e2,h⟩:=zz;cases e1;cases e2;exact h,λh=>⟨a,b,rfl,rfl,h⟩⟩
theorem q77:sI C g (.int i) (.int j) Q=(C i j/\Q (g i j)):=
 propext ⟨λzz=>by obtain⟨_,_,e1,e2,h⟩:=zz;cases e1;cases e2;exact h,λh=>⟨i,j,rfl,rfl,h⟩⟩
theorem q6g:sI0 g (.int i) (.int j) Q=Q (g i j):=
 propext ⟨λzz=>by obtain⟨_,_,e1,e2,h⟩:=zz;cases e1;cases e2;exact h,λh=>⟨i,j,rfl,rfl,h⟩⟩
theorem q6a:sEq false (.int i) (.int j) Q=Q (.bl (decide (i=j))):=by
 refine propext ⟨λ⟨x,y,e1,e2,_,h⟩=>?_,λh=>⟨_,_,rfl,rfl,rfl,?_⟩⟩
 ·simp[vt]at e1 e2;subst e1 e2;simpa using h
 ·simpa using h
theorem q6l:sEq true (.int i) (.int j) Q=Q (.bl (!decide (i=j))):=by
 refine propext ⟨λ⟨x,y,e1,e2,_,h⟩=>?_,λh=>⟨_,_,rfl,rfl,rfl,?_⟩⟩
 ·simp[vt]at e1 e2;subst e1 e2;simpa using h
 ·simpa using h
theorem q6i:sEq false (.str i) (.str j) Q=Q (.bl (decide (i=j))):=by
 refine propext ⟨λ⟨x,y,e1,e2,_,h⟩=>?_,λh=>⟨_,_,rfl,rfl,rfl,?_⟩⟩
 ·simp[vt]at e1 e2;subst e1 e2;simpa using h
 ·simpa using h
theorem q4Y:sEq true (.str i) (.str j) Q=Q (.bl (!decide (i=j))):=by
 refine propext ⟨λ⟨x,y,e1,e2,_,h⟩=>?_,λh=>⟨_,_,rfl,rfl,rfl,?_⟩⟩
 ·simp[vt]at e1 e2;subst e1 e2;simpa using h
 ·simpa using h
theorem q65:sEq false (.bl i) (.bl j) Q=Q (.bl (decide (i=j))):=by
 refine propext ⟨λ⟨x,y,e1,e2,_,h⟩=>?_,λh=>⟨_,_,rfl,rfl,rfl,?_⟩⟩
 ·simp[vt]at e1 e2;subst e1 e2;simpa using h
 ·simpa using h
theorem q68:sEq true (.bl i) (.bl j) Q=Q (.bl (!decide (i=j))):=by
 refine propext ⟨λ⟨x,y,e1,e2,_,h⟩=>?_,λh=>⟨_,_,rfl,rfl,rfl,?_⟩⟩
 ·simp[vt]at e1 e2;subst e1 e2;simpa using h
 ·simpa using h
noncomputable def VarS(o:Option (Option U))(M:MM)(Q:UK):Prop:=∃u,o=some (some u)/\Q u M
theorem q4Z:uVar i ρ M Q=VarS ρ[i]? M Q:=rfl
theorem q4s:VarS (some (some u)) M Q=Q u M:=propext ⟨λzz=>by obtain⟨_,e,h⟩:=zz;cases e;exact h,λh=>⟨u,rfl,h⟩⟩
noncomputable def IntS(x:U)(R:Int->Prop):Prop:=∃i,x=.p (.int i)/\R i
theorem q44:IntS (.p (.int i)) R=R i:=propext ⟨λzz=>by obtain⟨_,e,h⟩:=zz;cases e;exact h,λh=>⟨i,rfl,h⟩⟩
noncomputable def BlS(x:U)(R:Bool->Prop):Prop:=∃b,x=.p (.bl b)/\R b
theorem q5i:BlS (.p (.bl b)) R=R b:=propext ⟨λzz=>by obtain⟨_,e,h⟩:=zz;cases e;exact h,λh=>⟨b,rfl,h⟩⟩
theorem q5e:uNeg ua ρ M Q=ua ρ M λx M1=>IntS x λi=>Q (.p (.int (-i))) M1:=rfl
theorem q4x:q7q ua ρ M Q=ua ρ M λx M1=>IntS x λi=>Q (.p (.int (Builtin.Int.intBits i))) M1:=rfl
theorem rd_b:uB ua ρ M QB=ua ρ M λx M1=>BlS x λb=>QB b M1:=rfl
theorem q38:q5C ua ub ρ M Q=ua ρ M λx M1=>BlS x λc=>if c=true then ub ρ M1 Q else Q (.p (.bl false)) M1:=rfl
theorem q55:uOrV ua ub ρ M Q=ua ρ M λx M1=>BlS x λc=>if c=true then Q (.p (.bl true)) M1 else ub ρ M1 Q:=rfl
theorem q3q:q7E ua ρ M Q=ua ρ M λx M1=>BlS x λc=>Q (.p (.bl (!c))) M1:=rfl
noncomputable def ChS(s':T->T->(T->Prop)->Prop)(uc:UE)(ρ:UEnv)(M:MM)(y:U)(Q:UK)(z:T):Prop:=∃k,z=.bl k/\if k=true then uc ρ M λc M3=>OpS s' M3 y c Q else Q (.p (.bl false)) M
theorem q1q:q2r s s' ua ub uc ρ M Q=ua ρ M λx M1=>ub ρ M1 λy M2=>OpS s M2 x y λz _a=>∃t,z=.p t/\ChS s' uc ρ M2 y Q t :=
 propext (by
  have e:∀(x y:U)(M2:MM),(∃a b,sn M2 x=some a/\sn M2 y=some b/\s a b λz=>∃k,z=.bl k/\if k=true then uc ρ M2 λc M3=>∃b' c',sn M3 y=some b'/\sn M3 c=some c'/\s' b' c' λt=>Q (.p t) M3 else Q (.p (.bl false)) M2)=(OpS s M2 x y λz _a=>∃t,z=.p t/\ChS s' uc ρ M2 y Q t):=λx y M2=>by
   unfold OpS ChS;have:∀z:T,(∃t,U.p z=.p t/\∃k,t=.bl k/\if k=true then uc ρ M2 λc M3=>OpS s' M3 y c Q else Q (.p (.bl false)) M2)=(∃k,z=.bl k/\if k=true then uc ρ M2 λc M3=>∃b' c',sn M3 y=some b'/\sn M3 c=some c'/\s' b' c' λt=>Q (.p t) M3 else Q (.p (.bl false)) M2):=λz=>
    propext ⟨λzz=>by obtain⟨t,e,h⟩:=zz;cases e;exact h,λh=>⟨z,rfl,h⟩⟩
   simp only[this]
  unfold q2r;simp only[e])
theorem q6p:(∃t,U.p (.bl b)=.p t/\ChS s' uc ρ M y Q t)=if b=true then uc ρ M λc M3=>OpS s' M3 y c Q else Q (.p (.bl false)) M :=
 propext ⟨λzz=>by obtain⟨t,e,k,e2,h⟩:=zz;cases e;cases e2;exact h,λh=>⟨_,rfl,b,rfl,h⟩⟩
noncomputable def PurS(us:List U)(R:List T->Prop):Prop:=∃ts,vS us=some ts/\R ts
theorem YF:PurS (ts.map U.p) R=R ts:=propext ⟨λzz=>by obtain⟨_,e,h⟩:=zz;rw[jr]at e;cases e;exact h,λh=>⟨ts,jr ts,h⟩⟩
theorem q4h:PurS [] R=R []:=YF (ts:=[])
theorem q2C:PurS (.p a::us) R=PurS us λts=>R (a::ts):=by
 refine propext ⟨λ⟨ts,e,h⟩=>?_,λ⟨ts,e,h⟩=>⟨a::ts,by simp[vS,e],h⟩⟩;simp[vS]at e;obtain⟨r,e1,rfl⟩:=e;exact⟨r,e1,h⟩
theorem q5n:uTup ul ρ M Q=ul ρ M λus M1=>PurS us λts=>Q (.p (.tup ts)) M1:=rfl
theorem q4G:uLst ul ρ M Q=ul ρ M λus M1=>PurS us λts=>Q (.p (.lst ts)) M1:=rfl
noncomputable def IxS(it:MM->U->Option (List U))(M:MM)(x y:U)(Q:UK):Prop:=∃us i z,it M x=some us/\y=.p (.int i)/\atI us i=some z/\Q z M
theorem q7m:uIx it ua ub ρ M Q=ua ρ M λx M1=>ub ρ M1 λy M2=>IxS it M2 x y Q:=rfl
theorem xK(h1:it M x=some us)(h2:atI us i=some z)(q:Q z M):IxS it M x (.p (.int i)) Q:=⟨us,i,z,h1,rfl,h2,q⟩
theorem GI(h:atI ts i=some t):atI (ts.map U.p) i=some (.p t):=by
 unfold atI at h ⊢;rw[UY];cases e:ixN ts.length i with
 |none=>rw[e]at h;cases h
 |some j=>rw[e]at h;simp at h ⊢;rw[h]
theorem qX(h:atI ts i=some t)(q:Q (.p t) M):IxS qI M (.p (.lst ts)) (.p (.int i)) Q:=xK rfl (GI h) q
theorem vc(h:atI ts i=some t)(q:Q (.p t) M):IxS vo M (.p (.tup ts)) (.p (.int i)) Q:=xK rfl (GI h) q
noncomputable def SnsS(M:MM)(us:List U)(R:List T->Prop):Prop:=∃ts,sns M us=some ts/\R ts
theorem q3p:SnsS M [] R=R []:=propext ⟨λzz=>by obtain⟨_,e,h⟩:=zz;cases e;exact h,λh=>⟨[],rfl,h⟩⟩
theorem q4b:SnsS M (.p a::us) R=SnsS M us λts=>R (a::ts):=by
 refine propext ⟨λ⟨ts,e,h⟩=>?_,λ⟨ts,e,h⟩=>⟨a::ts,by simp[sns,sn,e],h⟩⟩;simp only[sns,sn]at e;cases q:sns M us with
 |none=>rw[q]at e;cases e
 |some r=>rw[q]at e;simp at e;subst e;exact⟨r,q,h⟩
theorem q6F:uCb s ul ρ M Q=ul ρ M λus M1=>SnsS M1 us λts=>s ts λt=>Q (.p t) M1:=rfl
theorem q2O:sAbs [.int i] Q=Q (.int (if i<0 then -i else i)):=propext ⟨λzz=>by obtain⟨_,e,h⟩:=zz;cases e;exact h,λh=>⟨i,rfl,h⟩⟩
theorem q2N:sMin [.int i,.int j] Q=Q (.int (if j<i then j else i)):=propext ⟨λzz=>by obtain⟨_,_,e,h⟩:=zz;cases e;exact h,λh=>⟨i,j,rfl,h⟩⟩
theorem q3D:sMax [.int i,.int j] Q=Q (.int (if j>i then j else i)):=propext ⟨λzz=>by obtain⟨_,_,e,h⟩:=zz;cases e;exact h,λh=>⟨i,j,rfl,h⟩⟩
theorem q2M:sInt [.int i] Q=Q (.int i):=by
 refine propext ⟨λh=>?_,λh=>Or.inl ⟨i,rfl,h⟩⟩;rcases h with⟨_,e,h⟩|⟨_,e,h⟩
 ·cases e;exact h
 ·cases e
theorem q3W:sInt [.bl k] Q=Q (.int (if k then 1 else 0)):=by
 refine propext ⟨λh=>?_,λh=>Or.inr ⟨k,rfl,h⟩⟩;rcases h with⟨_,e,h⟩|⟨_,e,h⟩
 ·cases e
 ·cases e;exact h
noncomputable def LenS(it:MM->U->Option (List U))(M:MM)(us:List U)(Q:UK):Prop:=∃x ys,us=[x]/\it M x=some ys/\Q (.p (.int ys.length)) M
theorem q4U:uLen it ul ρ M Q=ul ρ M λus M1=>LenS it M1 us Q:=rfl
theorem q3g:LenS qI M [.p (.lst ts)] Q=Q (.p (.int ts.length)) M :=
 propext ⟨λzz=>by obtain⟨_,_,e1,e2,h⟩:=zz;cases e1;cases e2;rw[UY]at h;exact h,λh=>⟨_,_,rfl,rfl,by rw[UY];exact h⟩⟩
theorem kR(e:M[k]?=some (.lst us))(h:Q (.p (.int us.length)) M):LenS qI M [.m k] Q:=⟨_,_,rfl,by simp[qI,e],h⟩
noncomputable def SlS(M:MM)(x:U)(l h:Option Int)(Q:UK):Prop:=∃ts,sn M x=some (.lst ts)/\Q (.p (.lst (cutT ts l h))) M
theorem q6T:uSl ua u1 u2 ρ M Q=ua ρ M λx M1=>u1 ρ M1 λl M2=>u2 ρ M2 λh M3=>SlS M3 x l h Q:=rfl
theorem q52:SlS M (.p (.lst ts)) l h Q=Q (.p (.lst (cutT ts l h))) M:=propext ⟨λzz=>by obtain⟨_,e,h⟩:=zz;cases e;exact h,λh=>⟨ts,rfl,h⟩⟩
theorem q3x{QO:Option Int->MM->Prop}:q5U ua ρ M QO=ua ρ M λx M1=>IntS x λi=>QO (some i) M1:=rfl
theorem YG{QO:Option Int->MM->Prop}:ZZ ρ M QO=QO none M:=rfl
theorem q4K:sCat (.lst xs) (.lst ys) Q=(xs.length+ys.length<=sizeLine/\Q (.lst (xs++ys))):=propext ⟨λzz=>by obtain⟨_,_,e1,e2,h⟩:=zz;cases e1;cases e2;exact h,λh=>⟨xs,ys,rfl,rfl,h⟩⟩
theorem q5l:sStr (.str i) (.str j) Q=(i.length+j.length<=sizeLine/\Q (.str (i++j))):=propext ⟨λzz=>by obtain⟨_,_,e1,e2,h⟩:=zz;cases e1;cases e2;exact h,λh=>⟨i,j,rfl,rfl,h⟩⟩
noncomputable def itU(x:U)(us:List U):UIt:=⟨us.length,λM=>qI M x=some us,λi z=>us[i]?=some z⟩
noncomputable def q2D(M:MM)(x:U)(R:UIt->MM->Prop):Prop:=∃us,qI M x=some us/\R (itU x us) M
theorem q3m:q59 ua ρ M R=ua ρ M λx M1=>q2D M1 x R:=rfl
theorem q0B:q2D M (.p (.lst ts)) R=R (itU (.p (.lst ts)) (ts.map U.p)) M:=propext ⟨λzz=>by obtain⟨_,e,h⟩:=zz;cases e;exact h,λh=>⟨_,rfl,h⟩⟩
theorem WL(e:M[k]?=some (.lst us))(h:R (itU (.m k) us) M):q2D M (.m k) R:=⟨us,by simp[qI,e],h⟩
noncomputable def itR0(n:Nat):UIt:=⟨n,λ_a=>True,λi z=>z=.p (.int i)⟩
noncomputable def RngS(us:List U)(M:MM)(R:UIt->MM->Prop):Prop:=∃j:Int,us=[.p (.int j)] /\ -(2^62)<=j/\j<2^62/\R (itR0 j.toNat) M
theorem q4w:q5D ul ρ M R=ul ρ M λus M1=>RngS us M1 R:=rfl
theorem jC(h1 : -(2^62)<=j)(h2:j<2^62)(q:R (itR0 j.toNat) M):RngS [.p (.int j)] M R:=⟨j,rfl,h1,h2,q⟩
theorem ke(Iv:Nat->UEnv->MM->Prop)(h0:Iv 0 ρ M)(hs:∀i t aH M2,ts[i]?=some t->Iv i aH M2->ug (.p t) aH M2 λfA M3=>ub { E with nx:=Iv (i+1),ct:=Iv (i+1),bk:=E.nx } fA M3)(hd:∀aH M2,Iv ts.length aH M2->E.nx aH M2):UFor (itU (.p (.lst ts)) (ts.map U.p)) ug ub E ρ M:=by
 refine⟨Iv,h0,λi aH M2 hi h=>⟨rfl,λu hu=>?_⟩,λaH M2 h=>⟨rfl,hd aH M2 (by simpa[itU]using h)⟩⟩;have hu:(ts.map U.p)[i]?=some u:=hu;rw[Dh]at hu;cases e:ts[i]? with
 |none=>rw[e]at hu;cases hu
 |some t=>rw[e]at hu;cases hu;exact hs i t aH M2 e h
theorem xN(Iv:Nat->UEnv->MM->Prop)(h0:Iv 0 ρ M)(hs:∀(i:Nat) aH M2,i<m->Iv i aH M2->ug (.p (.int i)) aH M2 λfA M3=>ub { E with nx:=Iv (i+1),ct:=Iv (i+1),bk:=E.nx } fA M3)(hd:∀aH M2,Iv m aH M2->E.nx aH M2):UFor (itR0 m) ug ub E ρ M :=
 ⟨Iv,h0,λi aH M2 hi h=>⟨trivial,λu hu=>by cases(show u=_ from hu);exact hs i aH M2 hi h⟩,λaH M2 h=>⟨trivial,hd aH M2 h⟩⟩
theorem q0v(Iv:Nat->UEnv->MM->Prop)(h0:Iv 0 ρ M)(hk:∀i aH M2,Iv i aH M2->M2[k]?=some (.lst xs))(hs:∀i z aH M2,xs[i]?=some z->Iv i aH M2->ug z aH M2 λfA M3=>ub { E with nx:=Iv (i+1),ct:=Iv (i+1),bk:=E.nx } fA M3)(hd:∀aH M2,Iv xs.length aH M2->E.nx aH M2):UFor (itU (.m k) xs) ug ub E ρ M :=
 ⟨Iv,h0,λi aH M2 hi h=>⟨by show qI M2 (.m k)=_;simp[qI,hk i aH M2 h],λu hu=>hs i u aH M2 hu h⟩,λaH M2 h=>⟨by show qI M2 (.m k)=_;simp[qI,hk _ aH M2 h],hd aH M2 h⟩⟩
theorem Qn(hz:ts.length<=sizeLine)(Iv:Nat->List T->MM->Prop)(h0:Iv 0 [] M)(hs:∀i t a9 M2,ts[i]?=some t->a9.length<=i->Iv i a9 M2->ug (.p t) e8 M2 λc7 M4=>ut c7 M4 λb M5=>if b=true then ua c7 M5 λz M6=>∃t,z=.p t/\Iv (i+1) (a9++[t]) M6 else Iv (i+1) a9 M5)(hd:∀a9 M2,Iv ts.length a9 M2->Q (.p (.lst a9)) M2):q1i (itU (.p (.lst ts)) (ts.map U.p)) ug ut ua e8 M Q:=by
 refine⟨by simpa[itU]using hz,Iv,h0,λi a9 M2 hi ha h=>⟨rfl,λu hu=>?_⟩,λa9 M2 h=>⟨rfl,hd a9 M2 (by simpa[itU]using h)⟩⟩;have hu:(ts.map U.p)[i]?=some u:=hu;rw[Dh]at hu;cases e:ts[i]? with
 |none=>rw[e]at hu;cases hu
 |some t=>rw[e]at hu;cases hu;exact hs i t a9 M2 e ha h
theorem kg(hz:m<=sizeLine)(Iv:Nat->List T->MM->Prop)(h0:Iv 0 [] M)(hs:∀(i:Nat) a9 M2,i<m->a9.length<=i->Iv i a9 M2->ug (.p (.int i)) e8 M2 λc7 M4=>ut c7 M4 λb M5=>if b=true then ua c7 M5 λz M6=>∃t,z=.p t/\Iv (i+1) (a9++[t]) M6 else Iv (i+1) a9 M5)(hd:∀a9 M2,Iv m a9 M2->Q (.p (.lst a9)) M2):q1i (itR0 m) ug ut ua e8 M Q :=
 ⟨hz,Iv,h0,λi a9 M2 hi ha h=>⟨trivial,λu hu=>by cases(show u=_ from hu);exact hs i a9 M2 hi ha h⟩,λa9 M2 h=>⟨trivial,hd a9 M2 h⟩⟩
noncomputable def T2S(M:MM)(u:U)(R:U->U->Prop):Prop:=∃a b,vo M u=some [a,b]/\R a b
noncomputable def T3S(M:MM)(u:U)(R:U->U->U->Prop):Prop:=∃a b c,vo M u=some [a,b,c]/\R a b c
theorem q1z:K8 i j u ρ M R=T2S M u λa b=>R ((ρ.set i (some a)).set j (some b)) M:=rfl
theorem q1C:K7 i j k u ρ M R=T3S M u λa b c=>R (((ρ.set i (some a)).set j (some b)).set k (some c)) M:=rfl
theorem q6W:T2S M (.p (.tup [a,b])) R=R (.p a) (.p b):=propext ⟨λzz=>by obtain⟨_,_,e,h⟩:=zz;cases e;exact h,λh=>⟨_,_,rfl,h⟩⟩
theorem q7k:T3S M (.p (.tup [a,b,c])) R=R (.p a) (.p b) (.p c):=propext ⟨λzz=>by obtain⟨_,_,_,e,h⟩:=zz;cases e;exact h,λh=>⟨_,_,_,rfl,h⟩⟩
theorem q0Y:Yh G ul ρ M Q=ul ρ M λus M1=>PurS us λts=>G ts λt=>Q (.p t) M1:=rfl
theorem q1c:q5T G ul ρ M Q=ul ρ M λus M1=>SnsS M1 us λts=>G ts λt=>(∃x,vt t=some x)/\Q (.p t) M1:=rfl
theorem q05:q4F G ul ρ M Q=ul ρ M λus M1=>G us M1 Q:=rfl
noncomputable def MeS(s:List U->List U->(U->List U->Prop)->Prop)(ul:UA)(ρ:UEnv)(M:MM)(o:U)(Q:UK):Prop:=∃k,o=.m k/\(∃zs,M[k]?=some (.lst zs))/\ul ρ M λws M2=>∃us,M2[k]?=some (.lst us)/\s us ws λz cq=>Q z (M2.set k (.lst cq))
theorem q6Q:uMe s ua ul ρ M Q=ua ρ M λo M1=>MeS s ul ρ M1 o Q:=rfl
theorem Vy(e:M[k]?=some (.lst zs))(h:ul ρ M λws M2=>∃us,M2[k]?=some (.lst us)/\s us ws λz cq=>Q z (M2.set k (.lst cq))):MeS s ul ρ M (.m k) Q:=⟨k,rfl,⟨zs,e⟩,h⟩
theorem q6h:YA us [y] Q=(us.length<sizeLine/\Q (.p .non) (us++[y])):=propext ⟨λzz=>by obtain⟨_,e,h⟩:=zz;cases e;exact h,λh=>⟨y,rfl,h⟩⟩
theorem ss{α:Type}{a:α}{R:α->Prop}:(∃x,some a=some x/\R x)=R a:=propext ⟨λzz=>by obtain⟨_,e,h⟩:=zz;cases e;exact h,λh=>⟨a,rfl,h⟩⟩
inductive EqT:Nat->T->T->Bool->Prop
 |flat {n:Nat}{a b:T}{x y:V}:vt a=some x->vt b=some y->EqT n a b (eqV x y)
 |tup {n:Nat}{xs ys:List T}{e:Nat->Bool}:(∀(j:Nat) x y,xs[j]?=some x->ys[j]?=some y->EqT n x y (e j))->EqT (n+1) (.tup xs) (.tup ys) ((List.range (min xs.length ys.length)).all e&&xs.length==ys.length)
 |lst {n:Nat}{xs ys:List T}{e:Nat->Bool}:xs.length=ys.length->(∀(j:Nat) x y,xs[j]?=some x->ys[j]?=some y->EqT n x y (e j))->EqT (n+1) (.lst xs) (.lst ys) ((List.range xs.length).all e)
 |lstN {n:Nat}{xs ys:List T}:xs.length≠ys.length->EqT (n+1) (.lst xs) (.lst ys) false
theorem RepT.inj(r:RepT A H v a):RepT A H v b->a=b:=by
 induction r generalizing b with
 |non=>intro q;cases q;rfl
 |bl=>intro q;cases q;rfl
 |int=>intro q;cases q;rfl
 |str=>intro q;cases q;rfl
 |tup na e l r ih=>
  intro q;cases q with
  |tup na' e' l' r'=>
   rw[e]at e';cases e'
   congr 1;refine List.ext_getElem (by lia) λi h1 h2=>?_;have h3:=h1;rw[<-l]at h3;exact ih i _ _ (UU h3) (UU h1) (r' i _ _ (UU h3) (UU h2))
  |lst na' e' l' r'=>rw[e]at e';cases e'
 |lst na e l r ih=>
  intro q;cases q with
  |lst na' e' l' r'=>
   rw[e]at e';cases e'
   congr 1;refine List.ext_getElem (by lia) λi h1 h2=>?_;have h3:=h1;rw[<-l]at h3;exact ih i _ _ (UU h3) (UU h1) (r' i _ _ (UU h3) (UU h2))
  |tup na' e' l' r'=>rw[e]at e';cases e'
theorem q1k:∀{x:V}{t:T},vt t=some x->eqV x x=true:=λ{x t} h=>by cases j9 h<;>simp[eqV]
theorem EqT.self(h:EqT n a b r):a=b->r=true:=by
 induction h with
 |flat h1 h2=>intro e;subst e;rw[h1]at h2;cases h2;exact q1k h1
 | @tup n xs ys e hh ih=>
  intro q;cases q;simp only[Nat.min_self,Ul,Bool.and_true,Rh,Rf];intro j hj;exact ih j _ _ (UU hj) (UU hj) rfl
 | @lst n xs ys e hl hh ih=>
  intro q;cases q;simp only[Rh,Rf];intro j hj;exact ih j _ _ (UU hj) (UU hj) rfl
 |lstN hl=>intro q;cases q;exact absurd rfl hl
theorem EqT.de(h:EqT n a b r):∀{x y:V},RepT A H x a->RepT A H y b->DE Ξ H n x y r:=by
 induction h with
 | @flat n a b x0 y0 h1 h2=>
  intro x y r1 r2;cases(RepV.of r1).sc (y:=.non) h1;cases(RepV.of r2).sc (y:=.non) h2;exact .flat (by cases j9 h1<;>rfl) (by cases j9 h2<;>rfl)
 | @tup n xs ys e hh ih=>
  intro x y r1 r2;obtain⟨p,vs,rfl,_,h1,q1⟩:=r1.tup_inv;obtain⟨p2,cb,rfl,_,h2,q2⟩:=r2.tup_inv;by_cases hp:p=p2
  ·subst hp
   have:=(EqT.tup (n:=n) hh).self (r1.inj r2);rw[this];exact .same
  ·have:=DE.tup (Ξ:=Ξ) (H:=H) (n:=n) (e:=e) hp (SqT.of h1) (SqT.of h2) λj x y hx hy=>by
    obtain⟨a,ha,ra⟩:=Paired.getL q1 hx;obtain⟨b,hb,rb⟩:=Paired.getL q2 hy;exact ih j a b ha hb ra rb
   rw[q1.len,q2.len]at this;exact this
 | @lst n xs ys e hl hh ih=>
  intro x y r1 r2;obtain⟨p,vs,rfl,_,h1,q1⟩:=r1.lst_inv;obtain⟨p2,cb,rfl,_,h2,q2⟩:=r2.lst_inv;by_cases hp:p=p2
  ·subst hp
   have:=(EqT.lst (n:=n) hl hh).self (r1.inj r2);rw[this];exact .same
  ·have:=DE.lst (Ξ:=Ξ) (H:=H) (n:=n) (e:=e) hp (SqL.of h1) (SqL.of h2) (by rw[q1.len,q2.len,hl]) λj x y hx hy=>by
    obtain⟨a,ha,ra⟩:=Paired.getL q1 hx;obtain⟨b,hb,rb⟩:=Paired.getL q2 hy;exact ih j a b ha hb ra rb
   rw[q1.len]at this;exact this
 | @lstN n xs ys hl=>
  intro x y r1 r2;obtain⟨p,vs,rfl,_,h1,q1⟩:=r1.lst_inv;obtain⟨p2,cb,rfl,_,h2,q2⟩:=r2.lst_inv;by_cases hp:p=p2
  ·subst hp
   have:=r1.inj r2;cases this;exact absurd rfl hl
  ·exact .lstN hp (SqL.of h1) (SqL.of h2) (by rw[q1.len,q2.len];exact hl)
noncomputable def sEqL(neg:Bool):T->T->(T->Prop)->Prop:=λa b Q=>∃xs ys,a=.lst xs/\b=.lst ys/\((xs.length≠ys.length/\Q (.bl neg))\/(xs.length=ys.length/\∃e:Nat->Bool,(∀(j:Nat) x y,xs[j]?=some x->ys[j]?=some y->EqT 20 x y (e j))/\Q (.bl (if neg then !(List.range xs.length).all e else(List.range xs.length).all e))))
theorem q3U:OpL (rNeL Ξ) (sEqL true):=λA ι H M x y a b Qs Q w r1 r2 ⟨xs,ys,ea,eb,h⟩ k=>by
 subst ea eb;obtain⟨p,vs,rfl,h1,q1⟩:=r1.lst_inv;obtain⟨p2,cb,rfl,h2,q2⟩:=r2.lst_inv;refine⟨p,p2,vs,cb,rfl,rfl,SqL.of h1,SqL.of h2,?_⟩;rcases h with⟨hl,q⟩|⟨hl,e,he,q⟩
 ·exact .inl ⟨by rw[q1.len,q2.len];exact hl,k _ ι _ H (.refl _ _) w (.bl _) q⟩
 ·refine .inr ⟨by rw[q1.len,q2.len];exact hl,e,λj x y hx hy=>?_,by rw[q1.len];exact k _ ι _ H (.refl _ _) w (.bl _) q⟩
  obtain⟨a,ha,ra⟩:=Paired.getL q1 hx;obtain⟨b,hb,rb⟩:=Paired.getL q2 hy;exact(he j a b ha hb).de ra rb
noncomputable abbrev q0b(ns:List Int):T:=.lst (ns.map T.int)
noncomputable def frzB(b:Nat):Nat->MM->U->Option T
 |_,_,.p t=>some t
 |0,_,.m _=>none
 |_,_,.x _ _ _=>none
 |n+1,M,.m k=>if b<=k then match M[k]? with
  |some (.lst us)=>(frzs (frzB b n M) us).map T.lst
  |some (.tup us)=>(frzs (frzB b n M) us).map T.tup
  |_=>none else none
@[simp] theorem frzB_p:frzB b n M (.p t)=some t:=by cases n<;>rfl
set_option tactic.hygienic true in
theorem Zz(r:RepUs A ι H vs us)(h:∀v u t,RepU A ι H v u->f u=some t->RepT A' H v t)(e:frzs f us=some ts):RepTs A' H vs ts:=by
 induction r generalizing ts with
 |nil=>simp[frzs]at e;subst e;exact .nil
 |cons r q ih=>
  simp only[frzs]at e;split at e
  ·rename_i h1 h2
   simp at e;subst e;exact .cons (h _ _ _ r h1) (ih h2)
  ·cases e
set_option tactic.hygienic true in
theorem VG(w:Wd A (ι++m) H M):∀{n:Nat}{v:V}{u:U}{t:T},RepU A (ι++m) H v u->frzB ι.length n M u=some t->RepT (Av A ι) H v t
 |n,v,.p t',t,.p r,e=>by
  rw[frzB_p]at e;cases e;exact r.mono λx o hx ex=>⟨ex,λz=>hx (z.elim .inl λz=>.inr (Df _ z))⟩
 |0,v,.m k,t,r,e=>by simp[frzB]at e
 |n,v,.x a d q,t,r,e=>by cases n<;>simp[frzB]at e
 |n+1,v,.m k,t,r,e=>by
  cases r with
  |m q=>
  rename_i a;obtain⟨o,h1,h2⟩:=w.al q;simp only[frzB,h1]at e;split at e
  ·rename_i hk
   have fB:¬Av A ι a:=λz=>by
    rcases z with z|z
    ·exact w.na _ (U0 q) z
    ·rw[U9 hk]at q
     have hd:=(DF.mp w.nd).2.2;exact hd a z a (U0 q) rfl
   cases o with
   |lst us=>
    simp at e;obtain⟨ts,e1,rfl⟩:=e;obtain⟨vs,h3,h4⟩:=h2;exact .lstP fB h3 (Zz h4 (λv u t r e=>VG w r e) e1)
   |tup us=>
    simp at e;obtain⟨ts,e1,rfl⟩:=e;obtain⟨vs,h3,h4⟩:=h2;exact .tupP fB h3 (Zz h4 (λv u t r e=>VG w r e) e1)
   |ins=>simp at e
   |dK=>simp at e
   |dF=>simp at e
   |tab=>simp at e
  ·cases e
noncomputable def PurO(o:MO):Prop:=∃ts:List T,o=.lst (ts.map U.p)
noncomputable def zu(M M':MM):Prop:=∀(i:Nat) o,i<M.length->M'[i]?=some o->M[i]?=some o\/PurO o
theorem RepU.less{m:List Addr}(r:RepU A (ι++m) H v u)(r0:RepU A ι H0 v0 u):RepU A ι H v u:=by
 cases r with
 |p r=>exact .p (r.mono λx o hx ex=>⟨ex,λz=>hx (z.elim .inl λz=>.inr (Df _ z))⟩)
 |m e=>
  cases r0 with
  |m e0=>
   rw[U1 (UR.mp e0).1]at e;exact .m e
 | @x a d q h=>
  refine .x ?_;cases q with
  |none=>exact h
  |some n=>
   obtain⟨x0,e,ni,hx⟩:=h;exact⟨x0,e,λz=>ni (Df _ z),hx⟩
theorem vU{α β:Type}{F G L:α->β->Prop}(h:∀a a0 b,F a b->G a0 b->L a b):∀{l l0:List α}{r:List β},Paired F l r->Paired G l0 r->Paired L l r
 |_,_,_,.nil,.nil=>.nil
 |_,_,_,.cons p q,.cons p0 q0=>.cons (h _ _ _ p p0) (vU h q q0)
theorem ObjR.less(r:ObjR A (ι++m) H a o)(r0:ObjR A ι H0 a0 o):ObjR A ι H a o:=by
 cases o with
 |lst=>obtain⟨vs,e,r⟩:=r;obtain⟨_,_,r0⟩:=r0;exact⟨vs,e,vU (λ_a _a _a p q=>p.less q) r r0⟩
 |tup=>obtain⟨vs,e,r⟩:=r;obtain⟨_,_,r0⟩:=r0;exact⟨vs,e,vU (λ_a _a _a p q=>p.less q) r r0⟩
 |ins=>obtain⟨dx,gs,e,ed,nd,r⟩:=r;obtain⟨_,_,_,_,_,r0⟩:=r0;exact⟨dx,gs,e,ed,λz=>nd (Df _ z),vU (λ_a _a _a p q=>⟨p.1,p.2.less q.2⟩) r r0⟩
 |dK=>obtain⟨gs,e,r⟩:=r;obtain⟨_,_,r0⟩:=r0;exact⟨gs,e,vU (λ_a _a _a p q=>⟨p.1,p.2.less q.2⟩) r r0⟩
 |dF=>obtain⟨e,r⟩:=r;obtain⟨_,r0⟩:=r0;exact⟨e,vU (λ_a _a _a p q=>⟨p.1,p.2.less q.2⟩) r r0⟩
 |tab=>obtain⟨ps,e,t,z⟩:=r;exact⟨ps,e,t,z.imp id λ⟨c,h1,h2,h3⟩=>⟨c,h1,h2,λz=>h3 (Df _ z)⟩⟩
theorem Wd.trim(w:Wd A (ι++m) H M')(w0:Wd A ι H0 M)(h:zu M M'):Wd A ι H (M'.take M.length):=by
 have hl:M.length<=M'.length:=by
  have:=w.len;rw[UV,w0.len]at this;lia
 refine⟨(DF.mp w.nd).1,by rw[DC,Nat.min_eq_left hl];exact w0.len,w.dom,λx hx=>w.na x (Df _ hx),λk a o e1 e2=>?_⟩;have hk:=(UR.mp e1).1;rw[RD (by rw[<-w0.len];exact hk)]at e2;have r:=w.obj k a o (by rw[U1 hk];exact e1) e2;rcases h k o (by rw[<-w0.len];exact hk) e2 with z|⟨ts,rfl⟩
 ·exact r.less (w0.obj k a o e1 z)
 ·obtain⟨vs,e,q⟩:=r
  refine⟨vs,e,?_⟩;have q2:=q.pures;exact RepTs.ups (Paired.mapP q2 λ_a _a q=>q.mono λx o hx ex=>⟨ex,λz=>hx (z.elim .inl λz=>.inr (Df _ z))⟩)
theorem q5X(hu:LS t u)(hb:∀us M Qu,G us M Qu->u { nx:=λ_a M'=>zu M M'/\Qu (.p .non) (M'.take M.length),rt:=λz M'=>zu M M'/\∃t,frzB M.length 4 M' z=some t/\Qu (.p t) (M'.take M.length) } (zM N us) M)(h:spU G vs H Q E):t { nx:=λ_a H'=>Q .non H',rt:=Q } (start N vs) H:=by
 obtain⟨B,ι,M,us,Qu,w1,r,g,kk⟩:=h;have less:∀{a7:List Addr}{H1:Hp},Le ι H a7 H1->Le ι H ι H1:=λl=>⟨⟨[],by simp,by simp⟩,l.fr,l.al⟩;refine hu B ι _ H _ M _ { nx:=λ_a M'=>zu M M'/\Qu (.p .non) (M'.take M.length),rt:=λz M'=>zu M M'/\∃t,frzB M.length 4 M' z=some t/\Qu (.p t) (M'.take M.length) } w1 (xR r) ⟨λa7 cv H1 dm M1 l1 w2 e1 q1=>?_,λa7 v H1 z M1 l1 w2 r1 q1=>?_,λ_a _a _a _a _a _a _a _a q=>q.elim,λ_a _a _a _a _a _a _a _a q=>q.elim⟩ (hb us M Qu g)
 ·obtain⟨tr,q⟩:=q1
  obtain⟨m,rfl,_⟩:=id l1.ext;exact kk _ _ ι _ H1 (less l1) (w2.trim w1 tr) (.p .non) q
 ·obtain⟨tr,t1,et,q⟩:=q1
  obtain⟨m,rfl,_⟩:=id l1.ext;rw[<-w1.len]at et;exact kk _ _ ι v H1 (less l1) (w2.trim w1 tr) (.p (VG w2 r1 et)) q
theorem Fun.okV{st:Stmt}(F:Fun Ξ x af st f fd)(S:q00 N ps (qd st))(len:∀us M Qu,G us M Qu->us.length=ps.length)(aA:∀(ac:Value)(A:Around)(outer:List Env)(s:Shared)(H:Hp)(E:XK),Room k (A.deeper (envOfC af (qd st) s.heap.objs.size f ac)) ->
   ∃t,PSs (cxOf CX0 P w Ξ mg base N af (qd st) f ac A outer s H E).nox (vi st) t/\∃u,LS t u/\∀us M Qu,G us M Qu->u { nx:=λ_a M'=>zu M M'/\Qu (.p .non) (M'.take M.length),rt:=λz M'=>zu M M'/\∃t,frzB M.length 4 M' z=some t/\Qu (.p t) (M'.take M.length) } (zM N us) M):FnOk P w Ξ mg base CX0 (k+1) f fd ps (spU G):=by
 refine F.ok S (λvs H Q E h=>?_) (λac A outer s H vs Q E hr h=>?_)
 ·obtain⟨A,ι,M,us,Qu,w1,r,g,_⟩:=h
  rw[r.len];exact len us M Qu g
 ·obtain⟨t,ht,u,hu,hb⟩:=aA ac A outer s H E hr
  exact⟨t,ht,q5X hu hb h⟩
noncomputable def keyU:Key->U
 |.inl i=>.p (.int i)
 |.inr x=>.p (.str x)
 |.non=>.p .non
noncomputable def valU(kvs:List (Key×U))(k:Key):Option U:=(kvs.find? λkv=>decide (kv.1=k)).map (·.2)
noncomputable def putU(kvs:List (Key×U))(k:Key)(y:U):List (Key×U):=if kvs.any (λkv=>decide (kv.1=k)) then kvs.map (λkv=>if kv.1=k then(kv.1,y) else kv) else kvs++[(k,y)]
noncomputable def Zn(kvs more:List (Key×U)):List (Key×U):=more.foldl (λa9 kv=>putU a9 kv.1 kv.2) kvs
noncomputable abbrev KR(A:Addr->Prop)(ι:List Addr)(H:Hp):List (Key×V)->List (Key×U)->Prop:=Paired λ(g:Key×V) (f:Key×U)=>g.1=f.1/\RepU A ι H g.2 f.2
theorem q4i(r:KR A ι H gs kvs):match valU kvs k with|some u=>∃v,valV gs k=some v/\RepU A ι H v u|none=>valV gs k=none:=by
 induction r with
 |nil=>rfl
 | @cons g f gs kvs p q ih=>
  obtain⟨e,r⟩:=p;unfold valU valV at ih ⊢;simp only[DN];by_cases h:f.1=k
  ·rw[e]
   simp only[h,decide_true];exact⟨_,rfl,r⟩
  ·rw[e]
   simp only[h,decide_false];exact ih
theorem q3e(r:KR A ι H gs kvs):(gs.any λkv=>decide (kv.1=k))=(kvs.any λkv=>decide (kv.1=k)):=by
 induction r with
 |nil=>rfl
 |cons p q ih=>rw[DU,DU,ih,p.1]
theorem XO(r:KR A ι H gs kvs)(rv:RepU A ι H v u):KR A ι H (gs.map λkv=>if kv.1=k then(kv.1,v) else kv) (kvs.map λkv=>if kv.1=k then(kv.1,u) else kv):=by
 induction r with
 |nil=>exact .nil
 | @cons g f gs kvs p q ih=>
  refine .cons ?_ ih;show(if g.1=k then(g.1,v) else g).1=(if f.1=k then(f.1,u) else f).1/\RepU A ι H (if g.1=k then(g.1,v) else g).2 (if f.1=k then(f.1,u) else f).2;by_cases h:f.1=k
  ·rw[G4 h,G4 (p.1.trans h)];exact⟨p.1,rv⟩
  ·rw[GZ h,GZ (λz=>h (p.1.symm.trans z))];exact p
theorem q3c(r:KR A ι H gs kvs)(rv:RepU A ι H v u):KR A ι H (putK gs k v) (putU kvs k u):=by
 unfold putK putU;rw[q3e r];split
 ·exact XO r rv
 ·exact r.app (.cons ⟨rfl,rv⟩ .nil)
theorem Wv(q:KR A ι H more moreU):∀{gs:List (Key×V)}{kvs:List (Key×U)},KR A ι H gs kvs->KR A ι H (kN gs more) (Zn kvs moreU):=by
 unfold kN Zn
 induction q with
 |nil=>intro gs kvs r;exact r
 |cons p q ih=>
  intro gs kvs r;rw[RS,RS,p.1];exact ih (q3c r p.2)
inductive LPs:List (TE×TE)->List (UE×UE)->Prop
 |nil:LPs [] []
 |cons {tk tv:TE}{uk uv:UE}{ts:List (TE×TE)}{us:List (UE×UE)}:LE tk uk->LE tv uv->LPs ts us->LPs ((tk,tv)::ts) ((uk,uv)::us)
noncomputable def Jj:List (UE×UE)->UEnv->MM->(List (U×U)->MM->Prop)->Prop
 | [],_,M,Q=>Q [] M
 | (k,v)::r,ρ,M,Q=>k ρ M λx M1=>v ρ M1 λy M2=>Jj r ρ M2 λps M3=>Q ((x,y)::ps) M3
theorem q2V(h:LPs dB gO):∀(A:Addr->Prop)(ι:List Addr)(σ:St)(H:Hp)(ρ:UEnv)(M:MM)(Qu:List (U×U)->MM->Prop)(Q:List (V×V)->Hp->Prop),Wd A ι H M->EnvR A ι H σ ρ->Jj gO ρ M Qu ->
  (∀us M' ai vs H',Le ι H ai H'->Wd A ai H' M'->Paired (λ(x:V×V) (y:U×U)=>RepU A ai H' x.1 y.1/\RepU A ai H' x.2 y.2) vs us->Qu us M'->Q vs H')->Jn dB σ H Q:=by
 induction h with
 |nil=>intro A ι σ H ρ M Qu Q w e q k;exact k [] M ι [] H (.refl _ _) w .nil q
 |cons h1 h2 h3 ih=>
  intro A ι σ H ρ M Qu Q w e q k;refine h1 A ι σ H ρ M _ _ w e q λx M1 a7 v1 H1 l1 w1 r1 q1=>?_;refine h2 A a7 σ H1 ρ M1 _ _ w1 (e.le l1) q1 λy M2 ae v2 H2 l2 w2 r2 q2=>?_;refine ih A ae σ H2 ρ M2 _ _ w2 (e.le (l1.trans l2)) q2 λus M3 cP vs H3 l3 w3 r3 q3=>?_;exact k _ M3 cP _ H3 ((l1.trans l2).trans l3) w3 (.cons ⟨(r1.le l2).le l3,r2.le l3⟩ r3) q3
noncomputable def Yd(gO:List (UE×UE)):UE:=λρ M Q=>Jj gO ρ (M++[.dK []]) λps M2=>M2[M.length]?=some (.dK [])/\∃kvs:List (Key×U),ps=kvs.map (λkv=>(keyU kv.1,kv.2))/\kvs.length<=15/\Q (.m M.length) (M2.set M.length (.dK (Zn [] kvs)))
theorem WF(r:RepU A ι H v (keyU k)):v=kV k:=by
 cases k with
 |inl i=>cases r with|p r=>cases r;rfl
 |inr x=>cases r with|p r=>cases r;rfl
 |non=>cases r with|p r=>cases r;rfl
theorem WD:∀{kvs:List (Key×U)}{vs:List (V×V)},Paired (λ(x:V×V) (y:U×U)=>RepU A ι H x.1 y.1/\RepU A ι H x.2 y.2) vs (kvs.map λkv=>(keyU kv.1,kv.2))->∃gs:List (Key×V),vs=gs.map (λkv=>(kV kv.1,kv.2))/\KR A ι H gs kvs
 | [],_,.nil=>⟨[],rfl,.nil⟩
 |kv::kvs,(a,b)::_,.cons p q=>by
  obtain⟨gs,rfl,r⟩:=WD (kvs:=kvs) q;refine⟨(kv.1,b)::gs,?_,.cons ⟨rfl,p.2⟩ r⟩;rw[Di];have:=WF p.1;simp only at this;rw[this]
noncomputable def q40(M:MM)(x y:U)(Q:UK):Prop:=∃k kvs key w,x=.m k/\M[k]?=some (.dK kvs)/\y=keyU key/\valU kvs key=some w/\Q w M
noncomputable def q5S(ua ub:UE):UE:=λρ M Q=>ua ρ M λx M1=>ub ρ M1 λy M2=>q40 M2 x y Q
theorem q2Z:q5S ua ub ρ M Q=ua ρ M λx M1=>ub ρ M1 λy M2=>q40 M2 x y Q:=rfl
theorem j7(h1:M[k]?=some (.dK kvs))(h2:valU kvs (.inr x)=some w)(q:Q w M):q40 M (.m k) (.p (.str x)) Q:=⟨k,kvs,.inr x,w,rfl,h1,rfl,h2,q⟩
theorem LA.imp(h:LA n ta ua)(k:∀ρ M Q,ua' ρ M Q->ua ρ M Q):LA n ta ua':=λA ι σ H ρ M Qu Q w e q kk=>h A ι σ H ρ M Qu Q w e (k _ _ _ q) kk
theorem LE.imp(h:LE te ue)(k:∀ρ M Q,ue' ρ M Q->ue ρ M Q):LE te ue':=λA ι σ H ρ M Qu Q w e q kk=>h A ι σ H ρ M Qu Q w e (k _ _ _ q) kk
noncomputable def uIfC(c:UT)(t1 t2:T):UE:=λρ M Q=>c ρ M λb M1=>Q (.p (if b=true then t1 else t2)) M1
theorem q18[Decidable c]:(if c then T.int a else T.int b)=T.int (if c then a else b):=by split<;>rfl
theorem q09[Decidable c]:(if c then T.str a else T.str b)=T.str (if c then a else b):=by split<;>rfl
noncomputable def itV(x:U)(us:List U):UIt:=⟨us.length,λM=>qI M x=some us,λi z=>us[us.length-1-i]?=some z⟩
noncomputable def RevS(us:List U)(M:MM)(R:UIt->MM->Prop):Prop:=∃x ys,us=[x]/\qI M x=some ys/\R (itV x ys) M
theorem q4P:uRev ul ρ M R=ul ρ M λus M1=>RevS us M1 R:=rfl
theorem q3T:RevS [.p (.lst ts)] M R=R (itV (.p (.lst ts)) (ts.map U.p)) M:=propext ⟨λzz=>by obtain⟨_,_,e1,e2,h⟩:=zz;cases e1;cases e2;exact h,λh=>⟨_,_,rfl,rfl,h⟩⟩
theorem q7l:ChS s' uc ρ M y Q (.bl b)=if b=true then uc ρ M λc M3=>OpS s' M3 y c Q else Q (.p (.bl false)) M :=
 propext ⟨λzz=>by obtain⟨k,e,h⟩:=zz;cases e;exact h,λh=>⟨b,rfl,h⟩⟩
noncomputable def uIxK(ts:List T)(ub:UE):UE:=λρ M Q=>ub ρ M λy M1=>IntS y λi=>∃t,atI ts i=some t/\Q (.p t) M1
noncomputable def uInK(neg:Bool)(vs:List V)(ua:UE):UE:=λρ M Q=>ua ρ M λx M1=>∃a,x=.p a/\∃y,vt a=some y/\Q (.p (.bl (if neg then !inV y vs else inV y vs))) M1
inductive TyC where
 |int|bool|str|list|tuple
noncomputable def TyC.name:TyC->String
 |.int=> "int" |.bool=> "bool" |.str=> "str" |.list=> "list" |.tuple=> "tuple"
noncomputable def isT:T->TyC->Bool
 |.int _,.int=>true
 |.bl _,.int=>true
 |.bl _,.bool=>true
 |.str _,.str=>true
 |.lst _,.list=>true
 |.tup _,.tuple=>true
 |_,_=>false
noncomputable def isU(M:MM):U->TyC->Option Bool
 |.p t,c=>some (isT t c)
 |.m k,c=>match M[k]? with
  |some (.lst _)=>some (isT (.lst []) c)
  |some (.tup _)=>some (isT (.tup []) c)
  |_=>none
 |.x _ _ _,_=>none
theorem WM(w:Wd A ι H M)(r:RepU A ι H v u)(e:isU M u c=some b):∃t,TyOf Ξ H v (.type t)/\W.kitOne Ξ (.type t) (.type c.name)=some b:=by
 cases r with
 |p r=>
  simp only[isU,Option.some.injEq]at e;subst e;cases r with
  |non=>exact⟨_,.non,by cases c<;>rfl⟩
  |bl b=>exact⟨_,.bl b,by cases c<;>rfl⟩
  |int i=>exact⟨_,.int i,by cases c<;>rfl⟩
  |str x=>exact⟨_,.str x,by cases c<;>rfl⟩
  |tup na e l r=>exact⟨_,.tup e,by cases c<;>rfl⟩
  |lst na e l r=>exact⟨_,.lst e,by cases c<;>rfl⟩
 |m q=>
  obtain⟨o,h1,h2⟩:=w.al q;simp only[isU,h1]at e;cases o with
  |lst us=>simp only[Option.some.injEq]at e;subst e;obtain⟨vs,h3,_⟩:=h2;exact⟨_,.lst h3,by cases c<;>rfl⟩
  |tup us=>simp only[Option.some.injEq]at e;subst e;obtain⟨vs,h3,_⟩:=h2;exact⟨_,.tup h3,by cases c<;>rfl⟩
  |ins=>simp at e
  |dK=>simp at e
  |dF=>simp at e
  |tab=>simp at e
 |x h=>simp[isU]at e
noncomputable def uIsi(c:TyC)(ua:UE):UE:=λρ M Q=>ua ρ M λx M1=>∃b,isU M1 x c=some b/\Q (.p (.bl b)) M1
noncomputable def q6H(c d:TyC)(ua:UE):UE:=λρ M Q=>ua ρ M λx M1=>∃b,isU M1 x c=some b/\∃b',isU M1 x d=some b'/\Q (.p (.bl (b||b'))) M1
noncomputable def q4m(neg:Bool):T->T->(T->Prop)->Prop:=λa b Q=>∃xs ys,∃e:Nat->Bool,a=.tup xs/\b=.tup ys/\(∀(j:Nat) x y,xs[j]?=some x->ys[j]?=some y->EqT 20 x y (e j))/\Q (.bl (if neg then !((List.range (min xs.length ys.length)).all e&&xs.length==ys.length) else((List.range (min xs.length ys.length)).all e&&xs.length==ys.length)))
theorem q4C:OpL (rEqT Ξ) (q4m false):=λA ι H M x y a b Qs Q w r1 r2 ⟨xs,ys,e,ea,eb,he,q⟩ k=>by
 subst ea eb;obtain⟨p,vs,rfl,h1,q1⟩:=r1.tup_inv;obtain⟨p2,cb,rfl,h2,q2⟩:=r2.tup_inv;refine⟨p,p2,vs,cb,e,rfl,rfl,SqT.of h1,SqT.of h2,λj x y hx hy=>?_,by rw[q1.len,q2.len];exact k _ ι _ H (.refl _ _) w (.bl _) q⟩;obtain⟨a,ha,ra⟩:=Paired.getL q1 hx;obtain⟨b,hb,rb⟩:=Paired.getL q2 hy;exact(he j a b ha hb).de ra rb
noncomputable def q7e:UE:=λ_a M Q=>Q (.m M.length) (M++[.dK []])
noncomputable def DInS(neg:Bool)(M:MM)(y x:U)(Q:UK):Prop:=∃k kvs key,x=.m k/\M[k]?=some (.dK kvs)/\y=keyU key/\Q (.p (.bl (if neg then !(valU kvs key).isSome else(valU kvs key).isSome))) M
noncomputable def uDIn(neg:Bool)(ua ub:UE):UE:=λρ M Q=>ua ρ M λy M1=>ub ρ M1 λx M2=>DInS neg M2 y x Q
noncomputable def q6k(M:MM)(x y v:U)(R:MM->Prop):Prop:=∃k kvs key,x=.m k/\M[k]?=some (.dK kvs)/\y=keyU key/\kvs.length<sizeLine/\R (M.set k (.dK (putU kvs key v)))
noncomputable def q7p(ud uy uv:UE):US:=λE ρ M=>uv ρ M λv M1=>ud ρ M1 λx M2=>uy ρ M2 λy M3=>q6k M3 x y v λM4=>E.nx ρ M4
theorem q60:uDIn neg ua ub ρ M Q=ua ρ M λy M1=>ub ρ M1 λx M2=>DInS neg M2 y x Q:=rfl
theorem q3L:q7p ud uy uv E ρ M=uv ρ M λv M1=>ud ρ M1 λx M2=>uy ρ M2 λy M3=>q6k M3 x y v λM4=>E.nx ρ M4:=rfl
noncomputable def IdxS(us:List U)(xs:List Str)(M:MM)(Q:UK):Prop:=∃(t:Str)(j:Nat),us=[.p (.str t)]/\xs[j]?=some t/\(∀m,m<j->xs[m]?≠some t)/\Q (.p (.int j)) M
noncomputable def q75(xs:List Str)(ul:UA):UE:=λρ M Q=>ul ρ M λus M1=>IdxS us xs M1 Q
theorem q3f:q75 xs ul ρ M Q=ul ρ M λus M1=>IdxS us xs M1 Q:=rfl
noncomputable def q2f(us:List U)(M:MM)(Q:UK):Prop:=∃(i j:Int)(n:Nat),us=[.p (.int i),.p (.int j)] /\ -(2^62)<=i/\j<2^62/\j=i+n/\n<=1000000/\Q (.p (.lst ((List.range n).map λk:Nat=>T.int (i+k)))) M
noncomputable def q5m(ul:UA):UE:=λρ M Q=>ul ρ M λus M1=>q2f us M1 Q
theorem q07:q5m ul ρ M Q=ul ρ M λus M1=>q2f us M1 Q:=rfl
theorem gdIx(h:IxS it M x y Q):IxS it M x y Q:=h
theorem gdT2(h:T2S M u R):T2S M u R:=h
theorem gdT3(h:T3S M u R):T3S M u R:=h
theorem gdMe(h:MeS s ul ρ M o Q):MeS s ul ρ M o Q:=h
theorem q7j(h:LenS it M us Q):LenS it M us Q:=h
noncomputable abbrev FR(A:Addr->Prop)(ι:List Addr)(H:Hp):List (Str×V)->List (Str×U)->Prop:=Paired (λ(g:Str×V) (f:Str×U)=>g.1=f.1/\RepU A ι H g.2 f.2)
theorem JE(r:FR A ι H gs fs)(e:fs.lookup f=some u):∃v,gs.lookup f=some v/\RepU A ι H v u:=by
 induction r with
 |nil=>cases e
 | @cons g h gs fs a _ ih=>
  obtain⟨g1,g2⟩:=g;obtain⟨h1,h2⟩:=h;obtain⟨e1,r1⟩:=a;simp only at e1 r1;subst e1;rw[Dj]at e ⊢;cases hk:f==g1 with
  |true=>rw[hk]at e;cases e;exact⟨_,rfl,r1⟩
  |false=>rw[hk]at e;exact ih e
theorem Zo(r:FR A ι H gs fs)(e:fs.lookup f=none):gs.lookup f=none:=by
 induction r with
 |nil=>rfl
 | @cons g h gs fs a _ ih=>
  obtain⟨g1,g2⟩:=g;obtain⟨h1,h2⟩:=h;obtain⟨e1,r1⟩:=a;simp only at e1 r1;subst e1;rw[Dj]at e ⊢;cases hk:f==g1 with
  |true=>rw[hk]at e;cases e
  |false=>rw[hk]at e;exact ih e
noncomputable def Vo(f:Str)(v:U):List (Str×U)->List (Str×U)
 | []=>[(f,v)]
 | (g,x)::r=>if g=f then(g,v)::r else(g,x)::Vo f v r
theorem q19(r:FR A ι H gs fs)(rv:RepU A ι H v u):FR A ι H (putF f v gs) (Vo f u fs):=by
 induction r with
 |nil=>exact .cons ⟨rfl,rv⟩ .nil
 | @cons g h gs fs a rr ih=>
  obtain⟨g1,g2⟩:=g;obtain⟨h1,h2⟩:=h;obtain⟨e1,r1⟩:=a;simp only at e1 r1;subst e1;unfold putF Vo;by_cases hk:g1=f
  ·rw[G4 hk,G4 hk];exact .cons ⟨rfl,rv⟩ rr
  ·rw[GZ hk,GZ hk];exact .cons ⟨rfl,r1⟩ ih
noncomputable def FldS(Ξ:PySem.W.Frag)(f:Str)(x:U)(M:MM)(Q:UK):Prop:=∃k C fs u,x=.m k/\M[k]?=some (.ins C fs)/\Cls Ξ C/\NoAttr Ξ C f/\fs.lookup f=some u/\Q u M
noncomputable def uFld(Ξ:PySem.W.Frag)(ua:UE)(f:Str):UE:=λρ M Q=>ua ρ M λx M1=>FldS Ξ f x M1 Q
noncomputable def Jf(Ξ:PySem.W.Frag)(f:Str)(x y:U)(M:MM)(R:MM->Prop):Prop:=∃k C fs,x=.m k/\M[k]?=some (.ins C fs)/\Cls Ξ C/\NoAttr Ξ C f/\fs.length<1000/\R (M.set k (.ins C (Vo f y fs)))
noncomputable def Z1(Ξ:PySem.W.Frag)(ua uv:UE)(f:Str):US:=λE ρ M=>uv ρ M λy M1=>ua ρ M1 λx M2=>Jf Ξ f x y M2 λM3=>E.nx ρ M3
noncomputable def VX(C:Addr)(m:Str)(x:U)(M:MM)(R:Prop):Prop:=∃k fs,x=.m k/\M[k]?=some (.ins C fs)/\fs.lookup m=none/\R
noncomputable def K9(C:Addr)(m:Str)(G:List U->MM->UK->Prop)(ua:UE)(ul:UA):UE:=λρ M Q=>ua ρ M λx M1=>VX C m x M1 (ul ρ M1 λus M2=>G (x::us) M2 Q)
noncomputable def q64(C:Addr)(G:List U->MM->UK->Prop)(ul:UA):UE:=λρ M Q=>ul ρ M λus M1=>G (.m M1.length::us) (M1++[.ins C []]) λv M2=>v=.p .non/\Q (.m M1.length) M2
noncomputable def q2P(M:MM)(x y:U)(Q:UK):Prop:=∃xs k,x=.p (.lst xs)/\y=.p (.int k) /\ -(2^63)<=k/\k<2^63/\xs.length*k.toNat<=sizeLine/\Q (.m M.length) (M++[.lst ((List.replicate k.toNat xs).flatten.map U.p)])
noncomputable def ZY(ua ub:UE):UE:=λρ M Q=>ua ρ M λx M1=>ub ρ M1 λy M2=>q2P M2 x y Q
noncomputable def flT:T->Bool
 |.int _=>true
 |.str _=>true
 |_=>false
noncomputable def sEqW:T->T->(T->Prop)->Prop:=λa b Q=>sEq false a b Q\/q4m false a b Q\/(∃xs,flT a=true/\b=.tup xs/\Q (.bl false))\/∃xs,flT b=true/\a=.tup xs/\Q (.bl false)
theorem W5(h:flT t=true)(r:RepV A H v t):QJ v=true:=by
 cases t with
 |int i=>rw[r.int_inv];rfl
 |str i=>rw[r.str_inv];rfl
 |_=>cases h
theorem YY:OpL (λx y H Q=>rEq x y H Q\/rEqT Ξ x y H Q\/q1v Ξ x y H Q\/q0J Ξ x y H Q) sEqW:=λA ι H M x y a b Qs Q w r1 r2 h k=>by
 rcases h with h|h|⟨xs,hf,eb,q⟩|⟨xs,hf,ea,q⟩
 ·exact .inl (Qw A ι H M x y a b Qs Q w r1 r2 h k)
 ·exact .inr (.inl (q4C A ι H M x y a b Qs Q w r1 r2 h k))
 ·subst eb
  obtain⟨p,vs,rfl,h1,q1⟩:=r2.tup_inv;exact .inr (.inr (.inl ⟨p,vs,W5 hf r1,rfl,SqT.of h1,k _ ι _ H (.refl _ _) w (.bl _) q⟩))
 ·subst ea
  obtain⟨p,vs,rfl,h1,q1⟩:=r1.tup_inv;exact .inr (.inr (.inr ⟨p,vs,W5 hf r2,rfl,SqT.of h1,k _ ι _ H (.refl _ _) w (.bl _) q⟩))
noncomputable def SubS(M:MM)(o i u:U)(R:MM->Prop):Prop:=∃k us z j,o=.m k/\M[k]?=some (.lst us)/\i=.p (.int z)/\ixN us.length z=some j/\R (M.set k (.lst (us.set j u)))
theorem q5a:uSub ua ub u ρ M Q=ua ρ M λo M1=>ub ρ M1 λi M2=>SubS M2 o i u λM3=>Q ρ M3:=rfl
theorem rep4(r:RepUs A ι H vs [a,b,c,d]):∃x y z s,vs=[x,y,z,s]/\RepU A ι H x a/\RepU A ι H y b/\RepU A ι H z c/\RepU A ι H s d:=by
 cases r with
 |cons r q=>
  obtain⟨y,z,s,rfl,r2,r3,r4⟩:=rep3 q;exact⟨_,_,_,_,rfl,r,r2,r3,r4⟩
noncomputable def K6(i j k l:Nat):UG:=λu ρ M Q=>∃a b c d,vo M u=some [a,b,c,d]/\Q ((((ρ.set i (some a)).set j (some b)).set k (some c)).set l (some d)) M
noncomputable def T4S(M:MM)(u:U)(R:U->U->U->U->Prop):Prop:=∃a b c d,vo M u=some [a,b,c,d]/\R a b c d
theorem q0s:K6 i j k l u ρ M R=T4S M u λa b c d=>R ((((ρ.set i (some a)).set j (some b)).set k (some c)).set l (some d)) M:=rfl
theorem q6U:T4S M (.p (.tup [a,b,c,d])) R=R (.p a) (.p b) (.p c) (.p d):=propext ⟨λzz=>by obtain⟨_,_,_,_,e,h⟩:=zz;cases e;exact h,λh=>⟨_,_,_,_,rfl,h⟩⟩
noncomputable def P2S(us:List U)(R:U->U->Prop):Prop:=∃a b,us=[a,b]/\R a b
noncomputable def P3S(us:List U)(R:U->U->U->Prop):Prop:=∃a b c,us=[a,b,c]/\R a b c
noncomputable def uPar(i j:Nat)(ul:UA):US:=λE ρ M=>ul ρ M λus M1=>P2S us λa b=>E.nx ((ρ.set i (some a)).set j (some b)) M1
noncomputable def q5R(i j k:Nat)(ul:UA):US:=λE ρ M=>ul ρ M λus M1=>P3S us λa b c=>E.nx (((ρ.set i (some a)).set j (some b)).set k (some c)) M1
theorem q4W:uPar i j ul E ρ M=ul ρ M λus M1=>P2S us λa b=>E.nx ((ρ.set i (some a)).set j (some b)) M1:=rfl
theorem q46:q5R i j k ul E ρ M=ul ρ M λus M1=>P3S us λa b c=>E.nx (((ρ.set i (some a)).set j (some b)).set k (some c)) M1:=rfl
theorem q79:P2S [a,b] R=R a b:=propext ⟨λzz=>by obtain⟨_,_,e,h⟩:=zz;cases e;exact h,λh=>⟨a,b,rfl,h⟩⟩
theorem q6X:P3S [a,b,c] R=R a b c:=propext ⟨λzz=>by obtain⟨_,_,_,e,h⟩:=zz;cases e;exact h,λh=>⟨a,b,c,rfl,h⟩⟩
theorem q66:uFld Ξ ua f ρ M Q=ua ρ M λx M1=>FldS Ξ f x M1 Q:=rfl
theorem YJ:Z1 Ξ ua uv f E ρ M=uv ρ M λy M1=>ua ρ M1 λx M2=>Jf Ξ f x y M2 λM3=>E.nx ρ M3:=rfl
theorem q33:K9 C m G ua ul ρ M Q=ua ρ M λx M1=>VX C m x M1 (ul ρ M1 λus M2=>G (x::us) M2 Q):=rfl
theorem q3P:q64 C G ul ρ M Q=ul ρ M λus M1=>G (.m M1.length::us) (M1++[.ins C []]) λv M2=>v=.p .non/\Q (.m M1.length) M2:=rfl
theorem YE:ZY ua ub ρ M Q=ua ρ M λx M1=>ub ρ M1 λy M2=>q2P M2 x y Q:=rfl
theorem xL(c:Cls Ξ C)(na:NoAttr Ξ C f)(e:M[k]?=some (.ins C fs))(lk:fs.lookup f=some u)(q:Q u M):FldS Ξ f (.m k) M Q:=⟨k,C,fs,u,rfl,e,c,na,lk,q⟩
theorem vO(c:Cls Ξ C)(na:NoAttr Ξ C f)(e:M[k]?=some (.ins C fs))(hz:fs.length<1000)(q:R (M.set k (.ins C (Vo f y fs)))):Jf Ξ f (.m k) y M R:=⟨k,C,fs,rfl,e,c,na,hz,q⟩
theorem XN(e:M[k]?=some (.ins C fs))(lk:fs.lookup m=none)(q:R):VX C m (.m k) M R:=⟨k,fs,rfl,e,lk,q⟩
theorem YC(k0 : -(2^63)<=k)(k1:k<2^63)(hz:xs.length*k.toNat<=sizeLine)(q:Q (.m M.length) (M++[.lst ((List.replicate k.toNat xs).flatten.map U.p)])):q2P M (.p (.lst xs)) (.p (.int k)) Q:=⟨xs,k,rfl,rfl,k0,k1,hz,q⟩
noncomputable def gNo:List U->MM->UK->Prop:=λ_a _a _a=>False
theorem FnOk.no:FnOk P w Ξ mg base CX0 k f fd ps (spU gNo):=
 ⟨λvs H Q E ⟨_,_,_,_,_,_,_,h,_⟩=>h.elim,λ_ _ _ _ _ _ _ _ _ _ _ _ _ ⟨_,_,_,_,_,_,_,h,_⟩=>h.elim⟩
structure ZE(a:TE)(b:UE):Prop where
 h:LE a b
structure ZT(a:TT)(b:UT):Prop where
 h:LT a b
structure ZA(n:Nat)(a:TA)(b:UA):Prop where
 h:LA n a b
structure ZO(a:TO)(b:UO):Prop where
 h:LO a b
structure ZI(a:TI)(b:UI):Prop where
 h:LI a b
structure ZG(a:TG)(b:UG):Prop where
 h:LG a b
structure ZX(bs:List Bool)(n:Nat)(a:TG)(b:UG):Prop where
 h:LGx bs n a b
structure ZS(a:TS)(b:US):Prop where
 h:LS a b
structure ZP(a:List (TE×TE))(b:List (UE×UE)):Prop where
 h:LPs a b
theorem q2y:ZP [] []:=⟨.nil⟩
theorem jv(a:ZE tk uk)(b:ZE tv uv)(c:ZP ts us):ZP ((tk,tv)::ts) ((uk,uv)::us):=⟨.cons a.h b.h c.h⟩
theorem GA(h:ZP dB gO):ZE (q56 dB) (Yd gO):=⟨by
 intro A ι σ H ρ M Qu Q w e q k p hp;have w1:Wd A (ι++[p]) (upd H p (.dK [])) (M++[.dK []]):=w.push hp ⟨[],upd_same,.nil⟩;have l1:Le ι H (ι++[p]) (upd H p (.dK [])):=.push hp;refine q2V h.h A _ σ _ ρ _ _ _ w1 (e.le l1) q λus M2 ae vs H2 l2 w2 r2 q2=>?_;obtain⟨hm,kvs,rfl,hl,q2⟩:=q2;have ep:ae[M.length]?=some p:=by
  obtain⟨nn,rfl,_⟩:=l2.ext;rw[U1 (by rw[UV,w.len];simp), <-w.len];exact qK
 obtain⟨gs0,h1,h2⟩:=w2.obj _ p _ ep hm;cases h2;obtain⟨gs,rfl,rk⟩:=WD r2;have cy:=U0 ep;refine⟨h1,gs,rfl,by rw[rk.len];exact hl,k _ _ ae _ _ ((l1.trans l2).trans (.put cy)) (w2.put (mo:=.dK (Zn [] kvs)) ep ⟨_,upd_same,?_⟩) (.m ep) q2⟩;exact Paired.mapP (Wv rk .nil) λ_a _a q=>⟨q.1,q.2.le (.put cy)⟩⟩
theorem qr(i:Nat):ZE (tVar i) (uVar i):=⟨λA ι σ H ρ M Qu Q w e ⟨u,h,q⟩ k=>by
 obtain⟨v,h1,h2⟩:=e.get h;exact⟨v,h1,k u M ι v H (.refl _ _) w h2 q⟩⟩
theorem ce_c(h:Sc v t):ZE (tC v) (uC t):=⟨λA ι σ H ρ M Qu Q w e q k=>k _ M ι v H (.refl _ _) w (.p h.rep) q⟩
theorem qJ  : ZA 0 tNil uNil:=⟨q6E ⟩
theorem ql(ha:ZE ta ua)(hl:ZA n tl ul):ZA (n+1) (vH ta tl) (Kd ua ul):=⟨λA ι σ H ρ M Qu Q w e q k=>
 ha.h A ι σ H ρ M _ _ w e q λx M1 a7 v H1 l1 w1 r1 q1=>hl.h A a7 σ H1 ρ M1 _ _ w1 (e.le l1) q1 λxs M2 ae vs H2 l2 w2 hn r2 q2=>
  k (x::xs) M2 ae (v::vs) H2 (l1.trans l2) w2 (by rw[U8,hn]) (.cons (r1.le l2) r2) q2⟩
theorem jf(h:OpL r s)(ha:ZE ta ua)(hb:ZE tb ub):ZE (tOp r ta tb) (uOp s ua ub):=⟨λA ι σ H ρ M Qu Q w e q k=>
 ha.h A ι σ H ρ M _ _ w e q λx M1 a7 v H1 l1 w1 r1 q1=>hb.h A a7 σ H1 ρ M1 _ _ w1 (e.le l1) q1 λy M2 ae v2 H2 l2 w2 r2 ⟨a,b,e1,e2,q2⟩=>
  h A ae H2 M2 v v2 a b _ Q w2 ((r1.le l2).sn w2 e1) (r2.sn w2 e2) q2 λt cP z H3 l3 w3 r3 q3=>k _ M2 cP z H3 ((l1.trans l2).trans l3) w3 (.p r3) q3⟩
theorem q2H(ha:ZE ta ua):ZE (tOp (λx y H Q=>y=.non/\Q (.bl (!decide (x=.non))) H) ta (tC .non)) (uIsN true ua):=⟨λA ι σ H ρ M Qu Q w e q k=>
 ha.h A ι σ H ρ M _ _ w e q λx M1 a7 v H1 l1 w1 r1 q1=>⟨rfl,by rw[WN r1];exact k _ M1 a7 _ H1 l1 w1 (.p (.bl _)) q1⟩⟩
theorem q5p(ha:ZE ta ua):ZE (tUn (rU λi=>.int (-i)) ta) (uNeg ua):=⟨λA ι σ H ρ M Qu Q w e q k=>
 ha.h A ι σ H ρ M _ _ w e q λx M1 a7 v H1 l1 w1 r1 zz=>by
  obtain⟨i,ex,q1⟩:=zz;subst ex;cases r1 with
  |p r=>cases r;exact⟨i,rfl,k _ M1 a7 _ H1 l1 w1 (.p (.int _)) q1⟩⟩
theorem ct_b(ha:ZE ta ua):ZT (tB ta) (uB ua):=⟨lt_b ha.h⟩
theorem ju(ha:ZE ta ua):ZT (QZ ta) (uB ua):=⟨lt_b ha.h⟩
theorem JX(ha:ZT tt ut)(hb:ZT tt' ut'):ZT (tAnd tt tt') (uAnd ut ut'):=⟨λA ι σ H ρ M Qu Q w e q k=>
 ha.h A ι σ H ρ M _ _ w e q λc M1 a7 H1 l1 w1 q1=>by
  cases c with
  |false=>exact k false M1 a7 H1 l1 w1 q1
  |true=>exact hb.h A a7 σ H1 ρ M1 _ _ w1 (e.le l1) q1 λb M2 ae H2 l2 w2 q2=>k b M2 ae H2 (l1.trans l2) w2 q2⟩
theorem q7r(ha:ZT tt ut)(hb:ZT tt' ut'):ZT (tOr tt tt') (uOr ut ut'):=⟨λA ι σ H ρ M Qu Q w e q k=>
 ha.h A ι σ H ρ M _ _ w e q λc M1 a7 H1 l1 w1 q1=>by
  cases c with
  |true=>exact k true M1 a7 H1 l1 w1 q1
  |false=>exact hb.h A a7 σ H1 ρ M1 _ _ w1 (e.le l1) q1 λb M2 ae H2 l2 w2 q2=>k b M2 ae H2 (l1.trans l2) w2 q2⟩
theorem Gk(ha:ZT tt ut):ZT (tNot tt) (uNot ut):=⟨λA ι σ H ρ M Qu Q w e q k=>
 ha.h A ι σ H ρ M _ _ w e q λc M1 a7 H1 l1 w1 q1=>k _ M1 a7 H1 l1 w1 q1⟩
theorem Jb(ha:ZE ta ua)(hb:ZE tb ub):ZE (V6 ta tb) (q5C ua ub):=⟨λA ι σ H ρ M Qu Q w e q k=>
 ha.h A ι σ H ρ M _ _ w e q λx M1 a7 v H1 l1 w1 r1 zz=>by
  obtain⟨c,ex,q1⟩:=zz;subst ex;cases r1 with
  |p r=>
   cases r;refine⟨c,rfl,?_⟩;cases c with
   |false=>exact k _ M1 a7 _ H1 l1 w1 (.p (.bl _)) q1
   |true=>exact hb.h A a7 σ H1 ρ M1 _ _ w1 (e.le l1) q1 λb M2 ae v2 H2 l2 w2 r2 q2=>k b M2 ae v2 H2 (l1.trans l2) w2 r2 q2⟩
theorem q5O(ha:ZE ta ua)(hb:ZE tb ub):ZE (tOrV ta tb) (uOrV ua ub):=⟨λA ι σ H ρ M Qu Q w e q k=>
 ha.h A ι σ H ρ M _ _ w e q λx M1 a7 v H1 l1 w1 r1 zz=>by
  obtain⟨c,ex,q1⟩:=zz;subst ex;cases r1 with
  |p r=>
   cases r;refine⟨c,rfl,?_⟩;cases c with
   |true=>exact k _ M1 a7 _ H1 l1 w1 (.p (.bl _)) q1
   |false=>exact hb.h A a7 σ H1 ρ M1 _ _ w1 (e.le l1) q1 λb M2 ae v2 H2 l2 w2 r2 q2=>k b M2 ae v2 H2 (l1.trans l2) w2 r2 q2⟩
theorem q42(hc:ZT tt ut)(ha:ZE ta ua)(hb:ZE tb ub):ZE (tIf tt ta tb) (uIf ut ua ub):=⟨λA ι σ H ρ M Qu Q w e q k=>
 hc.h A ι σ H ρ M _ _ w e q λc M1 a7 H1 l1 w1 q1=>by
  cases c with
  |true=>exact ha.h A a7 σ H1 ρ M1 _ _ w1 (e.le l1) q1 λb M2 ae v2 H2 l2 w2 r2 q2=>k b M2 ae v2 H2 (l1.trans l2) w2 r2 q2
  |false=>exact hb.h A a7 σ H1 ρ M1 _ _ w1 (e.le l1) q1 λb M2 ae v2 H2 l2 w2 r2 q2=>k b M2 ae v2 H2 (l1.trans l2) w2 r2 q2⟩
theorem jI(ha:ZA n tl ul)(hn:n<=1000:=by decide):ZE (tTup tl) (uTup ul):=⟨λA ι σ H ρ M Qu Q w e q k=>
 ha.h A ι σ H ρ M _ _ w e q λus M1 a7 vs H1 l1 w1 hl r1 zz=>by
  obtain⟨ts,et,q1⟩:=zz;have r2:=r1;rw[zm et]at r2;exact⟨by rw[r1.len,hl];exact Dk (qF hn),λp hp=>k _ M1 a7 _ _ (l1.trans (.fresh hp)) (w1.fresh hp) (.p (ja w1 hp r2.pures)) q1⟩⟩
theorem q1O(ha:ZA n tl ul)(hn:n<=1000:=by decide):ZE (tLst tl) (uLst ul):=⟨λA ι σ H ρ M Qu Q w e q k=>
 ha.h A ι σ H ρ M _ _ w e q λus M1 a7 vs H1 l1 w1 hl r1 zz=>by
  obtain⟨ts,et,q1⟩:=zz;have r2:=r1;rw[zm et]at r2;exact⟨by rw[r1.len,hl];exact Dk (qF hn),λp hp=>k _ M1 a7 _ _ (l1.trans (.fresh hp)) (w1.fresh hp) (.p (zr w1 hp r2.pures)) q1⟩⟩
theorem k9(ha:ZA n tl ul)(hn:n<=1000:=by decide):ZE (tLst tl) (uNew ul):=⟨λA ι σ H ρ M Qu Q w e q k=>
 ha.h A ι σ H ρ M _ _ w e q λus M1 a7 vs H1 l1 w1 hl r1 q1=>⟨by rw[r1.len,hl];exact Dk (qF hn),λp hp=>k _ _ _ _ _ (l1.trans (.push hp)) (xI w1 hp r1).1 (xI w1 hp r1).2 q1⟩⟩
theorem jx(ha:ZA n tl ul)(hn:n<=1000:=by decide):ZE (tTup tl) (q4N ul):=⟨λA ι σ H ρ M Qu Q w e q k=>
 ha.h A ι σ H ρ M _ _ w e q λus M1 a7 vs H1 l1 w1 hl r1 q1=>⟨by rw[r1.len,hl];exact Dk (qF hn),λp hp=>k _ _ _ _ _ (l1.trans (.push hp)) (Wr w1 hp r1).1 (Wr w1 hp r1).2 q1⟩⟩
theorem vY(ha:ZE ta ua)(hb:ZE tb ub):ZE (tOp (rIxL Ξ) ta tb) (uIx qI ua ub):=⟨λA ι σ H ρ M Qu Q w e q k=>
 ha.h A ι σ H ρ M _ _ w e q λx M1 a7 v H1 l1 w1 r1 q1=>hb.h A a7 σ H1 ρ M1 _ _ w1 (e.le l1) q1 λy M2 ae v2 H2 l2 w2 r2 zz=>by
  obtain⟨us,i,z,e1,e2,e3,q2⟩:=zz;subst e2;obtain⟨p,vs,rfl,h1,h2⟩:=zq w2 (r1.le l2) e1;obtain⟨x',h3,h4⟩:=GH h2 e3;cases r2 with
  |p r=>cases r;exact⟨p,vs,i,x',rfl,rfl,SqL.of h1,h3,k z M2 ae x' H2 (l1.trans l2) w2 h4 q2⟩⟩
theorem jJ(ha:ZE ta ua)(hb:ZE tb ub):ZE (tOp (rIxT Ξ) ta tb) (uIx vo ua ub):=⟨λA ι σ H ρ M Qu Q w e q k=>
 ha.h A ι σ H ρ M _ _ w e q λx M1 a7 v H1 l1 w1 r1 q1=>hb.h A a7 σ H1 ρ M1 _ _ w1 (e.le l1) q1 λy M2 ae v2 H2 l2 w2 r2 zz=>by
  obtain⟨us,i,z,e1,e2,e3,q2⟩:=zz;subst e2;obtain⟨p,vs,rfl,h1,h2⟩:=zp w2 (r1.le l2) e1;obtain⟨x',h3,h4⟩:=GH h2 e3;cases r2 with
  |p r=>cases r;exact⟨p,vs,i,x',rfl,rfl,SqT.of h1,h3,k z M2 ae x' H2 (l1.trans l2) w2 h4 q2⟩⟩
theorem GC(h:CbL r s)(ha:ZA n tl ul):ZE (tCB r tl) (uCb s ul):=⟨λA ι σ H ρ M Qu Q w e q k=>
 ha.h A ι σ H ρ M _ _ w e q λus M1 a7 vs H1 l1 w1 hl r1 ⟨ts,e1,q1⟩=>h A a7 H1 M1 vs ts _ Q w1 (r1.sns w1 e1) q1 λt ae z H2 l2 w2 r2 q2=>k _ M1 ae z H2 (l1.trans l2) w2 (.p r2) q2⟩
theorem q2b(ha:ZA n tl ul):ZE (tCB q3i tl) (uLen qI ul):=⟨λA ι σ H ρ M Qu Q w e q k=>
 ha.h A ι σ H ρ M _ _ w e q λus M1 a7 vs H1 l1 w1 hl r1 zz=>by
  obtain⟨x,ys,e1,e2,q1⟩:=zz;subst e1;cases r1 with
  |cons r q=>
   cases q;obtain⟨p,zs,rfl,h1,h2⟩:=zq w1 r e2;exact⟨p,zs,rfl,h1,by rw[h2.len];exact k _ M1 a7 _ H1 l1 w1 (.p (.int _)) q1⟩⟩
theorem Gu  : ZO zL ZZ:=⟨q4n ⟩
theorem Gs(ha:ZE ta ua):ZO (V4 ta) (q5U ua):=⟨λA ι σ H ρ M Qu Q w e q k=>
 ha.h A ι σ H ρ M _ _ w e q λx M1 a7 v H1 l1 w1 r1 zz=>by
  obtain⟨i,ex,q1⟩:=zz;subst ex;cases r1 with
  |p r=>cases r;exact⟨i,rfl,k _ M1 a7 H1 l1 w1 q1⟩⟩
theorem q6G(ha:ZE ta ua)(h1:ZO t1 u1)(h2:ZO t2 u2):ZE (tSl (rSlL Ξ) ta t1 t2) (uSl ua u1 u2):=⟨λA ι σ H ρ M Qu Q w e q k=>
 ha.h A ι σ H ρ M _ _ w e q λx M1 a7 v H1 l1 w1 r1 q1=>h1.h A a7 σ H1 ρ M1 _ _ w1 (e.le l1) q1 λlo M2 ae H2 l2 w2 q2=>h2.h A ae σ H2 ρ M2 _ _ w2 (e.le (l1.trans l2)) q2 λhi M3 cP H3 l3 w3 zz=>by
  obtain⟨ts,es,q3⟩:=zz;obtain⟨p,vs,rfl,h4,h5⟩:=((r1.le (l2.trans l3)).sn w3 es).lst_inv;exact⟨p,vs,rfl,SqL.of h4,λr hr=>k _ M3 cP _ _ (((l1.trans l2).trans l3).trans (.fresh hr)) (w3.fresh hr) (.p (zr w3 hr (Gj h5))) q3⟩⟩
theorem X8(ha:ZE ta ua):ZI (KM Ξ ta) (q59 ua):=⟨λA ι σ H ρ M Qu R w e q k=>
 ha.h A ι σ H ρ M _ _ w e q λx M1 a7 v H1 l1 w1 r1 zz=>by
  obtain⟨us,eu,q1⟩:=zz;obtain⟨p,vs,rfl,h1,h2⟩:=zq w1 r1 eu;refine⟨p,rfl,⟨vs,SqL.of h1⟩,k _ M1 a7 _ H1 l1 w1 ?_ q1⟩;intro A' ae H2 M2 i l w2 ok;obtain⟨p',cb,e2,h3,h4⟩:=zq w2 (r1.lea l) ok;cases e2;have hl:=h4.len;refine⟨λhi=>?_,λhi=>⟨cb,SqL.of h3,by rw[hl];exact Rx hi.symm⟩⟩;have hx:cb[i]?=some (cb[i]'(by rw[hl];exact hi)):=UU _;refine⟨⟨cb,_,SqL.of h3,hx⟩,λx H' y=>?_⟩;obtain⟨rfl,y⟩:=y;have g7:=y cb (SqL.of h3);obtain⟨z,hz,rz⟩:=Paired.getL h4 g7;exact⟨z,hz,.refl _ _,w2,rz⟩⟩
theorem Gw(ha:ZA n tl ul):ZI (WP tl) (q5D ul):=⟨λA ι σ H ρ M Qu R w e q k=>
 ha.h A ι σ H ρ M _ _ w e q λxs M1 a7 vs1 H1 l1 w1 hn r0 zz=>by
  obtain⟨j,ex,j0,j1,q1⟩:=zz;subst ex;cases r0 with
  |cons r1 r0=>
  cases r0;cases r1 with
  |p r=>
  cases r;have:=q5b (A:=A) (ι:=a7) (H:=H1) (lo:=0) (n:=j.toNat);simp only[Int.zero_add]at this;exact⟨j,rfl,j0,j1,k _ M1 a7 _ H1 l1 w1 this q1⟩⟩
theorem ve(i:Nat):ZG (qT i) (Kc i):=⟨λA ι σ H ρ M v u Qu Q w e r q k=>k _ M ι _ H (.refl _ _) w (e.put i r) q⟩
theorem q0S(i j:Nat):ZG (gTup Ξ 2 (vk (qT i) (vk (qT j) gNil))) (K8 i j):=⟨λA ι σ H ρ M v u Qu Q w e r ⟨a,b,ei,q⟩ k=>by
 obtain⟨p,vs,rfl,h1,h2⟩:=zp w r ei;obtain⟨x,y,rfl,r1,r2⟩:=rep2 h2;exact JM h1 (k _ M ι _ H (.refl _ _) w ((e.put i r1).put j r2) q)⟩
theorem q1w(i j l:Nat):ZG (gTup Ξ 3 (vk (qT i) (vk (qT j) (vk (qT l) gNil)))) (K7 i j l):=⟨λA ι σ H ρ M v u Qu Q w e r ⟨a,b,c,ei,q⟩ k=>by
 obtain⟨p,vs,rfl,h1,h2⟩:=zp w r ei;obtain⟨x,y,z,rfl,r1,r2,r3⟩:=rep3 h2;exact JL h1 (k _ M ι _ H (.refl _ _) w (((e.put i r1).put j r2).put l r3) q)⟩
theorem q2q(ha:ZE ta ua)(hb:ZE tb ub):ZG (gSub ta tb q3X) (uSub ua ub):=⟨λA ι σ H ρ M v u Qu Q w e r q k=>
 ha.h A ι σ H ρ M _ _ w e q λo M1 a7 v1 H1 l1 w1 r1 q1=>hb.h A a7 σ H1 ρ M1 _ _ w1 (e.le l1) q1 λi M2 ae v2 H2 l2 w2 r2 zz=>by
  obtain⟨kk,us,z,j,eo,em,ei,ej,q2⟩:=zz;subst eo ei;cases r2 with
  |p r2=>
  cases r2;have e9:=r1.le l2;cases e9 with
  |m ek=>
  obtain⟨vs,h1,h2⟩:=w2.obj kk _ _ ek em;have hm:=U0 ek;refine⟨_,vs,z,j,rfl,rfl,h1,by rw[h2.len];exact ej,k _ _ ae _ _ ((l1.trans l2).trans (.put hm)) (w2.put (mo:=.lst (us.set j u)) ek ⟨_,upd_same,?_⟩) (e.le ((l1.trans l2).trans (.put hm))) q2⟩;exact RepUs.le (.put hm) (Paired.put (r.le (l1.trans l2)) j h2)⟩
theorem je(i:Nat)(h:Jm bs n i=true:=by rfl):ZX bs n (qT i) (Kc i):=⟨λA ι σ H ρ M v u Qu Q hl w e r q k=>
 k _ _ (e.put i r) ((ExtS.refl _).put (Wx hl h)) (by simp) q⟩
theorem ZK:ZT tYes (λ_a M Q=>Q true M):=⟨q6B ⟩
theorem VP(hi:ZI wi ui)(hg:ZX bs n g ug)(ht:ZT tt ut)(he:ZE te ue):ZE (xz wi bs n g tt te) (q5q ui bs n ug ut ue):=⟨by
 intro A ι σ H ρ M Qu Q w e q k;refine hi.h A ι σ H ρ M _ _ w e q λit M1 a7 J H1 l1 w1 hJ q1 a9 aR=>?_;obtain⟨ar,hsz,Iv,I0,It,Id⟩:=q1;have lI:σ.length=bs.length:=by rw[<-ar];exact e.len
 have e1:=e.le l1;have na:¬Av A a7 a9:=w1.nA aR;have key:∀ae H2,Le a7 H1 ae H2->(∀x∈ae,¬(A x\/x=a9))->Lea A a7 H1 (λx=>A x\/x=a9) ae H2:=λae H2 l h=>by
  refine⟨let⟨n,e,_⟩:=l.ext;⟨n,e⟩,λx o hx ex=>?_,l.xd⟩;obtain⟨a1,a2⟩:=l.av hx ex;refine⟨a1,λz=>?_⟩;rcases z with(z|z)|z
  ·exact a2 (.inl z)
  ·rw[z,aR]at ex;cases ex
  ·exact a2 (.inr z)
 refine⟨λi m H2=>m=it.n-i/\i<=it.n/\∃ae M2 bJ ys,Le a7 H1 ae H2/\Wd (λx=>A x\/x=a9) ae H2 M2/\H2 a9=some (.lst ys)/\RepTs (Av (λx=>A x\/x=a9) ae) H2 ys bJ/\bJ.length<=i/\Iv i bJ M2,
  ⟨it.n,by simp,Du _,a7,M1, [], [],.fresh aR,w1.addA aR,upd_same,.nil,UZ _,I0⟩,?_⟩
 rintro i m H2 ⟨rfl,eN,ae,M2,bJ,ys,l2,w2,fj,fC,fD,I2⟩;have lea:=key ae H2 l2 w2.na;by_cases bQ:i<it.n
 ·obtain⟨ok,step⟩:=It i bJ M2 bQ fD I2
  obtain⟨gP,jy⟩:=(hJ _ ae H2 M2 i lea w2 ok).1 bQ;refine .inr ⟨gP,λH'=>∃ae M2 bJ ys,Le a7 H1 ae H'/\Wd (λx=>A x\/x=a9) ae H' M2/\H' a9=some (.lst ys)/\RepTs (Av (λx=>A x\/x=a9) ae) H' ys bJ/\bJ.length<=i+1/\Iv (i+1) bJ M2,λH' h=>⟨it.n-(i+1),by lia,rfl,bQ,h⟩,λx H3 y=>?_⟩;obtain⟨u,hu,l3,w3,r3⟩:=jy x H3 y;have fE:=l2.trans l3;have cQ:∀{ai:List Addr}{H':Hp}{M':MM},Wd (λx=>A x\/x=a9) ai H' M'->a9∉ai:=λw z=>w.na a9 z (.inr rfl);have lJ:H3 a9=some (.lst ys):=l3.fr _ _ fj (cQ w2);have fF:EnvR (λx=>A x\/x=a9) ae H3 (zk bs n σ) (KI bs n ρ):=(e1.mask).lea (key ae H3 fE w3.na);refine hg.h _ ae σ H3 _ M2 x u _ _ lI w3 fF r3 (step u hu) λc7 c5 e4 x4 fG q4=>⟨⟨x4,fG⟩,?_⟩;refine ht.h _ ae c5 H3 c7 M2 _ _ w3 e4 q4 λb M5 dD H5 l5 w5 q5=>?_;have gQ:H5 a9=some (.lst ys):=l5.fr _ _ lJ (cQ w3);have dE:RepTs (Av (λx=>A x\/x=a9) dD) H5 ys bJ:=Paired.mapP fC λ_a _a q=>(q.le l3).le l5;cases b with
  |false=>exact⟨dD,M5,bJ,ys,fE.trans l5,w5,gQ,dE,Nat.le_succ_of_le fD,q5⟩
  |true=>
   refine he.h _ dD c5 H5 c7 M5 _ _ w5 (e4.le l5) q5 λz M6 lK zv H6 l6 w6 r6 q6=>?_;obtain⟨t,rfl,q6⟩:=q6;have fH:H6 a9=some (.lst ys):=l6.fr _ _ gQ (cQ w5);refine⟨ys,fH,?_,lK,M6,bJ++[t],ys++[zv],((fE.trans l5).trans l6).updF aR,(w6.updA (.inr rfl) fH).2,upd_same,?_,by rw[UV,Dp];lia,q6⟩
   ·rw[fC.len];lia
   ·have hl:=(w6.updA (o:=.lst (ys++[zv])) (.inr rfl) fH).1
    cases r6 with
    |p r6=>exact Paired.app (Paired.mapP dE λ_a _a q=>(q.le l6).mono hl.av) (.cons (r6.mono hl.av) .nil)
 ·have ei:i=it.n:=by lia
  subst ei;obtain⟨ok,fin⟩:=Id bJ M2 I2;refine .inl ⟨(hJ _ ae H2 M2 _ lea w2 ok).2 rfl,k _ M2 ae _ H2 (l1.trans l2) (w2.lessA λx hx=>.inl hx) (.p (.lstP (λz=>?_) fj (Paired.mapP fC λ_a _a q=>q.mono λx o hx ex=>⟨ex,λz=>hx (z.elim (λz=>.inl (.inl z)) .inr)⟩))) fin⟩;rcases z with z|z
  ·exact na (.inl z)
  ·exact w2.na a9 z (.inr rfl)⟩
theorem vj  : ZS Q0 Z0:=⟨q3j ⟩
theorem qy(ha:ZS ts us)(hb:ZS ts' cq):ZS (tSeq ts ts') (uSeq us cq):=⟨λA ι σ H ρ M D E w e r q=>
 ha.h A ι σ H ρ M _ { E with nx:=cq E } w e ⟨λa7 cv H1 dm M1 l w1 e1 q1=>hb.h A a7 cv H1 dm M1 D E w1 e1 (r.le l) q1,r.rt,r.bk,r.ct⟩ q⟩
theorem VO(ha:ZE ta ua):ZS (V5 ta) (q3V ua):=⟨λA ι σ H ρ M D E w e r q=>
 ha.h A ι σ H ρ M _ _ w e q λx M1 a7 v H1 l1 w1 r1 q1=>r.nx a7 σ H1 ρ M1 l1 w1 (e.le l1) q1⟩
theorem v8(ha:ZE ta ua):ZS (tRet ta) (uRet ua):=⟨λA ι σ H ρ M D E w e r q=>
 ha.h A ι σ H ρ M _ _ w e q λx M1 a7 v H1 l1 w1 r1 q1=>r.rt a7 v H1 x M1 l1 w1 r1 q1⟩
theorem zd(hc:ZT tt ut)(ha:ZS ts us)(hb:ZS ts' cq):ZS (tIfS tt ts ts') (uIfS ut us cq):=⟨λA ι σ H ρ M D E w e r q=>
 hc.h A ι σ H ρ M _ _ w e q λc M1 a7 H1 l1 w1 q1=>by
  cases c with
  |true=>exact ha.h A a7 σ H1 ρ M1 D E w1 (e.le l1) (r.le l1) q1
  |false=>exact hb.h A a7 σ H1 ρ M1 D E w1 (e.le l1) (r.le l1) q1⟩
theorem vQ(ha:ZE ta ua)(hg:ZG g ug):ZS (tAsg ta g) (uAsg ua ug):=⟨λA ι σ H ρ M D E w e r q=>
 ha.h A ι σ H ρ M _ _ w e q λx M1 a7 v H1 l1 w1 r1 q1=>hg.h A a7 σ H1 ρ M1 v x _ _ w1 (e.le l1) r1 q1 λaH M2 ae cF H2 l2 w2 e2 q2=>r.nx ae cF H2 aH M2 (l1.trans l2) w2 e2 q2⟩
theorem k8(hi:ZI wi ui)(hg:ZG g ug)(hb:ZS ts us):ZS (tFor wi g ts) (uFor ui ug us):=⟨by
 intro A ι σ H ρ M D E w e r q;refine hi.h A ι σ H ρ M _ _ w e q λit M1 a7 J H1 l1 w1 hJ q1=>?_;obtain⟨Iv,I0,It,Id⟩:=q1;have r1:=r.le l1;refine⟨λi m cF H2=>m=it.n-i/\i<=it.n/\∃ae aH M2,Le a7 H1 ae H2/\Wd A ae H2 M2/\EnvR A ae H2 cF aH/\Iv i aH M2,⟨it.n,by simp,Du _,a7,ρ,M1,.refl _ _,w1,e.le l1,I0⟩,?_⟩;rintro i m cF H2 ⟨rfl,eN,ae,aH,M2,l2,w2,e2,I2⟩;by_cases bQ:i<it.n
 ·obtain⟨ok,step⟩:=It i aH M2 bQ I2
  obtain⟨gP,jy⟩:=(hJ A ae H2 M2 i l2.lea w2 ok).1 bQ;refine .inr ⟨gP,λah H'=>∃ae aH M2,Le a7 H1 ae H'/\Wd A ae H' M2/\EnvR A ae H' ah aH/\Iv (i+1) aH M2,λah H' h=>⟨it.n-(i+1),by lia,rfl,bQ,h⟩,λx H3 y=>?_⟩;obtain⟨u,hu,l3,w3,r3⟩:=jy x H3 y;refine hg.h A ae cF H3 aH M2 x u _ _ w3 (e2.le l3) r3 (step u hu) λc7 M4 lL c5 H4 l4 w4 e4 q4=>?_;have iz:=(l2.trans l3).trans l4;exact hb.h A lL c5 H4 c7 M4 _ { E with nx:=Iv (i+1),ct:=Iv (i+1),bk:=E.nx } w4 e4 ⟨λdD pD H5 lM M5 l5 w5 e5 q5=>⟨dD,lM,M5,iz.trans l5,w5,e5,q5⟩,(r1.le iz).rt,(r1.le iz).nx,λdD pD H5 lM M5 l5 w5 e5 q5=>⟨dD,lM,M5,iz.trans l5,w5,e5,q5⟩⟩ q4
 ·have ei:i=it.n:=by lia
  subst ei;obtain⟨ok,fin⟩:=Id aH M2 I2;exact .inl ⟨(hJ A ae H2 M2 _ l2.lea w2 ok).2 rfl,r1.nx ae cF H2 aH M2 l2 w2 e2 fin⟩⟩
set_option tactic.hygienic true in
theorem q5y(h:MeL r s)(ha:ZE ta ua)(hl:ZA n tl ul):ZE (tLM r ta tl) (uMe s ua ul):=⟨λA ι σ H ρ M Qu Q w e q k=>
 ha.h A ι σ H ρ M _ _ w e q λo M1 a7 v H1 l1 w1 r1 zz=>by
  obtain⟨kk,eo,⟨zs,hz⟩,q1⟩:=zz;subst eo;cases r1 with
  |m ek=>
  rename_i a;obtain⟨pE,h1,_⟩:=w1.obj kk a _ ek hz;refine⟨a,pE,rfl,h1,hl.h A a7 σ H1 ρ M1 _ _ w1 (e.le l1) q1 λws M2 ae ys H2 l2 w2 hn r2 q2=>?_⟩;obtain⟨us,n9,q2⟩:=q2;have iA:ae[kk]?=some a:=by
   obtain⟨nn,rfl,_⟩:=l2.ext;rw[U1 (UR.mp ek).1];exact ek
  obtain⟨pF,h3,h4⟩:=w2.obj kk a _ iA n9;have hm:=U0 iA;exact h A ae H2 M2 kk a pF ys us ws _ Q w2 iA h3 n9 h4 r2 q2 λz cq zv iy rx rz qz=>k z _ ae zv _ ((l1.trans l2).trans (.put hm)) (w2.put (mo:=.lst cq) iA ⟨iy,upd_same,RepUs.le (.put hm) rx⟩) (rz.le (.put hm)) qz⟩
theorem vA(ha:ZA n tl ul):ZE (zG (spU G) [] E tl) (q4F G ul):=⟨λA ι σ H ρ M Qu Q w e q k=>
 ha.h A ι σ H ρ M _ _ w e q λus M1 a7 vs H1 l1 w1 hn r1 q1=>by
  rw[Dl];exact⟨A,a7,M1,us,_,w1,r1,q1,λu M2 ae v H2 l2 w2 r2 q2=>k u M2 ae v H2 (l1.trans l2) w2 r2 q2⟩⟩
theorem q0E(ha:ZA n tl ul):ZE (zG (spP G) [] E tl) (Yh G ul):=⟨λA ι σ H ρ M Qu Q w e q k=>
 ha.h A ι σ H ρ M _ _ w e q λus M1 a7 vs H1 l1 w1 hn r1 zz=>by
  obtain⟨ts,et,q1⟩:=zz;rw[Dl];rw[zm et]at r1;exact⟨Av A a7,ts,_,w1.domAv,r1.pures,q1,λt v H2 s r2 q2=>k _ M1 a7 v H2 (l1.trans s.le) (w1.same s) (.p r2) q2⟩⟩
theorem Ja(ha:ZE ta ua)(hb:ZE tb ub):ZE (q5g ta tb) (q5S ua ub):=⟨λA ι σ H ρ M Qu Q w e q k=>
 ha.h A ι σ H ρ M _ _ w e q λx M1 a7 v H1 l1 w1 r1 q1=>hb.h A a7 σ H1 ρ M1 _ _ w1 (e.le l1) q1 λy M2 ae v2 H2 l2 w2 r2 zz=>by
  obtain⟨kk,kvs,key,z,ex,em,ey,ez,q2⟩:=zz;subst ex ey;have e9:=r1.le l2;cases e9 with
  |m ek=>
  obtain⟨gs,h1,h2⟩:=w2.obj kk _ _ ek em;have hv:=q4i (k:=key) h2;rw[ez]at hv;obtain⟨x',hx,rx⟩:=hv;refine⟨_,x',rfl,?_,k z M2 ae x' H2 (l1.trans l2) w2 rx q2⟩;have:=DGet.k (k:=key) h1;rw[hx]at this;rw[WF r2];exact this⟩
theorem q5t(hc:ZT tt ut)(h1:Sc v1 t1)(h2:Sc v2 t2):ZE (tIf tt (tC v1) (tC v2)) (uIfC ut t1 t2):=⟨λA ι σ H ρ M Qu Q w e q k=>
 hc.h A ι σ H ρ M _ _ w e q λc M1 a7 H1 l1 w1 q1=>by
  cases c with
  |true=>exact k _ M1 a7 _ H1 l1 w1 (.p h1.rep) q1
  |false=>exact k _ M1 a7 _ H1 l1 w1 (.p h2.rep) q1⟩
theorem J6(c:TyC)(ha:ZE ta ua):ZE (tCB (rIsi Ξ) (vH ta (vH (tC (.ty c.name)) tNil))) (uIsi c ua):=⟨λA ι σ H ρ M Qu Q w e q k=>
 ha.h A ι σ H ρ M _ _ w e q λx M1 a7 v1 H1 l1 w1 r1 zz=>by
  obtain⟨b,eb,q1⟩:=zz;obtain⟨t,h1,h2⟩:=WM (Ξ:=Ξ) w1 r1 eb;exact⟨v1,c.name,t,b,rfl,h1,h2,k _ M1 a7 _ H1 l1 w1 (.p (.bl _)) q1⟩⟩
theorem QN(ha:ZE ta ua):ZE (tFld Ξ ta f) (uFld Ξ ua f):=⟨λA ι σ H ρ M Qu Q w e q k=>
 ha.h A ι σ H ρ M _ _ w e q λx M1 a7 v1 H1 l1 w1 r1 zz=>by
  obtain⟨kk,C,fs,u,ex,em,c,na,lk,q1⟩:=zz;subst ex;cases r1 with
  |m ek=>
  obtain⟨dx,gs,h1,h2,h3,h4⟩:=w1.obj kk _ _ ek em;obtain⟨v,hv,rv⟩:=JE h4 lk;exact⟨_,C,dx,gs,v,rfl,h1,c,na,hv,k _ M1 a7 v H1 l1 w1 rv q1⟩⟩
set_option tactic.hygienic true in
theorem q2n(ha:ZE ta ua)(hv:ZE tv uv):ZS (sFld Ξ ta tv f) (Z1 Ξ ua uv f):=⟨λA ι σ H ρ M D E w e r q=>
 hv.h A ι σ H ρ M _ _ w e q λy M1 a7 vy H1 l1 w1 r1 q1=>ha.h A a7 σ H1 ρ M1 _ _ w1 (e.le l1) q1 λx M2 ae vx H2 l2 w2 r2 zz=>by
  obtain⟨kk,C,fs,ex,em,c,na,hz,q2⟩:=zz;subst ex;cases r2 with
  |m ek=>
  rename_i a;obtain⟨dx,gs,h1,h2,h3,h4⟩:=w2.obj kk _ _ ek em;have cy:=U0 ek;have l4:=l1.trans l2;have cE:dx≠a:=λz=>by rw[z,h1]at h2;cases h2
  refine⟨a,C,dx,gs,rfl,h1,c,na,by rw[h4.len];exact hz,r.nx ae σ _ ρ _ (l4.trans (.put cy)) (w2.put (mo:=.ins C (Vo f y fs)) ek ⟨dx,_,upd_same,by rw[upd_ne cE];exact h2,h3,Paired.mapP (q19 h4 (r1.le l2)) λ_a _a q=>⟨q.1,q.2.le (.put cy)⟩⟩) (e.le (l4.trans (.put cy))) q2⟩⟩
theorem X9(ha:ZE ta ua)(hl:ZA n tl ul):ZE (Z2 C m (spU G) [] E ta tl) (K9 C m G ua ul):=⟨λA ι σ H ρ M Qu Q w e q k=>
 ha.h A ι σ H ρ M _ _ w e q λx M1 a7 v1 H1 l1 w1 r1 zz=>by
  obtain⟨kk,fs,ex,em,lk,q1⟩:=zz;subst ex;have e9:=r1;cases e9 with
  |m ek=>
  obtain⟨dx,gs,h1,h2,h3,h4⟩:=w1.obj kk _ _ ek em;refine⟨_,dx,gs,rfl,h1,Zo h4 lk,hl.h A a7 σ H1 ρ M1 _ _ w1 (e.le l1) q1 λus M2 ae vs H2 l2 w2 hn r2 q2=>?_⟩;rw[Dl];exact⟨A,ae,M2,_,_,w2,.cons (r1.le l2) r2,q2,λu M3 cP v H3 l3 w3 r3 q3=>k u M3 cP v H3 ((l1.trans l2).trans l3) w3 r3 q3⟩⟩
theorem Qa(hl:ZA n tl ul):ZE (Kf C (spU G) [] E tl) (q64 C G ul):=⟨λA ι σ H ρ M Qu Q w e q k=>
 hl.h A ι σ H ρ M _ _ w e q λus M1 a7 vs H1 l1 w1 hn r1 q1 x dx hx lN cE=>by
  have g7:upd H1 dx (.own x) x=none:=by rw[upd_ne (Ne.symm cE)];exact hx
  have l2:Le a7 H1 a7 (upd H1 dx (.own x)):=.fresh lN;have w2:=w1.fresh (o:=.own x) lN;have l3:Le a7 (upd H1 dx (.own x)) (a7++[x]) (upd (upd H1 dx (.own x)) x (.ins C dx [])):=.push g7;have w3:Wd A (a7++[x]) (upd (upd H1 dx (.own x)) x (.ins C dx [])) (M1++[.ins C []]):=w2.push (mo:=.ins C []) g7 ⟨dx, [],upd_same,by rw[upd_ne cE,upd_same],λz=>by
   rcases U4.mp z with z|z
   ·exact w1.nin lN z
   ·exact cE (U7.mp z),.nil⟩
  have rx:RepU A (a7++[x]) (upd (upd H1 dx (.own x)) x (.ins C dx [])) (.ref x) (.m M1.length):=.m (by rw[<-w1.len];exact qK);rw[Dl];refine⟨A,a7++[x],_,_,_,w3,.cons rx (r1.le (l2.trans l3)),q1,λu M4 lL v4 H4 l4 w4 r4 q4=>?_⟩;obtain⟨eu,q4⟩:=q4;subst eu;cases r4 with
  |p r4=>
  cases r4;exact⟨rfl,k _ M4 lL _ H4 (l1.trans ((l2.trans l3).trans l4)) w4 (rx.le l4) q4⟩⟩
theorem ZL(ha:ZE ta ua)(hb:ZE tb ub):ZE (tOp rRep ta tb) (ZY ua ub):=⟨λA ι σ H ρ M Qu Q w e q k=>
 ha.h A ι σ H ρ M _ _ w e q λx M1 a7 v H1 l1 w1 r1 q1=>hb.h A a7 σ H1 ρ M1 _ _ w1 (e.le l1) q1 λy M2 ae v2 H2 l2 w2 r2 zz=>by
  obtain⟨xs,kk,ex,ey,k0,k1,hz,q2⟩:=zz;subst ex ey;have e9:=r1.le l2;cases e9 with
  |p r1=>
  cases r2 with
  |p r2=>
  cases r2;obtain⟨p,vs,rfl,na,h1,h2⟩:=r1.lst_inv;refine⟨p,kk,vs,rfl,rfl,h1,k0,k1,by rw[h2.len];exact hz,λl hl=>?_⟩;have:=xI w2 hl (RepTs.ups (Qv h2 kk.toNat));exact k _ _ _ _ _ ((l1.trans l2).trans (.push hl)) this.1 this.2 q2⟩
theorem q1p(i j l o:Nat):ZG (gTup Ξ 4 (vk (qT i) (vk (qT j) (vk (qT l) (vk (qT o) gNil))))) (K6 i j l o):=⟨λA ι σ H ρ M v u Qu Q w e r ⟨a,b,c,d,ei,q⟩ k=>by
 obtain⟨p,vs,rfl,h1,h2⟩:=zp w r ei;obtain⟨x,y,z,s,rfl,r1,r2,r3,r4⟩:=rep4 h2;exact⟨p,_,rfl,SqT.of h1,rfl,_,_,rfl,_,_,rfl,_,_,rfl,_,_,rfl,rfl,k _ M ι _ H (.refl _ _) w ((((e.put i r1).put j r2).put l r3).put o r4) q⟩⟩
theorem q1Y(hl:ZA n tl ul):ZS (tPar i j tl) (uPar i j ul):=⟨λA ι σ H ρ M D E w e r q=>
 hl.h A ι σ H ρ M _ _ w e q λus M1 a7 vs H1 l1 w1 hn r1 zz=>by
  obtain⟨a,b,eu,q1⟩:=zz;subst eu;obtain⟨x,y,rfl,ra,rb⟩:=rep2 r1;exact⟨x,y,rfl,r.nx a7 _ H1 _ M1 l1 w1 (((e.le l1).put i ra).put j rb) q1⟩⟩
theorem Gp(hl:ZA n tl ul):ZS (q6f i j k tl) (q5R i j k ul):=⟨λA ι σ H ρ M D E w e r q=>
 hl.h A ι σ H ρ M _ _ w e q λus M1 a7 vs H1 l1 w1 hn r1 zz=>by
  obtain⟨a,b,c,eu,q1⟩:=zz;subst eu;obtain⟨x,y,z,rfl,ra,rb,rc⟩:=rep3 r1;exact⟨x,y,z,rfl,r.nx a7 _ H1 _ M1 l1 w1 ((((e.le l1).put i ra).put j rb).put k rc) q1⟩⟩
section
variable {P:Program}{w:World}{Ξ:PySem.W.Frag}{mg:Str->Option Value}{base:Heap}
theorem Fun.okQ{st:Stmt}(F:Fun Ξ x af st f fd)(S:q00 N ps (qd st))(len:∀vs H Q E,sp vs H Q E->vs.length=ps.length)(aA:∀(ac:Value)(A:Around)(outer:List Env)(s:Shared)(H:Hp)(vs:List V)(Q:VK)(E:XK),Room k (A.deeper (envOfC af (qd st) s.heap.objs.size f ac))->sp vs H Q E ->
   ∃t,QSs (cxOf CX0 P w Ξ mg base N af (qd st) f ac A outer s H E).nox (vi st) t/\t { nx:=λ_a H'=>Q .non H',rt:=Q } (start N vs) H):FnOk P w Ξ mg base CX0 (k+1) f fd ps sp :=
 F.ok S len λac A outer s H vs Q E hr di=>by
  obtain⟨t,h,q⟩:=aA ac A outer s H vs Q E hr di;exact⟨t,h.h,q⟩
theorem Fun.zU{st:Stmt}(F:Fun Ξ x af st f fd)(S:q00 N ps (qd st))(len:∀us M Qu,G us M Qu->us.length=ps.length)(aA:∀(ac:Value)(A:Around)(outer:List Env)(s:Shared)(H:Hp)(E:XK),Room k (A.deeper (envOfC af (qd st) s.heap.objs.size f ac)) ->
   ∃t,QSs (cxOf CX0 P w Ξ mg base N af (qd st) f ac A outer s H E).nox (vi st) t/\∃u,ZS t u/\∀us M Qu,G us M Qu->u { nx:=λ_a M'=>Qu (.p .non) M',rt:=Qu } (zM N us) M):FnOk P w Ξ mg base CX0 (k+1) f fd ps (spU G):=
 F.okU S len λac A outer s H E hr=>by
  obtain⟨t,h,u,hu,q⟩:=aA ac A outer s H E hr;exact⟨t,h.h,u,hu.h,q⟩
theorem Fun.zV{st:Stmt}(F:Fun Ξ x af st f fd)(S:q00 N ps (qd st))(len:∀us M Qu,G us M Qu->us.length=ps.length)(aA:∀(ac:Value)(A:Around)(outer:List Env)(s:Shared)(H:Hp)(E:XK),Room k (A.deeper (envOfC af (qd st) s.heap.objs.size f ac)) ->
   ∃t,QSs (cxOf CX0 P w Ξ mg base N af (qd st) f ac A outer s H E).nox (vi st) t/\∃u,ZS t u/\∀us M M1 Qu,M1=M->G us M Qu->u { nx:=λ_a M'=>zu M M'/\Qu (.p .non) (M'.take M.length),rt:=λz M'=>zu M M'/\∃t,frzB M.length 4 M' z=some t/\Qu (.p t) (M'.take M.length) } (zM N us) M1):FnOk P w Ξ mg base CX0 (k+1) f fd ps (spU G):=
 F.okV S len λac A outer s H E hr=>by
  obtain⟨t,h,u,hu,q⟩:=aA ac A outer s H E hr;exact⟨t,h.h,u,hu.h,λus M Qu g=>q us M M Qu rfl g⟩
theorem Fun.zP{st:Stmt}(F:Fun Ξ x af st f fd)(S:q00 N ps (qd st))(len:∀ts Qt,G ts Qt->ts.length=ps.length)(aA:∀(ac:Value)(A:Around)(outer:List Env)(s:Shared)(H:Hp)(E:XK),Room k (A.deeper (envOfC af (qd st) s.heap.objs.size f ac)) ->
   ∃t,QSs (cxOf CX0 P w Ξ mg base N af (qd st) f ac A outer s H E).nox (vi st) t/\∃u,ZS t u/\∀ts Qt,G ts Qt->u { nx:=λ_a _a=>Qt .non,rt:=λz M'=>∃t,frzN 4 M' z=some t/\Qt t } (zM N (ts.map U.p)) []):FnOk P w Ξ mg base CX0 (k+1) f fd ps (spP G):=
 F.okP S len λac A outer s H E hr=>by
  obtain⟨t,h,u,hu,q⟩:=aA ac A outer s H E hr;exact⟨t,h.h,u,hu.h,q⟩
end
noncomputable abbrev UX:=Str->Option Int->MM->Prop
noncomputable def pT:Option Int->T
 |none=>.non
 |some n=>.int n
theorem q4X:∀p:Option Int,RepT A H (pV p) (pT p)
 |none=>.non
 |some _=>.int _
theorem q2p:∀{p:Option Int},RepT A H v (pT p)->v=pV p
 |none,r=>by cases r;rfl
 |some _,r=>by cases r;rfl
noncomputable abbrev UXe:=UEnv->MM->UK->UX->Prop
noncomputable def spX(mg:Str->Option Value)(G:List U->MM->UK->UX->Prop):Sp:=λvs H Q E=>∃A ι M us Qu Xu,Wd A ι H M/\RepUs A ι H vs us/\G us M Qu Xu /\
 (∀u M' ai v H',Le ι H ai H'->Wd A ai H' M'->RepU A ai H' v u->Qu u M'->Q v H')/\∀nm p C d M' ai H',mg nm=some C->PartIs d H' p->Le ι H ai H'->Wd A ai H' M'->Xu nm p M'->E C d H'
structure ZXe(mg:Str->Option Value)(tx:TX)(ux:UXe):Prop where
 h:∀(A:Addr->Prop)(ι:List Addr)(σ:St)(H:Hp)(ρ:UEnv)(M:MM)(Qu:UK)(Xu:UX)(Q:VK)(E:XK),Wd A ι H M->EnvR A ι H σ ρ->ux ρ M Qu Xu ->
  (∀u M' ai v H',Le ι H ai H'->Wd A ai H' M'->RepU A ai H' v u->Qu u M'->Q v H')->(∀nm p C d M' ai H',mg nm=some C->PartIs d H' p->Le ι H ai H'->Wd A ai H' M'->Xu nm p M'->E C d H')->tx σ H Q E
noncomputable def zC(G:List U->MM->UK->UX->Prop)(ul:UA):UXe:=λρ M Q X=>ul ρ M λus M1=>G us M1 Q X
theorem VN(ha:ZA n tl ul):ZXe mg (q26 (spX mg G) tl) (zC G ul):=⟨λA ι σ H ρ M Qu Xu Q E w e q k kx=>
 ha.h A ι σ H ρ M _ _ w e q λus M1 a7 vs H1 l1 w1 hn r1 q1=>
  ⟨A,a7,M1,us,_,_,w1,r1,q1,λu M2 ae v H2 l2 w2 r2 q2=>k u M2 ae v H2 (l1.trans l2) w2 r2 q2,λnm p C d M2 ae H2 hm hp l2 w2 q2=>kx nm p C d M2 ae H2 hm hp (l1.trans l2) w2 q2⟩⟩
noncomputable def zi(C:Addr)(m:Str)(G:List U->MM->UK->UX->Prop)(ua:UE)(ul:UA):UXe:=λρ M Q X=>ua ρ M λx M1=>VX C m x M1 (ul ρ M1 λus M2=>G (x::us) M2 Q X)
theorem X6(ha:ZE ta ua)(hl:ZA n tl ul):ZXe mg (q2v C m (spX mg G) ta tl) (zi C m G ua ul):=⟨λA ι σ H ρ M Qu Xu Q E w e q k kx=>
 ha.h A ι σ H ρ M _ _ w e q λx M1 a7 v1 H1 l1 w1 r1 zz=>by
  obtain⟨kk,fs,ex,em,lk,q1⟩:=zz;subst ex;have e9:=r1;cases e9 with
  |m ek=>
  obtain⟨dx,gs,h1,h2,h3,h4⟩:=w1.obj kk _ _ ek em;refine⟨_,dx,gs,rfl,h1,Zo h4 lk,hl.h A a7 σ H1 ρ M1 _ _ w1 (e.le l1) q1 λus M2 ae vs H2 l2 w2 hn r2 q2=>?_⟩;exact⟨A,ae,M2,_,_,_,w2,.cons (r1.le l2) r2,q2,λu M3 cP v H3 l3 w3 r3 q3=>k u M3 cP v H3 ((l1.trans l2).trans l3) w3 r3 q3,λnm p C d M3 cP H3 hm hp l3 w3 q3=>kx nm p C d M3 cP H3 hm hp ((l1.trans l2).trans l3) w3 q3⟩⟩
noncomputable def tagU(nm:Str)(p:Option Int)(ρ:UEnv):UEnv:=some (.p (.str nm))::some (.p (pT p))::ρ
theorem jk(e:EnvR A ι H σ ρ):EnvR A ι H (some (.str nm)::some (pV p)::σ) (tagU nm p ρ):=.cons (λu q=>by cases q;exact⟨_,rfl,.p (.str _)⟩) (.cons (λu q=>by cases q;exact⟨_,rfl,.p (q4X p)⟩) e)
noncomputable def zl(ux:UXe):US:=λE ρ M=>ux ρ M (λ_a M1=>E.nx ρ M1) λnm p M1=>E.bk (tagU nm p ρ) M1
theorem q1E(h:ZXe mg tx ux):ZS (q25 tx mg) (zl ux):=⟨λA ι σ H ρ M D E w e r q=>
 h.h A ι σ H ρ M _ _ _ _ w e q (λx M1 a7 v H1 l1 w1 r1 q1=>r.nx a7 σ H1 ρ M1 l1 w1 (e.le l1) q1) λnm p C d M1 a7 H1 hm hp l1 w1 q1=>⟨nm,p,hm,hp,r.bk a7 _ H1 _ M1 l1 w1 (jk (e.le l1)) q1⟩⟩
noncomputable def jj(ux:UXe):US:=λE ρ M=>ux ρ M E.rt λnm p M1=>E.bk (tagU nm p ρ) M1
theorem Gm(h:ZXe mg tx ux):ZS (q4S tx mg) (jj ux):=⟨λA ι σ H ρ M D E w e r q=>
 h.h A ι σ H ρ M _ _ _ _ w e q (λx M1 a7 v H1 l1 w1 r1 q1=>r.rt a7 v H1 x M1 l1 w1 r1 q1) λnm p C d M1 a7 H1 hm hp l1 w1 q1=>⟨nm,p,hm,hp,r.bk a7 _ H1 _ M1 l1 w1 (jk (e.le l1)) q1⟩⟩
noncomputable def jM(i:Nat)(ux:UXe):US:=λE ρ M=>ux ρ M (λx M1=>E.nx (ρ.set i (some x)) M1) λnm p M1=>E.bk (tagU nm p ρ) M1
theorem X7(h:ZXe mg tx ux):ZS (q6d i tx mg) (jM i ux):=⟨λA ι σ H ρ M D E w e r q=>
 h.h A ι σ H ρ M _ _ _ _ w e q (λx M1 a7 v H1 l1 w1 r1 q1=>r.nx a7 _ H1 _ M1 l1 w1 ((e.le l1).put i r1) q1) λnm p C d M1 a7 H1 hm hp l1 w1 q1=>⟨nm,p,hm,hp,r.bk a7 _ H1 _ M1 l1 w1 (jk (e.le l1)) q1⟩⟩
noncomputable def zB(x:Str)(ul:UA):US:=λE ρ M=>ul ρ M λus M1=>us.length<=sizeLine/\E.bk (tagU x none ρ) M1
theorem q0d(h:ZA n tl ul):ZS (q2h x tl) (zB x ul):=⟨λA ι σ H ρ M D E w e r q=>
 h.h A ι σ H ρ M _ _ w e q λus M1 a7 vs H1 l1 w1 hn r1 ⟨hl,q1⟩=>⟨by rw[r1.len];exact hl,r.bk a7 _ H1 _ M1 l1 w1 (jk (p:=none) (e.le l1)) q1⟩⟩
noncomputable def vZ(x:Str)(ul:UA):US:=λE ρ M=>ul ρ M λus M1=>∃k,us=[.p (.int k)]/\kh k/\E.bk (tagU x (some k) ρ) M1
theorem Gn(h:ZA n tl ul):ZS (Yk x tl) (vZ x ul):=⟨λA ι σ H ρ M D E w e r q=>
 h.h A ι σ H ρ M _ _ w e q λus M1 a7 vs H1 l1 w1 hn r1 zz=>by
  obtain⟨k,eu,sk,q1⟩:=zz;subst eu;cases r1 with
  |cons a b=>
  cases b;cases a with
  |p a=>
  cases a;exact⟨k,rfl,sk,λd hd=>r.bk a7 _ _ _ M1 (l1.trans (Le.fresh hd)) (w1.fresh hd) (jk (p:=some k) ((e.le l1).le (Le.fresh hd))) q1⟩⟩
noncomputable def uTry(n:Nat)(ub:US)(l:List (Str×(Option Int->US))):US:=λE ρ M=>ub { E with bk:=λτ M'=>∃nm p aP u,τ=tagU nm p aP/\aP.length=n/\l.lookup nm=some u/\u p E aP M' } ρ M
structure ZHs(l:List (Str×(Option Int->TS)))(l':List (Str×(Option Int->US))):Prop where
 h:∀nm u,l'.lookup nm=some u->∃t,l.lookup nm=some t/\∀p,LS (t p) (u p)
theorem q1R:ZHs [] []:=⟨λnm u e=>by simp at e⟩
theorem QQ(h:∀p,ZS (t p) (u p))(hr:ZHs l l'):ZHs ((x,t)::l) ((x,u)::l'):=⟨λnm v e=>by
 rw[Dj]at e ⊢;cases hx:(nm==x) with
 |true=>rw[hx]at e;cases e;exact⟨t,rfl,λp=>(h p).h⟩
 |false=>rw[hx]at e;exact hr.h nm v e⟩
theorem q2c(hb:ZS tb ub)(hl:ZHs l l'):ZS (tTry n tb l) (uTry n ub l'):=⟨λA ι σ H ρ M D E w e r q=>
 hb.h A ι σ H ρ M _ { E with bk:=λτ M'=>∃nm p aP u,τ=tagU nm p aP/\aP.length=n/\l'.lookup nm=some u/\u p E aP M' } w e ⟨r.nx,r.rt,λa7 cv H1 dm M1 l1 w1 e1 q1=>by
  obtain⟨nm,p,aP,u,rfl,hn,hu,q1⟩:=q1;obtain⟨t,ht,lk⟩:=hl.h nm u hu;cases e1 with
  |cons a b=>
  cases b with
  |cons a2 b=>
  obtain⟨v,rfl,rv⟩:=a _ rfl;obtain⟨v2,rfl,fI⟩:=a2 _ rfl;cases rv with
  |p rv=>
  cases rv;cases fI with
  |p fI=>
  cases q2p fI;exact⟨nm,p,_,t,rfl,by rw[b.length];exact hn,ht,lk p A a7 _ H1 aP M1 D E w1 b (r.le l1) q1⟩,r.ct⟩ q⟩
noncomputable def uAs(i j k:Nat)(c:Str)(q:Option Int):US:=λE ρ M=>∃n,q=some n/\n<1000000/\E.nx (((ρ.set j (some (.p (.str c)))).set k (some (.p (.int n)))).set i none) M
theorem q7o:ZS (tAs i j k c q) (uAs i j k c q):=⟨λA ι σ H ρ M D E w e r h=>by
 obtain⟨m,hq,pG,h⟩:=h;refine⟨m,hq,pG,r.nx ι _ H _ M (Le.refl _ _) w ?_ h⟩;exact Paired.put (λw z=>by cases z) i (EnvR.put (EnvR.put e j (.p (.str c))) k (.p (.int m)))⟩
noncomputable def endX(n:Nat)(Qu:UK)(Xu:UX):q03:={ nx:=λ_a M'=>Qu (.p .non) M',rt:=Qu,bk:=λτ M'=>∃nm p ρ,τ=tagU nm p ρ/\ρ.length=n/\Xu nm p M' }
theorem Fun.zX{st:Stmt}(F:Fun Ξ x af st f fd)(S:q00 N ps (qd st))(len:∀us M Qu Xu,G us M Qu Xu->us.length=ps.length)(aA:∀(ac:Value)(A:Around)(outer:List Env)(s:Shared)(H:Hp)(E:XK),Room k (A.deeper (envOfC af (qd st) s.heap.objs.size f ac)) ->
   ∃t,QXs True (cxOf (CXe P w) P w Ξ mg base N af (qd st) f ac A outer s H E) (vi st) t/\∃u,ZS t u/\∀us M Qu Xu,G us M Qu Xu->u (endX N.length Qu Xu) (zM N us) M):FnOk P w Ξ mg base (CXe P w) (k+1) f fd ps (spX mg G):=by
 refine F.okX S (λvs H Q E h=>?_) (λac A outer s H vs Q E hr h=>?_)
 ·obtain⟨A,ι,M,us,Qu,Xu,w1,r,g,_⟩:=h
  rw[r.len];exact len us M Qu Xu g
 ·obtain⟨B,ι,M,us,Qu,Xu,w1,r,g,kk,kx⟩:=h
  obtain⟨t,ht,u,hu,hb⟩:=aA ac A outer s H E hr;refine⟨t,ht,hu.h B ι _ H _ M _ (endX N.length Qu Xu) w1 (xR r) ⟨λa7 cv H1 dm M1 l1 w1 e1 q1=>kk _ M1 a7 _ H1 l1 w1 (.p .non) q1,λa7 v H1 z M1 l1 w1 r1 q1=>kk z M1 a7 v H1 l1 w1 r1 q1,λa7 cv H1 dm M1 l1 w1 e1 q1=>?_,λ_a _a _a _a _a _a _a _a q=>q.elim⟩ (hb us M Qu Xu g)⟩;obtain⟨nm,p,ρ,rfl,hn,q1⟩:=q1;cases e1 with
  |cons a b=>
  cases b with
  |cons a2 b=>
  obtain⟨v,rfl,rv⟩:=a _ rfl;obtain⟨v2,rfl,fI⟩:=a2 _ rfl;cases rv with
  |p rv=>
  cases rv;cases fI with
  |p fI=>
  cases q2p fI;exact⟨nm,p,_,rfl,by rw[b.length];exact hn,λC d hm hp=>kx nm p C d M1 a7 H1 hm hp l1 w1 q1⟩
theorem q2s:∀nm t C,([]:List (Str×(Option Int->TS))).lookup nm=some t->X.mg nm=some C->∀p,QH X hs C p (t p):=λnm t C e _a=>by simp at e
theorem VA{X:Cx}{hs:List ExceptHandler}{x:Str}{C:Value}{t:Option Int->TS}(hb:X.mg x=some C)(h:∀p,QH X hs C p (t p))(hr:∀nm t C,l.lookup nm=some t->X.mg nm=some C->∀p,QH X hs C p (t p)):
  ∀nm t' C',((x,t)::l).lookup nm=some t'->X.mg nm=some C'->∀p,QH X hs C' p (t' p):=λnm t' C' e hm=>by
 rw[Dj]at e;cases hx:(nm==x) with
 |true=>
  rw[hx]at e;cases e;rw[eq_of_beq hx,hb]at hm;cases hm;exact h
 |false=>rw[hx]at e;exact hr nm t' C' e hm
theorem Paired.app{α β:Type}{F:α->β->Prop}:∀{a c:List α}{b d:List β},Paired F a b->Paired F c d->Paired F (a++c) (b++d)
 |_,_,_,_,.nil,h=>h
 |_,_,_,_,.cons x y,h=>.cons x (Paired.app y h)
end L2
namespace PySem
open Sem (wp)
open Builtin
section
variable {prog:Program}{w:World}{A:Around}{E:Value->Shared->Prop}{h:Heap}{g:Array GenState}{d:Drawn}{t:Nat}{os:OsState}{C x dx:Addr}
theorem xQ(X:h.CmpInst x C [.type "object"])(hs:isSame (.ref x) b=pure false)(hq:Q none ⟨h,g,d,t,os⟩):wpAny (model prog w) A (tryCompare (.ref x) "__eq__" b) Q E ⟨h,g,d,t,os⟩:=by
 obtain⟨o,nm,q,N,bs,hdct,sn,sub,ab,col,dd,k0,k1,k2,k3,k5,bc,mN,hx,hc,hC,hn,he,_⟩:=id X;have FB:=F.cmp_object;simp only[tryCompare];refine GU (wpAny_callSpecialIfBound?_inst hx hc hC hn he FB.mro FB.eq (Uh (G6 FB.eq.plain F.cmpEntry_eq
  (wpAny_check_slot_inst F.cmpKind_eq F.cmpSplit_eq (F.cmpArgs_eq _ _) FB.hasObject hx hc hC ?_))))
 unfold Builtin.«object.__eq__»
 repeat (first|rw[hs]|wp_step)
 exact hq
theorem V2(X:h.CmpInst x C [.type "object"])(ho:h.get? x=some (W.instObj C dx))(hq:Q none ⟨h,g,d,t,os⟩):wpAny (model prog w) A (tryCompare (.int n u) "__eq__" (.ref x)) Q E ⟨h,g,d,t,os⟩:=by
 obtain⟨o,nm,q,N,bs,hdct,sn,sub,ab,col,dd,k0,k1,k2,k3,k5,bc,mN,hx,hc,hC,hn,he,_⟩:=id X;cases Option.some.inj (hx.symm.trans ho);have FS:Slot "int" "__eq__" "int.__eq__" := F.slot_int_eq;have dG:(Value.ref C::[Value.type "object"]).contains (.type "int")=false:=by simp
 refine Ui (T := "int") rfl FS (Uh (G6 FS.plain F.entry_int_eq (FS.check _ _ _ _ _ _ _ _ rfl (F.args_int_eq_2 _ _) ?_)));unfold Builtin.«int.__eq__»
 repeat (first|(with_reducible refine GY hx ?_;rw[hc])|(with_reducible refine G5 hC ?_;rw[dG])|wp_step)
 exact⟨rfl,hq⟩
theorem X2(X:h.CmpInst x C [.type "object"])(ho:h.get? x=some (W.instObj C dx))(hu:A.units<cLine)(hq:Q (.bool false) ⟨h,g,d,t,os⟩):wpAny (model prog w) A (compareOp .Eq (.ref x) (.int n u)) Q E ⟨h,g,d,t,os⟩:=by
 obtain⟨o,nm,q,N,bs,hdct,sn,sub,ab,col,dd,k0,k1,k2,k3,k5,bc,mN,hx,hc,hC,hn,he,_⟩:=id X;have hs:isSame (.ref x) (.int n u)=pure false:=by rfl
 have dH:isSubtype (.type "int") (.ref C)=pure false:=by rw[UM];rfl
 show wpAny _ _ (richCompare .Eq _ _) _ _ _;simp only[richCompare,UC]
 repeat (first|with_reducible refine Uj hu ?_|(with_reducible refine GY hx ?_;rw[hc])|rw[dH]|with_reducible refine xQ X hs ?_|with_reducible refine V2 X ho ?_|rw[hs]|wp_step)
 exact hq
theorem XZ(X:h.CmpInst x C [.type "object"])(ho:h.get? x=some (W.instObj C dx))(hu:A.units<cLine)(hq:Q (.bool false) ⟨h,g,d,t,os⟩):wpAny (model prog w) A (compareOp .Eq (.int n u) (.ref x)) Q E ⟨h,g,d,t,os⟩:=by
 obtain⟨o,nm,q,N,bs,hdct,sn,sub,ab,col,dd,k0,k1,k2,k3,k5,bc,mN,hx,hc,hC,hn,he,_⟩:=id X;have hs:isSame (.int n u) (.ref x)=pure false:=by rfl
 have eG:isSame (.ref x) (.int n u)=pure false:=by rfl
 have dG:(Value.ref C::[Value.type "object"]).contains (.type "int")=false:=by simp
 show wpAny _ _ (richCompare .Eq _ _) _ _ _;simp only[richCompare,UC]
 repeat (first|with_reducible refine Uj hu ?_|(with_reducible refine GY hx ?_;rw[hc])|(with_reducible refine G5 hC ?_;rw[dG])|with_reducible refine xQ X eG ?_|with_reducible refine V2 X ho ?_|rw[hs]|wp_step)
 exact hq
theorem V1(X:h.CmpInst x C [.type "object"])(ho:h.get? x=some (W.instObj C dx))(hq:Q none ⟨h,g,d,t,os⟩):wpAny (model prog w) A (tryCompare (.str n u) "__eq__" (.ref x)) Q E ⟨h,g,d,t,os⟩:=by
 obtain⟨o,nm,q,N,bs,hdct,sn,sub,ab,col,dd,k0,k1,k2,k3,k5,bc,mN,hx,hc,hC,hn,he,_⟩:=id X;cases Option.some.inj (hx.symm.trans ho);have FS:Slot "str" "__eq__" "str.__eq__" := F.slot_str_eq;have dG:(Value.ref C::[Value.type "object"]).contains (.type "str")=false:=by simp
 refine Ui (T := "str") rfl FS (Uh (G6 FS.plain F.entry_str_eq (FS.check _ _ _ _ _ _ _ _ rfl (F.args_str_eq_2 _ _) ?_)));unfold Builtin.«str.__eq__»
 repeat (first|(with_reducible refine GY hx ?_;rw[hc])|(with_reducible refine G5 hC ?_;rw[dG])|wp_step)
 exact⟨rfl,hq⟩
theorem X1(X:h.CmpInst x C [.type "object"])(ho:h.get? x=some (W.instObj C dx))(hu:A.units<cLine)(hq:Q (.bool false) ⟨h,g,d,t,os⟩):wpAny (model prog w) A (compareOp .Eq (.ref x) (.str n u)) Q E ⟨h,g,d,t,os⟩:=by
 obtain⟨o,nm,q,N,bs,hdct,sn,sub,ab,col,dd,k0,k1,k2,k3,k5,bc,mN,hx,hc,hC,hn,he,_⟩:=id X;have hs:isSame (.ref x) (.str n u)=pure false:=by rfl
 have dH:isSubtype (.type "str") (.ref C)=pure false:=by rw[UM];rfl
 show wpAny _ _ (richCompare .Eq _ _) _ _ _;simp only[richCompare,UC]
 repeat (first|with_reducible refine Uj hu ?_|(with_reducible refine GY hx ?_;rw[hc])|rw[dH]|with_reducible refine xQ X hs ?_|with_reducible refine V1 X ho ?_|rw[hs]|wp_step)
 exact hq
theorem XY(X:h.CmpInst x C [.type "object"])(ho:h.get? x=some (W.instObj C dx))(hu:A.units<cLine)(hq:Q (.bool false) ⟨h,g,d,t,os⟩):wpAny (model prog w) A (compareOp .Eq (.str n u) (.ref x)) Q E ⟨h,g,d,t,os⟩:=by
 obtain⟨o,nm,q,N,bs,hdct,sn,sub,ab,col,dd,k0,k1,k2,k3,k5,bc,mN,hx,hc,hC,hn,he,_⟩:=id X;have hs:isSame (.str n u) (.ref x)=pure false:=by rfl
 have eG:isSame (.ref x) (.str n u)=pure false:=by rfl
 have dG:(Value.ref C::[Value.type "object"]).contains (.type "str")=false:=by simp
 show wpAny _ _ (richCompare .Eq _ _) _ _ _;simp only[richCompare,UC]
 repeat (first|with_reducible refine Uj hu ?_|(with_reducible refine GY hx ?_;rw[hc])|(with_reducible refine G5 hC ?_;rw[dG])|with_reducible refine xQ X eG ?_|with_reducible refine V1 X ho ?_|rw[hs]|wp_step)
 exact hq
theorem Qp(X:h.CmpInst x C [.type "object"])(eO:x≠y)(hy:h.get? y=some oy)(hq:Q none ⟨h,g,d,t,os⟩):wpAny (model prog w) A (tryCompare (.ref x) "__eq__" (.ref y)) Q E ⟨h,g,d,t,os⟩:=tryCompare_eq_other F.cmp_object X hy eO hq
theorem V0(X:h.CmpInst x C [.type "object"])(ho:h.get? x=some (W.instObj C dx))(Y:PyProof.Rows.IsTup h y its)(hq:Q none ⟨h,g,d,t,os⟩):wpAny (model prog w) A (tryCompare (.ref y) "__eq__" (.ref x)) Q E ⟨h,g,d,t,os⟩:=by
 obtain⟨o,nm,q,N,bs,hdct,sn,sub,ab,col,dd,k0,k1,k2,k3,k5,bc,mN,hx,hc,hC,hn,he,_⟩:=id X;cases Option.some.inj (hx.symm.trans ho);obtain⟨oy,hy,dR,ny,gR⟩:=Y;have FS:Slot "tuple" "__eq__" "tuple.__eq__" := F.slot_tuple_eq;have dG:(Value.ref C::[Value.type "object"]).contains (.type "tuple")=false:=by simp
 have hT:(⟨h,g,d,t,os⟩:Shared).TypeIs (.ref y) "tuple" := ⟨_,hy,dR⟩;refine Ui (T := "tuple") hT FS (Uh (G6 FS.plain F.entry_tuple_eq (FS.check _ _ _ _ _ _ _ _ hT (F.args_tuple_eq_2 _ _) ?_)));unfold Builtin.«tuple.__eq__»
 repeat (first|(with_reducible refine GY hx ?_;rw[hc])|(with_reducible refine GY hy ?_;rw[dR,gR])|(with_reducible refine GY hy ?_;rw[gR])  | (with_reducible refine GY hy ?_;rw[dR])|(with_reducible refine G5 hC ?_;rw[dG])|wp_step)
 exact⟨rfl,hq⟩
theorem X0(X:h.CmpInst x C [.type "object"])(ho:h.get? x=some (W.instObj C dx))(Y:PyProof.Rows.IsTup h y its)(hu:A.units<cLine)(hq:Q (.bool false) ⟨h,g,d,t,os⟩):wpAny (model prog w) A (compareOp .Eq (.ref x) (.ref y)) Q E ⟨h,g,d,t,os⟩:=by
 obtain⟨o,nm,q,N,bs,hdct,sn,sub,ab,col,dd,k0,k1,k2,k3,k5,bc,mN,hx,hc,hC,hn,he,_⟩:=id X;cases Option.some.inj (hx.symm.trans ho);obtain⟨oy,hy,dR,ny,gR⟩:=id Y;have eO:x≠y:=λz=>by subst z;rw[ho]at hy;cases hy;cases dR
 have lO:(W.instObj C dx).cls ≠ .type "tuple" := by intro z;cases z
 have dH:isSubtype (.type "tuple") (.ref C)=pure false:=by rw[UM];rfl
 show wpAny _ _ (richCompare .Eq _ _) _ _ _;simp only[richCompare,UC,oneThing_ref]
 repeat (first|with_reducible refine Uj hu ?_|(with_reducible refine GY hx ?_;rw[hc])|(with_reducible refine GY hy ?_;rw[dR])|rw[dH]|with_reducible refine Qp X eO hy ?_|with_reducible refine V0 X ho Y ?_|with_reducible refine wpAny_isSame_ref_other eO hx hy lO ?_|wp_step)
 exact hq
theorem XX(X:h.CmpInst x C [.type "object"])(ho:h.get? x=some (W.instObj C dx))(Y:PyProof.Rows.IsTup h y its)(hu:A.units<cLine)(hq:Q (.bool false) ⟨h,g,d,t,os⟩):wpAny (model prog w) A (compareOp .Eq (.ref y) (.ref x)) Q E ⟨h,g,d,t,os⟩:=by
 obtain⟨o,nm,q,N,bs,hdct,sn,sub,ab,col,dd,k0,k1,k2,k3,k5,bc,mN,hx,hc,hC,hn,he,_⟩:=id X;cases Option.some.inj (hx.symm.trans ho);obtain⟨oy,hy,dR,ny,gR⟩:=id Y;have eO:x≠y:=λz=>by subst z;rw[ho]at hy;cases hy;cases dR
 have lO:(W.instObj C dx).cls ≠ .type "tuple" := by intro z;cases z
 have dG:(Value.ref C::[Value.type "object"]).contains (.type "tuple")=false:=by simp
 show wpAny _ _ (richCompare .Eq _ _) _ _ _;simp only[richCompare,UC,oneThing_ref]
 repeat (first|with_reducible refine Uj hu ?_|(with_reducible refine GY hx ?_;rw[hc])|(with_reducible refine GY hy ?_;rw[dR])|(with_reducible refine G5 hC ?_;rw[dG])|with_reducible refine Qp X eO hy ?_|with_reducible refine V0 X ho Y ?_|with_reducible refine wpAny_isSame_ref_other' eO.symm hy hx lO ?_|wp_step)
 rw[GZ (by simpa using eO.symm)];refine GU (wpAny_load hy (GU (wpAny_load hx ?_)));rw[dR,gR];exact GV (GV hq)
end
end PySem
namespace L2
open PySem PySem.Spec PyProof.Rows
noncomputable def KW(Ξ:PySem.W.Frag)(C:Addr):Bool:=match Ξ.lookup C with
 |some ⟨.type "type", _,.cls cd,sl⟩=>(match cd.mro,sl.toList with
  | [.ref C',.type "object"], [_,_,_,_,some (.builtin n),_]=>C'==C && !cd.hasDel&&W.nsOkIn Ξ cd.ns&&W.nsIn Ξ cd.ns "__eq__" == some none&&W.nsIn Ξ cd.ns "__ne__" == some none
  |_,_=>false)
 |_=>false
set_option tactic.hygienic true in
theorem jd(X:Ξ.In h)(q:KW Ξ C=true)(hx:h.get? x=some (W.instObj C dx)):h.CmpInst x C [.type "object"]:=by
 unfold KW at q;split at q
 ·rename_i dd cd sl ho
  split at q
  ·rename_i C' k0 k1 k2 k3 n k5 hm hs
   obtain⟨nm,bs,mro,ns,qn,hd,sn,sub,ab,col,mY⟩:=cd;simp only[Dy,beq_iff_eq,Rc]at q hm;obtain⟨⟨⟨⟨z1,z3⟩,z5⟩,z6⟩,z7⟩:=q;subst z1;subst hm;subst z3;obtain⟨l⟩:=sl;have hs:l=_:=hs;subst hs;exact⟨_,nm,qn,ns,bs,hd,sn,sub,ab,col,dd,k0,k1,k2,k3,k5,n,_,hx,rfl,X _ _ ho,.of_isNs (Bl X z5),D2 X z5 z6,D2 X z5 z7⟩
  ·cases q
 ·cases q
noncomputable abbrev K0(H:Hp)(C a:Addr):Prop:=∃dx fs,H a=some (.ins C dx fs)
noncomputable def rEqI(Ξ:PySem.W.Frag)(C:Addr):R2:=λx y H Q=>
 (∃a b,x=.ref a/\y=.ref b/\K0 H C a/\K0 H C b/\Q (.bl (a==b)) H) \/
 (∃a,x=.ref a/\K0 H C a/\(QJ y=true\/∃b xs,y=.ref b/\SqT Ξ H b xs)/\Q (.bl false) H) \/
 (∃a,y=.ref a/\K0 H C a/\(QJ x=true\/∃b xs,x=.ref b/\SqT Ξ H b xs)/\Q (.bl false) H)
theorem q6u(hK:X.K=Ξ)(hc:KW Ξ C=true)(hu:X.A.units+64<cLine):OpR X (compareOp .Eq) (rEqI Ξ C):=by
 subst hK;intro a5 s σ H x y v u Q I rx ry h;have ins:∀a,K0 H C a->∃dx,s.heap.get? a=some (W.instObj C dx):=λa zz=>by
  obtain⟨dx,fs,e⟩:=zz;obtain⟨_,_,_,e,_⟩:=I.hok a _ e;exact⟨dx,e⟩
 obtain⟨hp,g,d,t,os⟩:=s;rcases h with⟨a,b,rfl,rfl,ia,ib,q⟩|⟨a,rfl,ia,hy,q⟩|⟨a,rfl,ia,hx,q⟩
 ·obtain rfl:v=Value.ref a:=rx
  obtain rfl:u=Value.ref b:=ry;obtain⟨da,ea⟩:=ins a ia;obtain⟨db,eb⟩:=ins b ib;by_cases z:a=b
  ·subst z
   rw[Ul]at q;exact compareOp_eq_same F.cmp_object (jd I.kIn hc ea) (by lia) ⟨.bl true,H,I,rfl,q⟩
  ·rw[beq_eq_false_iff_ne.mpr z]at q
   exact compareOp_eq_other F.cmp_object F.cmp_object (jd I.kIn hc ea) (jd I.kIn hc eb) z (by lia) ⟨.bl false,H,I,rfl,q⟩
 ·obtain rfl:v=Value.ref a:=rx
  obtain⟨da,ea⟩:=ins a ia;rcases hy with hf|⟨b,xs,rfl,hb⟩
  ·cases y with
   |int i=>obtain⟨t',rfl⟩:=ry;exact X2 (jd I.kIn hc ea) ea (by lia) ⟨.bl false,H,I,rfl,q⟩
   |str i=>obtain⟨t',rfl⟩:=ry;exact X1 (jd I.kIn hc ea) ea (by lia) ⟨.bl false,H,I,rfl,q⟩
   |_=>exact absurd (show false=true from hf) U6
  ·obtain rfl:u=Value.ref b:=ry
   obtain⟨its,r1,p1,_⟩:=I.tuple hb;exact X0 (jd I.kIn hc ea) ea p1 (by lia) ⟨.bl false,H,I,rfl,q⟩
 ·obtain rfl:u=Value.ref a:=ry
  obtain⟨da,ea⟩:=ins a ia;rcases hx with hf|⟨b,xs,rfl,hb⟩
  ·cases x with
   |int i=>obtain⟨t',rfl⟩:=rx;exact XZ (jd I.kIn hc ea) ea (by lia) ⟨.bl false,H,I,rfl,q⟩
   |str i=>obtain⟨t',rfl⟩:=rx;exact XY (jd I.kIn hc ea) ea (by lia) ⟨.bl false,H,I,rfl,q⟩
   |_=>exact absurd (show false=true from hf) U6
  ·obtain rfl:v=Value.ref b:=rx
   obtain⟨its,r1,p1,_⟩:=I.tuple hb;exact XX (jd I.kIn hc ea) ea p1 (by lia) ⟨.bl false,H,I,rfl,q⟩
noncomputable abbrev rEqU(Ξ:PySem.W.Frag)(C:Addr):R2:=λx y H Q=>(rEq x y H Q\/rEqT Ξ x y H Q\/q1v Ξ x y H Q\/q0J Ξ x y H Q)\/rEqI Ξ C x y H Q
theorem q4D(hK:X.K=Ξ)(hc:KW Ξ C=true)(hu:X.A.units+64<cLine):OpR X (compareOp .Eq) (rEqU Ξ C):=λa5 s σ H x y v u Q I rx ry h=>by
 rcases h with h|h
 ·exact q2k hK hu a5 s σ H x y v u Q I rx ry h
 ·exact q6u hK hc hu a5 s σ H x y v u Q I rx ry h
noncomputable def kU(C:Addr)(M:MM)(k:Nat):Prop:=∃fs,M[k]?=some (.ins C fs)
noncomputable def W4:T->Bool
 |.int _=>true
 |.str _=>true
 |.tup _=>true
 |_=>false
noncomputable def EqUS(C:Addr)(M:MM)(x y:U)(Q:UK):Prop :=
 (∃a b,sn M x=some a/\sn M y=some b/\sEqW a b λt=>Q (.p t) M) \/
 (∃i j,x=.m i/\y=.m j/\kU C M i/\kU C M j/\Q (.p (.bl (i==j))) M) \/
 (∃i b,x=.m i/\y=.p b/\kU C M i/\W4 b=true/\Q (.p (.bl false)) M) \/
 (∃i a,x=.p a/\y=.m i/\kU C M i/\W4 a=true/\Q (.p (.bl false)) M)
noncomputable def uEqU(C:Addr)(ua ub:UE):UE:=λρ M Q=>ua ρ M λx M1=>ub ρ M1 λy M2=>EqUS C M2 x y Q
theorem ZC(h:W4 t=true)(r:RepT A H v t):QJ v=true\/∃b xs,v=.ref b/\SqT Ξ H b xs:=by
 cases t with
 |int i=>cases r;exact .inl rfl
 |str i=>cases r;exact .inl rfl
 |tup xs=>
  obtain⟨p,vs,rfl,_,h1,_⟩:=r.tup_inv;exact .inr ⟨p,vs,rfl,SqT.of h1⟩
 |_=>cases h
theorem JI(w:Wd A ι H M)(e:ι[k]?=some a)(h:kU C M k):K0 H C a:=by
 obtain⟨fs,h⟩:=h;obtain⟨dx,gs,h1,_⟩:=w.obj k a _ e h;exact⟨dx,gs,h1⟩
set_option tactic.hygienic true in
theorem q6w(ha:ZE ta ua)(hb:ZE tb ub):ZE (tOp (rEqU Ξ C) ta tb) (uEqU C ua ub):=⟨λA ι σ H ρ M Qu Q w e q k=>
 ha.h A ι σ H ρ M _ _ w e q λx M1 a7 v H1 l1 w1 r1 q1=>hb.h A a7 σ H1 ρ M1 _ _ w1 (e.le l1) q1 λy M2 ae v2 H2 l2 w2 r2 h=>by
  have r1:=r1.le l2;rcases h with⟨a,b,sa,sb,h⟩|⟨i,j,rfl,rfl,hi,hj,h⟩|⟨i,b,rfl,rfl,hi,hf,h⟩|⟨i,a,rfl,rfl,hi,hf,h⟩
  ·exact .inl (YY A ae H2 M2 v v2 a b _ Q w2 (r1.sn w2 sa) (r2.sn w2 sb) h λt cP z H3 l3 w3 r3 q3=>k _ M2 cP z H3 ((l1.trans l2).trans l3) w3 (.p r3) q3)
  ·cases r1 with
   |m ei=>
   cases r2 with
   |m ej=>
   rename_i p q;refine .inr (.inl ⟨p,q,rfl,rfl,JI w2 ei hi,JI w2 ej hj,?_⟩);have eb:(p==q)=(i==j):=by
    by_cases z:i=j
    ·subst z
     rw[ei]at ej;cases ej;rw[Ul,Ul]
    ·rw[beq_eq_false_iff_ne.mpr z]
     refine beq_eq_false_iff_ne.mpr λzz=>z ?_;subst zz;obtain⟨h1,e1⟩:=UR.mp ei;obtain⟨h2,e2⟩:=UR.mp ej;exact(RJ w2.nd).mp (e1.trans e2.symm)
   rw[eb];exact k _ _ _ _ _ (l1.trans l2) w2 (.p (.bl _)) h
  ·cases r1 with
   |m ei=>
   cases r2 with
   |p r2=>
   exact .inr (.inr (.inl ⟨_,rfl,JI w2 ei hi,ZC hf r2,k _ _ _ _ _ (l1.trans l2) w2 (.p (.bl _)) h⟩))
  ·cases r2 with
   |m ei=>
   cases r1 with
   |p r1=>
   exact .inr (.inr (.inr ⟨_,rfl,JI w2 ei hi,ZC hf r1,k _ _ _ _ _ (l1.trans l2) w2 (.p (.bl _)) h⟩))⟩
theorem zY:uEqU C ua ub ρ M Q=ua ρ M λx M1=>ub ρ M1 λy M2=>EqUS C M2 x y Q:=rfl
theorem q6o(h:sEqW a b λt=>Q (.p t) M)(sa:sn M (.p a)=some a:=by rfl)(sb:sn M (.p b)=some b:=by rfl):EqUS C M (.p a) (.p b) Q:=.inl ⟨a,b,sa,sb,h⟩
theorem q4I(hi:kU C M i)(hj:kU C M j)(h:Q (.p (.bl (i==j))) M):EqUS C M (.m i) (.m j) Q:=.inr (.inl ⟨i,j,rfl,rfl,hi,hj,h⟩)
theorem q5u(hi:kU C M i)(hf:W4 b=true)(h:Q (.p (.bl false)) M):EqUS C M (.m i) (.p b) Q:=.inr (.inr (.inl ⟨i,b,rfl,rfl,hi,hf,h⟩))
theorem q4R(hi:kU C M i)(hf:W4 a=true)(h:Q (.p (.bl false)) M):EqUS C M (.p a) (.m i) Q:=.inr (.inr (.inr ⟨i,a,rfl,rfl,hi,hf,h⟩))
structure q0m(Ξ:PySem.W.Frag)(C:Addr):Prop where
 cls:Cls Ξ C
 ha:W.findIn Ξ (.ref C) "__class__" = some (some (.builtin "object.__class__"))
 hn:W.specialIn Ξ (.builtin "object.__class__") "__get__" = some (some (.builtin "getset_descriptor.__get__"))
 htk:W.takesIn Ξ (.builtin "object.__class__")=some true
 hm:W.mroIn Ξ C (.type "object")=some true
 no:∀c:TyC,W.kitOne Ξ (.ref C) (.type c.name)=some false
noncomputable abbrev q70(Ξ:PySem.W.Frag):List V->Hp->VK->Prop:=λxs H Q=>∃x n t b,xs=[x,.ty n]/\TyOf Ξ H x t/\W.kitOne Ξ t (.type n)=some b/\Q (.bl b) H
noncomputable def isV(C:Addr)(M:MM):U->TyC->Option Bool
 |.p t,c=>some (isT t c)
 |.m k,c=>match M[k]? with
  |some (.lst _)=>some (isT (.lst []) c)
  |some (.tup _)=>some (isT (.tup []) c)
  |some (.ins C' _)=>if C'=C then some false else none
  |_=>none
 |.x _ _ _,_=>none
set_option tactic.hygienic true in
theorem q2W(I:q0m Ξ C)(w:Wd A ι H M)(r:RepU A ι H v u)(e:isV C M u c=some b):∃t,TyOf Ξ H v t/\W.kitOne Ξ t (.type c.name)=some b:=by
 by_cases h:isU M u c=some b
 ·obtain⟨t,h1,h2⟩:=WM (Ξ:=Ξ) w r h
  exact⟨_,h1,h2⟩
 ·cases r with
  |p r=>exact absurd e h
  |x h=>simp[isV]at e
  |m q=>
   obtain⟨o,h1,h2⟩:=w.al q;simp only[isV,h1]at e;simp only[isU,h1]at h;cases o with
   |lst us=>exact absurd e h
   |tup us=>exact absurd e h
   |dK=>simp at e
   |dF=>simp at e
   |tab=>simp at e
   |ins C' fs=>
    dsimp only at e;split at e
    ·rename_i z
     subst z;cases e;obtain⟨dx,gs,h3,_⟩:=h2;exact⟨_,.ins h3 I.cls I.ha I.hn I.htk I.hm,I.no c⟩
    ·cases e
noncomputable def uIsV(C:Addr)(c:TyC)(ua:UE):UE:=λρ M Q=>ua ρ M λx M1=>∃b,isV C M1 x c=some b/\Q (.p (.bl b)) M1
theorem Gz(I:q0m Ξ C)(c:TyC)(ha:ZE ta ua):ZE (tCB (q70 Ξ) (vH ta (vH (tC (.ty c.name)) tNil))) (uIsV C c ua):=⟨λA ι σ H ρ M Qu Q w e q k=>
 ha.h A ι σ H ρ M _ _ w e q λx M1 a7 v1 H1 l1 w1 r1 zz=>by
  obtain⟨b,eb,q1⟩:=zz;obtain⟨t,h1,h2⟩:=q2W I w1 r1 eb;exact⟨v1,c.name,t,b,rfl,h1,h2,k _ M1 a7 _ H1 l1 w1 (.p (.bl _)) q1⟩⟩
theorem xS:uIsV C c ua ρ M Q=ua ρ M λx M1=>∃b,isV C M1 x c=some b/\Q (.p (.bl b)) M1:=rfl
noncomputable def q4H(Ξ:PySem.W.Frag)(tx:TX)(f:Str):TX:=λσ H Q E=>tx σ H (λx H1=>∃a C dx fs v,x=.ref a/\H1 a=some (.ins C dx fs)/\Cls Ξ C/\NoAttr Ξ C f/\fs.lookup f=some v/\Q v H1) E
theorem q1K(he:QXe X e tx)(hb:attributeBase e f X.env (eval e X.env)=eval e X.env:=by rfl):QXe X (.Attribute e f pos) (q4H X.K tx f):=⟨λa5 s σ H Q E c I h=>by
 refine VT hb (thn (he.h a5 s σ H _ E c I h) λu s1 zz=>?_);obtain⟨x,H1,I1,rx,a,C,dx,fs,v,ex,ea,c',n,l,q⟩:=zz;subst ex;obtain rfl:u=Value.ref a:=rx;exact Qy I1 ea c' n l λu' s2 I2 ru=>⟨v,H1,I2,ru,q⟩⟩
noncomputable def q63(tx:TX)(g:TG)(mg:Str->Option Value):TS:=λD σ H=>tx σ H (λx H1=>g x σ H1 D.nx) (EX mg D σ)
theorem q1X(he:QXe X e tx)(hg:QG X.nox tg g)(hs:swapsWithSole [tg] e pos.line X.env=pure false:=by rfl)(hw:swappedStores [tg] e X.env=pure none:=by rfl)(h1:(assignEach [tg] X.env).map (·.2)=[assign tg X.env]:=by rfl):
  QX r X (.Assign [tg] e pos) (q63 tx g X.mg):=⟨λa5 s σ H D k I h=>by
 refine wpAny_Assign_stores (thn (he.h a5 s σ H _ _ (k.1 σ) I h) λv s1 ⟨x,H1,I1,r1,q1⟩=>?_) hs hw;rw[h1];refine GW (hg.h a5 s1 σ H1 x v _ (I1.wish _) r1 q1) (λ_ s2 ⟨ah,H',I2,q⟩=>⟨ah,H',I2.unwish,q⟩) λ_a _a z=>False.elim z⟩
noncomputable def jO(Ξ:PySem.W.Frag)(ux:UXe)(f:Str):UXe:=λρ M Q X=>ux ρ M (λx M1=>FldS Ξ f x M1 Q) X
theorem q2j(h:ZXe mg tx ux):ZXe mg (q4H Ξ tx f) (jO Ξ ux f):=⟨λA ι σ H ρ M Qu Xu Q E w e q k kx=>
 h.h A ι σ H ρ M _ Xu _ E w e q (λx M1 a7 v H1 l1 w1 r1 zz=>by
  obtain⟨kk,C,fs,u,ex,em,c,na,lk,q1⟩:=zz;subst ex;cases r1 with
  |m ek=>
  obtain⟨dx,gs,h1,h2,h3,h4⟩:=w1.obj kk _ _ ek em;obtain⟨v',hv,rv⟩:=JE h4 lk;exact⟨_,C,dx,gs,v',rfl,h1,c,na,hv,k _ M1 a7 v' H1 l1 w1 rv q1⟩) kx⟩
noncomputable def jP(ux:UXe)(ug:UG):US:=λE ρ M=>ux ρ M (λx M1=>ug x ρ M1 E.nx) λnm p M1=>E.bk (tagU nm p ρ) M1
theorem Gq(h:ZXe mg tx ux)(hg:ZG g ug):ZS (q63 tx g mg) (jP ux ug):=⟨λA ι σ H ρ M D E w e r q=>
 h.h A ι σ H ρ M _ _ _ _ w e q (λx M1 a7 v H1 l1 w1 r1 q1=>hg.h A a7 σ H1 ρ M1 v x _ _ w1 (e.le l1) r1 q1 λaH M2 ae cF H2 l2 w2 e2 q2=>r.nx ae cF H2 aH M2 (l1.trans l2) w2 e2 q2) λnm p C d M1 a7 H1 hm hp l1 w1 q1=>⟨nm,p,hm,hp,r.bk a7 _ H1 _ M1 l1 w1 (jk (e.le l1)) q1⟩⟩
theorem Jz(h:X.K=Ξ):OpR X (binaryOp .Add) (q3Q Ξ):=h▸q3n
theorem Q3(h:X.K=Ξ):SlR X (rSlT Ξ):=h▸q53
noncomputable def q6N:T->T->(T->Prop)->Prop:=λa b Q=>∃xs ys,a=.tup xs/\b=.tup ys/\xs≠[]/\ys≠[]/\xs.length+ys.length<=sizeLine/\Q (.tup (xs++ys))
theorem Jv:OpL (q3Q Ξ) q6N:=λA ι H M x y a b Qs Q w r1 r2 ⟨xs,ys,ea,eb,nx,ny,hz,q⟩ k=>by
 subst ea eb;obtain⟨p,vs,rfl,h1,q1⟩:=r1.tup_inv;obtain⟨p2,cb,rfl,h2,q2⟩:=r2.tup_inv;have l1:=q1.len;have l2:=q2.len;refine⟨p,p2,vs,cb,rfl,rfl,SqT.of h1,SqT.of h2,λz=>nx (D6.mp (by rw[<-l1,z];rfl)),by rw[l1,l2];exact hz,λz=>absurd (D6.mp (by rw[<-l2,z];rfl)) ny,λ_a p hp=>k _ ι _ _ (.fresh hp) (w.fresh hp) (ja w hp (q1.app q2)) q⟩
noncomputable def SlTS(M:MM)(x:U)(l h:Option Int)(Q:UK):Prop:=∃ts,sn M x=some (.tup ts)/\¬(HT.sIx ts.length 0 l=0/\HT.sIx ts.length ts.length h=ts.length)/\Q (.p (.tup (cutT ts l h))) M
noncomputable def uSlT(ua:UE)(ul uh:UO):UE:=λρ M Q=>ua ρ M λx M1=>ul ρ M1 λl M2=>uh ρ M2 λh M3=>SlTS M3 x l h Q
theorem q5E(ha:ZE ta ua)(h1:ZO t1 u1)(h2:ZO t2 u2):ZE (tSl (rSlT Ξ) ta t1 t2) (uSlT ua u1 u2):=⟨λA ι σ H ρ M Qu Q w e q k=>
 ha.h A ι σ H ρ M _ _ w e q λx M1 a7 v H1 l1 w1 r1 q1=>h1.h A a7 σ H1 ρ M1 _ _ w1 (e.le l1) q1 λl M2 ae H2 l2 w2 q2=>h2.h A ae σ H2 ρ M2 _ _ w2 ((e.le l1).le l2) q2 λh M3 cP H3 l3 w3 zz=>by
  obtain⟨ts,es,nw,q3⟩:=zz;obtain⟨p,vs,rfl,hv,hr⟩:=(((r1.le l2).le l3).sn w3 es).tup_inv;have lv:=hr.len;refine⟨p,vs,rfl,SqT.of hv,by rw[lv];exact nw,λa hp=>?_⟩;exact k _ M3 cP _ _ (((l1.trans l2).trans l3).trans (.fresh hp)) (w3.fresh hp) (.p (ja w3 hp (Gj hr))) q3⟩
theorem xt:uSlT ua u1 u2 ρ M Q=ua ρ M λx M1=>u1 ρ M1 λl M2=>u2 ρ M2 λh M3=>SlTS M3 x l h Q:=rfl
noncomputable abbrev Cx.named(X:Cx)(a:Addr)(oe:Obj):Cx:={ X.caught a with pn:=X.pn++[(a,oe)] }
structure q4Q(C:Addr)(d:Option Addr)(oe:Obj):Prop where
 c:oe.cls=.ref C
 d:oe.dict=d
 v:∃vs,oe.data=.fields vs/\vs[2]?=some .none
noncomputable def tAsG(i:Nat)(tb:Addr->Option Addr->TS)(q:Option Int):TS:=λD σ H=>∀a d,PartIs d H q->tb a d { D with nx:=λah H'=>D.nx (ah.set i none) H',bk:=λ_a _a=>False,ct:=λah H'=>D.ct (ah.set i none) H' } (σ.set i (some (.ref a))) H
theorem q5W(Y:Body X outer)(hm:X.mg x=some cX)(he:W.exmOne X.K (.ref C) cX=some true)(hN:X.N.Nodup)(hi:X.N[i]?=some e)(dQ:X.env.scope.names.lookup e=some .local)(hb:∀a d oe,q4Q C d oe->QSs (X.named a oe) (b0::suite) (tb a d))(hg:Gl X x:=by rfl)(bb:(x==("__debug__" : Str))=false:=by decide):
  QH X (.ExceptHandler (some (.Name x p)) (some e) (b0::suite) pos::hs) (.ref C) q (tAsG i tb q):=⟨λa5 σ H1 s1 d H' s a D I F hq h=>by
 have J:=F.inv I;refine Um (Ug (vV (X:=X.caught a) (J.caught a) hg hm ?_ bb)) (by intro q;cases q);refine Ru J.kIn F.ty he _ _ _ s (λ_a _a z=>z) ?_;show codeAny _ _ _ _ s;refine Uz ?_;obtain⟨B,a0,fl,st⟩:=F.step;refine GW (DK.any (vX _ _) (lands_againW fl (Q:=λ_a s2=>(Heap.FlyingW B X.stack a (.ref C) a0 s2.heap/\s.heap.UpToSlots s2.heap)/\∃h',s2={ s with heap:=h' }) (E:=λ_a _a=>False) λh' x1 x4=>⟨⟨x1,x4⟩,h',rfl⟩)) (λ_a s2 z=>?_) λ_a _a q=>q.1.elim;obtain⟨⟨⟨fq,up⟩,h',rfl⟩,kd⟩:=z;have F2:=st h' fq up kd;obtain⟨n1,n2,oe,vs,lF,g8,lG,fu,h2⟩:=F2.new;have J2:=F2.pinned Y I lF fu;refine GW (E:=λ_a _a=>False) (vE J2 hN hi (.inl dQ) (v:=.ref a) (u:=.ref a) rfl (Q:=λ_a s3=>Inv X (a5++[(a,oe)]) (σ.set i (some (.ref a))) H' s3) (λs3 I3=>I3) (.inr dQ)) (λ_a s3 I3=>?_) λ_a _a z=>z.elim;have I4:=I3.caught a;have I5:Inv (X.named a oe) a5 (σ.set i (some (.ref a))) H' s3:=⟨⟨I4.ok.mod,I4.ok.kind,I4.ok.glob,I4.ok.blt,I4.ok.above,I4.ok.inj,I4.ok.has,I4.ok.cab,I4.ok.hd,I4.ok.frames,I4.ok.stk,I4.ok.exf,I4.ok.bs,I4.ok.bsz,I4.ok.noex,I4.ok.exfs,I4.ok.funs,I4.ok.frf⟩,I4.os,I4.bare,I4.base,I4.loc,I4.cell,I4.free,I4.freeC,λp hp=>I4.pin p (by
  rcases U4.mp hp with z|z
  ·rcases U4.mp z with z|z
   ·exact Df _ z
   ·exact Dd _ (Dd _ z)
  ·exact Dd _ (Df _ z)),I4.hok,I4.len⟩
 have back:∀{ah H2 s4},Inv (X.named a oe) a5 ah H2 s4->Inv X a5 ah H2 s4:=λI6=>⟨I.ok,I6.os,I6.bare,I6.base,I6.loc,I6.cell,I6.free,I6.freeC,λp hp=>I6.pin p (by
  rcases U4.mp hp with z|z
  ·exact Df _ (Df _ z)
  ·exact Dd _ z),I6.hok,I6.len⟩
 refine GW ((hb a d oe ⟨g8,lG,vs,fu,h2⟩).h a5 s3 _ H' _ I5 (h a d hq)) (λf s4 z=>?_) λ_a _a z=>z.elim;cases f with
 |next=>
  obtain⟨ah,H2,I6,q⟩:=z;show wpAny _ _ _ _ _ _;exact xX (back I6) hN hi dQ λs9 I9=>⟨_,H2,I9,q⟩
 |cont=>
  obtain⟨ah,H2,I6,q⟩:=z;show wpAny _ _ _ _ _ _;exact xX (back I6) hN hi dQ λs9 I9=>⟨_,H2,I9,q⟩
 |brk=>
  obtain⟨ah,H2,I6,q⟩:=z;exact q.elim
 |ret u=>
  obtain⟨v,ah,H2,I6,r,q⟩:=z;show wpAny _ _ _ _ _ _;exact xX (back I6) hN hi dQ λs9 I9=>⟨v,_,H2,I9,r,q⟩⟩
noncomputable def q28(a:Addr)(d:Option Addr)(ta:TE):TE:=λσ H Q=>ta σ H λv H1=>v=.ref a/\∃n x0,d=some x0/\H1 x0=some (.xd [("part",.int n)])/\Q (.int n) H1
theorem q2E(ck:ExcK X.K C g)(na:NoAttr X.K C "part")(ob:q4Q C d oe)(hp:(a,oe)∈X.pn)(ho:QE X o ta)(ft:attributeBase o "part" X.env (eval o X.env)=eval o X.env:=by rfl):QE X (.Attribute o "part" pos) (q28 a d ta):=⟨λa5 s σ H Q I h=>by
 refine VT ft (thn (ho.h a5 s σ H _ I h) λu s1 zz=>?_);obtain⟨v,H1,I1,r,ev,n,x0,ed,gG,q⟩:=zz;subst ev;obtain rfl:u=Value.ref a:=r;obtain⟨mA,cL,fv⟩:=I1.hok x0 _ gG;obtain⟨od,gM,lH⟩:=kP cL;have fw:=(I1.pin (a,oe) (Df _ hp)).1;have hv:∃t,mA "part" = some (.int n t):=by
  have:=fv "part";obtain⟨u,hu,t,rfl⟩:=RelO.some_of (v:=.int n) (o:=mA "part") (by simpa using this);exact⟨t,hu⟩
 obtain⟨tn,hv⟩:=hv;obtain⟨vs,fu,_⟩:=ob.v;refine W.getX_value (v:=.int n tn) (C:=C) (od:=some od) I1.kIn ⟨fw,ob.c,by unfold W.notCls;rw[fu],by rw[ob.d,ed];exact gM⟩ ck.ga ck.gt ck.mr ?_ rfl ?_
 ·exact Rp ck.hd na rfl (by rw[lH,hv])
 ·exact⟨.int n,H1,I1.tok _,⟨_,rfl⟩,q⟩⟩
theorem Wd.not_xd(w:Wd A ι H M)(h:a∈ι):H a≠some (.xd fs):=λz=>by
 obtain⟨k,e⟩:=Rk h;obtain⟨o,_,r⟩:=w.al e;cases o with
 |lst=>obtain⟨vs,e,_⟩:=r;rw[z]at e;cases e
 |tup=>obtain⟨vs,e,_⟩:=r;rw[z]at e;cases e
 |ins=>obtain⟨_,_,e,_⟩:=r;rw[z]at e;cases e
 |dK=>obtain⟨_,e,_⟩:=r;rw[z]at e;cases e
 |dF=>obtain⟨e,_⟩:=r;rw[z]at e;cases e
 |tab=>obtain⟨_,e,_⟩:=r;rw[z]at e;cases e
theorem PartIs.x(w:Wd A ι H M)(h:PartIs d H q):PartX ι H d q:=by
 cases q with
 |none=>exact h
 |some n=>
  obtain⟨x0,e,hx⟩:=h;exact⟨x0,e,λz=>w.not_xd z hx,hx⟩
noncomputable def q1S(a:Addr)(d:Option Addr)(ua:UE):UE:=λρ M Q=>ua ρ M λx M1=>∃n,x=.x a d (some n)/\n<1000000/\Q (.p (.int n)) M1
theorem q48(ha:ZE ta ua):ZE (q28 a d ta) (q1S a d ua):=⟨λA ι σ H ρ M Qu Q w e q k=>
 ha.h A ι σ H ρ M _ _ w e q λx M1 a7 v H1 l1 w1 r1 zz=>by
  obtain⟨n,ex,lE,q1⟩:=zz;subst ex;cases r1 with
  |x h=>
   obtain⟨x0,ed,ni,hx⟩:=h;rw[QR lE]at hx;exact⟨rfl,n,x0,ed,hx,k _ M1 a7 _ H1 l1 w1 (.p (.int _)) q1⟩⟩
theorem q12:q1S a d ua ρ M Q=ua ρ M λx M1=>∃n,x=.x a d (some n)/\n<1000000/\Q (.p (.int n)) M1:=rfl
noncomputable def uAsG(i:Nat)(ub:Addr->Option Addr->US)(q:Option Int):US:=λE ρ M=>∀a d,ub a d { E with nx:=λaP M'=>E.nx (aP.set i none) M',bk:=λ_a _a=>False,ct:=λaP M'=>E.ct (aP.set i none) M' } (ρ.set i (some (.x a d q))) M
theorem q6b(h:∀a d,ZS (tb a d) (ub a d)):ZS (tAsG i tb q) (uAsG i ub q):=⟨λA ι σ H ρ M D E w e r z a d hp=>by
 have gS:∀{a7:List Addr}{cv:St}{H1:Hp}{dm:UEnv},EnvR A a7 H1 cv dm->EnvR A a7 H1 (cv.set i none) (dm.set i none):=λe1=>Paired.put (λw z=>by cases z) i e1;exact(h a d).h A ι _ H _ M _ { E with nx:=λaP M'=>E.nx (aP.set i none) M',bk:=λ_a _a=>False,ct:=λaP M'=>E.ct (aP.set i none) M' } w (EnvR.put e i (.x (hp.x w))) ⟨λa7 cv H1 dm M1 l1 w1 e1 q1=>r.nx a7 _ H1 _ M1 l1 w1 (gS e1) q1,r.rt,λ_a _a _a _a _a _a _a _a q=>q.elim,λa7 cv H1 dm M1 l1 w1 e1 q1=>r.ct a7 _ H1 _ M1 l1 w1 (gS e1) q1⟩ (z a d)⟩
theorem Wd.ext(w:Wd A ι H M)(h:∀x o,H x=some o->H' x=some o):Wd A ι H' M:=by
 have l:Le ι H ι H':=⟨⟨[],by simp,by simp⟩,λx o e _a=>h x o e,λx e=>by
  cases q:H x with
  |none=>exact absurd q e
  |some o=>rw[h x o q];simp⟩
 refine⟨w.nd,w.len,λx hx=>l.al x (w.dom x hx),w.na,λk a o e1 e2=>?_⟩;have r:=w.obj k a o e1 e2;obtain⟨q,hq⟩:=r.some;exact r.le' l (by rw[h a q hq,hq]) λx hx=>by rw[h x _ hx,hx]
noncomputable def q6K(neg:Bool)(ua ub:UE):UE:=λρ M Q=>ua ρ M λx M1=>ub ρ M1 λy M2=>∃a b,frzN 5 M2 x=some a/\frzN 5 M2 y=some b/\sEqL neg a b λt=>Q (.p t) M2
theorem Xr:q6K neg ua ub ρ M Q=ua ρ M λx M1=>ub ρ M1 λy M2=>∃a b,frzN 5 M2 x=some a/\frzN 5 M2 y=some b/\sEqL neg a b λt=>Q (.p t) M2:=rfl
theorem q5A{X:Cx}:(a,oe)∈(X.named a oe).pn:=Dd _ (U7.mpr rfl)
noncomputable def SlXS(M:MM)(x:U)(l h:Option Int)(Q:UK):Prop:=∃z,x=.p (.str z)/\z.length<=sizeLine/\Q (.p (.str (Txt.slice z l h))) M
noncomputable def uSlX(ua:UE)(ul uh:UO):UE:=λρ M Q=>ua ρ M λx M1=>ul ρ M1 λl M2=>uh ρ M2 λh M3=>SlXS M3 x l h Q
theorem YD:uSlX ua u1 u2 ρ M Q=ua ρ M λx M1=>u1 ρ M1 λl M2=>u2 ρ M2 λh M3=>SlXS M3 x l h Q:=rfl
noncomputable def rInX(neg:Bool):R2:=λx y H Q=>∃c j,x=.str ⟨#[c]⟩/\y=.str j/\Q (.bl (if neg then !decide (c∈j.cps.toList) else decide (c∈j.cps.toList))) H
theorem q5c:OpR X (compareOp .In) (rInX false):=λa5 s σ H x y v u Q I rx ry ⟨c,j,ex,ey,q⟩=>
 Y1 a5 s σ H x y v u Q I rx ry ⟨_,j,ex,ey,by rw[StrLaws.found_one];exact q⟩
noncomputable def sInX(neg:Bool):T->T->(T->Prop)->Prop:=λa b Q=>∃c j,a=.str ⟨#[c]⟩/\b=.str j/\Q (.bl (if neg then !decide (c∈j.cps.toList) else decide (c∈j.cps.toList)))
theorem q3z:OpL (rInX neg) (sInX neg):=λA ι H M x y a b Qs Q w r1 r2 ⟨c,j,ea,eb,q⟩ k=>by
 subst ea eb;cases r1.str_inv;cases r2.str_inv;exact⟨c,j,rfl,rfl,k _ ι _ H (.refl _ _) w (.bl _) q⟩
noncomputable def q6O:List T->(T->Prop)->Prop:=λts Q=>∃z,ts=[.str z]/\z.length<=sizeLine/\Q (.int z.length)
noncomputable def Z4(xs:List Str):List V:=xs.map V.str
noncomputable def BmS(s:Str->List T->(T->Prop)->Prop)(ul:UA)(ρ:UEnv)(M:MM)(x:U)(Q:UK):Prop:=∃y,x=.p (.str y)/\ul ρ M λus M2=>∃ts,sns M2 us=some ts/\s y ts λt=>Q (.p t) M2
noncomputable def uBm(s:Str->List T->(T->Prop)->Prop)(uo:UE)(ul:UA):UE:=λρ M Q=>uo ρ M λx M1=>BmS s ul ρ M1 x Q
theorem q6Y:uBm s uo ul ρ M Q=uo ρ M λx M1=>BmS s ul ρ M1 x Q:=rfl
noncomputable def q3I:Str->List T->(T->Prop)->Prop:=λy ts Q=>∃z,ts=[.str z]/\Q (.bl (Txt.startswith y z))
theorem YI:sInX neg (.str ⟨#[c]⟩) (.str j) Q=Q (.bl (if neg then !decide (c∈j.cps.toList) else decide (c∈j.cps.toList))):=propext ⟨λzz=>by obtain⟨_,_,e,e2,h⟩:=zz;cases e;cases e2;exact h,λh=>⟨c,j,rfl,rfl,h⟩⟩
theorem Xq:q6O [.str z] Q=(z.length<=sizeLine/\Q (.int z.length)):=propext ⟨λzz=>by obtain⟨_,e,h⟩:=zz;cases e;exact h,λh=>⟨z,rfl,h⟩⟩
theorem kA:q3I y [.str z] Q=Q (.bl (Txt.startswith y z)):=propext ⟨λzz=>by obtain⟨_,e,h⟩:=zz;cases e;exact h,λh=>⟨z,rfl,h⟩⟩
theorem YK:BmS s ul ρ M (.p (.str y)) Q=ul ρ M λus M2=>SnsS M2 us λts=>s y ts λt=>Q (.p t) M2:=propext ⟨λzz=>by obtain⟨_,e,h⟩:=zz;cases e;exact h,λh=>⟨y,rfl,h⟩⟩
theorem Xp:SlXS M (.p (.str z)) l h Q=(z.length<=sizeLine/\Q (.p (.str (Txt.slice z l h))) M):=propext ⟨λzz=>by obtain⟨_,e,h⟩:=zz;cases e;exact h,λh=>⟨z,rfl,h⟩⟩
noncomputable def Its(x:Str):It:=⟨λi _a=>i<x.cps.size,λi H v H'=>H'=H/\∃c,x.cps.toList[i]?=some c/\v=.str ⟨#[c]⟩,λi _a=>x.cps.size<=i⟩
theorem q0a(fZ:ty = "str_ascii_iterator" \/ ty = "str_iterator"):Turn P w Ξ tg (Its x) [it] it (λi h=>h.IsStrIter it ty x t i) where
 mem:=by simp
 obj:=λi h st b hb=>by
  have e:b=it:=by simpa using hb
  subst e;obtain⟨o,e,c,d⟩:=st;exact⟨o,e,λv z=>by rw[d]at z;cases z⟩
 keep:=λi h h' st k=>by
  obtain⟨o,e,c,d⟩:=st;exact⟨o,k it (by simp) o e,c,d⟩
 item:=by
  intro X hP hw hK hc i a5 s σ H E I hf st hg;subst hP hw hK;have hi:i<x.cps.size:=hg;have hx:x.cps[i]?=some x.cps[i]:=by simp[hi]
  obtain⟨f0,f1,f2,f3,f4,f5⟩:=hf it (by simp);have fin:∀h',h'.IsStrIter it ty x t (i+1)->Heap.SameBut it s.heap h'->∃u,some (Value.str ⟨#[x.cps[i]]⟩ s.toks)=some u/\wpAny (model X.prog X.w) X.A (letOwnedTupleGo tg (.ref it) u) (λ_a s2=>∃y H',Inv X a5 σ H' s2/\RelV y u/\(Its x).yld i H y H'/\s2.heap.IsStrIter it ty x t (i+1)/\∀b∈[it],H' b=none) E { s with heap:=h',toks:=s.toks+1 }:=λh' cI sb=>by
   have I1:Inv X a5 σ H { s with heap:=h',toks:=s.toks+1 }:=I.turned (t':=s.toks+1) (λb o hb e=>(sb.2 b hb).trans e) f0 f1 f3 f4 f5;obtain⟨o,e,c,d⟩:=id cI;exact⟨_,rfl,q3o (s:={ s with heap:=h',toks:=s.toks+1 }) e c d (by rcases fZ with rfl|rfl<;>decide) ⟨.str ⟨#[x.cps[i]]⟩,H,I1,⟨_,rfl⟩,⟨rfl,_,by simp[hi],rfl⟩,cI,λb hb=>(hf b hb).1⟩⟩
  rcases fZ with rfl|rfl
  ·exact wpAny_pyNext_ascii_item st hx fin
  ·exact wpAny_pyNext_wide_item st hx fin
 done:=by
  intro X hP hw hK hc i a5 s σ H E I hf st hg;subst hP hw hK;have hi:x.cps.size<=i:=hg;have hx:x.cps[i]?=none:=by simp[hi]
  obtain⟨f0,f1,f2,f3,f4,f5⟩:=hf it (by simp);rcases fZ with rfl|rfl
  ·exact wpAny_pyNext_ascii_end (I.ok.hd hc) st hx λh' eb=>⟨rfl,I.turned (t':=s.toks) (λb o hb e=>eb b o hb e) f0 f1 f3 f4 f5⟩
  ·exact wpAny_pyNext_wide_end (I.ok.hd hc) st hx λh' eb=>⟨rfl,I.turned (t':=s.toks) (λb o hb e=>eb b o hb e) f0 f1 f3 f4 f5⟩
 self:=λ_a _a _a _a _a st h=>by
  rcases fZ with rfl|rfl
  ·exact wpAny_pyIter_striter_ascii st h
  ·exact wpAny_pyIter_striter_wide st h
noncomputable def iStr(tl:TE):TI:=λσ H R=>tl σ H λx H1=>∃z,x=.str z/\R (Its z) H1
theorem q5Y(hl:QE X l tl):QI X tg l (iStr tl):=⟨by
 intro a5 s σ H R I h;refine thn (hl.h a5 s σ H _ I h) λv s1 zz=>?_;obtain⟨x,H1,I1,r1,q1⟩:=zz;obtain⟨z,e,q⟩:=q1;subst e;obtain⟨t,rfl⟩:=r1;refine wpAny_pyIter_strU ?_;refine⟨s1.heap.objs.size, [s1.heap.objs.size],_,_,H1,rfl,I1.kept (t':=s1.toks) λb o e=>Heap.get?_push_of_some _ e,q0a (x:=z) (t:=t) (ty:=strIterType z) (by unfold strIterType;split<;>simp),⟨_,Heap.get?_push_size _ rfl,rfl,rfl⟩,λb hb=>?_,q⟩;have e:b=s1.heap.objs.size:=by simpa using hb
 subst e;exact I1.fpOk (UZ _) (I1.hok.fresh (UZ _))⟩
noncomputable def itX(z:Str):UIt:=⟨z.cps.size,λ_a=>True,λi u=>∃c,z.cps.toList[i]?=some c/\u=.p (.str ⟨#[c]⟩)⟩
noncomputable def ItXS(x:U)(M:MM)(Q:UIt->MM->Prop):Prop:=∃z,x=.p (.str z)/\Q (itX z) M
noncomputable def Yc(ua:UE):UI:=λρ M Q=>ua ρ M λx M1=>ItXS x M1 Q
theorem q5x(ha:ZE ta ua):ZI (iStr ta) (Yc ua):=⟨λA ι σ H ρ M Qu R w e q k=>
 ha.h A ι σ H ρ M _ _ w e q λx M1 a7 v H1 l1 w1 r1 zz=>by
  obtain⟨z,ex,q1⟩:=zz;subst ex;cases r1 with
  |p r=>
  cases r;refine⟨z,rfl,k _ M1 a7 _ H1 l1 w1 ?_ q1⟩;intro A' ae H2 M2 i l w2 _;refine⟨λhi=>⟨hi,λx H' y=>?_⟩,λhi=>Rx hi.symm⟩;obtain⟨rfl,c,hc,rfl⟩:=y;exact⟨_,⟨c,hc,rfl⟩,.refl _ _,w2,.p (.str _)⟩⟩
theorem Vk:Yc ua ρ M Q=ua ρ M λx M1=>ItXS x M1 Q:=rfl
theorem YH:ItXS (.p (.str z)) M Q=Q (itX z) M:=propext ⟨λzz=>by obtain⟨_,e,h⟩:=zz;cases e;exact h,λh=>⟨z,rfl,h⟩⟩
theorem K3(hz:z.cps.size<=sizeLine)(Iv:Nat->List T->MM->Prop)(h0:Iv 0 [] M)(hs:∀(i c:Nat) a9 M2,z.cps.toList[i]?=some c->a9.length<=i->Iv i a9 M2->ug (.p (.str ⟨#[c]⟩)) e8 M2 λc7 M4=>ut c7 M4 λb M5=>if b=true then ue c7 M5 λz M6=>∃t,z=.p t/\Iv (i+1) (a9++[t]) M6 else Iv (i+1) a9 M5)(hd:∀a9 M2,Iv z.cps.size a9 M2->Q (.p (.lst a9)) M2):q1i (itX z) ug ut ue e8 M Q :=
 ⟨hz,Iv,h0,λi a9 M2 hi ha h=>⟨trivial,λu hu=>by
  obtain⟨c,hc,rfl⟩:=hu;exact hs i c a9 M2 hc ha h⟩,λa9 M2 h=>⟨trivial,hd a9 M2 h⟩⟩
mutual
noncomputable def toD:T->PyData
 |.non=>.none
 |.bl b=>.bool b
 |.int i=>.int i
 |.str x=>.str x
 |.tup xs=>.tuple (toDs xs)
 |.lst xs=>.list (toDs xs)
noncomputable def toDs:List T->List PyData
 | []=>[]
 |x::xs=>toD x::toDs xs
end
mutual
theorem noD:∀t:T,(toD t).hasDict=false
 |.non=>rfl
 |.bl _=>rfl
 |.int _=>rfl
 |.str _=>rfl
 |.tup xs=>noDs xs
 |.lst xs=>noDs xs
theorem noDs:∀ts:List T,PyData.hasDictAll (toDs ts)=false
 | []=>rfl
 |x::xs=>by show((toD x).hasDict||PyData.hasDictAll (toDs xs))=false;rw[noD x,noDs xs];rfl
end
theorem zW{h:Heap}:∀{vs:List V}{ts:List T}{us:List Value},Vals vs us->vs.length=ts.length->(∀(i:Nat) v t,vs[i]?=some v->ts[i]?=some t->∀u,RelV v u->∃as,Reads h u (toD t) as)->∃as,ReadsAll h us (toDs ts) as
 | [], [],_,.nil,_,_=>⟨_,.nil⟩
 |v::vs,t::ts,_,.cons r q,hl,ih=>by
  obtain⟨as,h1⟩:=ih 0 v t rfl rfl _ r;obtain⟨bs,h2⟩:=zW q (by simpa using hl) λi v t e1 e2=>ih (i+1) v t (by simpa using e1) (by simpa using e2);exact⟨_,.cons h1 h2⟩
structure q7F(t:T):Prop where
 sh:(toD t).showable=true
 dp:(toD t).depth<=60
 sz:(toD t).shown.length<=sizeLine
theorem Le.pushed{H H':Hp}{ι ai:List Addr}{p:Addr}(l:Le ι H ai H')(h:H p=none)(_:p∉ai):Le ι H (ai++[p]) H':=by
 obtain⟨m,rfl,hm⟩:=l.ext;refine⟨⟨m++[p],by rw[Db],λx hx=>?_⟩,l.fr,l.al⟩;rcases U4.mp hx with z|z
 ·exact hm x z
 ·rw[U7.mp z];exact h
noncomputable def LiN(us:List U)(M:MM)(Q:UK):Prop:=∃x ys,us=[x]/\(qI M x=some ys\/vo M x=some ys)/\Q (.m M.length) (M++[.lst ys])
noncomputable def xO(ul:UA):UE:=λρ M Q=>ul ρ M λus M1=>LiN us M1 Q
theorem J5(ha:ZA n tl ul):ZE (tCB (λxs H Q=>∃p ys,xs=[.ref p]/\(SqL Ξ H p ys\/SqT Ξ H p ys)/\∀l,H l=none->Q (.ref l) (upd H l (.lst ys))) tl) (xO ul):=⟨λA ι σ H ρ M Qu Q w e q k=>
 ha.h A ι σ H ρ M _ _ w e q λus M1 a7 vs H1 l1 w1 hn r1 zz=>by
  obtain⟨x,ys,eu,hy,q1⟩:=zz;subst eu;cases r1 with
  |cons r q'=>
  cases q';rcases hy with hy|hy
  ·obtain⟨p,zs,rfl,h1,h2⟩:=zq w1 r hy
   exact⟨p,zs,rfl,.inl (SqL.of h1),λl hl=>k _ _ _ _ _ (l1.trans (.push hl)) (xI w1 hl h2).1 (xI w1 hl h2).2 q1⟩
  ·obtain⟨p,zs,rfl,h1,h2⟩:=zp w1 r hy
   exact⟨p,zs,rfl,.inr (SqT.of h1),λl hl=>k _ _ _ _ _ (l1.trans (.push hl)) (xI w1 hl h2).1 (xI w1 hl h2).2 q1⟩⟩
noncomputable def xP(G:List T->(T->Prop)->Prop)(ul:UA):UE:=λρ M Q=>ul ρ M λus M1=>∃ts,frzs (frzN 6 M1) us=some ts/\G ts λt=>(∃x,vt t=some x)/\Q (.p t) M1
theorem J7(ha:ZA n tl ul):ZE (zG (spP G) [] E tl) (xP G ul):=⟨λA ι σ H ρ M Qu Q w e q k=>
 ha.h A ι σ H ρ M _ _ w e q λus M1 a7 vs H1 l1 w1 hn r1 zz=>by
  obtain⟨ts,et,q1⟩:=zz;rw[Dl];refine⟨A,ts,_,w1.dom,VE r1 (λv u t r e=>VF w1 r e) et,q1,λt v H2 s r2 ⟨⟨x,hx⟩,q2⟩=>k _ M1 a7 v H2 (l1.trans s.le) (w1.same s) (.p ?_) q2⟩;cases(RepV.of r2).sc (y:=.non) hx;exact(j9 hx).rep⟩
noncomputable def Me0S(s:List U->List U->(U->List U->Prop)->Prop)(o:U)(M:MM)(Q:UK):Prop:=∃k us,o=.m k/\M[k]?=some (.lst us)/\s us [] λz cq=>Q z (M.set k (.lst cq))
noncomputable def uMe0(s:List U->List U->(U->List U->Prop)->Prop)(uo:UE):UE:=λρ M Q=>uo ρ M λo M1=>Me0S s o M1 Q
noncomputable def q6P(neg:Bool)(ua ub:UE):UE:=λρ M Q=>ua ρ M λx M1=>ub ρ M1 λy M2=>∃a b,frzN 6 M2 x=some a/\frzN 6 M2 y=some b/\q4m neg a b λt=>Q (.p t) M2
theorem V8:∀zs:List Str,RepTs A H (Z4 zs) (zs.map T.str)
 | []=>.nil
 |z::zs=>.cons (.str z) (V8 zs)
theorem FnOk.calm(F:FnOk P w Ξ mg base (CXe P w) k f fd ps (spX mg G))(h:∀ts Qt,G' ts Qt->G (ts.map U.p) [] (λu _a=>∃t,u=.p t/\Qt t) λ_a _a _a=>False):FnOk P w Ξ mg base CX0 k f fd ps (spP G'):=by
 have key:∀vs H Q E,spP G' vs H Q E->spX mg G vs H Q E0:=λvs H Q E zz=>by
  obtain⟨A,ts,Qt,hd,r,g,kk⟩:=zz;have w0:Wd A [] H []:=⟨List.nodup_nil,rfl,hd,λx hx=>by simp at hx,λk a o e _a=>by simp at e⟩;have r0:RepUs A [] H vs (ts.map U.p):=RepTs.ups (Paired.mapP r λ_a _a q=>q.mono λx o hx ex=>⟨ex,λz=>z.elim hx (by simp)⟩);refine⟨A, [], [],_,_,_,w0,r0,h ts Qt g,λu M' ai v H' l w' r' ⟨t,eu,q⟩=>?_,λ_a _a _a _a _a _a _a _a _a _a _a z=>z⟩;subst eu;cases r' with
  |p r'=>exact kk t v H' (λb o e=>l.fr b o e (by simp)) (r'.mono λx o hx ex=>⟨ex,λz=>hx (.inl z)⟩) q
 exact⟨λvs H Q E z=>F.len vs H Q E0 (key vs H Q E z),λA outer s H args us vs Q E hr he hb hv hs=>Uo (F.run A outer s H args us vs Q E0 hr he hb hv (key vs H Q E hs)) λr s' q=>by
  cases r with
  |error e=>obtain⟨_,_,_,_,_,_,z⟩:=(show CXe P w outer H s E0 e s' from q);exact z.elim
  |ok fl=>cases fl<;>exact q⟩
noncomputable def ItB(b:Bool)(h:Heap)(it a:Addr)(i:Nat):Prop:=match b with
 |true=>h.IsListIter it a i
 |false=>h.IsTupleIter it a i
theorem ItB.ex(x:ItB b h it a i):∃o vs,h.get? it=some o/\o.data=.fields vs:=by
 cases b
 ·obtain⟨o,e,_,d⟩:=(show h.IsTupleIter it a i from x);exact⟨o,_,e,d⟩
 ·obtain⟨o,e,_,d⟩:=(show h.IsListIter it a i from x);exact⟨o,_,e,d⟩
theorem ItB.at(x:ItB b h it a i)(k:∀o,h.get? it=some o->h'.get? it=some o):ItB b h' it a i:=by
 cases b
 ·obtain⟨o,e,r⟩:=(show h.IsTupleIter it a i from x);exact⟨o,k o e,r⟩
 ·obtain⟨o,e,r⟩:=(show h.IsListIter it a i from x);exact⟨o,k o e,r⟩
noncomputable def q2i(b:Bool)(M:MM)(x:U):Option (List U):=match b with
 |true=>qI M x
 |false=>vo M x
noncomputable def Yb(ks:List (Str×List Str))(uy:UE):UE:=λρ M Q=>uy ρ M λy M1=>∃k ss,y=.p (.str k)/\ks.lookup k=some ss/\Q (.p (.int ss.length)) M1
noncomputable def q6V(b:Bool)(ss:List Str)(x:U)(M:MM)(Q:UIt->MM->Prop):Prop:=∃ts:List T,q2i b M x=some (ts.map U.p)/\Q ⟨min ss.length ts.length,λM=>q2i b M x=some (ts.map U.p),λi z=>∃s t,ss[i]?=some s/\ts[i]?=some t/\z=.p (.tup [.str s,t])⟩ M
noncomputable def K4(b:Bool)(ks:List (Str×List Str))(uy ub:UE):UI:=λρ M Q=>uy ρ M λy M1=>∃k ss,y=.p (.str k)/\ks.lookup k=some ss/\ub ρ M1 λx M2=>q6V b ss x M2 Q
noncomputable def uInD(ks:List Str)(ua:UE):UE:=λρ M Q=>ua ρ M λx M1=>∃k,x=.p (.str k)/\Q (.p (.bl (ks.contains k))) M1
noncomputable def q5J:List T->(T->Prop)->Prop:=λts Q=>∃xs,ts=[.lst xs]/\Q (.tup xs)
theorem GD:CbL (λxs H Q=>∃p ys,xs=[.ref p]/\((SqL Ξ H p ys/\∀l,H l=none->Q (.ref l) (upd H l (.tup ys)))\/(SqT Ξ H p ys/\Q (.ref p) H))) q5J:=λA ι H M vs ts Qs Q w r ⟨xs,e,q⟩ k=>by
 subst e;obtain⟨v,ev,r1⟩:=pv1 r;subst ev;obtain⟨p,zs,rfl,h1,h2⟩:=r1.lst_inv;exact⟨p,zs,rfl,.inl ⟨SqL.of h1,λl hl=>k _ ι _ _ (.fresh hl) (w.fresh hl) (ja w hl h2) q⟩⟩
noncomputable def DG1S(M:MM)(x:U)(ρ:UEnv)(uy:UE)(Q:UK):Prop:=∃k lP,x=.m k/\M[k]?=some (.dK lP)/\uy ρ M λy M2=>∃kvs key,M2[k]?=some (.dK kvs)/\y=keyU key/\Q ((valU kvs key).getD (.p .non)) M2
noncomputable def Ye(ud uy:UE):UE:=λρ M Q=>ud ρ M λx M1=>DG1S M1 x ρ uy Q
noncomputable def q2A:List V->Hp->VK->Prop:=λxs H Q=>∃(a:Addr)(kvs:List (Key×V))(ks:List Str),xs=[.ref a]/\H a=some (.dK kvs)/\kvs.map (·.1)=ks.map Key.inr/\∀l,H l=none->Q (.ref l) (upd H l (.lst (Z4 ks)))
theorem Kg(h:(qV P w).is (.inr k) v=true):∃t,v=.str k t:=Value.isStrOf_shape h
theorem KY(hc:X.calm=true):zJ X (.type "list") q2A:=by
 intro a5 s σ H xs us Q I r h;obtain⟨a,kvs,ks,rfl,ha,hk,q⟩:=h;obtain⟨u,rfl,rx⟩:=QU r;cases rx;obtain⟨z,lo,vs,dj,dd⟩:=q0G I.hok (.inl ha);obtain⟨ep,fD⟩:=dd.dictAt;have ar:vs.length=kvs.length:=(KV.length dj).symm;refine PySem.W.kdl_call (PySem.W.kdl_dict (knd:=qV X.prog X.w) (kvs:=vs) (ep:=ep) lo) (I.ok.hd hc) fD (by lia) λh' tk a9 c pH hD aR=>?_;have ng:vs.map (·.1)=ks.map Key.inr:=by rw[<-KV.keys dj];exact hk
 have ec:ks.length=vs.length:=by have:=G1 List.length ng;simpa using this.symm
 have hv:Vals (Z4 ks) a9.toList:=by
  refine Paired.of_get ?_ λj x u hx hu=>?_
  ·unfold Z4
   have:=aR.1;rw[UY,ec, <-this];simp
  ·obtain⟨k,y,e1,e2⟩:=aR.2 j u (by rw[<-Array.getElem?_toList];exact hu)
   have e3:(ks.map (Key.inr:Str->Key))[j]?=some k:=by rw[<-ng,Dh,e1];rfl
   unfold Z4 at hx;rw[Dh]at hx e3;cases e4:ks[j]? with
   |none=>rw[e4]at hx;cases hx
   |some z=>
    rw[e4]at hx e3;cases hx;cases e3;exact Kg e2
 refine⟨.ref s.heap.objs.size,_,I.laid (t':=tk) pH (UZ _) (show ObjOk X.prog X.w _ h' _ (.lst (Z4 ks)) from⟨?_,a9.toList,c,hv,by simpa using hD⟩),rfl,q _ (I.hok.fresh (UZ _))⟩;unfold Z4;rw[UY];lia
noncomputable def LsDS(us:List U)(M:MM)(Q:UK):Prop:=∃(k:Nat)(kvs:List (Key×U))(ks:List Str),us=[.m k]/\M[k]?=some (.dK kvs)/\kvs.map (·.1)=ks.map Key.inr/\Q (.p (.lst (ks.map T.str))) M
noncomputable def Jk(ul:UA):UE:=λρ M Q=>ul ρ M λus M1=>LsDS us M1 Q
theorem q0p(ha:ZA n tl ul):ZE (tCB q2A tl) (Jk ul):=⟨λA ι σ H ρ M Qu Q w e q k=>
 ha.h A ι σ H ρ M _ _ w e q λus M1 a7 vs H1 l1 w1 hn r1 zz=>by
  obtain⟨kk,kvs,ks,eu,em,hk,q1⟩:=zz;subst eu;cases r1 with
  |cons r q'=>
  cases q';cases r with
  |m ek=>
  obtain⟨gs,h1,h2⟩:=w1.obj kk _ _ ek em;have hg:gs.map (·.1)=kvs.map (·.1):=by
   clear h1 em hk
   induction h2 with
   |nil=>rfl
   |cons a _ ih=>rw[Di,Di,a.1,ih]
  exact⟨_,gs,ks,rfl,h1,hg.trans hk,λl hl=>k _ M1 a7 _ _ (l1.trans (.fresh hl)) (w1.fresh hl) (.p (zr w1 hl (V8 ks))) q1⟩⟩
section
variable {P:Program}{w:World}{A:Around}{E:Value->Shared->Prop}{s:Shared}{κ:Type} [DecidableEq κ]
noncomputable def q6A(P:Program)(w:World)(t:Sem Value)(x:Str):Prop:=∀(A:Around)(E:Value->Shared->Prop)(s:Shared)(Q:Value->Shared->Prop),(∀tk t',Q (.str x t') { s with toks:=tk })->wpAny (model P w) A t Q E s
inductive TextPs(P:Program)(w:World):List (Sem Value×Sem Value)->List (Str×Str)->Prop
 |nil:TextPs P w [] []
 |cons {k v:Sem Value}{x y:Str}{ps:List (Sem Value×Sem Value)}{zs:List (Str×Str)} (hk:q6A P w k x) (hv:q6A P w v y) (r:TextPs P w ps zs):TextPs P w ((k,v)::ps) ((x,y)::zs)
theorem TextPs.len(h:TextPs P w ps zs):ps.length=zs.length:=by
 induction h with
 |nil=>rfl
 |cons _ _ _ ih=>rw[U8,U8,ih]
inductive TextV:List (Key×Value)->List (Str×Str)->Prop
 |nil:TextV [] []
 |cons {x y:Str}{t:Tok}{l:List (Key×Value)}{zs:List (Str×Str)} (r:TextV l zs):TextV ((.inr x,.str y t)::l) ((x,y)::zs)
theorem TextV.keys(h:TextV l zs):l.map (·.1)=zs.map λz=>Key.inr z.1:=by
 induction h with
 |nil=>rfl
 |cons _ ih=>rw[Di,Di,ih]
theorem TextV.snoc(h:TextV l zs):TextV (l++[(.inr x,.str y t)]) (zs++[(x,y)]):=by
 induction h with
 |nil=>exact .cons .nil
 |cons _ ih=>exact .cons ih
theorem TextV.len(h:TextV l zs):l.length=zs.length:=by
 have:=G1 List.length h.keys;simpa using this
theorem Kh{l:List (κ×Value)}{k:κ}{v:Value}(h:k∉l.map (·.1)):stored l k v=l++[(k,v)]:=by
 unfold stored;rw[GZ];intro z;obtain⟨x,hx,e⟩:=List.any_eq_true.mp z;exact h (DT.mpr ⟨x,hx,UD e⟩)
theorem WA:∀{ps:List (Sem Value×Sem Value)}{zs:List (Str×Str)}{l:List (Key×Value)}{ys:List (Str×Str)}{s:Shared}{Q:PUnit->Shared->Prop},TextPs P w ps zs->TextV l ys->s.heap.DictOf (qV P w) d l->((ys++zs).map (·.1)).Nodup->ys.length+zs.length<=1000 ->
  (∀h' tk l',TextV l' (ys++zs)->h'.DictOf (qV P w) d l'->Heap.SameBut d s.heap h'->Q PUnit.unit { s with heap:=h',toks:=tk }) ->
  wpAny (model P w) A (forIn ps PUnit.unit λ(x:Sem Value×Sem Value) (_:PUnit)=>(do let kv <-x.1;let vv <-holding [kv] x.2;holding [kv,vv] (dictSet d kv vv);pure (ForInStep.yield PUnit.unit):Sem (ForInStep PUnit))) Q E s:=by
 intro ps zs l ys s Q h
 induction h generalizing l ys s with
 |nil=>
  intro hl hd _ _ q;rw[List.forIn_nil];exact GV (by simpa using q s.heap s.toks l (by simpa using hl) hd (Heap.SameBut.refl _ _))
 | @cons k v x y ps zs hk hv r ih=>
  intro hl hd hn hz q;rw[Rs];have cx:(Key.inr x:Key)∉l.map (·.1):=by
   rw[hl.keys];intro z;obtain⟨a,ha,e⟩:=DT.mp z;rw[Dq,DF]at hn;exact hn.2.2 a.1 (DT.mpr ⟨a,ha,rfl⟩) x (by simp) (Key.inr.inj e)
  have e:ys++(x,y)::zs=(ys++[(x,y)])++zs:=by simp
  rw[U8]at hz;have hll:=hl.len;refine GU (GU (hk _ _ _ _ λtk t=>GU (G3 (hv _ _ _ _ λiB t2=>GU (G3 (wpAny_dictSet_pairs (hsz:=Dk (qF (by lia))) (xJ P w x t) hd λh1 iu s1=>GV ?_))))));rw[Kh cx]at iu;refine ih (ys:=ys++[(x,y)]) hl.snoc iu (by rw[<-e];exact hn) (by simp;lia) λh' pI l' a b c=>?_;exact q h' pI l' (by rw[e];exact a) b (s1.trans c)
theorem q16(h:TextPs P w ps zs)(iq:15<ps.length)(hn:(zs.map (·.1)).Nodup)(hz:zs.length<=1000)(q:∀h' tk l',TextV l' zs->h'.DictOf (qV P w) s.heap.objs.size l'->(∀c o,s.heap.get? c=some o->h'.get? c=some o)->h'.objs.size=s.heap.objs.size+1->Q s.heap.objs.size { s with heap:=h',toks:=tk }):wpAny (model P w) A (subDict ps) Q E s:=by
 unfold subDict;refine GU (wpAny_alloc (GU (G3 ?_)));rw[GZ (by lia)];refine GU (UP ?_);refine GU (WA (ys:=[]) (l:=[]) h .nil (Heap.DictOf.new _) (by simpa using hn) (by simpa using hz) λh' tk l' a b c=>GV (GV ?_));have a':TextV l' zs:=by simpa using a
 refine q h' tk l' a' b (λx o e=>c.extBut _ _ (De (Heap.lt_size e)) (Heap.get?_push_of_some _ e)) ?_;rw[c.1,Heap.size_push]
end
section
variable {P:Program}{w:World}{A:Around}{E:Value->Shared->Prop}{s:Shared}{κ:Type} [DecidableEq κ] {knd:KeyKind P w κ}
theorem q3Z{d:Addr}{l:List (κ×Value)}{k:κ}{key v:Value}{Q:Unit->Shared->Prop}(hkey:knd.is k key=true)(hm:s.heap.DictOf knd d l)(cx:k∉l.map (·.1))(hz:l.length<=sizeLine)(q:∀h',h'.DictOf knd d (l++[(k,v)])->Heap.SameBut d s.heap h'->Q () { s with heap:=h' }):wpAny (model P w) A (dictPut d (knd.hash k) key v) Q E s:=by
 obtain⟨o,es,ep,ho,hc,hd,hk,hp,hn⟩:=hm;have ar:es.size=l.length:=by have:=hp.length;simpa using this
 have hf:(es.findIdx? λe=>knd.is k e.key)=none:=by
  have h1:(es.findIdx? λe=>knd.is k e.key)=l.findIdx? λkv=>decide (kv.1=k):=by
   rw[<-hp.findIdx k];obtain⟨a⟩:=es;simp
  rw[h1,List.findIdx?_eq_none_iff];intro x hx;exact G0 λe=>cx (DT.mpr ⟨x,hx,e⟩)
 unfold dictPut;refine GU (wpAny_dictFind_of hkey ho hd hk ?_);rw[hf];refine wpAny_updateDictKeys (hz:=by lia) ho hd (q _ ⟨_,_,ep+1,Heap.get?_update_self _ ho (Obj.isFreed_of_dict (Obj.data_mapDictKeys hd _)),hc.mapDictKeys _,Obj.data_mapDictKeys hd _,hk.push hkey _,?_,?_⟩ (Heap.SameBut.update ..))
 ·have z:=hp.append hkey (knd.hash k) v
  obtain⟨a⟩:=es;simpa using z
 ·rw[Dq,DF]
  refine⟨hn,by simp,λa ha b hb e=>?_⟩;simp only[Di,D1,U7]at hb;exact cx (by rw[<-hb, <-e];exact ha)
theorem Ww{d o:Addr}{l m:List (κ×Value)}{Q:Unit->Shared->Prop}(ne:d≠o)(lQ:(o==sysModules)=false)(hd:s.heap.DictOf knd d l)(ho:s.heap.DictOf knd o m)(h0:l≠[])(hn:((l++m).map (·.1)).Nodup)(hz:l.length+m.length<=sizeLine)(q:∀h',h'.DictOf knd d (l++m)->Heap.SameBut d s.heap h'->Q () { s with heap:=h' }):wpAny (model P w) A (mergeMapping d (.ref o) false) Q E s:=by
 obtain⟨od,nh,epd,gM,cW,gT,dS,pJ,mX⟩:=id hd;obtain⟨oo,ci,epo,lR,hco,iC,pK,nj,ij⟩:=id ho;have ar:m.length=ci.size:=by rw[<-nj.length];simp
 have gU:l.length=nh.size:=by rw[<-pJ.length];simp
 unfold mergeMapping;refine GU (wpAny_isInstance ho.typeIs isSubtype_dict_dict ?_);dsimp only;rw[G4 rfl];refine GU (Ux (name:=Str.ofString "__iter__") ho.typeIs PySem.F.slot_dict_iter.lookup ?_);show wpAny (model P w) A (if(o==sysModules)=true then _ else _) Q E s;rw[GZ (by rw[lQ];exact U6)];refine GU (UF gM gT ?_);have he:¬nh.isEmpty=true:=λz=>h0 (D6.mp (by rw[gU,Array.isEmpty_iff.mp z];rfl));rw[GZ he];refine GU (UF lR iC (GU (wpAny_dictEpoch lR iC (GU ?_))));rw[List.range_eq_range'];refine wpAny_forIn_list _ (λrest _a s'=>∃h' i,s'={ s with heap:=h' }/\rest=List.range' i (ci.size-i)/\i<=ci.size/\h'.DictOf knd d (l++m.take i)/\h'.get? o=some oo/\Heap.SameBut d s.heap h') _ ?_ ?_ _ _ ⟨s.heap,0,rfl,by simp,Du _,by simpa using hd,lR,Heap.SameBut.refl _ _⟩
 ·rintro x rest b s' ⟨h',i,rfl,hr,hi,dh,fJ,gV⟩
  have bQ:i<ci.size:=by
   rcases RT i ci.size with h|h
   ·exact h
   ·rw[Nat.sub_eq_zero_of_le h]at hr;simp at hr
  obtain⟨rfl,ca⟩:x=i/\rest=List.range' (i+1) (ci.size-(i+1)):=by
   rw[show ci.size-i=(ci.size-(i+1))+1 by lia,List.range'_succ]at hr;injection hr with h1 h2
   exact⟨h1,h2⟩
  refine GU (UF fJ iC ?_);rw[Array.getElem?_eq_getElem bQ];obtain⟨⟨k,v⟩,nq⟩:∃kv,m[x]?=some kv:=⟨m[x]'(by lia),UU _⟩;obtain⟨hkey,lS⟩:=nj.get? (e:=ci[x]) (by simp[bQ]) nq;obtain⟨k',gW,gX⟩:=pK ci[x] (Array.getElem_mem bQ);obtain rfl:k'=k:=knd.inj _ _ _ gW hkey;have htk:m.take (x+1)=m.take x++[(k',v)]:=by rw[Re,nq];rfl
  have cx:k'∉(l++m.take x).map (·.1):=by
   have h1:((l++m.take (x+1)).map (·.1)).Nodup:=hn.sublist (List.Sublist.map _ (List.Sublist.append_left (List.take_sublist _ _) _));rw[htk, <-Db,Dq,DF]at h1;exact λz=>h1.2.2 k' z k' (by simp) rfl
  have pL:(l++m.take x).length<=sizeLine:=by rw[UV,DC];lia
  show wpAny (model P w) A ((holding [ci[x].key,ci[x].val] (dictPut d ci[x].hash ci[x].key ci[x].val)) >>= _) _ E _;rw[gX,lS];refine GU (G3 (q3Z hkey dh cx pL λir lT gY=>?_));have eP:ir.get? o=some oo:=(gY.2 o (Ne.symm ne)).trans fJ;refine GU (wpAny_dictEpoch eP iC ?_);rw[GZ (by simp)];exact GV ⟨ir,x+1,rfl,ca,bQ,by rw[htk, <-Db];exact lT,eP,gV.trans gY⟩
 ·rintro b s' ⟨h',i,rfl,hr,hi,dh,fJ,gV⟩
  have eN:i=ci.size:=by
   rcases RT i ci.size with h|h
   ·rw[show ci.size-i=(ci.size-(i+1))+1 by lia,List.range'_succ]at hr;exact nomatch hr
   ·exact Nat.le_antisymm hi h
  rw[eN, <-ar,Ri]at dh;exact GV (q h' dh gV)
end
theorem kX{f:(Option (Sem Value)×Sem Value)->(Option Addr×List (Sem Value×Sem Value))->Sem (ForInStep (Option Addr×List (Sem Value×Sem Value)))}(hf:∀(p:Sem Value×Sem Value)(run:List (Sem Value×Sem Value)),run.length+1<17->f (some p.1,p.2) (mn,run)=pure (.yield (mn,run++[p]))){rest:List (Option (Sem Value)×Sem Value)} :
  ∀(items run:List (Sem Value×Sem Value)),run.length+items.length<17->forIn ((items.map λp=>(some p.1,p.2))++rest) (mn,run) f=forIn rest (mn,run++items) f
 | [],run,_=>by simp
 |p::items,run,h=>by
  rw[U8]at h;rw[Di,DZ,Rs,hf p run (by lia),pure_bind];have:=kX hf (rest:=rest) items (run++[p]) (by simp;lia);simpa using this
theorem Kv:∀{ps:List (Sem Value×Sem Value)}{zs:List (Str×Str)}{s:Shared}{Q:List (Value×Value)->Shared->Prop},TextPs P w ps zs->(∀tk vs kvs,Carries (qV P w) vs kvs->TextV kvs zs->Q vs { s with toks:=tk })->wpAny (model P w) A (evalPairs ps) Q E s:=by
 intro ps zs s Q h
 induction h generalizing s Q with
 |nil=>exact λq=>evalPairs_nil (q s.toks [] [] trivial .nil)
 | @cons k v x y ps zs hk hv r ih=>
  exact λq=>evalPairs_cons (hk _ _ _ _ λtk t=>hv _ _ _ _ λiB t2=>ih λpM vs kvs c e=>q pM _ ((Key.inr x,.str y t2)::kvs) ⟨xJ P w x t,rfl,c⟩ (.cons e))
theorem Ym(h:TextPs P w ps zs)(iq:ps.length<=15)(hn:(zs.map (·.1)).Nodup)(q:∀h' tk l',TextV l' zs->h'.DictOf (qV P w) s.heap.objs.size l'->(∀c o,s.heap.get? c=some o->h'.get? c=some o)->Q s.heap.objs.size { s with heap:=h',toks:=tk }):wpAny (model P w) A (subDict ps) Q E s:=by
 refine wpAny_subDict (knd:=qV P w) iq (Kv h λtk vs kvs c e=>⟨kvs,c,Heap.DictOf.new _,λh' hd hs=>?_⟩);have hk:(kvs.map (·.1)).Nodup:=by
  rw[e.keys];have:(zs.map λz=>(Key.inr z.1:Key))=(zs.map (·.1)).map Key.inr:=by rw[List.map_map];rfl
  rw[this];exact List.Pairwise.map _ (λa b ft z=>ft (Key.inr.inj z)) hn
 rw[merged_nil_of_nodup kvs hk]at hd;exact q h' _ kvs e hd λc o z=>hs.extBut _ _ (De (Heap.lt_size z)) (Heap.get?_push_of_some _ z)
theorem TextV.app(h:TextV l ys)(h':TextV m zs):TextV (l++m) (ys++zs):=by
 induction h with
 |nil=>exact h'
 |cons _ ih=>exact .cons ih
theorem Gb(ha:TextPs P w (a16++[p]) za)(hb:TextPs P w b zb)(pN:a16.length=16)(b0:b≠[])(pO:b.length<=15)(hn:((za++zb).map (·.1)).Nodup)(hs:sysModules<s.heap.objs.size)(q:∀h' tk l',TextV l' (za++zb)->h'.DictOf (qV P w) s.heap.objs.size l'->(∀c o,s.heap.get? c=some o->h'.get? c=some o)->Q (.ref s.heap.objs.size) { s with heap:=h',toks:=tk }):
  wpAny (model P w) A (dictDisplay ((a16++p::b).map λp=>(some p.1,p.2))) Q E s:=by
 have pP:=ha.len;have hlb:=hb.len;rw[UV,Dp]at pP;have fB:(za.map (·.1)).Nodup:=hn.sublist (List.Sublist.map _ (List.sublist_append_left _ _));have pQ:(zb.map (·.1)).Nodup:=hn.sublist (List.Sublist.map _ (List.sublist_append_right _ _));unfold dictDisplay;dsimp only;rw[Dq,Di];rw[kX (λp run h=>by
  have cE:((run++[(p.1,p.2)]).length==17)=false:=by simp;lia
  simp only[cE,Ds,Uk]) a16 [] (by simp;lia)]
 rw[Rs,DM];have pR:((a16++[(p.1,p.2)]).length==17)=true:=by simp[pN]
 have gZ:(a16++[(p.1,p.2)]).isEmpty=false:=by simp
 simp only[pR,gZ,Uw,Ds,Uk];refine GU (GU (GU (GU (q16 (ps:=a16++[(p.1,p.2)]) ha (by simp;lia) fB (by lia) λh1 pS l1 e1 d1 k1 z1=>GV (GV ?_)))));dsimp only;rw[<-Dl (List.map (λp:Sem Value×Sem Value=>(some p.1,p.2)) b)];rw[kX (λp run h=>by
  have cE:((run++[(p.1,p.2)]).length==17)=false:=by simp;lia
  simp only[cE,Ds,Uk]) b [] (by simp;lia)]
 rw[List.forIn_nil,DM];refine GV ?_;dsimp only;have dY:b.isEmpty=false:=by cases b<;>first|exact absurd rfl b0|rfl
 simp only[dY,Ds,Uk];have cE:s.heap.objs.size≠h1.objs.size:=by rw[z1];exact De (RK _)
 refine GU (GU (G3 (Ym (s:={ s with heap:=h1,toks:=pS }) hb pO pQ λh2 iB l2 e2 d2 k2=>?_)));have pU:h2.DictOf (qV P w) s.heap.objs.size l1:=by
  obtain⟨o,es,ep,ho,r⟩:=d1;exact⟨o,es,ep,k2 _ o ho,r⟩
 have eF:((l1++l2).map (·.1)).Nodup:=by
  rw[(e1.app e2).keys];have:((za++zb).map λz=>(Key.inr z.1:Key))=((za++zb).map (·.1)).map Key.inr:=by rw[List.map_map];rfl
  rw[this];exact List.Pairwise.map _ (λa b ft z=>ft (Key.inr.inj z)) hn
 have y1:=e1.len;have y2:=e2.len;have lQ:(h1.objs.size==sysModules)=false:=beq_eq_false_iff_ne.mpr (by rw[z1];exact Ne.symm (De (RB hs)));refine GU (wpAny_onRaise (G3 (Ww (s:={ s with heap:=h2,toks:=iB }) cE lQ pU d2 (λz=>by rw[z]at y1;simp at y1;lia) eF (Dk (qF (by lia))) λh3 d3 s3=>GV (GV ?_))));exact q h3 iB _ (e1.app e2) d3 λc o e=>s3.extBut _ _ (De (Heap.lt_size e)) (k2 _ _ (k1 _ _ e))
theorem TextPs.cut:∀(n:Nat){ps:List (Sem Value×Sem Value)}{zs:List (Str×Str)},TextPs P w ps zs->TextPs P w (ps.take n) (zs.take n)/\TextPs P w (ps.drop n) (zs.drop n)
 |0,_,_,h=>⟨by simpa using .nil,by simpa using h⟩
 |n+1,_,_,.nil=>⟨by simpa using .nil,by simpa using .nil⟩
 |n+1,_,_,.cons hk hv r=>⟨.cons hk hv (r.cut n).1,(r.cut n).2⟩
theorem KQ(h:TextPs P w ps zs)(h1:17<zs.length)(h2:zs.length<=32)(hn:(zs.map (·.1)).Nodup)(hs:sysModules<s.heap.objs.size)(q:∀h' tk l',TextV l' zs->h'.DictOf (qV P w) s.heap.objs.size l'->(∀c o,s.heap.get? c=some o->h'.get? c=some o)->Q (.ref s.heap.objs.size) { s with heap:=h',toks:=tk }):
  wpAny (model P w) A (dictDisplay (ps.map λp=>(some p.1,p.2))) Q E s:=by
 have hl:=h.len;have pW:16<ps.length:=by lia
 have nt:ps.take 17=ps.take 16++[ps[16]]:=by rw[List.take_succ,UU pW];rfl
 have e0:ps=ps.take 16++ps[16]::ps.drop 17:=by
  conv=>lhs;rw[<-RU 17 ps,nt,Db]
  rfl
 have c:=h.cut 17;rw[nt]at c;rw[e0];have ez:zs.take 17++zs.drop 17=zs:=RU _ _;exact Gb c.1 c.2 (by rw[DC];lia) (λz=>by have:=G1 List.length z;rw[DY,Dz]at this;lia) (by rw[DY];lia) (by rw[ez];exact hn) hs λh' tk l' a b c=>q h' tk l' (by rw[ez]at a;exact a) b c
inductive ConstPs:List (Option Expr)->List Expr->List (Str×Str)->Prop
 |nil:ConstPs [] [] []
 |cons {x y:Str}{j j':Nat}{p p':Pos}{ks:List (Option Expr)}{vs:List Expr}{zs:List (Str×Str)} (r:ConstPs ks vs zs):ConstPs (some (.Constant (.str x) j p)::ks) (.Constant (.str y) j' p'::vs) ((x,y)::zs)
theorem ConstPs.all(h:ConstPs ks vs zs):ks.all (·.isSome)=true/\ks.length=vs.length:=by
 induction h with
 |nil=>exact⟨rfl,rfl⟩
 |cons _ ih=>exact⟨by rw[RG,ih.1];rfl,by rw[U8,U8,ih.2]⟩
theorem ConstPs.text(h:ConstPs ks vs zs):TextPs P w (pairTrees ks vs env pos) zs:=by
 induction h with
 |nil=>exact .nil
 | @cons x y j j' p p' ks vs zs r ih=>
  exact .cons (λA E s Q q=>Calls.Constant_str (q _ _)) (λA E s Q q=>GU (Calls.Constant_str (GU (G8 (GV (q _ _)))))) ih
theorem TextV.kv(h:TextV l zs):KV (zs.map λz=>((.inr z.1:Key),V.str z.2)) l:=by
 induction h with
 |nil=>exact .nil
 |cons _ ih=>exact .cons ⟨rfl,_,rfl⟩ ih
noncomputable def Yl(zs:List (Str×Str)):TE:=λ_a H Q=>∀p,H p=none->Q (.ref p) (upd H p (.dK (zs.map λz=>((.inr z.1:Key),V.str z.2))))
theorem q0q(c:ConstPs keys bC zs)(h1:17<zs.length)(h2:zs.length<=32)(hn:(zs.map (·.1)).Nodup):QE X (.Dict keys bC pos) (Yl zs):=⟨λa5 s σ H Q I q=>by
 rw[arm_eval_Dict,zip_pairTrees keys bC X.env pos c.all.1 c.all.2];refine GU (G8 (KQ c.text h1 h2 hn I.big λh' tk l' a b k=>?_));refine⟨.ref s.heap.objs.size,_,I.laid (t':=tk) k (UZ _) (show ObjOk X.prog X.w _ h' _ (.dK _) from⟨?_,beq_eq_false_iff_ne.mpr (Ne.symm (De I.big)),l',a.kv,b⟩),rfl,q _ (I.hok.fresh (UZ _))⟩;rw[UY];exact Dk (qF (by lia))⟩
noncomputable def q5H(zs:List (Str×Str)):UE:=λ_a M Q=>Q (.m M.length) (M++[.dK (zs.map λz=>((.inr z.1:Key),U.p (.str z.2)))])
theorem ZJ:∀(zs:List (Str×Str)),Paired (λ(g:Key×V) (f:Key×U)=>g.1=f.1/\RepU A ι H g.2 f.2) (zs.map λz=>((.inr z.1:Key),V.str z.2)) (zs.map λz=>((.inr z.1:Key),U.p (.str z.2)))
 | []=>.nil
 |_::zs=>.cons ⟨rfl,.p (.str _)⟩ (ZJ zs)
theorem q1f:ZE (Yl zs) (q5H zs):=⟨λA ι σ H ρ M Qu Q w e q k p hp=>
 k _ _ (ι++[p]) _ _ (.push hp) (w.push (mo:=.dK _) hp ⟨_,upd_same,ZJ zs⟩) (.m (by rw[<-w.len];exact qK)) q⟩
noncomputable def q7B(x y:U)(M:MM)(Q:UK):Prop:=∃xs ys,x=.p (.tup xs)/\y=.p (.tup ys)/\xs.length+ys.length<=sizeLine/\Q (.p (.tup (xs++ys))) M
noncomputable def q6M(ua ub:UE):UE:=λρ M Q=>ua ρ M λx M1=>ub ρ M1 λy M2=>q7B x y M2 Q
noncomputable def K5(uo:UE):UE:=λρ M Q=>uo ρ M λx M1=>∃y,x=.p (.str y)/\y.length<=5000000/\Q (.p (.str (Txt.upper y))) M1
noncomputable def jN(ua:UE):UE:=λρ M Q=>ua ρ M λx M1=>∃ts,x=.p (.tup ts)/\Q (.p (.int ts.length)) M1
theorem q47(ha:ZE ta ua):ZE (tCB (q4L Ξ) (vH ta tNil)) (jN ua):=⟨λA ι σ H ρ M Qu Q w e q k=>
 ha.h A ι σ H ρ M _ _ w e q λx M1 a7 v H1 l1 w1 r1 zz=>by
  obtain⟨ts,ex,q1⟩:=zz;subst ex;cases r1 with
  |p r=>
  obtain⟨p,vs,rfl,_,h1,g1⟩:=r.tup_inv;refine⟨p,vs,rfl,.inr (SqT.of h1),?_⟩;rw[g1.len];exact k _ M1 a7 _ H1 l1 w1 (.p (.int _)) q1⟩
noncomputable def tX0(te:TE):TX:=λσ H Q _=>te σ H Q
noncomputable def uX0(ue:UE):UXe:=λρ M Q _=>ue ρ M Q
theorem cx_0(h:ZE te ue):ZXe mg (tX0 te) (uX0 ue):=⟨λA ι σ H ρ M Qu Xu Q E w e q k _=>h.h A ι σ H ρ M Qu Q w e q k⟩
theorem DGet.f{k:Key}(e:H a=some (.frz o (.dK kvs))):DGet H a (kV k) (valV kvs k):=.inl ⟨kvs,k,.inr ⟨o,e⟩,rfl,rfl⟩
theorem Js(he:QE X.nox e te):QXe X e (tX0 te):=⟨λa5 s σ H Q E k I h=>GW (he.h a5 s σ H Q (I.wish _) h) (λ_ _ ⟨v,H',I',r,q⟩=>⟨v,H',I'.unwish,r,q⟩) λ_a _a z=>z.elim⟩
section
variable {X:Cx}{a b c d:Expr}{ta tb tc td:TE}
theorem qa1(ha:QE X a ta)(h1:zn a=true:=by rfl):QA X [a] (vH ta tNil):=qa_c ha vD h1
theorem qa2(ha:QE X a ta)(hb:QE X b tb)(h1:zn a=true:=by rfl)(h2:zn b=true:=by rfl):QA X [a,b] (vH ta (vH tb tNil)):=qa_c ha (qa1 hb h2) h1
theorem qa3(ha:QE X a ta)(hb:QE X b tb)(hc:QE X c tc)(h1:zn a=true:=by rfl)(h2:zn b=true:=by rfl)(h3:zn c=true:=by rfl):QA X [a,b,c] (vH ta (vH tb (vH tc tNil))):=qa_c ha (qa2 hb hc h2 h3) h1
theorem qa4(ha:QE X a ta)(hb:QE X b tb)(hc:QE X c tc)(hd:QE X d td)(h1:zn a=true:=by rfl)(h2:zn b=true:=by rfl)(h3:zn c=true:=by rfl)(h4:zn d=true:=by rfl):QA X [a,b,c,d] (vH ta (vH tb (vH tc (vH td tNil)))):=qa_c ha (qa3 hb hc hd h2 h3 h4) h1
noncomputable def qv0:=@qv X 0
noncomputable def qv1:=@qv X 1
noncomputable def qv2:=@qv X 2
noncomputable def qv3:=@qv X 3
noncomputable def qv4:=@qv X 4
noncomputable def qv5:=@qv X 5
noncomputable def qv6:=@qv X 6
noncomputable def qv7:=@qv X 7
noncomputable def qv11:=@qv X 11
end
section
variable {i:Nat}{l w:Str}{b r:US}{E:q03}{ρ:UEnv}{M:MM}
theorem zF(hi:ρ[i]?=some (some (.p (.str w))))(h:decide (w=l)=false)(q:r E ρ M):uSeq (uIfS (uB (uOp (sEq false) (uVar i) (uC (.str l)))) b Z0) r E ρ M :=
 ⟨_,hi,.str w,.str l,rfl,rfl,.str w,.str l,rfl,rfl,rfl,false,G1 (λz=>U.p (.bl z)) (show decide (V.str w=V.str l)=false from G0 λe=>Uy h (V.str.inj e)),q⟩
theorem q71(hi:ρ[i]?=some (some (.p (.str l))))(q:b { E with nx:=r E } ρ M):uSeq (uIfS (uB (uOp (sEq false) (uVar i) (uC (.str l)))) b Z0) r E ρ M :=
 ⟨_,hi,.str l,.str l,rfl,rfl,.str l,.str l,rfl,rfl,rfl,true,G1 (λz=>U.p (.bl z)) (show decide (V.str l=V.str l)=true from Uu rfl),q⟩
theorem zh(hi:ρ[i]?=some (some (.p (.str w))))(h:decide (w=l)=false)(q:b E ρ M):uIfS (uB (uOp (sEq false) (uVar i) (uC (.str l)))) a b E ρ M :=
 ⟨_,hi,.str w,.str l,rfl,rfl,.str w,.str l,rfl,rfl,rfl,false,G1 (λz=>U.p (.bl z)) (show decide (V.str w=V.str l)=false from G0 λe=>Uy h (V.str.inj e)),q⟩
theorem zg(hi:ρ[i]?=some (some (.p (.str l))))(q:a E ρ M):uIfS (uB (uOp (sEq false) (uVar i) (uC (.str l)))) a b E ρ M :=
 ⟨_,hi,.str l,.str l,rfl,rfl,.str l,.str l,rfl,rfl,rfl,true,G1 (λz=>U.p (.bl z)) (show decide (V.str l=V.str l)=true from Uu rfl),q⟩
theorem Qo(hj:ρ[j]?=some (some (.p (.tup (.str w::ts)))))(h:decide (w=l)=false)(q:r E ρ M):uSeq (uIfS (uB (uOp (sEq false) (uIx vo (uVar j) (uC (.int 0))) (uC (.str l)))) b Z0) r E ρ M :=
 ⟨_,hj,_,0,_,rfl,rfl,at0,.str w,.str l,rfl,rfl,.str w,.str l,rfl,rfl,rfl,false,G1 (λz=>U.p (.bl z)) (show decide (V.str w=V.str l)=false from G0 λe=>Uy h (V.str.inj e)),q⟩
theorem jL(hj:ρ[j]?=some (some (.p (.tup (t::ts)))))(q:r E (ρ.set i (some (.p t))) M):uSeq (uAsg (uIx vo (uVar j) (uC (.int 0))) (Kc i)) r E ρ M:=⟨_,hj,_,0,_,rfl,rfl,at0,q⟩
theorem inVs{l:List Str}:inV (.str z) (l.map V.str)=decide (z∈l):=by
 unfold inV;rw[List.any_map]
 induction l with
 |nil=>rfl
 |cons a l ih=>
  rw[DU,ih];show(decide (a=z)||decide (z∈l))=_;by_cases h:a=z
  ·simp[h]
  ·simp[h,Ne.symm h]
inductive CsL:UA->List Str->Prop
 |nil:CsL uNil []
 |cons {x:Str}{ul:UA}{l:List Str} (h:CsL ul l):CsL (Kd (uC (.str x)) ul) (x::l)
theorem CsL.ok{l:List Str}(h:CsL ul l):∀{Q:List U->MM->Prop},Q (l.map λx=>.p (.str x)) M->ul ρ M Q:=by
 induction h with
 |nil=>exact λq=>q
 | @cons x ul l h ih=>exact λ{Q} q=>ih (Q:=λxs M2=>Q (.p (.str x)::xs) M2) q
theorem Zf:∀{l:List Str},vS (l.map λx=>.p (.str x))=some (l.map T.str)
 | []=>rfl
 |x::l=>by show(vS (l.map λx=>.p (.str x))).map (T.str x :: ·)=_;rw[Zf];rfl
theorem Jg:∀{l:List Str},vts (l.map T.str)=some (l.map V.str)
 | []=>rfl
 |x::l=>by rw[Di,vts,Jg];rfl
theorem vW(hi:ρ[i]?=some (some (.p (.str w))))(hl:CsL ul ls)(h:decide (w∈ls)=false)(q:r E ρ M):uSeq (uIfS (uB (uOp (sIn false) (uVar i) (uLst ul))) b Z0) r E ρ M :=
 ⟨_,hi,hl.ok ⟨_,Zf,_,_,rfl,rfl,.str w,_,_,rfl,rfl,Jg,false,G1 (λz=>U.p (.bl z)) (inVs.trans h),q⟩⟩
inductive AgL(ρ:UEnv):UA->List U->Prop
 |nil:AgL ρ uNil []
 |ix {j:Nat}{n:Int}{ts:List T}{u:U}{ul:UA}{us:List U} (hj:ρ[j]?=some (some (.p (.tup ts)))) (ha:atI (ts.map U.p) n=some u) (h:AgL ρ ul us):AgL ρ (Kd (uIx vo (uVar j) (uC (.int n))) ul) (u::us)
 |v {i:Nat}{x:U}{ul:UA}{us:List U} (hi:ρ[i]?=some (some x)) (h:AgL ρ ul us):AgL ρ (Kd (uVar i) ul) (x::us)
theorem AgL.ok(h:AgL ρ ul us):∀{Q:List U->MM->Prop},Q us M->ul ρ M Q:=by
 induction h with
 |nil=>exact λq=>q
 | @ix j n ts u ul us hj ha h ih=>exact λ{Q} q=>⟨_,hj,_,n,u,rfl,rfl,ha,ih (Q:=λxs M2=>Q (u::xs) M2) q⟩
 | @v i x ul us hi h ih=>exact λ{Q} q=>⟨x,hi,ih (Q:=λxs M2=>Q (x::xs) M2) q⟩
theorem retM(hs:ρ[0]?=some (some x))(hm:∀{R:Prop},R->VX C m x M R)(ha:AgL ρ ul us)(q:G (x::us) M E.rt):uRet (K9 C m G (uVar 0) ul) E ρ M:=⟨x,hs,hm (ha.ok q)⟩
theorem q7A(hs:ρ[0]?=some (some x))(hm:∀{R:Prop},R->VX C m x M R)(ha:AgL ρ ul us)(q:GX (x::us) M E.rt λnm p M1=>E.bk (tagU nm p ρ) M1):jj (zi C m GX (uVar 0) ul) E ρ M:=⟨x,hs,hm (ha.ok q)⟩
theorem W8(hs:ρ[0]?=some (some x))(hm:∀{R:Prop},R->VX C m x M R)(ha:AgL ρ ul us)(q:G (x::us) M λ_a M1=>E.nx ρ M1):q3V (K9 C m G (uVar 0) ul) E ρ M:=⟨x,hs,hm (ha.ok q)⟩
theorem jc(hs:ρ[0]?=some (some x))(hm:∀{R:Prop},R->VX C m x M R)(ha:AgL ρ ul us)(q:GX (x::us) M (λ_a M1=>E.nx ρ M1) λnm p M1=>E.bk (tagU nm p ρ) M1):zl (zi C m GX (uVar 0) ul) E ρ M:=⟨x,hs,hm (ha.ok q)⟩
end
noncomputable def q5L(tc ta tb:TX):TX:=λσ H Q E=>tc σ H (λx H1=>∃c,x=.bl c/\if c=true then ta σ H1 Q E else tb σ H1 Q E) E
theorem q41(hc:QXe X c tc)(ha:QXe X a ta)(hb:QXe X b tb)(he:∀bW,isTrue c X.env bW=(do let v <-bW;standAt c.pos;holding [v] (truthy v)):=by intro _;rfl):QXe X (.IfExp c a b pos) (q5L tc ta tb):=⟨λa5 s σ H Q E k I h=>by
 refine wpAny_IfExp (isTrue_plain (thn (hc.h a5 s σ H _ E k I h) λv s1 zz=>?_) (he _));obtain⟨x,H1,I1,r1,d,rfl,q1⟩:=zz;cases r1;refine Uc ?_;cases d with
 |true=>exact ha.h a5 s1 σ H1 Q E k I1 q1
 |false=>exact hb.h a5 s1 σ H1 Q E k I1 q1⟩
noncomputable def QV(uc ua ub:UXe):UXe:=λρ M Q X=>uc ρ M (λx M1=>∃c,x=.p (.bl c)/\if c=true then ua ρ M1 Q X else ub ρ M1 Q X) X
theorem q6q(hc:ZXe mg tc uc)(ha:ZXe mg tx ux)(hb:ZXe mg ty uy):ZXe mg (q5L tc tx ty) (QV uc ux uy):=⟨λA ι σ H ρ M Qu Xu Q E w e q k kx=>
 hc.h A ι σ H ρ M _ Xu _ E w e q (λx M1 a7 v H1 l1 w1 r1 zz=>by
  obtain⟨c,rfl,q1⟩:=zz;have nu:∀nm p C d M' ai H',mg nm=some C->PartIs d H' p->Le a7 H1 ai H'->Wd A ai H' M'->Xu nm p M'->E C d H':=λnm p C d M' ai H' hm hp l' w' x'=>kx nm p C d M' ai H' hm hp (l1.trans l') w' x';cases r1 with
  |p r=>
   cases r;refine⟨c,rfl,?_⟩;cases c with
   |true=>exact ha.h A a7 σ H1 ρ M1 _ Xu _ E w1 (e.le l1) q1 (λb M2 ae v2 H2 l2 w2 r2 q2=>k b M2 ae v2 H2 (l1.trans l2) w2 r2 q2) nu
   |false=>exact hb.h A a7 σ H1 ρ M1 _ Xu _ E w1 (e.le l1) q1 (λb M2 ae v2 H2 l2 w2 r2 q2=>k b M2 ae v2 H2 (l1.trans l2) w2 r2 q2) nu) kx⟩
theorem Wd.takeU(w:Wd (λx=>A x\/x=p) ι H M)(ha:¬A p)(hp:H p=some (.lst ys))(r:RepUs (λx=>A x\/x=p) ι H ys us):Wd A (ι++[p]) H (M++[.lst us])/\p∉ι:=by
 have np:p∉ι:=λz=>w.na p z (.inr rfl);have hl:Lea (λx=>A x\/x=p) ι H A (ι++[p]) H:=⟨⟨[p],rfl⟩,λx o hx e=>⟨e,λz=>hx (z.elim (λz=>.inl (.inl z)) λz=>(U4.mp z).elim .inr λz=>.inl (.inr (U7.mp z)))⟩,λx fs hx e=>⟨λz=>(U4.mp z).elim hx λz=>(by rw[U7.mp z,hp]at e;cases e),e⟩⟩;refine⟨⟨DF.mpr ⟨w.nd,by simp,λa ha b hb=>by rw[U7.mp hb];exact λz=>np (by rw[<-z];exact ha)⟩,by simp[w.len],λx hx=>w.dom x (.inl hx),λx hx z=>?_,λk a ob e1 e2=>?_⟩,np⟩
 ·rcases U4.mp hx with h|h
  ·exact w.na x h (.inl z)
  ·rw[U7.mp h]at z;exact ha z
 ·by_cases hk:k<ι.length
  ·rw[U1 hk]at e1
   rw[U1 (by rw[<-w.len];exact hk)]at e2;have q:=w.obj k a ob e1 e2;cases ob with
   |lst=>obtain⟨vs,e,q⟩:=q;exact⟨vs,e,Paired.mapP q λ_a _a q=>q.lea hl⟩
   |tup=>obtain⟨vs,e,q⟩:=q;exact⟨vs,e,Paired.mapP q λ_a _a q=>q.lea hl⟩
   |ins=>
    obtain⟨dx,gs,e,ed,nd,q⟩:=q;refine⟨dx,gs,e,ed,λz=>?_,Paired.mapP q λ_a _a q=>⟨q.1,q.2.lea hl⟩⟩;rcases U4.mp z with z|z
    ·exact nd z
    ·rw[U7.mp z,hp]at ed;cases ed
   |dK=>obtain⟨gs,e,q⟩:=q;exact⟨gs,e,Paired.mapP q λ_a _a q=>⟨q.1,q.2.lea hl⟩⟩
   |dF=>obtain⟨e,q⟩:=q;exact⟨e,Paired.mapP q λ_a _a q=>⟨q.1,q.2.lea hl⟩⟩
   |tab=>
    obtain⟨ps,e,t,z⟩:=q;refine⟨ps,e,t,z.imp id λ⟨c,h1,h2,h3⟩=>⟨c,h1,h2,λy=>?_⟩⟩;rcases U4.mp y with y|y
    ·exact h3 y
    ·rw[U7.mp y,hp]at h2;cases h2
  ·have gN:=(UR.mp e1).1
   rw[UV,Dp]at gN;have:k=ι.length:=by lia
   subst this;rw[U9 (UZ _),DA]at e1;rw[w.len,U9 (UZ _),DA]at e2;simp at e1 e2;subst e1 e2;exact⟨ys,hp,Paired.mapP r λ_a _a q=>q.lea hl⟩
noncomputable def q58(it:UIt)(ug:UG)(ut:UT)(ue:UE)(e8:UEnv)(M1:MM)(Q:UK):Prop:=it.n<=sizeLine/\∃Iv:Nat->List U->MM->Prop,Iv 0 [] M1 /\
 (∀i a9 M2,i<it.n->a9.length<=i->Iv i a9 M2->it.ok M2/\∀u,it.item i u->ug u e8 M2 λc7 M4=>ut c7 M4 λb M5=>if b=true then ue c7 M5 λz M6=>Iv (i+1) (a9++[z]) M6 else Iv (i+1) a9 M5) /\
 (∀a9 M2,Iv it.n a9 M2->it.ok M2/\Q (.m M2.length) (M2++[.lst a9]))
noncomputable def Yg(ui:UI)(bs:List Bool)(n:Nat)(ug:UG)(ut:UT)(ue:UE):UE:=λρ M Q=>ui ρ M λit M1=>ρ.length=bs.length/\q58 it ug ut ue (KI bs n ρ) M1 Q
theorem q0i(hi:ZI wi ui)(hg:ZX bs n g ug)(ht:ZT tt ut)(he:ZE te ue):ZE (xz wi bs n g tt te) (Yg ui bs n ug ut ue):=⟨by
 intro A ι σ H ρ M Qu Q w e q k;refine hi.h A ι σ H ρ M _ _ w e q λit M1 a7 J H1 l1 w1 hJ q1 a9 aR=>?_;obtain⟨ar,hsz,Iv,I0,It,Id⟩:=q1;have lI:σ.length=bs.length:=by rw[<-ar];exact e.len
 have e1:=e.le l1;have na:¬Av A a7 a9:=w1.nA aR;have key:∀ae H2,Le a7 H1 ae H2->(∀x∈ae,¬(A x\/x=a9))->Lea A a7 H1 (λx=>A x\/x=a9) ae H2:=λae H2 l h=>by
  refine⟨let⟨n,e,_⟩:=l.ext;⟨n,e⟩,λx o hx ex=>?_,l.xd⟩;obtain⟨a1,a2⟩:=l.av hx ex;refine⟨a1,λz=>?_⟩;rcases z with(z|z)|z
  ·exact a2 (.inl z)
  ·rw[z,aR]at ex;cases ex
  ·exact a2 (.inr z)
 refine⟨λi m H2=>m=it.n-i/\i<=it.n/\∃ae M2 bJ ys,Le a7 H1 ae H2/\Wd (λx=>A x\/x=a9) ae H2 M2/\H2 a9=some (.lst ys)/\RepUs (λx=>A x\/x=a9) ae H2 ys bJ/\bJ.length<=i/\Iv i bJ M2,
  ⟨it.n,by simp,Du _,a7,M1, [], [],.fresh aR,w1.addA aR,upd_same,.nil,UZ _,I0⟩,?_⟩
 rintro i m H2 ⟨rfl,eN,ae,M2,bJ,ys,l2,w2,fj,fC,fD,I2⟩;have lea:=key ae H2 l2 w2.na;by_cases bQ:i<it.n
 ·obtain⟨ok,step⟩:=It i bJ M2 bQ fD I2
  obtain⟨gP,jy⟩:=(hJ _ ae H2 M2 i lea w2 ok).1 bQ;refine .inr ⟨gP,λH'=>∃ae M2 bJ ys,Le a7 H1 ae H'/\Wd (λx=>A x\/x=a9) ae H' M2/\H' a9=some (.lst ys)/\RepUs (λx=>A x\/x=a9) ae H' ys bJ/\bJ.length<=i+1/\Iv (i+1) bJ M2,λH' h=>⟨it.n-(i+1),by lia,rfl,bQ,h⟩,λx H3 y=>?_⟩;obtain⟨u,hu,l3,w3,r3⟩:=jy x H3 y;have fE:=l2.trans l3;have cQ:∀{ai:List Addr}{H':Hp}{M':MM},Wd (λx=>A x\/x=a9) ai H' M'->a9∉ai:=λw z=>w.na a9 z (.inr rfl);have lJ:H3 a9=some (.lst ys):=l3.fr _ _ fj (cQ w2);have fF:EnvR (λx=>A x\/x=a9) ae H3 (zk bs n σ) (KI bs n ρ):=(e1.mask).lea (key ae H3 fE w3.na);refine hg.h _ ae σ H3 _ M2 x u _ _ lI w3 fF r3 (step u hu) λc7 c5 e4 x4 fG q4=>⟨⟨x4,fG⟩,?_⟩;refine ht.h _ ae c5 H3 c7 M2 _ _ w3 e4 q4 λb M5 dD H5 l5 w5 q5=>?_;have gQ:H5 a9=some (.lst ys):=l5.fr _ _ lJ (cQ w3);have dE:RepUs (λx=>A x\/x=a9) dD H5 ys bJ:=Paired.mapP fC λ_a _a q=>(q.le l3).le l5;cases b with
  |false=>exact⟨dD,M5,bJ,ys,fE.trans l5,w5,gQ,dE,Nat.le_succ_of_le fD,q5⟩
  |true=>
   refine he.h _ dD c5 H5 c7 M5 _ _ w5 (e4.le l5) q5 λz M6 lK zv H6 l6 w6 r6 q6=>?_;have fH:H6 a9=some (.lst ys):=l6.fr _ _ gQ (cQ w5);refine⟨ys,fH,?_,lK,M6,bJ++[z],ys++[zv],((fE.trans l5).trans l6).updF aR,(w6.updA (.inr rfl) fH).2,upd_same,?_,by rw[UV,Dp];lia,q6⟩
   ·rw[fC.len];lia
   ·have hl:=(w6.updA (o:=.lst (ys++[zv])) (.inr rfl) fH).1
    exact Paired.app (Paired.mapP dE λ_a _a q=>(q.le l6).lea hl) (.cons (r6.lea hl) .nil)
 ·have ei:i=it.n:=by lia
  subst ei;obtain⟨ok,fin⟩:=Id bJ M2 I2;obtain⟨w3,l3⟩:=w2.takeU (λz=>na (.inl z)) fj fC;exact .inl ⟨(hJ _ ae H2 M2 _ lea w2 ok).2 rfl,k _ _ (ae++[a9]) _ H2 (l1.trans (l2.pushed aR l3)) w3 (.m (by rw[<-w2.len];exact qK)) fin⟩⟩
end L2
set_option maxHeartbeats 4000000
namespace Mw
open PySem L2 PyProof.Rows
noncomputable def GO(Ξ:PySem.W.Frag){X:Cx}(h:X.K=Ξ:=by rfl):=qf h
noncomputable def GP(Ξ:PySem.W.Frag){X:Cx}(h:X.K=Ξ:=by rfl):=vp h
noncomputable def GQ(Ξ:PySem.W.Frag){X:Cx}(h:X.K=Ξ:=by rfl):=qh h
noncomputable def GR(Ξ:PySem.W.Frag){X:Cx}(h:X.K=Ξ:=by rfl):=z0 h
theorem YV{k j:Nat}{A:Around}(r:Room k A)(h:j<=k:=by first|decide|exact UZ _):Room j A:=r.mono h
theorem YX{i:Int}:ZE (tC (.int i)) (uC (.int i)):=ce_c (.int i)
theorem WC{i:Str}:ZE (tC (.str i)) (uC (.str i)):=ce_c (.str i)
theorem GL{α:Type}{a:α}{b:Prop}:a=a\/b:=Or.inl rfl
local macro_rules|`(tactic|walk_at "hp")=>`(tactic|first|assumption|exact upd_same|(refine zK (by assumption) ?_; walk_at "hp")|(refine jX (by first|assumption|(apply Ne.symm; assumption)) ?_; walk_at "hp"))
local macro_rules|`(tactic|walk_at "go")=>`(tactic|repeat (first|(simp only[L2.start,tSeq,Q0,tAsg,tOp,tUn,tVar,tC,qT,gSub,tRet,q0k,tIfS,V5,tLM,tTru,zG,tBM,tBM0,tRev,Jo,xz,Jr,j2,jZ,Vl,j3,q0z,tSl,zL,V4,rd_I,q1y,rd_U,Vj,q1G,tCB,vH,tNil,tTup,tLst,tYes,tAnd,tOr,tNot,tB,tIf,V6,tOrV,q1H,QZ,q1u,q0g,q0P,List.getElem?_cons_zero,List.getElem?_cons_succ,Option.some.injEq,exists_eq_left',List.set_cons_zero,List.set_cons_succ,zk,List.zip_cons_cons,List.zip_nil_left,List.zip_nil_right,List.map_cons,List.map_nil,List.length_cons,List.length_nil,List.replicate,List.append_nil,List.nil_append,List.cons_append,Bool.false_eq_true,if_true,if_false,decide_eq_true_eq,Nat.zero_add,xp,xo])|refine WK (by walk_at "hp") rfl ?_|refine q6c (by walk_at "hp") rfl ?_|refine WK (by walk_at "hp") at0 ?_|refine q4k (by walk_at "hp") rfl ?_|refine q6v (by walk_at "hp") ?_|refine JM (by walk_at "hp") ?_|refine JL (by walk_at "hp") ?_|refine q7v (by walk_at "hp") ?_|refine q74 (by walk_at "hp") ?_|refine W7 rfl ?_|refine q7d rfl ?_))
section
variable {P:Program}{w:World}{Ξ:PySem.W.Frag}{mg:Str->Option Value}{base:Heap}
noncomputable abbrev sBag:Stmt:=top 69
theorem scBag:q00 ["script","stir","cell"] ["script"] (qd sBag):=by ac_rfl
noncomputable abbrev q1I:Stmt:=top 70
theorem scDraw:q00 ["bag","many","found"] ["bag","many"] (qd q1I):=by ac_rfl
structure BagAt(H:Hp)(b:Addr):Prop where
 ex:∃(c:Addr)(ns:List Int)(i a st n:Int),H b=some (.lst [.ref c,.int i,.int a,.int st,.int n])/\H c=some (.lst (ns.map V.int))/\0<=i/\i<=ns.length/\ns.length<=63/\(∀x∈ns,0<=x)/\0<=a/\0<=st/\st<2147483647
noncomputable def q4r(Ξ:PySem.W.Frag):Sp:=λvs H Q _a=>∃(a:Addr)(ns:List Int),vs=[.ref a]/\SqL Ξ H a (ns.map V.int)/\ns.length<=63/\∀(b:Addr)(H':Hp),H b=none->Same H H'->BagAt H' b->Q (.ref b) H'
theorem q5j(ns:List Int)(h:ns.length<=63):cutV (ns.map V.int) none (some 63)=ns.map V.int:=by
 unfold cutV;have e1:HT.sIx (ns.map V.int).length 0 none=0:=rfl;have e2:HT.sIx (ns.map V.int).length (ns.map V.int).length (some 63)=min 63 (ns.map V.int).length:=HT.sIx_nat _ _ 63;rw[e1,e2];simp only[List.drop_zero,UY];rw[RN];simp;lia
theorem JK{ns:List Int}{i:Nat}(h:(ns.map V.int)[i]?=some y):∃z,y=V.int z/\ns[i]?=some z:=by
 rw[Dh]at h;cases e:ns[i]? with
 |none=>rw[e]at h;cases h
 |some z=>rw[e]at h;exact⟨z,(Option.some.inj h).symm,rfl⟩
theorem q51(F:Fun Ξ "_law_bag" "_law_bag" sBag f fd)(N:Nms mg):FnOk P w Ξ mg base CX0 1 f fd ["script"] (q4r Ξ):=by
 refine F.okQ scBag (λvs H Q E h=>?_) (λac A outer s H vs Q E hr h=>?_)
 ·obtain⟨a,ns,rfl,_⟩:=h
  rfl
 ·obtain⟨a,ns,rfl,hS,ar,k⟩:=h
  refine⟨_,(qb (qB (i:=1) scBag.nd rfl GL qa) (qb (xu PassesOwn.never rfl (v9 (Ξ:=Ξ) rfl (zy (Q4 (Ξ:=Ξ) rfl) qv0 xH (xG qa))) (vb (i:=2) scBag.nd rfl GL) (qe (qB (i:=1) scBag.nd rfl GL (qC xw (qC vz (qC vz (qC kI qv1 qa) (qC xw qv2 qa)) qa) qa)))) (qe (qt (qG (qa_c (Ks [false,false,false] [] (v9 (Ξ:=Ξ) rfl (zy (Q4 (Ξ:=Ξ) rfl) qv0 xH (xG qa))) (λ_a _a _a=>(vb (i:=2) scBag.nd rfl GL)) (λ_a _a _a=>zx) (λ_a _a _a=>(qC xw (qH J8 (by rfl) N.abs q5M (qa1 qv2)) (qC Jx qa qa)))) (qa4 qa qa qv1 qa))))))),?_⟩;refine⟨_,rfl,_,rfl,a,_,rfl,hS,λp hp=>?_⟩;rw[q5j ns ar];refine⟨p,rfl,⟨_,SqL.of upd_same⟩,q1d (Ξ:=Ξ) (a:=p) (xs:=ns.map V.int) (λi σ H2=>∃(st:Int)(v:Option V),σ=[some (.ref a),some (.int st),v]/\0<=st/\st<2147483647/\H2=upd H p (.lst (ns.map V.int)))
   ⟨17,none,rfl,by decide,by decide,rfl⟩ (λi σ H2 _ zz=>by obtain⟨_,_,_,_,_,e⟩:=zz;rw[e];exact SqL.of upd_same) ?_ ?_⟩
  ·rintro i y σ H2 hi ⟨st,v,rfl,h0,h1,rfl⟩
   obtain⟨z,rfl,_⟩:=JK hi
   (simp only[L2.start,tSeq,Q0,tAsg,tOp,tUn,tVar,tC,qT,gSub,tRet,q0k,tIfS,V5,tLM,tTru,zG,tBM,tBM0,tRev,Jo,xz,Jr,j2,jZ,Vl,j3,q0z,tSl,zL,V4,rd_I,q1y,rd_U,Vj,q1G,tCB,vH,tNil,tTup,tLst,tYes,tAnd,tOr,tNot,tB,tIf,V6,tOrV,q1H,QZ,q1u,q0g,q0P,DP,D7,Option.some.injEq,exists_eq_left',D8,D9,zk,Ry,RE,Rz,Di,D1,U8,Dz,List.replicate,Dl,DM,DZ,Ds,Uw,Uk,UH,Rg,xp,xo]);refine⟨.inr ⟨by decide,by decide⟩,by decide,by decide,_,_,rfl,DO _ (by decide),DI _ (by decide),trivial⟩
  ·rintro σ H2 ⟨st,v,rfl,h0,h1,rfl⟩
   have pX:SqL Ξ (upd H p (.lst (ns.map V.int))) a (ns.map V.int):=((Same.refl H).upd hp).seq hS;refine⟨_,rfl,_,rfl,a,_,rfl,pX,λp2 gA=>?_⟩;rw[q5j ns ar];obtain⟨f2,n2⟩:=VH gA;refine⟨p2,rfl,⟨_,SqL.of upd_same⟩,λa9 aR=>?_⟩;obtain⟨g1,n3⟩:=VH aR;obtain⟨g2,n4⟩:=VH g1;refine Gr (xs:=ns.map V.int) (λi H3=>∃ys:List Int,H3 a9=some (.lst (ys.map V.int))/\ys.length=i/\(∀y∈ys,0<=y)/\H3 p2=some (.lst (ns.map V.int))/\Same H H3) ?_ ?_ ?_ ?_
   ·exact⟨[],upd_same,rfl,(λ_a h=>nomatch h),zK aR upd_same,(((Same.refl H).upd hp).upd f2).upd g2⟩
   ·rintro i H3 _ ⟨ys,_,_,_,e,_⟩
    exact SqL.of e
   ·rintro i y H3 hi ⟨ys,e1,e2,e3,e4,e5⟩
    obtain⟨z,rfl,hz⟩:=JK hi;have dU:i<ns.length:=(UR.mp hz).1
    (simp only[L2.start,tSeq,Q0,tAsg,tOp,tUn,tVar,tC,qT,gSub,tRet,q0k,tIfS,V5,tLM,tTru,zG,tBM,tBM0,tRev,Jo,xz,Jr,j2,jZ,Vl,j3,q0z,tSl,zL,V4,rd_I,q1y,rd_U,Vj,q1G,tCB,vH,tNil,tTup,tLst,tYes,tAnd,tOr,tNot,tB,tIf,V6,tOrV,q1H,QZ,q1u,q0g,q0P,DP,D7,Option.some.injEq,exists_eq_left',D8,D9,zk,Ry,RE,Rz,Di,D1,U8,Dz,List.replicate,Dl,DM,DZ,Ds,Uw,Uk,UH,Rg,xp,xo]);refine⟨⟨by(repeat (first|exact ExtS.nl|refine ExtS.sm ?_|refine ExtS.no ?_)),trivial⟩,⟨by decide,by decide,by decide⟩,by decide,ys.map V.int,e1,qF (by simp;lia),ys++[(if z<0 then -z else z) % 10^(60:Int).toNat],?_,by simp[e2],?_,jX n3.symm e4,e5.upd g2⟩
    ·rw[upd_same,Dq];rfl
    ·intro y hy
     rcases U4.mp hy with h|h
     ·exact e3 y h
     ·rw[U7.mp h];exact DO _ (by decide)
   ·rintro H3 ⟨ys,e1,e2,e3,e4,e5⟩
    rw[UY]at e2
    (simp only[L2.start,tSeq,Q0,tAsg,tOp,tUn,tVar,tC,qT,gSub,tRet,q0k,tIfS,V5,tLM,tTru,zG,tBM,tBM0,tRev,Jo,xz,Jr,j2,jZ,Vl,j3,q0z,tSl,zL,V4,rd_I,q1y,rd_U,Vj,q1G,tCB,vH,tNil,tTup,tLst,tYes,tAnd,tOr,tNot,tB,tIf,V6,tOrV,q1H,QZ,q1u,q0g,q0P,DP,D7,Option.some.injEq,exists_eq_left',D8,D9,zk,Ry,RE,Rz,Di,D1,U8,Dz,List.replicate,Dl,DM,DZ,Ds,Uw,Uk,UH,Rg,xp,xo]);refine⟨by decide,λb hb=>?_⟩;refine k b _ (e5.free hb) (e5.upd (e5.free hb)) ⟨a9,ys,0,0,st,0,upd_same,zK hb e1,by decide,by lia,by lia,e3,by decide,h0,h1⟩
theorem GG{H:Hp}{ns:List Int}{i a st n:Int}(hb:H b=some (.lst [.ref c,.int i,.int a,.int st,.int n]))(hc:H c=some (.lst (ns.map V.int))):c≠b:=by
 intro e;subst e;rw[hb]at hc;injection hc with hc
 injection hc with hc
 cases ns with
 |nil=>cases hc
 |cons z r=>cases hc
noncomputable def x9(H:Hp)(b c:Addr):Prop:=∃r,H b=some (.lst (.ref c::r))
theorem Zr(h:H b=some (.lst (.ref c::r)))(h':H' b=some (.lst (.ref c::r'))):∀c',x9 H b c'->x9 H' b c':=λc' zz=>by
 obtain⟨q,e⟩:=zz;rw[h]at e;injection e with e
 injection e with e
 injection e with e _
 injection e with e
 subst e;exact⟨r',h'⟩
theorem q1F(h:x9 H b c)(h':x9 H b c'):c=c':=by
 obtain⟨q,e⟩:=h;obtain⟨q',e'⟩:=h';rw[e]at e';injection e' with e'
 injection e' with e'
 injection e' with e' _
 injection e'
noncomputable def q2S:Sp:=λvs H Q _a=>∃(b:Addr)(a6:Int),vs=[.ref b,.int a6]/\BagAt H b/\0<a6/\a6.natAbs.log2<9000/\∀(aJ:Int)(H':Hp),0<=aJ->aJ<a6->BagAt H' b->(∀x,x≠b->H' x=H x)->(∀c,x9 H b c->x9 H' b c)->Q (.int aJ) H'
theorem BagAt.put(h:BagAt H b)(hh:x9 H b c0)(n1:p≠b)(n2:p≠c0):BagAt (L2.upd H p o) b:=by
 obtain⟨c,ns,i,a,st,n,hb,hc,r⟩:=h.ex;have e:c0=c:=by
  obtain⟨q,e⟩:=hh;rw[hb]at e;injection e with e
  injection e with e
  injection e with e _
  injection e with e
  exact e.symm
 subst e;exact⟨c0,ns,i,a,st,n,jX n1.symm hb,jX n2.symm hc,r⟩
theorem q0Q(F:Fun Ξ "_law_draw" "_law_draw" q1I f fd)(N:Nms mg):FnOk P w Ξ mg base CX0 1 f fd ["bag","many"] q2S:=by
 refine F.okQ scDraw (λvs H Q E h=>?_) (λac A outer s H vs Q E hr h=>?_)
 ·obtain⟨b,m,rfl,_⟩:=h
  rfl
 ·obtain⟨b,a6,rfl,⟨c,ns,i,a,st,n,hb,hc,i0,i1,hl,cL,a0,s0,s1⟩,m0,mb,k⟩:=h
  have pY:=GG hb hc;refine⟨_,(qb (qP (Xv (Zd (qi op_eq (qj (GO Ξ) qv0 qa (λ_a _a=>rfl)) qa (qm _)) (Vm (qi Kw (qj (GO Ξ) qv0 qa (λ_a _a=>rfl)) (qH zt (by rfl) N.len Ql (qa1 (qj (GO Ξ) qv0 qa (λ_a _a=>rfl)))) (qm _))))) (qb (vh (qj (GO Ξ) (qj (GO Ξ) qv0 qa (λ_a _a=>rfl)) (qj (GO Ξ) qv0 qa (λ_a _a=>rfl)) (λ_a _a=>rfl)) (vq qv0 qa qR)) (qe (vh (qC vz (qj (GO Ξ) qv0 qa (λ_a _a=>rfl)) qa) (vq qv0 qa qR)))) (qe (qP (qi op_eq (qj (GO Ξ) qv0 qa (λ_a _a=>rfl)) qa (qm _)) (qb (vh (qC vz (qj (GO Ξ) qv0 qa (λ_a _a=>rfl)) qa) (vq qv0 qa qR)) (qb (vh (qC xw (qC vz (qC vz (qC vz (qC Jx (qj (GO Ξ) qv0 qa (λ_a _a=>rfl)) qa) (qC kI qa (qj (GO Ξ) qv0 qa (λ_a _a=>rfl)))) (qC kI qa (qj (GO Ξ) qv0 qa (λ_a _a=>rfl)))) qa) qa) (vq qv0 qa qR)) (qe (qt (qC xw (qC Vp (qj (GO Ξ) qv0 qa (λ_a _a=>rfl)) qa) qv1))))) qx))) (qb (qB (i:=2) scDraw.nd rfl GL (qC xw (qj (GO Ξ) qv0 qa (λ_a _a=>rfl)) qv1)) (qb (vh (qC Vp (qj (GO Ξ) qv0 qa (λ_a _a=>rfl)) qv1) (vq qv0 qa qR)) (qe (qt qv2))))),?_⟩;rfl';have fin:∀(z:Int)(H':Hp)(i' a' cI n':Int),0<=z->H' b=some (.lst [.ref c,.int i',.int (z / a6),.int cI,.int n'])->(∀x,x≠b->H' x=H x)->0<=i'->i'<=ns.length->0<=cI->cI<2147483647->Q (.int (z % a6)) H':=λz H' i' a' cI n' hz e1 e2 e3 e4 e5 e6=>
   k _ _ (DO _ (by lia)) (DI _ m0) ⟨c,ns,i',z / a6,cI,n',e1,by rw[e2 c pY];exact hc,e3,e4,hl,cL,Int.ediv_nonneg hz (by lia),e5,e6⟩ e2 (Zr hb e1)
  refine ite2 (λha=>?_) (λha=>?_)
  ·rfl'
   refine ite2 (λhi=>?_) (λhi=>?_)
   ·rw[UY]at hi
    obtain⟨j,rfl⟩:∃j:Nat,i=(j:Int):=⟨i.toNat,by lia⟩;have hj:j<ns.length:=by lia
    rfl';refine WK hc (ze (v:=.int ns[j]) (by rw[Dh,UU hj];rfl)) ?_;rfl';refine⟨m0,?_⟩;rfl';refine⟨⟨m0,mb⟩,?_⟩;rfl';exact fin _ _ (j+1) 0 st n (cL _ (RL hj)) upd_same (λx hx=>by rw[upd_ne hx,upd_ne hx,upd_ne hx]) (by lia) (by lia) s0 s1
   ·rfl'
    rw[G4 ha];rfl';refine⟨⟨by decide,by decide,by lia⟩,?_⟩;rfl';refine⟨.inl ⟨by decide,by decide⟩,?_⟩;rfl';refine⟨.inl ⟨by decide,by decide⟩,by decide,?_⟩;rfl';refine⟨⟨by decide,by decide⟩,m0,?_⟩;refine k _ _ (DO _ (by lia)) (DI _ m0) ⟨c,ns,i,a,_,n+1,upd_same,?_,i0,i1,hl,cL,a0,DO _ (by decide),DI _ (by decide)⟩ (λx hx=>by rw[upd_ne hx,upd_ne hx]) (Zr hb upd_same);walk_at "hp"
  ·rfl'
   rw[GZ ha];rfl';refine⟨m0,?_⟩;rfl';refine⟨⟨m0,mb⟩,?_⟩;rfl';exact fin _ _ i 0 st n a0 upd_same (λx hx=>by rw[upd_ne hx]) i0 i1 s0 s1
noncomputable def MB(M:MM)(k:Nat)(o:MO)(L:List MO):MM:=M.set k o++L
theorem q1Q:(MB M k o L).length=M.length+L.length:=by unfold MB;rw[UV,U2]
theorem q1U:MB M k o L++[x]=MB M k o (L++[x]):=by unfold MB;rw[Db]
theorem MB_get:(MB M k o L)[M.length+i]?=L[i]?:=by
 unfold MB;rw[U9 (by rw[U2];lia),U2,RH]
theorem jB(h:L[i]?=some x:=by rfl):(MB M k o L)[M.length+i]?=some x:=MB_get.trans h
theorem q61:(MB M k o L).set (M.length+i) x=MB M k o (L.set i x):=by
 unfold MB;rw[DJ _ _ (by rw[U2];lia),U2,RH]
theorem ZV(h:k<M.length):(MB M k o L)[k]?=some o:=by
 unfold MB;rw[U1 (by rw[U2];exact h),U3 h]
theorem xh(h:k<M.length):(MB M k o L).set k o'=MB M k o' L:=by
 unfold MB;rw[List.set_append_left _ _ (by rw[U2];exact h),DS]
theorem jA:(MB M k o L).take M.length=M.set k o:=by
 unfold MB;rw[List.take_left' (by rw[U2])]
theorem xr(h:M[k]?=some o):k<M.length/\M=MB M k o []:=by
 refine⟨(UR.mp h).1,?_⟩;unfold MB;rw[Dl];obtain⟨hk,rfl⟩:=UR.mp h;rw[List.set_getElem_self]
theorem jz(h:PurO o):zu M (MB M k o L):=λi x hi e=>by
 unfold MB at e;rw[U1 (by rw[U2];exact hi)]at e;by_cases hk:k=i
 ·subst hk
  rw[U3 hi]at e;cases e;exact .inr h
 ·rw[UW hk]at e
  exact .inl e
structure BagO(o:MO):Prop where
 ex:∃(ns:List Int)(i a st n:Int),o=.lst [.p (q0b ns),.p (.int i),.p (.int a),.p (.int st),.p (.int n)]/\0<=i/\i<=ns.length/\ns.length<=63/\(∀x∈ns,0<=x)/\0<=a/\0<=st/\st<2147483647
theorem BagO.pur(h:BagO o):PurO o:=by
 obtain⟨ns,i,a,st,n,rfl,_⟩:=h.ex;exact⟨[q0b ns,.int i,.int a,.int st,.int n],rfl⟩
noncomputable def jT:List U->MM->UK->Prop:=λus M Q=>∃(k:Nat)(o:MO)(a6:Int),us=[.m k,.p (.int a6)]/\M[k]?=some o/\BagO o/\0<a6/\a6.natAbs.log2<9000/\∀(aJ:Int)(o':MO),0<=aJ->aJ<a6->BagO o'->Q (.p (.int aJ)) (M.set k o')
theorem qE(hk:k<M.length)(B:BagO o)(h0:0<a6)(h1:a6.natAbs.log2<9000)(q:∀(aJ:Int)(o':MO),0<=aJ->aJ<a6->BagO o'->Q (.p (.int aJ)) (MB M k o' L)):jT [.m k,.p (.int a6)] (MB M k o L) Q :=
 ⟨k,o,a6,rfl,ZV hk,B,h0,h1,λf o' f0 f1 B'=>by rw[xh hk];exact q f o' f0 f1 B'⟩
theorem q13(r:RepT A H v (q0b ns)):∃p,v=.ref p/\¬A p/\H p=some (.lst (ns.map V.int)):=by
 obtain⟨p,vs,rfl,na,h,q⟩:=r.lst_inv;refine⟨p,rfl,na,?_⟩;have:vs=ns.map V.int:=by
  clear h r na
  induction ns generalizing vs with
  |nil=>cases q;rfl
  |cons n ns ih=>
   cases q with
   |cons a b=>cases a;rw[ih _ b];rfl
 rw[h,this]
theorem JH(na:¬A p)(h:H p=some (.lst (ns.map V.int))):RepT A H (.ref p) (q0b ns):=by
 refine .lstP na h ?_
 induction ns with
 |nil=>exact .nil
 |cons n ns ih=>exact .cons (.int n) (by
   clear h ih
   induction ns with
   |nil=>exact .nil
   |cons n ns ih=>exact .cons (.int n) ih)
theorem q30(hb:BagO o)(r:ObjR A ι H b o):BagAt H b/\∃c,x9 H b c/\¬Av A ι c/\∃ns:List Int,H c=some (.lst (ns.map V.int)):=by
 obtain⟨ns,i,a,st,n,rfl,k⟩:=hb.ex;obtain⟨vs,h,q⟩:=r;cases q with
 |cons q1 q=>
 cases q with
 |cons q2 q=>
 cases q with
 |cons q3 q=>
 cases q with
 |cons q4 q=>
 cases q with
 |cons q5 q=>
 cases q;cases q1 with
 |p q1=>
 obtain⟨c,rfl,nc,hc⟩:=q13 q1;cases q2 with
 |p q2=>
 cases q3 with
 |p q3=>
 cases q4 with
 |p q4=>
 cases q5 with
 |p q5=>
 cases q2;cases q3;cases q4;cases q5;exact⟨⟨c,ns,i,a,st,n,h,hc,k⟩,c,⟨_,h⟩,nc,ns,hc⟩
theorem Ka(B:BagAt H b)(hd:x9 H b c)(nc:¬Av A ι c):∃o,BagO o/\ObjR A ι H b o/\∃x,H b=some x/\∀H',H' b=some x->(∀y z,H y=some z->y≠b->H' y=some z)->ObjR A ι H' b o:=by
 obtain⟨c',ns,i,a,st,n,h,hc,k⟩:=B.ex;have:c=c':=q1F hd ⟨_,h⟩;subst this;have lU:c≠b:=GG h hc;refine⟨_,⟨ns,i,a,st,n,rfl,k⟩,⟨_,h,.cons (.p (JH nc hc)) (.cons (.p (.int _)) (.cons (.p (.int _)) (.cons (.p (.int _)) (.cons (.p (.int _)) .nil))))⟩,_,h,λH' e f=>⟨_,e,.cons (.p (JH nc (f _ _ hc lU))) (.cons (.p (.int _)) (.cons (.p (.int _)) (.cons (.p (.int _)) (.cons (.p (.int _)) .nil))))⟩⟩
set_option tactic.hygienic true in
theorem q1r(F:Fun Ξ "_law_draw" "_law_draw" q1I f fd)(N:Nms mg):FnOk P w Ξ mg base CX0 1 f fd ["bag","many"] (spU jT):=by
 refine(q0Q F N).imp λvs H Q E h=>?_;obtain⟨A,ι,M,us,Qu,w1,r,⟨k,o,a6,rfl,em,hb,h0,h1,q⟩,kk⟩:=h;cases r with
 |cons r1 r=>
 cases r with
 |cons r2 r=>
 cases r;cases r2 with
 |p r2=>
 cases r2;cases r1 with
 |m ek=>
 rename_i b;have ro:=w1.obj k b o ek em;obtain⟨B,c,hd,nc,ns,iT⟩:=q30 hb ro;refine⟨b,a6,rfl,B,h0,h1,λaJ H' f0 f1 B' fr pZ=>?_⟩;have dh:=pZ c hd;have cy:=U0 ek;obtain⟨o',lV,r9,x,hx,_⟩:=Ka (A:=A) (ι:=ι) B' dh nc;have eH:H'=L2.upd H b x:=by
  funext y;by_cases z:y=b
  ·subst z;rw[L2.upd_same];exact hx
  ·rw[L2.upd_ne z];exact fr y z
 subst eH;exact kk _ _ ι _ _ (.put cy) (w1.put ek r9) (.p (.int _)) (q aJ o' f0 f1 lV)
theorem up1{R:T->Prop}:(∃t,U.p a=.p t/\R t)=R a:=propext ⟨λzz=>by obtain⟨_,e,h⟩:=zz;cases e;exact h,λh=>⟨a,rfl,h⟩⟩
theorem q69(h:vo M u=some [a,b])(q:R a b):T2S M u R:=⟨a,b,h,q⟩
theorem q5z(h:vo M u=some [a,b,c])(q:R a b c):T3S M u R:=⟨a,b,c,h,q⟩
theorem useq(h:a { E with nx:=b E } ρ M):uSeq a b E ρ M:=h
local macro_rules|`(tactic|walk_at "us")=>`(tactic|first|walk_at "vs" |simp only[uSeq])
local macro_rules|`(tactic|walk_at "u")=>`(tactic|repeat (first|walk_at "us" |refine qX rfl ?_|refine qX at0 ?_|refine qX at1 ?_|refine vc rfl ?_|refine q69 rfl ?_|refine q5z rfl ?_|refine Vy rfl ?_|refine kR rfl ?_|refine Vy jB ?_|refine kR jB ?_))
local macro_rules|`(tactic|walk_at "vs")=>`(tactic|simp only[zM,Z0,uAsg,Kc,q1z,q1C,q4Z,q4s,uC,Kd,uNil,q76,q5K,q77,q6g,q6a,q6l,q6i,q4Y,q65,q68,uIsN,XU,q44,q5i,q5e,q4x,rd_b,q38,q55,q3q,uAnd,uOr,uNot,uIf,q1q,q6p,q7l,q4h,q2C,YF,q5n,q4G,uNew,q4N,q7m,q3p,q4b,q6F,q2O,q2N,q3D,q2M,q3W,q4U,q3g,q6T,q52,q3x,YG,q4K,q5l,q3m,q0B,q4w,uFor,q5q,KI,q6W,q7k,q0Y,q1c,q05,q6Q,q6h,q3V,uRet,q6L,uIfS,uYes,ss,uIsi,q6H,isU,isT,uIxK,uInK,vt,q7e,q60,q3L,q3f,q07,q5a,q4W,q46,q79,q6X,q0s,q6U,q66,YJ,q33,q3P,YE,Bool.or_true,Bool.true_or,Bool.or_false,Bool.false_or,uIfC,q18,q09,q4P,q3T,up1,frzB_p,frzN_p,MO.lst.injEq,q2Z,Jj,q1U,q1Q,MB_get,q61,Option.some.injEq,List.map_cons,List.map_nil,List.length_cons,List.length_nil,List.replicate,List.append_nil,List.nil_append,List.cons_append,List.getElem?_cons_zero,List.getElem?_cons_succ,List.set_cons_zero,List.set_cons_succ,List.zip_cons_cons,List.zip_nil_left,List.zip_nil_right,Bool.false_eq_true,if_true,if_false,decide_eq_true_eq,decide_true,decide_false,Bool.not_true,Bool.not_false,true_and,and_true,Nat.reduceAdd,Nat.reduceSub,Nat.zero_add,exists_eq_left'])
local macro_rules|`(tactic|walk_at "v")=>`(tactic|repeat (first|with_reducible refine useq ?_|walk_at "vs"|((with_reducible refine gdIx ?_); first|refine qX rfl ?_|refine qX at0 ?_|refine qX at1 ?_|refine vc rfl ?_)|((with_reducible refine gdT2 ?_); refine q69 rfl ?_)|((with_reducible refine gdT3 ?_); refine q5z rfl ?_)|((with_reducible refine gdMe ?_); first|refine Vy rfl ?_|refine Vy jB ?_)|((with_reducible refine q7j ?_); first|refine kR rfl ?_|refine kR jB ?_)))
local macro_rules|`(tactic|walk_at "lk")=>`(tactic|repeat' first|(with_reducible first|exact qr _|apply ql|exact qJ|exact ce_c (.int _)|apply qy|exact ce_c (.str _)|apply vQ|exact ve _|apply v8|apply ju|apply q2H|apply vY|apply jJ|apply jf|exact Jw λ_a _a=>.int _|exact Qw|exact q7z λ_a _a=>.int _|apply QN|apply q0E|apply jI|apply q1O|apply vA|apply zd|exact vj|apply Jb|apply VP|apply q42|apply q2b|apply X9|apply q5p|apply q5E|apply q2q|apply X8|apply Gw|apply Gs|apply VO|apply q1E|apply q2n|apply k8|apply q0d|apply Gn|apply Gm|apply X7|apply JX|apply ct_b|apply Gk|exact q4u|exact q0M|exact ce_c (.bl _)|exact ce_c .non|exact q0S _ _|exact q1w _ _ _|exact Gu|exact ZK|exact Qx|exact Jw λ_a _a=>.bl _|exact YZ|exact YY|exact q1Z|exact q5I|apply GC|apply q5y)|apply X6|apply VN|exact je _|decide)
noncomputable abbrev Mk3:=Str×Int×Int
noncomputable def Wd(ms:List Mk3):Prop:=∀m∈ms,0<=m.2.1/\m.2.1<=1000
theorem Yi(k:Nat):(0:Int)<2^k:=Int.pow_pos (by decide)
theorem QY{α:Type}{l:List α}{i:Nat}{x:α}(h:l[i]?=some x):l.take (i+1)=l.take i++[x]:=by
 obtain⟨hi,e⟩:=UR.mp h;rw[List.take_succ_eq_append_getElem hi,e]
noncomputable def OfKind(ms:List Mk3)(kind:Str)(m:Mk3):Prop:=∃rest,ms.filter (λm=>decide (m.1=kind))=m::rest
noncomputable def q49:List Str:=["small","far","pair","sign","one"]
noncomputable abbrev Nd:=Int×Int
noncomputable def Disj(a b:Nd):Prop:=∀x:Int,¬(x % 2^a.1.toNat=a.2/\x % 2^b.1.toNat=b.2)
theorem Disj.symm(h:Disj a b):Disj b a:=λx ⟨p,q⟩=>h x ⟨q,p⟩
noncomputable def NdOk(a:Nd):Prop:=0<=a.1/\a.1<=60/\0<=a.2/\a.2<2^a.1.toNat
theorem KH{x:Int}(h:a<=b):x % 2^b % 2^a=x % 2^a:=by
 refine Int.emod_emod_of_dvd x ?_;obtain⟨c,rfl⟩:=Nat.exists_eq_add_of_le h;exact⟨2^c,Int.pow_add ..⟩
noncomputable def xg(a:Nd)(s:Int):Nd:=(a.1+1,a.2+s*2^a.1.toNat)
theorem Gy(ha:NdOk a)(h:x % 2^(xg a s).1.toNat=(xg a s).2):x % 2^a.1.toNat=a.2:=by
 have e:(xg a s).1.toNat=a.1.toNat+1:=by show(a.1+1).toNat=_;have:=ha.1;lia
 rw[e]at h;rw[<-KH (RY a.1.toNat),h];show(a.2+s*2^a.1.toNat) % 2^a.1.toNat=a.2;rw[Int.mul_comm,Int.add_mul_emod_self_left];exact Int.emod_eq_of_lt ha.2.2.1 ha.2.2.2
theorem QM(ha:NdOk a)(h:Disj a b):Disj (xg a s) b:=λx ⟨p,q⟩=>h x ⟨Gy ha p,q⟩
theorem Gx(hs:s≠t):Disj (xg a s) (xg a t):=λx zz=>by
 obtain⟨p,q⟩:=zz;rw[show(xg a t).1=(xg a s).1 from rfl,p]at q;have:(a.2+s*2^a.1.toNat)=a.2+t*2^a.1.toNat:=q;have h2:s*2^a.1.toNat=t*2^a.1.toNat:=by lia
 exact hs (Int.eq_of_mul_eq_mul_right (Int.ne_of_gt (Yi _)) h2)
theorem J3(ha:NdOk a)(lW:a.1<=59)(hs:s=0\/s=1):NdOk (xg a s):=by
 obtain⟨h1,h2,h3,h4⟩:=ha;have e:(a.1+1).toNat=a.1.toNat+1:=by lia
 refine⟨by show 0<=a.1+1;lia,by show a.1+1<=60;lia,?_,?_⟩
 ·show 0<=a.2+s*2^a.1.toNat
  have:=Yi a.1.toNat;rcases hs with rfl|rfl<;>lia
 ·show a.2+s*2^a.1.toNat<2^(a.1+1).toNat
  rw[e,Int.pow_succ];rcases hs with rfl|rfl<;>lia
noncomputable def need(kind:Str):Int:=if kind = "sign" then 7 else if kind = "small" then 2 else if kind = "one" then 2 else 3
structure Right(bits:Int)(ms:List Mk3):Prop where
 b:8<=bits/\bits<=32
 n:ms.length=5
 k:(ms.map (·.1)).Perm q49
 w:∀m∈ms,1<=m.2.1/\m.2.1<=bits-need m.1
 p:∀m∈ms,0<=m.2.2/\m.2.2<2^m.2.1.toNat
 d:ms.Pairwise λm m'=>Disj m.2 m'.2
theorem q2K(k:Str):2<=need k:=by unfold need;split<;>(try split)<;>(try split)<;>decide
theorem Right.wd(r:Right bits ms):Wd ms:=λm hm=>by
 have:=r.w m hm;have h2:=q2K m.1;have:=r.b;lia
theorem Right.kind(r:Right bits ms){kind:Str}(h:kind∈q49):∃m,OfKind ms kind m:=by
 have:kind∈ms.map (·.1):=r.k.mem_iff.mpr h;obtain⟨m,hm,e⟩:=DT.mp this;cases q:ms.filter (λm=>decide (m.1=kind)) with
 |nil=>
  have:m∈ms.filter (λm=>decide (m.1=kind)):=Rl.mpr ⟨hm,by simp[e]⟩;rw[q]at this;cases this
 |cons m0 rest=>exact⟨m0,rest,q⟩
theorem log2_lt{n:Int}(h0:0<n)(h1:n<2^62):n.natAbs.log2<9000:=by
 have:n.natAbs.log2<62:=(Nat.log2_lt (by lia)).mpr (by lia);lia
noncomputable def cnt(bits:Int)(t:List Nd):Nat:=(t.filter λn=>decide (n.1<=bits-7)).length
structure LInv(bits:Int)(KS:List Str)(i:Nat)(ns:List Nd)(ms:List Mk3):Prop where
 ok:∀n∈ns,NdOk n
 low:∃n∈ns,n.1<=i
 len:ns.length<=1+31*i
 kinds:ms.map (·.1)=KS.take i
 w:∀m∈ms,1<=m.2.1/\m.2.1<=bits-need m.1
 p:∀m∈ms,NdOk m.2
 d:(ns++ms.map (·.2)).Pairwise Disj
structure WInv(i:Nat)(w0:Int)(c:Nd)(ns:List Nd)(ms:List Mk3):Prop where
 cok:NdOk c
 w:w0<=c.1
 ok:∀n∈ns,NdOk n
 low:(∃n∈ns,n.1<=i+1)\/(c.1=w0/\w0<=i)
 len:(ns.length:Int)<=31*i+c.1
 d:(c::(ns++ms.map (·.2))).Pairwise Disj
theorem WInv.step(h:WInv i w0 c ns ms)(hs:s=0\/s=1)(lW:c.1<=59):WInv i w0 (xg c s) (ns++[xg c (1-s)]) ms:=by
 have gV:1-s=0\/1-s=1:=by lia
 obtain⟨dc,dr⟩:=RA.mp h.d;have cw:(xg c s).1=c.1+1:=rfl;refine⟨J3 h.cok lW hs,by rw[cw];have:=h.w;lia,λn hn=>?_,?_,?_,?_⟩
 ·rcases U4.mp hn with z|z
  ·exact h.ok n z
  ·rw[U7.mp z];exact J3 h.cok lW gV
 ·rcases h.low with⟨n,hn,hw⟩|⟨e,hw⟩
  ·exact .inl ⟨n,Df _ hn,hw⟩
  ·exact .inl ⟨xg c (1-s),Dd _ (U7.mpr rfl),by show c.1+1<=_;lia⟩
 ·have:=h.len
  rw[cw,UV,Dp];push_cast;lia
 ·have p1:(xg c s::(ns++[xg c (1-s)]++ms.map (·.2))).Perm (xg c s::xg c (1-s)::(ns++ms.map (·.2))):=by
   refine List.Perm.cons _ ?_;rw[Db];exact List.perm_middle
  refine(p1.pairwise_iff λh=>h.symm).mpr ?_;refine RA.mpr ⟨λn hn=>?_,RA.mpr ⟨λn hn=>QM h.cok (dc n hn),dr⟩⟩;rcases Da.mp hn with rfl|z
  ·exact Gx (by lia)
  ·exact QM h.cok (dc n z)
theorem WInv.fin(h:WInv i w0 c ns ms)(h0:LInv bits KS i ns0 ms)(hk:KS[i]?=some kind)(hg:c.1=goal)(hw:w0<goal)(h1:1<=goal)(h2:goal<=bits-need kind)(h31:goal<=31):
  LInv bits KS (i+1) ns (ms++[(kind,c)]):=by
 have hl:=h.len;refine⟨h.ok,?_,?_,?_,λm hm=>?_,λm hm=>?_,?_⟩
 ·rcases h.low with⟨n,hn,fK⟩|⟨e,_⟩
  ·exact⟨n,hn,by push_cast;exact fK⟩
  ·lia
 ·lia
 ·rw[Dq,h0.kinds,QY hk];rfl
 ·rcases U4.mp hm with z|z
  ·exact h0.w m z
  ·rw[U7.mp z];exact⟨by show 1<=c.1;lia,by show c.1<=bits-need kind;lia⟩
 ·rcases U4.mp hm with z|z
  ·exact h0.p m z
  ·rw[U7.mp z];exact h.cok
 ·rw[Dq, <-Db]
  have p1:(ns++ms.map (·.2)++[c]).Perm (c::(ns++ms.map (·.2))):=List.perm_append_comm;exact(p1.pairwise_iff λh=>h.symm).mpr h.d
theorem LInv.right(h:LInv bits KS 5 ns ms)(hK:KS.Perm q49)(hb:8<=bits/\bits<=32):Right bits ms:=by
 have hl:KS.length=5:=hK.length_eq;have hk:ms.map (·.1)=KS:=by rw[h.kinds,RN (by lia)]
 refine⟨hb,?_,by rw[hk];exact hK,h.w,λm hm=>⟨(h.p m hm).2.2.1,(h.p m hm).2.2.2⟩,?_⟩
 ·have:=G1 List.length hk
  rw[UY,hl]at this;exact this
 ·have:=(List.pairwise_append.mp h.d).2.1
  rw[List.pairwise_map]at this;exact this
theorem OfKind.is(h:OfKind ms kind m):m.1=kind:=by
 obtain⟨rest,e⟩:=h;have:m∈ms.filter (λm=>decide (m.1=kind)):=by rw[e];exact DB
 exact UD (Rl.mp this).2
noncomputable abbrev Zc:Stmt:=top 74
theorem Yv:q00 ["found","due"] ["found","due"] (qd Zc):=by ac_rfl
theorem q0N:(["found","due","k"]:List Str).Nodup:=by decide+kernel
noncomputable def q4O:V->Bool
 |.non=>true
 |.bl _=>true
 |.int _=>true
 |.str _=>true
 |_=>false
noncomputable def AL(H:Hp):Nat->V->V->Prop
 |0,_,_=>False
 |n+1,x,y=>(x=y/\q4O x=true)\/∃(p q:Addr)(xs ys:List V),x=.ref p/\y=.ref q/\((H p=some (.lst xs)/\H q=some (.lst ys))\/(H p=some (.tup xs)/\H q=some (.tup ys)))/\xs.length=ys.length/\xs.length<=10000000/\∀(j:Nat)(x y:V),xs[j]?=some x->ys[j]?=some y->AL H n x y
theorem AL.same(s:Same H H'):∀{n:Nat}{x y:V},AL H n x y->AL H' n x y
 |0,_,_,h=>h
 |n+1,_,_,h=>by
  rcases h with h|⟨p,q,xs,ys,e1,e2,h,l1,l2,k⟩
  ·exact .inl h
  ·refine .inr ⟨p,q,xs,ys,e1,e2,?_,l1,l2,λj x y a b=>(k j x y a b).same s⟩
   rcases h with⟨h1,h2⟩|⟨h1,h2⟩
   ·exact .inl ⟨s _ _ h1,s _ _ h2⟩
   ·exact .inr ⟨s _ _ h1,s _ _ h2⟩
noncomputable def Q1(n:Nat):Sp:=λvs H Q _a=>∃x y:V,vs=[x,y]/\AL H n x y/\∀H',Same H H'->Q (.bl true) H'
theorem q2Y(h:q4O v=true):∃t,TyOf Ξ H v (.type t)/\W.kitAny Ξ (.type t) [.type "list",.type "tuple"]=some false/\∃b i s,W.kitOne Ξ (.type t) (.type "bool")=some b/\W.kitOne Ξ (.type t) (.type "int")=some i/\W.kitOne Ξ (.type t) (.type "str")=some s:=by
 cases v with
 |non=>exact⟨_,TyOf.non,rfl,_,_,_,rfl,rfl,rfl⟩
 |bl b=>exact⟨_,TyOf.bl b,rfl,_,_,_,rfl,rfl,rfl⟩
 |int i=>exact⟨_,TyOf.int i,rfl,_,_,_,rfl,rfl,rfl⟩
 |str s=>exact⟨_,TyOf.str s,rfl,_,_,_,rfl,rfl,rfl⟩
 |_=>cases h
theorem q20(h:SqL Ξ H p xs\/SqT Ξ H p xs)(e:atI xs i=some v)(q:Q v H):rIxA Ξ (.ref p) (.int i) H Q :=
 h.elim (λh=>.inl ⟨p,xs,i,v,rfl,rfl,h,e,q⟩) λh=>.inr ⟨p,xs,i,v,rfl,rfl,h,e,q⟩
theorem xV(F:Fun Ξ "_law_alike" "_law_alike" Zc f fd)(N:Nms mg)(aK:Def P w Ξ mg base "_law_alike" (n+1) ["found","due"] (Q1 n)):FnOk P w Ξ mg base CX0 (n+2) f fd ["found","due"] (Q1 (n+1)):=by
 refine F.okQ Yv (λvs H Q E h=>?_) (λac A outer s H vs Q E hr h=>?_)
 ·obtain⟨_,_,rfl,_⟩:=h
  rfl
 ·obtain⟨x,y,rfl,hA,k⟩:=h
  refine⟨_,(qb (qP (vJ (qH (ZM (Ξ:=Ξ) rfl) (by rfl) N.isinstance qD (qa2 qv1 (qu (qa2 (vn (v:=.ty "list") (by rfl) N.list jg rfl) (vn (v:=.ty "tuple") (by rfl) N.tuple VR rfl)))))) (qb (qP (Xv (q3K (Qr (vJ (qH (ZM (Ξ:=Ξ) rfl) (by rfl) N.isinstance qD (qa2 qv0 (qu (qa2 (vn (v:=.ty "list") (by rfl) N.list jg rfl) (vn (v:=.ty "tuple") (by rfl) N.tuple VR rfl))))))) (YM (qi jR (qH (GP Ξ) (by rfl) N.isinstance qD (qa2 qv0 (vn (v:=.ty "list") (by rfl) N.list jg rfl))) (qH (GP Ξ) (by rfl) N.isinstance qD (qa2 qv1 (vn (v:=.ty "list") (by rfl) N.list jg rfl))) (qm _))))) (qe (qt Vn)) qx) (qb (qP (qi jR (qH (xq (Ξ:=Ξ) rfl) (by rfl) N.len Ql (qa1 qv0)) (qH (xq (Ξ:=Ξ) rfl) (by rfl) N.len Ql (qa1 qv1)) (qm _)) (qe (qt Vn)) qx) (qe (qt (qH (q1e rfl) (by rfl) N.all q7g (qa1 (Ks [true,true] ["k"] (vK rfl N.range (qa1 (qH (xq (Ξ:=Ξ) rfl) (by rfl) N.len Ql (qa1 qv1)))) (λ_a _a _a=>(vb (i:=2) q0N rfl GL)) (λ_a _a _a=>zx) (λ_a _a _a=>(qo aK (YV hr) (qa2 (qj (WI (Ξ:=Ξ) rfl) qv0 qv2 (λ_a _a=>rfl)) (qj (WI (Ξ:=Ξ) rfl) qv1 qv2 (λ_a _a=>rfl)))))))))))) qx) (qb (qP (Xv (q3K (qi jR (qH (GP Ξ) (by rfl) N.isinstance qD (qa2 qv0 (vn (v:=.ty "bool") (by rfl) N.bool q2e rfl))) (qH (GP Ξ) (by rfl) N.isinstance qD (qa2 qv1 (vn (v:=.ty "bool") (by rfl) N.bool q2e rfl))) (qm _)) (YM (qi jR (qH (GP Ξ) (by rfl) N.isinstance qD (qa2 qv0 (vn (v:=.ty "int") (by rfl) N.int VS rfl))) (qH (GP Ξ) (by rfl) N.isinstance qD (qa2 qv1 (vn (v:=.ty "int") (by rfl) N.int VS rfl))) (qm _))))) (qe (qt Vn)) qx) (qe (qt (Ju (vF op_eq (qH (GP Ξ) (by rfl) N.isinstance qD (qa2 qv0 (vn (v:=.ty "str") (by rfl) N.str q0e rfl))) (qH (GP Ξ) (by rfl) N.isinstance qD (qa2 qv1 (vn (v:=.ty "str") (by rfl) N.str q0e rfl))) (qm _)) (Ze (vF op_eq qv0 qv1 (qm _)))))))),?_⟩;rfl';refine⟨by decide,λp1 re=>?_⟩;rfl';have s1:Same H (upd H p1 (.tup [.ty "list",.ty "tuple"])):=(Same.refl H).upd re;rcases hA with⟨rfl,hf⟩|⟨p,q,xs,ys,rfl,rfl,h,l1,l2,kk⟩
  ·obtain⟨t,ty,e1,b,i,st,e2,e3,e4⟩:=q2Y (Ξ:=Ξ) (H:=upd H p1 (.tup [.ty "list",.ty "tuple"])) hf
   refine⟨x,p1, ["list","tuple"],t,false,rfl,upd_same,ty,e1,?_⟩;rfl';refine jH ty e2 ?_;refine jH ty e2 ?_;rfl';refine ite2 (λhh=>absurd hh (by simp)) (λ_a=>?_);refine jH ty e3 ?_;refine jH ty e3 ?_;rfl';refine ite2 (λhh=>absurd hh (by simp)) (λ_a=>?_);refine jH ty e4 ?_;refine jH ty e4 ?_;rfl';have hq:=k _ s1;cases x with
   |non=>exact W7 rfl (by simpa[eqV]using hq)
   |bl b=>exact W7 rfl (by simpa[eqV]using hq)
   |int b=>exact W7 rfl (by simpa[eqV]using hq)
   |str b=>exact W7 rfl (by simpa[eqV]using hq)
   |_=>cases hf
  ·obtain⟨t,bl,ee,e1,e2⟩:∃(t:String)(bl:Bool),(∀H',Same H H'->TyOf Ξ H' (.ref p) (.type t)/\TyOf Ξ H' (.ref q) (.type t)/\(SqL Ξ H' p xs\/SqT Ξ H' p xs)/\(SqL Ξ H' q ys\/SqT Ξ H' q ys))/\W.kitAny Ξ (.type t) [.type "list",.type "tuple"]=some true/\W.kitOne Ξ (.type t) (.type "list")=some bl:=by
    rcases h with⟨h1,h2⟩|⟨h1,h2⟩
    ·exact⟨"list", true,(λH' s=>⟨TyOf.lst (s _ _ h1),TyOf.lst (s _ _ h2),.inl (SqL.of (s _ _ h1)),.inl (SqL.of (s _ _ h2))⟩),rfl,rfl⟩
    ·exact⟨"tuple", false,(λH' s=>⟨TyOf.tup (s _ _ h1),TyOf.tup (s _ _ h2),.inr (SqT.of (s _ _ h1)),.inr (SqT.of (s _ _ h2))⟩),rfl,rfl⟩
   refine⟨_,p1, ["list","tuple"],t,true,rfl,upd_same,(ee _ s1).2.1,e1,?_⟩;rfl';refine⟨by decide,λp2 gA=>?_⟩;rfl';have s2:=s1.trans ((Same.refl _).upd (o:=.tup [.ty "list",.ty "tuple"]) gA);refine⟨_,p2, ["list","tuple"],t,true,rfl,upd_same,(ee _ s2).1,e1,?_⟩;rfl';refine ite2 (λhh=>absurd hh (by decide)) (λ_a=>?_);refine jH (ee _ s2).1 e2 ?_;refine jH (ee _ s2).2.1 e2 ?_;rfl';refine ite2 (λhh=>absurd hh (by simp)) (λ_a=>?_);refine⟨p,xs,rfl,(ee _ s2).2.2.1,?_⟩;refine⟨q,ys,rfl,(ee _ s2).2.2.2,?_⟩;rfl';refine ite2 (λhh=>absurd hh (by simp[l1])) (λ_a=>?_);refine⟨q,ys,rfl,(ee _ s2).2.2.2,?_⟩;refine q7s (by lia) (by lia) ?_;intro a9 aR;generalize upd (upd H p1 (.tup [.ty "list",.ty "tuple"])) p2 (.tup [.ty "list",.ty "tuple"])=Hc at s2 aR ⊢;refine KU (λi H3=>Same Hc H3/\H3 a9=some (.lst ((List.replicate i true).map V.bl))) ?_ ?_ ?_
   ·exact⟨(Same.refl Hc).upd aR,upd_same⟩
   ·rintro i H3 hi ⟨s3,e3⟩
    rfl';have rf:i<ys.length:=by lia
    have rg:i<xs.length:=by lia
    have g1:xs[i]?=some xs[i]:=UU rg;have g2:ys[i]?=some ys[i]:=UU rf;have lX:=s2.trans s3;rw[Int.zero_add];refine⟨⟨by(repeat (first|exact ExtS.nl|refine ExtS.sm ?_|refine ExtS.no ?_)),trivial⟩,q20 (ee _ lX).2.2.1 (ze g1) (q20 (ee _ lX).2.2.2 (ze g2) ?_)⟩;refine⟨_,_,rfl,(kk i _ _ g1 g2).same lX,λH6 s6=>?_⟩;refine⟨_,s6 _ _ e3,?_,(s3.trans s6).upd aR,?_⟩
    ·rw[UY,RQ]
     have:10000000<sizeLine:=by decide
     lia
    ·rw[upd_same]
     have:(V.bl true::List.map V.bl (List.replicate i true))=List.map V.bl (List.replicate i true)++[V.bl true]:=by
      rw[List.map_replicate, <-Dv,List.replicate_succ']
     rw[this]
   ·rintro H3 ⟨s3,e3⟩
    refine⟨a9,List.replicate (Int.toNat ys.length) true,rfl,e3,?_⟩;have:(List.replicate (Int.toNat ys.length) true).all id=true:=by simp
    rw[this];exact k H3 (s2.trans s3)
theorem Wo(F:Fun Ξ "_law_alike" "_law_alike" Zc f fd):FnOk P w Ξ mg base CX0 1 f fd ["found","due"] (Q1 0):=by
 refine F.okQ Yv (λvs H Q E h=>?_) (λac A outer s H vs Q E hr h=>?_)
 ·obtain⟨_,_,_,h,_⟩:=h
  exact h.elim
 ·obtain⟨_,_,_,h,_⟩:=h
  exact h.elim
noncomputable def depT:Nat->T->Prop
 |0,_=>False
 |n+1,.tup xs=>xs.length<=10000000/\∀x∈xs,depT n x
 |n+1,.lst xs=>xs.length<=10000000/\∀x∈xs,depT n x
 |_+1,_=>True
noncomputable def JU(n:Nat):List T->(T->Prop)->Prop:=λts Q=>∃t,ts=[t,t]/\depT n t/\Q (.bl true)
theorem q37:∀{n:Nat}{t:T}{x y:V},depT n t->RepT A H x t->RepT A H y t->AL H n x y
 |0,_,_,_,h,_,_=>h.elim
 |n+1,.non,_,_,_,.non,.non=>.inl ⟨rfl,rfl⟩
 |n+1,.bl b,_,_,_,.bl _,.bl _=>.inl ⟨rfl,rfl⟩
 |n+1,.int b,_,_,_,.int _,.int _=>.inl ⟨rfl,rfl⟩
 |n+1,.str b,_,_,_,.str _,.str _=>.inl ⟨rfl,rfl⟩
 |n+1,.tup xs,x,y,h,r1,r2=>by
  obtain⟨p,vs,rfl,_,h1,q1⟩:=r1.tup_inv;obtain⟨p2,cb,rfl,_,h2,q2⟩:=r2.tup_inv;refine .inr ⟨p,p2,vs,cb,rfl,rfl,.inr ⟨h1,h2⟩,by rw[q1.len,q2.len],by rw[q1.len];exact h.1,λj a b ha hb=>?_⟩;obtain⟨t,ht,rt⟩:=Paired.getL q1 ha;obtain⟨t',dn,lY⟩:=Paired.getL q2 hb;rw[ht]at dn;cases dn;exact q37 (h.2 t (U0 ht)) rt lY
 |n+1,.lst xs,x,y,h,r1,r2=>by
  obtain⟨p,vs,rfl,_,h1,q1⟩:=r1.lst_inv;obtain⟨p2,cb,rfl,_,h2,q2⟩:=r2.lst_inv;refine .inr ⟨p,p2,vs,cb,rfl,rfl,.inl ⟨h1,h2⟩,by rw[q1.len,q2.len],by rw[q1.len];exact h.1,λj a b ha hb=>?_⟩;obtain⟨t,ht,rt⟩:=Paired.getL q1 ha;obtain⟨t',dn,lY⟩:=Paired.getL q2 hb;rw[ht]at dn;cases dn;exact q37 (h.2 t (U0 ht)) rt lY
--@XI
noncomputable abbrev Z7:Stmt:=qk (top 2) 0
theorem q0X:q00 ["self","part"] ["self","part"] (qd Z7):=by ac_rfl
theorem q0j(F:Fun Ξ "__init__" "WrongKind.__init__" Z7 f fd)(ck:ExcK Ξ C f)(na:NoAttr Ξ C "part")(ib:q4c Ξ mg "WordError" B):FnOk P w Ξ mg base CX0 1 f fd ["self","part"] (spI C):=by
 refine F.okQ q0X (λvs H Q E h=>?_) (λac A outer s H vs Q E hr h=>?_)
 ·obtain⟨_,_,rfl,_⟩:=h
  rfl
 refine⟨_,(qb (q0Z ck ib (qa_c (qv 0) (qa_c (q6x (by decide) (by decide) (qv 1)) vD)))
  (qe (q3N ck na (qv 0) (qv 1)))),?_⟩
 obtain⟨a,n,rfl,hn,ha,q⟩:=h;refine⟨.ref a,rfl,.int n,rfl,n,rfl,hn.1,hn.2.1,a,none,_,rfl,ha,by show 1<=1000;decide,?_⟩;refine⟨.int n,rfl,.ref a,rfl,a,rfl,ha,λd hd=>q d hd⟩
theorem KF(F:Fun Ξ "_law_alike" "_law_alike" Zc f fd)(N:Nms mg)(hm:mg "_law_alike" = some (.ref f))(hk:W.keepIn Ξ (.ref f)=true)(hb:Binds Ξ fd ["found","due"] []):FnOk P w Ξ mg base CX0 6 f fd ["found","due"] (spP (JU 5)):=by
 refine(xV F N ⟨f,fd,hm,hk,hb,xV F N ⟨f,fd,hm,hk,hb,xV F N ⟨f,fd,hm,hk,hb,xV F N ⟨f,fd,hm,hk,hb,xV F N ⟨f,fd,hm,hk,hb,Wo F⟩⟩⟩⟩⟩:FnOk P w Ξ mg base CX0 6 f fd ["found","due"] (Q1 5)).imp λvs H Q E h=>?_;obtain⟨A,ts,Qt,hd,r,⟨t,rfl,lZ,q⟩,k⟩:=h;cases r with
 |cons r1 r=>
 cases r with
 |cons r2 r=>
 cases r;exact⟨_,_,rfl,q37 lZ r1 r2,λH' s=>k _ _ H' s (.bl true) q⟩
--@PK
noncomputable abbrev Xk:Stmt:=top 25
theorem q1l:q00 ["worth"] ["worth"] (qd Xk):=by ac_rfl
noncomputable def q5Z:U->Str
 |.p (.int _)=> "number"
 |.p (.tup _)=> "sign"
 |.p (.str _)=> "one"
 |_=> "pair"
noncomputable def okU(C:Addr)(M:MM):U->Prop
 |.p (.int _)=>True
 |.p (.tup _)=>True
 |.p (.str _)=>True
 |.m k=>kU C M k
 |_=>False
noncomputable def WX(C:Addr):List U->MM->UK->Prop:=λus M Q=>∃u,us=[u]/\okU C M u/\Q (.p (.str (q5Z u))) M
theorem XT(h:kU C M k):isV C M (.m k) c=some false:=by
 obtain⟨fs,e⟩:=h;simp only[isV,e,Uw]
theorem q15(F:Fun Ξ "kind_of" "kind_of" Xk f fd)(N:Nms mg)(bX:q0m Ξ CQ):FnOk P w Ξ mg base CX0 1 f fd ["worth"] (spU (WX CQ)):=by
 refine F.zU q1l (by rintro _ _ _ ⟨_,rfl,_⟩;rfl) (λac A outer s H E hr=>?_);refine⟨_,(qb (qP (vJ (qH (Qb Ξ rfl) (by rfl) N.isinstance qD (qa2 qv0 (vn (v:=.ty "int") (by rfl) N.int VS rfl)))) (qe (qt qc)) qx) (qb (qP (vJ (qH (Qb Ξ rfl) (by rfl) N.isinstance qD (qa2 qv0 (vn (v:=.ty "tuple") (by rfl) N.tuple VR rfl)))) (qe (qt qc)) qx) (qb (qP (vJ (qH (Qb Ξ rfl) (by rfl) N.isinstance qD (qa2 qv0 (vn (v:=.ty "str") (by rfl) N.str q0e rfl)))) (qe (qt qc)) qx) (qe (qt qc))))),_,(qy (zd (ct_b (Gz bX .int (qr 0))) (by right) vj) (qy (zd (ct_b (Gz bX .tuple (qr 0))) (by right) vj) (qy (zd (ct_b (Gz bX .str (qr 0))) (by right) vj) (by right)))),λus M Qu h=>?_⟩;obtain⟨u,rfl,ok,q⟩:=h;cases u with
 |p t=>
  cases t with
  |int i=>symm;rw[xS];symm;refine⟨true,rfl,?_⟩;symm;exact q
  |tup xs=>symm;rw[xS];symm;refine⟨false,rfl,?_⟩;symm;rw[xS];symm;refine⟨true,rfl,?_⟩;symm;exact q
  |str x=>symm;rw[xS];symm;refine⟨false,rfl,?_⟩;symm;rw[xS];symm;refine⟨false,rfl,?_⟩;symm;rw[xS];symm;refine⟨true,rfl,?_⟩;symm;exact q
  |_=>exact ok.elim
 |x a d q=>exact ok.elim
 |m k=>symm;rw[xS];symm;refine⟨false,XT ok,?_⟩;symm;rw[xS];symm;refine⟨false,XT ok,?_⟩;symm;rw[xS];symm;refine⟨false,XT ok,?_⟩;symm;exact q
inductive Wt where
 |num (n:Int)|one (t:Str)|sgn (k:Int)|pr (i:Nat)
 deriving DecidableEq
noncomputable abbrev Nm:=Nat->Nat
noncomputable abbrev WW:=List (Wt×Wt)
noncomputable def uS(s:Nm):Wt->U
 |.num n=>.p (.int n)
 |.one t=>.p (.str t)
 |.sgn k=>.p (.tup [.str "sign",.int k])
 |.pr i=>.m (s (i+2))
noncomputable def tO:Wt->T
 |.num n=>.int n
 |.one t=>.str t
 |.sgn k=>.tup [.str "sign",.int k]
 |.pr i=>.tup [.str "pair",.int (i:Int)]
noncomputable def tT:Wt->T
 |.num n=>.int n
 |.one t=>.str t
 |.sgn k=>.tup [.str "sign",.int k]
 |.pr _=>.str "pair"
noncomputable def vf:Wt->Str
 |.num _=> "number"
 |.one _=> "one"
 |.sgn _=> "sign"
 |.pr _=> "pair"
noncomputable def okW(n:Nat):Wt->Prop
 |.pr i=>i<n
 |_=>True
theorem okW.mono(h:okW n x)(hm:n<=m):okW m x:=by cases x<;>first|exact h|exact Dc h hm
noncomputable def hl(s:Nm)(ws:List Wt):MO:=.lst (ws.map (uS s))
noncomputable def po(D:Addr)(s:Nm)(x:Wt×Wt):MO:=.ins D [("left", uS s x.1),("right", uS s x.2)]
structure TxP(Ξ:PySem.W.Frag)(C:Addr):Prop where
 c:Cls Ξ C
 na:NoAttr Ξ C "held"
structure TxQ(Ξ:PySem.W.Frag)(D:Addr):Prop where
 c:Cls Ξ D
 nl:NoAttr Ξ D "left"
 nr:NoAttr Ξ D "right"
structure Sto(C D:Addr)(M:MM)(s:Nm)(ws:List Wt)(ps:WW):Prop where
 s0:M[s 0]?=some (.ins C [("held",.m (s 1))])
 h:M[s 1]?=some (hl s ws)
 p:∀(i:Nat) x,ps[i]?=some x->M[s (i+2)]?=some (po D s x)
 n:ws.length=8
 inj:∀i j,i<ps.length+2->j<ps.length+2->s i=s j->i=j
 ww:∀x∈ws,okW ps.length x
 wp:∀x∈ps,okW ps.length x.1/\okW ps.length x.2
structure Go(M M':MM)(s s':Nm)(n n':Nat):Prop where
 len:M.length<=M'.length
 fr:∀k,k<M.length->(∀i,i<n->k≠s i)->M'[k]?=M[k]?
 nw:∀i,i<n'->(∃j,j<n/\s' i=s j)\/M.length<=s' i
 z:s' 0=s 0
section
variable {C D:Addr}{M:MM}{s:Nm}{ws:List Wt}{ps:WW}{x y:Wt}{r q p i n:Nat}{Q:UK}
theorem Go.refl:Go M M s s n n:=⟨UZ _,λ_a _a _a=>rfl,λi hi=>.inl ⟨i,hi,rfl⟩,rfl⟩
theorem Go.set(hi:i<n):Go M (M.set (s i) o) s s n n:=⟨by rw[U2];exact UZ _,λk _a h=>UW (Ne.symm (h i hi)),λi hi=>.inl ⟨i,hi,rfl⟩,rfl⟩
theorem v7{α:Type}{l:List α}{r:Nat}{x:α}{R:α->Prop}(h:∀y∈l,R y)(hx:R x):∀y∈l.set r x,R y:=λy hy=>(List.mem_or_eq_of_mem_set hy).elim (h y) λe=>e▸hx
theorem Sto.wq(S:Sto C D M s ws ps)(h:ws[q]?=some x):okW ps.length x:=S.ww x (U0 h)
theorem Sto.wi(S:Sto C D M s ws ps){x:Wt×Wt}(h:ps[i]?=some x):okW ps.length x.1/\okW ps.length x.2:=S.wp x (U0 h)
theorem Sto.pi(S:Sto C D M s ws ps)(h:ws[q]?=some (.pr i)):∃x,ps[i]?=some x:=⟨_,UU (S.wq h)⟩
theorem Sto.ok(S:Sto C D M s ws ps)(h:okW ps.length x):okU D M (uS s x):=by
 cases x with
 |pr i=>exact⟨_,S.p i _ (UU h)⟩
 |_=>trivial
theorem WE:q5Z (uS s x)=vf x:=by cases x<;>rfl
theorem Sto.put(S:Sto C D M s ws ps)(hx:okW ps.length x):Sto C D (M.set (s 1) (hl s (ws.set r x))) s (ws.set r x) ps :=
 ⟨by rw[UW λz=>by have:=S.inj 1 0 (by lia) (by lia) z;lia];exact S.s0,
   U3 (UR.mp S.h).1,
   λi x hi=>by
  have:=(UR.mp hi).1;rw[UW λz=>by have:=S.inj 1 (i+2) (by lia) (by lia) z;lia];exact S.p i x hi,
   by rw[U2];exact S.n,S.inj,v7 S.ww hx,S.wp⟩
theorem Sto.setp(S:Sto C D M s ws ps){x:Wt×Wt}(hi:i<ps.length)(hx:okW ps.length x.1/\okW ps.length x.2):Sto C D (M.set (s (i+2)) (po D s x)) s ws (ps.set i x):=by
 have hm:=(UR.mp (S.p i _ (UU hi))).1;refine⟨?_,?_,λj y hj=>?_,S.n,by rw[U2];exact S.inj,by rw[U2];exact S.ww,by rw[U2];exact v7 S.wp hx⟩
 ·rw[UW λz=>by have:=S.inj (i+2) 0 (by lia) (by lia) z;lia];exact S.s0
 ·rw[UW λz=>by have:=S.inj (i+2) 1 (by lia) (by lia) z;lia];exact S.h
 ·have ef:=(UR.mp hj).1
  rw[U2]at ef;by_cases e:i=j
  ·subst e
   rw[U3 ef]at hj;cases hj;exact U3 hm
  ·rw[UW e]at hj
   rw[UW λz=>by have:=S.inj (i+2) (j+2) (by lia) (by lia) z;lia];exact S.p j y hj
noncomputable def v6(s:Nm)(n k:Nat):Nm:=λi=>if i=n then k else s i
theorem xx:v6 s n k n=k:=G4 rfl
theorem vM(h:i≠n):v6 s n k i=s i:=GZ h
theorem VZ(h:okW n x):uS (v6 s (n+2) k) x=uS s x:=by
 cases x with
 |pr i=>
  have h:i<n:=h;show U.m _=U.m _;rw[vM (by lia)]
 |_=>rfl
theorem q4f(h:∀x∈ws,okW n x):ws.map (uS (v6 s (n+2) k))=ws.map (uS s):=Be λx hx=>VZ (h x hx)
theorem Sto.lt(S:Sto C D M s ws ps)(hi:i<ps.length+2):s i<M.length:=by
 match i,hi with
 |0,_=>exact(UR.mp S.s0).1
 |1,_=>exact(UR.mp S.h).1
 |i+2,hi=>exact(UR.mp (S.p i _ (UU (show i<ps.length by lia)))).1
theorem zf(h:k<M.length):(M++[o])[k]?=M[k]?:=U1 h
theorem Sto.new(S:Sto C D M s ws ps){x:Wt×Wt}(hx:okW ps.length x.1/\okW ps.length x.2):
  Sto C D ((M++[po D s x]).set (s 1) (.lst ((ws.map (uS s)).set r (.m M.length)))) (v6 s (ps.length+2) M.length) (ws.set r (.pr ps.length)) (ps++[x]) /\
  Go M ((M++[po D s x]).set (s 1) (.lst ((ws.map (uS s)).set r (.m M.length)))) s (v6 s (ps.length+2) M.length) (ps.length+2) ((ps++[x]).length+2):=by
 have h0:=S.lt (i:=0) (by lia);have h1:=S.lt (i:=1) (by lia);have e0:v6 s (ps.length+2) M.length 0=s 0:=vM (by lia);have e1:v6 s (ps.length+2) M.length 1=s 1:=vM (by lia);have el:(ps++[x]).length=ps.length+1:=by rw[UV];rfl
 refine⟨⟨?_,?_,λj y hj=>?_,by rw[U2];exact S.n,λi j hi hj z=>?_,?_,?_⟩,⟨?_,λk hk h=>?_,λi hi=>?_,e0⟩⟩
 ·rw[e0,e1,UW λz=>by have:=S.inj 1 0 (by lia) (by lia) z;lia,zf h0];exact S.s0
 ·rw[e1,U3 (by rw[UV];lia)]
  show _=some (MO.lst _);rw[Bn,q4f S.ww];show _=some (MO.lst ((ws.map (uS s)).set r (U.m (v6 s (ps.length+2) M.length (ps.length+2)))));rw[xx]
 ·by_cases ef:j<ps.length
  ·rw[U1 ef]at hj
   rw[vM (by lia),UW λz=>by have:=S.inj 1 (j+2) (by lia) (by lia) z;lia,zf (S.lt (by lia)),S.p j y hj];have:=S.wi hj;unfold po;rw[VZ this.1,VZ this.2]
  ·have rh:=(UR.mp hj).1
   have:j=ps.length:=by lia
   subst this;rw[qK]at hj;cases hj;rw[xx,UW (by lia),qK];unfold po;rw[VZ hx.1,VZ hx.2]
 ·rw[el]at hi hj
  by_cases a:i=ps.length+2<;>by_cases b:j=ps.length+2
  ·lia
  ·subst a
   rw[xx,vM b]at z;have:=S.lt (i:=j) (by lia);lia
  ·subst b
   rw[xx,vM a]at z;have:=S.lt (i:=i) (by lia);lia
  ·rw[vM a,vM b]at z
   exact S.inj i j (by lia) (by lia) z
 ·rw[el]
  exact v7 (λy hy=>(S.ww y hy).mono (by lia)) (show ps.length<ps.length+1 by lia)
 ·rw[el]
  intro y hy;rcases U4.mp hy with hy|hy
  ·have:=S.wp y hy
   exact⟨this.1.mono (by lia),this.2.mono (by lia)⟩
  ·cases U7.mp hy
   exact⟨hx.1.mono (by lia),hx.2.mono (by lia)⟩
 ·rw[U2,UV];lia
 ·rw[UW (Ne.symm (h 1 (by lia))),zf hk]
 ·rw[el]at hi
  by_cases a:i=ps.length+2
  ·subst a
   exact .inr (by rw[xx];exact UZ _)
  ·exact .inl ⟨i,by lia,vM a⟩
theorem qN(TP:TxP Ξ C)(S:Sto C D M s ws ps)(q:Q (.m (s 1)) M):FldS Ξ "held" (.m (s 0)) M Q:=xL TP.c TP.na S.s0 (by simp[List.lookup]) q
theorem q0u(h:M[k]?=some (hl s ws)):qI M (.m k)=some (ws.map (uS s)):=by simp[qI,h,hl]
theorem vB(h:M[k]?=some (hl s ws))(hq:ws[q]?=some x)(qq:Q (uS s x) M):IxS qI M (.m k) (.p (.int (q:Int))) Q :=
 xK (q0u h) (ze (by rw[Dh,hq];rfl)) qq
theorem V7(h:M[k]?=some (.lst us))(hr:r<us.length)(q:R (M.set k (.lst (us.set r u)))):SubS M (.m k) (.p (.int (r:Int))) u R:=by
 refine⟨k,us,r,r,rfl,h,rfl,?_,q⟩;unfold ixN;simp[hr]
theorem zc(h:M[k]?=some (hl s ws))(hr:r<ws.length)(q:R (M.set k (hl s (ws.set r x)))):SubS M (.m k) (.p (.int (r:Int))) (uS s x) R:=by
 refine V7 h (by rw[UY];exact hr) ?_;rw[<-Bn];exact q
theorem mS(S:Sto C D M s ws ps)(hm:(m==("held" : Str))=false)(q:R):VX C m (.m (s 0)) M R:=XN S.s0 (by rw[Dj,hm];rfl) q
end
theorem qL{p:Prop}[Decidable p]{a b:Prop}(h:¬p)(q:b):if p then a else b:=by rw[GZ h];exact q
theorem qO{p:Prop}[Decidable p]{a b:Prop}(h:p)(q:a):if p then a else b:=by rw[G4 h];exact q
theorem q29(q:Q (.bl (decide (a=b)))):sEqW (tO a) (tO b) Q:=by
 have two:∀{x y:Str}{k l:Int}{Q:T->Prop},Q (.bl (decide (x=y/\k=l)))->sEqW (.tup [.str x,.int k]) (.tup [.str y,.int l]) Q:=λ{x y k l Q} q=>by
  refine .inr (.inl ⟨_,_,λj=>if j=0 then decide (x=y) else decide (k=l),rfl,rfl,λj u v hx hy=>?_,?_⟩)
  ·match j with
   |0=>
    simp at hx hy;subst hx hy;have:=EqT.flat (n:=20) (a:=.str x) (b:=.str y) rfl rfl;have e:eqV (.str x) (.str y)=decide (x=y):=by
     by_cases h:x=y
     ·subst h;simp[eqV]
     ·simp[eqV,h]
    rw[e]at this;simpa using this
   |1=>
    simp at hx hy;subst hx hy;have:=EqT.flat (n:=20) (a:=.int k) (b:=.int l) rfl rfl;have e:eqV (.int k) (.int l)=decide (k=l):=by
     by_cases h:k=l
     ·subst h;simp[eqV]
     ·simp[eqV,h]
    rw[e]at this;simpa using this
   |j+2=>simp at hx
  ·have e:((List.range (min [T.str x,T.int k].length [T.str y,T.int l].length)).all (λj=>if j=0 then decide (x=y) else decide (k=l))&&[T.str x,T.int k].length==[T.str y,T.int l].length)=decide (x=y/\k=l):=by
    by_cases h:x=y<;>by_cases h2:k=l<;>simp[h,h2,RV]
   simp only[Ds,Uk];rw[e];exact q
 cases a with
 |num n=>cases b<;>first|exact .inl ⟨_,_,rfl,rfl,rfl,by simpa using q⟩|exact .inr (.inr (.inl ⟨_,rfl,rfl,by simpa using q⟩))
 |one s=>cases b<;>first|exact .inl ⟨_,_,rfl,rfl,rfl,by simpa using q⟩|exact .inr (.inr (.inl ⟨_,rfl,rfl,by simpa using q⟩))
 |sgn k=>
  cases b with
  |num m=>exact .inr (.inr (.inr ⟨_,rfl,rfl,by simpa using q⟩))
  |one t=>exact .inr (.inr (.inr ⟨_,rfl,rfl,by simpa using q⟩))
  |sgn l=>exact two (by simpa using q)
  |pr l=>exact two (by rw[G0 (λz=>absurd z.1 (by decide))];simpa using q)
 |pr k=>
  cases b with
  |num m=>exact .inr (.inr (.inr ⟨_,rfl,rfl,by simpa using q⟩))
  |one t=>exact .inr (.inr (.inr ⟨_,rfl,rfl,by simpa using q⟩))
  |sgn l=>exact two (by rw[G0 (λz=>absurd z.1 (by decide))];simpa using q)
  |pr l=>exact two (by simpa[Int.ofNat_inj]using q)
theorem q5r(S:Sto C D M s ws ps)(ha:okW ps.length a)(hb:okW ps.length b)(q:Q (.p (.bl (decide (a=b)))) M):EqUS D M (uS s a) (uS s b) Q:=by
 have la:=S.ok ha;have lb:=S.ok hb;have rj:=q29 (a:=a) (b:=b) (Q:=λt=>Q (.p t) M) q;cases a with
 |pr i=>
  cases b with
  |pr j=>
   refine q4I la lb ?_;have e:(s (i+2)==s (j+2))=decide (Wt.pr i=Wt.pr j):=by
    by_cases h:i=j
    ·subst h;simp
    ·have ha:i<ps.length:=ha
     have hb:j<ps.length:=hb;rw[beq_eq_false_iff_ne.mpr λz=>h (by have:=S.inj _ _ (by lia) (by lia) z;lia)];simp[h]
   rw[e];exact q
  |_=>exact q5u la rfl (by simpa using q)
 |_=>
  cases b with
  |pr j=>exact q4R lb rfl (by simpa using q)
  |_=>exact q6o rj
local macro_rules|`(tactic|walk_at "vx")=>`(tactic|simp only[zl,jj,jM,zB,vZ,uTry,zC,zi,jO,jP,endX,zY])
local macro_rules|`(tactic|walk_at "pk")=>`(tactic|(walk_at "v"; repeat ((first|walk_at "vx" |refine qL (by decide) ?_|refine qO rfl ?_); walk_at "v")))
noncomputable abbrev MD(P:Program)(w:World)(Ξ:PySem.W.Frag)(mg:Str->Option Value)(base:Heap)(CP:Addr)(m:Str)(k:Nat)(ps:List Str)(G:List U->MM->UK->Prop):Prop:=MDef P w Ξ mg base CP m k ("self" :: ps) (spU G)
noncomputable abbrev MX(P:Program)(w:World)(Ξ:PySem.W.Frag)(mg:Str->Option Value)(base:Heap)(CP:Addr)(m:Str)(k:Nat)(ps:List Str)(G:List U->MM->UK->UX->Prop):Prop:=q3l P w Ξ mg base CP m k ("self" :: ps) (spX mg G)
theorem Jy:OpR X (binaryOp .FloorDiv) (rI (λi j=>j≠0/\Builtin.divisionGoesByPylong i j=false) λi j=>.int (i.fdiv j)):=opI λ_a _a _a _a _a _a _a hc q=>floordiv_int hc.1 q (.inl hc.2)
theorem XA:OpR X (binaryOp .Mult) (rI IntMulOk λi j=>.int (i*j)):=opI λ_a _a _a _a _a _a _a hc q=>mul_int q hc
noncomputable abbrev Xh:Stmt:=qk (top 26) 0
theorem q0H:q00 ["self"] ["self"] (qd Xh):=by ac_rfl
noncomputable def Zw(C:Addr):List U->MM->UK->Prop:=λus M Q=>∃(ks:Nat),us=[.m ks]/\M[ks]?=some (.ins C [])/\Q (.p .non) ((M++[hl id (List.replicate 8 (.one "none"))]).set ks (.ins C [("held",.m M.length)]))
theorem Wf(F:Fun Ξ "__init__" "PlainStore.__init__" Xh f fd)(TP:TxP Ξ C)(fL:GInt mg "REGISTERS" 8):FnOk P w Ξ mg base CX0 1 f fd ["self"] (spU (Zw C)):=by
 refine F.zU q0H (by rintro _ _ _ ⟨_,rfl,_⟩;rfl) (λac A outer s H E hr=>?_);refine⟨_,(qe (xT qv0 (qC q1N (qG (qa1 qc)) (q4t fL rfl)) rfl)),_,(q2n (qr 0) (ZL (by right) (by right))),λus M Qu h=>?_⟩;obtain⟨ks,rfl,em,q⟩:=h;symm;refine YC (by decide) (by decide) (by decide) ?_;refine vO TP.c TP.na (fs:=[]) ?_ (by decide) q;rw[U1 (UR.mp em).1];exact em
noncomputable abbrev kr:Stmt:=qk (top 24) 0
theorem Ko:q00 ["self","left","right"] ["self","left","right"] (qd kr):=by ac_rfl
noncomputable def WS(D:Addr):List U->MM->UK->Prop:=λus M Q=>∃(k:Nat)(l r:U),us=[.m k,l,r]/\M[k]?=some (.ins D [])/\Q (.p .non) (M.set k (.ins D [("left", l),("right", r)]))
theorem Y4(F:Fun Ξ "__init__" "Pair.__init__" kr f fd)(TQ:TxQ Ξ D):FnOk P w Ξ mg base CX0 1 f fd ["self","left","right"] (spU (WS D)):=by
 refine F.zU Ko (by rintro _ _ _ ⟨_,_,_,rfl,_⟩;rfl) (λac A outer s H E hr=>?_);refine⟨_,(qb (xT qv0 qv1 rfl) (qe (xT qv0 qv2 rfl))),_,(by right),λus M Qu h=>?_⟩;obtain⟨k,l,r,rfl,em,q⟩:=h;symm;refine vO TQ.c TQ.nl em (by decide) ?_;symm;refine vO TQ.c TQ.nr (U3 (UR.mp em).1) (by show 1<1000;decide) ?_;rw[DS];exact q
noncomputable def Zv(C D:Addr):List U->MM->UK->Prop:=λus M Q=>∃(s:Nm)(ws:List Wt)(ps:WW)(r:Nat)(x:Wt),us=[.m (s 0),.p (.int (r:Int)),uS s x]/\Sto C D M s ws ps/\r<8/\Q (.p .non) (M.set (s 1) (hl s (ws.set r x)))
noncomputable def JP(C D:Addr):List U->MM->UK->Prop:=λus M Q=>∃(s:Nm)(ws:List Wt)(ps:WW)(r:Nat)(k:Int),us=[.m (s 0),.p (.int (r:Int)),.p (.int k)]/\Sto C D M s ws ps/\r<8/\Q (.p .non) (M.set (s 1) (hl s (ws.set r (.sgn k))))
noncomputable def JS(C D:Addr):List U->MM->UK->Prop:=λus M Q=>∃(s:Nm)(ws:List Wt)(ps:WW)(r q:Nat)(x:Wt),us=[.m (s 0),.p (.int (r:Int)),.p (.int (q:Int))]/\Sto C D M s ws ps/\r<8/\ws[q]?=some x/\Q (.p .non) (M.set (s 1) (hl s (ws.set r x)))
noncomputable def JR(C D:Addr):List U->MM->UK->Prop:=λus M Q=>∃(s:Nm)(ws:List Wt)(ps:WW)(r q p:Nat)(x y:Wt),us=[.m (s 0),.p (.int (r:Int)),.p (.int (q:Int)),.p (.int (p:Int))]/\Sto C D M s ws ps/\r<8/\ws[q]?=some x/\ws[p]?=some y/\Q (.p .non) ((M++[po D s (x,y)]).set (s 1) (.lst ((ws.map (uS s)).set r (.m M.length))))
noncomputable def JQ(C D:Addr):List U->MM->UK->Prop:=λus M Q=>∃(s:Nm)(ws:List Wt)(ps:WW)(q p:Nat)(x y:Wt),us=[.m (s 0),.p (.int (q:Int)),.p (.int (p:Int))]/\Sto C D M s ws ps/\ws[q]?=some x/\ws[p]?=some y/\Q (.p (.bl (decide (x=y)))) M
noncomputable def QC(C D:Addr):List U->MM->UK->Prop:=λus M Q=>∃(s:Nm)(ws:List Wt)(ps:WW)(q:Nat)(x:Wt),us=[.m (s 0),.p (.int (q:Int))]/\Sto C D M s ws ps/\ws[q]?=some x/\Q (.p (.str (vf x))) M
noncomputable def Zu(C D:Addr):List U->MM->UK->Prop:=λus M Q=>∃(s:Nm)(ws:List Wt)(ps:WW)(q:Nat)(x:Wt),us=[.m (s 0),.p (.int (q:Int))]/\Sto C D M s ws ps/\ws[q]?=some x/\Q (.p (tT x)) M
noncomputable abbrev ko:Stmt:=qk (top 26) 2
theorem Km:q00 ["self","r","n"] ["self","r","n"] (qd ko):=by ac_rfl
theorem XC(F:Fun Ξ "number" "PlainStore.number" ko f fd)(N:Nms mg)(TP:TxP Ξ C):FnOk P w Ξ mg base CX0 1 f fd ["self","r","n"] (spU (Zv C D)):=by
 refine F.zU Km (by rintro _ _ _ ⟨_,_,_,_,_,rfl,_⟩;rfl) (λac A outer s H E hr=>?_);refine⟨_,(qe (vh qv2 (vq (qS qv0 rfl) qv1 qR))),_,(by right),λus M Qu h=>?_⟩;obtain⟨s,ws,ps,r,x,rfl,S,aW,q⟩:=h;symm;refine qN TP S ?_;symm;exact zc S.h (by rw[S.n];exact aW) q
noncomputable abbrev Yw:Stmt:=qk (top 26) 4
theorem q3C:q00 ["self","r","text"] ["self","r","text"] (qd Yw):=by ac_rfl
theorem q1D(F:Fun Ξ "one" "PlainStore.one" Yw f fd)(N:Nms mg)(TP:TxP Ξ C):FnOk P w Ξ mg base CX0 1 f fd ["self","r","text"] (spU (Zv C D)):=by
 refine F.zU q3C (by rintro _ _ _ ⟨_,_,_,_,_,rfl,_⟩;rfl) (λac A outer s H E hr=>?_);refine⟨_,(qe (vh qv2 (vq (qS qv0 rfl) qv1 qR))),_,(by right),λus M Qu h=>?_⟩;obtain⟨s,ws,ps,r,x,rfl,S,aW,q⟩:=h;symm;refine qN TP S ?_;symm;exact zc S.h (by rw[S.n];exact aW) q
noncomputable abbrev Z9:Stmt:=qk (top 26) 3
theorem q0I:q00 ["self","r","k"] ["self","r","k"] (qd Z9):=by ac_rfl
theorem Y6(F:Fun Ξ "sign" "PlainStore.sign" Z9 f fd)(N:Nms mg)(TP:TxP Ξ C):FnOk P w Ξ mg base CX0 1 f fd ["self","r","k"] (spU (JP C D)):=by
 refine F.zU q0I (by rintro _ _ _ ⟨_,_,_,_,_,rfl,_⟩;rfl) (λac A outer s H E hr=>?_);refine⟨_,(qe (vh (qu (qa2 qc qv2)) (vq (qS qv0 rfl) qv1 qR))),_,(by right),λus M Qu h=>?_⟩;obtain⟨s,ws,ps,r,k,rfl,S,aW,q⟩:=h;symm;refine qN TP S ?_;symm;exact zc (x:=.sgn k) S.h (by rw[S.n];exact aW) q
noncomputable abbrev Xi:Stmt:=qk (top 26) 5
theorem q0F:q00 ["self","r","q"] ["self","r","q"] (qd Xi):=by ac_rfl
theorem Wg(F:Fun Ξ "copy" "PlainStore.copy" Xi f fd)(N:Nms mg)(TP:TxP Ξ C):FnOk P w Ξ mg base CX0 1 f fd ["self","r","q"] (spU (JS C D)):=by
 refine F.zU q0F (by rintro _ _ _ ⟨_,_,_,_,_,_,rfl,_⟩;rfl) (λac A outer s H E hr=>?_);refine⟨_,(qe (vh (qj (GO Ξ) (qS qv0 rfl) qv2 (λ_a _a=>rfl)) (vq (qS qv0 rfl) qv1 qR))),_,(by right),λus M Qu h=>?_⟩;obtain⟨s,ws,ps,r,q,x,rfl,S,aW,hx,qq⟩:=h;symm;refine qN TP S ?_;symm;refine vB S.h hx ?_;symm;refine qN TP S ?_;symm;exact zc S.h (by rw[S.n];exact aW) qq
theorem jY{α:Type}{l:List α}{x y:α}:(l++[x]).set l.length y=l++[y]:=by
 rw[DJ _ _ (UZ _),DA];rfl
noncomputable abbrev Xd:Stmt:=qk (top 26) 11
theorem q1o:q00 ["self","r","q","p"] ["self","r","q","p"] (qd Xd):=by ac_rfl
theorem Wa(F:Fun Ξ "pair" "PlainStore.pair" Xd f fd)(N:Nms mg)(TP:TxP Ξ C)(dI:q02 P w Ξ mg base D "Pair" 1 ["self","left","right"] (spU (WS D))):FnOk P w Ξ mg base CX0 3 f fd ["self","r","q","p"] (spU (JR C D)):=by
 refine F.zU q1o (by rintro _ _ _ ⟨_,_,_,_,_,_,_,_,rfl,_⟩;rfl) (λac A outer s H E hr=>?_);refine⟨_,(qe (vh (q4V dI (YV hr) rfl (qa2 (qj (GO Ξ) (qS qv0 rfl) qv2 (λ_a _a=>rfl)) (qj (GO Ξ) (qS qv0 rfl) qv3 (λ_a _a=>rfl)))) (vq (qS qv0 rfl) qv1 qR))),_,(vQ (Qa (by right)) (by right)),λus M Qu h=>?_⟩;obtain⟨s,ws,ps,r,q,p,x,y,rfl,S,aW,hx,hy,qq⟩:=h;have h0:=S.lt (i:=0) (by lia);have h1:=S.lt (i:=1) (by lia);symm;refine qN TP S ?_;symm;refine vB S.h hx ?_;refine qN TP S ?_;symm;refine vB S.h hy ?_;symm;refine⟨M.length,_,_,rfl,qK,rfl,?_⟩;rw[jY];refine xL (u:=.m (s 1)) TP.c TP.na ((zf h0).trans S.s0) (by simp[List.lookup]) ?_;symm;refine V7 ((zf h1).trans S.h) (by rw[UY,S.n];exact aW) ?_;exact qq
noncomputable abbrev Xa:Stmt:=qk (top 26) 17
theorem q11:q00 ["self","q","p"] ["self","q","p"] (qd Xa):=by ac_rfl
theorem Y7(F:Fun Ξ "same" "PlainStore.same" Xa f fd)(N:Nms mg)(TP:TxP Ξ C)(cj:KW Ξ D=true):FnOk P w Ξ mg base CX0 1 f fd ["self","q","p"] (spU (JQ C D)):=by
 refine F.zU q11 (by rintro _ _ _ ⟨_,_,_,_,_,_,_,rfl,_⟩;rfl) (λac A outer s H E hr=>?_);refine⟨_,(qe (qt (vF (q4D (Ξ:=Ξ) rfl cj hr.units) (qj (GO Ξ) (qS qv0 rfl) qv1 (λ_a _a=>rfl)) (qj (GO Ξ) (qS qv0 rfl) qv2 (λ_a _a=>rfl)) (qm _)))),_,(v8 (q6w (vY (QN (qr 0)) (qr 1)) (vY (QN (qr 0)) (qr 2)))),λus M Qu h=>?_⟩;obtain⟨s,ws,ps,q,p,x,y,rfl,S,hx,hy,qq⟩:=h;left;refine qN TP S ?_;left;refine vB S.h hx ?_;left;refine qN TP S ?_;left;refine vB S.h hy ?_;left;refine q5r S (S.wq hx) (S.wq hy) ?_;left;exact qq
noncomputable abbrev Xg:Stmt:=qk (top 26) 18
theorem q1g:q00 ["self","q"] ["self","q"] (qd Xg):=by ac_rfl
theorem We(F:Fun Ξ "kind" "PlainStore.kind" Xg f fd)(N:Nms mg)(TP:TxP Ξ C)(bj:Def P w Ξ mg base "kind_of" 1 ["worth"] (spU (WX D))):FnOk P w Ξ mg base CX0 2 f fd ["self","q"] (spU (QC C D)):=by
 refine F.zU q1g (by rintro _ _ _ ⟨_,_,_,_,_,rfl,_⟩;rfl) (λac A outer s H E hr=>?_);refine⟨_,(qe (qt (qo bj (YV hr) (qa1 (qj (GO Ξ) (qS qv0 rfl) qv1 (λ_a _a=>rfl)))))),_,(by right),λus M Qu h=>?_⟩;obtain⟨s,ws,ps,q,x,rfl,S,hx,qq⟩:=h;symm;refine qN TP S ?_;symm;refine vB S.h hx ?_;symm;refine⟨_,rfl,S.ok (S.wq hx),?_⟩;rw[WE];symm;exact qq
noncomputable abbrev Z8:Stmt:=qk (top 26) 19
theorem scPsTold:q00 ["self","q","worth"] ["self","q"] (qd Z8):=by ac_rfl
theorem Y5(F:Fun Ξ "told" "PlainStore.told" Z8 f fd)(N:Nms mg)(TP:TxP Ξ C)(bj:Def P w Ξ mg base "kind_of" 1 ["worth"] (spU (WX D))):FnOk P w Ξ mg base CX0 2 f fd ["self","q"] (spU (Zu C D)):=by
 refine F.zU scPsTold (by rintro _ _ _ ⟨_,_,_,_,_,rfl,_⟩;rfl) (λac A outer s H E hr=>?_);refine⟨_,(qb (qB (i:=2) scPsTold.nd rfl GL (qj (GO Ξ) (qS qv0 rfl) qv1 (λ_a _a=>rfl))) (qe (qt (vm (qi op_eq (qo bj (YV hr) (qa1 qv2)) qc (qm _)) qc qv2)))),_,(by right),λus M Qu h=>?_⟩;obtain⟨s,ws,ps,q,x,rfl,S,hx,qq⟩:=h;symm;refine qN TP S ?_;symm;refine vB S.h hx ?_;symm;refine⟨_,rfl,S.ok (S.wq hx),?_⟩;rw[WE];cases x with
 |pr i=>
  symm;refine qO rfl ?_;symm;exact qq
 |_=>
  symm;refine qL (by dsimp only[vf];decide) ?_;symm;exact qq
noncomputable def NeedN(x y:Wt)(Q:Int->Int->Prop)(X:Str->Option Int->Prop):Prop:=match x,y with
 |.num a,.num b=>Q a b
 |.num _,_=>X "WrongKind" (some 2)
 |_,_=>X "WrongKind" (some 1)
noncomputable def NeedD(x y:Wt)(Q:Int->Int->Prop)(X:Str->Option Int->Prop):Prop:=NeedN x y (λa b=>(b=0->X "Nought" none)/\(b≠0->Q a b)) X
noncomputable def NeedP(x:Wt)(Q:Nat->Prop)(X:Str->Option Int->Prop):Prop:=match x with
 |.pr i=>Q i
 |_=>X "WrongKind" (some 1)
theorem NeedN.imp(h:NeedN x y Q X)(hq:∀a b,x=.num a->y=.num b->Q a b->Q' a b)(hx:∀nm p,X nm p->X' nm p):NeedN x y Q' X':=by
 cases x<;>cases y<;>first|exact hq _ _ rfl rfl h|exact hx _ _ h
theorem NeedD.imp(h:NeedD x y Q X)(hq:∀a b,x=.num a->y=.num b->b≠0->Q a b->Q' a b)(hx:∀nm p,X nm p->X' nm p):NeedD x y Q' X' :=
 NeedN.imp h (λa b e1 e2 h=>⟨λz=>hx _ _ (h.1 z),λz=>hq a b e1 e2 z (h.2 z)⟩) hx
theorem NeedP.imp(h:NeedP x Q X)(hq:∀i,x=.pr i->Q i->Q' i)(hx:∀nm p,X nm p->X' nm p):NeedP x Q' X':=by
 cases x<;>first|exact hq _ rfl h|exact hx _ _ h
noncomputable def QF(C D:Addr):List U->MM->UK->UX->Prop:=λus M Q X=>∃(s:Nm)(ws:List Wt)(ps:WW)(q p:Nat)(x y:Wt),us=[.m (s 0),.p (.int (q:Int)),.p (.int (p:Int))]/\Sto C D M s ws ps/\ws[q]?=some x/\ws[p]?=some y/\NeedN x y (λ_a _a=>Q (.p .non) M) λnm p=>X nm p M
noncomputable def WU(C D:Addr):List U->MM->UK->UX->Prop:=λus M Q X=>∃(s:Nm)(ws:List Wt)(ps:WW)(q p:Nat)(x y:Wt),us=[.m (s 0),.p (.int (q:Int)),.p (.int (p:Int))]/\Sto C D M s ws ps/\ws[q]?=some x/\ws[p]?=some y/\NeedD x y (λ_a _a=>Q (.p .non) M) λnm p=>X nm p M
noncomputable def q1P(C D:Addr):List U->MM->UK->UX->Prop:=λus M Q X=>∃(s:Nm)(ws:List Wt)(ps:WW)(q:Nat)(x:Wt),us=[.m (s 0),.p (.int (q:Int))]/\Sto C D M s ws ps/\ws[q]?=some x/\NeedP x (λ_a=>Q (.p .non) M) λnm p=>X nm p M
theorem q2u:kh 1:=by unfold kh;decide
theorem q6n:kh 2:=by unfold kh;decide
noncomputable abbrev zO:Stmt:=top 19
theorem Q5:q00 ["store","q","p"] ["store","q","p"] (qd zO):=by ac_rfl
theorem Wj(F:Fun Ξ "need_numbers" "need_numbers" zO f fd)(N:Nms mg)(aB:Cls Ξ C)(fM:ExcD P w Ξ mg base "WrongKind" CW 1)(aC:MD P w Ξ mg base C "kind" 2 ["q"] (QC C D)):FnOk P w Ξ mg base (CXe P w) 3 f fd ["store","q","p"] (spX mg (QF C D)):=by
 refine F.zX Q5 (by rintro _ _ _ _ ⟨_,_,_,_,_,_,_,rfl,_⟩;rfl) (λac A outer s H E hr=>?_);refine⟨_,(qA (vR (qi jR (vd aC aB qv0 (YV hr) (qa1 qv1)) qc (qm _)) (qw (kB rfl rfl fM (YV hr) (qa1 qa))) vC) (qw (vR (qi jR (vd aC aB qv0 (YV hr) (qa1 qv2)) qc (qm _)) (qw (kB rfl rfl fM (YV hr) (qa1 qa))) vC))),_,(by right),λus M Qu Xu h=>?_⟩;obtain⟨s,ws,ps,q,p,x,y,rfl,S,hx,hy,k⟩:=h;left;refine mS S (by decide) ?_;left;refine⟨s,ws,ps,q,_,rfl,S,hx,?_⟩;cases x with
 |num a=>
  simp only[vf];left;refine mS S (by decide) ?_;left;refine⟨s,ws,ps,p,_,rfl,S,hy,?_⟩;cases y with
  |num b=>
   simp only[vf];left;exact k
  |_=>
   simp only[vf];left;exact⟨2,rfl,q6n,_,_,_,rfl,rfl,k⟩
 |_=>
  simp only[vf];left;exact⟨1,rfl,q2u,_,_,_,rfl,rfl,k⟩
noncomputable abbrev zQ:Stmt:=top 20
theorem Q6:q00 ["store","q","p"] ["store","q","p"] (qd zQ):=by ac_rfl
theorem Wk(F:Fun Ξ "need_divisor" "need_divisor" zQ f fd)(N:Nms mg)(aB:Cls Ξ C)(aL:ExcC Ξ mg "Nought" CN)(aa:DefX P w Ξ mg base "need_numbers" 3 ["store","q","p"] (spX mg (QF C D)))(aM:MD P w Ξ mg base C "told" 2 ["q"] (Zu C D)):FnOk P w Ξ mg base (CXe P w) 4 f fd ["store","q","p"] (spX mg (WU C D)):=by
 refine F.zX Q6 (by rintro _ _ _ _ ⟨_,_,_,_,_,_,_,rfl,_⟩;rfl) (λac A outer s H E hr=>?_);refine⟨_,(qA (vg (vI aa (YV hr) (qa3 qv0 qv1 qv2))) (qw (vR (qi op_eq (vd aM aB qv0 (YV hr) (qa1 qv2)) qa (qm _)) (qw (q0W rfl rfl aL (qa1 qc))) vC))),_,(by right),λus M Qu Xu h=>?_⟩;obtain⟨s,ws,ps,q,p,x,y,rfl,S,hx,hy,k⟩:=h;left;refine⟨s,ws,ps,q,p,x,y,rfl,S,hx,hy,?_⟩;refine NeedN.imp k (λa b ex ey k=>?_) λnm p k=>⟨_,_,_,rfl,rfl,k⟩;subst ex ey;left;refine mS S (by decide) ?_;left;refine⟨s,ws,ps,p,_,rfl,S,hy,?_⟩;simp only[tT];left;by_cases hb:b=0
 ·subst hb
  refine qO rfl ?_;left;exact⟨by decide,_,_,_,rfl,rfl,k.1 rfl⟩
 ·refine qL (by simpa using hb) ?_
  left;exact k.2 hb
noncomputable abbrev ku:Stmt:=top 21
theorem Kp:q00 ["store","q"] ["store","q"] (qd ku):=by ac_rfl
theorem Wi(F:Fun Ξ "need_pair" "need_pair" ku f fd)(N:Nms mg)(aB:Cls Ξ C)(fM:ExcD P w Ξ mg base "WrongKind" CW 1)(aC:MD P w Ξ mg base C "kind" 2 ["q"] (QC C D)):FnOk P w Ξ mg base (CXe P w) 3 f fd ["store","q"] (spX mg (q1P C D)):=by
 refine F.zX Kp (by rintro _ _ _ _ ⟨_,_,_,_,_,rfl,_⟩;rfl) (λac A outer s H E hr=>?_);refine⟨_,(qw (vR (qi jR (vd aC aB qv0 (YV hr) (qa1 qv1)) qc (qm _)) (qw (kB rfl rfl fM (YV hr) (qa1 qa))) vC)),_,(by right),λus M Qu Xu h=>?_⟩;obtain⟨s,ws,ps,q,x,rfl,S,hx,k⟩:=h;left;refine mS S (by decide) ?_;left;refine⟨s,ws,ps,q,_,rfl,S,hx,?_⟩;cases x with
 |pr i=>
  simp only[vf];left;exact k
 |_=>
  simp only[vf];left;exact⟨1,rfl,q2u,_,_,_,rfl,rfl,k⟩
noncomputable abbrev km:Stmt:=qk (top 26) 1
theorem Kl:q00 ["self","q"] ["self","q"] (qd km):=by ac_rfl
noncomputable def kZ(C D:Addr):List U->MM->UK->UX->Prop:=λus M Q X=>∃(s:Nm)(ws:List Wt)(ps:WW)(q:Nat)(x:Wt),us=[.m (s 0),.p (.int (q:Int))]/\Sto C D M s ws ps/\ws[q]?=some x/\NeedP x (λi=>Q (.m (s (i+2))) M) λnm p=>X nm p M
theorem KB(F:Fun Ξ "pair_in" "PlainStore.pair_in" km f fd)(N:Nms mg)(TP:TxP Ξ C)(bK:DefX P w Ξ mg base "need_pair" 3 ["store","q"] (spX mg (q1P C D))):FnOk P w Ξ mg base (CXe P w) 4 f fd ["self","q"] (spX mg (kZ C D)):=by
 refine F.zX Kl (by rintro _ _ _ _ ⟨_,_,_,_,_,rfl,_⟩;rfl) (λac A outer s H E hr=>?_);refine⟨_,(qA (vg (vI bK (YV hr) (qa2 qv0 qv1))) (qw (vT (qt (qj (GO Ξ) (qS qv0 rfl) qv1 (λ_a _a=>rfl)))))),_,(by right),λus M Qu Xu h=>?_⟩;obtain⟨s,ws,ps,q,x,rfl,S,hx,k⟩:=h;left;refine⟨s,ws,ps,q,x,rfl,S,hx,?_⟩;refine NeedP.imp k (λi ex k=>?_) λnm p k=>⟨_,_,_,rfl,rfl,k⟩;subst ex;left;refine qN TP S ?_;left;refine vB S.h hx ?_;left;exact k
noncomputable def gP3(C D:Addr)(op:Int->Int->(Int->Prop)->Prop):List U->MM->UK->UX->Prop:=λus M Q X=>∃(s:Nm)(ws:List Wt)(ps:WW)(r q p:Nat)(x y:Wt),us=[.m (s 0),.p (.int (r:Int)),.p (.int (q:Int)),.p (.int (p:Int))]/\Sto C D M s ws ps/\r<8/\ws[q]?=some x/\ws[p]?=some y /\
 NeedN x y (λa b=>op a b λn=>Q (.p .non) (M.set (s 1) (hl s (ws.set r (.num n))))) λnm p=>X nm p M
noncomputable def gP3D(C D:Addr)(op:Int->Int->(Int->Prop)->Prop):List U->MM->UK->UX->Prop:=λus M Q X=>∃(s:Nm)(ws:List Wt)(ps:WW)(r q p:Nat)(x y:Wt),us=[.m (s 0),.p (.int (r:Int)),.p (.int (q:Int)),.p (.int (p:Int))]/\Sto C D M s ws ps/\r<8/\ws[q]?=some x/\ws[p]?=some y /\
 NeedD x y (λa b=>op a b λn=>Q (.p .non) (M.set (s 1) (hl s (ws.set r (.num n))))) λnm p=>X nm p M
noncomputable def q0h(a b:Int)(Q:Int->Prop):Prop:=Q (a+b)
noncomputable def q0R(a b:Int)(Q:Int->Prop):Prop:=Q (a-b)
noncomputable def JA(a b:Int)(Q:Int->Prop):Prop:=IntMulOk a b/\Q (a*b)
noncomputable def q10(a b:Int)(Q:Int->Prop):Prop:=Builtin.divisionGoesByPylong a b=false/\Q (a.fdiv b)
noncomputable def q1B(a b:Int)(Q:Int->Prop):Prop:=Q (a.fmod b)
noncomputable abbrev Xc:Stmt:=qk (top 26) 6
theorem q1a:q00 ["self","r","q","p"] ["self","r","q","p"] (qd Xc):=by ac_rfl
theorem Y9(F:Fun Ξ "plus" "PlainStore.plus" Xc f fd)(N:Nms mg)(TP:TxP Ξ C)(aa:DefX P w Ξ mg base "need_numbers" 3 ["store","q","p"] (spX mg (QF C D))):FnOk P w Ξ mg base (CXe P w) 5 f fd ["self","r","q","p"] (spX mg (gP3 C D q0h)):=by
 refine F.zX q1a (by rintro _ _ _ _ ⟨_,_,_,_,_,_,_,_,rfl,_⟩;rfl) (λac A outer s H E hr=>?_);refine⟨_,(qA (vg (vI aa (YV hr) (qa3 qv0 qv2 qv3))) (qw (vT (vh (qC vz (qj (GO Ξ) (qS qv0 rfl) qv2 (λ_a _a=>rfl)) (qj (GO Ξ) (qS qv0 rfl) qv3 (λ_a _a=>rfl))) (vq (qS qv0 rfl) qv1 qR))))),_,(by right),λus M Qu Xu h=>?_⟩;obtain⟨s,ws,ps,r,q,p,x,y,rfl,S,aW,hx,hy,k⟩:=h;left;refine⟨s,ws,ps,q,p,x,y,rfl,S,hx,hy,?_⟩;refine NeedN.imp k (λa b ex ey k=>?_) λnm p k=>⟨_,_,_,rfl,rfl,k⟩;subst ex ey;left;refine qN TP S ?_;left;refine vB S.h hx ?_;refine qN TP S ?_;left;refine vB S.h hy ?_;simp only[uS];left;refine qN TP S ?_;left;exact zc (x:=.num _) S.h (by rw[S.n];exact aW) k
noncomputable abbrev Xf:Stmt:=qk (top 26) 7
theorem q0n:q00 ["self","r","q","p"] ["self","r","q","p"] (qd Xf):=by ac_rfl
theorem Wc(F:Fun Ξ "less" "PlainStore.less" Xf f fd)(N:Nms mg)(TP:TxP Ξ C)(aa:DefX P w Ξ mg base "need_numbers" 3 ["store","q","p"] (spX mg (QF C D))):FnOk P w Ξ mg base (CXe P w) 5 f fd ["self","r","q","p"] (spX mg (gP3 C D q0R)):=by
 refine F.zX q0n (by rintro _ _ _ _ ⟨_,_,_,_,_,_,_,_,rfl,_⟩;rfl) (λac A outer s H E hr=>?_);refine⟨_,(qA (vg (vI aa (YV hr) (qa3 qv0 qv2 qv3))) (qw (vT (vh (qC jF (qj (GO Ξ) (qS qv0 rfl) qv2 (λ_a _a=>rfl)) (qj (GO Ξ) (qS qv0 rfl) qv3 (λ_a _a=>rfl))) (vq (qS qv0 rfl) qv1 qR))))),_,(by right),λus M Qu Xu h=>?_⟩;obtain⟨s,ws,ps,r,q,p,x,y,rfl,S,aW,hx,hy,k⟩:=h;left;refine⟨s,ws,ps,q,p,x,y,rfl,S,hx,hy,?_⟩;refine NeedN.imp k (λa b ex ey k=>?_) λnm p k=>⟨_,_,_,rfl,rfl,k⟩;subst ex ey;left;refine qN TP S ?_;left;refine vB S.h hx ?_;refine qN TP S ?_;left;refine vB S.h hy ?_;simp only[uS];left;refine qN TP S ?_;left;exact zc (x:=.num _) S.h (by rw[S.n];exact aW) k
noncomputable abbrev Vb:Stmt:=qk (top 26) 8
theorem Yq:q00 ["self","r","q","p"] ["self","r","q","p"] (qd Vb):=by ac_rfl
theorem Kx(F:Fun Ξ "times" "PlainStore.times" Vb f fd)(N:Nms mg)(TP:TxP Ξ C)(aa:DefX P w Ξ mg base "need_numbers" 3 ["store","q","p"] (spX mg (QF C D))):FnOk P w Ξ mg base (CXe P w) 5 f fd ["self","r","q","p"] (spX mg (gP3 C D JA)):=by
 refine F.zX Yq (by rintro _ _ _ _ ⟨_,_,_,_,_,_,_,_,rfl,_⟩;rfl) (λac A outer s H E hr=>?_);refine⟨_,(qA (vg (vI aa (YV hr) (qa3 qv0 qv2 qv3))) (qw (vT (vh (qC XA (qj (GO Ξ) (qS qv0 rfl) qv2 (λ_a _a=>rfl)) (qj (GO Ξ) (qS qv0 rfl) qv3 (λ_a _a=>rfl))) (vq (qS qv0 rfl) qv1 qR))))),_,(by right),λus M Qu Xu h=>?_⟩;obtain⟨s,ws,ps,r,q,p,x,y,rfl,S,aW,hx,hy,k⟩:=h;left;refine⟨s,ws,ps,q,p,x,y,rfl,S,hx,hy,?_⟩;refine NeedN.imp k (λa b ex ey k=>?_) λnm p k=>⟨_,_,_,rfl,rfl,k⟩;subst ex ey;left;refine qN TP S ?_;left;refine vB S.h hx ?_;refine qN TP S ?_;left;refine vB S.h hy ?_;simp only[uS];left;refine⟨k.1,?_⟩;left;refine qN TP S ?_;left;exact zc (x:=.num _) S.h (by rw[S.n];exact aW) k.2
noncomputable abbrev Xe:Stmt:=qk (top 26) 9
theorem q0l:q00 ["self","r","q","p"] ["self","r","q","p"] (qd Xe):=by ac_rfl
theorem Wb(F:Fun Ξ "over" "PlainStore.over" Xe f fd)(N:Nms mg)(TP:TxP Ξ C)(aD:DefX P w Ξ mg base "need_divisor" 4 ["store","q","p"] (spX mg (WU C D))):FnOk P w Ξ mg base (CXe P w) 5 f fd ["self","r","q","p"] (spX mg (gP3D C D q10)):=by
 refine F.zX q0l (by rintro _ _ _ _ ⟨_,_,_,_,_,_,_,_,rfl,_⟩;rfl) (λac A outer s H E hr=>?_);refine⟨_,(qA (vg (vI aD (YV hr) (qa3 qv0 qv2 qv3))) (qw (vT (vh (qC Jy (qj (GO Ξ) (qS qv0 rfl) qv2 (λ_a _a=>rfl)) (qj (GO Ξ) (qS qv0 rfl) qv3 (λ_a _a=>rfl))) (vq (qS qv0 rfl) qv1 qR))))),_,(by right),λus M Qu Xu h=>?_⟩;obtain⟨s,ws,ps,r,q,p,x,y,rfl,S,aW,hx,hy,k⟩:=h;left;refine⟨s,ws,ps,q,p,x,y,rfl,S,hx,hy,?_⟩;refine NeedD.imp k (λa b ex ey hb k2=>?_) λnm p k=>⟨_,_,_,rfl,rfl,k⟩;subst ex ey;left;refine qN TP S ?_;left;refine vB S.h hx ?_;refine qN TP S ?_;left;refine vB S.h hy ?_;simp only[uS];left;refine⟨⟨hb,k2.1⟩,?_⟩;left;refine qN TP S ?_;left;exact zc (x:=.num _) S.h (by rw[S.n];exact aW) k2.2
noncomputable abbrev Xb:Stmt:=qk (top 26) 10
theorem q0x:q00 ["self","r","q","p"] ["self","r","q","p"] (qd Xb):=by ac_rfl
theorem Y8(F:Fun Ξ "rest" "PlainStore.rest" Xb f fd)(N:Nms mg)(TP:TxP Ξ C)(aD:DefX P w Ξ mg base "need_divisor" 4 ["store","q","p"] (spX mg (WU C D))):FnOk P w Ξ mg base (CXe P w) 5 f fd ["self","r","q","p"] (spX mg (gP3D C D q1B)):=by
 refine F.zX q0x (by rintro _ _ _ _ ⟨_,_,_,_,_,_,_,_,rfl,_⟩;rfl) (λac A outer s H E hr=>?_);refine⟨_,(qA (vg (vI aD (YV hr) (qa3 qv0 qv2 qv3))) (qw (vT (vh (qC Y0 (qj (GO Ξ) (qS qv0 rfl) qv2 (λ_a _a=>rfl)) (qj (GO Ξ) (qS qv0 rfl) qv3 (λ_a _a=>rfl))) (vq (qS qv0 rfl) qv1 qR))))),_,(by right),λus M Qu Xu h=>?_⟩;obtain⟨s,ws,ps,r,q,p,x,y,rfl,S,aW,hx,hy,k⟩:=h;left;refine⟨s,ws,ps,q,p,x,y,rfl,S,hx,hy,?_⟩;refine NeedD.imp k (λa b ex ey hb k2=>?_) λnm p k=>⟨_,_,_,rfl,rfl,k⟩;subst ex ey;left;refine qN TP S ?_;left;refine vB S.h hx ?_;refine qN TP S ?_;left;refine vB S.h hy ?_;simp only[uS];left;refine⟨hb,?_⟩;left;refine qN TP S ?_;left;exact zc (x:=.num _) S.h (by rw[S.n];exact aW) k2
noncomputable abbrev Vd:Stmt:=qk (top 26) 16
theorem Ys:q00 ["self","q","p"] ["self","q","p"] (qd Vd):=by ac_rfl
noncomputable def gPBelow(C D:Addr):List U->MM->UK->UX->Prop:=λus M Q X=>∃(s:Nm)(ws:List Wt)(ps:WW)(q p:Nat)(x y:Wt),us=[.m (s 0),.p (.int (q:Int)),.p (.int (p:Int))]/\Sto C D M s ws ps/\ws[q]?=some x/\ws[p]?=some y/\NeedN x y (λa b=>Q (.p (.bl (decide (a<b)))) M) λnm p=>X nm p M
theorem Kz(F:Fun Ξ "below" "PlainStore.below" Vd f fd)(N:Nms mg)(TP:TxP Ξ C)(aa:DefX P w Ξ mg base "need_numbers" 3 ["store","q","p"] (spX mg (QF C D))):FnOk P w Ξ mg base (CXe P w) 5 f fd ["self","q","p"] (spX mg (gPBelow C D)):=by
 refine F.zX Ys (by rintro _ _ _ _ ⟨_,_,_,_,_,_,_,rfl,_⟩;rfl) (λac A outer s H E hr=>?_);refine⟨_,(qA (vg (vI aa (YV hr) (qa3 qv0 qv1 qv2))) (qw (vT (qt (vF Kw (qj (GO Ξ) (qS qv0 rfl) qv1 (λ_a _a=>rfl)) (qj (GO Ξ) (qS qv0 rfl) qv2 (λ_a _a=>rfl)) (qm _)))))),_,(by right),λus M Qu Xu h=>?_⟩;obtain⟨s,ws,ps,q,p,x,y,rfl,S,hx,hy,k⟩:=h;left;refine⟨s,ws,ps,q,p,x,y,rfl,S,hx,hy,?_⟩;refine NeedN.imp k (λa b ex ey k=>?_) λnm p k=>⟨_,_,_,rfl,rfl,k⟩;subst ex ey;left;refine qN TP S ?_;left;refine vB S.h hx ?_;refine qN TP S ?_;left;refine vB S.h hy ?_;simp only[uS];left;exact k
noncomputable def gPGet(C D:Addr)(m3:Wt×Wt->Wt):List U->MM->UK->UX->Prop:=λus M Q X=>∃(s:Nm)(ws:List Wt)(ps:WW)(r q:Nat)(x:Wt),us=[.m (s 0),.p (.int (r:Int)),.p (.int (q:Int))]/\Sto C D M s ws ps/\r<8/\ws[q]?=some x/\NeedP x (λi=>∀z,ps[i]?=some z->Q (.p .non) (M.set (s 1) (hl s (ws.set r (m3 z))))) λnm p=>X nm p M
noncomputable def gPSet(C D:Addr)(put:Wt×Wt->Wt->Wt×Wt):List U->MM->UK->UX->Prop:=λus M Q X=>∃(s:Nm)(ws:List Wt)(ps:WW)(q p:Nat)(x y:Wt),us=[.m (s 0),.p (.int (q:Int)),.p (.int (p:Int))]/\Sto C D M s ws ps/\ws[q]?=some x/\ws[p]?=some y/\NeedP x (λi=>∀z,ps[i]?=some z->Q (.p .non) (M.set (s (i+2)) (po D s (put z y)))) λnm p=>X nm p M
noncomputable def putL(z:Wt×Wt)(y:Wt):Wt×Wt:=(y,z.2)
noncomputable def putR(z:Wt×Wt)(y:Wt):Wt×Wt:=(z.1,y)
noncomputable abbrev Vc:Stmt:=qk (top 26) 12
theorem Yr:q00 ["self","r","q"] ["self","r","q"] (qd Vc):=by ac_rfl
theorem Ky(F:Fun Ξ "first" "PlainStore.first" Vc f fd)(N:Nms mg)(TP:TxP Ξ C)(TQ:TxQ Ξ D)(aB:Cls Ξ C)(am:MX P w Ξ mg base C "pair_in" 4 ["q"] (kZ C D)):FnOk P w Ξ mg base (CXe P w) 5 f fd ["self","r","q"] (spX mg (gPGet C D Prod.fst)):=by
 refine F.zX Yr (by rintro _ _ _ _ ⟨_,_,_,_,_,_,rfl,_⟩;rfl) (λac A outer s H E hr=>?_);refine⟨_,(qw (q1X (q1K (qY qv0 aB am (YV hr) (qa1 qv2))) (vq (qS qv0 rfl) qv1 qR))),_,(Gq (q2j (X6 (qr 0) (ql (qr 2) qJ))) (by right)),λus M Qu Xu h=>?_⟩;obtain⟨s,ws,ps,r,q,x,rfl,S,aW,hx,k⟩:=h;left;refine mS S (by decide) ?_;left;refine⟨s,ws,ps,q,x,rfl,S,hx,?_⟩;refine NeedP.imp k (λi ex k=>?_) λnm p k=>⟨_,_,_,rfl,rfl,k⟩;subst ex;obtain⟨z,hz⟩:=S.pi hx;refine xL (u:=uS s (Prod.fst z)) TQ.c TQ.nl (S.p i z hz) rfl ?_;left;refine qN TP S ?_;left;exact zc (x:=Prod.fst z) S.h (by rw[S.n];exact aW) (k z hz)
noncomputable abbrev kj:Stmt:=qk (top 26) 13
theorem Kk:q00 ["self","r","q"] ["self","r","q"] (qd kj):=by ac_rfl
theorem XB(F:Fun Ξ "second" "PlainStore.second" kj f fd)(N:Nms mg)(TP:TxP Ξ C)(TQ:TxQ Ξ D)(aB:Cls Ξ C)(am:MX P w Ξ mg base C "pair_in" 4 ["q"] (kZ C D)):FnOk P w Ξ mg base (CXe P w) 5 f fd ["self","r","q"] (spX mg (gPGet C D Prod.snd)):=by
 refine F.zX Kk (by rintro _ _ _ _ ⟨_,_,_,_,_,_,rfl,_⟩;rfl) (λac A outer s H E hr=>?_);refine⟨_,(qw (q1X (q1K (qY qv0 aB am (YV hr) (qa1 qv2))) (vq (qS qv0 rfl) qv1 qR))),_,(Gq (q2j (X6 (qr 0) (ql (qr 2) qJ))) (by right)),λus M Qu Xu h=>?_⟩;obtain⟨s,ws,ps,r,q,x,rfl,S,aW,hx,k⟩:=h;left;refine mS S (by decide) ?_;left;refine⟨s,ws,ps,q,x,rfl,S,hx,?_⟩;refine NeedP.imp k (λi ex k=>?_) λnm p k=>⟨_,_,_,rfl,rfl,k⟩;subst ex;obtain⟨z,hz⟩:=S.pi hx;refine xL (u:=uS s (Prod.snd z)) TQ.c TQ.nr (S.p i z hz) rfl ?_;left;refine qN TP S ?_;left;exact zc (x:=Prod.snd z) S.h (by rw[S.n];exact aW) (k z hz)
noncomputable abbrev xB:Stmt:=qk (top 26) 14
theorem scPsSetFirst:q00 ["self","q","p","changed"] ["self","q","p"] (qd xB):=by ac_rfl
theorem Qh(F:Fun Ξ "set_first" "PlainStore.set_first" xB f fd)(N:Nms mg)(TP:TxP Ξ C)(TQ:TxQ Ξ D)(aB:Cls Ξ C)(am:MX P w Ξ mg base C "pair_in" 4 ["q"] (kZ C D)):FnOk P w Ξ mg base (CXe P w) 5 f fd ["self","q","p"] (spX mg (gPSet C D putL)):=by
 refine F.zX scPsSetFirst (by rintro _ _ _ _ ⟨_,_,_,_,_,_,_,rfl,_⟩;rfl) (λac A outer s H E hr=>?_);refine⟨_,(qA (Jt (i:=3) scPsSetFirst.nd rfl (.inl rfl) (qY qv0 aB am (YV hr) (qa1 qv1))) (qw (vT (xT qv3 (qj (GO Ξ) (qS qv0 rfl) qv2 (λ_a _a=>rfl)) rfl)))),_,(by right),λus M Qu Xu h=>?_⟩;obtain⟨s,ws,ps,q,p,x,y,rfl,S,hx,hy,k⟩:=h;left;refine mS S (by decide) ?_;left;refine⟨s,ws,ps,q,x,rfl,S,hx,?_⟩;refine NeedP.imp k (λi ex k=>?_) λnm p k=>⟨_,_,_,rfl,rfl,k⟩;subst ex;obtain⟨z,hz⟩:=S.pi hx;left;refine qN TP S ?_;left;refine vB S.h hy ?_;left;exact vO TQ.c TQ.nl (S.p i z hz) (by show 2<1000;decide) (k z hz)
noncomputable abbrev zN:Stmt:=qk (top 26) 15
theorem scPsSetSecond:q00 ["self","q","p","changed"] ["self","q","p"] (qd zN):=by ac_rfl
theorem kL(F:Fun Ξ "set_second" "PlainStore.set_second" zN f fd)(N:Nms mg)(TP:TxP Ξ C)(TQ:TxQ Ξ D)(aB:Cls Ξ C)(am:MX P w Ξ mg base C "pair_in" 4 ["q"] (kZ C D)):FnOk P w Ξ mg base (CXe P w) 5 f fd ["self","q","p"] (spX mg (gPSet C D putR)):=by
 refine F.zX scPsSetSecond (by rintro _ _ _ _ ⟨_,_,_,_,_,_,_,rfl,_⟩;rfl) (λac A outer s H E hr=>?_);refine⟨_,(qA (Jt (i:=3) scPsSetSecond.nd rfl (.inl rfl) (qY qv0 aB am (YV hr) (qa1 qv1))) (qw (vT (xT qv3 (qj (GO Ξ) (qS qv0 rfl) qv2 (λ_a _a=>rfl)) rfl)))),_,(by right),λus M Qu Xu h=>?_⟩;obtain⟨s,ws,ps,q,p,x,y,rfl,S,hx,hy,k⟩:=h;left;refine mS S (by decide) ?_;left;refine⟨s,ws,ps,q,x,rfl,S,hx,?_⟩;refine NeedP.imp k (λi ex k=>?_) λnm p k=>⟨_,_,_,rfl,rfl,k⟩;subst ex;obtain⟨z,hz⟩:=S.pi hx;left;refine qN TP S ?_;left;refine vB S.h hy ?_;left;exact vO TQ.c TQ.nr (S.p i z hz) (by show 2<1000;decide) (k z hz)
inductive DeedDo(ws:List Wt)(ps:WW):List T->List Wt->WW->Prop
 |num (r:Nat) (n:Int) (hr:r<8):DeedDo ws ps [.str "number",.int (r:Int),.int n] (ws.set r (.num n)) ps
 |sgn (r:Nat) (k:Int) (hr:r<8):DeedDo ws ps [.str "sign",.int (r:Int),.int k] (ws.set r (.sgn k)) ps
 |one (r:Nat) (t:Str) (hr:r<8):DeedDo ws ps [.str "one",.int (r:Int),.str t] (ws.set r (.one t)) ps
 |copy (r q:Nat) (x:Wt) (hr:r<8) (hq:ws[q]?=some x):DeedDo ws ps [.str "copy",.int (r:Int),.int (q:Int)] (ws.set r x) ps
 |plus (r q p:Nat) (a b:Int) (hr:r<8) (hq:ws[q]?=some (.num a)) (hp:ws[p]?=some (.num b)):DeedDo ws ps [.str "plus",.int (r:Int),.int (q:Int),.int (p:Int)] (ws.set r (.num (a+b))) ps
 |less (r q p:Nat) (a b:Int) (hr:r<8) (hq:ws[q]?=some (.num a)) (hp:ws[p]?=some (.num b)):DeedDo ws ps [.str "less",.int (r:Int),.int (q:Int),.int (p:Int)] (ws.set r (.num (a-b))) ps
 |times (r q p:Nat) (a b:Int) (hr:r<8) (hq:ws[q]?=some (.num a)) (hp:ws[p]?=some (.num b)) (hm:IntMulOk a b):DeedDo ws ps [.str "times",.int (r:Int),.int (q:Int),.int (p:Int)] (ws.set r (.num (a*b))) ps
 |over (r q p:Nat) (a b:Int) (hr:r<8) (hq:ws[q]?=some (.num a)) (hp:ws[p]?=some (.num b)) (hb:b≠0) (hd:Builtin.divisionGoesByPylong a b=false):DeedDo ws ps [.str "over",.int (r:Int),.int (q:Int),.int (p:Int)] (ws.set r (.num (a.fdiv b))) ps
 |rest (r q p:Nat) (a b:Int) (hr:r<8) (hq:ws[q]?=some (.num a)) (hp:ws[p]?=some (.num b)) (hb:b≠0):DeedDo ws ps [.str "rest",.int (r:Int),.int (q:Int),.int (p:Int)] (ws.set r (.num (a.fmod b))) ps
 |pair (r q p:Nat) (x y:Wt) (hr:r<8) (hq:ws[q]?=some x) (hp:ws[p]?=some y):DeedDo ws ps [.str "pair",.int (r:Int),.int (q:Int),.int (p:Int)] (ws.set r (.pr ps.length)) (ps++[(x,y)])
 |first (r q i:Nat) (z:Wt×Wt) (hr:r<8) (hq:ws[q]?=some (.pr i)) (hi:ps[i]?=some z):DeedDo ws ps [.str "first",.int (r:Int),.int (q:Int)] (ws.set r z.1) ps
 |second (r q i:Nat) (z:Wt×Wt) (hr:r<8) (hq:ws[q]?=some (.pr i)) (hi:ps[i]?=some z):DeedDo ws ps [.str "second",.int (r:Int),.int (q:Int)] (ws.set r z.2) ps
 |setL (q p i:Nat) (z:Wt×Wt) (y:Wt) (hq:ws[q]?=some (.pr i)) (hi:ps[i]?=some z) (hp:ws[p]?=some y):DeedDo ws ps [.str "set_first",.int (q:Int),.int (p:Int)] ws (ps.set i (y,z.2))
 |setR (q p i:Nat) (z:Wt×Wt) (y:Wt) (hq:ws[q]?=some (.pr i)) (hi:ps[i]?=some z) (hp:ws[p]?=some y):DeedDo ws ps [.str "set_second",.int (q:Int),.int (p:Int)] ws (ps.set i (z.1,y))
inductive DeedAsk(ws:List Wt):List T->T->Prop
 |kind (q:Nat) (x:Wt) (hq:ws[q]?=some x):DeedAsk ws [.str "kind",.int (q:Int)] (.str (vf x))
 |told (q:Nat) (x:Wt) (hq:ws[q]?=some x):DeedAsk ws [.str "told",.int (q:Int)] (tT x)
 |same (q p:Nat) (x y:Wt) (hq:ws[q]?=some x) (hp:ws[p]?=some y):DeedAsk ws [.str "same",.int (q:Int),.int (p:Int)] (.bl (decide (x=y)))
 |below (q p:Nat) (a b:Int) (hq:ws[q]?=some (.num a)) (hp:ws[p]?=some (.num b)):DeedAsk ws [.str "below",.int (q:Int),.int (p:Int)] (.bl (decide (a<b)))
noncomputable def five(w:Str):Prop:=w = "plus" \/ w = "less" \/ w = "times" \/ w = "over" \/ w = "rest"
inductive DeedNo(ws:List Wt):List T->Str->Option Int->Prop
 |n1 (w:Str) (hw:five w) (r q p:Nat) (x y:Wt) (hr:r<8) (hq:ws[q]?=some x) (hx:vf x ≠ "number") (hp:ws[p]?=some y):DeedNo ws [.str w,.int (r:Int),.int (q:Int),.int (p:Int)] "WrongKind" (some 1)
 |n2 (w:Str) (hw:five w) (r q p:Nat) (a:Int) (y:Wt) (hr:r<8) (hq:ws[q]?=some (.num a)) (hp:ws[p]?=some y) (hy:vf y ≠ "number"):DeedNo ws [.str w,.int (r:Int),.int (q:Int),.int (p:Int)] "WrongKind" (some 2)
 |nz (w:Str) (hw:w = "over" \/ w = "rest") (r q p:Nat) (a:Int) (hr:r<8) (hq:ws[q]?=some (.num a)) (hp:ws[p]?=some (.num 0)):DeedNo ws [.str w,.int (r:Int),.int (q:Int),.int (p:Int)] "Nought" none
 |p1 (w:Str) (hw:w = "first" \/ w = "second") (r q:Nat) (x:Wt) (hr:r<8) (hq:ws[q]?=some x) (hx:vf x ≠ "pair"):DeedNo ws [.str w,.int (r:Int),.int (q:Int)] "WrongKind" (some 1)
 |p2 (w:Str) (hw:w = "set_first" \/ w = "set_second") (q p:Nat) (x y:Wt) (hq:ws[q]?=some x) (hx:vf x ≠ "pair") (hp:ws[p]?=some y):DeedNo ws [.str w,.int (q:Int),.int (p:Int)] "WrongKind" (some 1)
inductive AskNo(ws:List Wt):List T->Int->Prop
 |b1 (q p:Nat) (x y:Wt) (hq:ws[q]?=some x) (hx:vf x ≠ "number") (hp:ws[p]?=some y):AskNo ws [.str "below",.int (q:Int),.int (p:Int)] 1
 |b2 (q p:Nat) (a:Int) (y:Wt) (hq:ws[q]?=some (.num a)) (hp:ws[p]?=some y) (hy:vf y ≠ "number"):AskNo ws [.str "below",.int (q:Int),.int (p:Int)] 2
theorem xb(h:vf x ≠ "number")(k:X "WrongKind" (some 1)):NeedN x y Q X:=by cases x<;>first|exact absurd rfl h|exact k
theorem xa(h:vf y ≠ "number")(k:X "WrongKind" (some 2)):NeedN (.num a) y Q X:=by cases y<;>first|exact absurd rfl h|exact k
theorem Vt(h:vf x ≠ "pair")(k:X "WrongKind" (some 1)):NeedP x Q X:=by cases x<;>first|exact absurd rfl h|exact k
theorem Ws(k:X "Nought" none):NeedD (.num a) (.num 0) Q X:=⟨λ_a=>k,λh=>absurd rfl h⟩
theorem JD(h:b≠0)(k:Q a b):NeedD (.num a) (.num b) Q X:=⟨λz=>absurd z h,λ_a=>k⟩
noncomputable def Out(C D:Addr)(ds:List T)(k:Nat)(M:MM)(Q:UK)(X:UX):Prop:=∃(s:Nm)(ws:List Wt)(ps:WW),k=s 0/\Sto C D M s ws ps /\
 ((∃aw ak,DeedDo ws ps ds aw ak/\∀M' s',Sto C D M' s' aw ak->Go M M' s s' (ps.length+2) (ak.length+2)->Q (.p .non) M')\/(∃bU,DeedAsk ws ds bU/\Q (.p bU) M)\/(∃nm p,DeedNo ws ds nm p/\X nm p M)\/∃p,AskNo ws ds p/\X "WrongKind" (some p) M)
inductive Call(C D:Addr)(k:Nat)(M:MM)(Q:UK)(X:UX):List T->Prop
 |number (a b:T) (h:Zv C D [.m k,.p a,.p b] M Q):Call C D k M Q X [.str "number", a,b]
 |sign (a b:T) (h:JP C D [.m k,.p a,.p b] M Q):Call C D k M Q X [.str "sign", a,b]
 |one (a b:T) (h:Zv C D [.m k,.p a,.p b] M Q):Call C D k M Q X [.str "one", a,b]
 |copy (a b:T) (h:JS C D [.m k,.p a,.p b] M Q):Call C D k M Q X [.str "copy", a,b]
 |pair (a b c:T) (h:JR C D [.m k,.p a,.p b,.p c] M Q):Call C D k M Q X [.str "pair", a,b,c]
 |same (a b:T) (h:JQ C D [.m k,.p a,.p b] M Q):Call C D k M Q X [.str "same", a,b]
 |kind (a:T) (h:QC C D [.m k,.p a] M Q):Call C D k M Q X [.str "kind", a]
 |told (a:T) (h:Zu C D [.m k,.p a] M Q):Call C D k M Q X [.str "told", a]
 |plus (a b c:T) (h:gP3 C D q0h [.m k,.p a,.p b,.p c] M Q X):Call C D k M Q X [.str "plus", a,b,c]
 |less (a b c:T) (h:gP3 C D q0R [.m k,.p a,.p b,.p c] M Q X):Call C D k M Q X [.str "less", a,b,c]
 |times (a b c:T) (h:gP3 C D JA [.m k,.p a,.p b,.p c] M Q X):Call C D k M Q X [.str "times", a,b,c]
 |over (a b c:T) (h:gP3D C D q10 [.m k,.p a,.p b,.p c] M Q X):Call C D k M Q X [.str "over", a,b,c]
 |rest (a b c:T) (h:gP3D C D q1B [.m k,.p a,.p b,.p c] M Q X):Call C D k M Q X [.str "rest", a,b,c]
 |first (a b:T) (h:gPGet C D Prod.fst [.m k,.p a,.p b] M Q X):Call C D k M Q X [.str "first", a,b]
 |second (a b:T) (h:gPGet C D Prod.snd [.m k,.p a,.p b] M Q X):Call C D k M Q X [.str "second", a,b]
 |setL (a b:T) (h:gPSet C D putL [.m k,.p a,.p b] M Q X):Call C D k M Q X [.str "set_first", a,b]
 |setR (a b:T) (h:gPSet C D putR [.m k,.p a,.p b] M Q X):Call C D k M Q X [.str "set_second", a,b]
 |below (a b:T) (h:gPBelow C D [.m k,.p a,.p b] M Q X):Call C D k M Q X [.str "below", a,b]
theorem Out.call(h:Out C D ds k M Q X):Call C D k M Q X ds:=by
 obtain⟨s,ws,ps,rfl,S,h⟩:=h;rcases h with⟨aw,ak,hd,q⟩|⟨bU,hd,q⟩|⟨nm,pp,hd,q⟩|⟨pp,hd,q⟩
 ·cases hd with
  |num r n hr=>exact .number _ _ ⟨s,ws,ps,r,.num n,rfl,S,hr,q _ s (S.put trivial) (.set (by lia))⟩
  |sgn r n hr=>exact .sign _ _ ⟨s,ws,ps,r,n,rfl,S,hr,q _ s (S.put trivial) (.set (by lia))⟩
  |one r n hr=>exact .one _ _ ⟨s,ws,ps,r,.one n,rfl,S,hr,q _ s (S.put trivial) (.set (by lia))⟩
  |copy r qq x hr hq=>exact .copy _ _ ⟨s,ws,ps,r,qq,x,rfl,S,hr,hq,q _ s (S.put (S.wq hq)) (.set (by lia))⟩
  |plus r qq p a b hr hq hp=>exact .plus _ _ _ ⟨s,ws,ps,r,qq,p,_,_,rfl,S,hr,hq,hp,q _ s (S.put trivial) (.set (by lia))⟩
  |less r qq p a b hr hq hp=>exact .less _ _ _ ⟨s,ws,ps,r,qq,p,_,_,rfl,S,hr,hq,hp,q _ s (S.put trivial) (.set (by lia))⟩
  |times r qq p a b hr hq hp hm=>exact .times _ _ _ ⟨s,ws,ps,r,qq,p,_,_,rfl,S,hr,hq,hp,hm,q _ s (S.put trivial) (.set (by lia))⟩
  |over r qq p a b hr hq hp hb gT=>exact .over _ _ _ ⟨s,ws,ps,r,qq,p,_,_,rfl,S,hr,hq,hp,JD hb ⟨gT,q _ s (S.put trivial) (.set (by lia))⟩⟩
  |rest r qq p a b hr hq hp hb=>exact .rest _ _ _ ⟨s,ws,ps,r,qq,p,_,_,rfl,S,hr,hq,hp,JD hb (q _ s (S.put trivial) (.set (by lia)))⟩
  |pair r qq p x y hr hq hp=>
   have nw:=S.new (r:=r) (x:=(x,y)) ⟨S.wq hq,S.wq hp⟩;exact .pair _ _ _ ⟨s,ws,ps,r,qq,p,_,_,rfl,S,hr,hq,hp,q _ _ nw.1 nw.2⟩
  |first r qq i z hr hq hi=>
   refine .first _ _ ⟨s,ws,ps,r,qq,_,rfl,S,hr,hq,λz' hz=>?_⟩;rw[hi]at hz;cases hz;exact q _ s (S.put (S.wi hi).1) (.set (by lia))
  |second r qq i z hr hq hi=>
   refine .second _ _ ⟨s,ws,ps,r,qq,_,rfl,S,hr,hq,λz' hz=>?_⟩;rw[hi]at hz;cases hz;exact q _ s (S.put (S.wi hi).2) (.set (by lia))
  |setL qq p i z y hq hi hp=>
   have hl:i<ps.length:=S.wq hq;rw[U2]at q;refine .setL _ _ ⟨s,ws,ps,qq,p,_,_,rfl,S,hq,hp,λz' hz=>?_⟩;rw[hi]at hz;cases hz;exact q _ s (S.setp hl ⟨S.wq hp,(S.wi hi).2⟩) (.set (by lia))
  |setR qq p i z y hq hi hp=>
   have hl:i<ps.length:=S.wq hq;rw[U2]at q;refine .setR _ _ ⟨s,ws,ps,qq,p,_,_,rfl,S,hq,hp,λz' hz=>?_⟩;rw[hi]at hz;cases hz;exact q _ s (S.setp hl ⟨(S.wi hi).1,S.wq hp⟩) (.set (by lia))
 ·cases hd with
  |kind qq x hq=>exact .kind _ ⟨s,ws,ps,qq,x,rfl,S,hq,q⟩
  |told qq x hq=>exact .told _ ⟨s,ws,ps,qq,x,rfl,S,hq,q⟩
  |same qq p x y hq hp=>exact .same _ _ ⟨s,ws,ps,qq,p,x,y,rfl,S,hq,hp,q⟩
  |below qq p a b hq hp=>exact .below _ _ ⟨s,ws,ps,qq,p,_,_,rfl,S,hq,hp,q⟩
 ·cases hd with
  |n1 ww hw r qq p x y hr hq hx hp=>
   rcases hw with rfl|rfl|rfl|rfl|rfl
   ·exact .plus _ _ _ ⟨s,ws,ps,r,qq,p,x,y,rfl,S,hr,hq,hp,xb hx q⟩
   ·exact .less _ _ _ ⟨s,ws,ps,r,qq,p,x,y,rfl,S,hr,hq,hp,xb hx q⟩
   ·exact .times _ _ _ ⟨s,ws,ps,r,qq,p,x,y,rfl,S,hr,hq,hp,xb hx q⟩
   ·exact .over _ _ _ ⟨s,ws,ps,r,qq,p,x,y,rfl,S,hr,hq,hp,xb hx q⟩
   ·exact .rest _ _ _ ⟨s,ws,ps,r,qq,p,x,y,rfl,S,hr,hq,hp,xb hx q⟩
  |n2 ww hw r qq p a y hr hq hp hy=>
   rcases hw with rfl|rfl|rfl|rfl|rfl
   ·exact .plus _ _ _ ⟨s,ws,ps,r,qq,p,_,y,rfl,S,hr,hq,hp,xa hy q⟩
   ·exact .less _ _ _ ⟨s,ws,ps,r,qq,p,_,y,rfl,S,hr,hq,hp,xa hy q⟩
   ·exact .times _ _ _ ⟨s,ws,ps,r,qq,p,_,y,rfl,S,hr,hq,hp,xa hy q⟩
   ·exact .over _ _ _ ⟨s,ws,ps,r,qq,p,_,y,rfl,S,hr,hq,hp,xa hy q⟩
   ·exact .rest _ _ _ ⟨s,ws,ps,r,qq,p,_,y,rfl,S,hr,hq,hp,xa hy q⟩
  |nz ww hw r qq p a hr hq hp=>
   rcases hw with rfl|rfl
   ·exact .over _ _ _ ⟨s,ws,ps,r,qq,p,_,_,rfl,S,hr,hq,hp,Ws q⟩
   ·exact .rest _ _ _ ⟨s,ws,ps,r,qq,p,_,_,rfl,S,hr,hq,hp,Ws q⟩
  |p1 ww hw r qq x hr hq hx=>
   rcases hw with rfl|rfl
   ·exact .first _ _ ⟨s,ws,ps,r,qq,x,rfl,S,hr,hq,Vt hx q⟩
   ·exact .second _ _ ⟨s,ws,ps,r,qq,x,rfl,S,hr,hq,Vt hx q⟩
  |p2 ww hw qq p x y hq hx hp=>
   rcases hw with rfl|rfl
   ·exact .setL _ _ ⟨s,ws,ps,qq,p,x,y,rfl,S,hq,hp,Vt hx q⟩
   ·exact .setR _ _ ⟨s,ws,ps,qq,p,x,y,rfl,S,hq,hp,Vt hx q⟩
 ·cases hd with
  |b1 qq p x y hq hx hp=>exact .below _ _ ⟨s,ws,ps,qq,p,x,y,rfl,S,hq,hp,xb hx q⟩
  |b2 qq p a y hq hp hy=>exact .below _ _ ⟨s,ws,ps,qq,p,_,y,rfl,S,hq,hp,xa hy q⟩
theorem gP3.imp(h:gP3 C D op us M Q X)(hx:∀nm p M',X nm p M'->X' nm p M'):gP3 C D op us M Q X':=by
 obtain⟨s,ws,ps,r,q,p,x,y,e,S,hr,hq,hp,k⟩:=h;exact⟨s,ws,ps,r,q,p,x,y,e,S,hr,hq,hp,NeedN.imp k (λ_a _a _a _a z=>z) λnm p z=>hx nm p M z⟩
theorem gP3D.imp(h:gP3D C D op us M Q X)(hx:∀nm p M',X nm p M'->X' nm p M'):gP3D C D op us M Q X':=by
 obtain⟨s,ws,ps,r,q,p,x,y,e,S,hr,hq,hp,k⟩:=h;exact⟨s,ws,ps,r,q,p,x,y,e,S,hr,hq,hp,NeedD.imp k (λ_a _a _a _a _a z=>z) λnm p z=>hx nm p M z⟩
theorem gPBelow.imp(h:gPBelow C D us M Q X)(hx:∀nm p M',X nm p M'->X' nm p M'):gPBelow C D us M Q X':=by
 obtain⟨s,ws,ps,q,p,x,y,e,S,hq,hp,k⟩:=h;exact⟨s,ws,ps,q,p,x,y,e,S,hq,hp,NeedN.imp k (λ_a _a _a _a z=>z) λnm p z=>hx nm p M z⟩
theorem gPGet.imp(h:gPGet C D f us M Q X)(hx:∀nm p M',X nm p M'->X' nm p M'):gPGet C D f us M Q X':=by
 obtain⟨s,ws,ps,r,q,x,e,S,hr,hq,k⟩:=h;exact⟨s,ws,ps,r,q,x,e,S,hr,hq,NeedP.imp k (λ_a _a z=>z) λnm p z=>hx nm p M z⟩
theorem gPSet.imp(h:gPSet C D f us M Q X)(hx:∀nm p M',X nm p M'->X' nm p M'):gPSet C D f us M Q X':=by
 obtain⟨s,ws,ps,q,p,x,y,e,S,hq,hp,k⟩:=h;exact⟨s,ws,ps,q,p,x,y,e,S,hq,hp,NeedP.imp k (λ_a _a z=>z) λnm p z=>hx nm p M z⟩
noncomputable abbrev ky:Stmt:=top 72
theorem scDeedDone:q00 ["store","deed","word"] ["store","deed"] (qd ky):=by ac_rfl
noncomputable def Zy(C D:Addr):List U->MM->UK->UX->Prop:=λus M Q X=>∃(k:Nat)(ds:List T),us=[.m k,.p (.tup ds)]/\Out C D ds k M Q X
set_option tactic.hygienic true in
theorem Vr(F:Fun Ξ "_law_deed_done" "_law_deed_done" ky f fd)(N:Nms mg)(aB:Cls Ξ C)(aN:MD P w Ξ mg base C "number" 1 ["r","n"] (Zv C D))(bn:MD P w Ξ mg base C "sign" 1 ["r","k"] (JP C D))(bL:MD P w Ξ mg base C "one" 1 ["r","text"] (Zv C D))(bo:MD P w Ξ mg base C "copy" 1 ["r","q"] (JS C D))(bp:MX P w Ξ mg base C "plus" 5 ["r","q","p"] (gP3 C D q0h))(bq:MX P w Ξ mg base C "less" 5 ["r","q","p"] (gP3 C D q0R))(aS:MX P w Ξ mg base C "times" 5 ["r","q","p"] (gP3 C D JA))(br:MX P w Ξ mg base C "over" 5 ["r","q","p"] (gP3D C D q10))(bt:MX P w Ξ mg base C "rest" 5 ["r","q","p"] (gP3D C D q1B))(bu:MD P w Ξ mg base C "pair" 3 ["r","q","p"] (JR C D))(aT:MX P w Ξ mg base C "first" 5 ["r","q"] (gPGet C D Prod.fst))(aO:MX P w Ξ mg base C "second" 5 ["r","q"] (gPGet C D Prod.snd))(aF:MX P w Ξ mg base C "set_first" 5 ["q","p"] (gPSet C D putL))(aE:MX P w Ξ mg base C "set_second" 5 ["q","p"] (gPSet C D putR))(aU:MX P w Ξ mg base C "below" 5 ["q","p"] (gPBelow C D))(bv:MD P w Ξ mg base C "same" 1 ["q","p"] (JQ C D))(aC:MD P w Ξ mg base C "kind" 2 ["q"] (QC C D))(aM:MD P w Ξ mg base C "told" 2 ["q"] (Zu C D)):FnOk P w Ξ mg base (CXe P w) 6 f fd ["store","deed"] (spX mg (Zy C D)):=by
 refine F.zX scDeedDone (by rintro _ _ _ _ ⟨_,_,rfl,_⟩;rfl) (λac A outer s H E hr=>?_);refine⟨_,(qA (vT (qB (i:=2) scDeedDone.nd rfl GL (qj (GQ Ξ) qv1 qa (λ_a _a=>rfl)))) (qA (vT (qP (qi op_eq qv2 qc (qm _)) (qe (qt (vd aN aB qv0 (YV hr) (qa2 (qj (GQ Ξ) qv1 qa (λ_a _a=>rfl)) (qj (GQ Ξ) qv1 qa (λ_a _a=>rfl)))))) qx)) (qA (vT (qP (qi op_eq qv2 qc (qm _)) (qe (qt (vd bn aB qv0 (YV hr) (qa2 (qj (GQ Ξ) qv1 qa (λ_a _a=>rfl)) (qj (GQ Ξ) qv1 qa (λ_a _a=>rfl)))))) qx)) (qA (vT (qP (qi op_eq qv2 qc (qm _)) (qe (qt (vd bL aB qv0 (YV hr) (qa2 (qj (GQ Ξ) qv1 qa (λ_a _a=>rfl)) (qj (GQ Ξ) qv1 qa (λ_a _a=>rfl)))))) qx)) (qA (vT (qP (qi op_eq qv2 qc (qm _)) (qe (qt (vd bo aB qv0 (YV hr) (qa2 (qj (GQ Ξ) qv1 qa (λ_a _a=>rfl)) (qj (GQ Ξ) qv1 qa (λ_a _a=>rfl)))))) qx)) (qA (vR (qi op_eq qv2 qc (qm _)) (qw (zD (qY qv0 aB bp (YV hr) (qa3 (qj (GQ Ξ) qv1 qa (λ_a _a=>rfl)) (qj (GQ Ξ) qv1 qa (λ_a _a=>rfl)) (qj (GQ Ξ) qv1 qa (λ_a _a=>rfl)))))) vC) (qA (vR (qi op_eq qv2 qc (qm _)) (qw (zD (qY qv0 aB bq (YV hr) (qa3 (qj (GQ Ξ) qv1 qa (λ_a _a=>rfl)) (qj (GQ Ξ) qv1 qa (λ_a _a=>rfl)) (qj (GQ Ξ) qv1 qa (λ_a _a=>rfl)))))) vC) (qA (vR (qi op_eq qv2 qc (qm _)) (qw (zD (qY qv0 aB aS (YV hr) (qa3 (qj (GQ Ξ) qv1 qa (λ_a _a=>rfl)) (qj (GQ Ξ) qv1 qa (λ_a _a=>rfl)) (qj (GQ Ξ) qv1 qa (λ_a _a=>rfl)))))) vC) (qA (vR (qi op_eq qv2 qc (qm _)) (qw (zD (qY qv0 aB br (YV hr) (qa3 (qj (GQ Ξ) qv1 qa (λ_a _a=>rfl)) (qj (GQ Ξ) qv1 qa (λ_a _a=>rfl)) (qj (GQ Ξ) qv1 qa (λ_a _a=>rfl)))))) vC) (qA (vR (qi op_eq qv2 qc (qm _)) (qw (zD (qY qv0 aB bt (YV hr) (qa3 (qj (GQ Ξ) qv1 qa (λ_a _a=>rfl)) (qj (GQ Ξ) qv1 qa (λ_a _a=>rfl)) (qj (GQ Ξ) qv1 qa (λ_a _a=>rfl)))))) vC) (qA (vT (qP (qi op_eq qv2 qc (qm _)) (qe (qt (vd bu aB qv0 (YV hr) (qa3 (qj (GQ Ξ) qv1 qa (λ_a _a=>rfl)) (qj (GQ Ξ) qv1 qa (λ_a _a=>rfl)) (qj (GQ Ξ) qv1 qa (λ_a _a=>rfl)))))) qx)) (qA (vR (qi op_eq qv2 qc (qm _)) (qw (zD (qY qv0 aB aT (YV hr) (qa2 (qj (GQ Ξ) qv1 qa (λ_a _a=>rfl)) (qj (GQ Ξ) qv1 qa (λ_a _a=>rfl)))))) vC) (qA (vR (qi op_eq qv2 qc (qm _)) (qw (zD (qY qv0 aB aO (YV hr) (qa2 (qj (GQ Ξ) qv1 qa (λ_a _a=>rfl)) (qj (GQ Ξ) qv1 qa (λ_a _a=>rfl)))))) vC) (qA (vR (qi op_eq qv2 qc (qm _)) (qw (zD (qY qv0 aB aF (YV hr) (qa2 (qj (GQ Ξ) qv1 qa (λ_a _a=>rfl)) (qj (GQ Ξ) qv1 qa (λ_a _a=>rfl)))))) vC) (qA (vR (qi op_eq qv2 qc (qm _)) (qw (zD (qY qv0 aB aE (YV hr) (qa2 (qj (GQ Ξ) qv1 qa (λ_a _a=>rfl)) (qj (GQ Ξ) qv1 qa (λ_a _a=>rfl)))))) vC) (qA (vR (qi op_eq qv2 qc (qm _)) (qw (zD (qY qv0 aB aU (YV hr) (qa2 (qj (GQ Ξ) qv1 qa (λ_a _a=>rfl)) (qj (GQ Ξ) qv1 qa (λ_a _a=>rfl)))))) vC) (qA (vT (qP (qi op_eq qv2 qc (qm _)) (qe (qt (vd bv aB qv0 (YV hr) (qa2 (qj (GQ Ξ) qv1 qa (λ_a _a=>rfl)) (qj (GQ Ξ) qv1 qa (λ_a _a=>rfl)))))) qx)) (qw (vT (qt (vm (qi op_eq qv2 qc (qm _)) (vd aC aB qv0 (YV hr) (qa1 (qj (GQ Ξ) qv1 qa (λ_a _a=>rfl)))) (vd aM aB qv0 (YV hr) (qa1 (qj (GQ Ξ) qv1 qa (λ_a _a=>rfl))))))))))))))))))))))))),_,(by right),λus M Qu Xu h=>?_⟩;obtain⟨k,ds,rfl,h⟩:=h;have hS:∃(s:Nm)(ws:List Wt)(ps:WW),k=s 0/\Sto C D M s ws ps:=by
  obtain⟨s,ws,ps,e,S,_⟩:=h;exact⟨s,ws,ps,e,S⟩
 have hc:=h.call;clear h;obtain⟨s,ws,ps,rfl,S⟩:=hS;cases hc<;>rename_i h<;>refine jL rfl ?_<;>(repeat refine zF rfl (by decide) ?_)<;>(try refine q71 rfl ?_)<;>first|exact retM rfl (λq=>mS S (by decide) q) (by repeat (first|exact .nil|refine .ix rfl rfl ?_|refine .v rfl ?_)) h|exact q7A rfl (λq=>mS S (by decide) q) (by repeat (first|exact .nil|refine .ix rfl rfl ?_|refine .v rfl ?_)) (h.imp λnm p M' q=>⟨_,_,_,rfl,rfl,q⟩)|(left;refine mS S (by decide) ?_;left;exact h)
noncomputable abbrev q3S:Stmt:=top 73
theorem scDone:q00 ["store","deed","word","value","e"] ["store","deed"] (qd q3S):=by ac_rfl
noncomputable def q6y(C D:Addr):List U->MM->UK->Prop:=λus M Q=>∃(k:Nat)(ds:List T),us=[.m k,.p (.tup ds)]/\Out C D ds k M (λu M'=>∃t,u=.p t/\Q (.p (.tup [.str "", t])) M') λnm p M'=>Q (.p (.tup [.str nm,pT p])) M'
theorem Out.imp(h:Out C D ds k M Q X)(hq:∀u M',Q u M'->Q' u M')(hx:∀p M',p<1000000->X "WrongKind" (some p) M'->X' "WrongKind" (some p) M')(hn:∀M',X "Nought" none M'->X' "Nought" none M'):Out C D ds k M Q' X':=by
 obtain⟨s,ws,ps,e,S,h⟩:=h;refine⟨s,ws,ps,e,S,?_⟩;rcases h with⟨aw,ak,hd,q⟩|⟨bU,hd,q⟩|⟨nm,pp,hd,q⟩|⟨pp,hd,q⟩
 ·exact .inl ⟨aw,ak,hd,λM' s' a b=>hq _ _ (q M' s' a b)⟩
 ·exact .inr (.inl ⟨bU,hd,hq _ _ q⟩)
 ·refine .inr (.inr (.inl ⟨nm,pp,hd,?_⟩))
  cases hd<;>first|exact hx _ _ (by decide) q|exact hn _ q
 ·refine .inr (.inr (.inr ⟨pp,hd,hx _ _ ?_ q⟩))
  cases hd<;>decide
theorem q04(F:Fun Ξ "_law_done" "_law_done" q3S f fd)(N:Nms mg)(aL:ExcC Ξ mg "Nought" CN)(CWk:ExcK Ξ CW g)(fN:NoAttr Ξ CW "part")(dW:mg "WrongKind" = some (.ref CW))(bw:mg "Nought" = some (.ref CN))(EWk_Wk:W.exmOne Ξ (.ref CW) (.ref CW)=some true)(ENought_Wk:W.exmOne Ξ (.ref CN) (.ref CW)=some false)(ENought_Nought:W.exmOne Ξ (.ref CN) (.ref CN)=some true)(bM:DefX P w Ξ mg base "_law_deed_done" 6 ["store","deed"] (spX mg (Zy C D))):FnOk P w Ξ mg base CX0 7 f fd ["store","deed"] (spU (q6y C D)):=by
 refine F.zU scDone (by rintro _ _ _ ⟨_,_,rfl,_⟩;rfl) (λac A outer s H E hr=>?_);refine⟨_,(qb (qB (i:=2) scDone.nd rfl (.inl rfl) qc)
  (qb (qB (i:=3) scDone.nd rfl (.inl rfl) jD)
  (qb (q2x (l:=[("WrongKind", _),("Nought", _)]) ⟨rfl,rfl,rfl,rfl⟩ (λ_a _a=>
   (qw (Jt (i:=3) scDone.nd rfl (.inl rfl) (vI bM (YV hr) (qa_c (qv 0) (qa_c (qv 1) vD))))))
   (VA dW (λ_a=>(q7n (i:=4) (j:=2) (k:=3) ⟨rfl,rfl,rfl,rfl⟩ CWk fN dW EWk_Wk scDone.nd rfl rfl rfl (by decide) (by decide) rfl rfl rfl)) (VA bw (λ_a=>(YQ dW ENought_Wk (q24 aL.b ENought_Nought (λ_a=>(qe (qB (i:=2) scDone.nd rfl (.inl rfl) qc)))))) q2s)))
  (qe (qt (qu (qa_c (qv 2) (qa_c (qv 3) vD)))))))),_,(qy (vQ WC (ve 2))
   (qy (vQ (ce_c .non) (ve 3))
   (qy (q2c (X7 (VN (ql (qr 0) (ql (qr 1) qJ)))) (QQ (λ_a=>q7o) (QQ (λ_a=>(vQ WC (ve 2))) q1R)))
   (v8 (jI (ql (qr 2) (ql (qr 3) qJ))))))),λus M Qu h=>?_⟩
 obtain⟨k,ds,rfl,h⟩:=h;left;refine⟨k,ds,rfl,h.imp (λu M' ⟨t,e,q⟩=>?_) (λp M' hp q=>?_) λM' q=>?_⟩
 ·subst e
  left;exact q
 ·refine⟨_,_,_,_,rfl,rfl,rfl,_,rfl,?_⟩
  left;exact⟨hp,q⟩
 ·refine⟨_,_,_,_,rfl,rfl,rfl,?_⟩
  left;exact q
theorem qQ(b0:Bool)(h1:vt a=some x)(h2:seqT b=some ts)(h3:vts ts=some ys)(h4:inV x ys=b0)(q:Q (.bl b0)):sIn false a b Q:=⟨x,ts,ys,h1,h2,h3,by rw[h4];exact q⟩
local macro_rules|`(tactic|walk_at "pk")=>`(tactic|(walk_at "v"; repeat ((first|refine qL (by decide) ?_|refine qO rfl ?_|refine qQ false rfl rfl rfl (by decide) ?_|refine qQ true rfl rfl rfl (by decide) ?_); walk_at "v")))
noncomputable def ol(ws:List Wt):MO:=.lst (ws.map λx=>U.p (tO x))
noncomputable def pl(x:Wt×Wt):MO:=.lst [.p (tO x.1),.p (tO x.2)]
noncomputable def cl(o:Nm)(n:Nat):MO:=.lst ((List.range n).map λi=>U.m (o (i+3)))
structure Own(M:MM)(o:Nm)(ws:List Wt)(ps:WW):Prop where
 o0:M[o 0]?=some (.lst [.m (o 1),.m (o 2)])
 b:M[o 1]?=some (ol ws)
 c:M[o 2]?=some (cl o ps.length)
 p:∀(i:Nat) x,ps[i]?=some x->M[o (i+3)]?=some (pl x)
 n:ws.length=8
 inj:∀i j,i<ps.length+3->j<ps.length+3->o i=o j->i=j
 ww:∀x∈ws,okW ps.length x
 wp:∀x∈ps,okW ps.length x.1/\okW ps.length x.2
section
variable {M:MM}{o:Nm}{ws:List Wt}{ps:WW}{x y:Wt}{r q p i n:Nat}{Q:UK}
theorem Own.wq(S:Own M o ws ps)(h:ws[q]?=some x):okW ps.length x:=S.ww x (U0 h)
theorem Own.wi(S:Own M o ws ps){x:Wt×Wt}(h:ps[i]?=some x):okW ps.length x.1/\okW ps.length x.2:=S.wp x (U0 h)
theorem Own.put(S:Own M o ws ps)(hx:okW ps.length x):Own (M.set (o 1) (ol (ws.set r x))) o (ws.set r x) ps :=
 ⟨by rw[UW λz=>by have:=S.inj 1 0 (by lia) (by lia) z;lia];exact S.o0,
   U3 (UR.mp S.b).1,
   by rw[UW λz=>by have:=S.inj 1 2 (by lia) (by lia) z;lia];exact S.c,
   λi x hi=>by
  have:=(UR.mp hi).1;rw[UW λz=>by have:=S.inj 1 (i+3) (by lia) (by lia) z;lia];exact S.p i x hi,
   by rw[U2];exact S.n,S.inj,v7 S.ww hx,S.wp⟩
theorem Own.setp(S:Own M o ws ps){x:Wt×Wt}(hi:i<ps.length)(hx:okW ps.length x.1/\okW ps.length x.2):Own (M.set (o (i+3)) (pl x)) o ws (ps.set i x):=by
 have hm:=(UR.mp (S.p i _ (UU hi))).1;refine⟨?_,?_,?_,λj y hj=>?_,S.n,by rw[U2];exact S.inj,by rw[U2];exact S.ww,by rw[U2];exact v7 S.wp hx⟩
 ·rw[UW λz=>by have:=S.inj (i+3) 0 (by lia) (by lia) z;lia];exact S.o0
 ·rw[UW λz=>by have:=S.inj (i+3) 1 (by lia) (by lia) z;lia];exact S.b
 ·rw[U2,UW λz=>by have:=S.inj (i+3) 2 (by lia) (by lia) z;lia];exact S.c
 ·have ef:=(UR.mp hj).1
  rw[U2]at ef;by_cases e:i=j
  ·subst e
   rw[U3 ef]at hj;cases hj;exact U3 hm
  ·rw[UW e]at hj
   rw[UW λz=>by have:=S.inj (i+3) (j+3) (by lia) (by lia) z;lia];exact S.p j y hj
theorem Own.lt(S:Own M o ws ps)(hi:i<ps.length+3):o i<M.length:=by
 match i,hi with
 |0,_=>exact(UR.mp S.o0).1
 |1,_=>exact(UR.mp S.b).1
 |2,_=>exact(UR.mp S.c).1
 |i+3,hi=>exact(UR.mp (S.p i _ (UU (show i<ps.length by lia)))).1
theorem q5N:cl (v6 o (n+3) k) (n+1)=.lst (((List.range n).map λi=>U.m (o (i+3)))++[.m k]):=by
 unfold cl;rw[RV,Dq];have e:(List.range n).map (λi=>U.m (v6 o (n+3) k (i+3)))=(List.range n).map λi=>U.m (o (i+3)):=Be λi hi=>by
  have:=Rf.mp hi;rw[vM (by lia)]
 rw[e];show MO.lst (_++[U.m (v6 o (n+3) k (n+3))])=_;rw[xx]
theorem Own.new(S:Own M o ws ps){x:Wt×Wt}(hx:okW ps.length x.1/\okW ps.length x.2):
  Own (((M++[pl x]).set (o 2) (cl (v6 o (ps.length+3) M.length) (ps.length+1))).set (o 1) (ol (ws.set r (.pr ps.length)))) (v6 o (ps.length+3) M.length) (ws.set r (.pr ps.length)) (ps++[x]) /\
  Go M (((M++[pl x]).set (o 2) (cl (v6 o (ps.length+3) M.length) (ps.length+1))).set (o 1) (ol (ws.set r (.pr ps.length)))) o (v6 o (ps.length+3) M.length) (ps.length+3) ((ps++[x]).length+3):=by
 have h0:=S.lt (i:=0) (by lia);have h1:=S.lt (i:=1) (by lia);have h2:=S.lt (i:=2) (by lia);have e0:v6 o (ps.length+3) M.length 0=o 0:=vM (by lia);have e1:v6 o (ps.length+3) M.length 1=o 1:=vM (by lia);have e2:v6 o (ps.length+3) M.length 2=o 2:=vM (by lia);have el:(ps++[x]).length=ps.length+1:=by rw[UV];rfl
 have ne:∀i j,i≠j->i<ps.length+3->j<ps.length+3->o i≠o j:=λi j a b c z=>a (S.inj i j b c z);refine⟨⟨?_,?_,?_,λj y hj=>?_,by rw[U2];exact S.n,λi j hi hj z=>?_,?_,?_⟩,⟨?_,λk hk h=>?_,λi hi=>?_,e0⟩⟩
 ·rw[e0,e1,e2,UW (ne 1 0 (by lia) (by lia) (by lia)),UW (ne 2 0 (by lia) (by lia) (by lia)),zf h0];exact S.o0
 ·rw[e1,U3 (by rw[U2,UV];lia)]
 ·rw[e2,el,UW (ne 1 2 (by lia) (by lia) (by lia)),U3 (by rw[UV];lia)]
 ·by_cases ef:j<ps.length
  ·rw[U1 ef]at hj
   rw[vM (by lia),UW (ne 1 (j+3) (by lia) (by lia) (by lia)),UW (ne 2 (j+3) (by lia) (by lia) (by lia)),zf (S.lt (by lia)),S.p j y hj]
  ·have rh:=(UR.mp hj).1
   have:j=ps.length:=by lia
   subst this;rw[qK]at hj;cases hj;rw[xx,UW (by lia),UW (by lia),qK]
 ·rw[el]at hi hj
  by_cases a:i=ps.length+3<;>by_cases b:j=ps.length+3
  ·lia
  ·subst a
   rw[xx,vM b]at z;have:=S.lt (i:=j) (by lia);lia
  ·subst b
   rw[xx,vM a]at z;have:=S.lt (i:=i) (by lia);lia
  ·rw[vM a,vM b]at z
   exact S.inj i j (by lia) (by lia) z
 ·rw[el]
  exact v7 (λy hy=>(S.ww y hy).mono (by lia)) (show ps.length<ps.length+1 by lia)
 ·rw[el]
  intro y hy;rcases U4.mp hy with hy|hy
  ·have:=S.wp y hy
   exact⟨this.1.mono (by lia),this.2.mono (by lia)⟩
  ·cases U7.mp hy
   exact⟨hx.1.mono (by lia),hx.2.mono (by lia)⟩
 ·rw[U2,U2,UV];lia
 ·rw[UW (Ne.symm (h 1 (by lia))),UW (Ne.symm (h 2 (by lia))),zf hk]
 ·rw[el]at hi
  by_cases a:i=ps.length+3
  ·subst a
   exact .inr (by rw[xx];exact UZ _)
  ·exact .inl ⟨i,by lia,vM a⟩
theorem qM(O:Own M o ws ps)(q:Q (.m (o 1)) M):IxS qI M (.m (o 0)) (.p (.int 0)) Q:=xK (us:=[.m (o 1),.m (o 2)]) (by simp[qI,O.o0]) rfl q
theorem kH(O:Own M o ws ps)(q:Q (.m (o 2)) M):IxS qI M (.m (o 0)) (.p (.int 1)) Q:=xK (us:=[.m (o 1),.m (o 2)]) (by simp[qI,O.o0]) rfl q
theorem qW(h:M[k]?=some (ol ws))(hq:ws[q]?=some x)(qq:Q (.p (tO x)) M):IxS qI M (.m k) (.p (.int (q:Int))) Q :=
 xK (us:=ws.map λx=>U.p (tO x)) (by simp[qI,h,ol]) (ze (by rw[Dh,hq];rfl)) qq
theorem J1(h:M[k]?=some (cl o n))(hi:i<n)(qq:Q (.m (o (i+3))) M):IxS qI M (.m k) (.p (.int (i:Int))) Q :=
 xK (us:=(List.range n).map λi=>U.m (o (i+3))) (by simp[qI,h,cl]) (ze (by rw[Dh,Bf hi];rfl)) qq
theorem zZ(h:M[k]?=some (ol ws))(hr:r<ws.length)(q:R (M.set k (ol (ws.set r x)))):SubS M (.m k) (.p (.int (r:Int))) (.p (tO x)) R:=by
 refine V7 h (by rw[UY];exact hr) ?_;have e:(ws.map λx=>U.p (tO x)).set r (.p (tO x))=(ws.set r x).map λx=>U.p (tO x):=by rw[Bn]
 rw[e];exact q
end
noncomputable abbrev Ve:Stmt:=top 82
theorem Yt:q00 ["worth"] ["worth"] (qd Ve):=by ac_rfl
noncomputable def JT:List T->(T->Prop)->Prop:=λts Q=>∃x:Wt,ts=[tO x]/\Q (.str (vf x))
theorem Zk(F:Fun Ξ "_law_own_kind" "_law_own_kind" Ve f fd)(N:Nms mg):FnOk P w Ξ mg base CX0 1 f fd ["worth"] (spP JT):=by
 refine F.zP Yt (by rintro _ _ ⟨_,rfl,_⟩;rfl) (λac A outer s H E hr=>?_);refine⟨_,(qb (qP (vJ (qH (GP Ξ) (by rfl) N.isinstance qD (qa2 qv0 (vn (v:=.ty "int") (by rfl) N.int VS rfl)))) (qe (qt qc)) qx) (qb (qP (vJ (qH (GP Ξ) (by rfl) N.isinstance qD (qa2 qv0 (vn (v:=.ty "str") (by rfl) N.str q0e rfl)))) (qe (qt qc)) qx) (qe (qt (qj (GQ Ξ) qv0 qa (λ_a _a=>rfl)))))),_,(qy (zd (ct_b (J6 .int (qr 0))) (by right) vj) (qy (zd (ct_b (J6 .str (qr 0))) (by right) vj) (by right))),λts Qt h=>?_⟩;obtain⟨x,rfl,q⟩:=h;cases x<;>(symm;simp only[tO];symm;exact q)
noncomputable abbrev ki:Stmt:=top 71
theorem Kj:q00 ["word","a","b"] ["word","a","b"] (qd ki):=by ac_rfl
noncomputable def gReck:List T->(T->Prop)->Prop:=λts Q=>∃(w:Str)(a b:Int),ts=[.str w,.int a,.int b]/\((w = "plus" /\ Q (.int (a+b)))\/(w = "less" /\ Q (.int (a-b)))\/(w = "times" /\ IntMulOk a b/\Q (.int (a*b)))\/(w = "over" /\ b≠0/\Builtin.divisionGoesByPylong a b=false/\Q (.int (a.fdiv b)))\/(w = "rest" /\ b≠0/\Q (.int (a.fmod b))))
theorem q0A(F:Fun Ξ "_law_reckoned" "_law_reckoned" ki f fd)(N:Nms mg):FnOk P w Ξ mg base CX0 1 f fd ["word","a","b"] (spP gReck):=by
 refine F.zP Kj (by rintro _ _ ⟨_,_,_,rfl,_⟩;rfl) (λac A outer s H E hr=>?_);refine⟨_,(qb (qP (qi op_eq qv0 qc (qm _)) (qe (qt (qC vz qv1 qv2))) qx) (qb (qP (qi op_eq qv0 qc (qm _)) (qe (qt (qC jF qv1 qv2))) qx) (qb (qP (qi op_eq qv0 qc (qm _)) (qe (qt (qC XA qv1 qv2))) qx) (qe (qt (vm (qi op_eq qv0 qc (qm _)) (qC Jy qv1 qv2) (qC Y0 qv1 qv2))))))),_,(by right),λts Qt h=>?_⟩;obtain⟨w,a,b,rfl,h⟩:=h;rcases h with⟨rfl,q⟩|⟨rfl,q⟩|⟨rfl,hm,q⟩|⟨rfl,hb,hd,q⟩|⟨rfl,hb,q⟩
 ·left;exact q
 ·left;exact q
 ·left;exact⟨hm,q⟩
 ·left;exact⟨⟨hb,hd⟩,q⟩
 ·left;exact⟨hb,q⟩
theorem gReck.imp(h:gReck ts Q)(hq:∀t,Q t->Q' t):gReck ts Q':=by
 obtain⟨w,a,b,e,h⟩:=h;refine⟨w,a,b,e,?_⟩;rcases h with⟨e,k⟩|⟨e,k⟩|⟨e,hm,k⟩|⟨e,hb,hd,k⟩|⟨e,hb,k⟩
 ·exact .inl ⟨e,hq _ k⟩
 ·exact .inr (.inl ⟨e,hq _ k⟩)
 ·exact .inr (.inr (.inl ⟨e,hm,hq _ k⟩))
 ·exact .inr (.inr (.inr (.inl ⟨e,hb,hd,hq _ k⟩)))
 ·exact .inr (.inr (.inr (.inr ⟨e,hb,hq _ k⟩)))
noncomputable abbrev xC:Stmt:=top 83
theorem scOwnNumbers:q00 ["own","deed","word","r","q","p","part","at","a","b"] ["own","deed"] (qd xC):=by ac_rfl
noncomputable def Kb(w:Str)(a b:Int)(Z:Prop)(R:Int->Prop):Prop:=((w = "over" \/ w = "rest")/\b=0/\Z)\/(five w/\((w = "over" \/ w = "rest")->b≠0)/\gReck [.str w,.int a,.int b] λt=>∃n,t=.int n/\R n)
noncomputable def WT:List U->MM->UK->Prop:=λus M Q=>∃(o:Nm)(ws:List Wt)(ps:WW)(w:Str)(r q p:Nat)(x y:Wt),us=[.m (o 0),.p (.tup [.str w,.int (r:Int),.int (q:Int),.int (p:Int)])]/\five w/\Own M o ws ps/\r<8/\ws[q]?=some x/\ws[p]?=some y /\
 NeedN x y (λa b=>Kb w a b (Q (.p (.tup [.str "Nought",.non])) M) λn=>Q (.p (.tup [.str "",.non])) (M.set (o 1) (ol (ws.set r (.num n))))) λnm pp=>Q (.p (.tup [.str nm,pT pp])) M
theorem XD(F:Fun Ξ "_law_own_numbers" "_law_own_numbers" xC f fd)(N:Nms mg)(ao:Def P w Ξ mg base "_law_own_kind" 1 ["worth"] (spP JT))(bN:Def P w Ξ mg base "_law_reckoned" 1 ["word","a","b"] (spP gReck)):FnOk P w Ξ mg base CX0 2 f fd ["own","deed"] (spU WT):=by
 refine F.zU scOwnNumbers (by rintro _ _ _ ⟨_,_,_,_,_,_,_,_,_,rfl,_⟩;rfl) (λac A outer s H E hr=>?_);refine⟨_,(qb (vh qv1 (q5V rfl (j4 (vb (i:=2) scOwnNumbers.nd rfl GL) (j4 (vb (i:=3) scOwnNumbers.nd rfl GL) (j4 (vb (i:=4) scOwnNumbers.nd rfl GL) (j4 (vb (i:=5) scOwnNumbers.nd rfl GL) q3u)))))) (qb (xu PassesOwn.never rfl (v9 (Ξ:=Ξ) rfl (qG (qa2 (qu (qa2 qa qv4)) (qu (qa2 qa qv5))))) (YR (Ξ:=Ξ) (i:=6) (j:=7) rfl scOwnNumbers.nd rfl rfl rfl GL GL GL GL) (qe (qP (qi jR (qo ao (YV hr) (qa1 (qj (GO Ξ) (qj (GO Ξ) qv0 qa (λ_a _a=>rfl)) qv7 (λ_a _a=>rfl)))) qc (qm _)) (qe (qt (qu (qa2 qc qv6)))) qx))) (qb (q2z (i:=8) (j:=9) rfl scOwnNumbers.nd rfl rfl (by decide) rfl rfl (qa2 (qj (GO Ξ) (qj (GO Ξ) qv0 qa (λ_a _a=>rfl)) qv4 (λ_a _a=>rfl)) (qj (GO Ξ) (qj (GO Ξ) qv0 qa (λ_a _a=>rfl)) qv5 (λ_a _a=>rfl))) rfl) (qb (qP (Xv (Zd (qi (GR Ξ) qv2 (qG (qa2 qc qc)) (by with_unfolding_all rfl)) (Vm (qi op_eq (qv 9) qa (qm _))))) (qe (qt (qu (qa2 qc jD)))) qx) (qb (vh (qo bN (YV hr) (qa3 qv2 (qv 8) (qv 9))) (vq (qj (GO Ξ) qv0 qa (λ_a _a=>rfl)) qv3 qR)) (qe (qt (qu (qa2 qc jD))))))))),_,(qy (vQ (qr 1) (q1p 2 3 4 5)) (qy (by right) (qy (q1Y (ql (vY (vY (qr 0) YX) (qr 4)) (ql (vY (vY (qr 0) YX) (qr 5)) qJ))) (by right)))),λus M Qu h=>?_⟩;obtain⟨o,ws,ps,w,r,q,p,x,y,rfl,hw,O,aW,hx,hy,k⟩:=h;symm;refine ke (λj ρ M'=>M'=M/\(∃x6 x7,ρ=[some (.m (o 0)),some (.p (.tup [.str w,.int (r:Int),.int (q:Int),.int (p:Int)])),some (.p (.str w)),some (.p (.int (r:Int))),some (.p (.int (q:Int))),some (.p (.int (p:Int))),x6,x7,none,none])/\(1<=j->∃a,x=.num a)/\(2<=j->∃b,y=.num b)) ⟨rfl,⟨_,_,rfl⟩,λh=>by lia,λh=>by lia⟩ ?_ ?_
 ·rintro j t ρ M' ht ⟨rfl,⟨x6,x7,rfl⟩,h1,h2⟩
  match j,ht,h1 with
  |0,ht,_=>
   cases ht;symm;refine qM O ?_;symm;refine qW O.b hx ?_;symm;refine⟨x,rfl,?_⟩;cases x with
   |num a=>
    simp only[vf];left;exact⟨⟨_,_,rfl⟩,λ_a=>⟨a,rfl⟩,λh=>by lia⟩
   |_=>
    simp only[vf];left;exact k
  |1,ht,h1=>
   obtain⟨a,rfl⟩:=h1 (by lia);cases ht;symm;refine qM O ?_;symm;refine qW O.b hy ?_;symm;refine⟨y,rfl,?_⟩;cases y with
   |num b=>
    simp only[vf];left;exact⟨⟨_,_,rfl⟩,λ_a=>⟨a,rfl⟩,λ_a=>⟨b,rfl⟩⟩
   |_=>
    simp only[vf];left;exact k
  |j+2,ht,_=>simp at ht
 ·rintro ρ M' ⟨rfl,⟨x6,x7,rfl⟩,h1,h2⟩
  obtain⟨a,rfl⟩:=h1 (by show 1<=2;lia);obtain⟨b,rfl⟩:=h2 (by show 2<=2;lia);have k2:Kb w a b _ _:=k;clear k;symm;refine qM O ?_;symm;refine qW O.b hx ?_;refine qM O ?_;symm;refine qW O.b hy ?_;simp only[tO];symm;rcases k2 with⟨hz,rfl,k⟩|⟨_,rl,k⟩
  ·rcases hz with rfl|rfl <;>
   ·refine qQ true rfl rfl rfl (by decide) ?_
    left;exact k
  ·have fin:∀t,(∃n,t=T.int n/\Qu (.p (.tup [.str "",.non])) (M'.set (o 1) (ol (ws.set r (.num n)))))->SubS M' (.m (o 1)) (.p (.int (r:Int))) (.p t) λM3=>Qu (.p (.tup [.str "",.non])) M3:=λt zz=>by
    obtain⟨n,e,k⟩:=zz;subst e;exact zZ (x:=.num n) O.b (by rw[O.n];exact aW) k
   rcases hw with rfl|rfl|rfl|rfl|rfl
   iterate 3
    ·refine qQ false rfl rfl rfl (by decide) ?_
     left;refine gReck.imp k λt h=>?_;left;refine qM O ?_;left;exact fin t h
   iterate 2
    ·have hb:b≠0:=rl (by decide)
     refine qQ true rfl rfl rfl (by decide) ?_;symm;refine qL (by simpa using hb) ?_;symm;refine gReck.imp k λt h=>?_;left;refine qM O ?_;left;exact fin t h
noncomputable abbrev Yx:Stmt:=top 84
theorem scOwnDo:q00 ["own","deed","word","some","q","thing"] ["own","deed"] (qd Yx):=by ac_rfl
noncomputable def QD:List U->MM->UK->Prop:=λus M Q=>∃(o:Nm)(ws:List Wt)(ps:WW)(ds:List T),us=[.m (o 0),.p (.tup ds)]/\Own M o ws ps/\ps.length<1000 /\
 ((∃aw ak,DeedDo ws ps ds aw ak/\∀M' o',Own M' o' aw ak->Go M M' o o' (ps.length+3) (ak.length+3)->Q (.p (.tup [.str "",.non])) M')\/(∃nm p,DeedNo ws ds nm p/\Q (.p (.tup [.str nm,pT p])) M))
theorem KC(F:Fun Ξ "_law_own_do" "_law_own_do" Yx f fd)(N:Nms mg)(ao:Def P w Ξ mg base "_law_own_kind" 1 ["worth"] (spP JT))(bd:Def P w Ξ mg base "_law_own_numbers" 2 ["own","deed"] (spU WT)):FnOk P w Ξ mg base CX0 3 f fd ["own","deed"] (spU QD):=by
 refine F.zU scOwnDo (by rintro _ _ _ ⟨_,_,_,_,rfl,_⟩;rfl) (λac A outer s H E hr=>?_);refine⟨_,(qb (qB (i:=2) scOwnDo.nd rfl GL (qj (GQ Ξ) qv1 qa (λ_a _a=>rfl))) (qb (qB (i:=3) scOwnDo.nd rfl GL (qj (GO Ξ) qv0 qa (λ_a _a=>rfl))) (qb (qP (qi (GR Ξ) qv2 (qG (qa_c qc (qa4 qc qc qc qc))) (by with_unfolding_all rfl)) (qe (qt (qo bd (YV hr) (qa2 qv0 qv1)))) qx) (qb (qP (qi (GR Ξ) qv2 (qG (qa2 qc qc)) (by with_unfolding_all rfl)) (qe (vh (qj (GQ Ξ) qv1 qa (λ_a _a=>rfl)) (vq qv3 (qj (GQ Ξ) qv1 qa (λ_a _a=>rfl)) qR))) qx) (qb (qP (qi op_eq qv2 qc (qm _)) (qe (vh (qu (qa2 qc (qj (GQ Ξ) qv1 qa (λ_a _a=>rfl)))) (vq qv3 (qj (GQ Ξ) qv1 qa (λ_a _a=>rfl)) qR))) qx) (qb (qP (qi op_eq qv2 qc (qm _)) (qe (vh (qj (GO Ξ) qv3 (qj (GQ Ξ) qv1 qa (λ_a _a=>rfl)) (λ_a _a=>rfl)) (vq qv3 (qj (GQ Ξ) qv1 qa (λ_a _a=>rfl)) qR))) qx) (qb (qP (qi op_eq qv2 qc (qm _)) (qb (v3 (q0t PySem.F.slot_list_append PySem.F.type_list_append xc (qj (GO Ξ) qv0 qa (λ_a _a=>rfl)) (qa1 (qG (qa2 (qj (GO Ξ) qv3 (qj (GQ Ξ) qv1 qa (λ_a _a=>rfl)) (λ_a _a=>rfl)) (qj (GO Ξ) qv3 (qj (GQ Ξ) qv1 qa (λ_a _a=>rfl)) (λ_a _a=>rfl))))))) (qe (vh (qu (qa2 qc (qC jF (qH zt (by rfl) N.len Ql (qa1 (qj (GO Ξ) qv0 qa (λ_a _a=>rfl)))) qa))) (vq qv3 (qj (GQ Ξ) qv1 qa (λ_a _a=>rfl)) qR)))) qx) (qb (qP (qi (GR Ξ) qv2 (qG (qa4 qc qc qc qc)) (by with_unfolding_all rfl)) (qb (qB (i:=4) scOwnDo.nd rfl GL (vm (qi (GR Ξ) qv2 (qG (qa2 qc qc)) (by with_unfolding_all rfl)) (qj (GQ Ξ) qv1 qa (λ_a _a=>rfl)) (qj (GQ Ξ) qv1 qa (λ_a _a=>rfl)))) (qb (qP (qi jR (qo ao (YV hr) (qa1 (qj (GO Ξ) qv3 qv4 (λ_a _a=>rfl)))) qc (qm _)) (qe (qt (qu (qa2 qc qa)))) qx) (qb (qB (i:=5) scOwnDo.nd rfl GL (qj (GO Ξ) (qj (GO Ξ) qv0 qa (λ_a _a=>rfl)) (qj (GQ Ξ) (qj (GO Ξ) qv3 qv4 (λ_a _a=>rfl)) qa (λ_a _a=>rfl)) (λ_a _a=>rfl))) (qe (qP (qi (GR Ξ) qv2 (qG (qa2 qc qc)) (by with_unfolding_all rfl)) (qe (vh (qj (GO Ξ) qv5 (vL Qc (by rfl) N.int VS (qa1 (vF op_eq qv2 qc (qm _)))) (λ_a _a=>rfl)) (vq qv3 (qj (GQ Ξ) qv1 qa (λ_a _a=>rfl)) qR))) (qe (vh (qj (GO Ξ) qv3 (qj (GQ Ξ) qv1 qa (λ_a _a=>rfl)) (λ_a _a=>rfl)) (vq qv5 (vL Qc (by rfl) N.int VS (qa1 (vF op_eq qv2 qc (qm _)))) qR)))))))) qx) (qe (qt (qu (qa2 qc jD)))))))))))),_,(qy (by right) (qy (by right) (qy (by right) (qy (by right) (qy (by right) (qy (by right) (qy (zd (by right) (qy (VO (q5y Qx (by right) (ql (k9 (by right)) qJ))) (by right)) vj) (qy (zd (by right) (qy (by right) (qy (by right) (qy (by right) (zd (by right) (vQ (vY (qr 5) (GC Jc (by right))) (by right)) (vQ (by right) (q2q (qr 5) (GC Jc (by right)))))))) vj) (by right))))))))),λus M Qu h=>?_⟩;obtain⟨o,ws,ps,ds,rfl,O,hsz,h⟩:=h;have hl:=O.n;by_cases hfv:∃(w:Str)(r q p:Nat)(x y:Wt),ds=[.str w,.int (r:Int),.int (q:Int),.int (p:Int)]/\five w/\r<8/\ws[q]?=some x/\ws[p]?=some y/\NeedN x y (λa b=>Kb w a b (Qu (.p (.tup [.str "Nought",.non])) M) λn=>Qu (.p (.tup [.str "",.non])) (M.set (o 1) (ol (ws.set r (.num n))))) (λnm pp=>Qu (.p (.tup [.str nm,pT pp])) M)
 ·obtain⟨w,r,q,p,x,y,rfl,hw,hr,hq,hp,k⟩:=hfv
  have eN:inV (.str w) [.str "plus",.str "less",.str "times",.str "over",.str "rest"]=true:=by rcases hw with rfl|rfl|rfl|rfl|rfl<;>decide
  symm;refine qM O ?_;symm;refine qQ true rfl rfl rfl eN ?_;symm;exact⟨o,ws,ps,w,r,q,p,_,_,rfl,hw,O,hr,hq,hp,k⟩
 have cz:∀(w:Str)(r q p:Nat)(x y:Wt),ds=[.str w,.int (r:Int),.int (q:Int),.int (p:Int)]->five w->r<8->ws[q]?=some x->ws[p]?=some y->NeedN x y (λa b=>Kb w a b (Qu (.p (.tup [.str "Nought",.non])) M) λn=>Qu (.p (.tup [.str "",.non])) (M.set (o 1) (ol (ws.set r (.num n))))) (λnm pp=>Qu (.p (.tup [.str nm,pT pp])) M)->False:=λw r q p x y e hw hr hq hp k=>hfv ⟨w,r,q,p,x,y,e,hw,hr,hq,hp,k⟩;clear hfv;rcases h with⟨aw,ak,hd,k⟩|⟨nm,pp,hd,k⟩
 ·cases hd with
  |num r n hr=>
   refine jL rfl (useq ?_);walk_at "vs";refine qM O ?_
   try walk_at "vs"
   repeat (first|refine zF rfl (by decide) ?_|refine vW rfl (by repeat constructor) (by decide) ?_)
   left;refine zZ (x:=.num n) O.b (by lia) ?_
   try walk_at "vs"
   repeat (first|refine zF rfl (by decide) ?_|refine vW rfl (by repeat constructor) (by decide) ?_)
   left;exact k _ o (O.put trivial) (.set (by lia))
  |sgn r n hr=>
   refine jL rfl (useq ?_);walk_at "vs";refine qM O ?_
   try walk_at "vs"
   repeat (first|refine zF rfl (by decide) ?_|refine vW rfl (by repeat constructor) (by decide) ?_)
   left;refine zZ (x:=.sgn n) O.b (by lia) ?_
   try walk_at "vs"
   repeat (first|refine zF rfl (by decide) ?_|refine vW rfl (by repeat constructor) (by decide) ?_)
   left;exact k _ o (O.put trivial) (.set (by lia))
  |one r n hr=>
   refine jL rfl (useq ?_);walk_at "vs";refine qM O ?_
   try walk_at "vs"
   repeat (first|refine zF rfl (by decide) ?_|refine vW rfl (by repeat constructor) (by decide) ?_)
   left;refine zZ (x:=.one n) O.b (by lia) ?_
   try walk_at "vs"
   repeat (first|refine zF rfl (by decide) ?_|refine vW rfl (by repeat constructor) (by decide) ?_)
   left;exact k _ o (O.put trivial) (.set (by lia))
  |copy r q x hr hq=>
   refine jL rfl (useq ?_);walk_at "vs";refine qM O ?_
   try walk_at "vs"
   repeat (first|refine zF rfl (by decide) ?_|refine vW rfl (by repeat constructor) (by decide) ?_)
   left;refine qW O.b hq ?_;left;refine zZ (x:=x) O.b (by lia) ?_
   try walk_at "vs"
   repeat (first|refine zF rfl (by decide) ?_|refine vW rfl (by repeat constructor) (by decide) ?_)
   left;exact k _ o (O.put (O.wq hq)) (.set (by lia))
  |pair r q p x y hr hq hp=>
   have nw:=O.new (r:=r) (x:=(x,y)) ⟨O.wq hq,O.wq hp⟩;have h0:=O.lt (i:=0) (by lia);have h1:=O.lt (i:=1) (by lia);have h2:=O.lt (i:=2) (by lia);refine jL rfl (useq ?_);walk_at "vs";refine qM O ?_
   try walk_at "vs"
   repeat (first|refine zF rfl (by decide) ?_|refine vW rfl (by repeat constructor) (by decide) ?_)
   left;refine kH O ?_;refine Vy O.c ?_;left;refine qW O.b hq ?_;left;refine qW O.b hp ?_;left;refine⟨_,(zf h2).trans O.c,by rw[UY,DV];exact Dc hsz (by show 1000<=sizeLine;decide),?_⟩;rw[<-q5N (o:=o)];have g0:((M++[pl (x,y)]).set (o 2) (cl (v6 o (ps.length+3) M.length) (ps.length+1)))[o 0]?=some (.lst [.m (o 1),.m (o 2)]):=by
    rw[UW λz=>by have:=O.inj 2 0 (by lia) (by lia) z;lia,zf h0];exact O.o0
   have g1:((M++[pl (x,y)]).set (o 2) (cl (v6 o (ps.length+3) M.length) (ps.length+1)))[o 1]?=some (ol ws):=by
    rw[UW λz=>by have:=O.inj 2 1 (by lia) (by lia) z;lia,zf h1];exact O.b
   have g2:((M++[pl (x,y)]).set (o 2) (cl (v6 o (ps.length+3) M.length) (ps.length+1)))[o 2]?=some (cl (v6 o (ps.length+3) M.length) (ps.length+1)):=U3 (by rw[UV];lia);have kk:=k _ _ nw.1 nw.2;show IxS qI ((M++[pl (x,y)]).set (o 2) (cl (v6 o (ps.length+3) M.length) (ps.length+1))) (.m (o 0)) (.p (.int 1)) _;generalize(M++[pl (x,y)]).set (o 2) (cl (v6 o (ps.length+3) M.length) (ps.length+1))=M2 at g0 g1 g2 kk ⊢;refine xK (us:=[.m (o 1),.m (o 2)]) (by simp[qI,g0]) rfl ?_;refine kR g2 ?_;rw[UY,DV];left;rw[show((ps.length+1:Nat):Int)-1=(ps.length:Int) by lia];refine zZ (x:=.pr ps.length) g1 (by lia) ?_;left;exact kk
  |first r q i z hr hq hi=>
   have dU:i<ps.length:=O.wq hq;refine jL rfl (useq ?_);walk_at "vs";refine qM O ?_
   try walk_at "vs"
   repeat (first|refine zF rfl (by decide) ?_|refine vW rfl (by repeat constructor) (by decide) ?_)
   left;refine qW O.b hq ?_;left;refine⟨_,rfl,?_⟩;simp only[vf];left;refine kH O ?_;left;refine qW O.b hq ?_;simp only[tO];left;refine J1 O.c dU ?_;left;rw[GZ (by decide)];refine xK (us:=[.p (tO z.1),.p (tO z.2)]) (by simp[qI,O.p i z hi,pl]) rfl ?_;left;refine zZ (x:=z.1) O.b (by lia) ?_
   try walk_at "vs"
   repeat (first|refine zF rfl (by decide) ?_|refine vW rfl (by repeat constructor) (by decide) ?_)
   left;exact k _ o (O.put (O.wi hi).1) (.set (by lia))
  |second r q i z hr hq hi=>
   have dU:i<ps.length:=O.wq hq;refine jL rfl (useq ?_);walk_at "vs";refine qM O ?_
   try walk_at "vs"
   repeat (first|refine zF rfl (by decide) ?_|refine vW rfl (by repeat constructor) (by decide) ?_)
   left;refine qW O.b hq ?_;left;refine⟨_,rfl,?_⟩;simp only[vf];left;refine kH O ?_;left;refine qW O.b hq ?_;simp only[tO];left;refine J1 O.c dU ?_;left;refine xK (us:=[.p (tO z.1),.p (tO z.2)]) (by simp[qI,O.p i z hi,pl]) rfl ?_;left;refine zZ (x:=z.2) O.b (by lia) ?_
   try walk_at "vs"
   repeat (first|refine zF rfl (by decide) ?_|refine vW rfl (by repeat constructor) (by decide) ?_)
   left;exact k _ o (O.put (O.wi hi).2) (.set (by lia))
  |setL q p i z y hq hi hp=>
   have dU:i<ps.length:=O.wq hq;rw[U2]at k;refine jL rfl (useq ?_);walk_at "vs";refine qM O ?_
   try walk_at "vs"
   repeat (first|refine zF rfl (by decide) ?_|refine vW rfl (by repeat constructor) (by decide) ?_)
   left;refine qW O.b hq ?_;left;refine⟨_,rfl,?_⟩;simp only[vf];left;refine kH O ?_;left;refine qW O.b hq ?_;simp only[tO];left;refine J1 O.c dU ?_;left;refine qW O.b hp ?_;left;rw[GZ (by decide)];refine V7 (r:=0) (O.p i z hi) (by show 0<2;lia) ?_;left;exact k _ o (O.setp (x:=(y,z.2)) dU ⟨O.wq hp,(O.wi hi).2⟩) (.set (by lia))
  |setR q p i z y hq hi hp=>
   have dU:i<ps.length:=O.wq hq;rw[U2]at k;refine jL rfl (useq ?_);walk_at "vs";refine qM O ?_
   try walk_at "vs"
   repeat (first|refine zF rfl (by decide) ?_|refine vW rfl (by repeat constructor) (by decide) ?_)
   left;refine qW O.b hq ?_;left;refine⟨_,rfl,?_⟩;simp only[vf];left;refine kH O ?_;left;refine qW O.b hq ?_;simp only[tO];left;refine J1 O.c dU ?_;left;refine qW O.b hp ?_;left;refine V7 (r:=1) (O.p i z hi) (by show 1<2;lia) ?_;left;exact k _ o (O.setp (x:=(z.1,y)) dU ⟨(O.wi hi).1,O.wq hp⟩) (.set (by lia))
  |plus r q p a b hr hq hp=>
   have kk:=λh=>k _ o (O.put (r:=r) (x:=.num _) trivial) (.set h);have kk:=kk (by lia);exact(cz _ r q p _ _ rfl (.inl rfl) hr hq hp (.inr ⟨.inl rfl,λh=>absurd h (by decide),_,_,_,rfl,.inl ⟨rfl,_,rfl,kk⟩⟩)).elim
  |less r q p a b hr hq hp=>
   have kk:=λh=>k _ o (O.put (r:=r) (x:=.num _) trivial) (.set h);have kk:=kk (by lia);exact(cz _ r q p _ _ rfl (.inr (.inl rfl)) hr hq hp (.inr ⟨.inr (.inl rfl),λh=>absurd h (by decide),_,_,_,rfl,.inr (.inl ⟨rfl,_,rfl,kk⟩)⟩)).elim
  |times r q p a b hr hq hp hm=>
   have kk:=λh=>k _ o (O.put (r:=r) (x:=.num _) trivial) (.set h);have kk:=kk (by lia);exact(cz _ r q p _ _ rfl (.inr (.inr (.inl rfl))) hr hq hp (.inr ⟨.inr (.inr (.inl rfl)),λh=>absurd h (by decide),_,_,_,rfl,.inr (.inr (.inl ⟨rfl,hm,_,rfl,kk⟩))⟩)).elim
  |over r q p a b hr hq hp hb gT=>
   have kk:=λh=>k _ o (O.put (r:=r) (x:=.num _) trivial) (.set h);have kk:=kk (by lia);exact(cz _ r q p _ _ rfl (.inr (.inr (.inr (.inl rfl)))) hr hq hp (.inr ⟨.inr (.inr (.inr (.inl rfl))),λ_a=>hb,_,_,_,rfl,.inr (.inr (.inr (.inl ⟨rfl,hb,gT,_,rfl,kk⟩)))⟩)).elim
  |rest r q p a b hr hq hp hb=>
   have kk:=λh=>k _ o (O.put (r:=r) (x:=.num _) trivial) (.set h);have kk:=kk (by lia);exact(cz _ r q p _ _ rfl (.inr (.inr (.inr (.inr rfl)))) hr hq hp (.inr ⟨.inr (.inr (.inr (.inr rfl))),λ_a=>hb,_,_,_,rfl,.inr (.inr (.inr (.inr ⟨rfl,hb,_,rfl,kk⟩)))⟩)).elim
 ·cases hd with
  |n1 ww hw r q p x y hr hq hx hp=>exact(cz _ r q p _ _ rfl hw hr hq hp (xb hx k)).elim
  |n2 ww hw r q p a y hr hq hp hy=>exact(cz _ r q p _ _ rfl hw hr hq hp (xa hy k)).elim
  |nz ww hw r q p a hr hq hp=>
   have hf:five ww:=hw.elim (λh=>.inr (.inr (.inr (.inl h)))) λh=>.inr (.inr (.inr (.inr h)));exact(cz _ r q p (.num a) (.num 0) rfl hf hr hq hp (.inl ⟨hw,rfl,k⟩)).elim
  |p1 ww hw r q x hr hq hx=>
   rcases hw with rfl|rfl <;>
   ·refine jL rfl (useq ?_)
    walk_at "vs";refine qM O ?_
    try walk_at "vs"
    repeat (first|refine zF rfl (by decide) ?_|refine vW rfl (by repeat constructor) (by decide) ?_)
    left;refine qW O.b hq ?_;left;refine⟨_,rfl,?_⟩;symm;refine qO (by simpa using hx) ?_;left;exact k
  |p2 ww hw q p x y hq hx hp=>
   rcases hw with rfl|rfl <;>
   ·refine jL rfl (useq ?_)
    walk_at "vs";refine qM O ?_
    try walk_at "vs"
    repeat (first|refine zF rfl (by decide) ?_|refine vW rfl (by repeat constructor) (by decide) ?_)
    left;refine qW O.b hq ?_;left;refine⟨_,rfl,?_⟩;symm;refine qO (by simpa using hx) ?_;left;exact k
noncomputable abbrev Xj:Stmt:=top 85
theorem scOwnAsk:q00 ["own","deed","word","one","other"] ["own","deed"] (qd Xj):=by ac_rfl
noncomputable def VC:List U->MM->UK->Prop:=λus M Q=>∃(o:Nm)(ws:List Wt)(ps:WW)(ds:List T),us=[.m (o 0),.p (.tup ds)]/\Own M o ws ps/\((∃bU,DeedAsk ws ds bU/\Q (.p (.tup [.str "", bU])) M)\/∃p,AskNo ws ds p/\Q (.p (.tup [.str "WrongKind",.int p])) M)
theorem XE(F:Fun Ξ "_law_own_ask" "_law_own_ask" Xj f fd)(N:Nms mg)(ao:Def P w Ξ mg base "_law_own_kind" 1 ["worth"] (spP JT)):FnOk P w Ξ mg base CX0 2 f fd ["own","deed"] (spU VC):=by
 refine F.zU scOwnAsk (by rintro _ _ _ ⟨_,_,_,_,rfl,_⟩;rfl) (λac A outer s H E hr=>?_);refine⟨_,(qb (qB (i:=2) scOwnAsk.nd rfl GL (qj (GQ Ξ) qv1 qa (λ_a _a=>rfl))) (qb (qB (i:=3) scOwnAsk.nd rfl GL (qj (GO Ξ) (qj (GO Ξ) qv0 qa (λ_a _a=>rfl)) (qj (GQ Ξ) qv1 qa (λ_a _a=>rfl)) (λ_a _a=>rfl))) (qb (qP (qi op_eq qv2 qc (qm _)) (qe (qt (qu (qa2 qc (qo ao (YV hr) (qa1 qv3)))))) qx) (qb (qP (qi op_eq qv2 qc (qm _)) (qe (qt (qu (qa2 qc (vm (qi op_eq (qo ao (YV hr) (qa1 qv3)) qc (qm _)) qc qv3))))) qx) (qb (qB (i:=4) scOwnAsk.nd rfl GL (qj (GO Ξ) (qj (GO Ξ) qv0 qa (λ_a _a=>rfl)) (qj (GQ Ξ) qv1 qa (λ_a _a=>rfl)) (λ_a _a=>rfl))) (qb (qP (qi op_eq qv2 qc (qm _)) (qe (qt (qu (qa2 qc (Ju (vF op_eq (qo ao (YV hr) (qa1 qv3)) (qo ao (YV hr) (qa1 qv4)) (qm _)) (Ze (vF (q2k (Ξ:=Ξ) rfl hr.units) qv3 qv4 (qm _)))))))) qx) (qb (qP (qi jR (qo ao (YV hr) (qa1 qv3)) qc (qm _)) (qe (qt (qu (qa2 qc qa)))) qx) (qe (qt (vm (qi jR (qo ao (YV hr) (qa1 qv4)) qc (qm _)) (qu (qa2 qc qa)) (qu (qa2 qc (vF Kw qv3 qv4 (qm _)))))))))))))),_,(by right),λus M Qu h=>?_⟩;obtain⟨o,ws,ps,ds,rfl,O,h⟩:=h;rcases h with⟨bU,hd,q⟩|⟨pp,hd,q⟩
 ·cases hd with
  |kind qq x hq=>
   left;refine qM O ?_;left;refine qW O.b hq ?_;left;refine⟨x,rfl,?_⟩;left;exact q
  |told qq x hq=>
   left;refine qM O ?_;left;refine qW O.b hq ?_;left;refine⟨x,rfl,?_⟩;cases x with
   |pr i=>
    simp only[vf];left;exact q
   |_=>
    simp only[vf];left;exact q
  |same qq p x y hq hp=>
   left;refine qM O ?_;left;refine qW O.b hq ?_;left;refine qM O ?_;left;refine qW O.b hp ?_;left;refine⟨x,rfl,?_⟩;left;refine⟨y,rfl,?_⟩;left;refine ite2 (λhk=>q29 q) (λhk=>?_);have:decide (x=y)=false:=G0 λz=>hk (by rw[z]);rw[this]at q;exact q
  |below qq p a b hq hp=>
   left;refine qM O ?_;left;refine qW O.b hq ?_;left;refine qM O ?_;left;refine qW O.b hp ?_;left;refine⟨_,rfl,?_⟩;simp only[vf];left;refine⟨_,rfl,?_⟩;simp only[vf,tO];left;exact q
 ·cases hd with
  |b1 qq p x y hq hx hp=>
   left;refine qM O ?_;left;refine qW O.b hq ?_;left;refine qM O ?_;left;refine qW O.b hp ?_;left;refine⟨_,rfl,?_⟩;symm;refine qO (by simpa using hx) ?_;left;exact q
  |b2 qq p a y hq hp hy=>
   left;refine qM O ?_;left;refine qW O.b hq ?_;left;refine qM O ?_;left;refine qW O.b hp ?_;left;refine⟨_,rfl,?_⟩;simp only[vf];left;refine⟨_,rfl,?_⟩;symm;refine qO (by simpa using hy) ?_;left;exact q
theorem JW(x:Wt):depT 2 (tT x):=by
 cases x with
 |sgn k=>
  refine⟨by show 2<=10000000;decide,λy hy=>?_⟩;simp only[Da,Dg,G9]at hy;rcases hy with rfl|rfl<;>trivial
 |_=>trivial
theorem DeedAsk.dep(h:DeedAsk ws ds bU):depT 2 bU:=by
 cases h with
 |told=>exact JW _
 |_=>trivial
theorem VM(ha:depT 2 a)(hb:depT 2 b):depT 3 (.tup [a,b]):=by
 refine⟨by show 2<=10000000;decide,λy hy=>?_⟩;simp only[Da,Dg,G9]at hy;rcases hy with rfl|rfl
 ·exact ha
 ·exact hb
theorem q6C:depT 2 (pT p):=by cases p<;>trivial
structure Two(C D:Addr)(M:MM)(s o:Nm)(ws:List Wt)(ps:WW):Prop where
 S:Sto C D M s ws ps
 O:Own M o ws ps
 d:∀i j,i<ps.length+2->j<ps.length+3->s i≠o j
theorem Sto.go(S:Sto C D M s ws ps)(h:∀i,i<ps.length+2->M'[s i]?=M[s i]?):Sto C D M' s ws ps :=
 ⟨(h 0 (by lia)).trans S.s0,(h 1 (by lia)).trans S.h,λi x hi=>(h _ (by have:=(UR.mp hi).1;lia)).trans (S.p i x hi),S.n,S.inj,S.ww,S.wp⟩
theorem Own.go(S:Own M o ws ps)(h:∀i,i<ps.length+3->M'[o i]?=M[o i]?):Own M' o ws ps :=
 ⟨(h 0 (by lia)).trans S.o0,(h 1 (by lia)).trans S.b,(h 2 (by lia)).trans S.c,λi x hi=>(h _ (by have:=(UR.mp hi).1;lia)).trans (S.p i x hi),S.n,S.inj,S.ww,S.wp⟩
structure Go2(M M':MM)(s o s' o':Nm)(n n':Nat):Prop where
 len:M.length<=M'.length
 fr:∀k,k<M.length->(∀i,i<n+2->k≠s i)->(∀i,i<n+3->k≠o i)->M'[k]?=M[k]?
 ns:∀i,i<n'+2->(∃j,j<n+2/\s' i=s j)\/M.length<=s' i
 no:∀i,i<n'+3->(∃j,j<n+3/\o' i=o j)\/M.length<=o' i
 z:s' 0=s 0
 y:o' 0=o 0
theorem Two.step{M M1 M2:MM}(W:Two C D M s o ws ps)(S1:Sto C D M1 s' aw ak)(g1:Go M M1 s s' (ps.length+2) (ak.length+2))(O2:Own M2 o' aw ak)(g2:Go M1 M2 o o' (ps.length+3) (ak.length+3)):Two C D M2 s' o' aw ak/\Go2 M M2 s o s' o' ps.length ak.length:=by
 have lt:∀j,j<ps.length+3->o j<M.length:=λj hj=>W.O.lt hj;have ne:∀i j,i<ak.length+2->j<ps.length+3->s' i≠o j:=λi j hi hj z=>by
  rcases g1.nw i hi with⟨l,hl,e⟩|e
  ·exact W.d l j hl hj (e.symm.trans z)
  ·have:=lt j hj
   lia
 refine⟨⟨S1.go λi hi=>g2.fr _ (S1.lt hi) λj hj=>ne i j hi hj,O2,λi j hi hj z=>?_⟩,⟨Dm g1.len g2.len,λk hk h1 h2=>?_,g1.nw,λi hi=>?_,g1.z,g2.z⟩⟩
 ·rcases g2.nw j hj with⟨l,hl,e⟩|e
  ·exact ne i l hi hl (z.trans e)
  ·have:=S1.lt hi
   lia
 ·have:=g1.len
  rw[g2.fr k (by lia) h2,g1.fr k hk h1]
 ·have:=g1.len
  rcases g2.nw i hi with h|h
  ·exact .inl h
  ·exact .inr (by lia)
theorem Two.mid{M M1:MM}(W:Two C D M s o ws ps)(g1:Go M M1 s s' (ps.length+2) n'):Own M1 o ws ps:=W.O.go λi hi=>g1.fr _ (W.O.lt hi) λj hj z=>W.d j i hj hi z.symm
noncomputable def askW(w:Str)(b:Bool):Prop:=inV (.str w) [.str "kind",.str "told",.str "same",.str "below"]=b
theorem DeedDo.word(h:DeedDo ws ps ds aw ak):∃w r,ds=.str w::r/\askW w false:=by cases h<;>exact⟨_,_,rfl,by unfold askW;decide⟩
theorem DeedAsk.word(h:DeedAsk ws ds bU):∃w r,ds=.str w::r/\askW w true:=by cases h<;>exact⟨_,_,rfl,by unfold askW;decide⟩
theorem AskNo.word(h:AskNo ws ds p):∃w r,ds=.str w::r/\askW w true:=by cases h<;>exact⟨_,_,rfl,by unfold askW;decide⟩
theorem DeedNo.word(h:DeedNo ws ds nm p):∃w r,ds=.str w::r/\askW w false:=by
 cases h with
 |n1 w hw=>exact⟨_,_,rfl,by unfold askW;rcases hw with rfl|rfl|rfl|rfl|rfl<;>decide⟩
 |n2 w hw=>exact⟨_,_,rfl,by unfold askW;rcases hw with rfl|rfl|rfl|rfl|rfl<;>decide⟩
 |nz w hw=>exact⟨_,_,rfl,by unfold askW;rcases hw with rfl|rfl<;>decide⟩
 |p1 w hw=>exact⟨_,_,rfl,by unfold askW;rcases hw with rfl|rfl<;>decide⟩
 |p2 w hw=>exact⟨_,_,rfl,by unfold askW;rcases hw with rfl|rfl<;>decide⟩
theorem zw{ws:List Wt}(h:ws.length=8)(hq:q<8):∃x,ws[q]?=some x:=⟨ws[q]'(by lia),UU _⟩
noncomputable abbrev jq:Stmt:=top 75
theorem scAnyNumber:q00 ["bag","kind","sign"] ["bag"] (qd jq):=by ac_rfl
noncomputable def vG:List U->MM->UK->Prop:=λus M Q=>∃(k:Nat)(o:MO),us=[.m k]/\M[k]?=some o/\BagO o/\∀(n:Int)(o':MO),BagO o'->Bt 300 n->Q (.p (.int n)) (M.set k o')
theorem Qj(F:Fun Ξ "_law_any_number" "_law_any_number" jq f fd)(N:Nms mg)(a8:Def P w Ξ mg base "_law_draw" 1 ["bag","many"] (spU jT)):FnOk P w Ξ mg base CX0 2 f fd ["bag"] (spU vG):=by
 refine F.zV scAnyNumber (by rintro _ _ _ ⟨_,_,rfl,_⟩;rfl) (λac A outer s H E hr=>?_);refine⟨_,(qb (qB (i:=1) scAnyNumber.nd rfl GL (qo a8 (YV hr) (qa2 qv0 qa))) (qb (qB (i:=2) scAnyNumber.nd rfl GL (qC jF (qC kI (qo a8 (YV hr) (qa2 qv0 qa)) qa) qa)) (qb (qP (qi Kw qv1 qa (qm _)) (qe (qt (qC jF (qo a8 (YV hr) (qa2 qv0 qa)) qa))) qx) (qb (qP (qi Kw qv1 qa (qm _)) (qe (qt (qC kI qv2 (qC jF (qC vz (qC q2t qa (qo a8 (YV hr) (qa2 qv0 qa))) (qo a8 (YV hr) (qa2 qv0 qa))) qa)))) qx) (qe (qt (qC kI qv2 (qo a8 (YV hr) (qa2 qv0 (qj (GO Ξ) (qG (qa2 (qC Jx qa qa) (qC Jx qa qa))) (qC jF qv1 qa) (λ_a _a=>rfl))))))))))),_,(by right),λus M M1 Qu e1 h=>?_⟩;obtain⟨k,o,rfl,em,hB,post⟩:=h;obtain⟨ec,eM⟩:=xr em;rw[e1.trans eM];have fin:∀(z:Int)(o':MO),BagO o'->Bt 300 z->zu M (MB M k o' [])/\Qu (.p (.int z)) (List.take (List.length M) (MB M k o' [])):=λz o' B h1=>⟨jz B.pur,by rw[jA];exact post z o' B h1⟩;symm;refine qE ec hB (by decide) (by decide) λkd o1 w0 w1 B1=>?_;symm;refine qE ec B1 (by decide) (by decide) λd2 o3 iD m4 B3=>?_;symm;have m5:d2*2-1=1\/d2*2-1 = -1:=by lia
 refine⟨.inl ⟨by lia,by lia⟩,?_⟩;symm;refine ite2 (λh1=>?_) (λh1=>?_)
 ·refine qE ec B3 (by decide) (by decide) λd o2 d0 d1 B2=>?_
  symm;exact fin _ _ B2 (Bt.small (by lia) (by lia) (by decide))
 symm;refine ite2 (λh2=>?_) (λh2=>?_)
 ·refine qE ec B3 (by decide) (by decide) λx o4 x0 x1 B4=>?_
  symm;refine⟨⟨by lia,by lia,by decide⟩,?_⟩;refine qE ec B4 (by decide) (by decide) λd5 o5 m6 m7 B5=>?_;symm;refine⟨.inl ⟨by lia,by lia⟩,?_⟩;refine fin _ _ B5 ?_;have e2:=(Bt.pow x.toNat).add (Bt.small (i:=d5-2) (n:=62) (by lia) (by lia) (by decide));have e3:=(e2.sign m5).mono (m:=300) (by lia);rw[show(1:Int)*2^x.toNat+d5-2=1*2^x.toNat+(d5-2) by lia];exact e3
 ·symm
  refine⟨⟨by decide,by decide,by decide⟩,⟨by decide,by decide,by decide⟩,?_⟩;have rm:Bt 300 ((10:Int)^Int.toNat 60):=by unfold Bt;decide+kernel
  have rn:Bt 300 ((10:Int)^Int.toNat 20):=by unfold Bt;decide+kernel
  rcases(show kd=4\/kd=5 by lia)with rfl|rfl
  ·refine qX rfl ?_
   refine qE ec B3 (by decide) (by decide+kernel) λx o4 x0 x1 B4=>?_;symm;refine⟨.inl ⟨by lia,by lia⟩,?_⟩;symm;exact fin _ _ B4 ((rm.nonneg_le x0 (Int.le_of_lt x1)).sign m5)
  ·refine qX rfl ?_
   refine qE ec B3 (by decide) (by decide+kernel) λx o4 x0 x1 B4=>?_;symm;refine⟨.inl ⟨by lia,by lia⟩,?_⟩;symm;exact fin _ _ B4 ((rn.nonneg_le x0 (Int.le_of_lt x1)).sign m5)
theorem q4d(hk:k<M.length)(B:BagO o)(q:∀(n:Int)(o':MO),BagO o'->Bt 300 n->Q (.p (.int n)) (MB M k o' L)):vG [.m k] (MB M k o L) Q :=
 ⟨k,o,rfl,ZV hk,B,λx o' B' x0=>by rw[xh hk];exact q x o' B' x0⟩
noncomputable def szW(m:Nat):Wt->Prop
 |.num n=>Bt m n
 |_=>True
noncomputable def szL(m:Nat)(ws:List Wt)(ps:WW):Prop:=(∀x∈ws,szW m x)/\∀x∈ps,szW m x.1/\szW m x.2
theorem szW.mono(h:szW m x)(hm:m<=n):szW n x:=by
 cases x with
 |num a=>exact Bt.mono h hm
 |_=>trivial
theorem szL.mono(h:szL m ws ps)(hm:m<=n):szL n ws ps:=⟨λx hx=>(h.1 x hx).mono hm,λx hx=>⟨(h.2 x hx).1.mono hm,(h.2 x hx).2.mono hm⟩⟩
theorem szL.put(h:szL m ws ps)(hx:szW (m+1) x):szL (m+1) (ws.set r x) ps:=⟨v7 (λy hy=>(h.1 y hy).mono (by lia)) hx,λy hy=>⟨(h.2 y hy).1.mono (by lia),(h.2 y hy).2.mono (by lia)⟩⟩
theorem szL.at{m q:Nat}(h:szL m ws ps)(hq:ws[q]?=some x):szW m x:=h.1 x (U0 hq)
theorem szL.pi{m q:Nat}(h:szL m ws ps)(hq:ps[q]?=some x):szW m x.1/\szW m x.2:=h.2 x (U0 hq)
theorem noPy(h:Bt 13400 x):Builtin.divisionGoesByPylong x y=false:=by
 have key:(if x==0 then 0 else x.natAbs.log2 / 30+1)<=447:=by
  by_cases hx:(x==0)=true
  ·rw[G4 hx];exact Du _
  ·rw[GZ hx]
   have h0:x.natAbs≠0:=λz=>hx (by rw[Int.natAbs_eq_zero.mp z];rfl);have:=(Nat.log2_lt h0).mpr h;lia
 show(decide ((if y==0 then 0 else y.natAbs.log2 / 30+1)>300)&&decide ((if x==0 then 0 else x.natAbs.log2 / 30+1)>(if y==0 then 0 else y.natAbs.log2 / 30+1)+150))=false;generalize(if y==0 then 0 else y.natAbs.log2 / 30+1)=dy;generalize(if x==0 then 0 else x.natAbs.log2 / 30+1)=dx at key ⊢;by_cases hy:dy>300
 ·rw[G0 (p:=dx>dy+150) (by lia),Bool.and_false]
 ·rw[G0 hy,Bool.false_and]
theorem q2F(ha:Bt n a)(hb:b≠0):Bt (n+1) (a.fdiv b):=by
 unfold Bt at ha ⊢;have key:∀{x y:Int},0<y->x.natAbs<2^n->(x.fdiv y).natAbs<2^(n+1):=λ{x y} hy hx=>by
  rw[Rv x (by lia)];have h1:=Int.natAbs_ediv_le_natAbs x y;rw[Nat.pow_succ];lia
 rcases Bm hb with h|h
 ·rw[<-Int.neg_fdiv_neg]
  exact key (by lia) (by rwa [RX])
 ·exact key h ha
theorem q35{a b:Int}(lV:Bt n b)(hb:b≠0):Bt n (a.fmod b):=by
 unfold Bt at lV ⊢;rcases Bm hb with h|h
 ·have e:a.fmod b = -((-a).fmod (-b)):=by rw[Int.neg_fmod_neg];lia
  rw[e,RX,DW _ (by lia)];have h1:=DO (-a) (show -b≠0 by lia);have h2:=DI (-a) (show 0 < -b by lia);lia
 ·rw[DW _ (by lia)]
  have h1:=DO a hb;have h2:=DI a h;lia
inductive Formed:List T->Prop
 |num (r:Nat) (n:Int) (hr:r<8) (hb:Bt 300 n):Formed [.str "number",.int (r:Int),.int n]
 |sgn (r:Nat) (n:Int) (hr:r<8):Formed [.str "sign",.int (r:Int),.int n]
 |one (r:Nat) (n:Str) (hr:r<8):Formed [.str "one",.int (r:Int),.str n]
 |copy (r q:Nat) (hr:r<8) (hq:q<8):Formed [.str "copy",.int (r:Int),.int (q:Int)]
 |five (w:Str) (hw:five w) (r q p:Nat) (hr:r<8) (hq:q<8) (hp:p<8):Formed [.str w,.int (r:Int),.int (q:Int),.int (p:Int)]
 |pair (r q p:Nat) (hr:r<8) (hq:q<8) (hp:p<8):Formed [.str "pair",.int (r:Int),.int (q:Int),.int (p:Int)]
 |get (w:Str) (hw:w = "first" \/ w = "second") (r q:Nat) (hr:r<8) (hq:q<8):Formed [.str w,.int (r:Int),.int (q:Int)]
 |set (w:Str) (hw:w = "set_first" \/ w = "set_second") (q p:Nat) (hq:q<8) (hp:p<8):Formed [.str w,.int (q:Int),.int (p:Int)]
 |below (q p:Nat) (hq:q<8) (hp:p<8):Formed [.str "below",.int (q:Int),.int (p:Int)]
noncomputable def Tame(ws:List Wt)(ds:List T):Prop:=∀(r q p:Nat)(a b:Int),ds=[.str "times",.int (r:Int),.int (q:Int),.int (p:Int)]->ws[q]?=some (.num a)->ws[p]?=some (.num b)->Bt 12000 (a*b)
theorem q6t:(∃i,x=.pr i)\/vf x ≠ "pair" := by
 cases x with
 |pr i=>exact .inl ⟨i,rfl⟩
 |_=>exact .inr (by dsimp only[vf];decide)
theorem jG:(∃a,x=.num a)\/vf x ≠ "number" := by
 cases x with
 |num i=>exact .inl ⟨i,rfl⟩
 |_=>exact .inr (by dsimp only[vf];decide)
noncomputable def Comes(m:Nat)(ws:List Wt)(ps:WW)(ds:List T):Prop:=(∃aw ak,DeedDo ws ps ds aw ak/\ak.length<=ps.length+1/\szL (m+1) aw ak)\/(∃bU,DeedAsk ws ds bU)\/(∃nm p,DeedNo ws ds nm p)\/∃p,AskNo ws ds p
theorem Formed.comes(h:Formed ds)(ht:Tame ws ds)(hn:ws.length=8)(hk:∀x∈ws,okW ps.length x)(hz:szL m ws ps)(m0:12000<=m)(m1:m<=13000):Comes m ws ps ds:=by
 cases h with
 |num r n hr hb=>exact .inl ⟨_,_,.num r n hr,by lia,hz.put (hb.mono (by lia))⟩
 |sgn r n hr=>exact .inl ⟨_,_,.sgn r n hr,by lia,hz.put trivial⟩
 |one r n hr=>exact .inl ⟨_,_,.one r n hr,by lia,hz.put trivial⟩
 |copy r q hr hq=>
  obtain⟨x,hx⟩:=zw hn hq;exact .inl ⟨_,_,.copy r q x hr hx,by lia,hz.put ((hz.at hx).mono (by lia))⟩
 |five w hw r q p hr hq hp=>
  obtain⟨x,hx⟩:=zw hn hq;obtain⟨y,hy⟩:=zw hn hp;rcases jG (x:=x) with⟨a,rfl⟩|hxk
  ·rcases jG (x:=y) with⟨b,rfl⟩|hyk
   ·have ha:Bt m a:=hz.at hx
    have hb:Bt m b:=hz.at hy;rcases hw with rfl|rfl|rfl|rfl|rfl
    ·exact .inl ⟨_,_,.plus r q p a b hr hx hy,by lia,hz.put ((ha.add hb).mono (by lia))⟩
    ·exact .inl ⟨_,_,.less r q p a b hr hx hy,by lia,hz.put ((ha.sub hb).mono (by lia))⟩
    ·exact .inl ⟨_,_,.times r q p a b hr hx hy (.of_bits (Dm ha.bits (by lia)) (Dm hb.bits (by lia))),by lia,hz.put ((ht r q p a b rfl hx hy).mono (by lia))⟩
    ·by_cases h0:b=0
     ·subst h0
      exact .inr (.inr (.inl ⟨_,_,.nz _ (.inl rfl) r q p a hr hx hy⟩))
     ·exact .inl ⟨_,_,.over r q p a b hr hx hy h0 (noPy (ha.mono (by lia))),by lia,hz.put (q2F ha h0)⟩
    ·by_cases h0:b=0
     ·subst h0
      exact .inr (.inr (.inl ⟨_,_,.nz _ (.inr rfl) r q p a hr hx hy⟩))
     ·exact .inl ⟨_,_,.rest r q p a b hr hx hy h0,by lia,hz.put ((q35 hb h0).mono (by lia))⟩
   ·exact .inr (.inr (.inl ⟨_,_,.n2 w hw r q p a y hr hx hy hyk⟩))
  ·exact .inr (.inr (.inl ⟨_,_,.n1 w hw r q p x y hr hx hxk hy⟩))
 |pair r q p hr hq hp=>
  obtain⟨x,hx⟩:=zw hn hq;obtain⟨y,hy⟩:=zw hn hp;refine .inl ⟨_,_,.pair r q p x y hr hx hy,by rw[UV];exact UZ _,(hz.put (r:=r) (x:=.pr ps.length) trivial).1,λz rp=>?_⟩;rcases U4.mp rp with h|h
  ·exact⟨(hz.2 z h).1.mono (by lia),(hz.2 z h).2.mono (by lia)⟩
  ·cases U7.mp h
   exact⟨(hz.at hx).mono (by lia),(hz.at hy).mono (by lia)⟩
 |get w hw r q hr hq=>
  obtain⟨x,hx⟩:=zw hn hq;rcases q6t (x:=x) with⟨i,rfl⟩|hxk
  ·have hi:i<ps.length:=hk _ (U0 hx)
   have eg:=UU hi;rcases hw with rfl|rfl
   ·exact .inl ⟨_,_,.first r q i _ hr hx eg,by lia,hz.put ((hz.pi eg).1.mono (by lia))⟩
   ·exact .inl ⟨_,_,.second r q i _ hr hx eg,by lia,hz.put ((hz.pi eg).2.mono (by lia))⟩
  ·exact .inr (.inr (.inl ⟨_,_,.p1 w hw r q x hr hx hxk⟩))
 |set w hw q p hq hp=>
  obtain⟨x,hx⟩:=zw hn hq;obtain⟨y,hy⟩:=zw hn hp;rcases q6t (x:=x) with⟨i,rfl⟩|hxk
  ·have hi:i<ps.length:=hk _ (U0 hx)
   have eg:=UU hi;have sy:=(hz.at hy).mono (n:=m+1) (by lia);have s1:=(hz.pi eg).1.mono (n:=m+1) (by lia);have s2:=(hz.pi eg).2.mono (n:=m+1) (by lia);have z1:=hz.mono (n:=m+1) (by lia);rcases hw with rfl|rfl
   ·exact .inl ⟨_,_,.setL q p i _ y hx eg hy,by rw[U2];lia,z1.1,v7 z1.2 ⟨sy,s2⟩⟩
   ·exact .inl ⟨_,_,.setR q p i _ y hx eg hy,by rw[U2];lia,z1.1,v7 z1.2 ⟨s1,sy⟩⟩
  ·exact .inr (.inr (.inl ⟨_,_,.p2 w hw q p x y hx hxk hy⟩))
 |below q p hq hp=>
  obtain⟨x,hx⟩:=zw hn hq;obtain⟨y,hy⟩:=zw hn hp;rcases jG (x:=x) with⟨a,rfl⟩|hxk
  ·rcases jG (x:=y) with⟨b,rfl⟩|hyk
   ·exact .inr (.inl ⟨_,.below q p a b hx hy⟩)
   ·exact .inr (.inr (.inr ⟨_,.b2 q p a y hx hy hyk⟩))
  ·exact .inr (.inr (.inr ⟨_,.b1 q p x y hx hxk hy⟩))
inductive RowI(n:Nat):List T->Prop
 |deed (w:Str) (r:List T) (h:Formed (.str w::r)) (hw:w ≠ "below"):RowI n (.str w::r)
 |below (q p t:Nat) (hq:q<8) (hp:p<8) (ht:t<n):RowI n [.str "below",.int (q:Int),.int (p:Int),.int (t:Int)]
 |same (q p t:Nat) (hq:q<8) (hp:p<8) (ht:t<n):RowI n [.str "same",.int (q:Int),.int (p:Int),.int (t:Int)]
 |kind (q t:Nat) (kd:Str) (hq:q<8) (ht:t<n):RowI n [.str "kind",.int (q:Int),.str kd,.int (t:Int)]
 |tell (q:Nat) (hq:q<8):RowI n [.str "tell",.int (q:Int)]
 |jump (t:Nat) (ht:t<n):RowI n [.str "jump",.int (t:Int)]
 |endd:RowI n [.str "end"]
inductive Res where
 |go (ws:List Wt) (ps:WW) (a:Nat) (nw:List T)|no (nm:Str) (p:Option Int)
inductive Step(ws:List Wt)(ps:WW)(a:Nat):List T->Res->Prop
 |jump (t:Nat):Step ws ps a [.str "jump",.int (t:Int)] (.go ws ps t [])
 |tell (q:Nat) (x:Wt) (hq:ws[q]?=some x):Step ws ps a [.str "tell",.int (q:Int)] (.go ws ps (a+1) [tT x])
 |ask (w:Str) (hw:w = "below" \/ w = "same") (q p t:Nat) (b:Bool) (h:DeedAsk ws [.str w,.int (q:Int),.int (p:Int)] (.bl b)):Step ws ps a [.str w,.int (q:Int),.int (p:Int),.int (t:Int)] (.go ws ps (if b=true then t else a+1) [])
 |kind (q t:Nat) (x:Wt) (kd:Str) (hq:ws[q]?=some x):Step ws ps a [.str "kind",.int (q:Int),.str kd,.int (t:Int)] (.go ws ps (if decide (vf x=kd)=true then t else a+1) [])
 |askno (q p t:Nat) (pp:Int) (h:AskNo ws [.str "below",.int (q:Int),.int (p:Int)] pp):Step ws ps a [.str "below",.int (q:Int),.int (p:Int),.int (t:Int)] (.no "WrongKind" (some pp))
 |deed (ds:List T) (aw:List Wt) (ak:WW) (h:DeedDo ws ps ds aw ak) (ht:Tame ws ds) (hl:ps.length<1000):Step ws ps a ds (.go aw ak (a+1) [])
 |no (ds:List T) (nm:Str) (p:Option Int) (h:DeedNo ws ds nm p):Step ws ps a ds (.no nm p)
noncomputable def KO(p:Option Int)(a:Nat):T:=match p with|some k=>.tup [.str "kind",.int (a:Int),.int k]|none=>.tup [.str "nought",.int (a:Int)]
inductive Walk(rows:List (List T))(g:Prop):Nat->List Wt->WW->Nat->T->List T->List Wt->WW->Prop
 |far (ws:List Wt) (ps:WW) (a:Nat):Walk rows g 0 ws ps a (.tup [.str "far",.int (a:Int)]) [] ws ps
 |endd (n:Nat) (ws:List Wt) (ps:WW) (a:Nat) (h:rows[a]?=some [.str "end"]):Walk rows g (n+1) ws ps a (.tup [.str "end"]) [] ws ps
 |no (n:Nat) (ws:List Wt) (ps:WW) (a:Nat) (ds:List T) (nm:Str) (p:Option Int) (h:rows[a]?=some ds) (s:Step ws ps a ds (.no nm p)):Walk rows g (n+1) ws ps a (KO p a) [] ws ps
 |go (n:Nat) (ws:List Wt) (ps:WW) (a:Nat) (ds:List T) (aQ:List Wt) (aq:WW) (a1:Nat) (nw:List T) (e:T) (ns:List T) (ay:List Wt) (au:WW) (h:rows[a]?=some ds) (s:Step ws ps a ds (.go aQ aq a1 nw)) (r:Walk rows g n aQ aq a1 e ns ay au):Walk rows g (n+1) ws ps a e (nw++ns) ay au
 |great (n:Nat) (ws:List Wt) (ps:WW) (a r q p:Nat) (x y:Int) (hg:g) (h:rows[a]?=some [.str "times",.int (r:Int),.int (q:Int),.int (p:Int)]) (hq:ws[q]?=some (.num x)) (hp:ws[p]?=some (.num y)) (hm:IntMulOk x y) (hb:¬Bt 12000 (x*y)):Walk rows g (n+1) ws ps a (.tup [.str "great",.int (a:Int)]) [] ws ps
structure WOk(ws:List Wt)(ps:WW):Prop where
 n:ws.length=8
 ww:∀x∈ws,okW ps.length x
 wp:∀x∈ps,okW ps.length x.1/\okW ps.length x.2
theorem WOk.set(h:WOk ws ps)(hx:okW ps.length x):WOk (ws.set r x) ps:=⟨by rw[U2];exact h.n,v7 h.ww hx,h.wp⟩
theorem WOk.setp(h:WOk ws ps)(hx:okW ps.length x.1/\okW ps.length x.2):WOk ws (ps.set i x):=⟨h.n,by rw[U2];exact h.ww,by rw[U2];exact v7 h.wp hx⟩
theorem WOk.at{q:Nat}(h:WOk ws ps)(e:ws[q]?=some x):okW ps.length x:=h.ww x (U0 e)
theorem WOk.pi{q:Nat}(h:WOk ws ps)(e:ps[q]?=some x):okW ps.length x.1/\okW ps.length x.2:=h.wp x (U0 e)
theorem DeedDo.ok(h:DeedDo ws ps ds aw ak)(k:WOk ws ps):WOk aw ak:=by
 cases h with
 |copy r q x hr hq=>exact k.set (k.at hq)
 |pair r q p x y hr hq hp=>
  have el:(ps++[(x,y)]).length=ps.length+1:=by rw[UV];rfl
  refine⟨by rw[U2];exact k.n,?_,?_⟩
  ·rw[el]
   exact v7 (λy hy=>(k.ww y hy).mono (by lia)) (show ps.length<ps.length+1 by lia)
  ·rw[el]
   intro z hz;rcases U4.mp hz with hz|hz
   ·exact⟨(k.wp z hz).1.mono (by lia),(k.wp z hz).2.mono (by lia)⟩
   ·cases U7.mp hz
    exact⟨(k.at hq).mono (by lia),(k.at hp).mono (by lia)⟩
 |first r q i z hr hq hi=>exact k.set (k.pi hi).1
 |second r q i z hr hq hi=>exact k.set (k.pi hi).2
 |setL q p i z y hq hi hp=>exact k.setp ⟨k.at hp,(k.pi hi).2⟩
 |setR q p i z y hq hi hp=>exact k.setp ⟨(k.pi hi).1,k.at hp⟩
 |_=>exact k.set trivial
structure ScrI(rows:List (List T)):Prop where
 r:∀ds∈rows,RowI rows.length ds
 l:∀ds,rows[rows.length-1]?=some ds->ds=[.str "end"]\/∃t:Nat,ds=[.str "jump",.int (t:Int)]
 n0:1<=rows.length
 n1:rows.length<=60
theorem ScrI.next(S:ScrI rows)(h:rows[a]?=some ds)(h1:ds≠[.str "end"])(h2:∀t:Nat,ds≠[.str "jump",.int (t:Int)]):a+1<rows.length:=by
 have ha:=(UR.mp h).1;rcases RT (a+1) rows.length with z|z
 ·exact z
 ·have e:rows.length-1=a:=by lia
  rcases S.l ds (by rw[e];exact h)with e|⟨t,e⟩
  ·exact absurd e h1
  ·exact absurd e (h2 t)
theorem Gc{w:Str}(hw:w ≠ "times"):Tame ws (.str w::r):=λr q p a b e=>by
 cases e;exact absurd rfl hw
theorem Qk(h:u≠v):T.str u::r≠T.str v::r':=λe=>h (T.str.inj (List.cons.inj e).1)
theorem Formed.noask{w:Str}(h:Formed (.str w::r))(hb:w ≠ "below"):askW w false:=by
 cases h with
 |five _ hw=>rcases hw with rfl|rfl|rfl|rfl|rfl<;>(unfold askW;decide)
 |get _ hw=>rcases hw with rfl|rfl<;>(unfold askW;decide)
 |set _ hw=>rcases hw with rfl|rfl<;>(unfold askW;decide)
 |below=>exact absurd rfl hb
 |_=>unfold askW;decide
theorem VU{w:Str}{r ds:List T}{p:Prop}(h:askW w false)(k:∃w' r',ds=.str w'::r'/\askW w' true)(e:ds=.str w::r):p:=by
 obtain⟨w',r',e',k⟩:=k;have:w'=w:=T.str.inj (List.cons.inj (e'.symm.trans e)).1;subst this;unfold askW at h k;rw[h]at k;cases k
theorem ji(S:ScrI rows)(hg:g\/∀ds∈rows,∀r,ds ≠ .str "times" :: r):∀(n:Nat)(ws:List Wt)(ps:WW)(a m:Nat),a<rows.length->WOk ws ps->szL m ws ps->12000<=m->m+n<=13000->ps.length+n<=1000 ->
  ∃e ns ay au,Walk rows g n ws ps a e ns ay au/\WOk ay au/\szL (m+n) ay au/\au.length<=ps.length+n
 |0,ws,ps,a,m,_,k,z,_,_,_=>⟨_,_,_,_,.far ws ps a,k,z,UZ _⟩
 |n+1,ws,ps,a,m,ha,k,z,m0,m1,hl=>by
  have hd:rows[a]?=some (rows[a]'ha):=UU ha;have hr:=S.r _ (RL ha);generalize rows[a]'ha=ds at hd hr;have stay:∀a1 nw,a1<rows.length->Step ws ps a ds (.go ws ps a1 nw)->∃e ns ay au,Walk rows g (n+1) ws ps a e ns ay au/\WOk ay au/\szL (m+(n+1)) ay au/\au.length<=ps.length+(n+1):=λa1 nw h1 s=>by
   obtain⟨e,ns,ay,au,w,k2,z2,l2⟩:=ji S hg n ws ps a1 m h1 k z m0 (by lia) (by lia);exact⟨_,_,_,_,.go n ws ps a ds _ _ a1 nw e ns ay au hd s w,k2,z2.mono (by lia),by lia⟩
  have stop:∀nm p,Step ws ps a ds (.no nm p)->∃e ns ay au,Walk rows g (n+1) ws ps a e ns ay au/\WOk ay au/\szL (m+(n+1)) ay au/\au.length<=ps.length+(n+1):=λnm p s=>⟨_,_,_,_,.no n ws ps a ds nm p hd s,k,z.mono (by lia),by lia⟩;cases hr with
  |endd=>exact⟨_,_,_,_,.endd n ws ps a hd,k,z.mono (by lia),by lia⟩
  |jump t ht=>exact stay _ _ ht (.jump t)
  |tell q hq=>
   obtain⟨x,hx⟩:=zw k.n hq;exact stay _ _ (S.next hd (Qk (by decide)) λ_a=>Qk (by decide)) (.tell q x hx)
  |kind q t kd hq ht=>
   obtain⟨x,hx⟩:=zw k.n hq;have hn:=S.next hd (Qk (by decide)) λ_a=>Qk (by decide);exact stay _ _ (by split<;>assumption) (.kind q t x kd hx)
  |same q p t hq hp ht=>
   obtain⟨x,hx⟩:=zw k.n hq;obtain⟨y,hy⟩:=zw k.n hp;have hn:=S.next hd (Qk (by decide)) λ_a=>Qk (by decide);exact stay _ _ (by split<;>assumption) (.ask "same" (.inr rfl) q p t _ (.same q p x y hx hy))
  |below q p t hq hp ht=>
   obtain⟨x,hx⟩:=zw k.n hq;obtain⟨y,hy⟩:=zw k.n hp;have hn:=S.next hd (Qk (by decide)) λ_a=>Qk (by decide);rcases jG (x:=x) with⟨u,rfl⟩|hxk
   ·rcases jG (x:=y) with⟨v,rfl⟩|hyk
    ·exact stay _ _ (by split<;>assumption) (.ask "below" (.inl rfl) q p t _ (.below q p u v hx hy))
    ·exact stop _ _ (.askno q p t _ (.b2 q p u y hx hy hyk))
   ·exact stop _ _ (.askno q p t _ (.b1 q p x y hx hxk hy))
  |deed w r hf hw=>
   have hn:a+1<rows.length:=S.next hd (λe=>by cases e;cases hf) (λt e=>by cases e;cases hf);by_cases ht:Tame ws (.str w::r)
   ·rcases hf.comes (m:=m) (ps:=ps) ht k.n k.ww z m0 (by lia) with⟨aw,ak,cJ,oi,hz⟩|⟨bU,cJ⟩|⟨nm,p,cJ⟩|⟨p,cJ⟩
    ·obtain⟨e,ns,ay,au,w2,k2,z2,l2⟩:=ji S hg n aw ak (a+1) (m+1) hn (cJ.ok k) hz (by lia) (by lia) (by lia)
     exact⟨_,_,_,_,.go n ws ps a _ _ _ _ _ e ns ay au hd (.deed _ _ _ cJ ht (by lia)) w2,k2,by rw[show m+(n+1)=m+1+n by lia];exact z2,by lia⟩
    ·exact VU (hf.noask hw) cJ.word rfl
    ·exact stop _ _ (.no _ _ _ cJ)
    ·exact VU (hf.noask hw) cJ.word rfl
   ·have hx:∃(r' q p:Nat)(x y:Int),r=[.int (r':Int),.int (q:Int),.int (p:Int)]/\w = "times" /\ ws[q]?=some (.num x)/\ws[p]?=some (.num y)/\¬Bt 12000 (x*y):=by
     apply Classical.byContradiction;intro ij;apply ht;intro r' q p x y e hq hp;apply Classical.byContradiction;intro hb;cases e;exact ij ⟨r',q,p,x,y,rfl,rfl,hq,hp,hb⟩
    obtain⟨r',q,p,x,y,rfl,rfl,hq,hp,hb⟩:=hx;have hx:Bt m x:=z.at hq;have hy:Bt m y:=z.at hp;rcases hg with hg|hg
    ·exact⟨_,_,_,_,.great n ws ps a r' q p x y hg hd hq hp (.of_bits (Dm hx.bits (by lia)) (Dm hy.bits (by lia))) hb,k,z.mono (by lia),by lia⟩
    ·exact absurd rfl (hg _ (U0 hd) _)
theorem Walk.less(h:Walk rows g n ws ps a e ns ay au):∀f,f<=n->∃e ns ay au,Walk rows g f ws ps a e ns ay au:=by
 induction h with
 |far ws ps a=>exact λf hf=>by cases Nat.le_zero.mp hf;exact⟨_,_,_,_,.far ws ps a⟩
 |endd n ws ps a h=>exact λf hf=>match f with|0=>⟨_,_,_,_,.far ws ps a⟩|f+1=>⟨_,_,_,_,.endd f ws ps a h⟩
 |no n ws ps a ds nm p h s=>exact λf hf=>match f with|0=>⟨_,_,_,_,.far ws ps a⟩|f+1=>⟨_,_,_,_,.no f ws ps a ds nm p h s⟩
 |great n ws ps a r q p x y hg h hq hp hm hb=>exact λf hf=>match f with|0=>⟨_,_,_,_,.far ws ps a⟩|f+1=>⟨_,_,_,_,.great f ws ps a r q p x y hg h hq hp hm hb⟩
 |go n ws ps a ds aQ aq a1 nw e ns ay au h s r ih=>exact λf hf=>match f with
  |0=>⟨_,_,_,_,.far ws ps a⟩
  |f+1=>by
   obtain⟨e',iE,aw,ak,w⟩:=ih f (by lia);exact⟨_,_,_,_,.go f ws ps a ds aQ aq a1 nw e' iE aw ak h s w⟩
theorem Step.two(h:Step ws ps a ds (.no nm p)):(nm = "WrongKind" /\ ∃k,p=some k)\/(nm = "Nought" /\ p=none):=by
 cases h with
 |askno q p t pp h=>exact .inl ⟨rfl,_,rfl⟩
 |no _ _ _ h=>cases h<;>first|exact .inl ⟨rfl,_,rfl⟩|exact .inr ⟨rfl,rfl⟩
theorem Walk.word(h:Walk rows True n ws ps a e ns ay au):∃(w:Str)(r:List T),e=.tup (.str w::r)/\(w ≠ "great" -> Walk rows False n ws ps a e ns ay au):=by
 induction h with
 |far ws ps a=>exact⟨_,_,rfl,λ_a=>.far ws ps a⟩
 |endd n ws ps a h=>exact⟨_,_,rfl,λ_a=>.endd n ws ps a h⟩
 |no n ws ps a ds nm p h s=>
  cases p with
  |none=>exact⟨_,_,rfl,λ_a=>.no n ws ps a ds nm none h s⟩
  |some p=>exact⟨_,_,rfl,λ_a=>.no n ws ps a ds nm (some p) h s⟩
 |great=>exact⟨_,_,rfl,λz=>absurd rfl z⟩
 |go n ws ps a ds aQ aq a1 nw e ns ay au h s r ih=>
  obtain⟨w,r,e1,k⟩:=ih;exact⟨w,r,e1,λz=>.go n ws ps a ds aQ aq a1 nw e ns ay au h s (k z)⟩
theorem Walk.up(h:Walk rows False n ws ps a e ns ay au):Walk rows True n ws ps a e ns ay au:=by
 induction h with
 |far ws ps a=>exact .far ws ps a
 |endd n ws ps a h=>exact .endd n ws ps a h
 |no n ws ps a ds nm p h s=>exact .no n ws ps a ds nm p h s
 |great _ _ _ _ _ _ _ _ _ hg=>exact hg.elim
 |go n ws ps a ds aQ aq a1 nw e ns ay au h s r ih=>exact .go n ws ps a ds aQ aq a1 nw e ns ay au h s ih
theorem Walk.dep(h:Walk rows g n ws ps a e ns ay au):ns.length<=n/\∀t∈ns,∃x,t=tT x:=by
 induction h with
 |go n ws ps a ds aQ aq a1 nw e ns ay au h s r ih=>
  have hn:nw.length<=1/\∀t∈nw,∃x,t=tT x:=by
   cases s with
   |tell q x hq=>exact⟨UZ _,λt ht=>⟨x,U7.mp ht⟩⟩
   |_=>exact⟨Du _,λt ht=>by simp at ht⟩
  refine⟨by rw[UV];lia,λt ht=>?_⟩;rcases U4.mp ht with z|z
  ·exact hn.2 t z
  ·exact ih.2 t z
 |_=>exact⟨by simp,λt ht=>by simp at ht⟩
structure GoX(M M':MM)(s s':Nm)(n n' k0:Nat):Prop where
 len:M.length<=M'.length
 fr:∀k,k<M.length->(∀i,i<n->k≠s i)->k≠k0->M'[k]?=M[k]?
 nw:∀i,i<n'->(∃j,j<n/\s' i=s j)\/M.length<=s' i
 z:s' 0=s 0
theorem Go.x(g:Go M M' s s' n n'):GoX M M' s s' n n' k0:=⟨g.len,λk h1 h2 _a=>g.fr k h1 h2,g.nw,g.z⟩
theorem Go.thenX(g:Go M0 M s s1 n n1)(h:GoX M M' s1 s2 n1 n2 k0)(hk:M0.length<=k0):Go M0 M' s s2 n n2:=by
 have l:=g.len;refine⟨Dm g.len h.len,λk h1 h2=>?_,λi hi=>?_,h.z.trans g.z⟩
 ·rw[h.fr k (by lia) (λi hi e=>?_) (by lia),g.fr k h1 h2]
  rcases g.nw i hi with⟨j,hj,z⟩|z
  ·exact h2 j hj (e.trans z)
  ·lia
 ·rcases h.nw i hi with⟨j,hj,z⟩|z
  ·rw[z];exact g.nw j hj
  ·exact .inr (by lia)
theorem Go.trans(g:Go M0 M s s1 n n1)(h:Go M M' s1 s2 n1 n2):Go M0 M' s s2 n n2:=g.thenX h.x (UZ _)
theorem Go.ap:Go M (M++L) s s n n:=⟨by rw[UV];lia,λk h _a=>U1 h,λi hi=>.inl ⟨i,hi,rfl⟩,rfl⟩
theorem GoX.out(g:GoX M M' s s' n n' k0)(hk:k<M.length)(h:∀i,i<n->s i≠k):∀i,i<n'->s' i≠k:=λi hi e=>by
 rcases g.nw i hi with⟨j,hj,z⟩|z
 ·exact h j hj (z.symm.trans e)
 ·lia
local macro_rules|`(tactic|walk_at "vx")=>`(tactic|simp only[xt])
local macro_rules|`(tactic|walk_at "pk")=>`(tactic|(walk_at "v"; repeat ((first|walk_at "vx" |refine qL (by decide) ?_|refine qO rfl ?_|refine qQ false rfl rfl rfl (by decide) ?_|refine qQ true rfl rfl rfl (by decide) ?_); walk_at "v")))
inductive DeedOf:List T->List T->Prop
 |tell (q:T):DeedOf [.str "tell", q] [.str "told", q]
 |two (w:Str) (hw:w = "below" \/ w = "same") (q p t:T):DeedOf [.str w,q,p,t] [.str w,q,p]
 |kind (q kd t:T):DeedOf [.str "kind", q,kd,t] [.str "kind", q]
 |other (w:Str) (r:List T) (h1:w ≠ "tell") (h2:inV (.str w) [.str "below",.str "same"]=false) (h4:w ≠ "kind"):DeedOf (.str w::r) (.str w::r)
noncomputable abbrev Xm:Stmt:=top 87
theorem q0w:q00 ["row"] ["row"] (qd Xm):=by ac_rfl
noncomputable def WZ:List T->(T->Prop)->Prop:=λts Q=>∃ds m8:List T,ts=[.tup ds]/\DeedOf ds m8/\Q (.tup m8)
theorem XG(F:Fun Ξ "_law_deed_of" "_law_deed_of" Xm f fd)(N:Nms mg):FnOk P w Ξ mg base CX0 1 f fd ["row"] (spP WZ):=by
 refine F.zP q0w (by rintro _ _ ⟨_,_,rfl,_⟩;rfl) (λac A outer s H E hr=>?_);refine⟨_,(qb (qP (qi op_eq (qj (GQ Ξ) qv0 qa (λ_a _a=>rfl)) qc (qm _)) (qe (qt (qu (qa2 qc (qj (GQ Ξ) qv0 qa (λ_a _a=>rfl)))))) qx) (qb (qP (qi (GR Ξ) (qj (GQ Ξ) qv0 qa (λ_a _a=>rfl)) (qG (qa2 qc qc)) (by with_unfolding_all rfl)) (qe (qt (zy (Q3 (Ξ:=Ξ) rfl) qv0 xH (xG qa)))) qx) (qe (qt (vm (qi op_eq (qj (GQ Ξ) qv0 qa (λ_a _a=>rfl)) qc (qm _)) (zy (Q3 (Ξ:=Ξ) rfl) qv0 xH (xG qa)) qv0))))),_,(by right),λts Qt h=>?_⟩;obtain⟨ds,m8,rfl,hd,q⟩:=h;cases hd with
 |tell a=>
  left;exact q
 |two w hw a b t=>
  rcases hw with rfl|rfl <;>
  ·left
   exact⟨_,rfl,by show ¬(HT.sIx 4 0 none=0/\HT.sIx 4 4 (some 3)=4);decide,_,rfl,q⟩
 |kind a b t=>
  left;exact⟨_,rfl,by show ¬(HT.sIx 4 0 none=0/\HT.sIx 4 4 (some 2)=4);decide,_,rfl,q⟩
 |other w r h1 h2 h4=>
  symm;refine vc at0 ?_;symm;refine qL (λe=>h1 e) ?_;symm;refine vc at0 ?_;symm;refine qQ false rfl rfl rfl h2 ?_;symm;refine vc at0 ?_;symm;refine qL (λe=>h4 e) ?_;exact q
noncomputable abbrev Va:Stmt:=top 86
theorem scRowDone:q00 ["own","deed","a","b"] ["own","deed"] (qd Va):=by ac_rfl
noncomputable def JO:List U->MM->UK->Prop:=λus M Q=>∃(o:Nm)(ws:List Wt)(ps:WW)(ds:List T),us=[.m (o 0),.p (.tup ds)]/\Own M o ws ps/\ps.length<1000 /\
 ((∃aw ak,DeedDo ws ps ds aw ak/\Tame ws ds/\∀M' o',Own M' o' aw ak->Go M M' o o' (ps.length+3) (ak.length+3)->Q (.p (.tup [.str "",.non])) M')\/(∃nm p,DeedNo ws ds nm p/\Q (.p (.tup [.str nm,pT p])) M)\/(∃bU,DeedAsk ws ds bU/\Q (.p (.tup [.str "", bU])) M)\/(∃p,AskNo ws ds p/\Q (.p (.tup [.str "WrongKind",.int p])) M) \/
  ∃(r q p:Nat)(x y:Int),ds=[.str "times",.int (r:Int),.int (q:Int),.int (p:Int)]/\ws[q]?=some (.num x)/\ws[p]?=some (.num y)/\IntMulOk x y/\¬Bt 12000 (x*y)/\Q (.p (.tup [.str "Great",.non])) M)
theorem Zj(F:Fun Ξ "_law_row_done" "_law_row_done" Va f fd)(N:Nms mg)(bx:Def P w Ξ mg base "_law_own_ask" 2 ["own","deed"] (spU VC))(bO:Def P w Ξ mg base "_law_own_do" 3 ["own","deed"] (spU QD)):FnOk P w Ξ mg base CX0 4 f fd ["own","deed"] (spU JO):=by
 refine F.zU scRowDone (by rintro _ _ _ ⟨_,_,_,_,rfl,_⟩;rfl) (λac A outer s H E hr=>?_);refine⟨_,(qb (qP (qi (GR Ξ) (qj (GQ Ξ) qv1 qa (λ_a _a=>rfl)) (qG (qa4 qc qc qc qc)) (by with_unfolding_all rfl)) (qe (qt (qo bx (YV hr) (qa2 qv0 qv1)))) qx) (qb (qP (qi op_eq (qj (GQ Ξ) qv1 qa (λ_a _a=>rfl)) qc (qm _)) (qb (q2z (i:=2) (j:=3) rfl scRowDone.nd rfl rfl (by decide) rfl rfl (qa2 (qj (GO Ξ) (qj (GO Ξ) qv0 qa (λ_a _a=>rfl)) (qj (GQ Ξ) qv1 qa (λ_a _a=>rfl)) (λ_a _a=>rfl)) (qj (GO Ξ) (qj (GO Ξ) qv0 qa (λ_a _a=>rfl)) (qj (GQ Ξ) qv1 qa (λ_a _a=>rfl)) (λ_a _a=>rfl))) rfl) (qe (qP (Xv (Zd (vJ (qH (GP Ξ) (by rfl) N.isinstance qD (qa2 qv2 (vn (v:=.ty "int") (by rfl) N.int VS rfl)))) (Zd (vJ (qH (GP Ξ) (by rfl) N.isinstance qD (qa2 qv3 (vn (v:=.ty "int") (by rfl) N.int VS rfl)))) (Vm (qi q78 (qH J8 (by rfl) N.abs q5M (qa1 (qC XA qv2 qv3))) (qC q2t qa qa) (qm _)))))) (qe (qt (qu (qa2 qc jD)))) qx))) qx) (qe (qt (qo bO (YV hr) (qa2 qv0 qv1)))))),_,(qy (by right) (qy (zd (by right) (qy (q1Y (ql (vY (vY (qr 0) YX) (jJ (qr 1) YX)) (ql (vY (vY (qr 0) YX) (jJ (qr 1) YX)) qJ))) (zd (JX (ct_b (J6 .int (qr 2))) (JX (ct_b (J6 .int (qr 3))) (by right))) (by right) vj)) vj) (by right))),λus M Qu h=>?_⟩;obtain⟨o,ws,ps,ds,rfl,O,hsz,h⟩:=h;have nv:((2^12000:Nat):Int)=(2:Int)^12000:=by simp
 have h2:(∃w r,ds=.str w::r/\askW w true/\VC [.m (o 0),.p (.tup ds)] M Qu)\/(∃w r,ds=.str w::r/\askW w false/\QD [.m (o 0),.p (.tup ds)] M Qu/\(w = "times" -> ∃(r' q p:Nat)(x y:Wt),r=[.int (r':Int),.int (q:Int),.int (p:Int)]/\ws[q]?=some x/\ws[p]?=some y/\∀a b,x=.num a->y=.num b->IntMulOk a b/\Bt 12000 (a*b))) \/
   ∃(r q p:Nat)(x y:Int),ds=[.str "times",.int (r:Int),.int (q:Int),.int (p:Int)]/\ws[q]?=some (.num x)/\ws[p]?=some (.num y)/\IntMulOk x y/\¬Bt 12000 (x*y)/\Qu (.p (.tup [.str "Great",.non])) M:=by
  rcases h with⟨aw,ak,hd,ht,q⟩|⟨nm,p,hd,q⟩|⟨bU,hd,q⟩|⟨p,hd,q⟩|h
  ·have ok:QD [.m (o 0),.p (.tup ds)] M Qu:=⟨o,ws,ps,ds,rfl,O,hsz,.inl ⟨aw,ak,hd,q⟩⟩
   refine .inr (.inl ?_);cases hd with
   |times r qq p a b hr hq hp hm=>
    refine⟨_,_,rfl,by unfold askW;decide,ok,λ_a=>⟨r,qq,p,_,_,rfl,hq,hp,λa' b' ea eb=>?_⟩⟩;cases ea;cases eb;exact⟨hm,ht r qq p a b rfl hq hp⟩
   |_=>exact⟨_,_,rfl,by unfold askW;decide,ok,λe=>absurd e (by decide)⟩
  ·have ok:QD [.m (o 0),.p (.tup ds)] M Qu:=⟨o,ws,ps,ds,rfl,O,hsz,.inr ⟨nm,p,hd,q⟩⟩
   refine .inr (.inl ?_);obtain⟨w',r',e,fK⟩:=hd.word;refine⟨w',r',e,fK,ok,λet=>?_⟩;subst et;cases hd with
   |n1 w hw r qq p x y hr hq hx hp=>
    cases e;exact⟨r,qq,p,x,y,rfl,hq,hp,λa b ea _a=>absurd (by rw[ea];rfl) hx⟩
   |n2 w hw r qq p a y hr hq hp hy=>
    cases e;exact⟨r,qq,p,_,y,rfl,hq,hp,λa b _a eb=>absurd (by rw[eb];rfl) hy⟩
   |nz w hw=>cases e;rcases hw with z|z<;>exact absurd z (by decide)
   |p1 w hw=>cases e;rcases hw with z|z<;>exact absurd z (by decide)
   |p2 w hw=>cases e;rcases hw with z|z<;>exact absurd z (by decide)
  ·obtain⟨w',r',e,fK⟩:=hd.word
   exact .inl ⟨w',r',e,fK,o,ws,ps,ds,rfl,O,.inl ⟨bU,hd,q⟩⟩
  ·obtain⟨w',r',e,fK⟩:=hd.word
   exact .inl ⟨w',r',e,fK,o,ws,ps,ds,rfl,O,.inr ⟨p,hd,q⟩⟩
  ·exact .inr (.inr h)
 clear h;rcases h2 with⟨w,r,rfl,hw,q⟩|⟨w,r,rfl,hw,q,m9⟩|⟨r,qq,p,a,b,rfl,hx,hy,hm,hb,q⟩
 ·symm
  refine vc at0 ?_;symm;refine qQ true rfl rfl rfl hw ?_;symm;exact q
 ·by_cases ht:w = "times"
  ·subst ht
   obtain⟨r',qq,p,x,y,rfl,hx,hy,hm⟩:=m9 rfl;left;refine qM O ?_;left;refine qW O.b hx ?_;refine qM O ?_;left;refine qW O.b hy ?_;rcases jG (x:=x) with⟨a,rfl⟩|hxk
   ·rcases jG (x:=y) with⟨b,rfl⟩|hyk
    ·obtain⟨hm,hb⟩:=hm a b rfl rfl
     simp only[tO];symm;refine⟨hm,⟨by decide,by decide,by decide⟩,?_⟩;refine ite2 (λeh=>?_) (λiF=>q);exfalso;have hb:(a*b).natAbs<2^12000:=hb;rw[RZ,show Int.toNat 12000=12000 from rfl, <-nv]at eh;generalize 2^12000=z at hb eh;split at eh<;>lia
    ·simp only[tO]
     cases y with
     |num b=>exact absurd rfl hyk
     |_=>
      simp only[tO];symm;exact q
   ·cases x with
    |num b=>exact absurd rfl hxk
    |_=>
     simp only[tO];symm;exact q
  ·symm
   refine vc at0 ?_;symm;refine qQ false rfl rfl rfl hw ?_;symm;refine vc at0 ?_;symm;refine qL ht ?_;symm;exact q
 ·left
  refine qM O ?_;left;refine qW O.b hx ?_;refine qM O ?_;left;refine qW O.b hy ?_;simp only[tO];symm;refine⟨hm,⟨by decide,by decide,by decide⟩,?_⟩;refine ite2 (λeh=>q) (λiF=>?_);exfalso;have hb:¬(a*b).natAbs<2^12000:=hb;rw[RZ,show Int.toNat 12000=12000 from rfl, <-nv]at iF;generalize 2^12000=z at hb iF;split at iF<;>lia
theorem Own.skip(O:Own M o ws ps)(h:∀i,i<ps.length+3->o i≠nk):Own (M.set nk x) o ws ps:=O.go λi hi=>UW (Ne.symm (h i hi))
theorem Sto.skip(O:Sto C D M o ws ps)(h:∀i,i<ps.length+2->o i≠nk):Sto C D (M.set nk x) o ws ps:=O.go λi hi=>UW (Ne.symm (h i hi))
theorem GoX.put:GoX M (M.set nk x) s s n n nk:=⟨by rw[U2];exact UZ _,λk _a _a h=>UW (Ne.symm h),λi hi=>.inl ⟨i,hi,rfl⟩,rfl⟩
noncomputable def jE(w:Str):Prop:=w ≠ "end" /\ w ≠ "jump" /\ w ≠ "tell" /\ w ≠ "kind" /\ inV (.str w) [.str "below",.str "same"]=false
theorem DeedDo.plain(h:DeedDo ws ps ds aw ak):∃w r,ds=.str w::r/\jE w:=by cases h<;>exact⟨_,_,rfl,by unfold jE;decide⟩
theorem DeedNo.plain(h:DeedNo ws ds nm p):∃w r,ds=.str w::r/\jE w:=by
 cases h with
 |n1 w hw=>exact⟨_,_,rfl,by unfold jE;rcases hw with rfl|rfl|rfl|rfl|rfl<;>decide⟩
 |n2 w hw=>exact⟨_,_,rfl,by unfold jE;rcases hw with rfl|rfl|rfl|rfl|rfl<;>decide⟩
 |nz w hw=>exact⟨_,_,rfl,by unfold jE;rcases hw with rfl|rfl<;>decide⟩
 |p1 w hw=>exact⟨_,_,rfl,by unfold jE;rcases hw with rfl|rfl<;>decide⟩
 |p2 w hw=>exact⟨_,_,rfl,by unfold jE;rcases hw with rfl|rfl<;>decide⟩
noncomputable abbrev Q9:Stmt:=top 88
theorem scRowGone:q00 ["own","row","at","news","word","value","leads"] ["own","row","at","news"] (qd Q9):=by ac_rfl
noncomputable def JN:List U->MM->UK->Prop:=λus M Q=>∃(o:Nm)(ws:List Wt)(ps:WW)(ds:List T)(a nk:Nat)(ls:List U),us=[.m (o 0),.p (.tup ds),.p (.int (a:Int)),.m nk]/\Own M o ws ps/\ps.length<1000/\M[nk]?=some (.lst ls)/\ls.length<1000/\(∀i,i<ps.length+3->o i≠nk) /\
 ((ds=[.str "end"]/\Q (.p (.tup [.tup [.str "end"],.int (a:Int)])) M) \/
  (∃(r q p:Nat)(x y:Int),ds=[.str "times",.int (r:Int),.int (q:Int),.int (p:Int)]/\ws[q]?=some (.num x)/\ws[p]?=some (.num y)/\IntMulOk x y/\¬Bt 12000 (x*y)/\∀L,Q (.p (.tup [.tup [.str "great",.int (a:Int)],.int (a:Int)])) (M++L)) \/
  ∃res,Step ws ps a ds res/\(∀nm p,res=.no nm p->∀L,Q (.p (.tup [KO p a,.int (a:Int)])) (M++L)) /\
   ∀aw ak a' nw,res=.go aw ak a' nw->∀M' o',Own M' o' aw ak->GoX M M' o o' (ps.length+3) (ak.length+3) nk->M'[nk]?=some (.lst (ls++nw.map U.p))->Q (.p (.tup [.non,.int (a':Int)])) M')
theorem Zi(F:Fun Ξ "_law_row_gone" "_law_row_gone" Q9 f fd)(N:Nms mg)(cn:Def P w Ξ mg base "_law_deed_of" 1 ["row"] (spP WZ))(bY:Def P w Ξ mg base "_law_row_done" 4 ["own","deed"] (spU JO)):FnOk P w Ξ mg base CX0 5 f fd ["own","row","at","news"] (spU JN):=by
 refine F.zU scRowGone (by rintro _ _ _ ⟨_,_,_,_,_,_,_,rfl,_⟩;rfl) (λac A outer s H E hr=>?_);refine⟨_,(qb (qP (qi op_eq (qj (GQ Ξ) qv1 qa (λ_a _a=>rfl)) qc (qm _)) (qe (qt (qu (qa2 (qu (qa1 qc)) qv2)))) qx) (qb (qP (qi op_eq (qj (GQ Ξ) qv1 qa (λ_a _a=>rfl)) qc (qm _)) (qe (qt (qu (qa2 jD (qj (GQ Ξ) qv1 qa (λ_a _a=>rfl)))))) qx) (qb (vh (qo bY (YV hr) (qa2 qv0 (qo cn (YV hr) (qa1 qv1)))) (YR (Ξ:=Ξ) (i:=4) (j:=5) rfl scRowGone.nd rfl rfl rfl GL GL GL GL)) (qb (qP (qi op_eq qv4 qc (qm _)) (qe (qt (qu (qa2 (qu (qa3 qc qv2 qv5)) qv2)))) qx) (qb (qP (qi jR qv4 qc (qm _)) (qe (qt (qu (qa2 (qu (qa2 (Xw (q39 hr) (YT (xj qc qc (xj qc qc (xj qc qc YO))) rfl rfl (λz=>nomatch z) (by decide)) qv4 (λ_a _a=>rfl)) qv2)) qv2)))) qx) (qb (qP (qi op_eq (qj (GQ Ξ) qv1 qa (λ_a _a=>rfl)) qc (qm _)) (qe (v3 (q0t PySem.F.slot_list_append PySem.F.type_list_append xc qv3 (qa1 qv5)))) qx) (qb (qB (i:=6) scRowGone.nd rfl GL (q7u (Ju (vF (GR Ξ) (qj (GQ Ξ) qv1 qa (λ_a _a=>rfl)) (qG (qa2 qc qc)) (by with_unfolding_all rfl)) (Ze qv5)) (Ze (Ju (vF op_eq (qj (GQ Ξ) qv1 qa (λ_a _a=>rfl)) qc (qm _)) (Ze (vF op_eq qv5 (qj (GQ Ξ) qv1 qa (λ_a _a=>rfl)) (qm _))))))) (qe (qt (qu (qa2 jD (vm (vJ qv6) (qj (GQ Ξ) qv1 (q73 q5s qa) (λ_a _a=>rfl)) (qC vz qv2 qa))))))))))))),_,(qy (by right) (qy (by right) (qy (by right) (qy (by right) (qy (zd (by right) (v8 (jI (ql (jI (ql (Ja (GA (jv WC WC (jv WC WC (jv WC WC q2y)))) (qr 4)) (by right))) (by right)))) vj) (qy (by right) (qy (vQ (q5O (Jb (jf q1Z (jJ (qr 1) YX) (q1O (ql WC (ql WC qJ)))) (qr 5)) (Jb (jf Qw (jJ (qr 1) YX) WC) (jf Qw (qr 5) (jJ (qr 1) YX)))) (ve 6)) (by right)))))))),λus M Qu h=>?_⟩;obtain⟨o,ws,ps,ds,a,nk,ls,rfl,O,hsz,hk,eA,bZ,h⟩:=h;have bA:GoX M M o o (ps.length+3) (ps.length+3) nk:=(Go.refl (M:=M) (s:=o) (n:=ps.length+3)).x;rcases h with⟨rfl,q⟩|⟨r,qq,p,x,y,rfl,hx,hy,hm,hb,q⟩|⟨res,hs,qn,qg⟩
 ·left
  exact q
 ·repeat refine Qo rfl (by decide) ?_
  left;refine⟨_,_,rfl,.other _ _ (by decide) (by decide) (by decide),?_⟩;left;refine⟨o,ws,ps,_,rfl,O,hsz,.inr (.inr (.inr (.inr ⟨r,qq,p,x,y,rfl,hx,hy,hm,hb,?_⟩)))⟩;left;simp only[Yd];left;refine⟨qK, [(.inr "Nought",.p (.str "nought")),(.inr "NoRoom",.p (.str "room")),(.inr "Great",.p (.str "great"))],rfl,by show 3<=15;decide,?_⟩;rw[jY];refine j7 (k:=M.length) qK rfl ?_;left;exact q [_]
 ·cases hs with
  |jump t=>
   left;exact qg _ _ _ _ rfl _ _ O bA (by simpa using hk)
  |tell q x hq=>
   repeat refine Qo rfl (by decide) ?_
   left;refine⟨_,_,rfl,.tell _,?_⟩;left;refine⟨o,ws,ps,_,rfl,O,hsz,.inr (.inr (.inl ⟨_,.told q x hq,?_⟩))⟩;left;refine Vy hk ?_;left;refine⟨_,hk,qF (by lia),?_⟩;left;exact qg _ _ _ _ rfl _ _ (O.skip bZ) GoX.put (U3 (UR.mp hk).1)
  |ask w hw q p t b hd=>
   rcases hw with rfl|rfl
   ·repeat refine Qo rfl (by decide) ?_
    left;refine⟨_,_,rfl,.two _ (.inl rfl) _ _ _,?_⟩;left;refine⟨o,ws,ps,_,rfl,O,hsz,.inr (.inr (.inl ⟨_,hd,?_⟩))⟩;left;cases b with
    |true=>
     refine qO rfl ?_;refine vc (t:=.int (t:Int)) rfl ?_;left;exact qg _ _ _ _ rfl _ _ O bA (by simpa using hk)
    |false=>
     refine qL (by decide) ?_;refine vc at0 ?_;left;exact qg _ _ _ _ rfl _ _ O bA (by simpa using hk)
   ·repeat refine Qo rfl (by decide) ?_
    left;refine⟨_,_,rfl,.two _ (.inr rfl) _ _ _,?_⟩;left;refine⟨o,ws,ps,_,rfl,O,hsz,.inr (.inr (.inl ⟨_,hd,?_⟩))⟩;left;cases b with
    |true=>
     refine qO rfl ?_;refine vc (t:=.int (t:Int)) rfl ?_;left;exact qg _ _ _ _ rfl _ _ O bA (by simpa using hk)
    |false=>
     refine qL (by decide) ?_;refine vc at0 ?_;left;exact qg _ _ _ _ rfl _ _ O bA (by simpa using hk)
  |kind q t x kd hq=>
   repeat refine Qo rfl (by decide) ?_
   left;refine⟨_,_,rfl,.kind _ _ _,?_⟩;left;refine⟨o,ws,ps,_,rfl,O,hsz,.inr (.inr (.inl ⟨_,.kind q x hq,?_⟩))⟩;left;have qq:=qg _ _ _ _ rfl _ _ O bA (by simpa using hk);by_cases dS:vf x=kd
   ·refine qO dS ?_
    refine vc (t:=.int (t:Int)) rfl ?_;left;rw[G4 (Uu dS)]at qq;exact qq
   ·refine qL dS ?_
    rw[GZ (by rw[G0 dS];decide)]at qq;exact qq
  |askno q p t pp hd=>
   repeat refine Qo rfl (by decide) ?_
   left;refine⟨_,_,rfl,.two _ (.inl rfl) _ _ _,?_⟩;left;refine⟨o,ws,ps,_,rfl,O,hsz,.inr (.inr (.inr (.inl ⟨_,hd,?_⟩)))⟩;left;have:=qn _ _ rfl [];rw[Dl]at this;exact this
  |deed _ aw ak hd ht hl=>
   obtain⟨w,r,rfl,p1,p2,p3,p4,p5⟩:=hd.plain;symm;refine vc at0 ?_;symm;refine qL p1 ?_;symm;refine vc at0 ?_;symm;refine qL p2 ?_;symm;refine⟨_,_,rfl,.other _ _ p3 p5 p4,?_⟩;symm;refine⟨o,ws,ps,_,rfl,O,hsz,.inl ⟨aw,ak,hd,ht,λM' o' O' g=>?_⟩⟩;left;refine vc at0 ?_;symm;refine qL p3 ?_;symm;refine vc at0 ?_;symm;refine qQ false rfl rfl rfl p5 ?_;symm;refine vc at0 ?_;symm;refine qL p4 ?_;exact qg _ _ _ _ rfl _ _ O' g.x (by rw[g.fr _ (UR.mp hk).1 λi hi e=>bZ i hi e.symm];simpa using hk)
  |no _ nm p hd=>
   have two:=(Step.no (ps:=ps) (a:=a) ds nm p hd).two;have rq:=hd;obtain⟨w,r,rfl,p1,p2,p3,p4,p5⟩:=hd.plain;symm;refine vc at0 ?_;symm;refine qL p1 ?_;symm;refine vc at0 ?_;symm;refine qL p2 ?_;symm;refine⟨_,_,rfl,.other _ _ p3 p5 p4,?_⟩;symm;refine⟨o,ws,ps,_,rfl,O,hsz,.inr (.inl ⟨nm,p,rq,?_⟩)⟩;rcases two with⟨rfl,v,rfl⟩|⟨rfl,rfl⟩
   ·left
    have:=qn _ _ rfl [];rw[Dl]at this;exact this
   ·left
    simp only[Yd];left;refine⟨qK, [(.inr "Nought",.p (.str "nought")),(.inr "NoRoom",.p (.str "room")),(.inr "Great",.p (.str "great"))],rfl,by show 3<=15;decide,?_⟩;rw[jY];refine j7 (k:=M.length) qK rfl ?_;left;exact qn _ _ rfl [_]
noncomputable def wsN:List Wt:=List.replicate 8 (.one "none")
theorem wok_new:WOk wsN []:=⟨rfl,λx hx=>by rw[RF hx];trivial,λx hx=>by simp at hx⟩
theorem Z3:szL m wsN []:=⟨λx hx=>by rw[RF hx];trivial,λx hx=>by simp at hx⟩
noncomputable def oF(n:Nat):Nm:=λi=>if i=0 then n+2 else n+i-1
theorem DeedDo.grow(h:DeedDo ws ps ds aw ak):ak.length<=ps.length+1:=by
 cases h with
 |pair=>rw[UV];exact UZ _
 |setL|setR=>rw[U2];lia
 |_=>lia
theorem Step.more(h:Step ws ps a ds (.go aw ak a' nw)):nw.length<=1/\ak.length<=ps.length+1:=by
 cases h with
 |deed _ _ _ h=>exact⟨Du _,h.grow⟩
 |_=>exact⟨by simp,by lia⟩
noncomputable abbrev Yz:Stmt:=top 90
theorem q34:q00 [] [] (qd Yz):=by ac_rfl
noncomputable def Zx:List U->MM->UK->Prop:=λus M Q=>us=[]/\Q (.m (M.length+2)) (M++[ol wsN,.lst [],.lst [.m M.length,.m (M.length+1)]])
theorem Xz:Own (M++[ol wsN,.lst [],.lst [.m M.length,.m (M.length+1)]]) (oF M.length) wsN []:=by
 have g:∀{k:Nat}{L:List MO},(M++L)[M.length+k]?=L[k]?:=λ{k L}=>by rw[U9 (by lia)];congr 1;lia
 refine⟨?_,?_,?_,λi x h=>by simp at h,rfl,λi j hi hj z=>?_,wok_new.ww,wok_new.wp⟩
 ·exact g
 ·show(M++_)[M.length+1-1]?=_
  exact g (k:=0)
 ·show(M++_)[M.length+2-1]?=_
  exact g (k:=1)
 ·unfold oF at z
  have hi:i<3:=hi;have hj:j<3:=hj;split at z<;>split at z<;>lia
theorem Wn(F:Fun Ξ "_law_fresh" "_law_fresh" Yz f fd)(N:Nms mg):FnOk P w Ξ mg base CX0 1 f fd [] (spU Zx):=by
 refine F.zU q34 (λus M Qu h=>?_) (λac A outer s H E hr=>?_)
 ·rw[h.1];rfl
 refine⟨_,(qe (qt (qG (qa2 (qC q1N (qG (qa1 qc)) qa) (qG vD))))),_,(v8 (k9 (ql (ZL (by right) (by right)) (ql (k9 qJ) qJ)))),λus M Qu h=>?_⟩;obtain⟨rfl,q⟩:=h;symm;refine YC (by decide) (by decide) (by decide) ?_;symm;have q2:Qu (.m (M.length+2)) (M++[ol wsN]++[MO.lst []]++[MO.lst [.m M.length,.m (M.length+1)]]):=by simpa using q
 show Qu (.m (M++[ol wsN]++[MO.lst []]).length) (M++[ol wsN]++[MO.lst []]++[MO.lst [.m M.length,.m (M++[ol wsN]).length]]);rw[UV,UV];exact q2
noncomputable abbrev q4e:Stmt:=top 89
theorem scWalk:q00 ["own","script","most","at","news","gone","end"] ["own","script","most"] (qd q4e):=by ac_rfl
theorem zH{M L:MM}(h:k<M.length):(M++L)[k]?=M[k]?:=U1 h
noncomputable def q5o(M:MM)(o:Nm)(n0:Nat)(e:T)(ns:List T)(ay:List Wt)(au:WW)(Q:UK):Prop:=∀M' o' k nk,Own M' o' ay au->Go M M' o o' n0 (au.length+3)->M.length<=k->M.length<=nk->M'[k]?=some (.tup [.p e,.m nk])->M'[nk]?=some (.lst (ns.map U.p))->Q (.m k) M'
theorem jW(q:q5o M o n0 e (bT++[]) aQ aq Q)(O1:Own M' o1 aQ aq)(g1:Go M M' o o1 n0 (aq.length+3))(hk:M'[M.length]?=some (.lst (bT.map U.p)))(L:List MO):Q (.m (M'++L).length) (M'++L++[.tup [.p e,.m M.length]]):=by
 rw[Dl]at q;have l:=g1.len;refine q _ o1 _ M.length (O1.go λi hi=>?_) (g1.trans ?_) (by rw[UV];lia) (UZ _) qK ?_
 ·rw[Db];exact zH (O1.lt hi)
 ·rw[Db];exact Go.ap
 ·rw[Db,zH (UR.mp hk).1];exact hk
noncomputable def q1t:List U->MM->UK->Prop:=λus M Q=>∃(o:Nm)(ws:List Wt)(ps:WW)(rows:List (List T))(n:Nat)(e:T)(ns:List T)(ay:List Wt)(au:WW),us=[.m (o 0),.p (.lst (rows.map T.tup)),.p (.int (n:Int))]/\Own M o ws ps/\n<=400/\ps.length+n<=1000/\Walk rows True n ws ps 0 e ns ay au/\q5o M o (ps.length+3) e ns ay au Q
theorem q0c(F:Fun Ξ "_law_walk" "_law_walk" q4e f fd)(N:Nms mg)(c3:Def P w Ξ mg base "_law_row_gone" 5 ["own","row","at","news"] (spU JN)):FnOk P w Ξ mg base CX0 6 f fd ["own","script","most"] (spU q1t):=by
 refine F.zU scWalk (by rintro _ _ _ ⟨_,_,_,_,_,_,_,_,_,rfl,_⟩;rfl) (λac A outer s H E hr=>?_);refine⟨_,(qb (qB (i:=3) scWalk.nd rfl GL qa) (qb (qB (i:=4) scWalk.nd rfl GL (qG vD)) (qb (xu PassesOwn.never rfl (vK rfl N.range (qa1 qv2)) (vb (i:=5) scWalk.nd rfl GL) (qb (vh (qo c3 (YV hr) (qa4 qv0 (qj (GO Ξ) qv1 qv3 (λ_a _a=>rfl)) qv3 qv4)) (YR (Ξ:=Ξ) (i:=6) (j:=3) rfl scWalk.nd rfl rfl rfl GL GL GL GL)) (qe (qP (qi q45 qv6 jD (qm _)) (qe (qt (qu (qa2 qv6 qv4)))) qx)))) (qe (qt (qu (qa2 (qu (qa2 qc qv3)) qv4))))))),_,(qy (by right) (qy (vQ (k9 qJ) (ve 4)) (qy (k8 (by right) (ve 5) (qy (by right) (zd (by right) (v8 (jx (by right))) vj))) (v8 (jx (by right)))))),λus M Qu h=>?_⟩;obtain⟨o,ws,ps,rows,n,e,ns,ay,au,rfl,O,hn,hl,W,q⟩:=h;symm;refine jC (by lia) (by lia) ?_;refine xN (λi ρ M'=>∃o1 aQ aq a bT dJ x5 x6,ρ=[some (.m (o 0)),some (.p (.lst (rows.map T.tup))),some (.p (.int (n:Int))),some (.p (.int ((a:Nat):Int))),some (.m M.length),x5,x6]/\Own M' o1 aQ aq/\Go M M' o o1 (ps.length+3) (aq.length+3)/\M'[M.length]?=some (.lst (bT.map U.p))/\(∀j,j<aq.length+3->o1 j≠M.length)/\bT.length<=i/\aq.length<=ps.length+i/\ns=bT++dJ/\Walk rows True (n-i) aQ aq a e dJ ay au)
  ⟨o,ws,ps,0, [],ns,_,_,rfl,O.go λi hi=>zf (O.lt hi),Go.ap,qK,λj hj e=>by have:=O.lt hj;lia,UZ _,by lia,rfl,W⟩ ?_ ?_
 ·rintro i ρ M' hi ⟨o1,aQ,aq,a,bT,dJ,x5,x6,rfl,O1,g1,hk,bZ,cL,ma,rfl,W1⟩
  have hi:i<n:=by simpa using hi
  obtain⟨m,hm⟩:∃m,n-i=m+1:=⟨n-i-1,by lia⟩;rw[hm]at W1;symm;have row:∀{ds:List T},rows[a]?=some ds->atI (rows.map T.tup) (a:Int)=some (.tup ds):=λh=>ze (by rw[Dh,h];rfl);have dL:aq.length<1000:=by lia
  have eA:(bT.map U.p).length<1000:=by rw[UY];lia
  cases W1 with
  |endd _ _ _ _ h=>
   refine qX (row h) ?_;symm;refine⟨o1,_,_,_,a,M.length,bT.map U.p,by rw[g1.z],O1,dL,hk,eA,bZ,.inl ⟨rfl,?_⟩⟩;symm;have:=jW q O1 g1 hk [];rwa [Dl]at this
  |great _ _ _ _ r qq p x y _ h hx hy hm hb=>
   refine qX (row h) ?_;symm;refine⟨o1,_,_,_,a,M.length,bT.map U.p,by rw[g1.z],O1,dL,hk,eA,bZ,.inr (.inl ⟨r,qq,p,x,y,rfl,hx,hy,hm,hb,λL=>?_⟩)⟩;symm;exact jW q O1 g1 hk L
  |no _ _ _ _ ds nm p h s=>
   refine qX (row h) ?_;symm;refine⟨o1,_,_,_,a,M.length,bT.map U.p,by rw[g1.z],O1,dL,hk,eA,bZ,.inr (.inr ⟨_,s,λgL p' e L=>?_,λ_a _a _a _a e=>by cases e⟩)⟩;cases e;have f:=jW q O1 g1 hk L;rcases s.two with⟨_,v,rfl⟩|⟨_,rfl⟩
   ·simp only[KO]at f ⊢
    symm;exact f
   ·simp only[KO]at f ⊢
    symm;exact f
  |go _ _ _ _ ds g9 gb a3 nw _ ns3 _ _ h s r=>
   refine qX (row h) ?_;symm;refine⟨o1,_,_,_,a,M.length,bT.map U.p,by rw[g1.z],O1,dL,hk,eA,bZ,.inr (.inr ⟨_,s,(λgL p' e L=>by cases e),λaw ak a' rA e M3 o3 O3 g3 md=>?_⟩)⟩;cases e;symm;have h1:=s.more;refine⟨o3,g9,gb,a3,bT++nw,ns3,_,_,rfl,O3,g1.thenX g3 (UZ _),by rw[md,Dq],g3.out (UR.mp hk).1 bZ,by rw[UV];lia,by lia,by rw[Db],by rw[show n-(i+1)=m by lia];exact r⟩
 ·rintro ρ M' ⟨o1,aQ,aq,a,bT,dJ,x5,x6,rfl,O1,g1,hk,bZ,cL,ma,rfl,W1⟩
  have W1:Walk rows True (n-n) aQ aq a e dJ ay au:=W1;rw[DA]at W1;symm;cases W1;have:=jW q O1 g1 hk [];rwa [Dl]at this
local macro_rules|`(tactic|walk_at "vx")=>`(tactic|simp only[zl,jj,jM,zB,vZ,uTry,zC,zi,jO,jP,endX,zY,QV,uX0,jN])
noncomputable abbrev zS:Stmt:=top 59
theorem Q7:q00 ["store","word","r","worth"] ["store","word","r","worth"] (qd zS):=by ac_rfl
noncomputable def Zs(C D:Addr)(n:Nat)(rB:List Str):List U->MM->UK->UX->Prop:=λus M Q X=>∃(s:Nm)(ws:List Wt)(ps:WW)(w:Str)(r:List T),us=.m (s 0):: .p (.str w)::r.map U.p/\r.length=n/\Sto C D M s ws ps/\w∈rB/\Call C D (s 0) M (λ_a M'=>Q (.p .non) M') X (.str w::r)
noncomputable def j8:List Str:=["number","sign","one"]
noncomputable def twoW:List Str:=["copy","first","second","set_first","set_second"]
noncomputable def V3:List Str:=["plus","less","times","over","rest","pair"]
theorem Qe(F:Fun Ξ "do_with_worth" "do_with_worth" zS f fd)(N:Nms mg)(aB:Cls Ξ C)(aN:MD P w Ξ mg base C "number" 1 ["r","n"] (Zv C D))(bn:MD P w Ξ mg base C "sign" 1 ["r","k"] (JP C D))(bL:MD P w Ξ mg base C "one" 1 ["r","text"] (Zv C D)):FnOk P w Ξ mg base CX0 2 f fd ["store","word","r","worth"] (spU λus M Q=>Zs C D 2 j8 us M Q λ_a _a _a=>False):=by
 refine F.zU Q7 (λus M Qu h=>?_) (λac A outer s H E hr=>?_)
 ·obtain⟨_,_,_,_,r,rfl,hn,_⟩:=h
  rw[U8,U8,UY,hn];rfl
 refine⟨_,(qe (qP (qi op_eq qv1 qc (qm _)) (qe (v3 (vd aN aB qv0 (YV hr) (qa2 qv2 qv3)))) (qe (qP (qi op_eq qv1 qc (qm _)) (qe (v3 (vd bn aB qv0 (YV hr) (qa2 qv2 qv3)))) (qe (v3 (vd bL aB qv0 (YV hr) (qa2 qv2 qv3)))))))),_,(by right),λus M Qu h=>?_⟩;obtain⟨s,ws,ps,w,r,rfl,hn,S,hw,hc⟩:=h
 match r,hn with
 | [a,b],_=>
 simp only[j8,Da,Dg,G9]at hw;rcases hw with rfl|rfl|rfl
 ·cases hc with
  |number a b h=>
   repeat refine zh rfl (by decide) ?_
   try refine zg rfl ?_
   exact W8 rfl (λq=>mS S (by decide) q) (by repeat (first|exact .nil|refine .ix rfl rfl ?_|refine .v rfl ?_)) h
 ·cases hc with
  |sign a b h=>
   repeat refine zh rfl (by decide) ?_
   try refine zg rfl ?_
   exact W8 rfl (λq=>mS S (by decide) q) (by repeat (first|exact .nil|refine .ix rfl rfl ?_|refine .v rfl ?_)) h
 ·cases hc with
  |one a b h=>
   repeat refine zh rfl (by decide) ?_
   try refine zg rfl ?_
   exact W8 rfl (λq=>mS S (by decide) q) (by repeat (first|exact .nil|refine .ix rfl rfl ?_|refine .v rfl ?_)) h
noncomputable abbrev jo:Stmt:=top 60
theorem Z6:q00 ["store","word","one","other"] ["store","word","one","other"] (qd jo):=by ac_rfl
theorem Zh(F:Fun Ξ "do_with_two" "do_with_two" jo f fd)(N:Nms mg)(aB:Cls Ξ C)(bo:MD P w Ξ mg base C "copy" 1 ["r","q"] (JS C D))(aT:MX P w Ξ mg base C "first" 5 ["r","q"] (gPGet C D Prod.fst))(aO:MX P w Ξ mg base C "second" 5 ["r","q"] (gPGet C D Prod.snd))(aF:MX P w Ξ mg base C "set_first" 5 ["q","p"] (gPSet C D putL))(aE:MX P w Ξ mg base C "set_second" 5 ["q","p"] (gPSet C D putR)):FnOk P w Ξ mg base (CXe P w) 6 f fd ["store","word","one","other"] (spX mg (Zs C D 2 twoW)):=by
 refine F.zX Z6 (λus M Qu Xu h=>?_) (λac A outer s H E hr=>?_)
 ·obtain⟨_,_,_,_,r,rfl,hn,_⟩:=h
  rw[U8,U8,UY,hn];rfl
 refine⟨_,(qw (vR (qi op_eq qv1 qc (qm _)) (qw (vT (v3 (vd bo aB qv0 (YV hr) (qa2 qv2 qv3))))) (qw (vR (qi op_eq qv1 qc (qm _)) (qw (vg (qY qv0 aB aT (YV hr) (qa2 qv2 qv3)))) (qw (vR (qi op_eq qv1 qc (qm _)) (qw (vg (qY qv0 aB aO (YV hr) (qa2 qv2 qv3)))) (qw (vR (qi op_eq qv1 qc (qm _)) (qw (vg (qY qv0 aB aF (YV hr) (qa2 qv2 qv3)))) (qw (vg (qY qv0 aB aE (YV hr) (qa2 qv2 qv3)))))))))))),_,(by right),λus M Qu Xu h=>?_⟩;obtain⟨s,ws,ps,w,r,rfl,hn,S,hw,hc⟩:=h
 match r,hn with
 | [a,b],_=>
 cases hc with
 |copy a b h=>
  repeat refine zh rfl (by decide) ?_
  try refine zg rfl ?_
  exact W8 rfl (λq=>mS S (by decide) q) (by repeat (first|exact .nil|refine .ix rfl rfl ?_|refine .v rfl ?_)) h
 |first a b h=>
  repeat refine zh rfl (by decide) ?_
  try refine zg rfl ?_
  exact jc rfl (λq=>mS S (by decide) q) (by repeat (first|exact .nil|refine .ix rfl rfl ?_|refine .v rfl ?_)) (h.imp λnm p M' q=>⟨_,_,_,rfl,rfl,q⟩)
 |second a b h=>
  repeat refine zh rfl (by decide) ?_
  try refine zg rfl ?_
  exact jc rfl (λq=>mS S (by decide) q) (by repeat (first|exact .nil|refine .ix rfl rfl ?_|refine .v rfl ?_)) (h.imp λnm p M' q=>⟨_,_,_,rfl,rfl,q⟩)
 |setL a b h=>
  repeat refine zh rfl (by decide) ?_
  try refine zg rfl ?_
  exact jc rfl (λq=>mS S (by decide) q) (by repeat (first|exact .nil|refine .ix rfl rfl ?_|refine .v rfl ?_)) (h.imp λnm p M' q=>⟨_,_,_,rfl,rfl,q⟩)
 |setR a b h=>
  repeat refine zh rfl (by decide) ?_
  try refine zg rfl ?_
  exact jc rfl (λq=>mS S (by decide) q) (by repeat (first|exact .nil|refine .ix rfl rfl ?_|refine .v rfl ?_)) (h.imp λnm p M' q=>⟨_,_,_,rfl,rfl,q⟩)
 |_=>exact absurd hw (by decide)
noncomputable abbrev zT:Stmt:=top 61
theorem Q8:q00 ["store","word","r","q","p"] ["store","word","r","q","p"] (qd zT):=by ac_rfl
theorem Qf(F:Fun Ξ "do_with_three" "do_with_three" zT f fd)(N:Nms mg)(aB:Cls Ξ C)(bp:MX P w Ξ mg base C "plus" 5 ["r","q","p"] (gP3 C D q0h))(bq:MX P w Ξ mg base C "less" 5 ["r","q","p"] (gP3 C D q0R))(aS:MX P w Ξ mg base C "times" 5 ["r","q","p"] (gP3 C D JA))(br:MX P w Ξ mg base C "over" 5 ["r","q","p"] (gP3D C D q10))(bt:MX P w Ξ mg base C "rest" 5 ["r","q","p"] (gP3D C D q1B))(bu:MD P w Ξ mg base C "pair" 3 ["r","q","p"] (JR C D)):FnOk P w Ξ mg base (CXe P w) 6 f fd ["store","word","r","q","p"] (spX mg (Zs C D 3 V3)):=by
 refine F.zX Q8 (λus M Qu Xu h=>?_) (λac A outer s H E hr=>?_)
 ·obtain⟨_,_,_,_,r,rfl,hn,_⟩:=h
  rw[U8,U8,UY,hn];rfl
 refine⟨_,(qw (vR (qi op_eq qv1 qc (qm _)) (qw (vg (qY qv0 aB bp (YV hr) (qa3 qv2 qv3 qv4)))) (qw (vR (qi op_eq qv1 qc (qm _)) (qw (vg (qY qv0 aB bq (YV hr) (qa3 qv2 qv3 qv4)))) (qw (vR (qi op_eq qv1 qc (qm _)) (qw (vg (qY qv0 aB aS (YV hr) (qa3 qv2 qv3 qv4)))) (qw (vR (qi op_eq qv1 qc (qm _)) (qw (vg (qY qv0 aB br (YV hr) (qa3 qv2 qv3 qv4)))) (qw (vR (qi op_eq qv1 qc (qm _)) (qw (vg (qY qv0 aB bt (YV hr) (qa3 qv2 qv3 qv4)))) (qw (vT (v3 (vd bu aB qv0 (YV hr) (qa3 qv2 qv3 qv4))))))))))))))),_,(by right),λus M Qu Xu h=>?_⟩;obtain⟨s,ws,ps,w,r,rfl,hn,S,hw,hc⟩:=h
 match r,hn with
 | [a,b,c],_=>
 cases hc with
 |pair a b c h=>
  repeat refine zh rfl (by decide) ?_
  try refine zg rfl ?_
  exact W8 rfl (λq=>mS S (by decide) q) (by repeat (first|exact .nil|refine .ix rfl rfl ?_|refine .v rfl ?_)) h
 |plus a b c h=>
  repeat refine zh rfl (by decide) ?_
  try refine zg rfl ?_
  exact jc rfl (λq=>mS S (by decide) q) (by repeat (first|exact .nil|refine .ix rfl rfl ?_|refine .v rfl ?_)) (h.imp λnm p M' q=>⟨_,_,_,rfl,rfl,q⟩)
 |less a b c h=>
  repeat refine zh rfl (by decide) ?_
  try refine zg rfl ?_
  exact jc rfl (λq=>mS S (by decide) q) (by repeat (first|exact .nil|refine .ix rfl rfl ?_|refine .v rfl ?_)) (h.imp λnm p M' q=>⟨_,_,_,rfl,rfl,q⟩)
 |times a b c h=>
  repeat refine zh rfl (by decide) ?_
  try refine zg rfl ?_
  exact jc rfl (λq=>mS S (by decide) q) (by repeat (first|exact .nil|refine .ix rfl rfl ?_|refine .v rfl ?_)) (h.imp λnm p M' q=>⟨_,_,_,rfl,rfl,q⟩)
 |over a b c h=>
  repeat refine zh rfl (by decide) ?_
  try refine zg rfl ?_
  exact jc rfl (λq=>mS S (by decide) q) (by repeat (first|exact .nil|refine .ix rfl rfl ?_|refine .v rfl ?_)) (h.imp λnm p M' q=>⟨_,_,_,rfl,rfl,q⟩)
 |rest a b c h=>
  repeat refine zh rfl (by decide) ?_
  try refine zg rfl ?_
  exact jc rfl (λq=>mS S (by decide) q) (by repeat (first|exact .nil|refine .ix rfl rfl ?_|refine .v rfl ?_)) (h.imp λnm p M' q=>⟨_,_,_,rfl,rfl,q⟩)
theorem Call.imp(h:Call C D k M Q X ds)(hx:∀nm p M',X nm p M'->X' nm p M'):Call C D k M Q X' ds:=by
 cases h with
 |number a b h=>exact .number a b h
 |sign a b h=>exact .sign a b h
 |one a b h=>exact .one a b h
 |copy a b h=>exact .copy a b h
 |pair a b c h=>exact .pair a b c h
 |same a b h=>exact .same a b h
 |kind a h=>exact .kind a h
 |told a h=>exact .told a h
 |plus a b c h=>exact .plus a b c (h.imp hx)
 |less a b c h=>exact .less a b c (h.imp hx)
 |times a b c h=>exact .times a b c (h.imp hx)
 |over a b c h=>exact .over a b c (h.imp hx)
 |rest a b c h=>exact .rest a b c (h.imp hx)
 |first a b h=>exact .first a b (h.imp hx)
 |second a b h=>exact .second a b (h.imp hx)
 |setL a b h=>exact .setL a b (h.imp hx)
 |setR a b h=>exact .setR a b (h.imp hx)
 |below a b h=>exact .below a b (h.imp hx)
noncomputable abbrev Xl:Stmt:=top 62
theorem scDoDeed:q00 ["store","row","word"] ["store","row"] (qd Xl):=by ac_rfl
noncomputable def WY(C D:Addr):List U->MM->UK->UX->Prop:=λus M Q X=>∃(s:Nm)(ws:List Wt)(ps:WW)(ds:List T),us=[.m (s 0),.p (.tup ds)]/\Sto C D M s ws ps/\Call C D (s 0) M (λ_a M'=>Q (.p .non) M') X ds/\∃w r,ds=.str w::r/\askW w false
theorem XF(F:Fun Ξ "do_deed" "do_deed" Xl f fd)(N:Nms mg)(aX:Def P w Ξ mg base "do_with_worth" 2 ["store","word","r","worth"] (spU λus M Q=>Zs C D 2 j8 us M Q λ_a _a _a=>False))(bD:DefX P w Ξ mg base "do_with_two" 6 ["store","word","one","other"] (spX mg (Zs C D 2 twoW)))(aY:DefX P w Ξ mg base "do_with_three" 6 ["store","word","r","q","p"] (spX mg (Zs C D 3 V3))):FnOk P w Ξ mg base (CXe P w) 7 f fd ["store","row"] (spX mg (WY C D)):=by
 refine F.zX scDoDeed (by rintro _ _ _ _ ⟨_,_,_,_,rfl,_⟩;rfl) (λac A outer s H E hr=>?_);refine⟨_,(qA (vT (qB (i:=2) scDoDeed.nd rfl GL (qj (GQ Ξ) qv1 qa (λ_a _a=>rfl)))) (qw (vR (qi (GR Ξ) qv2 (qu (qa3 qc qc qc)) (by with_unfolding_all rfl)) (qw (vT (v3 (qo aX (YV hr) (qa4 qv0 qv2 (qj (GQ Ξ) qv1 qa (λ_a _a=>rfl)) (qj (GQ Ξ) qv1 qa (λ_a _a=>rfl))))))) (qw (vR (qi op_eq (qH (xq (Ξ:=Ξ) rfl) (by rfl) N.len Ql (qa1 qv1)) qa (qm _)) (qw (vg (vI bD (YV hr) (qa4 qv0 qv2 (qj (GQ Ξ) qv1 qa (λ_a _a=>rfl)) (qj (GQ Ξ) qv1 qa (λ_a _a=>rfl)))))) (qw (vg (vI aY (YV hr) (qa_c qv0 (qa4 qv2 (qj (GQ Ξ) qv1 qa (λ_a _a=>rfl)) (qj (GQ Ξ) qv1 qa (λ_a _a=>rfl)) (qj (GQ Ξ) qv1 qa (λ_a _a=>rfl)))))))))))),_,(qy (by right) (zd (by right) (by right) (zd (ju (jf Qw (q47 (qr 1)) (by right))) (by right) (by right)))),λus M Qu Xu h=>?_⟩;obtain⟨s,ws,ps,ds,rfl,S,hc,w,r,e,hw⟩:=h;have rC:∀{w:Str}{r:List T},ds=.str w::r->r.length=2->w∈j8->Call C D (s 0) M (λ_a M'=>Qu (.p .non) M') (λ_a _a _a=>False) ds->Zs C D 2 j8 (.m (s 0):: .p (.str w)::r.map U.p) M (λ_a M'=>Qu (.p .non) M') λ_a _a _a=>False:=λ{w r} e hn hw h=>⟨s,ws,ps,w,r,rfl,hn,S,hw,by rw[<-e];exact h⟩;have nB:∀{w:Str}{r:List T}{n:Nat}{l:List Str}{X:UX},ds=.str w::r->r.length=n->w∈l->(∀nm p M',Xu nm p M'->X nm p M')->Zs C D n l (.m (s 0):: .p (.str w)::r.map U.p) M (λ_a M'=>Qu (.p .non) M') X:=λ{w r n l X} e hn hw hx=>⟨s,ws,ps,w,r,rfl,hn,S,hw,by rw[<-e];exact hc.imp hx⟩;have hk:(∃w a b,ds=[.str w,a,b]/\w∈j8/\Call C D (s 0) M (λ_a M'=>Qu (.p .non) M') (λ_a _a _a=>False) ds)\/(∃w a b,ds=[.str w,a,b]/\w∈twoW)\/∃w a b c,ds=[.str w,a,b,c]/\w∈V3:=by
  have fW:=hc;cases fW with
  |number a b h=>exact .inl ⟨_,_,_,rfl,by decide,.number _ _ h⟩
  |sign a b h=>exact .inl ⟨_,_,_,rfl,by decide,.sign _ _ h⟩
  |one a b h=>exact .inl ⟨_,_,_,rfl,by decide,.one _ _ h⟩
  |copy|first|second|setL|setR=>exact .inr (.inl ⟨_,_,_,rfl,by decide⟩)
  |plus|less|times|over|rest|pair=>exact .inr (.inr ⟨_,_,_,_,rfl,by decide⟩)
  |same|kind|told|below=>
   cases e;exact absurd hw (by unfold askW;decide)
 clear e hw;rcases hk with⟨w,a,b,rfl,hm,h⟩|⟨w,a,b,rfl,hm⟩|⟨w,a,b,c,rfl,hm⟩
 ·have hv:inV (.str w) [.str "number",.str "sign",.str "one"]=true:=by
   simp only[j8,Da,Dg,G9]at hm;rcases hm with rfl|rfl|rfl<;>decide
  left;refine qQ true rfl rfl rfl hv ?_;left;exact rC rfl rfl hm h
 ·have hv:inV (.str w) [.str "number",.str "sign",.str "one"]=false:=by
   simp only[twoW,Da,Dg,G9]at hm;rcases hm with rfl|rfl|rfl|rfl|rfl<;>decide
  left;refine qQ false rfl rfl rfl hv ?_;left;refine⟨_,rfl,?_⟩;left;refine nB (l:=twoW) rfl rfl hm ?_;exact λnm p M' q=>⟨_,_,_,rfl,rfl,q⟩
 ·have hv:inV (.str w) [.str "number",.str "sign",.str "one"]=false:=by
   simp only[V3,Da,Dg,G9]at hm;rcases hm with rfl|rfl|rfl|rfl|rfl|rfl<;>decide
  left;refine qQ false rfl rfl rfl hv ?_;left;refine⟨_,rfl,?_⟩;left;refine nB (l:=V3) rfl rfl hm ?_;exact λnm p M' q=>⟨_,_,_,rfl,rfl,q⟩
noncomputable abbrev Yy:Stmt:=top 63
theorem q4o:q00 ["store","row"] ["store","row"] (qd Yy):=by ac_rfl
noncomputable def q2a(C D:Addr):List U->MM->UK->UX->Prop:=λus M Q X=>∃(s:Nm)(ws:List Wt)(ps:WW)(ds:List T),us=[.m (s 0),.p (.tup ds)]/\Sto C D M s ws ps /\
 ((∃(w:Str)(q p t:Nat)(b:Bool),(w = "below" \/ w = "same")/\ds=[.str w,.int (q:Int),.int (p:Int),.int (t:Int)]/\DeedAsk ws [.str w,.int (q:Int),.int (p:Int)] (.bl b)/\Q (.p (.bl b)) M) \/
  (∃(q:Nat)(t:T)(x:Wt)(kd:Str),ds=[.str "kind",.int (q:Int),.str kd,t]/\ws[q]?=some x/\Q (.p (.bl (decide (vf x=kd)))) M) \/
  ∃(q p:Nat)(t:T)(pp:Int),ds=[.str "below",.int (q:Int),.int (p:Int),t]/\AskNo ws [.str "below",.int (q:Int),.int (p:Int)] pp/\X "WrongKind" (some pp) M)
theorem Wm(F:Fun Ξ "holds" "holds" Yy f fd)(N:Nms mg)(aB:Cls Ξ C)(aU:MX P w Ξ mg base C "below" 5 ["q","p"] (gPBelow C D))(bv:MD P w Ξ mg base C "same" 1 ["q","p"] (JQ C D))(aC:MD P w Ξ mg base C "kind" 2 ["q"] (QC C D)):FnOk P w Ξ mg base (CXe P w) 6 f fd ["store","row"] (spX mg (q2a C D)):=by
 refine F.zX q4o (by rintro _ _ _ _ ⟨_,_,_,_,rfl,_⟩;rfl) (λac A outer s H E hr=>?_);refine⟨_,(qA (vR (qi op_eq (qj (GQ Ξ) qv1 qa (λ_a _a=>rfl)) qc (qm _)) (qw (zD (qY qv0 aB aU (YV hr) (qa2 (qj (GQ Ξ) qv1 qa (λ_a _a=>rfl)) (qj (GQ Ξ) qv1 qa (λ_a _a=>rfl)))))) vC) (qA (vT (qP (qi op_eq (qj (GQ Ξ) qv1 qa (λ_a _a=>rfl)) qc (qm _)) (qe (qt (vd bv aB qv0 (YV hr) (qa2 (qj (GQ Ξ) qv1 qa (λ_a _a=>rfl)) (qj (GQ Ξ) qv1 qa (λ_a _a=>rfl)))))) qx)) (qw (vT (qt (vF op_eq (vd aC aB qv0 (YV hr) (qa1 (qj (GQ Ξ) qv1 qa (λ_a _a=>rfl)))) (qj (GQ Ξ) qv1 qa (λ_a _a=>rfl)) (qm _))))))),_,(by right),λus M Qu Xu h=>?_⟩;obtain⟨s,ws,ps,ds,rfl,S,h⟩:=h;rcases h with⟨w,q,p,t,b,hw,rfl,hd,k⟩|⟨q,t,x,kd,rfl,hx,k⟩|⟨q,p,t,pp,rfl,hd,k⟩
 ·rcases hw with rfl|rfl
  ·left
   refine mS S (by decide) ?_;left;cases hd with
   |below _ _ a b hq hp=>exact⟨s,ws,ps,q,p,_,_,rfl,S,hq,hp,k⟩
  ·left
   refine mS S (by decide) ?_;left;cases hd with
   |same _ _ x y hq hp=>exact⟨s,ws,ps,q,p,_,_,rfl,S,hq,hp,k⟩
 ·left
  refine mS S (by decide) ?_;left;refine⟨s,ws,ps,q,_,rfl,S,hx,?_⟩;left;exact k
 ·left
  refine mS S (by decide) ?_;left;refine gPBelow.imp ?_ λnm p M' q=>⟨_,_,_,rfl,rfl,q⟩;cases hd with
  |b1 _ _ x y hq hx hp=>exact⟨s,ws,ps,q,p,_,_,rfl,S,hq,hp,xb hx k⟩
  |b2 _ _ a y hq hp hy=>exact⟨s,ws,ps,q,p,_,_,rfl,S,hq,hp,xa hy k⟩
theorem DeedDo.three{w:Str}(h:DeedDo ws ps (.str w::r) aw ak):inV (.str w) [.str "below",.str "same",.str "kind"]=false:=by cases h<;>decide
theorem DeedNo.three{w:Str}(h:DeedNo ws (.str w::r) nm p):inV (.str w) [.str "below",.str "same",.str "kind"]=false:=by
 cases h with
 |n1 w hw=>rcases hw with rfl|rfl|rfl|rfl|rfl<;>decide
 |n2 w hw=>rcases hw with rfl|rfl|rfl|rfl|rfl<;>decide
 |nz w hw=>rcases hw with rfl|rfl<;>decide
 |p1 w hw=>rcases hw with rfl|rfl<;>decide
 |p2 w hw=>rcases hw with rfl|rfl<;>decide
noncomputable abbrev jm:Stmt:=top 64
theorem scRowBehind:q00 ["store","row","at","news","word"] ["store","row","at","news"] (qd jm):=by ac_rfl
noncomputable def W3(C D:Addr):List U->MM->UK->UX->Prop:=λus M Q X=>∃(s:Nm)(ws:List Wt)(ps:WW)(ds:List T)(a nk:Nat)(ls:List U)(res:Res),us=[.m (s 0),.p (.tup ds),.p (.int (a:Int)),.m nk]/\Sto C D M s ws ps/\M[nk]?=some (.lst ls)/\ls.length<1000/\(∀i,i<ps.length+2->s i≠nk)/\Step ws ps a ds res/\(∀nm p,res=.no nm p->X nm p M) /\
   ∀aw ak a' nw,res=.go aw ak a' nw->∀M' s',Sto C D M' s' aw ak->GoX M M' s s' (ps.length+2) (ak.length+2) nk->M'[nk]?=some (.lst (ls++nw.map U.p))->Q (.p (.int (a':Int))) M'
theorem KD(F:Fun Ξ "row_behind" "row_behind" jm f fd)(N:Nms mg)(aB:Cls Ξ C)(cR:DefX P w Ξ mg base "holds" 6 ["store","row"] (spX mg (q2a C D)))(aM:MD P w Ξ mg base C "told" 2 ["q"] (Zu C D))(cp:DefX P w Ξ mg base "do_deed" 7 ["store","row"] (spX mg (WY C D))):FnOk P w Ξ mg base (CXe P w) 8 f fd ["store","row","at","news"] (spX mg (W3 C D)):=by
 refine F.zX scRowBehind (by rintro _ _ _ _ ⟨_,_,_,_,_,_,_,_,rfl,_⟩;rfl) (λac A outer s H E hr=>?_);refine⟨_,(qA (vT (qB (i:=4) scRowBehind.nd rfl GL (qj (GQ Ξ) qv1 qa (λ_a _a=>rfl)))) (qA (vT (qP (qi op_eq qv4 qc (qm _)) (qe (qt (qj (GQ Ξ) qv1 qa (λ_a _a=>rfl)))) qx)) (qA (vR (qi (GR Ξ) qv4 (qu (qa3 qc qc qc)) (by with_unfolding_all rfl)) (qw (zD (q41 (vI cR (YV hr) (qa2 qv0 qv1)) (Js (qj (GQ Ξ) qv1 qa (λ_a _a=>rfl))) (Js (qC vz qv2 qa))))) vC) (qA (vR (qi op_eq qv4 qc (qm _)) (qw (vT (v3 (q0t PySem.F.slot_list_append PySem.F.type_list_append xc qv3 (qa1 (vd aM aB qv0 (YV hr) (qa1 (qj (GQ Ξ) qv1 qa (λ_a _a=>rfl))))))))) (qw (vg (vI cp (YV hr) (qa2 qv0 qv1))))) (qw (vT (qt (qC vz qv2 qa)))))))),_,(qy (by right) (qy (by right) (qy (zd (by right) (Gm (q6q (VN (ql (qr 0) (ql (qr 1) qJ))) (cx_0 (jJ (qr 1) YX)) (cx_0 (jf (Jw λ_a _a=>.int _) (qr 2) YX)))) vj) (by right)))),λus M Qu Xu h=>?_⟩;obtain⟨s,ws,ps,ds,a,nk,ls,res,rfl,S,hk,eA,bZ,hs,qn,qg⟩:=h;have bA:GoX M M s s (ps.length+2) (ps.length+2) nk:=(Go.refl (M:=M) (s:=s) (n:=ps.length+2)).x;cases hs with
 |jump t=>
  left;exact qg _ _ _ _ rfl _ _ S bA (by simpa using hk)
 |tell q x hq=>
  left;refine Vy hk ?_;left;refine mS S (by decide) ?_;left;refine⟨s,ws,ps,q,x,rfl,S,hq,?_⟩;left;refine⟨_,hk,qF (by lia),?_⟩;left;exact qg _ _ _ _ rfl _ _ (S.skip bZ) GoX.put (U3 (UR.mp hk).1)
 |ask w hw q p t b hd=>
  have wh:Qu (.p (.int ((if b=true then t else a+1:Nat):Int))) M:=qg _ _ _ _ rfl _ _ S bA (by simpa using hk);rcases hw with rfl|rfl
  ·left
   refine⟨s,ws,ps,_,rfl,S,.inl ⟨_,q,p,t,b,.inl rfl,rfl,hd,?_⟩⟩;left;refine⟨_,rfl,?_⟩;cases b with
   |true=>
    refine qO rfl ?_;exact vc (t:=.int (t:Int)) rfl wh
   |false=>
    refine qL (by decide) ?_;exact wh
  ·left
   refine⟨s,ws,ps,_,rfl,S,.inl ⟨_,q,p,t,b,.inr rfl,rfl,hd,?_⟩⟩;left;refine⟨_,rfl,?_⟩;cases b with
   |true=>
    refine qO rfl ?_;exact vc (t:=.int (t:Int)) rfl wh
   |false=>
    refine qL (by decide) ?_;exact wh
 |kind q t x kd hq=>
  have wh:Qu (.p (.int ((if decide (vf x=kd)=true then t else a+1:Nat):Int))) M:=qg _ _ _ _ rfl _ _ S bA (by simpa using hk);left;refine⟨s,ws,ps,_,rfl,S,.inr (.inl ⟨q,_,x,kd,rfl,hq,?_⟩)⟩;left;refine⟨_,rfl,?_⟩;by_cases dS:vf x=kd
  ·rw[Uu dS]at wh ⊢
   refine qO rfl ?_;exact vc (t:=.int (t:Int)) rfl wh
  ·rw[G0 dS]at wh ⊢
   refine qL (by decide) ?_;exact wh
 |askno q p t pp hd=>
  left;refine⟨s,ws,ps,_,rfl,S,.inr (.inr ⟨q,p,_,pp,rfl,hd,?_⟩)⟩;exact⟨_,_,_,rfl,rfl,qn _ _ rfl⟩
 |deed _ aw ak hd ht hl=>
  obtain⟨w,r,rfl,p1,p2,p3,p4,p5⟩:=hd.plain;obtain⟨w0,r0,e0,hw⟩:=hd.word;cases e0;symm;refine qL p2 ?_;symm;refine qQ false rfl rfl rfl hd.three ?_;symm;refine qL p3 ?_;left;refine⟨s,ws,ps,_,rfl,S,Out.call ⟨s,ws,ps,rfl,S,.inl ⟨aw,ak,hd,λM' s' S' g=>?_⟩⟩,_,_,rfl,hw⟩;left;exact qg _ _ _ _ rfl _ _ S' g.x (by rw[g.fr _ (UR.mp hk).1 λi hi e=>bZ i hi e.symm];simpa using hk)
 |no _ nm p hd=>
  obtain⟨w,r,rfl,p1,p2,p3,p4,p5⟩:=hd.plain;obtain⟨w0,r0,e0,hw⟩:=hd.word;cases e0;symm;refine qL p2 ?_;symm;refine qQ false rfl rfl rfl hd.three ?_;symm;refine qL p3 ?_;left;refine⟨s,ws,ps,_,rfl,S,Out.call ⟨s,ws,ps,rfl,S,.inr (.inr (.inl ⟨nm,p,hd,?_⟩))⟩,_,_,rfl,hw⟩;exact⟨_,_,_,rfl,rfl,qn _ _ rfl⟩
local macro_rules|`(tactic|walk_at "vx")=>`(tactic|simp only[zl,jj,jM,zB,vZ,uTry,zC,zi,jO,jP,endX,zY,QV,uX0,jN,uAsG])
theorem q0T{pl:Sem Bool}(D:MDef X.prog X.w X.K X.mg X.base C m k ps sp)(c:Cls X.K C)(he:QE X o ta)(hr:Room k X.A)(ht:eval (.Call (.Attribute o m aI) [] [] pos) X.env=(do
   let ov <-eval o X.env
   standAt aI.atName;let(f,first) <-holding [ov] (getMethod ov m pl)
   callWith pos f first (backTo pos (starEach [] X.env)) (backToKw pos (keywordEach [] X.env))):=by rfl):QE X (.Call (.Attribute o m aI) [] [] pos) (Z2 C m sp [] E0 ta tNil):=by
 obtain⟨f,fd,h1,h2,h3⟩:=D.ex;exact⟨q08 he.h c h1 h3 hr h2 .nil Ku ht⟩
theorem xk(h:g≠f):Vo f y ((g,x)::r)=(g,x)::Vo f y r:=by
 show(if g=f then _ else _)=_;rw[GZ h]
theorem xU:Vo f y []=[(f,y)]:=rfl
structure TxM(Ξ:PySem.W.Frag)(E:Addr):Prop where
 c:Cls Ξ E
 n1:NoAttr Ξ E "store"
 n2:NoAttr Ξ E "layings"
 n3:NoAttr Ξ E "when"
 n4:NoAttr Ξ E "turn"
noncomputable def mvO(CM:Addr)(k:Nat):MO:=.ins CM [("store",.m k),("layings",.p (.lst [])),("when",.p (.lst [])),("turn",.p (.int 1))]
noncomputable abbrev jn:Stmt:=qk (top 58) 0
theorem Z5:q00 ["self","store","layings","when"] ["self","store","layings","when"] (qd jn):=by ac_rfl
noncomputable def WV(CM:Addr):List U->MM->UK->Prop:=λus M Q=>∃(k s0:Nat),us=[.m k,.m s0,.p (.lst []),.p (.lst [])]/\M[k]?=some (.ins CM [])/\Q (.p .non) (M.set k (mvO CM s0))
theorem Wl(F:Fun Ξ "__init__" "Moves.__init__" jn f fd)(TM:TxM Ξ CM):FnOk P w Ξ mg base CX0 1 f fd ["self","store","layings","when"] (spU (WV CM)):=by
 refine F.zU Z5 (by rintro _ _ _ ⟨_,_,rfl,_⟩;rfl) (λac A outer s H E hr=>?_);refine⟨_,(qb (xT qv0 qv1 rfl) (qb (xT qv0 qv2 rfl) (qb (xT qv0 qv3 rfl) (qe (xT qv0 qa rfl))))),_,(by right),λus M Qu h=>?_⟩;obtain⟨k,s0,rfl,em,q⟩:=h;have hk:=(UR.mp em).1;symm;refine vO TM.c TM.n1 em (by decide) ?_;rw[xU];symm;refine vO TM.c TM.n2 (U3 hk) (by show 1<1000;decide) ?_;rw[DS,xk (by decide),xU];symm;refine vO TM.c TM.n3 (U3 hk) (by show 2<1000;decide) ?_;rw[DS,xk (by decide),xk (by decide),xU];symm;refine vO TM.c TM.n4 (U3 hk) (by show 3<1000;decide) ?_;rw[DS,xk (by decide),xk (by decide),xk (by decide),xU];symm;exact q
noncomputable abbrev xD:Stmt:=qk (top 58) 2
theorem Zb:q00 ["self","gone"] ["self","gone"] (qd xD):=by ac_rfl
noncomputable def q2m(CM:Addr):List U->MM->UK->Prop:=λus M Q=>∃(k s0 g:Nat),us=[.m k,.p (.int (g:Int))]/\M[k]?=some (mvO CM s0)/\Q (.p .non) M
theorem Wp(F:Fun Ξ "ahead" "Moves.ahead" xD f fd)(N:Nms mg)(TM:TxM Ξ CM)(aZ:Cls Ξ CM)(bE:MD P w Ξ mg base CM "move" 1 [] gNo):FnOk P w Ξ mg base CX0 2 f fd ["self","gone"] (spU (q2m CM)):=by
 refine F.zU Zb (by rintro _ _ _ ⟨_,_,_,rfl,_⟩;rfl) (λac A outer s H E hr=>?_);refine⟨_,(qe (qP (Xv (Zd (qi Kw (qv 1) (qH zt (by rfl) N.len Ql (qa_c (qS (qv 0) rfl) vD)) (qm _)) (Vm (vJ (qj (GO Ξ) (qS (qv 0) rfl) (qv 1) (λ_a _a=>rfl))))))
   (qe (v3 (q0T bE aZ (qv 0) (YV hr))))
   qx)),_,(zd (JX (ju (jf (Jw λ_a _a=>.bl _) (qr 1) (q2b (ql (QN (qr 0)) qJ)))) (ct_b (vY (QN (qr 0)) (qr 1))))
   (VO (X9 (qr 0) qJ))
   vj),λus M Qu h=>?_⟩
 obtain⟨k,s0,g,rfl,em,q⟩:=h;symm;refine xL TM.c TM.n3 em rfl ?_;symm;refine qL (by lia) ?_;exact q
local macro_rules|`(tactic|walk_at "vx")=>`(tactic|simp only[zl,jj,jM,zB,vZ,uTry,zC,zi,jO,jP,endX,zY,QV,uX0,jN,uAsG,q12])
noncomputable abbrev zR:Stmt:=top 65
theorem scGoneThrough:q00 ["script","moves","most","news","at","gone","refusal"] ["script","moves","most"] (qd zR):=by ac_rfl
noncomputable def RunQ(C D:Addr)(M:MM)(s:Nm)(n0:Nat)(e:T)(ns:List T)(ay:List Wt)(au:WW)(Q:UK):Prop:=∀M' s' k nk,Sto C D M' s' ay au->Go M M' s s' n0 (au.length+2)->M.length<=k->M.length<=nk->M'[k]?=some (.tup [.p e,.m nk])->M'[nk]?=some (.lst (ns.map U.p))->Q (.m k) M'
theorem Xo(q:RunQ C D M o n0 e (bT++[]) aQ aq Q)(O1:Sto C D M' o1 aQ aq)(g1:Go M M' o o1 n0 (aq.length+2))(hk:M'[M.length]?=some (.lst (bT.map U.p))):Q (.m M'.length) (M'++[.tup [.p e,.m M.length]]):=by
 rw[Dl]at q;refine q _ o1 _ M.length (O1.go λi hi=>zH (O1.lt hi)) (g1.trans Go.ap) g1.len (UZ _) qK ?_;rw[zH (UR.mp hk).1];exact hk
theorem Step.head(h:Step ws ps a ds res):∃w r,ds=.str w::r/\w ≠ "end" := by
 cases h with
 |ask w hw=>exact⟨_,_,rfl,by rcases hw with rfl|rfl<;>decide⟩
 |deed _ _ _ h=>obtain⟨w,r,e,p1,_⟩:=h.plain;exact⟨w,r,e,p1⟩
 |no _ _ _ h=>obtain⟨w,r,e,p1,_⟩:=h.plain;exact⟨w,r,e,p1⟩
 |_=>exact⟨_,_,rfl,by decide⟩
theorem Step.small(h:Step ws ps a ds (.no nm (some v))):v<1000000:=by
 cases h with
 |askno _ _ _ _ h=>cases h<;>decide
 |no _ _ _ h=>cases h<;>decide
noncomputable def q5h(C D CM:Addr):List U->MM->UK->Prop:=λus M Q=>∃(s:Nm)(ws:List Wt)(ps:WW)(rows:List (List T))(mk n:Nat)(e:T)(ns:List T)(ay:List Wt)(au:WW),us=[.p (.lst (rows.map T.tup)),.m mk,.p (.int (n:Int))]/\M[mk]?=some (mvO CM (s 0))/\Sto C D M s ws ps/\(∀i,i<ps.length+2->s i≠mk)/\n<=400/\ps.length+n<=1000/\Walk rows False n ws ps 0 e ns ay au/\RunQ C D M s (ps.length+2) e ns ay au Q
theorem q17(F:Fun Ξ "gone_through" "gone_through" zR f fd)(N:Nms mg)(TM:TxM Ξ CM)(aZ:Cls Ξ CM)(aL:ExcC Ξ mg "Nought" CN)(CWk:ExcK Ξ CW g)(fN:NoAttr Ξ CW "part")(dW:mg "WrongKind" = some (.ref CW))(bw:mg "Nought" = some (.ref CN))(EWk_Wk:W.exmOne Ξ (.ref CW) (.ref CW)=some true)(ENought_Wk:W.exmOne Ξ (.ref CN) (.ref CW)=some false)(ENought_Nought:W.exmOne Ξ (.ref CN) (.ref CN)=some true)(bf:MD P w Ξ mg base CM "ahead" 2 ["gone"] (q2m CM))(bF:DefX P w Ξ mg base "row_behind" 8 ["store","row","at","news"] (spX mg (W3 C D))):FnOk P w Ξ mg base CX0 9 f fd ["script","moves","most"] (spU (q5h C D CM)):=by
 refine F.zU scGoneThrough (by rintro _ _ _ ⟨_,_,_,_,_,_,_,_,_,_,rfl,_⟩;rfl) (λac A outer s H E hr=>?_);refine⟨_,(qb (qB (i:=3) scGoneThrough.nd rfl (.inl rfl) (qG vD))
  (qb (qB (i:=4) scGoneThrough.nd rfl (.inl rfl) qa)
  (qb (xu PassesOwn.never rfl (vK rfl N.range (qa_c (qv 2) vD)) (vb (i:=5) scGoneThrough.nd rfl GL)
   (qb (qP (qi op_eq (qj (GQ Ξ) (qj (GO Ξ) (qv 0) (qv 4) (λ_a _a=>rfl)) qa (λ_a _a=>rfl)) qc (qm _))
    (qe (qt (qu (qa_c (qu (qa_c qc vD)) (qa_c (qv 3) vD)))))
    qx)
   (qb (v3 (vd bf aZ (qv 1) (YV hr) (qa_c (qv 5) vD)))
   (qe (q2x (l:=[("WrongKind", _),("Nought", _)]) ⟨rfl,rfl,rfl,rfl⟩ (λ_a _a=>
    (qw (Jt (i:=4) scGoneThrough.nd rfl (.inl rfl) (vI bF (YV hr) (qa_c (qS (qv 1) rfl) (qa_c (qj (GO Ξ) (qv 0) (qv 4) (λ_a _a=>rfl)) (qa_c (qv 4) (qa_c (qv 3) vD))))))))
    (VA dW (λ_a=>(q5W (i:=6) ⟨rfl,rfl,rfl,rfl⟩ dW EWk_Wk scGoneThrough.nd rfl rfl (λ_a _a _a ob=>(qe (qt (qu (qa_c (qu (qa_c qc (qa_c (qv 4) (qa_c (q2E CWk fN ob q5A (qv 6)) vD)))) (qa_c (qv 3) vD)))))))) (VA bw (λ_a=>(YQ dW ENought_Wk (q24 aL.b ENought_Nought (λ_a=>(qe (qt (qu (qa_c (qu (qa_c qc (qa_c (qv 4) vD))) (qa_c (qv 3) vD))))))))) q2s)))))))
  (qe (qt (qu (qa_c (qu (qa_c qc (qa_c (qv 4) vD))) (qa_c (qv 3) vD)))))))),_,(qy (vQ (k9 qJ) (ve 3))
   (qy (vQ YX (ve 4))
   (qy (k8 (Gw (ql (qr 2) qJ)) (ve 5)
   (qy (zd (ju (jf Qw (jJ (vY (qr 0) (qr 4)) YX) WC))
   (v8 (jx (ql (jI (ql WC qJ)) (ql (qr 3) qJ))))
   vj)
   (qy (VO (X9 (qr 1) (ql (qr 5) qJ)))
   (q2c (X7 (VN (ql (QN (qr 1)) (ql (vY (qr 0) (qr 4)) (ql (qr 4) (ql (qr 3) qJ)))))) (QQ (λ_a=>(q6b (λ_a _a=>(v8 (jx (ql (jI (ql WC (ql (qr 4) (ql (q48 (qr 6)) qJ)))) (ql (qr 3) qJ))))))) (QQ (λ_a=>(v8 (jx (ql (jI (ql WC (ql (qr 4) qJ))) (ql (qr 3) qJ))))) q1R))))))
   (v8 (jx (ql (jI (ql WC (ql (qr 4) qJ))) (ql (qr 3) qJ))))))),λus M Qu h=>?_⟩
 obtain⟨s,ws,ps,rows,mk,n,e,ns,ay,au,rfl,em,S,rD,hn,hl,W,q⟩:=h;have me:=(UR.mp em).1;symm;refine jC (by lia) (by lia) ?_;refine xN (λi ρ M'=>∃s1 aQ aq a bT dJ x5 x6,ρ=[some (.p (.lst (rows.map T.tup))),some (.m mk),some (.p (.int (n:Int))),some (.m M.length),some (.p (.int ((a:Nat):Int))),x5,x6]/\Sto C D M' s1 aQ aq/\Go M M' s s1 (ps.length+2) (aq.length+2)/\M'[M.length]?=some (.lst (bT.map U.p))/\M'[mk]?=some (mvO CM (s 0))/\(∀j,j<aq.length+2->s1 j≠M.length)/\(∀j,j<aq.length+2->s1 j≠mk)/\bT.length<=i/\aq.length<=ps.length+i/\ns=bT++dJ/\Walk rows False (n-i) aQ aq a e dJ ay au)
  ⟨s,ws,ps,0, [],ns,_,_,rfl,S.go λi hi=>zf (S.lt hi),Go.ap,qK,(zf me).trans em,λj hj e=>by have:=S.lt hj;lia,rD,UZ _,by lia,rfl,W⟩ ?_ ?_
 ·rintro i ρ M' hi ⟨s1,aQ,aq,a,bT,dJ,x5,x6,rfl,S1,g1,hk,eB,bZ,fO,cL,ma,rfl,W1⟩
  have hi:i<n:=by simpa using hi
  obtain⟨m,hm⟩:∃m,n-i=m+1:=⟨n-i-1,by lia⟩;rw[hm]at W1;symm;have row:∀{ds:List T},rows[a]?=some ds->atI (rows.map T.tup) (a:Int)=some (.tup ds):=λh=>ze (by rw[Dh,h];rfl);have dL:aq.length<1000:=by lia
  have eA:(bT.map U.p).length<1000:=by rw[UY];lia
  cases W1 with
  |endd _ _ _ _ h=>
   refine qX (row h) ?_;left;exact Xo q S1 g1 hk
  |great _ _ _ _ r qq p x y hg=>exact hg.elim
  |no _ _ _ _ ds nm p h eQ=>
   obtain⟨w,r0,rfl,hw⟩:=eQ.head;refine qX (row h) ?_;symm;refine vc at0 ?_;symm;refine qL hw ?_;symm;refine XN eB rfl ?_;symm;refine⟨mk,_,i,rfl,eB,?_⟩;left;refine xL aZ TM.n1 eB rfl ?_;left;refine qX (row h) ?_;left;refine⟨s1,_,_,_,a,M.length,bT.map U.p,_,by rw[g1.z],S1,hk,eA,bZ,eQ,λgL p' e=>?_,(λ_a _a _a _a e=>by cases e)⟩;cases e;have f:=Xo q S1 g1 hk;rcases eQ.two with⟨rfl,v,rfl⟩|⟨rfl,rfl⟩
   ·simp only[KO]at f
    refine⟨_,_,_,_,rfl,rfl,rfl,λax dx=>?_⟩;left;refine⟨_,rfl,eQ.small,?_⟩;left;exact f
   ·simp only[KO]at f
    refine⟨_,_,_,_,rfl,rfl,rfl,?_⟩;left;exact f
  |go _ _ _ _ ds g9 gb a3 nw _ ns3 _ _ h eQ r=>
   obtain⟨w,r0,rfl,hw⟩:=eQ.head;refine qX (row h) ?_;symm;refine vc at0 ?_;symm;refine qL hw ?_;symm;refine XN eB rfl ?_;symm;refine⟨mk,_,i,rfl,eB,?_⟩;left;refine xL aZ TM.n1 eB rfl ?_;left;refine qX (row h) ?_;left;refine⟨s1,_,_,_,a,M.length,bT.map U.p,_,by rw[g1.z],S1,hk,eA,bZ,eQ,(λgL p' e=>by cases e),λaw ak a' rA e M3 s3 S3 g3 md=>?_⟩;cases e;left;have h1:=eQ.more;have h8:=(UR.mp eB).1;exact⟨s3,_,_,a3,bT++nw,ns3,_,_,rfl,S3,g1.thenX g3 (UZ _),by rw[md,Dq],(g3.fr mk h8 (λi hi e=>fO i hi e.symm) (by lia)).trans eB,g3.out (UR.mp hk).1 bZ,g3.out h8 fO,by rw[UV];lia,by lia,by rw[Db],by rw[show n-(i+1)=m by lia];exact r⟩
 ·rintro ρ M' ⟨s1,aQ,aq,a,bT,dJ,x5,x6,rfl,S1,g1,hk,eB,bZ,fO,cL,ma,rfl,W1⟩
  have W1:Walk rows False (n-n) aQ aq a e dJ ay au:=W1;rw[DA]at W1;symm;cases W1;exact Xo q S1 g1 hk
noncomputable abbrev sGo:Stmt:=top 66
theorem scGo:q00 ["script","store","most"] ["script","store","most"] (qd sGo):=by ac_rfl
noncomputable def gGo(C D:Addr):List U->MM->UK->Prop:=λus M Q=>∃(s:Nm)(ws:List Wt)(ps:WW)(rows:List (List T))(n:Nat)(e:T)(ns:List T)(ay:List Wt)(au:WW),us=[.p (.lst (rows.map T.tup)),.m (s 0),.p (.int (n:Int))]/\Sto C D M s ws ps/\n<=400/\ps.length+n<=1000/\Walk rows False n ws ps 0 e ns ay au/\RunQ C D M s (ps.length+2) e ns ay au Q
theorem q54(F:Fun Ξ "go" "go" sGo f fd)(N:Nms mg)(cS:q02 P w Ξ mg base CM "Moves" 1 ["self","store","layings","when"] (spU (WV CM)))(b5:Def P w Ξ mg base "gone_through" 9 ["script","moves","most"] (spU (q5h C D CM))):FnOk P w Ξ mg base CX0 10 f fd ["script","store","most"] (spU (gGo C D)):=by
 refine F.zU scGo (by rintro _ _ _ ⟨_,_,_,_,_,_,_,_,_,rfl,_⟩;rfl) (λac A outer s H E hr=>?_);refine⟨_,(qe (qt (qo b5 (YV hr) (qa3 qv0 (q4V cS (YV hr) rfl (qa3 qv1 (qG vD) (qG vD))) qv2)))),_,(v8 (vA (ql (qr 0) (ql (Qa (by right)) (by right))))),λus M Qu h=>?_⟩;obtain⟨s,ws,ps,rows,n,e,ns,ay,au,rfl,S,hn,hl,W,q⟩:=h;symm;refine⟨M.length,_,rfl,qK,?_⟩;rw[jY];have S1:Sto C D (M++[mvO CM (s 0)]) s ws ps:=S.go λi hi=>zf (S.lt hi);have l1:(M++[mvO CM (s 0)]).length=M.length+1:=by rw[UV];rfl
 symm;refine⟨s,ws,ps,rows,M.length,n,e,ns,ay,au,rfl,qK,S1,λi hi e=>by have:=S.lt hi;lia,hn,hl,W,λM' s' k nk S' g hk bZ e1 e2=>q M' s' k nk S' ?_ (by lia) (by lia) e1 e2⟩;exact Go.trans Go.ap g
noncomputable abbrev kq:Stmt:=top 67
theorem Kn:q00 ["script","most"] ["script","most"] (qd kq):=by ac_rfl
noncomputable def Zt:List U->MM->UK->Prop:=λus M Q=>∃(rows:List (List T))(n:Nat)(e:T)(ns:List T)(ay:List Wt)(au:WW),us=[.p (.lst (rows.map T.tup)),.p (.int (n:Int))]/\n<=400/\Walk rows False n wsN [] 0 e ns ay au/\∀M' k nk,M.length<=M'.length->(∀i,i<M.length->M'[i]?=M[i]?)->M.length<=k->M.length<=nk->M'[k]?=some (.tup [.p e,.m nk])->M'[nk]?=some (.lst (ns.map U.p))->Q (.m k) M'
theorem sto_new:Sto C D (M++[.ins C [("held",.m (M.length+1))],hl id wsN]) (λi=>i+M.length) wsN []:=by
 have g:∀{k:Nat}{L:List MO},(M++L)[k+M.length]?=L[k]?:=λ{k L}=>by rw[U9 (by lia)];congr 1;lia
 refine⟨?_,?_,λi x h=>by simp at h,rfl,λi j hi hj z=>by lia,wok_new.ww,wok_new.wp⟩
 ·show(M++_)[0+M.length]?=some (MO.ins C [("held",.m (1+M.length))])
  rw[g,Nat.add_comm 1];rfl
 ·show(M++_)[1+M.length]?=_
  rw[g];rfl
theorem Vq(F:Fun Ξ "plain_run" "plain_run" kq f fd)(N:Nms mg)(eC:q02 P w Ξ mg base C "PlainStore" 1 ["self"] (spU (Zw C)))(eD:Def P w Ξ mg base "go" 10 ["script","store","most"] (spU (gGo C D))):FnOk P w Ξ mg base CX0 11 f fd ["script","most"] (spU Zt):=by
 refine F.zU Kn (by rintro _ _ _ ⟨_,_,_,_,_,_,rfl,_⟩;rfl) (λac A outer s H E hr=>?_);refine⟨_,(qe (qt (qo eD (YV hr) (qa3 qv0 (YS eC (YV hr) rfl) qv1)))),_,(v8 (vA (ql (qr 0) (ql (Qa qJ) (by right))))),λus M Qu h=>?_⟩;obtain⟨rows,n,e,ns,ay,au,rfl,hn,W,q⟩:=h;symm;refine⟨M.length,rfl,qK,?_⟩;symm;have e0:(M++[MO.ins C []]++[hl id wsN]).set M.length (.ins C [("held",.m (M.length+1))])=M++[.ins C [("held",.m (M.length+1))],hl id wsN]:=by
  rw[Db,DJ _ _ (UZ _),DA];rfl
 have e1:(M++[MO.ins C []]).length=M.length+1:=by rw[UV];rfl
 rw[e1];show gGo C D _ ((M++[MO.ins C []]++[hl id wsN]).set M.length (.ins C [("held",.m (M.length+1))])) Qu;rw[e0];refine⟨λi=>i+M.length,wsN, [],rows,n,e,ns,ay,au,by show _=[_,U.m (0+M.length),_];rw[Rg],sto_new,hn,by show 0+n<=1000;lia,W,λM' s' k nk S' g hk bZ a1 a2=>?_⟩;have l:=g.len;rw[UV]at l hk bZ;refine q M' k nk (by lia) (λi hi=>?_) (by lia) (by lia) a1 a2;rw[g.fr i (by rw[UV];lia) λj _a=>by lia];exact zH hi
local macro_rules|`(tactic|walk_at "vx")=>`(tactic|simp only[YD,q6Y,YK,Xp,Vk,YH,YI,Xq,kA,xO,xP,q6P,uMe0,Xr,K4,Yb,uInD,Jk,uInK,q6M,jN,xt,Ye,K5])
local macro_rules|`(tactic|walk_at "pk")=>`(tactic|(walk_at "v"; repeat ((first|walk_at "vx" |refine qL (by decide) ?_|refine qO rfl ?_); walk_at "v")))
theorem Jd{xs:List T}{j:Int}(h0:0<=j)(h1:j<xs.length):∃t,atI xs j=some t/\t∈xs:=by
 obtain⟨k,rfl⟩:∃k:Nat,j=(k:Int):=⟨j.toNat,by lia⟩;have hk:k<xs.length:=by exact_mod_cast h1
 exact⟨xs[k],ze (UU hk),RL hk⟩
noncomputable def lettersL:List (Str×Str):=[("number","rn"),("sign","rk"),("one","ro"),("copy","rr"),("plus","rrr"),("less","rrr"),("times","rrr"),("over","rrr"),("rest","rrr"),("pair","rrr"),("first","rr"),("second","rr"),("set_first","rr"),("set_second","rr"),("below","rrt"),("same","rrt"),("kind","rwt"),("tell","r"),("jump","t"),("end","")]
noncomputable def okC(c:Nat):Bool:=decide (c∈[114,110,107,111,119,116])
theorem q3b{w l:Str}(h:lettersL.lookup w=some l):(∀c∈l.cps.toList,okC c=true)/\l.cps.toList.length<=3:=by
 have key:∀x∈lettersL,(∀c∈x.2.cps.toList,okC c=true)/\x.2.cps.toList.length<=3:=by decide+kernel
 have hm:(w,l)∈lettersL:=by
  generalize lettersL=L at h
  induction L with
  |nil=>cases h
  |cons a L ih=>
   obtain⟨a1,a2⟩:=a;rw[Dj]at h;cases e:w==a1 with
   |true=>rw[e]at h;cases h;rw[eq_of_beq e];exact .head _
   |false=>rw[e]at h;exact .tail _ (ih h)
 exact key _ hm
noncomputable abbrev Vf:Stmt:=top 76
theorem Yu:q00 [] [] (qd Vf):=by ac_rfl
noncomputable def zo:List (Key×U):=lettersL.map λx=>(.inr x.1,.p (.str x.2))
noncomputable def xf:List U->MM->UK->Prop:=λus M Q=>us=[]/\Q (.m M.length) (M++[.dK zo])
theorem jS(F:Fun Ξ "_law_letters" "_law_letters" Vf f fd):FnOk P w Ξ mg base CX0 1 f fd [] (spU xf):=by
 refine F.zU Yu (λus M Qu h=>?_) (λac A outer s H E hr=>?_)
 ·rw[h.1];rfl
 refine⟨_,(qe (qt (q0q (.cons (.cons (.cons (.cons (.cons (.cons (.cons (.cons (.cons (.cons (.cons (.cons (.cons (.cons (.cons (.cons (.cons (.cons (.cons (.cons .nil)))))))))))))))))))) (by decide) (by decide) (by decide+kernel)))),_,(v8 q1f),λus M Qu h=>?_⟩;obtain⟨rfl,q⟩:=h;exact q
theorem q0U{w:Str}:valU zo (.inr w)=(lettersL.lookup w).map λl=>U.p (.str l):=by
 have key:∀{L:List (Str×Str)},valU (L.map λx=>((.inr x.1:Key),U.p (.str x.2))) (.inr w)=(L.lookup w).map λl=>U.p (.str l):=λ{L}=>by
  induction L with
  |nil=>rfl
  |cons a L ih=>
   obtain⟨a1,a2⟩:=a;unfold valU at ih ⊢;rw[Dj,Di];cases e:w==a1 with
   |true=>
    rw[List.find?_cons_of_pos (by simp[eq_of_beq e])];rfl
   |false=>
    rw[List.find?_cons_of_neg (by simp;exact λz=>by rw[z]at e;simp at e)];exact ih
 exact key
theorem VW(hk:k<M.length)(B:BagO o)(q:∀(n:Int)(o':MO),Bt 300 n->BagO o'->Q (.p (.int n)) (MB M k o' L)):vG [.m k] (MB M k o L) Q:=q4d hk B λn o' B' h=>q n o' h B'
noncomputable def bndN(c:Nat)(a6:Nat):Int:=if c=114 then 8 else if c=107 then 128 else(a6:Int)
noncomputable def zI(c a6:Nat):T->Prop
 |.str _=>c=111\/c=119
 |.int i=>c≠111/\c≠119/\(c=110->Bt 300 i)/\(c≠110->0<=i/\i<bndN c a6)
 |_=>False
noncomputable def Qm(a6:Nat):List Nat->List T->Prop
 | [], []=>True
 |c::cs,t::ts=>zI c a6 t/\Qm a6 cs ts
 |_,_=>False
theorem W6:∀{cs:List Nat}{ts:List T},ts.length=cs.length->(∀(j:Nat) c t,cs[j]?=some c->ts[j]?=some t->zI c a6 t)->Qm a6 cs ts
 | [], [],_,_=>trivial
 | [],_::_,h,_=>by simp at h
 |_::_, [],h,_=>by simp at h
 |c::cs,t::ts,h,k=>⟨k 0 c t rfl rfl,W6 (by simpa using h) λj c t a b=>k (j+1) c t (by simpa using a) (by simpa using b)⟩
theorem jV(h:zI 114 a6 t):∃r:Nat,r<8/\t=.int (r:Int):=by
 cases t with
 |int i=>
  have h2:=h.2.2.2 (by decide);have h3:i<8:=h2.2;exact⟨i.toNat,by lia,by rw[Dw h2.1]⟩
 |str z=>exact absurd h (by show ¬(114=111\/114=119);decide)
 |_=>exact h.elim
theorem q4y(h:zI 116 a6 t):∃r:Nat,r<a6/\t=.int (r:Int):=by
 cases t with
 |int i=>
  have h2:=h.2.2.2 (by decide);have h3:i<(a6:Int):=h2.2;exact⟨i.toNat,by lia,by rw[Dw h2.1]⟩
 |str z=>exact absurd h (by show ¬(116=111\/116=119);decide)
 |_=>exact h.elim
theorem q7i(h:zI 107 a6 t):∃i:Int,t=.int i:=by
 cases t with
 |int i=>exact⟨i,rfl⟩
 |str z=>exact absurd h (by show ¬(107=111\/107=119);decide)
 |_=>exact h.elim
theorem q7h(h:zI 110 a6 t):∃i:Int,Bt 300 i/\t=.int i:=by
 cases t with
 |int i=>exact⟨i,h.2.2.1 rfl,rfl⟩
 |str z=>exact absurd h (by show ¬(110=111\/110=119);decide)
 |_=>exact h.elim
theorem q5w(hc:c=111\/c=119)(h:zI c a6 t):∃z:Str,t=.str z:=by
 cases t with
 |str z=>exact⟨z,rfl⟩
 |int i=>exact(hc.elim (λe=>absurd e h.1) λe=>absurd e h.2.1)
 |_=>exact h.elim
theorem q6I(h:Qm a6 [] ts):ts=[]:=by cases ts<;>first|rfl|exact h.elim
theorem q50(h:Qm a6 [a] ts):∃x,ts=[x]/\zI a a6 x:=by
 match ts,h with
 | [x],h=>exact⟨x,rfl,h.1⟩
theorem q0D(h:Qm a6 [a,b] ts):∃x y,ts=[x,y]/\zI a a6 x/\zI b a6 y:=by
 match ts,h with
 | [x,y],h=>exact⟨x,y,rfl,h.1,h.2.1⟩
theorem q2R(h:Qm a6 [a,b,c] ts):∃x y z,ts=[x,y,z]/\zI a a6 x/\zI b a6 y/\zI c a6 z:=by
 match ts,h with
 | [x,y,z],h=>exact⟨x,y,z,rfl,h.1,h.2.1,h.2.2.1⟩
theorem q1j{w l:Str}(h:lettersL.lookup w=some l)(hf:Qm a6 l.cps.toList ts):RowI a6 (.str w::ts):=by
 have hm:(w,l)∈lettersL:=by
  generalize lettersL=L at h
  induction L with
  |nil=>cases h
  |cons a L ih=>
   obtain⟨a1,a2⟩:=a;rw[Dj]at h;cases e:w==a1 with
   |true=>rw[e]at h;cases h;rw[eq_of_beq e];exact .head _
   |false=>rw[e]at h;exact .tail _ (ih h)
 have rE:("rr" : Str).cps.toList=[114,114]:=by decide+kernel
 have mf:("rrr" : Str).cps.toList=[114,114,114]:=by decide+kernel
 have mh:("rrt" : Str).cps.toList=[114,114,116]:=by decide+kernel
 have rr:Qm a6 ("rr" : Str).cps.toList ts->∃r q:Nat,ts=[.int (r:Int),.int (q:Int)]/\r<8/\q<8:=λhf=>by
  rw[rE]at hf;obtain⟨x,y,rfl,h1,h2⟩:=q0D hf;obtain⟨r,hr,rfl⟩:=jV h1;obtain⟨q,hq,rfl⟩:=jV h2;exact⟨r,q,rfl,hr,hq⟩
 have gc:Qm a6 ("rrr" : Str).cps.toList ts->∃r q p:Nat,ts=[.int (r:Int),.int (q:Int),.int (p:Int)]/\r<8/\q<8/\p<8:=λhf=>by
  rw[mf]at hf;obtain⟨x,y,z,rfl,h1,h2,h3⟩:=q2R hf;obtain⟨r,hr,rfl⟩:=jV h1;obtain⟨q,hq,rfl⟩:=jV h2;obtain⟨p,hp,rfl⟩:=jV h3;exact⟨r,q,p,rfl,hr,hq,hp⟩
 have nD:Qm a6 ("rrt" : Str).cps.toList ts->∃r q p:Nat,ts=[.int (r:Int),.int (q:Int),.int (p:Int)]/\r<8/\q<8/\p<a6:=λhf=>by
  rw[mh]at hf;obtain⟨x,y,z,rfl,h1,h2,h3⟩:=q2R hf;obtain⟨r,hr,rfl⟩:=jV h1;obtain⟨q,hq,rfl⟩:=jV h2;obtain⟨p,hp,rfl⟩:=q4y h3;exact⟨r,q,p,rfl,hr,hq,hp⟩
 simp only[lettersL,Da,Prod.mk.injEq,Dg,G9]at hm;rcases hm with⟨rfl,rfl⟩|⟨rfl,rfl⟩|⟨rfl,rfl⟩|⟨rfl,rfl⟩|⟨rfl,rfl⟩|⟨rfl,rfl⟩|⟨rfl,rfl⟩|⟨rfl,rfl⟩|⟨rfl,rfl⟩|⟨rfl,rfl⟩|⟨rfl,rfl⟩|⟨rfl,rfl⟩|⟨rfl,rfl⟩|⟨rfl,rfl⟩|⟨rfl,rfl⟩|⟨rfl,rfl⟩|⟨rfl,rfl⟩|⟨rfl,rfl⟩|⟨rfl,rfl⟩|⟨rfl,rfl⟩
 ·rw[show("rn" : Str).cps.toList=[114,110] by decide+kernel]at hf
  obtain⟨x,y,rfl,h1,h2⟩:=q0D hf;obtain⟨r,hr,rfl⟩:=jV h1;obtain⟨n,hn,rfl⟩:=q7h h2;exact .deed _ _ (.num r n hr hn) (by decide)
 ·rw[show("rk" : Str).cps.toList=[114,107] by decide+kernel]at hf
  obtain⟨x,y,rfl,h1,h2⟩:=q0D hf;obtain⟨r,hr,rfl⟩:=jV h1;obtain⟨n,rfl⟩:=q7i h2;exact .deed _ _ (.sgn r n hr) (by decide)
 ·rw[show("ro" : Str).cps.toList=[114,111] by decide+kernel]at hf
  obtain⟨x,y,rfl,h1,h2⟩:=q0D hf;obtain⟨r,hr,rfl⟩:=jV h1;obtain⟨n,rfl⟩:=q5w (.inl rfl) h2;exact .deed _ _ (.one r n hr) (by decide)
 ·obtain⟨r,q,rfl,hr,hq⟩:=rr hf
  exact .deed _ _ (.copy r q hr hq) (by decide)
 ·obtain⟨r,q,p,rfl,hr,hq,hp⟩:=gc hf
  exact .deed _ _ (.five _ (.inl rfl) r q p hr hq hp) (by decide)
 ·obtain⟨r,q,p,rfl,hr,hq,hp⟩:=gc hf
  exact .deed _ _ (.five _ (.inr (.inl rfl)) r q p hr hq hp) (by decide)
 ·obtain⟨r,q,p,rfl,hr,hq,hp⟩:=gc hf
  exact .deed _ _ (.five _ (.inr (.inr (.inl rfl))) r q p hr hq hp) (by decide)
 ·obtain⟨r,q,p,rfl,hr,hq,hp⟩:=gc hf
  exact .deed _ _ (.five _ (.inr (.inr (.inr (.inl rfl)))) r q p hr hq hp) (by decide)
 ·obtain⟨r,q,p,rfl,hr,hq,hp⟩:=gc hf
  exact .deed _ _ (.five _ (.inr (.inr (.inr (.inr rfl)))) r q p hr hq hp) (by decide)
 ·obtain⟨r,q,p,rfl,hr,hq,hp⟩:=gc hf
  exact .deed _ _ (.pair r q p hr hq hp) (by decide)
 ·obtain⟨r,q,rfl,hr,hq⟩:=rr hf
  exact .deed _ _ (.get _ (.inl rfl) r q hr hq) (by decide)
 ·obtain⟨r,q,rfl,hr,hq⟩:=rr hf
  exact .deed _ _ (.get _ (.inr rfl) r q hr hq) (by decide)
 ·obtain⟨r,q,rfl,hr,hq⟩:=rr hf
  exact .deed _ _ (.set _ (.inl rfl) r q hr hq) (by decide)
 ·obtain⟨r,q,rfl,hr,hq⟩:=rr hf
  exact .deed _ _ (.set _ (.inr rfl) r q hr hq) (by decide)
 ·obtain⟨r,q,p,rfl,hr,hq,hp⟩:=nD hf
  exact .below r q p hr hq hp
 ·obtain⟨r,q,p,rfl,hr,hq,hp⟩:=nD hf
  exact .same r q p hr hq hp
 ·rw[show("rwt" : Str).cps.toList=[114,119,116] by decide+kernel]at hf
  obtain⟨x,y,z,rfl,h1,h2,h3⟩:=q2R hf;obtain⟨r,hr,rfl⟩:=jV h1;obtain⟨n,rfl⟩:=q5w (.inr rfl) h2;obtain⟨t,ht,rfl⟩:=q4y h3;exact .kind r t n hr ht
 ·rw[show("r" : Str).cps.toList=[114] by decide+kernel]at hf
  obtain⟨x,rfl,h1⟩:=q50 hf;obtain⟨r,hr,rfl⟩:=jV h1;exact .tell r hr
 ·rw[show("t" : Str).cps.toList=[116] by decide+kernel]at hf
  obtain⟨x,rfl,h1⟩:=q50 hf;obtain⟨t,ht,rfl⟩:=q4y h1;exact .jump t ht
 ·rw[show("" : Str).cps.toList=[] by decide+kernel]at hf
  rw[q6I hf];exact .endd
noncomputable abbrev q3F:Stmt:=top 77
theorem scPart:q00 ["bag","letter","many","some"] ["bag","letter","many"] (qd q3F):=by ac_rfl
noncomputable def q3O:List U->MM->UK->Prop:=λus M Q=>∃(k:Nat)(o:MO)(c a6:Nat),us=[.m k,.p (.str ⟨#[c]⟩),.p (.int (a6:Int))]/\M[k]?=some o/\BagO o/\okC c=true/\1<=a6/\a6<=60/\∀(t:T)(o':MO),zI c a6 t->BagO o'->Q (.p t) (M.set k o')
set_option tactic.hygienic true in
theorem Wh(F:Fun Ξ "_law_part" "_law_part" q3F f fd)(N:Nms mg)(a8:Def P w Ξ mg base "_law_draw" 1 ["bag","many"] (spU jT))(aj:Def P w Ξ mg base "_law_any_number" 2 ["bag"] (spU vG)):FnOk P w Ξ mg base CX0 3 f fd ["bag","letter","many"] (spU q3O):=by
 refine F.zV scPart (by rintro _ _ _ ⟨_,_,_,_,rfl,_⟩;rfl) (λac A outer s H E hr=>?_);refine⟨_,(qb (qP (qi q5c qv1 qc (by with_unfolding_all rfl)) (qe (qt (qo a8 (YV hr) (qa2 qv0 (Xw (q39 hr) (YT (xj qc qa (xj qc qv2 (xj qc qa YO))) rfl rfl (λz=>nomatch z) (by decide)) qv1 (λ_a _a=>rfl)))))) qx) (qb (qP (qi op_eq qv1 qc (qm _)) (qe (qt (qo aj (YV hr) (qa1 qv0)))) qx) (qb (qB (i:=3) scPart.nd rfl GL (vm (qi op_eq qv1 qc (qm _)) (qG (qa3 qc qc qc)) (qG (qa4 qc qc qc qc)))) (qe (qt (qj (GO Ξ) qv3 (qo a8 (YV hr) (qa2 qv0 (qH zt (by rfl) N.len Ql (qa1 qv3)))) (λ_a _a=>rfl))))))),_,(qy (zd (ju (jf q3z (qr 1) (by right))) (v8 (vA (ql (qr 0) (ql (Ja (GA (jv WC YX (jv WC (qr 2) (jv WC YX q2y)))) (qr 1)) qJ)))) vj) (by right)),λus M M1 Qu e1 h=>?_⟩;obtain⟨k,o,c,a6,rfl,em,B,oc,m1,m2,q⟩:=h;obtain⟨hk,eM⟩:=xr em;rw[eM]at e1;subst e1;left;have fin:∀(z:T)(o':MO)(L:List MO),BagO o'->zI c a6 z->zu M (MB M k o' L)/\Qu (.p z) (List.take (List.length M) (MB M k o' L)):=λz o' L B h1=>⟨jz B.pur,by rw[jA];exact q z o' h1 B⟩;have e3:("rtk" : Str).cps.toList=[114,116,107]:=by decide+kernel
 have sk:∀{a b:Nat},(⟨#[a]⟩:Str)=⟨#[b]⟩->a=b:=λh=>by injection h with h;injection h with h;injection h
 split
 ·rename_i hc
  rw[e3]at hc;have hi:∀i:Int,0<=i->i<bndN c a6->zI c a6 (.int i):=λi h0 h1=>⟨by rintro rfl;simp at hc,by rintro rfl;simp at hc,by rintro rfl;simp at hc,λ_a=>⟨h0,h1⟩⟩;simp only[Yd];left;refine⟨[(.inr "r",.p (.int 8)),(.inr "t",.p (.int (a6:Int))),(.inr "k",.p (.int 128))],rfl,by show 3<=15;decide,?_⟩;have r1:(⟨#[114]⟩:Str) = "r" := by decide+kernel
  have r2:(⟨#[116]⟩:Str) = "t" := by decide+kernel
  have r3:(⟨#[107]⟩:Str) = "k" := by decide+kernel
  have hv:∃n:Int,n=bndN c a6/\1<=n/\n<1000/\valU (Zn [] [(.inr "r",.p (.int 8)),(.inr "t",.p (.int (a6:Int))),(.inr "k",.p (.int 128))]) (.inr (⟨#[c]⟩:Str))=some (U.p (.int n)):=by
   simp only[Da,Dg,G9]at hc;rcases hc with rfl|rfl|rfl
   ·exact⟨8,rfl,by decide,by decide,by rw[r1];rfl⟩
   ·exact⟨(a6:Int),rfl,by lia,by lia,by rw[r2];rfl⟩
   ·exact⟨128,rfl,by decide,by decide,by rw[r3];rfl⟩
  obtain⟨n,n0,n1,n2,hv⟩:=hv;refine j7 (jB rfl) hv ?_;left;refine qE hk B (by lia) (by have:=Nat.lt_log2_self (n:=n.natAbs);exact Do (DD _) (by lia)) λd o1 d0 d1 B1=>?_;left;exact fin _ _ _ B1 (hi _ d0 (by lia))
 rename_i hc;rw[e3]at hc;have en:("n" : Str)=⟨#[110]⟩:=by decide+kernel
 have oc':c=114\/c=110\/c=107\/c=111\/c=119\/c=116:=by simpa[okC]using oc
 have cH:c≠114/\c≠116/\c≠107:=by simpa using hc
 left;rw[en];split
 ·rename_i hn
  have hn:=sk hn;refine VW hk B λn o1 mi B1=>?_;left;exact fin _ _ _ B1 ⟨by lia,by lia,λ_a=>mi,λz=>absurd hn z⟩
 rename_i hn;have hn:c≠110:=λz=>hn (by rw[z]);left;split
 ·left
  refine qE hk B (by decide) (by decide) λd o1 d0 d1 B1=>?_;left;obtain⟨t,ht,hm⟩:=Jd (xs:=([.str "none",.str "no",.str "yes"]:List T)) d0 (by simpa using d1);refine qX ht ?_;left;simp only[Da,Dg,G9]at hm;have iG:c=111:=by
   rename_i hh;exact sk (hh.trans (by decide+kernel:("o" : Str)=⟨#[111]⟩))
  rcases hm with rfl|rfl|rfl<;>exact fin _ _ _ B1 (.inl iG)
 ·left
  refine qE hk B (by decide) (by decide) λd o1 d0 d1 B1=>?_;left;obtain⟨t,ht,hm⟩:=Jd (xs:=([.str "number",.str "sign",.str "one",.str "pair"]:List T)) d0 (by simpa using d1);refine qX ht ?_;left;simp only[Da,Dg,G9]at hm;have iG:c≠111:=by
   rename_i hh;rintro rfl;exact hh (by decide+kernel)
  rcases hm with rfl|rfl|rfl|rfl<;>exact fin _ _ _ B1 (.inr (by lia))
theorem q3G(hk:k<M.length)(B:BagO o)(oc:okC c=true)(m1:1<=a6)(m2:a6<=60)(q:∀(t:T)(o':MO),zI c a6 t->BagO o'->Q (.p t) (MB M k o' L)):q3O [.m k,.p (.str ⟨#[c]⟩),.p (.int (a6:Int))] (MB M k o L) Q :=
 ⟨k,o,c,a6,rfl,ZV hk,B,oc,m1,m2,λn o' hn B'=>by rw[xh hk];exact q n o' hn B'⟩
theorem WB(q:Q (.m (M.length+L.length)) (MB M k o (L++[.dK zo]))):xf [] (MB M k o L) Q:=⟨rfl,by rw[q1Q,q1U];exact q⟩
noncomputable abbrev Xn:Stmt:=top 78
theorem q1x:q00 ["bag","word","many"] ["bag","word","many"] (qd Xn):=by ac_rfl
theorem Wu:(["bag","word","many","letter"]:List Str).Nodup:=by decide+kernel
noncomputable def XV:List U->MM->UK->Prop:=λus M Q=>∃(k:Nat)(o:MO)(w l:Str)(a6:Nat),us=[.m k,.p (.str w),.p (.int (a6:Int))]/\M[k]?=some o/\BagO o/\lettersL.lookup w=some l/\1<=a6/\a6<=60/\∀(r:List T)(o':MO),RowI a6 (.str w::r)->BagO o'->Q (.p (.tup (.str w::r))) (M.set k o')
theorem XJ(F:Fun Ξ "_law_any_row" "_law_any_row" Xn f fd)(N:Nms mg)(aV:Def P w Ξ mg base "_law_letters" 1 [] (spU xf))(dM:Def P w Ξ mg base "_law_part" 3 ["bag","letter","many"] (spU q3O)):FnOk P w Ξ mg base CX0 4 f fd ["bag","word","many"] (spU XV):=by
 refine F.zV q1x (by rintro _ _ _ ⟨_,_,_,_,_,rfl,_⟩;rfl) (λac A outer s H E hr=>?_);refine⟨_,(qe (qt (vL VQ (by rfl) N.tuple VR (qa1 (qC zE (qG (qa1 qv1)) (Ks [true,false,true] ["letter"] (q5Y (Xw (q39 hr) (kG aV (YV hr)) qv1 (λ_a _a=>rfl))) (λ_a _a _a=>(vb (i:=3) Wu rfl GL)) (λ_a _a _a=>zx) (λ_a _a _a=>(qo dM (YV hr) (qa3 qv0 qv3 qv2))))))))),_,(v8 (GC GD (ql (jf YZ (by right) (VP (q5x (Ja (vA qJ) (qr 1))) (je 3) ZK (by right))) qJ))),λus M M1 Qu e1 h=>?_⟩;obtain⟨k,o,w,l,a6,rfl,em,B,el,m1,m2,q⟩:=h;obtain⟨hk,eM⟩:=xr em;rw[eM]at e1;subst e1;have hf:=q3b el;left;refine WB ?_;left;refine j7 (jB rfl) (by rw[q0U,el];rfl) ?_;left;refine K3 (Dk (qF (by have:=hf.2;rw[DG]at this;lia))) (λi a9 M2=>∃o',BagO o'/\M2=MB M k o' [MO.dK zo]/\a9.length=i/\∀(j:Nat) c t,l.cps.toList[j]?=some c->a9[j]?=some t->zI c a6 t) ⟨o,B,rfl,rfl,λj c t _a h=>by simp at h⟩ (λi c a9 M2 hc _a h=>?_) (λa9 M2 h=>?_)
 ·obtain⟨o1,B1,rfl,hl,hp⟩:=h
  left;refine q3G hk B1 (hf.1 c (U0 hc)) m1 m2 λt o2 ht B2=>?_;left;refine⟨o2,B2,rfl,by simp[hl],λj c' t' cH dn=>?_⟩;rcases RT j a9.length with h|h
  ·rw[U1 h]at dn
   exact hp j c' t' cH dn
  ·rw[U9 h]at dn
   have:j=i:=by
    have:=(UR.mp dn).1;simp at this;lia
   subst this;rw[hc]at cH;cases cH;rw[hl,DA]at dn;cases dn;exact ht
 ·obtain⟨o1,B1,rfl,hl,hp⟩:=h
  left;have eR:=hf.2;rw[DG]at eR;refine⟨Dk (qF (by lia)),_,rfl,jz B1.pur,?_⟩;rw[jA];exact q a9 o1 (q1j el (W6 (by rw[DG];exact hl) hp)) B1
theorem q1M(h:∀ds∈rs++[x],RowI (rs++[x]).length ds)(hx:x=[.str "end"]\/∃t:Nat,x=[.str "jump",.int (t:Int)])(h0:1<=(rs++[x]).length)(h1:(rs++[x]).length<=60):ScrI (rs++[x]):=
 ⟨h,λds hd=>by
  rw[show(rs++[x]).length-1=rs.length by simp,qK]at hd;cases hd;exact hx,h0,h1⟩
theorem q2w{w l:Str}(hk:k<M.length)(B:BagO o)(el:lettersL.lookup w=some l)(m1:1<=a6)(m2:a6<=60)(q:∀(r:List T)(o':MO),RowI a6 (.str w::r)->BagO o'->Q (.p (.tup (.str w::r))) (MB M k o' L)):XV [.m k,.p (.str w),.p (.int (a6:Int))] (MB M k o L) Q :=
 ⟨k,o,w,l,a6,rfl,ZV hk,B,el,m1,m2,λn o' hn B'=>by rw[xh hk];exact q n o' hn B'⟩
noncomputable def wordsL:List Str:=lettersL.map (·.1)
theorem q1n(h0:0<=d)(h1:d<20):∃w l,atI (wordsL.map T.str) d=some (.str w)/\lettersL.lookup w=some l:=by
 obtain⟨t,ht,hm⟩:=Jd (xs:=wordsL.map T.str) h0 h1;obtain⟨w,hw,rfl⟩:=DT.mp hm;have key:∀w∈wordsL,(lettersL.lookup w).isSome=true:=by decide+kernel
 obtain⟨l,hl⟩:=RC.mp (key w hw);exact⟨w,l,ht,hl⟩
theorem q6s(h:L[i]?=some (.dK zo))(q:Q (.p (.lst (wordsL.map T.str))) (MB M k o L)):LsDS [.m (M.length+i)] (MB M k o L) Q :=
 ⟨_,_,wordsL,rfl,MB_get.trans h,by decide+kernel,q⟩
noncomputable abbrev jp:Stmt:=top 79
theorem scAnyScript:q00 ["bag","many","words","rows"] ["bag"] (qd jp):=by ac_rfl
theorem Zm:(["bag","many","words","rows","k"]:List Str).Nodup:=by decide+kernel
noncomputable def VB:List U->MM->UK->Prop:=λus M Q=>∃(k:Nat)(o:MO),us=[.m k]/\M[k]?=some o/\BagO o/\∀(rows:List (List T))(o':MO),ScrI rows->BagO o'->Q (.p (.lst (rows.map T.tup))) (M.set k o')
set_option tactic.hygienic true in
theorem Qi(F:Fun Ξ "_law_any_script" "_law_any_script" jp f fd)(N:Nms mg)(a8:Def P w Ξ mg base "_law_draw" 1 ["bag","many"] (spU jT))(aV:Def P w Ξ mg base "_law_letters" 1 [] (spU xf))(bV:Def P w Ξ mg base "_law_any_row" 4 ["bag","word","many"] (spU XV)):FnOk P w Ξ mg base CX0 5 f fd ["bag"] (spU VB):=by
 refine F.zV scAnyScript (by rintro _ _ _ ⟨_,_,rfl,_⟩;rfl) (λac A outer s H E hr=>?_);refine⟨_,(qb (qB (i:=1) scAnyScript.nd rfl (Or.inr rfl) (qj (GO Ξ) (qG (qa3 (qC vz qa (qo a8 (YV hr) (qa2 qv0 qa))) (qC vz qa (qo a8 (YV hr) (qa2 qv0 qa))) qa)) (qo a8 (YV hr) (qa2 qv0 qa)) (λ_a _a=>rfl))) (qb (qB (i:=2) scAnyScript.nd rfl (Or.inr rfl) (vL (KY rfl) (by rfl) N.list jg (qa1 (kG aV (YV hr))))) (qb (q3B (i:=3) [true,true,true,false] ["k"] scAnyScript.nd rfl rfl (vK rfl N.range (qa1 (qC jF qv1 qa))) (λ_a _a _a=>(vb (i:=4) Zm rfl GL)) (λ_a _a _a=>zx) (λ_a _a _a=>(qo bV (YV hr) (qa3 qv0 (qj (GO Ξ) qv2 (qo a8 (YV hr) (qa2 qv0 qa)) (λ_a _a=>rfl)) qv1)))) (qe (qt (qC zE qv3 (qG (qa1 (qo bV (YV hr) (qa3 qv0 (qj (GO Ξ) (qG (qa2 qc qc)) (qo a8 (YV hr) (qa2 qv0 qa)) (λ_a _a=>rfl)) qv1)))))))))),_,(qy (by right) (qy (vQ (q0p (ql (vA qJ) qJ)) (ve 2)) (by right))),λus M M1 Qu e1 h=>?_⟩;obtain⟨k,o,rfl,em,B,q⟩:=h;obtain⟨hk,eM⟩:=xr em;rw[eM]at e1;subst e1;left;refine qE hk B (by decide) (by decide) λd1 o1 iH mj B1=>?_;left;refine qE hk B1 (by decide) (by decide) λd2 o2 iD m4 B2=>?_;left;refine qE hk B2 (by decide) (by decide) λd3 o3 ml mm B3=>?_;left;obtain⟨t,ht,hm⟩:=Jd (xs:=[T.int (1+d1),T.int (1+d2),T.int 60]) ml (by simpa using mm);refine qX ht ?_;obtain⟨a6,rfl,m1,m2⟩:∃n:Nat,t=.int (n:Int)/\1<=n/\n<=60:=by
  simp only[Da,Dg,G9]at hm;rcases hm with rfl|rfl|rfl
  ·exact⟨(1+d1).toNat,by rw[Dw (by lia)],by lia,by lia⟩
  ·exact⟨(1+d2).toNat,by rw[Dw (by lia)],by lia,by lia⟩
  ·exact⟨60,rfl,by lia,by lia⟩
 left;refine WB ?_;left;refine q6s (i:=0) rfl ?_;left;refine jC (by lia) (by lia) ?_;refine kg (Dk (qF (by lia))) (λi a9 M2=>∃o' rs,BagO o'/\M2=MB M k o' [MO.dK zo]/\rs.length=i/\(∀r∈rs,RowI a6 r)/\a9=rs.map T.tup) ⟨o3, [],B3,rfl,rfl,λr h=>by simp at h,rfl⟩ ?_ ?_
 ·rintro i a9 M2 hi _ ⟨o4,rs,B4,rfl,hl,dN,rfl⟩
  left;refine qE hk B4 (by decide) (by decide) λd o5 d0 d1 B5=>?_;left;obtain⟨w,l,hw,el⟩:=q1n d0 d1;refine qX hw ?_;left;refine q2w hk B5 el m1 m2 λr o6 hr B6=>?_;left;refine⟨o6,rs++[.str w::r],B6,rfl,by simp[hl],λx hx=>?_,by simp⟩;rcases U4.mp hx with z|z
  ·exact dN x z
  ·rw[U7.mp z];exact hr
 rintro a9 M2 ⟨o4,rs,B4,rfl,hl,dN,rfl⟩;left;refine qE hk B4 (by decide) (by decide) λd o5 d0 d1 B5=>?_;left;obtain⟨t,ht,hm⟩:=Jd (xs:=([.str "end",.str "jump"]:List T)) d0 (by simpa using d1);refine qX ht ?_;obtain⟨w,l,rfl,el,iI⟩:∃w l:Str,t=.str w/\lettersL.lookup w=some l/\(w = "end" \/ w = "jump"):=by
  simp only[Da,Dg,G9]at hm;rcases hm with rfl|rfl
  ·exact⟨_,"", rfl,by decide+kernel,.inl rfl⟩
  ·exact⟨_,"t", rfl,by decide+kernel,.inr rfl⟩
 left;refine q2w hk B5 el m1 m2 λr o6 hr B6=>?_;left;refine⟨Dk (qF (by simp;lia)),jz B6.pur,?_⟩;rw[jA];have ar:(rs++[T.str w::r]).length=a6:=by simp;lia
 have h9:(T.str w::r)=[.str "end"]\/∃t:Nat,(T.str w::r)=[.str "jump",.int (t:Int)]:=by
  cases hr with
  |endd=>exact .inl rfl
  |jump t ht=>exact .inr ⟨t,rfl⟩
  |deed _ _ h hb=>rcases iI with rfl|rfl<;>cases h<;>(rename_i hw;rcases hw with e|e|e|e|e<;>exact absurd e (by decide))
  |_=>rcases iI with e|e<;>exact absurd e (by decide)
 have cK:∀ds∈rs++[T.str w::r],RowI (rs++[T.str w::r]).length ds:=λds hd=>by
  rw[ar];rcases U4.mp hd with z|z
  ·exact dN ds z
  ·rw[U7.mp z];exact hr
 have:=q (rs++[.str w::r]) o6 (q1M cK h9 (by lia) (by lia)) B6;simpa using this
theorem xi(I:UEnv->MM->Prop)(h1:∀nx:UEnv->MM->Prop,(∀aP M',I aP M'->nx aP M')->a { E with nx:=nx } ρ M)(h2:∀aP M',I aP M'->b E aP M'):uSeq a b E ρ M:=h1 _ h2
noncomputable abbrev Vg:Stmt:=top 80
theorem scBodyRow:q00 ["bag","low","many","calm","wide","r","q","p","t","n","a","b","c","d","e","kind","some"] ["bag","low","many","calm"] (qd Vg):=by ac_rfl
noncomputable def VD:List U->MM->UK->Prop:=λus M Q=>∃(k:Nat)(o:MO)(low a6:Nat)(calm:Bool),us=[.m k,.p (.int (low:Int)),.p (.int (a6:Int)),.p (.bl calm)]/\M[k]?=some o/\BagO o/\low<=10/\1<=a6/\a6<=49/\∀(ds:List T)(o':MO),RowI (low+a6+4) ds->BagO o'->Q (.p (.tup ds)) (M.set k o')
theorem Zl(F:Fun Ξ "_law_body_row" "_law_body_row" Vg f fd)(N:Nms mg)(a8:Def P w Ξ mg base "_law_draw" 1 ["bag","many"] (spU jT))(aj:Def P w Ξ mg base "_law_any_number" 2 ["bag"] (spU vG)):FnOk P w Ξ mg base CX0 3 f fd ["bag","low","many","calm"] (spU VD):=by
 refine F.zV scBodyRow (by rintro _ _ _ ⟨_,_,_,_,_,rfl,_⟩;rfl) (λac A outer s H E hr=>?_);refine⟨_,(qb (qB (i:=4) scBodyRow.nd rfl GL (vm (vJ qv3) qa qa)) (qb (YN (i:=5) (j:=6) (k:=7) rfl scBodyRow.nd rfl rfl rfl (by decide) (by decide) (by decide) rfl rfl rfl (qa3 (qo a8 (YV hr) (qa2 qv0 qv4)) (qo a8 (YV hr) (qa2 qv0 qv4)) (qo a8 (YV hr) (qa2 qv0 qv4))) rfl) (qb (qB (i:=8) scBodyRow.nd rfl GL (qC vz qv1 (qo a8 (YV hr) (qa2 qv0 (qC vz qv2 qa))))) (qb (qP (qi op_eq (qo a8 (YV hr) (qa2 qv0 qa)) qa (qm _)) (qe (qB (i:=8) scBodyRow.nd rfl GL (qo a8 (YV hr) (qa2 qv0 (qC vz (qC vz qv1 qv2) qa))))) qx) (qb (vh (vm (vJ qv3) (qu (qa3 (qC xw qv5 qa) (qC xw qv6 qa) (qC xw qv7 qa))) (qu (qa3 qv5 qv6 qv7))) (q23 (Ξ:=Ξ) (i:=9) (j:=10) (k:=11) rfl scBodyRow.nd rfl rfl rfl rfl GL GL GL GL GL GL)) (qb (vh (vm (vJ qv3) (qu (qa3 qa qa qv5)) (qu (qa3 qv6 qv5 qv6))) (q23 (Ξ:=Ξ) (i:=12) (j:=13) (k:=14) rfl scBodyRow.nd rfl rfl rfl rfl GL GL GL GL GL GL)) (qb (qB (i:=15) scBodyRow.nd rfl GL (qj (GO Ξ) (qG (qa4 qc qc qc qc)) (qo a8 (YV hr) (qa2 qv0 qa)) (λ_a _a=>rfl))) (qb (qB (i:=16) scBodyRow.nd rfl GL (qG (qa2 (qu (qa4 (qj (GO Ξ) (qG (qa4 qc qc qc qc)) (qo a8 (YV hr) (qa2 qv0 qa)) (λ_a _a=>rfl)) (qv 9) (qv 10) qv11)) (qu (qa3 qc (qv 9) (qo aj (YV hr) (qa1 qv0))))))) (qb (qB (i:=16) scBodyRow.nd rfl GL (qC zE (qv 16) (qG (qa_c (qu (qa4 qc (qv 12) qv5 qv6)) (qa4 (qu (qa3 qc (qv 12) qv5)) (qu (qa3 qc (qv 12) qv7)) (qu (qa3 qc (qv 13) (qv 12))) (qu (qa3 qc (qv 13) (qv 12)))))))) (qb (qB (i:=16) scBodyRow.nd rfl GL (qC zE (qv 16) (qG (qa_c (qu (qa3 qc (qv 13) (qv 14))) (qa4 (qu (qa2 qc qv5)) (qu (qa4 qc (qv 10) qv11 (qv 8))) (qu (qa4 qc qv5 qv7 (qv 8))) (qu (qa4 qc (qv 13) (qv 15) (qv 8)))))))) (qb (qB (i:=16) scBodyRow.nd rfl GL (qC zE (qv 16) (qG (qa2 (qu (qa3 qc (qv 13) (qo a8 (YV hr) (qa2 qv0 qa)))) (qu (qa3 qc (qv 13) (qj (GO Ξ) (qG (qa3 qc qc qc)) (qo a8 (YV hr) (qa2 qv0 qa)) (λ_a _a=>rfl)))))))) (qb (qB (i:=16) scBodyRow.nd rfl GL (qC zE (qv 16) (qG (qa2 (qu (qa4 (qj (GO Ξ) (qG (qa2 qc qc)) (qo a8 (YV hr) (qa2 qv0 qa)) (λ_a _a=>rfl)) (qv 9) (qv 10) qv11)) (qu (qa2 qc (qv 8))))))) (qb (qP (qi op_eq (qo a8 (YV hr) (qa2 qv0 qa)) qa (qm _)) (qe (qt (qu (qa1 qc)))) qx) (qe (qt (qj (GO Ξ) (qv 16) (qj (GO Ξ) (qG (qa_c qa (qa_c qa (qa_c qa (qa_c qa (qa_c qa (qa_c qa (qa_c qa (qa_c qa (qa_c qa (qa_c qa (qa_c qa (qa_c qa (qa_c qa (qa_c qa (qa_c qa (qa_c qa (qa_c qa (qa_c qa (qa_c qa (qa_c qa (qa4 qa qa qa qa)))))))))))))))))))))) (qo a8 (YV hr) (qa2 qv0 qa)) (λ_a _a=>rfl)) (λ_a _a=>rfl))))))))))))))))),_,(qy (vQ (q5t (ct_b (qr 3)) (.int _) (.int _)) (ve 4)) (qy (Gp (ql (vA (ql (qr 0) (ql (qr 4) qJ))) (ql (vA (ql (qr 0) (ql (qr 4) qJ))) (ql (vA (ql (qr 0) (ql (qr 4) qJ))) qJ)))) (by right))),λus M M1 Qu e1 h=>?_⟩;obtain⟨k,o,low,a6,calm,rfl,em,B,hlow,m1,m2,q⟩:=h;obtain⟨hk,eM⟩:=xr em;rw[eM]at e1;subst e1;have fin:∀(z:List T)(o':MO)(L:List MO),BagO o'->RowI (low+a6+4) z->zu M (MB M k o' L)/\Qu (.p (.tup z)) (List.take (List.length M) (MB M k o' L)):=λz o' L B h1=>⟨jz B.pur,by rw[jA];exact q z o' h1 B⟩;left;obtain⟨wd,iI,w0,w8⟩:∃wd:Int,(if calm=true then 5 else 8)=wd/\0<wd/\wd<=8:=by cases calm<;>exact⟨_,rfl,by decide,by decide⟩
 have wl:wd.natAbs.log2<9000:=Do (DD _) (by lia);rw[iI];refine qE hk B w0 wl λr o1 r0 r1 B1=>?_;obtain⟨r,rfl⟩:∃j:Nat,r=(j:Int):=⟨r.toNat,by lia⟩;refine qE hk B1 w0 wl λqq o2 q0 q1 B2=>?_;obtain⟨qq,rfl⟩:∃j:Nat,qq=(j:Int):=⟨qq.toNat,by lia⟩;refine qE hk B2 w0 wl λp o3 p0 p1 B3=>?_;obtain⟨p,rfl⟩:∃j:Nat,p=(j:Int):=⟨p.toNat,by lia⟩;have aW:r<8:=by lia
 have dX:qq<8:=by lia
 have fP:p<8:=by lia
 refine useq ?_;walk_at "vs";refine qE hk B3 (by lia) (Do (DD _) (by lia)) λtd o4 t0 t1 B4=>?_;walk_at "vs";refine xi (λaP M'=>∃(tt:Nat)(o':MO),tt<low+a6+1/\BagO o'/\M'=MB M k o' []/\aP=[some (.m k),some (.p (.int (low:Int))),some (.p (.int (a6:Int))),some (.p (.bl calm)),some (.p (.int wd)),some (.p (.int (r:Int))),some (.p (.int (qq:Int))),some (.p (.int (p:Int))),some (.p (.int (tt:Int))),none,none,none,none,none,none,none,none]) (λnx cG=>?_) (λaP M' hI=>?_)
 ·symm
  refine qE hk B4 (by decide) (by decide) λd5 o5 m6 m7 B5=>?_;symm;refine ite2 (λh5=>?_) (λh5=>?_)
  ·refine qE hk B5 (by lia) (Do (DD _) (by lia)) λd6 o6 hG iJ B6=>?_
   symm;exact cG _ _ ⟨d6.toNat,o6,by lia,B6,rfl,by rw[Dw hG]⟩
  ·symm
   exact cG _ _ ⟨(low+td).toNat,o5,by lia,B5,rfl,by rw[Dw (by lia)]⟩
 obtain⟨tt,o5,htt,B5,rfl,rfl⟩:=hI;refine xi (λaP M'=>∃(n a b:Nat),n<8/\a<8/\b<8/\M'=MB M k o5 []/\aP=[some (.m k),some (.p (.int (low:Int))),some (.p (.int (a6:Int))),some (.p (.bl calm)),some (.p (.int wd)),some (.p (.int (r:Int))),some (.p (.int (qq:Int))),some (.p (.int (p:Int))),some (.p (.int (tt:Int))),some (.p (.int (n:Int))),some (.p (.int (a:Int))),some (.p (.int (b:Int))),none,none,none,none,none]) (λnx cG=>?_) (λaP M' hI=>?_)
 ·cases calm with
  |true=>
   left;exact⟨by decide,by decide,by decide,cG _ _ ⟨r % 3,qq % 3,p % 3,by lia,by lia,by lia,rfl,rfl⟩⟩
  |false=>
   left;exact cG _ _ ⟨r,qq,p,aW,dX,fP,rfl,rfl⟩
 obtain⟨n,a,b,mq,mv,mw,rfl,rfl⟩:=hI;refine xi (λaP M'=>∃(c d e:Nat),c<8/\d<8/\e<8/\M'=MB M k o5 []/\aP=[some (.m k),some (.p (.int (low:Int))),some (.p (.int (a6:Int))),some (.p (.bl calm)),some (.p (.int wd)),some (.p (.int (r:Int))),some (.p (.int (qq:Int))),some (.p (.int (p:Int))),some (.p (.int (tt:Int))),some (.p (.int (n:Int))),some (.p (.int (a:Int))),some (.p (.int (b:Int))),some (.p (.int (c:Int))),some (.p (.int (d:Int))),some (.p (.int (e:Int))),none,none]) (λnx cG=>?_) (λaP M' hI=>?_)
 ·cases calm with
  |true=>
   left;exact cG _ _ ⟨3,4,r,by decide,by decide,aW,rfl,rfl⟩
  |false=>
   left;exact cG _ _ ⟨qq,r,qq,dX,aW,dX,rfl,rfl⟩
 obtain⟨c,d,e,hR,ge,rF,rfl,rfl⟩:=hI;symm;refine qE hk B5 (by decide) (by decide) λd6 o6 hG iJ B6=>?_;obtain⟨kd,dS⟩:∃kd:Str,atI [T.str "number", T.str "sign", T.str "one", T.str "pair"] d6=some (.str kd):=by
  rcases(show d6=0\/d6=1\/d6=2\/d6=3 by lia)with rfl|rfl|rfl|rfl<;>exact⟨_,rfl⟩
 refine qX dS ?_;symm;refine qE hk B6 (by decide) (by decide) λd7 o7 rG rH B7=>?_;obtain⟨w1,rJ,hV⟩:∃w1:Str,atI [T.str "plus", T.str "less", T.str "times", T.str "less"] d7=some (.str w1)/\five w1:=by
  rcases(show d7=0\/d7=1\/d7=2\/d7=3 by lia)with rfl|rfl|rfl|rfl
  ·exact⟨_,rfl,.inl rfl⟩
  ·exact⟨_,rfl,.inr (.inl rfl)⟩
  ·exact⟨_,rfl,.inr (.inr (.inl rfl))⟩
  ·exact⟨_,rfl,.inr (.inl rfl)⟩
 refine qX rJ ?_;symm;refine VW hk B7 λz o8 hz B8=>?_;symm;refine⟨by show 2+5<=sizeLine;decide,?_⟩;symm;refine⟨by show 7+5<=sizeLine;decide,?_⟩;symm;refine qE hk B8 (by decide) (by decide) λd9 o9 rK rL B9=>?_;symm;refine qE hk B9 (by decide) (by decide) λda oa da0 da1 Ba=>?_;obtain⟨w3,rM⟩:∃w3:Str,atI [T.str "none", T.str "no", T.str "yes"] da=some (.str w3):=by
  rcases(show da=0\/da=1\/da=2 by lia)with rfl|rfl|rfl<;>exact⟨_,rfl⟩
 refine qX rM ?_;symm;refine⟨by show 12+2<=sizeLine;decide,?_⟩;symm;refine qE hk Ba (by decide) (by decide) λdb ob db0 db1 Bb=>?_;obtain⟨w2,rN,eR⟩:∃w2:Str,atI [T.str "over", T.str "rest"] db=some (.str w2)/\five w2:=by
  rcases(show db=0\/db=1 by lia)with rfl|rfl
  ·exact⟨_,rfl,.inr (.inr (.inr (.inl rfl)))⟩
  ·exact⟨_,rfl,.inr (.inr (.inr (.inr rfl)))⟩
 refine qX rN ?_;symm;refine⟨by show 14+2<=sizeLine;decide,?_⟩;symm;refine qE hk Bb (by decide) (by decide) λdc oc dc0 dc1 Bc=>?_;symm;refine ite2 (λff=>?_) (λff=>?_)
 ·symm
  exact fin _ _ _ Bc .endd
 symm;refine qE hk Bc (by decide) (by decide) λdd od rO rP Bd=>?_;have rQ:w1 ≠ "below" := by rcases hV with rfl|rfl|rfl|rfl|rfl<;>decide
 have l8:w2 ≠ "below" := by rcases eR with rfl|rfl|rfl|rfl|rfl<;>decide
 obtain⟨t1,mx,nE⟩:=Jd (xs:=[T.int 0,T.int 0,T.int 0,T.int 0,T.int 1,T.int 1,T.int 2,T.int 2,T.int 2,T.int 3,T.int 4,T.int 5,T.int 6,T.int 7,T.int 8,T.int 8,T.int 8,T.int 9,T.int 10,T.int 11,T.int 12,T.int 13,T.int 14,T.int 15]) rO (by simpa using rP);refine qX mx ?_;obtain⟨ix,rfl,i0,rR⟩:∃ix:Int,t1=.int ix/\0<=ix/\ix<16:=by
  simp only[Da,Dg,G9]at nE;rcases nE with rfl|rfl|rfl|rfl|rfl|rfl|rfl|rfl|rfl|rfl|rfl|rfl|rfl|rfl|rfl|rfl|rfl|rfl|rfl|rfl|rfl|rfl|rfl|rfl<;>exact⟨_,rfl,by decide,by decide⟩
 obtain⟨t2,iK,ip⟩:=Jd (xs:=[T.tup [T.str w1,T.int (n:Int),T.int (a:Int),T.int (b:Int)],T.tup [T.str "number", T.int (n:Int),T.int z],T.tup [T.str "pair", T.int (c:Int),T.int (r:Int),T.int (qq:Int)],T.tup [T.str "set_first", T.int (c:Int),T.int (r:Int)],T.tup [T.str "set_second", T.int (c:Int),T.int (p:Int)],T.tup [T.str "first", T.int (d:Int),T.int (c:Int)],T.tup [T.str "second", T.int (d:Int),T.int (c:Int)],T.tup [T.str "copy", T.int (d:Int),T.int (e:Int)],T.tup [T.str "tell", T.int (r:Int)],T.tup [T.str "below", T.int (a:Int),T.int (b:Int),T.int (tt:Int)],T.tup [T.str "same", T.int (r:Int),T.int (p:Int),T.int (tt:Int)],T.tup [T.str "kind", T.int (d:Int),T.str kd,T.int (tt:Int)],T.tup [T.str "sign", T.int (d:Int),T.int d9],T.tup [T.str "one", T.int (d:Int),T.str w3],T.tup [T.str w2,T.int (n:Int),T.int (a:Int),T.int (b:Int)],T.tup [T.str "jump", T.int (tt:Int)]]) i0 (by simpa using rR);refine qX iK ?_;obtain⟨ds,rfl,dP⟩:∃ds:List T,t2=.tup ds/\RowI (low+a6+4) ds:=by
  simp only[Da,Dg,G9]at ip;rcases ip with rfl|rfl|rfl|rfl|rfl|rfl|rfl|rfl|rfl|rfl|rfl|rfl|rfl|rfl|rfl|rfl
  ·exact⟨_,rfl,.deed _ _ (.five _ hV n a b mq mv mw) rQ⟩
  ·exact⟨_,rfl,.deed _ _ (.num n z mq hz) (by decide)⟩
  ·exact⟨_,rfl,.deed _ _ (.pair c r qq hR aW dX) (by decide)⟩
  ·exact⟨_,rfl,.deed _ _ (.set _ (.inl rfl) c r hR aW) (by decide)⟩
  ·exact⟨_,rfl,.deed _ _ (.set _ (.inr rfl) c p hR fP) (by decide)⟩
  ·exact⟨_,rfl,.deed _ _ (.get _ (.inl rfl) d c ge hR) (by decide)⟩
  ·exact⟨_,rfl,.deed _ _ (.get _ (.inr rfl) d c ge hR) (by decide)⟩
  ·exact⟨_,rfl,.deed _ _ (.copy d e ge rF) (by decide)⟩
  ·exact⟨_,rfl,.tell r aW⟩
  ·exact⟨_,rfl,.below a b tt mv mw (by lia)⟩
  ·exact⟨_,rfl,.same r p tt aW fP (by lia)⟩
  ·exact⟨_,rfl,.kind d tt kd ge (by lia)⟩
  ·exact⟨_,rfl,.deed _ _ (.sgn d d9 ge) (by decide)⟩
  ·exact⟨_,rfl,.deed _ _ (.one d w3 ge) (by decide)⟩
  ·exact⟨_,rfl,.deed _ _ (.five _ eR n a b mq mv mw) l8⟩
  ·exact⟨_,rfl,.jump tt (by lia)⟩
 symm;exact fin _ _ _ Bd dP
theorem q3t(hk:k<M.length)(B:BagO o)(h1:low<=10)(m1:1<=a6)(m2:a6<=49)(q:∀(r:List T)(o':MO),RowI (low+a6+4) r->BagO o'->Q (.p (.tup r)) (MB M k o' L)):VD [.m k,.p (.int (low:Int)),.p (.int (a6:Int)),.p (.bl calm)] (MB M k o L) Q :=
 ⟨k,o,low,a6,calm,rfl,ZV hk,B,h1,m1,m2,λn o' hn B'=>by rw[xh hk];exact q n o' hn B'⟩
theorem q3y{rows:List (List T)}{lo hi:Option Int}:∃cA:List (List T),cutT (rows.map T.tup) lo hi=cA.map T.tup/\cA.length<=rows.length/\∀ds∈cA,ds∈rows :=
 ⟨_,by unfold cutT;rw[<-List.map_drop, <-List.map_take],by simp only[DC,DY];lia,λds h=>List.mem_of_mem_drop (List.mem_of_mem_take h)⟩
noncomputable abbrev xE:Stmt:=top 81
theorem scLongScript:q00 ["bag","count","rows","low","many","calm"] ["bag"] (qd xE):=by ac_rfl
theorem xW:(["bag","count","rows","low","many","calm","k"]:List Str).Nodup:=by decide+kernel
theorem kM(F:Fun Ξ "_law_long_script" "_law_long_script" xE f fd)(N:Nms mg)(a8:Def P w Ξ mg base "_law_draw" 1 ["bag","many"] (spU jT))(aj:Def P w Ξ mg base "_law_any_number" 2 ["bag"] (spU vG))(c4:Def P w Ξ mg base "_law_body_row" 3 ["bag","low","many","calm"] (spU VD)):FnOk P w Ξ mg base CX0 4 f fd ["bag"] (spU VB):=by
 refine F.zV scLongScript (by rintro _ _ _ ⟨_,_,rfl,_⟩;rfl) (λac A outer s H E hr=>?_);refine⟨_,(qb (qB (i:=1) scLongScript.nd rfl GL (qC vz qa (qo a8 (YV hr) (qa2 qv0 (qj (GO Ξ) (qG (qa2 qa qa)) (qo a8 (YV hr) (qa2 qv0 qa)) (λ_a _a=>rfl)))))) (qb (qB (i:=2) scLongScript.nd rfl GL (qG (qa3 (qu (qa3 qc qa qv1)) (qu (qa3 qc qa qa)) (qu (qa3 qc qa qa))))) (qb (qB (i:=2) scLongScript.nd rfl GL (qC zE (qC zE qv2 (Ks [true,false,false,false,false,false] ["k"] (vK rfl N.range (qa1 qa)) (λ_a _a _a=>(vb (i:=6) xW rfl GL)) (λ_a _a _a=>zx) (λ_a _a _a=>(qu (qa3 qc qv6 (qo aj (YV hr) (qa1 qv0))))))) (qG (qa1 (qu (qa4 qc qa qa (qo a8 (YV hr) (qa2 qv0 qa)))))))) (qb (qB (i:=2) scLongScript.nd rfl GL (zy (Q4 (Ξ:=Ξ) rfl) qv2 (xG (qC kI (qo a8 (YV hr) (qa2 qv0 qa)) (vL Qc (by rfl) N.int VS (qa1 (vF op_eq (qo a8 (YV hr) (qa2 qv0 qa)) qa (qm _)))))) xH)) (qb (qB (i:=3) scLongScript.nd rfl (Or.inr rfl) (qH zt (by rfl) N.len Ql (qa1 qv2))) (qb (qB (i:=4) scLongScript.nd rfl (Or.inr rfl) (qC vz qa (qo a8 (YV hr) (qa2 qv0 (qj (GO Ξ) (qG (qa2 qa qa)) (qC Vp (qo a8 (YV hr) (qa2 qv0 qa)) qa) (λ_a _a=>rfl)))))) (qb (qB (i:=5) scLongScript.nd rfl (Or.inr rfl) (vF q6Z (qo a8 (YV hr) (qa2 qv0 qa)) qa (qm _))) (qb (qB (i:=2) scLongScript.nd rfl GL (qC zE qv2 (Ks [true,false,false,true,true,true] ["k"] (vK rfl N.range (qa1 qv4)) (λ_a _a _a=>(vb (i:=6) xW rfl GL)) (λ_a _a _a=>zx) (λ_a _a _a=>(qo c4 (YV hr) (qa4 qv0 qv3 qv4 qv5)))))) (qb (qB (i:=2) scLongScript.nd rfl GL (qC zE qv2 (qG (qa3 (qu (qa4 qc qa qa qa)) (qu (qa4 qc qa qa qv3)) (qu (qa2 qc (qo a8 (YV hr) (qa2 qv0 qa)))))))) (qe (qt (qC zE qv2 (qG (qa1 (qj (GO Ξ) (qG (qa3 (qu (qa1 qc)) (qu (qa1 qc)) (qu (qa2 qc (qo a8 (YV hr) (qa2 qv0 (qC vz (qH zt (by rfl) N.len Ql (qa1 qv2)) qa))))))) (qo a8 (YV hr) (qa2 qv0 qa)) (λ_a _a=>rfl)))))))))))))))),_,(qy (by right) (qy (by right) (qy (by right) (qy (vQ (q6G (qr 2) (Gs (jf (by right) (by right) (GC Jc (by right)))) Gu) (ve 2)) (by right))))),λus M M1 Qu e1 h=>?_⟩;obtain⟨k,o,rfl,em,B,q⟩:=h;obtain⟨hk,eM⟩:=xr em;rw[eM]at e1;subst e1;left;refine qE hk B (by decide) (by decide) λd1 o1 iH mj B1=>?_;left;obtain⟨c1,iG,rS,c11⟩:∃c1:Int,atI [T.int 3,T.int 40] d1=some (.int c1)/\0<c1/\c1<=40:=by
  rcases(show d1=0\/d1=1 by lia)with rfl|rfl<;>exact⟨_,rfl,by decide,by decide⟩
 refine qX iG ?_;left;refine qE hk B1 rS (Do (DD _) (by lia)) λct o2 ct0 ct1 B2=>?_;left;refine jC (by decide) (by decide) ?_;refine kg (m:=3) (by decide) (λi a9 M2=>∃o' rs,BagO o'/\M2=MB M k o' []/\rs.length=i/\(∀ds∈rs,∀N,RowI N ds)/\a9=rs.map T.tup) ⟨o2, [],B2,rfl,rfl,λds h=>by simp at h,rfl⟩ ?_ ?_
 ·rintro i a9 M2 hi _ ⟨o3,rs,B3,rfl,hl,dN,rfl⟩
  have hi:i<3:=hi;left;refine VW hk B3 λz o4 hz B4=>?_;left;refine⟨o4,rs++[[.str "number",.int (i:Int),.int z]],B4,rfl,by simp[hl],λds hd N=>?_,by simp⟩;rcases U4.mp hd with h|h
  ·exact dN ds h N
  ·rw[U7.mp h];exact .deed _ _ (.num i z (by lia) hz) (by decide)
 rintro a9 M2 ⟨o3,rs,B3,rfl,hl,dN,rfl⟩;left;refine⟨Dk (qF (by rw[UY];lia)),?_⟩;refine qE hk B3 (by decide) (by decide) λpp o4 pp0 pp1 B4=>?_;obtain⟨pp,rfl⟩:∃j:Nat,pp=(j:Int):=⟨pp.toNat,by lia⟩;left;refine⟨Dk (qF (by rw[UY];lia)),?_⟩;have my:∀z:Int,0<=z->z<=1000->Bt 300 z:=λz h0 h1=>Bt.small (by lia) (by lia) (by decide);obtain⟨cB,rT,rV,hl0⟩:∃cB:List (List T),T.tup [.str "number",.int 7,.int (1+ct)]::T.tup [.str "number",.int 6,.int 1]::T.tup [.str "number",.int 5,.int 0]::(rs.map T.tup++[T.tup [.str "pair",.int 3,.int 0,.int (pp:Int)]])=cB.map T.tup/\(∀ds∈cB,∀N,RowI N ds)/\cB.length=7:=by
  refine⟨[[.str "number",.int 7,.int (1+ct)], [.str "number",.int 6,.int 1], [.str "number",.int 5,.int 0]]++rs++[[.str "pair",.int 3,.int 0,.int (pp:Int)]],by simp,λds hd N=>?_,by simp[hl]⟩;rcases U4.mp hd with hd|hd
  ·rcases U4.mp hd with hd|hd
   ·simp only[Da,Dg,G9]at hd
    rcases hd with rfl|rfl|rfl
    ·exact .deed _ _ (.num 7 _ (by decide) (my _ (by lia) (by lia))) (by decide)
    ·exact .deed _ _ (.num 6 _ (by decide) (my _ (by decide) (by decide))) (by decide)
    ·exact .deed _ _ (.num 5 _ (by decide) (my _ (by decide) (by decide))) (by decide)
   ·exact dN ds hd N
  ·rw[U7.mp hd]
   exact .deed _ _ (.pair 3 0 pp (by decide) (by decide) (by lia)) (by decide)
 refine xi (λaP M'=>∃(o':MO)(rows:List (List T)),BagO o'/\M'=MB M k o' []/\rows.length<=7/\(∀ds∈rows,∀N,RowI N ds)/\aP=[some (.m k),some (.p (.int (1+ct))),some (.p (.lst (rows.map T.tup))),none,none,none]) (λnx cG=>?_) (λaP M' hI=>?_)
 ·symm
  rw[rT];refine qE hk B4 (by decide) (by decide) λd5 o5 m6 m7 B5=>?_;refine qE hk B5 (by decide) (by decide) λd6 o6 hG iJ B6=>?_;symm;refine⟨.inl ⟨by lia,by lia⟩,?_⟩;symm;obtain⟨cA,er,mG,lu⟩:=q3y (rows:=cB) (lo:=some (d5*if d6=5 then 1 else 0)) (hi:=none);rw[er];exact cG _ _ ⟨o6,cA,B6,rfl,by lia,λds hd N=>rV ds (lu ds hd) N,rfl⟩
 obtain⟨o5,rows,B5,rfl,hrl,rW,rfl⟩:=hI;symm;refine qE hk B5 (by decide) (by decide) λd6 o6 hG iJ B6=>?_;symm;refine⟨⟨by decide,by decide⟩,?_⟩;obtain⟨c2,fW,rX,c21⟩:∃c2:Int,atI [T.int 24,T.int 49] (d6 / 2)=some (.int c2)/\0<c2/\c2<=49:=by
  rcases(show d6 / 2=0\/d6 / 2=1 by lia)with e|e<;>rw[e]<;>exact⟨_,rfl,by decide,by decide⟩
 refine qX fW ?_;refine qE hk B6 rX (Do (DD _) (by lia)) λd7 o7 rG rH B7=>?_;symm;refine qE hk B7 (by decide) (by decide) λd8 o8 d80 d81 B8=>?_;symm;rw[UY];obtain⟨a6,hX⟩:∃a6:Nat,1+d7=(a6:Int):=⟨(1+d7).toNat,by lia⟩;rw[hX];refine jC (by lia) (by lia) ?_;refine kg (m:=a6) (Dk (qF (by lia))) (λi a9 M2=>∃o' rs,BagO o'/\M2=MB M k o' []/\rs.length=i/\(∀ds∈rs,RowI (rows.length+a6+4) ds)/\a9=rs.map T.tup) ⟨o8, [],B8,rfl,rfl,λds h=>by simp at h,rfl⟩ ?_ ?_
 ·rintro i a9 M2 hi _ ⟨o9,rs,B9,rfl,hl,dN,rfl⟩
  symm;refine q3t hk B9 (by lia) (by lia) (by lia) λds oa dP Ba=>?_;symm;refine⟨oa,rs++[ds],Ba,rfl,by simp[hl],λx hx=>?_,by simp⟩;rcases U4.mp hx with h|h
  ·exact dN x h
  ·rw[U7.mp h];exact dP
 rintro a9 M2 ⟨o9,rs,B9,rfl,hl,dN,rfl⟩;have hl:rs.length=a6:=hl;symm;refine⟨Dk (qF (by rw[UY,UY];lia)),?_⟩;symm;refine qE hk B9 (by decide) (by decide) λq8 oa q80 q81 Ba=>?_;obtain⟨q8,rfl⟩:∃j:Nat,q8=(j:Int):=⟨q8.toNat,by lia⟩;symm;refine⟨Dk (qF (by simp only[UV,UY,U8,Dz];lia)),?_⟩;symm;obtain⟨cc,hA,nF,rY⟩:∃cc:List (List T),rows.map T.tup++rs.map T.tup++[T.tup [.str "less",.int 7,.int 7,.int 6],T.tup [.str "below",.int 5,.int 7,.int (rows.length:Int)],T.tup [.str "tell",.int (q8:Int)]]=cc.map T.tup/\cc.length=rows.length+a6+3/\∀ds∈cc,RowI (rows.length+a6+4) ds:=by
  refine⟨rows++rs++[[.str "less",.int 7,.int 7,.int 6], [.str "below",.int 5,.int 7,.int (rows.length:Int)], [.str "tell",.int (q8:Int)]],by simp,by simp[hl];lia,λds hd=>?_⟩;rcases U4.mp hd with hd|hd
  ·rcases U4.mp hd with hd|hd
   ·exact rW ds hd _
   ·exact dN ds hd
  ·simp only[Da,Dg,G9]at hd
   rcases hd with rfl|rfl|rfl
   ·exact .deed _ _ (.five _ (.inr (.inl rfl)) 7 7 6 (by decide) (by decide) (by decide)) (by decide)
   ·exact .below 5 7 rows.length (by decide) (by decide) (by lia)
   ·exact .tell q8 (by lia)
 rw[hA,UY,nF];refine qE hk Ba (by lia) (Do (DD _) (by lia)) λtj ob tj0 tj1 Bb=>?_;obtain⟨tj,rfl⟩:∃j:Nat,tj=(j:Int):=⟨tj.toNat,by lia⟩;symm;refine qE hk Bb (by decide) (by decide) λd9 oc rK rL Bc=>?_;obtain⟨x,hx,rZ,sd⟩:∃x:List T,atI [T.tup [T.str "end"],T.tup [T.str "end"],T.tup [T.str "jump", T.int (tj:Int)]] d9=some (.tup x)/\(x=[.str "end"]\/∃t:Nat,x=[.str "jump",.int (t:Int)])/\RowI (rows.length+a6+4) x:=by
  rcases(show d9=0\/d9=1\/d9=2 by lia)with rfl|rfl|rfl
  ·exact⟨_,rfl,.inl rfl,.endd⟩
  ·exact⟨_,rfl,.inl rfl,.endd⟩
  ·exact⟨_,rfl,.inr ⟨tj,rfl⟩,.jump tj (by lia)⟩
 refine qX hx ?_;symm;refine⟨Dk (qF (by lia)),jz Bc.pur,?_⟩;rw[jA];have ar:(cc++[x]).length=rows.length+a6+4:=by rw[UV,nF];rfl
 have:=q (cc++[x]) oc (q1M (λds hd=>by
  rw[ar];rcases U4.mp hd with z|z
  ·exact rY ds z
  ·rw[U7.mp z];exact sd) rZ (by lia) (by lia)) Bc
 simpa using this
local macro_rules|`(tactic|walk_at "vx")=>`(tactic|simp only[zl,jj,jM,zB,vZ,uTry,zC,zi,jO,jP,endX,zY,QV,uX0,jN,xP,xO,xt])
local macro_rules|`(tactic|walk_at "pk")=>`(tactic|(walk_at "v"; repeat ((first|walk_at "vx" |refine qL (by decide) ?_|refine qO rfl ?_|refine qQ false rfl rfl rfl (by decide) ?_|refine qQ true rfl rfl rfl (by decide) ?_); walk_at "v")))
noncomputable def repl(ds:List T):List T:=match ds with
 |.str w::r=>if w = "times" then .str "plus" :: r else ds
 |_=>ds
theorem kz{w:Str}(h:w ≠ "times"):repl (.str w::r)=.str w::r:=GZ h
theorem Vh:repl (.str "times" :: r)=.str "plus" :: r:=by
 show(if("times" : Str) = "times" then T.str "plus" :: r else T.str "times" :: r)=_;rw[G4 rfl]
theorem RowI.head(h:RowI n ds):∃w r,ds=.str w::r/\(w = "times" -> ∃r' q p:Nat,r'<8/\q<8/\p<8/\r=[.int (r':Int),.int (q:Int),.int (p:Int)]):=by
 cases h with
 |deed w r h hw=>
  refine⟨w,r,rfl,λe=>?_⟩;subst e;cases h with
  |five _ hw r' q p h1 h2 h3=>exact⟨r',q,p,h1,h2,h3,rfl⟩
  |get _ hw=>exact absurd hw (by decide)
  |set _ hw=>exact absurd hw (by decide)
 |_=>exact⟨_,_,rfl,λe=>absurd e (by decide)⟩
theorem RowI.repl{n:Nat}{ds:List T}(h:RowI n ds):RowI n (repl ds)/\∀r,repl ds ≠ .str "times" :: r:=by
 obtain⟨w,r,rfl,ht⟩:=h.head;by_cases hw:w = "times"
 ·subst hw
  obtain⟨r',q,p,h1,h2,h3,rfl⟩:=ht rfl;rw[Vh];exact⟨.deed _ _ (.five _ (.inl rfl) r' q p h1 h2 h3) (by decide),λr=>Qk (by decide)⟩
 ·rw[kz hw]
  exact⟨h,λr=>Qk hw⟩
theorem ScrI.repl{rows:List (List T)}(S:ScrI rows):ScrI (rows.map repl)/\∀ds∈rows.map Mw.repl,∀r,ds ≠ .str "times" :: r:=by
 refine⟨⟨λds hd=>?_,λds hd=>?_,by rw[UY];exact S.n0,by rw[UY];exact S.n1⟩,λds hd r=>?_⟩
 ·obtain⟨x,hx,rfl⟩:=DT.mp hd
  rw[UY];exact(S.r x hx).repl.1
 ·rw[UY,Dh]at hd
  cases hx:rows[rows.length-1]? with
  |none=>rw[hx]at hd;cases hd
  |some x=>
   rw[hx]at hd;cases hd;rcases S.l x hx with rfl|⟨t,rfl⟩
   ·exact .inl (kz (by decide))
   ·exact .inr ⟨t,kz (by decide)⟩
 ·obtain⟨x,hx,rfl⟩:=DT.mp hd
  exact(S.r x hx).repl.2 r
noncomputable abbrev xA:Stmt:=top 91
theorem scSomeScript:q00 ["bag","most","some"] ["bag","most"] (qd xA):=by ac_rfl
theorem Vu:(["bag","most","some","row"]:List Str).Nodup:=by decide+kernel
noncomputable def kY:List U->MM->UK->Prop:=λus M Q=>∃(k:Nat)(o:MO)(n:Nat),us=[.m k,.p (.int (n:Int))]/\M[k]?=some o/\BagO o/\n<=400/\∀(rows:List (List T))(M':MM)(o':MO),BagO o'->M'[k]?=some o'->(∀i,i<M.length->i≠k->M'[i]?=M[i]?)->M.length<=M'.length->ScrI rows->(∃e ns ay au,Walk rows False n wsN [] 0 e ns ay au)->Q (.p (.lst (rows.map T.tup))) M'
theorem kJ(F:Fun Ξ "_law_some_script" "_law_some_script" xA f fd)(N:Nms mg)(a8:Def P w Ξ mg base "_law_draw" 1 ["bag","many"] (spU jT))(bG:Def P w Ξ mg base "_law_any_script" 5 ["bag"] (spU VB))(bg:Def P w Ξ mg base "_law_long_script" 4 ["bag"] (spU VB))(b8:Def P w Ξ mg base "_law_fresh" 1 [] (spU Zx))(bB:Def P w Ξ mg base "_law_walk" 6 ["own","script","most"] (spU q1t)):FnOk P w Ξ mg base CX0 7 f fd ["bag","most"] (spU kY):=by
 refine F.zU scSomeScript (by rintro _ _ _ ⟨_,_,_,rfl,_⟩;rfl) (λac A outer s H E hr=>?_);refine⟨_,(qb (qB (i:=2) scSomeScript.nd rfl GL (vm (qi op_eq (qo a8 (YV hr) (qa2 qv0 qa)) qa (qm _)) (qo bG (YV hr) (qa1 qv0)) (qo bg (YV hr) (qa1 qv0)))) (qb (qP (qi op_eq (qj (GQ Ξ) (qj (GQ Ξ) (qo bB (YV hr) (qa3 (kG b8 (YV hr)) qv2 qv1)) qa (λ_a _a=>rfl)) qa (λ_a _a=>rfl)) qc (qm _)) (qe (q3B (i:=2) [false,false,false] ["row"] scSomeScript.nd rfl rfl (v9 (Ξ:=Ξ) rfl qv2) (λ_a _a _a=>(vb (i:=3) Vu rfl GL)) (λ_a _a _a=>zx) (λ_a _a _a=>(vm (qi op_eq (qj (GQ Ξ) qv3 qa (λ_a _a=>rfl)) qc (qm _)) (qC (Jz (Ξ:=Ξ) rfl) (qu (qa1 qc)) (zy (Q3 (Ξ:=Ξ) rfl) qv3 (xG qa) xH)) qv3)))) qx) (qe (qt qv2)))),_,(qy (by right) (qy (zd (by right) (vQ (VP (by right) (je 3) ZK (q42 (by right) (jf Jv (by right) (by right)) (qr 3))) (ve 2)) vj) (by right))),λus M Qu h=>?_⟩;obtain⟨k,o,n,rfl,em,B,hn,q⟩:=h;refine xi (λaP M'=>∃(o':MO)(rows:List (List T)),BagO o'/\M'=M.set k o'/\ScrI rows/\aP=[some (.m k),some (.p (.int (n:Int))),some (.p (.lst (rows.map T.tup)))]) (λnx cG=>?_) (λaP M' hI=>?_)
 ·have hk:=(UR.mp em).1
  symm;refine⟨k,o,6,rfl,em,B,by decide,by decide,λd o1 d0 d1 B1=>?_⟩;symm;refine ite2 (λh5=>?_) (λh5=>?_)
  ·refine⟨k,o1,rfl,U3 hk,B1,λrows o2 S B2=>?_⟩
   rw[DS];exact cG _ _ ⟨o2,rows,B2,rfl,S,rfl⟩
  ·refine⟨k,o1,rfl,U3 hk,B1,λrows o2 S B2=>?_⟩
   rw[DS];exact cG _ _ ⟨o2,rows,B2,rfl,S,rfl⟩
 obtain⟨o2,rows,B2,rfl,S,rfl⟩:=hI;have hk:=(UR.mp em).1;obtain⟨e,ns,ay,au,W,_⟩:=ji S (g:=True) (.inl trivial) n wsN [] 0 12000 (by have:=S.n0;lia) wok_new Z3 (UZ _) (by lia) (by show 0+n<=1000;lia);have hl:(M.set k o2).length=M.length:=U2;have base:∀M1:MM,(∀i,i<(M.set k o2).length->M1[i]?=(M.set k o2)[i]?)->(M.set k o2).length<=M1.length->M1[k]?=some o2/\(∀i,i<M.length->i≠k->M1[i]?=M[i]?)/\M.length<=M1.length:=λM1 h1 h2=>⟨(h1 k (by lia)).trans (U3 hk),λi hi cE=>(h1 i (by lia)).trans (UW (Ne.symm cE)),by lia⟩;symm;refine⟨rfl,?_⟩;symm;refine⟨oF (M.set k o2).length,wsN, [],rows,n,e,ns,ay,au,rfl,Xz,hn,by show 0+n<=1000;lia,W,λM1 o' k1 nk O' g nG bZ e1 e2=>?_⟩;have g1:(∀i,i<(M.set k o2).length->M1[i]?=(M.set k o2)[i]?)/\(M.set k o2).length<=M1.length:=by
  have l:=g.len;rw[UV]at l;refine⟨λi hi=>?_,by lia⟩;rw[g.fr i (by rw[UV];lia) λj _a e=>by unfold oF at e;split at e<;>lia];exact zH hi
 obtain⟨w,r,rfl,hW⟩:=W.word;refine xK (us:=[.p (.tup (.str w::r)),.m nk]) (by simp[vo,e1]) rfl ?_;symm;refine vc at0 ?_;symm;have hb:=base M1 g1.1 g1.2;refine ite2 (λhZ=>?_) (λhZ=>?_)
 ·symm
  refine Qn (ts:=rows.map T.tup) (by rw[UY];exact Dk (qF (by have:=S.n1;lia))) (λi a9 M'=>M'=M1/\a9=((rows.take i).map repl).map T.tup) ⟨rfl,rfl⟩ ?_ ?_
  ·rintro i x a9 M' hx _ ⟨rfl,rfl⟩
   rw[Dh]at hx;cases hd:rows[i]? with
   |none=>rw[hd]at hx;cases hx
   |some ds=>
   rw[hd]at hx;cases hx;have i3:((rows.take (i+1)).map repl).map T.tup=((rows.take i).map repl).map T.tup++[T.tup (repl ds)]:=by rw[Re,hd];simp
   obtain⟨w',r',rfl,ht⟩:=(S.r ds (U0 hd)).head;symm;refine vc at0 ?_;symm;refine ite2 (λhw=>?_) (λhw=>?_)
   ·subst hw
    obtain⟨r1,q1,p1,_,_,_,rfl⟩:=ht rfl;left;refine⟨_,rfl,by show ¬(HT.sIx 4 0 (some 1)=0/\HT.sIx 4 4 none=4);decide,?_⟩;refine⟨_,.tup [.int (r1:Int),.int (q1:Int),.int (p1:Int)],rfl,rfl,?_⟩;refine⟨_,_,rfl,rfl,Rj _ _,Rj _ _,by show 1+3<=sizeLine;decide,?_⟩;exact⟨_,rfl,rfl,by rw[i3,Vh];rfl⟩
   ·rw[i3,kz hw]
  ·rintro a9 M' ⟨rfl,rfl⟩
   have i4:(rows.map T.tup).length=rows.length:=UY _;rw[i4,Ri];obtain⟨e',iE,g9,gb,W',_⟩:=ji S.repl.1 (g:=False) (.inr S.repl.2) n wsN [] 0 12000 (by have:=S.n0;rw[UY];lia) wok_new Z3 (UZ _) (by lia) (by show 0+n<=1000;lia);symm;exact q _ M' o2 B2 hb.1 hb.2.1 hb.2.2 S.repl.1 ⟨_,_,_,_,W'⟩
 ·symm
  exact q rows M1 o2 B2 hb.1 hb.2.1 hb.2.2 S ⟨_,_,_,_,hW hZ⟩
structure Bes(C D:Addr)(M:MM)(b:Nat)(ob:MO)(s o:Nm)(ws:List Wt)(ps:WW):Prop where
 W:Two C D M s o ws ps
 hb:M[b]?=some ob
 B:BagO ob
 ns:∀i,i<ps.length+2->s i≠b
 no:∀i,i<ps.length+3->o i≠b
theorem vP:∀{n:Nat}{t:T},depT n t->depT (n+1) t
 |0,_,h=>h.elim
 |n+1,.tup xs,h=>⟨h.1,λx hx=>vP (h.2 x hx)⟩
 |n+1,.lst xs,h=>⟨h.1,λx hx=>vP (h.2 x hx)⟩
 |n+1,.non,_=>trivial
 |n+1,.bl _,_=>trivial
 |n+1,.int _,_=>trivial
 |n+1,.str _,_=>trivial
theorem Bes.put(R:Bes C D M b ob s o ws ps)(B':BagO cr):Bes C D (M.set b cr) b cr s o ws ps:=⟨⟨R.W.S.skip R.ns,R.W.O.skip R.no,R.W.d⟩,U3 (UR.mp R.hb).1,B',R.ns,R.no⟩
theorem Bes.drawS(R:Bes C D M b ob s o ws ps)(h0:0<a6)(h1:a6.natAbs.log2<9000)(q:∀(M':MM)(f:Int)(cr:MO),0<=f->f<a6->Bes C D M' b cr s o ws ps->Q (.p (.int f)) M'):jT [.m b,.p (.int a6)] M Q:=⟨b,ob,a6,rfl,R.hb,R.B,h0,h1,λf o' f0 f1 B'=>q _ f o' f0 f1 (R.put B')⟩
theorem Bes.anyS(R:Bes C D M b ob s o ws ps)(q:∀(M':MM)(n:Int)(cr:MO),Bt 300 n->Bes C D M' b cr s o ws ps->Q (.p (.int n)) M'):vG [.m b] M Q:=⟨b,ob,rfl,R.hb,R.B,λn o' B' hn=>q _ n o' hn (R.put B')⟩
theorem Bes.step{M M1 M2:MM}(R:Bes C D M b ob s o ws ps)(S1:Sto C D M1 s' aw ak)(g1:Go M M1 s s' (ps.length+2) (ak.length+2))(O2:Own M2 o' aw ak)(g2:Go M1 M2 o o' (ps.length+3) (ak.length+3)):Bes C D M2 b ob s' o' aw ak/\s' 0=s 0/\o' 0=o 0:=by
 have st:=R.W.step S1 g1 O2 g2;have hb:=(UR.mp R.hb).1;refine⟨⟨st.1,(st.2.fr b hb (λi hi e=>R.ns i hi e.symm) λi hi e=>R.no i hi e.symm).trans R.hb,R.B,λi hi e=>?_,λi hi e=>?_⟩,st.2.z,st.2.y⟩
 ·rcases st.2.ns i hi with⟨j,hj,z⟩|z
  ·exact R.ns j hj (z.symm.trans e)
  ·lia
 ·rcases st.2.no i hi with⟨j,hj,z⟩|z
  ·exact R.no j hj (z.symm.trans e)
  ·lia
noncomputable abbrev jl:Stmt:=top 92
theorem scSomeDeeds:q00 ["bag","store","own","k","r","q","p","some","deed"] ["bag","store","own"] (qd jl):=by ac_rfl
noncomputable def Qz(C D:Addr):List U->MM->UK->Prop:=λus M Q=>∃(b:Nat)(ob:MO)(s o:Nm)(ws:List Wt)(ps:WW)(m:Nat),us=[.m b,.m (s 0),.m (o 0)]/\Bes C D M b ob s o ws ps/\WOk ws ps/\szL m ws ps/\12000<=m/\m+10<=13000/\ps.length+10<=999 /\
 ∀M' cr s' o' aw ak,Bes C D M' b cr s' o' aw ak->WOk aw ak->szL (m+10) aw ak->ak.length<=ps.length+10->s' 0=s 0->o' 0=o 0->Q (.p (.bl true)) M'
theorem Qg(F:Fun Ξ "_law_some_deeds" "_law_some_deeds" jl f fd)(N:Nms mg)(a8:Def P w Ξ mg base "_law_draw" 1 ["bag","many"] (spU jT))(aj:Def P w Ξ mg base "_law_any_number" 2 ["bag"] (spU vG))(df:Def P w Ξ mg base "_law_done" 7 ["store","deed"] (spU (q6y C D)))(bO:Def P w Ξ mg base "_law_own_do" 3 ["own","deed"] (spU QD))(bx:Def P w Ξ mg base "_law_own_ask" 2 ["own","deed"] (spU VC))(aK:Def P w Ξ mg base "_law_alike" 6 ["found","due"] (spP (JU 5))):FnOk P w Ξ mg base CX0 8 f fd ["bag","store","own"] (spU (Qz C D)):=by
 refine F.zU scSomeDeeds (by rintro _ _ _ ⟨_,_,_,_,_,_,_,rfl,_⟩;rfl) (λac A outer s H E hr=>?_);refine⟨_,(qb (xu PassesOwn.never rfl (vK rfl N.range (qa1 (qo a8 (YV hr) (qa2 qv0 qa)))) (vb (i:=3) scSomeDeeds.nd rfl GL) (qb (YN (i:=4) (j:=5) (k:=6) rfl scSomeDeeds.nd rfl rfl rfl (by decide) (by decide) (by decide) rfl rfl rfl (qa3 (qo a8 (YV hr) (qa2 qv0 qa)) (qo a8 (YV hr) (qa2 qv0 qa)) (qo a8 (YV hr) (qa2 qv0 qa))) rfl) (qb (qB (i:=7) scSomeDeeds.nd rfl GL (qG (qa4 (qu (qa3 qc qv4 (qo aj (YV hr) (qa1 qv0)))) (qu (qa4 qc qv4 qv5 qv6)) (qu (qa3 qc qv4 qv5)) (qu (qa4 qc qv4 qv5 qv6))))) (qb (qB (i:=8) scSomeDeeds.nd rfl GL (qj (GO Ξ) (qC zE qv7 (qG (qa2 (qu (qa3 qc qv4 qv5)) (qu (qa3 qc qv5 qv6))))) (qo a8 (YV hr) (qa2 qv0 qa)) (λ_a _a=>rfl))) (qe (qP (Qr (vJ (qo aK (YV hr) (qa2 (qo df (YV hr) (qa2 qv1 (qv 8))) (qo bO (YV hr) (qa2 qv2 (qv 8))))))) (qe (qt Vn)) qx)))))) (qb (xu PassesOwn.never rfl (vK rfl N.range (qa1 qa)) (vb (i:=5) scSomeDeeds.nd rfl GL) (qe (xu PassesOwn.never rfl (v9 (Ξ:=Ξ) rfl (qG (qa4 (qu (qa2 qc qv5)) (qu (qa2 qc qv5)) (qu (qa3 qc qv5 qa)) (qu (qa3 qc qv5 (qC xw (qC vz qv5 qa) qa)))))) (vb (i:=8) scSomeDeeds.nd rfl GL) (qe (qP (Qr (vJ (qo aK (YV hr) (qa2 (qo df (YV hr) (qa2 qv1 (qv 8))) (qo bx (YV hr) (qa2 qv2 (qv 8))))))) (qe (qt Vn)) qx))))) (qe (qt Vn)))),_,(qy (k8 (by right) (ve 3) (qy (Gp (ql (vA (ql (qr 0) (ql YX qJ))) (ql (vA (ql (qr 0) (ql YX qJ))) (ql (vA (ql (qr 0) (ql YX qJ))) qJ)))) (by right))) (by right)),λus M Qu h=>?_⟩;obtain⟨b,ob,s,o,ws,ps,m,rfl,R,k,z,m0,m1,hl,q⟩:=h;symm;refine R.drawS (by decide) (by decide) λM1 cnt fQ c0 c1 R1=>?_;refine jC (by lia) (by lia) ?_;refine xN (λi ρ M'=>∃cr s' o' aw ak x3 x4 x5 x6 x7 x8,ρ=[some (.m b),some (.m (s 0)),some (.m (o 0)),x3,x4,x5,x6,x7,x8]/\Bes C D M' b cr s' o' aw ak/\WOk aw ak/\szL (m+i) aw ak/\ak.length<=ps.length+i/\s' 0=s 0/\o' 0=o 0) ⟨fQ,s,o,ws,ps,_,_,_,_,_,_,rfl,R1,k,z,UZ _,rfl,rfl⟩ ?_ ?_
 ·rintro i ρ M' hi ⟨cr,s',o',aw,ak,x3,x4,x5,x6,x7,x8,rfl,R2,k2,z2,l2,es,eo⟩
  have hi:i<cnt.toNat:=hi;symm;refine R2.drawS (by decide) (by decide) λM2 r ob2 r0 r1 R3=>?_;obtain⟨r,rfl⟩:∃j:Nat,r=(j:Int):=⟨r.toNat,by lia⟩;refine R3.drawS (by decide) (by decide) λM3 qq ob3 q0 q1 R4=>?_;obtain⟨qq,rfl⟩:∃j:Nat,qq=(j:Int):=⟨qq.toNat,by lia⟩;refine R4.drawS (by decide) (by decide) λM4 p ob4 p0 p1 R5=>?_;obtain⟨p,rfl⟩:∃j:Nat,p=(j:Int):=⟨p.toNat,by lia⟩;have aW:r<8:=by lia
  have dX:qq<8:=by lia
  have fP:p<8:=by lia
  symm;refine R5.anyS λM5 n ob5 hn R6=>?_;symm;refine⟨by show 4+2<=sizeLine;decide,?_⟩;symm;refine R6.drawS (by decide) (by decide) λM6 dx ob6 dx0 dx1 R7=>?_;obtain⟨ds,dP,hf,m9⟩:∃ds:List T,atI [T.tup [T.str "number", T.int (r:Int),T.int n],T.tup [T.str "pair", T.int (r:Int),T.int (qq:Int),T.int (p:Int)],T.tup [T.str "copy", T.int (r:Int),T.int (qq:Int)],T.tup [T.str "less", T.int (r:Int),T.int (qq:Int),T.int (p:Int)],T.tup [T.str "first", T.int (r:Int),T.int (qq:Int)],T.tup [T.str "set_second", T.int (qq:Int),T.int (p:Int)]] dx=some (.tup ds)/\Formed ds/\∃w r,ds=.str w::r/\w ≠ "times" /\ w ≠ "below" := by
   rcases(show dx=0\/dx=1\/dx=2\/dx=3\/dx=4\/dx=5 by lia)with rfl|rfl|rfl|rfl|rfl|rfl
   ·exact⟨_,rfl,.num r n aW hn,_,_,rfl,by decide,by decide⟩
   ·exact⟨_,rfl,.pair r qq p aW dX fP,_,_,rfl,by decide,by decide⟩
   ·exact⟨_,rfl,.copy r qq aW dX,_,_,rfl,by decide,by decide⟩
   ·exact⟨_,rfl,.five _ (.inr (.inl rfl)) r qq p aW dX fP,_,_,rfl,by decide,by decide⟩
   ·exact⟨_,rfl,.get _ (.inl rfl) r qq aW dX,_,_,rfl,by decide,by decide⟩
   ·exact⟨_,rfl,.set _ (.inr rfl) qq p dX fP,_,_,rfl,by decide,by decide⟩
  refine qX dP ?_;obtain⟨w,rr,rfl,mx,iK⟩:=m9;symm;have hsz:ak.length<1000:=by lia
  rcases hf.comes (m:=m+i) (ps:=ak) (Gc mx) k2.n k2.ww z2 (by lia) (by lia) with⟨g9,gb,hd,hl3,z3⟩|⟨bU,hd⟩|⟨nm,pp,hd⟩|⟨pp,hd⟩
  ·refine⟨_,_,rfl,s',aw,ak,es.symm,R7.W.S,.inl ⟨_,_,hd,λMa s3 S3 g1=>⟨.non,rfl,?_⟩⟩⟩
   symm;refine⟨o',aw,ak,_,by rw[eo],R7.W.mid g1,hsz,.inl ⟨_,_,hd,λMb o3 O3 g2=>?_⟩⟩;symm;refine⟨_,rfl,vP (vP (VM trivial trivial)),?_⟩;symm;obtain⟨R8,e1,e2⟩:=R7.step S3 g1 O3 g2;exact⟨_,s3,o3,g9,gb,_,_,_,_,_,_,rfl,R8,hd.ok k2,z3,by lia,e1.trans es,e2.trans eo⟩
  ·exact VU (hf.noask iK) hd.word rfl
  ·refine⟨_,_,rfl,s',aw,ak,es.symm,R7.W.S,.inr (.inr (.inl ⟨_,_,hd,?_⟩))⟩
   symm;refine⟨o',aw,ak,_,by rw[eo],R7.W.O,hsz,.inr ⟨_,_,hd,?_⟩⟩;symm;refine⟨_,rfl,vP (vP (VM trivial q6C)),?_⟩;symm;exact⟨_,s',o',aw,ak,_,_,_,_,_,_,rfl,R7,k2,z2.mono (by lia),by lia,es,eo⟩
  ·exact VU (hf.noask iK) hd.word rfl
 ·rintro ρ M' ⟨cr,s',o',aw,ak,x3,x4,x5,x6,x7,x8,rfl,R2,k2,z2,l2,es,eo⟩
  have hc:cnt.toNat<=10:=by lia
  have z2:szL (m+cnt.toNat) aw ak:=z2;have l2:ak.length<=ps.length+cnt.toNat:=l2;symm;refine jC (by decide) (by decide) ?_;refine xN (λi ρ M3=>∃y5 y8,ρ=[some (.m b),some (.m (s 0)),some (.m (o 0)),x3,x4,y5,x6,x7,y8]/\M3=M') ⟨_,_,rfl,rfl⟩ ?_ ?_
  ·rintro i ρ M3 hi ⟨y5,y8,rfl,rfl⟩
   have se:i<8:=hi;symm;have cK:∀t∈[T.tup [T.str "kind", T.int (i:Int)],T.tup [T.str "told", T.int (i:Int)],T.tup [T.str "same", T.int (i:Int),T.int 0],T.tup [T.str "same", T.int (i:Int),T.int (((i:Int)+3) % 8)]],∃ds bU,t=.tup ds/\DeedAsk aw ds bU:=by
    obtain⟨x,hx⟩:=zw k2.n se;obtain⟨y,hy⟩:=zw k2.n (q:=(i+3) % 8) (Nat.mod_lt _ (by decide));obtain⟨zz,hz⟩:=zw k2.n (q:=0) (by decide);rw[show((i:Int)+3) % 8=(((i+3) % 8:Nat):Int) by lia];intro t ht;simp only[Da,Dg,G9]at ht;rcases ht with rfl|rfl|rfl|rfl
    ·exact⟨_,_,rfl,.kind i x hx⟩
    ·exact⟨_,_,rfl,.told i x hx⟩
    ·exact⟨_,_,rfl,.same i 0 x zz hx hz⟩
    ·exact⟨_,_,rfl,.same i _ x y hx hy⟩
   refine⟨by decide,?_⟩;refine ke (λj ρ M4=>∃y8,ρ=[some (.m b),some (.m (s 0)),some (.m (o 0)),x3,x4,some (.p (.int (i:Int))),x6,x7,y8]/\M4=M3) ⟨_,rfl,rfl⟩ ?_ ?_
   ·rintro j t ρ M4 ht ⟨y8,rfl,rfl⟩
    obtain⟨ds,bU,rfl,hd⟩:=cK t (U0 ht);symm;refine⟨_,_,rfl,s',aw,ak,es.symm,R2.W.S,.inr (.inl ⟨_,hd,_,rfl,?_⟩)⟩;symm;refine⟨o',aw,ak,_,by rw[eo],R2.W.O,.inl ⟨_,hd,?_⟩⟩;symm;refine⟨_,rfl,vP (vP (VM trivial hd.dep)),?_⟩;symm;exact⟨_,rfl⟩
   ·rintro ρ M4 ⟨y8,rfl,rfl⟩
    exact⟨_,_,rfl,rfl⟩
  ·rintro ρ M3 ⟨y5,y8,rfl,rfl⟩
   symm;exact q _ _ _ _ _ _ R2 k2 (z2.mono (by lia)) (by lia) es eo
local macro_rules|`(tactic|walk_at "vx")=>`(tactic|simp only[zl,jj,jM,zB,vZ,uTry,zC,zi,jO,jP,endX,zY,QV,uX0,jN,xP,xO,xt,Yg])
theorem gapp{M L:MM}:(M++L)[M.length+k]?=L[k]?:=by rw[U9 (by lia)];congr 1;lia
theorem q01:∀{ns:List T},frzs (frzN n M) (ns.map U.p)=some ns
 | []=>rfl
 |t::ns=>by
  have h:frzN n M (.p t)=some t:=by cases n<;>rfl
  simp only[Di,frzs,h,q01]
theorem jt(h1:M[k]?=some (.tup [.p e,.m nk]))(h2:M[nk]?=some (.lst (ns.map U.p))):frzN 6 M (.m k)=some (.tup [e,.lst ns]):=by
 have a:frzN 5 M (.p e)=some e:=rfl;have b:frzN 5 M (.m nk)=some (.lst ns):=by simp only[frzN,h2,q01];rfl
 rw[frzN,h1];simp only[frzs,a,b];rfl
theorem Walk.deep(h:Walk rows g n ws ps a e ns ay au)(hn:n<=400):depT 5 (.tup [e,.lst ns]):=by
 have hd:=h.dep;have he:depT 4 e:=by
  clear hn hd
  induction h with
  |go _ _ _ _ _ _ _ _ _ _ _ _ _ _ _ _ ih=>exact ih
  |no _ _ _ _ _ _ p=>
   cases p with
   |none=>
    refine⟨by show 2<=10000000;decide,λx hx=>?_⟩;simp only[Da,Dg,G9]at hx;rcases hx with rfl|rfl<;>trivial
   |some p=>
    refine⟨by show 3<=10000000;decide,λx hx=>?_⟩;simp only[Da,Dg,G9]at hx;rcases hx with rfl|rfl|rfl<;>trivial
  |endd=>
   refine⟨by show 1<=10000000;decide,λx hx=>?_⟩;simp only[Da,Dg,G9]at hx;cases hx;trivial
  |_=>
   refine⟨by show 2<=10000000;decide,λx hx=>?_⟩;simp only[Da,Dg,G9]at hx;rcases hx with rfl|rfl<;>trivial
 refine⟨by show 2<=10000000;decide,λx hx=>?_⟩;simp only[Da,Dg,G9]at hx;rcases hx with rfl|rfl
 ·exact he
 ·refine⟨by lia,λy hy=>?_⟩
  obtain⟨w,rfl⟩:=hd.2 y hy;exact vP (JW w)
noncomputable def oK(n p:Nat):Nm:=λi=>if i=0 then n+1+p+1 else if i=1 then n else if i=2 then n+1+p else n+1+(i-3)
theorem q0K(k:WOk ws ps):Own (M++([ol ws]++ps.map pl++[.lst ((List.range ps.length).map λj=>U.m (M.length+1+j)),.lst [.m M.length,.m (M.length+1+ps.length)]])) (oK M.length ps.length) ws ps:=by
 have lp:(ps.map pl).length=ps.length:=UY _;have h1:∀{k:Nat},(M++([ol ws]++ps.map pl++[MO.lst ((List.range ps.length).map λj=>U.m (M.length+1+j)),.lst [.m M.length,.m (M.length+1+ps.length)]]))[M.length+1+ps.length+k]?=[MO.lst ((List.range ps.length).map λj=>U.m (M.length+1+j)),.lst [.m M.length,.m (M.length+1+ps.length)]][k]?:=λ{k}=>by
  rw[show M.length+1+ps.length+k=M.length+(1+ps.length+k) by lia,gapp,U9 (by rw[UV,lp];show 1+_<=_;lia)]
  congr 1;rw[UV,lp];show _-(1+_)=_;lia
 refine⟨?_,?_,?_,λi x hi=>?_,k.n,λi j hi hj z=>?_,k.ww,k.wp⟩
 ·exact h1 (k:=1)
 ·exact gapp (k:=0)
 ·show _=some (MO.lst _)
  have:(λi=>U.m (oK M.length ps.length (i+3)))=λj=>U.m (M.length+1+j):=by
   funext i;unfold oK;rw[GZ (by lia),GZ (by lia),GZ (by lia)];rfl
  rw[this];exact h1 (k:=0)
 ·have hl:=(UR.mp hi).1
  have e:oK M.length ps.length (i+3)=M.length+(1+i):=by
   unfold oK;rw[GZ (by lia),GZ (by lia),GZ (by lia)];lia
  rw[e,gapp,U1 (by rw[UV,lp];show _<1+_;lia),U9 (by show 1<=_;lia)];show(ps.map pl)[1+i-1]?=_;rw[show 1+i-1=i by lia,Dh,hi];rfl
 ·unfold oK at z
  (repeat' split at z)<;>lia
theorem Bes.far(R:Bes C D M b ob s o ws ps)(h:∀i,i<M.length->M'[i]?=M[i]?):Bes C D M' b ob s o ws ps :=
 ⟨⟨R.W.S.go λi hi=>h _ (R.W.S.lt hi),R.W.O.go λi hi=>h _ (R.W.O.lt hi),R.W.d⟩,(h b (UR.mp R.hb).1).trans R.hb,R.B,R.ns,R.no⟩
theorem q3k(hb:M[b]?=some ob)(B:BagO ob):Bes C D (M++[.ins C [("held",.m (M.length+1))],hl id wsN]++[ol wsN,.lst [],.lst [.m (M++[MO.ins C [("held",.m (M.length+1))],hl id wsN]).length,.m ((M++[MO.ins C [("held",.m (M.length+1))],hl id wsN]).length+1)]]) b ob (λi=>i+M.length) (oF (M++[MO.ins C [("held",.m (M.length+1))],hl id wsN]).length) wsN []:=by
 have l:(M++[MO.ins C [("held",.m (M.length+1))],hl id wsN]).length=M.length+2:=by rw[UV];rfl
 have sf:=(UR.mp hb).1;refine⟨⟨sto_new.go λi hi=>zH (by rw[l];show i+_<_;have:i<2:=hi;lia),Xz,λi j hi hj z=>?_⟩,by rw[zH (by lia),zH sf];exact hb,B,λi hi z=>?_,λi hi z=>?_⟩
 ·have hi:i<2:=hi
  have z:i+M.length=_:=z;unfold oF at z;split at z<;>lia
 ·have z:i+M.length=b:=z
  lia
 ·unfold oF at z
  split at z<;>lia
noncomputable abbrev xF:Stmt:=top 93
theorem scGoneByHand:q00 ["bag","script","most","store","own","turn","kept","some"] ["bag","script","most"] (qd xF):=by ac_rfl
theorem Vw:(["bag","script","most","store","own","turn","kept","some","one"]:List Str).Nodup:=by decide+kernel
theorem Vv:(["bag","script","most","store","own","turn","kept","some","row"]:List Str).Nodup:=by decide+kernel
noncomputable def W0:List U->MM->UK->Prop:=λus M Q=>∃(b:Nat)(ob:MO)(rows:List (List T))(n:Nat),us=[.m b,.p (.lst (rows.map T.tup)),.p (.int (n:Int))]/\M[b]?=some ob/\BagO ob/\ScrI rows/\n<=400/\∀M',Q (.p (.bl true)) M'
theorem XH(F:Fun Ξ "_law_gone_by_hand" "_law_gone_by_hand" xF f fd)(N:Nms mg)(eC:q02 P w Ξ mg base C "PlainStore" 1 ["self"] (spU (Zw C)))(b8:Def P w Ξ mg base "_law_fresh" 1 [] (spU Zx))(ba:Def P w Ξ mg base "_law_some_deeds" 8 ["bag","store","own"] (spU (Qz C D)))(bB:Def P w Ξ mg base "_law_walk" 6 ["own","script","most"] (spU q1t))(aK:Def P w Ξ mg base "_law_alike" 6 ["found","due"] (spP (JU 5)))(eD:Def P w Ξ mg base "go" 10 ["script","store","most"] (spU (gGo C D))):FnOk P w Ξ mg base CX0 11 f fd ["bag","script","most"] (spU W0):=by
 refine F.zU scGoneByHand (by rintro _ _ _ ⟨_,_,_,_,rfl,_⟩;rfl) (λac A outer s H E hr=>?_);refine⟨_,(qb (qB (i:=3) scGoneByHand.nd rfl GL (YS eC (YV hr) rfl)) (qb (qB (i:=4) scGoneByHand.nd rfl GL (kG b8 (YV hr))) (qb (xu PassesOwn.never rfl (vK rfl N.range (qa1 qa)) (vb (i:=5) scGoneByHand.nd rfl GL) (qb (qP (Qr (vJ (qo ba (YV hr) (qa3 qv0 qv3 qv4)))) (qe (qt Vn)) qx) (qb (qB (i:=6) scGoneByHand.nd rfl GL (qG (qa2 (vL zj (by rfl) N.list jg (qa1 (qj (GO Ξ) qv4 qa (λ_a _a=>rfl)))) (Ks [false,false,false,false,false,false,false,false] ["one"] (v9 (Ξ:=Ξ) rfl (qj (GO Ξ) qv4 qa (λ_a _a=>rfl))) (λ_a _a _a=>(vb (i:=8) Vw rfl GL)) (λ_a _a _a=>zx) (λ_a _a _a=>(vL zj (by rfl) N.list jg (qa1 (qv 8)))))))) (qb (qB (i:=7) scGoneByHand.nd rfl GL qv1) (qb (qP (qi op_eq (qj (GQ Ξ) (qj (GQ Ξ) (qo bB (YV hr) (qa3 qv6 qv7 qv2)) qa (λ_a _a=>rfl)) qa (λ_a _a=>rfl)) qc (qm _)) (qe (q3B (i:=7) [false,false,false,false,false,false,false,false] ["row"] scGoneByHand.nd rfl rfl (v9 (Ξ:=Ξ) rfl qv7) (λ_a _a _a=>(vb (i:=8) Vv rfl GL)) (λ_a _a _a=>zx) (λ_a _a _a=>(vm (qi op_eq (qj (GQ Ξ) (qv 8) qa (λ_a _a=>rfl)) qc (qm _)) (qC (Jz (Ξ:=Ξ) rfl) (qu (qa1 qc)) (zy (Q3 (Ξ:=Ξ) rfl) (qv 8) (xG qa) xH)) (qv 8))))) qx) (qe (qP (Qr (vJ (qo aK (YV hr) (qa2 (qo eD (YV hr) (qa3 (vL zj (by rfl) N.list jg (qa1 qv7)) qv3 qv2)) (qo bB (YV hr) (qa3 qv4 qv7 qv2)))))) (qe (qt Vn)) qx))))))) (qe (qt (qo ba (YV hr) (qa3 qv0 qv3 qv4))))))),_,(qy (vQ (Qa qJ) (ve 3)) (qy (by right) (qy (k8 (by right) (ve 5) (qy (by right) (qy (vQ (k9 (ql (J5 (ql (vY (qr 4) YX) qJ)) (ql (q0i (X8 (vY (qr 4) YX)) (je 8) ZK (J5 (ql (qr 8) qJ))) qJ))) (ve 6)) (qy (by right) (qy (zd (by right) (vQ (VP (by right) (je 8) ZK (q42 (by right) (jf Jv (by right) (by right)) (qr 8))) (ve 7)) vj) (zd (Gk (ct_b (J7 (by right)))) (by right) vj)))))) (by right)))),λus M Qu h=>?_⟩;obtain⟨b,ob,rows,n,rfl,hb,B,S,hn,q⟩:=h;symm;refine⟨M.length,rfl,qK,?_⟩;have e0:(M++[MO.ins C []]++[hl id wsN]).set M.length (.ins C [("held",.m (M.length+1))])=M++[.ins C [("held",.m (M.length+1))],hl id wsN]:=by
  rw[Db,DJ _ _ (UZ _),DA];rfl
 have e1:(M++[MO.ins C []]).length=M.length+1:=by rw[UV];rfl
 refine⟨rfl,?_⟩;rw[e1];rw[show hl id (List.replicate 8 (.one "none"))=hl id wsN from rfl,e0];symm;refine⟨rfl,?_⟩;have R0:=q3k (C:=C) (D:=D) hb B;generalize M++[MO.ins C [("held",.m (M.length+1))],hl id wsN]++[ol wsN,.lst [],.lst [.m (M++[MO.ins C [("held",.m (M.length+1))],hl id wsN]).length,.m ((M++[MO.ins C [("held",.m (M.length+1))],hl id wsN]).length+1)]]=M0 at R0 ⊢;symm;refine jC (by decide) (by decide) ?_;have sg:(0:Nat)+M.length=M.length:=Rg _;refine xN (λi ρ M'=>∃cr s' o' aw ak x5 x6 x7,ρ=[some (.m b),some (.p (.lst (rows.map T.tup))),some (.p (.int (n:Int))),some (.m (s' 0)),some (.m (o' 0)),x5,x6,x7]/\Bes C D M' b cr s' o' aw ak/\WOk aw ak/\szL (12000+410*i) aw ak/\ak.length<=410*i) ⟨ob,_,_,wsN, [],_,_,_,by rw[sg];rfl,R0,wok_new,Z3,Du _⟩ ?_ ?_
 ·rintro i ρ M' hi ⟨cr,s',o',aw,ak,x5,x6,x7,rfl,R,k,z,l⟩
  have hi:i<2:=hi;symm;refine⟨b,cr,s',o',aw,ak,12000+410*i,rfl,R,k,z,by lia,by lia,by lia,λM1 fQ s1 o1 aQ aq R1 k1 z1 l1 es eo=>?_⟩;rw[<-es, <-eo];left;refine qM R1.W.O ?_;left;refine⟨_,_,rfl,.inl (by simp[qI,R1.W.O.b,ol];rfl),?_⟩;left;have g0:∀{k:Nat}{L:List MO},k<M1.length->(M1++L)[k]?=M1[k]?:=λh=>zH h;refine xK (us:=[.m (o1 1),.m (o1 2)]) (by simp[qI,g0 (R1.W.O.lt (i:=0) (by lia)),R1.W.O.o0]) rfl ?_;refine WL ((g0 (R1.W.O.lt (i:=2) (by lia))).trans R1.W.O.c) ?_;have nH:∀L:List MO,qI (M1++L) (.m (o1 2))=some ((List.range aq.length).map λi=>U.m (o1 (i+3))):=λL=>by simp[qI,g0 (L:=L) (R1.W.O.lt (i:=2) (by lia)),R1.W.O.c,cl]
  have bH:aq.length<1000:=by lia
  refine⟨by show((List.range aq.length).map _).length<=_;rw[UY,DV];exact Dk (qF (by lia)),λi a9 M2=>M2=M1++([ol aQ]++(aq.take i).map pl)/\a9=(List.range i).map λj=>U.m (M1.length+1+j),⟨by simp[ol],rfl⟩,?_,?_⟩
  ·rintro i a9 M2 hi _ ⟨rfl,rfl⟩
   have hi:i<aq.length:=by
    have:i<((List.range aq.length).map λi=>U.m (o1 (i+3))).length:=hi;rwa [UY,DV]at this
   refine⟨nH _,λu hu=>?_⟩;have hu:((List.range aq.length).map λi=>U.m (o1 (i+3)))[i]?=some u:=hu;rw[Dh,Bf hi]at hu;cases hu;have hp:=UU hi;left;refine⟨_, [.p (tO aq[i].1),.p (tO aq[i].2)],rfl,.inl (by simp[qI,g0 (R1.W.O.lt (i:=i+3) (by lia)),R1.W.O.p i _ hp,pl]),?_⟩;have ll:(M1++ol aQ::(aq.take i).map pl).length=M1.length+1+i:=by
    simp only[UV,UY,DC,U8];lia
   dsimp only;rw[ll];refine⟨?_,?_⟩
   ·rw[Re,hp,Dq]
    simp[pl]
   ·rw[RV,Dq]
    rfl
  rintro a9 M2 ⟨rfl,rfl⟩;have i4:(itU (U.m (o1 2)) ((List.range aq.length).map λi=>U.m (o1 (i+3)))).n=aq.length:=by show((List.range aq.length).map _).length=_;rw[UY,DV]
  rw[i4,Ri];refine⟨nH _,?_⟩;have ll:(M1++([ol aQ]++aq.map pl)).length=M1.length+1+aq.length:=by
   simp only[UV,UY,Dp];lia
  rw[ll];refine useq ?_;walk_at "vs";have R2:Bes C D (M1++ol aQ::List.map pl aq++[MO.lst (List.map (λj=>U.m (List.length M1+1+j)) (List.range (List.length aq)))]++[MO.lst [U.m (List.length M1),U.m (List.length M1+1+List.length aq)]]) b fQ s1 o1 aQ aq:=R1.far λi hi=>by rw[Db,Db];exact zH hi
  have OK:Own (M1++ol aQ::List.map pl aq++[MO.lst (List.map (λj=>U.m (List.length M1+1+j)) (List.range (List.length aq)))]++[MO.lst [U.m (List.length M1),U.m (List.length M1+1+List.length aq)]]) (oK M1.length aq.length) aQ aq:=by
   have:=q0K (M:=M1) k1;simpa using this
  have ar:(M1++ol aQ::List.map pl aq++[MO.lst (List.map (λj=>U.m (List.length M1+1+j)) (List.range (List.length aq)))]).length=oK M1.length aq.length 0:=by
   simp only[UV,UY,U8,Dz];show _=M1.length+1+aq.length+1;lia
  have si:∀j,j<aq.length+3->M1.length<=oK M1.length aq.length j:=λj _a=>by unfold oK;(repeat' split)<;>lia
  rw[ar];have sj:M1.length<=(M1++ol aQ::List.map pl aq++[MO.lst (List.map (λj=>U.m (List.length M1+1+j)) (List.range (List.length aq)))]++[MO.lst [U.m (List.length M1),U.m (List.length M1+1+List.length aq)]]).length:=by rw[Db,Db,UV];lia
  have nI:∀i,i<M1.length->(M1++ol aQ::List.map pl aq++[MO.lst (List.map (λj=>U.m (List.length M1+1+j)) (List.range (List.length aq)))]++[MO.lst [U.m (List.length M1),U.m (List.length M1+1+List.length aq)]])[i]?=M1[i]?:=λi hi=>by rw[Db,Db];exact zH hi
  generalize M1++ol aQ::List.map pl aq++[MO.lst (List.map (λj=>U.m (List.length M1+1+j)) (List.range (List.length aq)))]++[MO.lst [U.m (List.length M1),U.m (List.length M1+1+List.length aq)]]=M2 at R2 OK sj nI ⊢;obtain⟨e,ns,ay,au,W,k2,z2,l2⟩:=ji S (g:=True) (.inl trivial) n aQ aq 0 (12000+410*i+10) (by have:=S.n0;lia) k1 z1 (by lia) (by lia) (by lia);refine xi (λaP M'=>∃ce e ns ay au x6,ScrI ce/\Walk ce False n aQ aq 0 e ns ay au/\WOk ay au/\szL (12000+410*i+10+n) ay au/\au.length<=aq.length+n/\Bes C D M' b fQ s1 o1 aQ aq/\aP=[some (.m b),some (.p (.lst (rows.map T.tup))),some (.p (.int (n:Int))),some (.m (s1 0)),some (.m (o1 0)),some (.p (.int (i:Int))),x6,some (.p (.lst (ce.map T.tup)))]) (λnx cG=>?_) (λaP M' hI=>?_)
  ·symm
   refine⟨oK M1.length aq.length,aQ,aq,rows,n,e,ns,ay,au,rfl,OK,hn,by lia,W,λM3 o' kk nk O' g nG bZ e1 e2=>?_⟩;have R3:Bes C D M3 b fQ s1 o1 aQ aq:=R1.far λj hj=>(g.fr j (by lia) λl hl=>by have:=si l hl;lia).trans (nI j hj);obtain⟨w,r,rfl,hW⟩:=W.word;refine xK (us:=[.p (.tup (.str w::r)),.m nk]) (by simp[vo,e1]) rfl ?_;symm;refine vc at0 ?_;symm;refine ite2 (λhZ=>?_) (λhZ=>?_)
   ·symm
    refine Qn (ts:=rows.map T.tup) (by rw[UY];exact Dk (qF (by have:=S.n1;lia))) (λj a9 M'=>M'=M3/\a9=((rows.take j).map repl).map T.tup) ⟨rfl,rfl⟩ ?_ ?_
    ·rintro j x a9 M' hx _ ⟨rfl,rfl⟩
     rw[Dh]at hx;cases hd:rows[j]? with
     |none=>rw[hd]at hx;cases hx
     |some ds=>
     rw[hd]at hx;cases hx;have i3:((rows.take (j+1)).map repl).map T.tup=((rows.take j).map repl).map T.tup++[T.tup (repl ds)]:=by rw[Re,hd];simp
     obtain⟨w',r',rfl,ht⟩:=(S.r ds (U0 hd)).head;symm;refine vc at0 ?_;symm;refine ite2 (λhw=>?_) (λhw=>?_)
     ·subst hw
      obtain⟨r1,q1,p1,_,_,_,rfl⟩:=ht rfl;left;refine⟨_,rfl,by show ¬(HT.sIx 4 0 (some 1)=0/\HT.sIx 4 4 none=4);decide,?_⟩;refine⟨_,.tup [.int (r1:Int),.int (q1:Int),.int (p1:Int)],rfl,rfl,?_⟩;refine⟨_,_,rfl,rfl,Rj _ _,Rj _ _,by show 1+3<=sizeLine;decide,?_⟩;exact⟨_,rfl,rfl,by rw[i3,Vh];rfl⟩
     ·rw[i3,kz hw]
    ·rintro a9 M' ⟨rfl,rfl⟩
     have i4:(rows.map T.tup).length=rows.length:=UY _;rw[i4,Ri];obtain⟨e',iE,g9,gb,W',k3,z3,l3⟩:=ji S.repl.1 (g:=False) (.inr S.repl.2) n aQ aq 0 (12000+410*i+10) (by have:=S.n0;rw[UY];lia) k1 z1 (by lia) (by lia) (by lia);exact cG _ _ ⟨_,_,_,_,_,_,S.repl.1,W',k3,z3,l3,R3,rfl⟩
   ·exact cG _ _ ⟨rows,_,_,_,_,_,S,hW hZ,k2,z2,l2,R3,rfl⟩
  obtain⟨ce,e,ns,ay,au,x6,S2,W2,k2,z2,l2,R3,rfl⟩:=hI;left;refine⟨_,_,rfl,rfl,?_⟩;left;refine⟨s1,aQ,aq,ce,n,e,ns,ay,au,rfl,R3.W.S,hn,by lia,W2,λM3 s3 kk nk S3 g3 hk bZ e1 e2=>?_⟩;left;refine⟨o1,aQ,aq,ce,n,e,ns,ay,au,rfl,R3.W.mid g3,hn,by lia,W2.up,λM4 o4 k4 nk4 O4 g4 hk4 hnk4 a1 a2=>?_⟩;left;have im:M4[kk]?=some (.tup [.p e,.m nk]):=by
   rw[g4.fr kk (UR.mp e1).1 λj hj z=>by have:=R3.W.O.lt hj;lia];exact e1
  have so:M4[nk]?=some (.lst (ns.map U.p)):=by
   rw[g4.fr nk (UR.mp e2).1 λj hj z=>by have:=R3.W.O.lt hj;lia];exact e2
  refine⟨[_,_],by simp only[frzs,jt im so,jt a1 a2],_,rfl,W2.deep hn,?_⟩;symm;obtain⟨R4,sq,sr⟩:=R3.step S3 g3 O4 g4;exact⟨⟨_,rfl⟩,fQ,s3,o4,ay,au,_,_,_,by rw[sq,sr],R4,k2,z2.mono (by lia),by lia⟩
 ·rintro ρ M' ⟨cr,s',o',aw,ak,x5,x6,x7,rfl,R,k,z,l⟩
  have z:szL (12000+410*2) aw ak:=z;have l:ak.length<=410*2:=l;symm;refine⟨b,cr,s',o',aw,ak,12000+410*2,rfl,R,k,z,by lia,by lia,by lia,λM1 fQ s1 o1 aQ aq R1 k1 z1 l1 es eo=>q M1⟩
noncomputable def Yo(Ξ:PySem.W.Frag):Sp:=λvs H Q _a=>∃(a:Addr)(ns:List Int),vs=[.ref a]/\SqL Ξ H a (ns.map V.int)/\ns.length<=63/\∀H',Q (.bl true) H'
theorem q4q{st:Stmt}(F:Fun Ξ "law" "law" st f fd)(S:q00 N ["script"] (qd st))(hN:2<=N.length)(aA:∀(ac:Value)(A:Around)(outer:List Env)(s:Shared)(H:Hp)(E:XK),Room k (A.deeper (envOfC "law" (qd st) s.heap.objs.size f ac)) ->
   ∃tR,QSs (cxOf CX0 P w Ξ mg base N "law" (qd st) f ac A outer s H E).nox (vi st) (tSeq (tAsg (zG (q4r Ξ) [] E0 (vH (tVar 0) tNil)) (qT 1)) tR)/\∃uR,ZS tR uR/\∀o,BagO o->uR { nx:=λ_a _a=>False,rt:=λz _a=>z=.p (.bl true) } (none::some (.m 0)::List.replicate (N.length-2) none) [o]):FnOk P w Ξ mg base CX0 (k+1) f fd ["script"] (Yo Ξ):=by
 refine F.okQ S (λvs H Q E h=>?_) (λac A outer s H vs Q E hr h=>?_)
 ·obtain⟨_,_,rfl,_⟩:=h
  rfl
 ·obtain⟨a,ns,rfl,hS,ar,k⟩:=h
  obtain⟨tR,hT,uR,hU,hq⟩:=aA ac A outer s H E hr;refine⟨_,hT,?_⟩;have su:L2.start N [.ref a]=some (.ref a)::none::List.replicate (N.length-2) none:=by
   unfold L2.start;obtain⟨m,hm⟩:∃m,N.length=m+2:=⟨N.length-2,by lia⟩;rw[hm];rfl
  rw[su];simp only[tSeq,tAsg,zG,vH,tNil,tVar,qT,DP,Option.some.injEq,exists_eq_left',Dl,D8,D9];refine⟨a,ns,rfl,hS,ar,λb H1 hb s1 B1=>?_⟩;obtain⟨c,iE,i,a',cI,n,ik,i9,r⟩:=id B1.ex;have lU:c≠b:=GG ik i9;obtain⟨o,sv,ro,_⟩:=Ka (A:=λ_a=>False) (ι:=[b]) B1 ⟨_,ik⟩ (λz=>z.elim id λz=>lU (by simpa using z));have w1:L2.Wd (λ_a=>False) [b] H1 [o]:=⟨by simp,rfl,λx hx=>hx.elim,λx _a z=>z,λk a2 o2 e1 e2=>by
   match k,e1,e2 with
   |0,e1,e2=>cases e1;cases e2;exact ro
   |k+1,e1,_=>simp at e1⟩
  have env:EnvR (λ_a=>False) [b] H1 (some (.ref a)::some (.ref b)::List.replicate (N.length-2) none) (none::some (.m 0)::List.replicate (N.length-2) none):=by
   refine .cons (λu e=>by cases e) (.cons (λu e=>by cases e;exact⟨_,rfl,.m rfl⟩) ?_);generalize N.length-2=m
   induction m with
   |zero=>exact .nil
   |succ m ih=>exact .cons (λu e=>by cases e) ih
  refine hU.h (λ_a=>False) [b] _ H1 _ [o] _ { nx:=λ_a _a=>False,rt:=λz _a=>z=.p (.bl true) } w1 env ⟨λ_a _a _a _a _a _a _a _a q=>q.elim,λι v H2 u M _ _ ru q=>?_,λ_a _a _a _a _a _a _a _a q=>q.elim,λ_a _a _a _a _a _a _a _a q=>q.elim⟩ (hq o sv);have q:u=.p (.bl true):=q;subst q;cases ru with
  |p r=>cases r;exact k H2
theorem q0y(B:BagO o)(h0:0<a6)(h1:a6.natAbs.log2<9000)(q:∀(aJ:Int)(o':MO),0<=aJ->aJ<a6->BagO o'->Q (.p (.int aJ)) (o'::L)):jT [.m 0,.p (.int a6)] (o::L) Q :=
 ⟨0,o,a6,rfl,rfl,B,h0,h1,λf o' f0 f1 B'=>q f o' f0 f1 B'⟩
local macro_rules|`(tactic|walk_at "vx")=>`(tactic|simp only[zl,jj,jM,zB,vZ,uTry,zC,zi,jO,jP,endX,zY,QV,uX0,jN,xP,xO,xt])
theorem q2g{l:List Nat}:(l.all λ_a=>true)=true:=Rh.mpr λ_a _a=>rfl
noncomputable def IoS(t:T):Prop:=(∃i,t=.int i)\/∃z,t=.str z
theorem RowI.flat(h:RowI n ds):∀t∈ds,IoS t:=by
 have i:∀{z:Int},IoS (.int z):=.inl ⟨_,rfl⟩;have s:∀{z:Str},IoS (.str z):=.inr ⟨_,rfl⟩;have n0:∀t∈([]:List T),IoS t:=λt h=>by simp at h
 have c:∀{x:T}{xs:List T},IoS x->(∀t∈xs,IoS t)->∀t∈x::xs,IoS t:=λhx h t ht=>(Da.mp ht).elim (λe=>e▸hx) (h t);cases h with
 |deed w r h=>cases h<;>first|exact c s (c i (c i n0))|exact c s (c i (c i (c i n0)))|exact c s (c i (c s n0))
 |_=>first|exact c s (c i (c i (c i n0)))|exact c s (c i (c s (c i n0)))|exact c s (c i n0)|exact c s n0
theorem q2G(h:∀t∈ds,IoS t):EqT (n+1) (.tup ds) (.tup ds) true:=by
 have:=EqT.tup (n:=n) (xs:=ds) (ys:=ds) (e:=λ_a=>true) λj x y hx hy=>by
  rw[hx]at hy;cases hy;rcases h x (U0 hx) with⟨i,rfl⟩|⟨z,rfl⟩
  ·have:=EqT.flat (n:=n) (a:=.int i) (b:=.int i) rfl rfl
   simpa[eqV]using this
  ·have:=EqT.flat (n:=n) (a:=.str z) (b:=.str z) rfl rfl
   simpa[eqV]using this
 rw[q2g]at this;simpa using this
noncomputable abbrev sLaw:Stmt:=top 94
theorem scLaw:q00 ["script","bag","most","fewer","some","handed","allowed","due","found"] ["script"] (qd sLaw):=by ac_rfl
theorem q43(F:Fun Ξ "law" "law" sLaw f fd)(N:Nms mg)(eC:q02 P w Ξ mg base C "PlainStore" 1 ["self"] (spU (Zw C)))(fR:Def P w Ξ mg base "_law_bag" 1 ["script"] (q4r Ξ))(a8:Def P w Ξ mg base "_law_draw" 1 ["bag","many"] (spU jT))(bh:Def P w Ξ mg base "_law_some_script" 7 ["bag","most"] (spU kY))(b8:Def P w Ξ mg base "_law_fresh" 1 [] (spU Zx))(bB:Def P w Ξ mg base "_law_walk" 6 ["own","script","most"] (spU q1t))(bP:Def P w Ξ mg base "plain_run" 11 ["script","most"] (spU Zt))(eD:Def P w Ξ mg base "go" 10 ["script","store","most"] (spU (gGo C D)))(aK:Def P w Ξ mg base "_law_alike" 6 ["found","due"] (spP (JU 5)))(bi:Def P w Ξ mg base "_law_gone_by_hand" 11 ["bag","script","most"] (spU W0)):FnOk P w Ξ mg base CX0 12 f fd ["script"] (Yo Ξ):=by
 refine q4q F scLaw (by decide) (λac A outer s H E hr=>?_);refine⟨_,(qb (qB (i:=1) scLaw.nd rfl GL (qo fR (YV hr) (qa1 qv0))) (qb (qB (i:=2) scLaw.nd rfl GL (qj (GO Ξ) (qG (qa3 (qo a8 (YV hr) (qa2 qv1 qa)) qa (qo a8 (YV hr) (qa2 qv1 qa)))) (qo a8 (YV hr) (qa2 qv1 qa)) (λ_a _a=>rfl))) (qb (qB (i:=3) scLaw.nd rfl GL (qo a8 (YV hr) (qa2 qv1 (qC vz qv2 qa)))) (qb (qB (i:=4) scLaw.nd rfl GL (qo bh (YV hr) (qa2 qv1 qv2))) (qb (qB (i:=5) scLaw.nd rfl GL (vL zj (by rfl) N.list jg (qa1 qv4))) (qb (xu PassesOwn.never rfl (v9 (Ξ:=Ξ) rfl (qG (qa3 qv2 qv3 qv2))) (vb (i:=6) scLaw.nd rfl GL) (qb (qB (i:=7) scLaw.nd rfl GL (qo bB (YV hr) (qa3 (kG b8 (YV hr)) qv4 qv6))) (qe (xu PassesOwn.never rfl (v9 (Ξ:=Ξ) rfl (qG (qa2 (qo bP (YV hr) (qa2 qv5 qv6)) (qo eD (YV hr) (qa3 qv5 (YS eC (YV hr) rfl) qv6))))) (vb (i:=8) scLaw.nd rfl GL) (qb (qP (Xv (q3K (Qr (vJ (qo aK (YV hr) (qa2 (qv 8) qv7)))) (YM (qi (q4z (Ξ:=Ξ) rfl hr.units) qv5 qv4 (qm _))))) (qe (qt Vn)) qx) (qe (v3 (q0t PySem.F.slot_list_append PySem.F.type_list_append xc (qj (GQ Ξ) (qv 8) qa (λ_a _a=>rfl)) (qa1 qc))))))))) (qe (qt (qo bi (YV hr) (qa3 qv1 qv4 qv3)))))))))),_,(qy (by right) (qy (by right) (qy (by right) (qy (by right) (qy (k8 (by right) (ve 6) (qy (by right) (k8 (X8 (k9 (ql (by right) (ql (vA (ql (qr 5) (ql (Qa qJ) (by right)))) qJ)))) (ve 8) (qy (zd (q7r (Gk (ct_b (J7 (by right)))) (ju (jf q3U (qr 5) (qr 4)))) (by right) vj) (by right))))) (by right)))))),λo B=>?_⟩;symm;refine q0y B (by decide) (by decide) λd1 o1 iH mj B1=>?_;refine q0y B1 (by decide) (by decide) λd2 o2 iD m4 B2=>?_;symm;refine q0y B2 (by decide) (by decide) λd3 o3 ml mm B3=>?_;obtain⟨n,mi,hn⟩:∃n:Nat,atI [T.int d1,T.int 400,T.int d2] d3=some (.int (n:Int))/\n<=400:=by
  rcases(show d3=0\/d3=1\/d3=2 by lia)with rfl|rfl|rfl
  ·exact⟨d1.toNat,by rw[Dw iH];rfl,by lia⟩
  ·exact⟨400,rfl,UZ _⟩
  ·exact⟨d2.toNat,by rw[Dw iD];rfl,by lia⟩
 refine qX mi ?_;symm;refine q0y B3 (by lia) (Do (DD _) (by lia)) λf4 o4 sw nJ B4=>?_;obtain⟨f4,rfl⟩:∃j:Nat,f4=(j:Int):=⟨f4.toNat,by lia⟩;symm;refine⟨0,o4,n,rfl,rfl,B4,hn,λrows M1 o5 B5 sx _ _ S ⟨e,ns,ay,au,W⟩=>?_⟩;symm;refine⟨_,_,rfl,rfl,?_⟩;symm;have hf:f4<=n:=by lia
 have nK:∀{Q:T->Prop},Q (.bl false)->sEqL true (.lst (rows.map T.tup)) (.lst (rows.map T.tup)) Q:=λq=>⟨_,_,rfl,rfl,.inr ⟨rfl,λ_a=>true,λj x y hx hy=>by
  rw[hx]at hy;cases hy;rw[Dh]at hx;cases hd:rows[j]? with
  |none=>rw[hd]at hx;cases hx
  |some ds=>
   rw[hd]at hx;cases hx;exact q2G (S.r ds (U0 hd)).flat,by rw[q2g];exact q⟩⟩
 refine ke (λi ρ M2=>∃x6 x7 x8 ob,ρ=[none,some (.m 0),some (.p (.int (n:Int))),some (.p (.int (f4:Int))),some (.p (.lst (rows.map T.tup))),some (.p (.lst (rows.map T.tup))),x6,x7,x8]/\BagO ob/\M2[0]?=some ob) ⟨_,_,_,o5,rfl,B5,sx⟩ ?_ ?_
 ·rintro i t ρ M2 ht ⟨x6,x7,x8,ob,rfl,Bo,hb⟩
  obtain⟨a,rfl,ha⟩:∃a:Nat,t=.int (a:Int)/\a<=n:=by
   match i,ht with
   |0,ht=>cases ht;exact⟨n,rfl,UZ _⟩
   |1,ht=>cases ht;exact⟨f4,rfl,hf⟩
   |2,ht=>cases ht;exact⟨n,rfl,UZ _⟩
   |i+3,ht=>simp at ht
  obtain⟨e,ns,ay,au,W⟩:=W.less a ha;symm;refine⟨rfl,?_⟩;symm;refine⟨oF M2.length,wsN, [],rows,a,e,ns,ay,au,rfl,Xz,by lia,by show 0+a<=1000;lia,W.up,λM3 o' k0 mz O' g sA mB a1 a2=>?_⟩;have l3:=g.len;rw[UV]at l3 sA mB;have nL:M3[0]?=some ob:=by
   have:=(UR.mp hb).1;rw[g.fr 0 (by rw[UV];lia) λj _a z=>by unfold oF at z;split at z<;>lia];exact(zH this).trans hb
  symm;refine⟨rows,a,e,ns,ay,au,rfl,by lia,W,λM4 k1 gf l4 sB nG hnk1 b1 b2=>?_⟩;symm;refine⟨M4.length,rfl,qK,?_⟩;have e0:(M4++[MO.ins C []]++[hl id wsN]).set M4.length (.ins C [("held",.m (M4.length+1))])=M4++[.ins C [("held",.m (M4.length+1))],hl id wsN]:=by
   rw[Db,DJ _ _ (UZ _),DA];rfl
  have e1:(M4++[MO.ins C []]).length=M4.length+1:=by rw[UV];rfl
  refine⟨rfl,?_⟩;rw[e1,show hl id (List.replicate 8 (.one "none"))=hl id wsN from rfl,e0];symm;refine⟨λi=>i+M4.length,wsN, [],rows,a,e,ns,ay,au,by show _=[_,U.m (0+M4.length),_];rw[Rg],sto_new,by lia,by show 0+a<=1000;lia,W,λM5 s5 k2 i5 S5 g5 gN mC c1 c2=>?_⟩;have l5:=g5.len;rw[UV]at l5 gN mC;have eZ:∀j,j<M4.length->M5[j]?=M4[j]?:=λj hj=>by
   rw[g5.fr j (by rw[UV];lia) λx _a z=>by have z:j=x+M4.length:=z;lia];exact zH hj
  symm;have sC:=(UR.mp a1).1;have sD:=(UR.mp a2).1;have sE:=(UR.mp b1).1;have sF:=(UR.mp b2).1;have sG:=(UR.mp c1).1;have sH:=(UR.mp c2).1;have lb:=(UR.mp nL).1;have cL:ns.length<=400:=Dm W.dep.1 (by lia);have mD:∀j,j<M3.length->(M5++[MO.lst [U.m k1,U.m k2]])[j]?=M3[j]?:=λj hj=>by rw[zH (by lia),eZ j (by lia),sB j hj]
  have nM:∀j,j<M4.length->(M5++[MO.lst [U.m k1,U.m k2]])[j]?=M4[j]?:=λj hj=>by rw[zH (by lia),eZ j hj]
  refine WL (k:=M5.length) qK ?_;refine q0v (λj ρ M7=>∃x8,ρ=[none,some (.m 0),some (.p (.int (n:Int))),some (.p (.int (f4:Int))),some (.p (.lst (rows.map T.tup))),some (.p (.lst (rows.map T.tup))),some (.p (.int (a:Int))),some (.m k0),x8]/\M7[M5.length]?=some (.lst [.m k1,.m k2])/\M7[0]?=some ob/\M7[k0]?=some (.tup [.p e,.m mz])/\M7[mz]?=some (.lst (ns.map U.p))/\(j=0->M7[k1]?=some (.tup [.p e,.m gf])/\M7[gf]?=some (.lst (ns.map U.p)))/\(j<=1->M7[k2]?=some (.tup [.p e,.m i5])/\M7[i5]?=some (.lst (ns.map U.p)))) ⟨_,rfl,qK,(mD 0 lb).trans nL,(mD k0 sC).trans a1,(mD mz sD).trans a2,λ_a=>⟨(nM k1 sE).trans b1,(nM gf sF).trans b2⟩,λ_a=>⟨(zH sG).trans c1,(zH sH).trans c2⟩⟩ (λj ρ M7 ⟨_,_,h,_⟩=>h) ?_ ?_
  ·rintro j u ρ M7 hu ⟨x8,rfl,hl,iL,h1,h2,hV,eR⟩
   match j,hu with
   |0,hu=>
    cases hu;obtain⟨f1,f2⟩:=hV rfl;obtain⟨g1,g2⟩:=eR (by lia);left;refine⟨[_,_],by simp only[frzs,jt f1 f2,jt h1 h2],_,rfl,W.deep (by lia),?_⟩;left;refine⟨⟨_,rfl⟩,nK ?_⟩;left;refine xK (us:=[.p e,.m gf]) (by simp[vo,f1]) rfl ?_;refine Vy f2 ?_;left;refine⟨_,f2,qF (by rw[UY];lia),?_⟩;left;have ne:∀{x:Nat},x≠gf->∀o,(M7.set gf o)[x]?=M7[x]?:=λh o=>UW (Ne.symm h);exact⟨_,rfl,(ne (by lia) _).trans hl,(ne (by lia) _).trans iL,(ne (by lia) _).trans h1,(ne (by lia) _).trans h2,λz=>absurd z (by lia),λ_a=>⟨(ne (by lia) _).trans g1,(ne (by lia) _).trans g2⟩⟩
   |1,hu=>
    cases hu;obtain⟨f1,f2⟩:=eR (by lia);left;refine⟨[_,_],by simp only[frzs,jt f1 f2,jt h1 h2],_,rfl,W.deep (by lia),?_⟩;left;refine⟨⟨_,rfl⟩,nK ?_⟩;left;refine xK (us:=[.p e,.m i5]) (by simp[vo,f1]) rfl ?_;refine Vy f2 ?_;left;refine⟨_,f2,qF (by rw[UY];lia),?_⟩;left;have ne:∀{x:Nat},x≠i5->∀o,(M7.set i5 o)[x]?=M7[x]?:=λh o=>UW (Ne.symm h);exact⟨_,rfl,(ne (by lia) _).trans hl,(ne (by lia) _).trans iL,(ne (by lia) _).trans h1,(ne (by lia) _).trans h2,λz=>absurd z (by lia),λz=>absurd z (by lia)⟩
   |j+2,hu=>simp at hu
  ·rintro ρ M7 ⟨x8,rfl,hl,iL,h1,h2,hV,eR⟩
   exact⟨_,_,_,ob,rfl,Bo,iL⟩
 ·rintro ρ M2 ⟨x6,x7,x8,ob,rfl,Bo,hb⟩
  symm;exact⟨0,ob,rows,f4,rfl,hb,Bo,S,by lia,λM'=>rfl⟩
noncomputable abbrev Kq:Stmt:=qk (top 58) 1
noncomputable abbrev TxPs:=@TxP
noncomputable abbrev q5k:=@TxQ
noncomputable abbrev q4j:=@TxM
end
end Mw
local macro_rules|`(tactic|walk_at "fk")=>`(tactic|(refine' L2.fun_mk ?l ?c ?k; (case l=>k_is); (case c=>k_is); (case k=>k_is)))
local macro_rules|`(tactic|walk_at "fg")=>`(tactic|(refine' ⟨?n,?m⟩; (case n=>show _=_; k_is); (case m=>walk_at "fk")))
local macro_rules|`(tactic|walk_at "mg")=>`(tactic|(refine' ⟨?u,?n,?m⟩; (case u=>k_is); (case n=>k_is); (case m=>walk_at "fk")))
namespace Mw
open PySem L2
structure FG(K:PySem.W.Frag)(x:Str)(s:Stmt)(f:Addr)(d:FuncData):Prop where
 a:W.nsIn K mainGlobals x=some (some (.ref f))
 F:Fun K x x s f d
structure MG(K:PySem.W.Frag)(C:Addr)(x q:Str)(s:Stmt)(f:Addr)(d:FuncData):Prop where
 a:W.findIn K (.ref C) x=some (some (.ref f))
 n:W.isFn K (.ref f)=true
 F:Fun K x q s f d
structure GB(P:Program)(w:World)(K:PySem.W.Frag)(mg:Str->Option Value)(base h:Heap):Prop where
 X:K.In h
 G:h.Ns mainGlobals mg
theorem mk1{P:Program}{w:World}{K:PySem.W.Frag}{h base:Heap}{mg:Str->Option Value}{x:Str}{st:Stmt}{f:Addr}{d:FuncData}{k:Nat}{ps:List Str}{sp:Sp}(B:GB P w K mg base h)(A:FG K x st f d)(F:FnOk P w K mg base CX0 k f d ps sp)(b:∀(kV bI pm:Value)(an:Option Addr)(ac ct:Value)(us:List Value),us.length=ps.length->bindArgs (W.fnOf x x (zA st) (vi st) (qd st) .none kV bI pm an ac ct) ⟨us, []⟩=pure (ps.zip us)):Def P w K mg base x k ps sp:=⟨f,_,RI B.X B.G A.a,A.F.kp,A.F.binds b,F⟩
theorem mk1X{P:Program}{w:World}{K:PySem.W.Frag}{h base:Heap}{mg:Str->Option Value}{x:Str}{st:Stmt}{f:Addr}{d:FuncData}{k:Nat}{ps:List Str}{sp:Sp}(B:GB P w K mg base h)(A:FG K x st f d)(F:FnOk P w K mg base (CXe P w) k f d ps sp)(b:∀(kV bI pm:Value)(an:Option Addr)(ac ct:Value)(us:List Value),us.length=ps.length->bindArgs (W.fnOf x x (zA st) (vi st) (qd st) .none kV bI pm an ac ct) ⟨us, []⟩=pure (ps.zip us)):DefX P w K mg base x k ps sp:=⟨f,_,RI B.X B.G A.a,A.F.kp,A.F.binds b,F⟩
theorem mk2{C:Addr}{q:Str}{P:Program}{w:World}{K:PySem.W.Frag}{h base:Heap}{mg:Str->Option Value}{x:Str}{st:Stmt}{f:Addr}{d:FuncData}{k:Nat}{ps:List Str}{sp:Sp}(B:GB P w K mg base h)(A:MG K C x q st f d)(F:FnOk P w K mg base CX0 k f d ps sp)(b:∀(kV bI pm:Value)(an:Option Addr)(ac ct:Value)(us:List Value),us.length=ps.length->bindArgs (W.fnOf x q (zA st) (vi st) (qd st) .none kV bI pm an ac ct) ⟨us, []⟩=pure (ps.zip us)):MDef P w K mg base C x k ps sp:=⟨f,_,⟨A.a,A.n,A.F.kp⟩,A.F.binds b,F⟩
theorem mk2X{C:Addr}{q:Str}{P:Program}{w:World}{K:PySem.W.Frag}{h base:Heap}{mg:Str->Option Value}{x:Str}{st:Stmt}{f:Addr}{d:FuncData}{k:Nat}{ps:List Str}{sp:Sp}(B:GB P w K mg base h)(A:MG K C x q st f d)(F:FnOk P w K mg base (CXe P w) k f d ps sp)(b:∀(kV bI pm:Value)(an:Option Addr)(ac ct:Value)(us:List Value),us.length=ps.length->bindArgs (W.fnOf x q (zA st) (vi st) (qd st) .none kV bI pm an ac ct) ⟨us, []⟩=pure (ps.zip us)):q3l P w K mg base C x k ps sp:=⟨f,_,⟨A.a,A.n,A.F.kp⟩,A.F.binds b,F⟩
theorem ln1{α:Type}:∀{l:List α},l.length=1->∃a,l=[a]
 | [a],_=>⟨a,rfl⟩
theorem ln2{α:Type}:∀{l:List α},l.length=2->∃a b,l=[a,b]
 | [a,b],_=>⟨a,b,rfl⟩
theorem ln3{α:Type}:∀{l:List α},l.length=3->∃a b c,l=[a,b,c]
 | [a,b,c],_=>⟨a,b,c,rfl⟩
theorem ln4{α:Type}:∀{l:List α},l.length=4->∃a b c d,l=[a,b,c,d]
 | [a,b,c,d],_=>⟨a,b,c,d,rfl⟩
theorem ln5{α:Type}:∀{l:List α},l.length=5->∃a b c d e,l=[a,b,c,d,e]
 | [a,b,c,d,e],_=>⟨a,b,c,d,e,rfl⟩
set_option hygiene false
local macro_rules|`(tactic|walk_at "bn")=>`(tactic|(intro _ _ _ _ _ _ _ h; first|(obtain⟨_,rfl⟩:=ln1 h; rfl)|(obtain⟨_,_,rfl⟩:=ln2 h; rfl)|(obtain⟨_,_,_,rfl⟩:=ln3 h; rfl)|(obtain⟨_,_,_,_,rfl⟩:=ln4 h; rfl)|(obtain⟨_,_,_,_,_,rfl⟩:=ln5 h; rfl)))
noncomputable abbrev GS(K:PySem.W.Frag)(x:Str)(v:Value):=W.nsIn K mainGlobals x=some (some v)
noncomputable abbrev GT(K:PySem.W.Frag)(x:Str):=W.nsIn K mainGlobals x=some none
theorem all_mk{l:PySem.W.OpenLaw}{w:World}{K:PySem.W.Frag}{h:Heap}{mg:Str->Option Value}(X:K.In h)(G:h.Ns mainGlobals mg)(sJ:mg "law" = some (.ref fa))(ca1:GS K "PlainStore" (.ref C1))(cb1:W.plainGet K C1 Str.empty=true)(cc1:W.hasDictIn K C1=true)(cd1:W.plainOver K C1=true)(ce1:W.findIn K (.ref C1) "__setattr__" = some (some (.builtin "object.__setattr__")))(cf1:W.makesIn K C1=true)(cg1:W.keepIn K (.ref C1)=true)(ch1_1:W.findIn K (.ref C1) "held" = some none)(ca2:GS K "Pair" (.ref C2))(cb2:W.plainGet K C2 Str.empty=true)(cc2:W.hasDictIn K C2=true)(cd2:W.plainOver K C2=true)(ce2:W.findIn K (.ref C2) "__setattr__" = some (some (.builtin "object.__setattr__")))(cf2:W.makesIn K C2=true)(cg2:W.keepIn K (.ref C2)=true)(ch2_1:W.findIn K (.ref C2) "left" = some none)(ch2_2:W.findIn K (.ref C2) "right" = some none)(ca3:GS K "Moves" (.ref C3))(cb3:W.plainGet K C3 Str.empty=true)(cc3:W.hasDictIn K C3=true)(cd3:W.plainOver K C3=true)(ce3:W.findIn K (.ref C3) "__setattr__" = some (some (.builtin "object.__setattr__")))(cf3:W.makesIn K C3=true)(cg3:W.keepIn K (.ref C3)=true)(ch3_1:W.findIn K (.ref C3) "store" = some none)(ch3_2:W.findIn K (.ref C3) "layings" = some none)(ch3_3:W.findIn K (.ref C3) "when" = some none)(ch3_4:W.findIn K (.ref C3) "turn" = some none)(xaNought:GS K "Nought" (.ref CENought))(xoNought:W.excIn K CENought [.type "ValueError",.type "Exception",.type "BaseException",.type "object"] "ValueError.__new__" = true)(xaWk:GS K "WrongKind" (.ref CEWk))(xaWordError:GS K "WordError" (.ref CEWordError))(EWk_Wk:W.exmOne K (.ref CEWk) (.ref CEWk)=some true)(ENought_Wk:W.exmOne K (.ref CENought) (.ref CEWk)=some false)(ENought_Nought:W.exmOne K (.ref CENought) (.ref CENought)=some true)(A1:FG K "_law_bag" sBag f1 d1)(A2:FG K "_law_draw" q1I f2 d2)(A3:FG K "_law_alike" Zc f3 d3)(a4:W.findIn K (.ref CEWk) "__init__" = some (some (.ref f4)))(F4:Fun K "__init__" "WrongKind.__init__" Z7 f4 d4)(A5:FG K "kind_of" Xk f5 d5)(A6:MG K C1 "__init__" "PlainStore.__init__" Xh f6 d6)(A7:MG K C2 "__init__" "Pair.__init__" kr f7 d7)(A8:MG K C1 "number" "PlainStore.number" ko f8 d8)(A9:MG K C1 "one" "PlainStore.one" Yw f9 d9)(A10:MG K C1 "sign" "PlainStore.sign" Z9 f10 iH)(A11:MG K C1 "copy" "PlainStore.copy" Xi f11 mj)(A12:MG K C1 "pair" "PlainStore.pair" Xd f12 d12)(A13:MG K C1 "same" "PlainStore.same" Xa f13 d13)(A14:MG K C1 "kind" "PlainStore.kind" Xg f14 d14)(A15:MG K C1 "told" "PlainStore.told" Z8 f15 d15)(A16:FG K "need_numbers" zO f16 d16)(A17:FG K "need_divisor" zQ f17 d17)(A18:FG K "need_pair" ku f18 d18)(A19:MG K C1 "pair_in" "PlainStore.pair_in" km f19 d19)(A20:MG K C1 "plus" "PlainStore.plus" Xc f20 iD)(A21:MG K C1 "less" "PlainStore.less" Xf f21 m4)(A22:MG K C1 "times" "PlainStore.times" Vb f22 d22)(A23:MG K C1 "over" "PlainStore.over" Xe f23 d23)(A24:MG K C1 "rest" "PlainStore.rest" Xb f24 d24)(A25:MG K C1 "below" "PlainStore.below" Vd f25 d25)(A26:MG K C1 "first" "PlainStore.first" Vc f26 d26)(A27:MG K C1 "second" "PlainStore.second" kj f27 d27)(A28:MG K C1 "set_first" "PlainStore.set_first" xB f28 d28)(A29:MG K C1 "set_second" "PlainStore.set_second" zN f29 d29)(A30:FG K "_law_deed_done" ky f30 ml)(A31:FG K "_law_done" q3S f31 mm)(A32:FG K "_law_own_kind" Ve f32 d32)(A33:FG K "_law_reckoned" ki f33 d33)(A34:FG K "_law_own_numbers" xC f34 d34)(A35:FG K "_law_own_do" Yx f35 d35)(A36:FG K "_law_own_ask" Xj f36 d36)(A37:FG K "_law_any_number" jq f37 d37)(A38:FG K "_law_deed_of" Xm f38 d38)(A39:FG K "_law_row_done" Va f39 d39)(A40:FG K "_law_row_gone" Q9 sw d40)(A41:FG K "_law_fresh" Yz nJ d41)(A42:FG K "_law_walk" q4e f42 d42)(A43:FG K "do_with_worth" zS f43 d43)(A44:FG K "do_with_two" jo f44 d44)(A45:FG K "do_with_three" zT f45 d45)(A46:FG K "do_deed" Xl f46 d46)(A47:FG K "holds" Yy f47 d47)(A48:FG K "row_behind" jm f48 d48)(A49:MG K C3 "__init__" "Moves.__init__" jn f49 d49)(A50:MG K C3 "move" "Moves.move" Kq f50 m6)(A51:MG K C3 "ahead" "Moves.ahead" xD f51 m7)(A52:FG K "gone_through" zR f52 d52)(A53:FG K "go" sGo f53 d53)(A54:FG K "plain_run" kq f54 d54)(A55:FG K "_law_letters" Vf f55 d55)(A56:FG K "_law_part" q3F f56 d56)(A57:FG K "_law_any_row" Xn f57 d57)(A58:FG K "_law_any_script" jp f58 d58)(A59:FG K "_law_body_row" Vg f59 d59)(A60:FG K "_law_long_script" xE f60 hG)(A61:FG K "_law_some_script" xA f61 iJ)(A62:FG K "_law_some_deeds" jl f62 d62)(A63:FG K "_law_gone_by_hand" xF f63 d63)(A64:FG K "law" sLaw f64 d64)(CWk:ExcK K CEWk f4)(xk8Wk:W.findIn K (.ref CEWk) "part" = some none)(xb1WordError:W.specialIn K (.ref CEWordError) "__getattribute__" = some (some (.builtin "type.__getattribute__")))(xb2WordError:W.readsIn K CEWordError (.type "type")=true)(xb3WordError:W.findCls K (.ref CEWordError) (.type "type") "__init__" = some (.val (.builtin "ValueError.__init__")))(xt1Pair:W.findIn K (.ref C2) "__class__" = some (some (.builtin "object.__class__")))(xt2Pair:W.specialIn K (.builtin "object.__class__") "__get__" = some (some (.builtin "getset_descriptor.__get__")))(xt3Pair:W.takesIn K (.builtin "object.__class__")=some true)(xt4Pair:W.mroIn K C2 (.type "object")=some true)(xtnPair:∀c:TyC,W.kitOne K (.ref C2) (.type c.name)=some false)(xt5Pair:KW K C2=true)(z1:GT K "abs")(z2:GT K "len")(z3:GT K "min")(z4:GT K "max")(z5:GT K "sum")(z6:GT K "sorted")(z7:GT K "all")(z8:GT K "any")(z9:GT K "isinstance")(z10:GT K "range")(z11:GT K "int")(z12:GT K "list")(z13:GT K "str")(z14:GT K "bool")(z15:GT K "tuple")(z16:GT K "zip")(z17:GT K "enumerate")(z18:GT K "dict")(g1:W.nsIn K mainGlobals "REGISTERS" = some (some (.int 8 gk1))):
  ∃fd:FuncData,(∀(s:Shared)(v:Value),BindsTo s fd ⟨[v], []⟩ [("script", v)])/\∀base:Heap,K.In base->base.Ns mainGlobals mg->FnOk l.prog w K mg base CX0 12 fa fd ["script"] (Yo K):=by
 have e:=sJ.symm.trans (RI X G A64.a);cases e;have mo:=λ{x:Str}{v:Value} (a:W.nsIn K mainGlobals x=some (some v))=>RI X G a;have mn:=λ{x:Str} (a:W.nsIn K mainGlobals x=some none)=>W.mg_none_of X G a;have N:Nms mg:=⟨mn z1,mn z2,mn z3,mn z4,mn z5,mn z6,mn z7,mn z8,mn z9,mn z10,mn z11,mn z12,mn z13,mn z14,mn z15,mn z16,mn z17,mn z18⟩;have fL:GInt mg "REGISTERS" 8:=⟨_,mo g1⟩;have aB:Cls K C1:=⟨cb1,cc1,cd1,ce1⟩;have cf:TxPs K C1:=⟨aB,ch1_1⟩;have eS:Cls K C2:=⟨cb2,cc2,cd2,ce2⟩;have cD:q5k K C2:=⟨eS,ch2_1,ch2_2⟩;have aZ:Cls K C3:=⟨cb3,cc3,cd3,ce3⟩;have cT:q4j K C3:=⟨aZ,ch3_1,ch3_2,ch3_3,ch3_4⟩;have aL:ExcC K mg "Nought" CENought:=⟨mo xaNought,xoNought⟩;have fN:NoAttr K CEWk "part" := xk8Wk;have dW:=mo xaWk;have cU:q4c K mg "WordError" CEWordError:=⟨mo xaWordError,xb1WordError,xb2WordError,xb3WordError⟩;have bw:=mo xaNought;have bX:q0m K C2:=⟨eS,xt1Pair,xt2Pair,xt3Pair,xt4Pair,xtnPair⟩;have cj:=xt5Pair;have b3:=A3.F.binds (ps:=["found","due"]) λ_a _a _a _a _a _a _a h=>by obtain⟨_,_,rfl⟩:=ln2 h;rfl
 have b4:=F4.binds (ps:=["self","part"]) λ_a _a _a _a _a _a _a h=>by obtain⟨_,_,rfl⟩:=ln2 h;rfl
 have b6:=A6.F.binds (ps:=["self"]) λ_a _a _a _a _a _a _a h=>by obtain⟨_,rfl⟩:=ln1 h;rfl
 have b7:=A7.F.binds (ps:=["self","left","right"]) λ_a _a _a _a _a _a _a h=>by obtain⟨_,_,_,rfl⟩:=ln3 h;rfl
 have sK:=A41.F.binds (ps:=[]) λ_a _a _a _a _a _a us hl=>match us,hl with | [],_=>rfl
 have sL:=A49.F.binds (ps:=["self","store","layings","when"]) λ_a _a _a _a _a _a _a h=>by obtain⟨_,_,_,_,rfl⟩:=ln4 h;rfl
 have sM:=A50.F.binds (ps:=["self"]) λ_a _a _a _a _a _a _a h=>by obtain⟨_,rfl⟩:=ln1 h;rfl
 have sN:=A55.F.binds (ps:=[]) λ_a _a _a _a _a _a us hl=>match us,hl with | [],_=>rfl
 refine⟨d64,λs v=>?_,λbase _a _a=>?_⟩
 ·obtain⟨_,_,_,_,_,_,_,_,_,rfl,_⟩:=A64.F.ex
  exact .of_eq rfl
 have B:GB l.prog w K mg base h:=⟨X,G⟩;have fR:=mk1 B A1 (q51 A1.F N) (by ac_nf);have a8:=mk1 B A2 (q1r A2.F N) (by ac_nf);have aK:=mk1 B A3 (KF A3.F N (mo A3.a) A3.F.kp b3) (by ac_nf);have fM:ExcD l.prog w K mg base "WrongKind" CEWk 1:=⟨mo xaWk,f4,_,CWk,b4,q0j F4 CWk fN cU⟩;have bj:=mk1 B A5 (q15 A5.F N bX) (by ac_nf);have eC:q02 l.prog w K mg base C1 "PlainStore" 1 ["self"] (spU (Zw C1)):=⟨f6,_,⟨cf1,A6.a,A6.n,cg1⟩,mo ca1,b6,Wf A6.F cf fL⟩;have dI:q02 l.prog w K mg base C2 "Pair" 1 ["self","left","right"] (spU (WS C2)):=⟨f7,_,⟨cf2,A7.a,A7.n,cg2⟩,mo ca2,b7,Y4 A7.F cD⟩;have aN:=mk2 B A8 (XC (D:=C2) A8.F N cf) (by ac_nf);have bL:=mk2 B A9 (q1D (D:=C2) A9.F N cf) (by ac_nf);have bn:=mk2 B A10 (Y6 (D:=C2) A10.F N cf) (by ac_nf);have bo:=mk2 B A11 (Wg (D:=C2) A11.F N cf) (by ac_nf);have bu:=mk2 B A12 (Wa A12.F N cf dI) (by ac_nf);have bv:=mk2 B A13 (Y7 A13.F N cf cj) (by ac_nf);have aC:=mk2 B A14 (We A14.F N cf bj) (by ac_nf);have aM:=mk2 B A15 (Y5 A15.F N cf bj) (by ac_nf);have aa:=mk1X B A16 (Wj A16.F N aB fM aC) (by ac_nf);have aD:=mk1X B A17 (Wk A17.F N aB aL aa aM) (by ac_nf);have bK:=mk1X B A18 (Wi A18.F N aB fM aC) (by ac_nf);have am:=mk2X B A19 (KB A19.F N cf bK) (by ac_nf);have bp:=mk2X B A20 (Y9 A20.F N cf aa) (by ac_nf);have bq:=mk2X B A21 (Wc A21.F N cf aa) (by ac_nf);have aS:=mk2X B A22 (Kx A22.F N cf aa) (by ac_nf);have br:=mk2X B A23 (Wb A23.F N cf aD) (by ac_nf);have bt:=mk2X B A24 (Y8 A24.F N cf aD) (by ac_nf);have aU:=mk2X B A25 (Kz A25.F N cf aa) (by ac_nf);have aT:=mk2X B A26 (Ky A26.F N cf cD aB am) (by ac_nf);have aO:=mk2X B A27 (XB A27.F N cf cD aB am) (by ac_nf);have aF:=mk2X B A28 (Qh A28.F N cf cD aB am) (by ac_nf);have aE:=mk2X B A29 (kL A29.F N cf cD aB am) (by ac_nf);have bM:=mk1X B A30 (Vr A30.F N aB aN bn bL bo bp bq aS br bt bu aT aO aF aE aU bv aC aM) (by ac_nf);have df:=mk1 B A31 (q04 A31.F N aL CWk fN dW bw EWk_Wk ENought_Wk ENought_Nought bM) (by ac_nf);have ao:=mk1 B A32 (Zk A32.F N) (by ac_nf);have bN:=mk1 B A33 (q0A A33.F N) (by ac_nf);have bd:=mk1 B A34 (XD A34.F N ao bN) (by ac_nf);have bO:=mk1 B A35 (KC A35.F N ao bd) (by ac_nf);have bx:=mk1 B A36 (XE A36.F N ao) (by ac_nf);have aj:=mk1 B A37 (Qj A37.F N a8) (by ac_nf);have cn:=mk1 B A38 (XG A38.F N) (by ac_nf);have bY:=mk1 B A39 (Zj A39.F N bx bO) (by ac_nf);have c3:=mk1 B A40 (Zi A40.F N cn bY) (by ac_nf);have b8:Def l.prog w K mg base "_law_fresh" 1 [] (spU Zx):=⟨nJ,_,mo A41.a,A41.F.kp,sK,Wn A41.F N⟩;have bB:=mk1 B A42 (q0c A42.F N c3) (by ac_nf);have aX:=mk1 B A43 (Qe A43.F N aB aN bn bL) (by ac_nf);have bD:=mk1X B A44 (Zh A44.F N aB bo aT aO aF aE) (by ac_nf);have aY:=mk1X B A45 (Qf A45.F N aB bp bq aS br bt bu) (by ac_nf);have cp:=mk1X B A46 (XF A46.F N aX bD aY) (by ac_nf);have cR:=mk1X B A47 (Wm A47.F N aB aU bv aC) (by ac_nf);have bF:=mk1X B A48 (KD A48.F N aB cR aM cp) (by ac_nf);have cS:q02 l.prog w K mg base C3 "Moves" 1 ["self","store","layings","when"] (spU (WV C3)):=⟨f49,_,⟨cf3,A49.a,A49.n,cg3⟩,mo ca3,sL,Wl A49.F cT⟩;have bE:MDef l.prog w K mg base C3 "move" 1 ["self"] (spU gNo):=⟨f50,_,⟨A50.a,A50.n,A50.F.kp⟩,sM,FnOk.no⟩;have bf:=mk2 B A51 (Wp A51.F N cT aZ bE) (by ac_nf);have b5:=mk1 B A52 (q17 A52.F N cT aZ aL CWk fN dW bw EWk_Wk ENought_Wk ENought_Nought bf bF) (by ac_nf);have eD:=mk1 B A53 (q54 A53.F N cS b5) (by ac_nf);have bP:=mk1 B A54 (Vq A54.F N eC eD) (by ac_nf);have aV:Def l.prog w K mg base "_law_letters" 1 [] (spU xf):=⟨f55,_,mo A55.a,A55.F.kp,sN,jS A55.F⟩;have dM:=mk1 B A56 (Wh A56.F N a8 aj) (by ac_nf);have bV:=mk1 B A57 (XJ A57.F N aV dM) (by ac_nf);have bG:=mk1 B A58 (Qi A58.F N a8 aV bV) (by ac_nf);have c4:=mk1 B A59 (Zl A59.F N a8 aj) (by ac_nf);have bg:=mk1 B A60 (kM A60.F N a8 aj c4) (by ac_nf);have bh:=mk1 B A61 (kJ A61.F N a8 bG bg b8 bB) (by ac_nf);have ba:=mk1 B A62 (Qg A62.F N a8 aj df bO bx aK) (by ac_nf);have bi:=mk1 B A63 (XH A63.F N eC b8 ba bB aK eD) (by ac_nf);exact q43 A64.F N eC fR a8 bh b8 bB bP eD aK bi
theorem walk{l:PySem.W.OpenLaw}{q:Program}{loose:List Str}{XP:(Str->Option Value)->Heap->Prop}{YP:World->Heap->Prop}{d:DefRec}{K:Params->PySem.W.Frag}(hn:l.most=some 63)(gx:d.params.defaults=[])(hY:∀(w:World)(h:Heap),YP w h->(K w.params).In h)(F:∀(w:World)(mg:Str->Option Value)(fa:Addr)(h:Heap),(K w.params).In h->h.Ns mainGlobals mg->mg d.name=some (.ref fa) ->
   ∃fd:FuncData,(∀(s:Shared)(u:Value),BindsTo s fd ⟨[u], []⟩ [("script", u)])/\∀base:Heap,(K w.params).In base->base.Ns mainGlobals mg->FnOk l.prog w (K w.params) mg base CX0 12 fa fd ["script"] (Yo (K w.params))):
  PySem.W.WalkO q loose XP YP l.row.toRowW d [] (λf vs=>PySem.call f vs):=
 L2.walk_of (n:=63) (k:=12) (x := "script") (CX:=λ_a=>CX0) (sp:=λw=>Yo (K w.params)) hn (by decide) gx ⟨rfl,by decide,by decide,rfl⟩ hY F (λ_a _a a ns hl _a hS=>⟨a,ns,rfl,hS,hl,λ_a=>rfl⟩) λ_a _a _a _a _a z=>z
end Mw
open PySem PySem.W PyProof.Rows
set_option maxRecDepth 100000 in
set_option maxHeartbeats 0 in
theorem PySem.Challenge.cw_markwords_k65_plain_runs_holds : PySem.Challenge.rw_markwords_k65_plain_runs.Holds := by
 w_on; o_law
 refine Hd.close (q:=Mx.vw) (loose:=Mx.ls) (lv:=Mx.lv) (H:=kHook Mx.K Mx.KA Mx.K_as) (N:=12424) Mx.hLf9 (by rfl) (by rfl) (by rfl) (by rfl) (by assumption) (by decide +kernel) ⟨rfl,rfl,rfl,rfl,rfl,by decide +kernel⟩ ?hw ?hc
 case hw=>w_witness2
 k_fill
 refine Mw.walk (l:=PySem.Challenge.rw_markwords_k65_plain_runs) rfl rfl (fun w h Y=>PySem.W.kIn_of Y) ?F
 case F =>
  intro w mg fa h KX G hmg
  refine' Mw.all_mk KX G hmg ?ca1 ?cb1 ?cc1 ?cd1 ?ce1 ?cf1 ?cg1 ?ch1_1 ?ca2 ?cb2 ?cc2 ?cd2 ?ce2 ?cf2 ?cg2 ?ch2_1 ?ch2_2 ?ca3 ?cb3 ?cc3 ?cd3 ?ce3 ?cf3 ?cg3 ?ch3_1 ?ch3_2 ?ch3_3 ?ch3_4 ?xaNought ?xoNought ?xaWk ?xaWordError ?EWk_Wk ?ENought_Wk ?ENought_Nought ?A1 ?A2 ?A3 ?a4 ?F4 ?A5 ?A6 ?A7 ?A8 ?A9 ?A10 ?A11 ?A12 ?A13 ?A14 ?A15 ?A16 ?A17 ?A18 ?A19 ?A20 ?A21 ?A22 ?A23 ?A24 ?A25 ?A26 ?A27 ?A28 ?A29 ?A30 ?A31 ?A32 ?A33 ?A34 ?A35 ?A36 ?A37 ?A38 ?A39 ?A40 ?A41 ?A42 ?A43 ?A44 ?A45 ?A46 ?A47 ?A48 ?A49 ?A50 ?A51 ?A52 ?A53 ?A54 ?A55 ?A56 ?A57 ?A58 ?A59 ?A60 ?A61 ?A62 ?A63 ?A64 ?CWk ?xk8Wk ?xb1WordError ?xb2WordError ?xb3WordError ?xt1Pair ?xt2Pair ?xt3Pair ?xt4Pair ?xtnPair ?xt5Pair ?z1 ?z2 ?z3 ?z4 ?z5 ?z6 ?z7 ?z8 ?z9 ?z10 ?z11 ?z12 ?z13 ?z14 ?z15 ?z16 ?z17 ?z18 ?g1
  (case ca1|cb1|cc1|cd1|ce1|cf1|cg1|ch1_1|ca2|cb2|cc2|cd2|ce2|cf2|cg2|ch2_1|ch2_2|ca3|cb3|cc3|cd3|ce3|cf3|cg3|ch3_1|ch3_2|ch3_3|ch3_4|xaNought|xaWk|xaWordError|a4|z1|z2|z3|z4|z5|z6|z7|z8|z9|z10|z11|z12|z13|z14|z15|z16|z17|z18|g1=>show _=_;k_is)
  (case xoNought|EWk_Wk|ENought_Wk|ENought_Nought|xk8Wk|xb1WordError|xb2WordError|xb3WordError|xt1Pair|xt2Pair|xt3Pair|xt4Pair|xt5Pair=>kernel_rfl)
  (case A1|A2|A3|A5|A16|A17|A18|A30|A31|A32|A33|A34|A35|A36|A37|A38|A39|A40|A41|A42|A43|A44|A45|A46|A47|A48|A52|A53|A54|A55|A56|A57|A58|A59|A60|A61|A62|A63|A64=>walk_at "fg")
  (case F4=>walk_at "fk")
  (case A6|A7|A8|A9|A10|A11|A12|A13|A14|A15|A19|A20|A21|A22|A23|A24|A25|A26|A27|A28|A29|A49|A50|A51=>walk_at "mg")
  (case CWk=>constructor<;>kernel_rfl)
  (case xtnPair=>intro c; cases c<;>kernel_rfl)
