import PyProof.Rows.All
import Wide.All
import OpenK.AllK
import Wide.FinOn
import Lean
import PyProof.EqAt
import PyProof.EqKinds
import PyProof.TupleCall
import PyProof.NeKinds
import PyProof.RulesTry
import PyProof.ExcArgsOwn
import PyProof.InstStoreFacts
import PyProof.ExcInit
import PyProof.ExcClass3
import KE.KTryMore
import PyProof.NsDelKeeps
import PyProof.RulesAs
import PyProof.InstEq
import PyProof.Rows.EqMixed
import PyProof.FactsAll.tuple_1
import PySem.Challenge.RW_markwords_k65_plain_runs
set_option Elab.async false
set_option linter.all false
set_option maxRecDepth 100000
set_option maxHeartbeats 8000000
local macro_rules|`(tactic|ac_rfl)=>`(tactic|refine ⟨rfl,rfl,rfl,by decide +kernel,rfl,by decide +kernel,by decide +kernel⟩)
local macro_rules|`(tactic|ac_nf)=>`(tactic|walk_at "bn")
local macro_rules|`(tactic|rfl')=>`(tactic|walk_at "go")
set_option compiler.extract_closed false
local macro_rules|`(tactic|lia)=>`(tactic|first|lia (config := {})|omega)
local macro_rules|`(tactic|symm)=>`(tactic|walk_at "v")
local macro_rules|`(tactic|nofun)=>`(tactic|walk_at "u")
local macro_rules|`(tactic|left)=>`(tactic|walk_at "pk")
local macro_rules|`(tactic|right)=>`(tactic|walk_at "lk")
def Us:=@List.getElem?_eq_some_iff
def Ut:=@List.getElem?_eq_getElem
def Uu:=@List.length_append
def Uv:=@List.getElem?_set_ne
def Uw:=@List.length_map
def Ux:=@Nat.le_refl
def Uy:=@List.mem_of_getElem?
def Uz:=@List.getElem?_append_left
def UB:=@List.length_set
def UC:=@List.getElem?_set_self
def UD:=@List.mem_append
def UF:=@List.size_toArray
def UH:=@Bool.false_ne_true
def UJ:=@List.mem_singleton
def UL:=@List.length_cons
def UM:=@List.getElem?_append_right
def UN:=@List.append_assoc
def UP:=@Nat.lt_of_lt_of_le
def UQ:=@List.mem_cons
def UR:=@List.mem_append_right
def UU:=@Nat.ne_of_lt
def UV:=@List.mem_append_left
def UW:=@List.getElem?_map
def UY:=@List.not_mem_nil
def UZ:=@List.map_cons
def U0:=@List.lookup_cons
def U1:=@Nat.le_of_lt
def U2:=@List.append_nil
def U3:=@Nat.le_trans
def U4:=@List.mem_cons_of_mem
def U5:=@Nat.lt_of_le_of_lt
def U6:=@List.length_singleton
def U7:=@List.map_append
def U8:=@List.mem_filterMap
def U9:=@Bool.false_eq_true
def Da:=@PySem.W.kia_one
def Db:=@Nat.zero_le
def Dc:=@List.replicate_succ
def Dd:=@Int.toNat_of_nonneg
def De:=@PySem.W.kia_tup
def Df:=@Bool.and_eq_true
def Dg:=@List.length_nil
def Dh:=@Nat.sub_self
def Di:=@List.mem_cons_self
def Dj:=@List.length_take
def Dk:=@Nat.log2_le_self
def Dl:=@List.nodup_append
def Dm:=@Array.length_toList
def Dn:=@PySem.W.methodCall_KW
def Do:=@Int.emod_lt_of_pos
def Dp:=@List.set_append_right
def Dq:=@List.flatten_cons
def Dr:=@List.nil_append
def Ds:=@List.find?_cons
def Dt:=@Int.emod_nonneg
def Du:=@List.getElem?_cons_zero
def Dv:=@Option.map_eq_some_iff
def Dw:=@PySem.W.callWith_K
def Dx:=@List.set_set
def Dy:=@List.mem_map
def Dz:=@List.length_range
def DA:=@Int.fmod_eq_emod_of_nonneg
def DB:=@PySem.W.hideAll_none
def DC:=@List.length_drop
def DD:=@List.cons_append
def DF:=@PySem.W.hideAll_get
def DG:=@List.map_nil
def DH:=@PySem.W.nsMap_none_of_in
def DI:=@Nat.lt_irrefl
def DJ:=@List.getElem?_replicate
def DL:=@List.any_cons
def DM:=@List.set_comm
def DN:=@List.length_eq_zero_iff
def DO:=@List.getElem?_cons_succ
def DP:=@List.set_cons_zero
def DQ:=@List.set_cons_succ
def DR:=@PySem.W.kitx_list
def DS:=@PySem.W.kitx_dict
def DT:=@Bool.not_eq_true'
def DU:=@List.take_add_one
def DV:=@List.mem_range
def DW:=@Nat.zero_add
def DX:=@List.all_eq_true
def DY:=@List.take_length
def DZ:=@List.cons_ne_nil
def D0:=@List.getElem?_of_mem
def D1:=@List.mem_filter
def D2:=@List.filterMap_cons
def D3:=@Bool.eq_iff_iff
def D4:=@PySem.W.plainGet_of
def D5:=@PySem.W.findObj_own
def D6:=@PySem.W.callWith_K0
def D7:=@List.nodup_cons
def D8:=@List.forIn_cons
def D9:=@PySem.W.exm_one
def Ra:=@Int.fdiv_eq_ediv_of_nonneg
def Rb:=@Array.append_assoc
def Rc:=@Nat.le_of_eq
def Re:=@List.zip_cons_cons
def Rf:=@List.zip_nil_right
def Rg:=@List.pairwise_cons
def Rh:=@Nat.lt_succ_of_lt
def Ri:=@Option.isSome_iff_exists
def Rj:=@List.getElem?_take_of_lt
def Rk:=@List.zip_nil_left
def Rl:=@List.eq_of_mem_replicate
def Rm:=@List.all_cons
def Rn:=@Nat.add_sub_cancel_left
def Ro:=@PySem.W.mg_of
def Rp:=@List.getElem_inj
def Rq:=@Nat.lt_succ_self
def Rr:=@List.getElem_mem
def Rs:=@PySem.W.cellsFrom_some
def Ru:=@List.take_of_length_le
def Rv:=@Nat.eq_of_beq_eq_true
def Rw:=@List.of_mem_zip
def Rx:=@List.length_replicate
def Ry:=@List.foldl_cons
def Rz:=@Nat.lt_or_ge
def RA:=@List.take_append_drop
def RB:=@List.range_succ
def RC:=@Bool.and_eq_true_iff
def RD:=@Int.natAbs_neg
def RE:=@Nat.le_succ
def RF:=@Int.one_mul
def RG:=@Array.getElem?_push
def RH:=@List.map_congr_left
def RI:=@List.getElem?_range
def RJ:=@PySem.W.of_hideAll
def RK:=@Array.find?_toList
def RL:=@PySem.W.kitx_float
def RM:=@PySem.W.kitx_tuple
def RN:=@List.contains_cons
def RO:=@PySem.W.isNs_of_in
def RP:=@Int.lt_or_lt_of_ne
def RQ:=@List.map_set
def GD:=@PySem.wpAny_bind
def GE:=@PySem.wpAny_pure
def GF:=@PySem.wpAny_mono
def GG:=@PySem.wpAny_loadPart_at
def GH:=@if_neg
def GI:=@decide_eq_false
def GJ:=@congrFun
def GK:=@PySem.wpAny_holding
def GL:=@if_pos
def GM:=@congrArg
def GN:=@PySem.wpAny_isSubtype_exc
def GO:=@PySem.codeAny_call_builtin
def GP:=@PySem.wpAny_newObj_type
def GQ:=@PySem.wpAny_standAt
def GR:=@PySem.wpAny_Call_Name_kw
def GS:=@or_false
def GT:=@PyProof.Rows.assignInOrder_cons
def GU:=@PySem.wpAny_truthy_bool
def GV:=@PySem.wpAny_execs_nil
def GW:=@PySem.wpAny_execs_cons
def GX:=@PySem.sizeLine_eq
def GY:=@PySem.codeAny_handlers_test
def GZ:=@PySem.wpAny_call
def G0:=@PySem.wpAny_tryCompare_declines
def G1:=@PySem.wpAny_cRoomFor
def G2:=@if_false
def G3:=@beq_self_eq_true
def G4:=@PySem.wpAny_handleBy_cons
def G5:=@PySem.codeAny_mono
def G6:=@PySem.wpAny_passesOwn
def G7:=@PySem.strLen_append
def G8:=@PySem.wpAny_field
def G9:=@PySem.plainObj_wpAny_Assign_Attribute
def Ua:=@PySem.wpAny_Assign_Name
def Ub:=@PySem.wpAny_bindName
def Uc:=@if_true
def Ud:=@PySem.wpAny_specialOf
def Ue:=@PySem.codeAny_handlers_suite_as
def Uf:=@PyProof.Rows.assignInOrder_nil
def Ug:=@PySem.cmpInfo_Eq
def Uh:=@of_decide_eq_true
def Ui:=@PySem.wpAny_dictEntries
def Uj:=@decide_eq_true_eq
def Uk:=@PySem.wpAny_call_entry
def Ul:=@decide_eq_true
def Um:=@PySem.wpAny_Expr_any
def Uo:=@PySem.isSubtype_type
def Up:=@PySem.typeIs_none
def Uq:=@PySem.wpAny_rule
def Ur:=@PySem.call_meets
namespace L2
open PySem PySem.Spec PyProof.Rows
def qk(s:Stmt)(j:Nat):Stmt:=match s with
 |.ClassDef _ _ _ body _ _ _ _ _ _ _=>body.getD j (.Pass ⟨0,0,0,0⟩)
 |_=>.Pass ⟨0,0,0,0⟩
def zt(s:Stmt):Arguments:=match s with
 |.FunctionDef _ a _ _ _ _ _ _ _ _=>a
 |_=>{ posonlyargs:=[],args:=[],vararg:=none,kwonlyargs:=[],kw_defaults:=[],kwarg:=none,defaults:=[] }
def vi(s:Stmt):List Stmt:=match s with
 |.FunctionDef _ _ b _ _ _ _ _ _ _=>b
 |_=>[]
def qd(s:Stmt):Scope:=match s with
 |.FunctionDef _ _ _ _ _ _ sc _ _ _=>sc
 |_=>{ kind:=.function,names:=[],isGenerator:=false,isCoroutine:=false }
end L2
namespace Hd
open PySem PySem.W PySem.Calls PyProof.Rows
def topT(tb:String->Option Builtin)(p:Program)(w:World)(m:Nat)(an:Option Value):Nat->SharedT->Thread->Option SharedT
 |0,_,_=>none
 |k+1,s,t=>match through t with
  |true=>some s
  |false=>match stepOk m an t with
   |false=>none
   |true=>match stepT (denote tb) p w s t with
    |some (s1,t1)=>topT tb p w m an k s1 t1
    |none=>none
theorem X9{tb:String->Option Builtin}{p:Program}{w:World}{m:Nat}{an:Option Value} :
  ∀{k:Nat}{s r:SharedT}{t:Thread},topT tb p w m an k s t=some r->topRun tb p w m an k s.abs t=some r.abs
 |0,_,_,_,h=>by cases h
 |k+1,s,r,t,h=>by
  unfold topT at h;unfold topRun;cases ht:through t with
  |true=>rw[ht]at h;cases h;rfl
  |false=>
   rw[ht]at h;cases hk:stepOk m an t with
   |false=>rw[hk]at h;cases h
   |true=>
    rw[hk]at h;cases hs:stepT (denote tb) p w s t with
    |none=>rw[hs]at h;cases h
    |some x=>
     obtain⟨s1,t1⟩:=x;rw[hs]at h;rw[stepT_spec hs];exact X9 h
noncomputable def bootT(P:Params):BT :=
 .node (boot_o_0 P) (.node (boot_o_1 P) (.node (boot_o_3 P) (.node (boot_o_7 P) .nil .nil) .nil) (.node (boot_o_5 P) (.node (boot_o_9 P) .nil .nil) .nil))
  (.node (boot_o_2 P) (.node (boot_o_4 P) (.node (boot_o_8 P) .nil .nil) .nil) (.node (boot_o_6 P) (.node (boot_o_10 P) .nil .nil) .nil))
abbrev bootL:Life:={}
theorem Gp(P:Params):boot_heap P=absHeap (bootT P) 11 bootL:=by kernel_rfl
noncomputable def S0(w:World)(os:OsState):SharedT:=⟨bootT w.params,11,bootL, #[],boot_drawn,boot_toks,os⟩
noncomputable def Look(p q:Program)(loose:List Str)(Xt:Shared->Bool){α:Type}(Yf:Shared->α)(w:World)(s:Shared):=
 ((staticsOk (importedModules p.main.body) (boot_heap w.params) s.heap&&namesBound p s.heap&&gensDone s&&laidKept (boot_heap w.params) s.heap),openSeen q loose (importedModules p.main.body) Xt true s,Yf s)
theorem left_of{p q:Program}{loose:List Str}{Xt:Shared->Bool}{α:Type}{Yf:Shared->α}{Ya:World->α}{N M:Nat}(e:opening p=plainProg p.main.scope.names)(hN:Nat.ble 600 N=true)(f:∀s,fenceModules? p s=some s)(le:Nat.ble M N=true)(run:∀w os,(topT treeTable p w 11 (some (.ref 6)) M (S0 w os) (topStub p)).map (λs=>Look p q loose Xt Yf w s.abs)=some (true,openGood q loose,Ya w))(hs:∀P:Params,((boot_heap P).isNs mainGlobals,(boot_heap P).nsMap mainGlobals "__annotations__")=(true,some (.ref 6))):LeftO p q loose Xt Yf Ya N:=λw=>by
 obtain⟨⟨h,gs,d,k,os⟩,e1,e2⟩:=Dv.mp (boot_open e hN f w);obtain⟨rfl,rfl,rfl,rfl⟩:h=boot_heap w.params/\gs=Array.mk []/\d=boot_drawn/\k=boot_toks:=by simpa using e2
 obtain⟨z1,z3⟩:_/\_:=by simpa only[Prod.mk.injEq]using hs w.params
 obtain⟨r,r1,r2⟩:=Dv.mp (run w os);obtain⟨l1,l2,l3⟩:_/\_/\_:=by simpa only[Look,Prod.mk.injEq]using r2
 have r3:=topRun_mono (N-M) _ _ _ _ (X9 r1);rw[show M+(N-M)=N by have:=Nat.le_of_ble_eq_true le;lia]at r3;have a:(S0 w os).abs=⟨boot_heap w.params, #[],boot_drawn,boot_toks,os⟩:=by rw[Gp];rfl
 rw[a]at r3;have t:topFrom treeTable p w N ⟨boot_heap w.params, #[],boot_drawn,boot_toks,os⟩=some r.abs:=by
  unfold topFrom;dsimp only;rw[z1,z3,show(boot_heap w.params).objs.size=11 from rfl,r3];show(match staticsOk (importedModules p.main.body) (boot_heap w.params) r.abs.heap&&namesBound p r.abs.heap&&gensDone r.abs&&laidKept (boot_heap w.params) r.abs.heap with|true=>_|false=>_)=_;rw[l1]
 unfold openEnds;rw[e1];show(topFrom treeTable p w N _).map _=_;rw[t];exact GM some (Prod.ext l2 l3)
def fill(f:Nat->Obj):List Nat->Frag->List Obj
 | [],_=>[]
 |i::r, []=>f i::fill f r []
 |i::r,(a,o)::K=>match Nat.beq a i with
  |true=>o::fill f r K
  |false=>f i::fill f r ((a,o)::K)
theorem VA{f:Nat->Obj}:∀{r:List Nat}{K:Frag},(∀p∈K,f p.1=p.2)->fill f r K=r.map f
 | [],_,_=>rfl
 |i::r, [],h=>GM (f i :: ·) (VA h)
 |i::r,(a,o)::K,h=>by
  unfold fill;cases e:Nat.beq a i with
  |true=>
   cases Rv e;exact(GM (· :: fill f r K) (h (i,o) (.head _)).symm).trans (GM (f i :: ·) (VA λp m=>h p (.tail _ m)))
  |false=>exact GM (f i :: ·) (VA h)
noncomputable def BR(P:Params):Frag:=[(0,boot_o_0 P),(1,boot_o_1 P),(4,boot_o_4 P),(5,boot_o_5 P),(6,boot_o_6 P),(7,boot_o_7 P),(8,boot_o_8 P),(9,boot_o_9 P),(10,boot_o_10 P)]
def ins(x:Nat×Obj):Frag->Frag
 | []=>[x]
 |y::r=>match Nat.ble x.1 y.1 with
  |true=>x::y::r
  |false=>y::ins x r
def KX(K R:Frag):Frag:=R.foldr ins K
def E0:Obj:=⟨.none,none,.fields #[], #[]⟩
noncomputable def SE(K R:Frag)(Q:List Nat)(n:Nat)(f:Nat->Obj)(l:Life)(d:Drawn)(k:Nat)(os:OsState):Shared:=⟨⟨(fill (λi=>match Q.any (Nat.beq i) with|true=>E0|false=>f i) (List.range n) (KX K R)).toArray,l⟩, #[],d,k,os⟩
theorem SE_is{K R:Frag}{Q:List Nat}{n:Nat}{s:SharedT}(h:(s.n,s.gens,Q.map s.tree.get,(KX K R).map λp=>s.tree.get p.1)=(n, #[],Q.map (λ_=>some E0),(KX K R).map λp=>some p.2)):s.abs=SE K R Q n (λi=>(s.tree.get i).getD default) s.life s.drawn s.toks s.os:=by
 obtain⟨T,m,l,g,d,k,os⟩:=s;obtain⟨rfl,rfl,h2,h3⟩:m=n/\g=#[]/\_/\_:=by simpa only[Prod.mk.injEq]using h
 show Shared.mk (absHeap T m l) _ _ _ _=Shared.mk _ _ _ _ _;have q:(λi=>match Q.any (Nat.beq i) with|true=>E0|false=>(T.get i).getD default)=λi=>(T.get i).getD default:=funext λi=>by
  cases e:Q.any (Nat.beq i) with
  |false=>rfl
  |true=>
   obtain⟨j,hj,x⟩:=List.any_eq_true.mp e;cases Rv x;show E0=(T.get i).getD default;rw[List.map_inj_left.mp h2 i hj];rfl
 unfold absHeap BT.list;show _=Shared.mk ⟨(fill (λi=>match Q.any (Nat.beq i) with|true=>E0|false=>(T.get i).getD default) _ _).toArray,_⟩ _ _ _ _;rw[q,VA λp m=>by show(T.get p.1).getD default=_;rw[List.map_inj_left.mp h3 p m];rfl]
noncomputable def LkA(p q:Program)(w:World)(s:Shared):=((staticsOk (importedModules p.main.body) (boot_heap w.params) s.heap&&namesBound p s.heap&&gensDone s&&laidKept (boot_heap w.params) s.heap),seen ((recsOf q).map (·.name)) (ownsOf q) [] { s with gens:=#[] },s.heap.bltView)
noncomputable def GdA(q:Program):=(true,expectedOf q,bltViewBooted)
noncomputable def LkB(p q:Program)(loose:List Str)(Xt:Shared->Bool)(s:Shared):=(s.heap.keysOk (looseW q loose) ((recsOf q).map (·.name)) ((litsOf q).map (·.1)) ((clssOf q (looseW q loose)).map (·.name))&&s.heap.accountedOkI (importedModules p.main.body)&&s.heap.isNs mainGlobals&&s.heap.isNs builtinsNs&&tablesOk q s.heap&&Xt s&&(if true then s.gens.size==0 else !leftWithCleanup s.gens))
noncomputable def LkD(q:Program)(loose:List Str)(s:Shared):=(pinSeenD q (drecsOf q) s,plainSeenE q (looseW q loose) s,plainSeenD q loose s,wideSeen q s,clsSeenW q loose s)
noncomputable def GdD(q:Program)(loose:List Str):=(pinGoodD (drecsOf q),plainGoodE q (looseW q loose),plainGoodD q loose,wideGood q,clsGoodW q loose)
theorem look3{p q:Program}{loose:List Str}{Xt:Shared->Bool}{α:Type}{Yf:Shared->α}{w:World}{y:α}{s:Shared}(hA:LkA p q w s=GdA q)(hB:(LkB p q loose Xt s,tabsOk q s)=(true,true))(hD:LkD q loose s=GdD q loose)(hC:Yf s=y):Look p q loose Xt Yf w s=(true,openGood q loose,y):=
 Prod.ext (GM (·.1) hA) (Prod.ext (Prod.ext (GM (·.2.1) hA) (Prod.ext (GM (·.2.2) hA) (Prod.ext (GM (·.1) hB) (Prod.ext (GM (·.2) hB) hD)))) hC)
theorem left_ofE{p q:Program}{loose:List Str}{Xt:Shared->Bool}{K R:Params->Frag}{KA Q:List Addr}{as:∀P,KA=(K P).map (·.1)}{n N M:Nat}(e:opening p=plainProg p.main.scope.names)(hN:Nat.ble 600 N=true)(f:∀s,fenceModules? p s=some s)(le:Nat.ble M N=true)(run:∀w os,(topT treeTable p w 11 (some (.ref 6)) M (S0 w os) (topStub p)).map (λs=>(s.n,s.gens,Q.map s.tree.get,(KX (K w.params) (R w.params)).map λp=>s.tree.get p.1))=some (n, #[],Q.map (λ_=>some E0),(KX (K w.params) (R w.params)).map λp=>some p.2))(look:∀w f l d k os,Look p q loose Xt (kHook K KA as).obs w (SE (K w.params) (R w.params) Q n f l d k os)=(true,openGood q loose,(kHook K KA as).val w))(hs:∀P:Params,((boot_heap P).isNs mainGlobals,(boot_heap P).nsMap mainGlobals "__annotations__")=(true,some (.ref 6))):LeftO p q loose Xt (kHook K KA as).obs (kHook K KA as).val N :=
 left_of e hN f le (λw os=>by
  obtain⟨r,r1,r2⟩:=Dv.mp (run w os);rw[r1];exact GM some ((GM _ (SE_is r2)).trans (look w _ _ _ _ _))) hs
theorem boot_main(P:Params):((boot_heap P).isNs mainGlobals,(boot_heap P).nsMap mainGlobals "__annotations__")=(true,some (.ref 6)):=by kernel_rfl
end Hd
namespace Hd
open PySem PySem.W PySem.Calls PyProof.Rows
theorem close{r:OpenRow}{q:Program}{loose:List Str}{lv:List (Str×WData)}{H:Hook}{d:DefRec}{iX:List (Str×Expr)}{N:Nat}(left:LeftO r.prog q loose (λs=>xlAt q lv s&&recOk (RowW.records (OpenRow.toRowW r)) s) H.obs H.val N)(h1:defOf q r.name=some (d,iX))(h2:r.prog.theDef r.name=some (d.params,d.body,d.scope))(h3:kwWritten? d.params.kwonlyargs d.params.kw_defaults=some iX)(h4:(!r.writes||r.records.isEmpty)=true)(h5:r.wellSaid=true)(h6:(chainsOk q&&opensWell r.prog&&(frees r.toRowW&&r.within.isEmpty))=true)(h7:r.prog.bare)(hw:r.toRowW.promised)(hc:WalkO q loose (XL q lv) H.says r.toRowW d iX λf vs=>PySem.call f vs):r.Holds :=
 holds_open left H.of H.keeps (λs z=>xl_of s (RC.mp z).1) XL.keeps h1 h2 h3 (λs z=>recFacts_of (RC.mp z).2) h4 h5 h6 h7 hw hc
end Hd
namespace Mw
open PySem L2
def top(i:Nat):Stmt:=PySem.Challenge.pw_markwords_k65_plain_runs.main.body.getD i (.Pass ⟨0,0,0,0⟩)
end Mw
theorem PySem.W.Fast.te13284508909471653622:True:=True.intro
def PySem.W.Fast.tw34168645186962511:PySem.Program:=PySem.Challenge.pw_markwords_k65_plain_runs
theorem PySem.W.Fast.te34168645186962511:PySem.Challenge.pw_markwords_k65_plain_runs=PySem.W.Fast.tw34168645186962511:=rfl
namespace Mx
open PySem PySem.W PySem.Calls PyProof.Rows L2 Mw
abbrev kC(n q:Str)(t l a:Nat)(x7:Int)(r8:Nat)(b9:Bool)(oj:Nat)(om on oq:Value)(ot ou ow:Nat):Obj:=⟨.type "code", none,(.fields #[.str n t,.str q (t+1),.str "/claim/cut.py" (t+2),.int l 0,.int a 0,.int 0 0,.int 0 0,.int x7 0,.ref r8,.bool b9,.int 181 0,.ref oj,om,on,oq,.ref ot,.int ou 0,.int l 0,.str "/claim/cut.py" ow]), #[]⟩
abbrev kF(n q:Str)(s:Stmt)(m:Value)(c:Nat):Obj:=⟨.type "function", none,(.func (W.fnOf n q (zt s) (vi s) (qd s) .none .none .none m none (.ref c) .none)), #[]⟩
abbrev kT(l:List Value):Obj:=⟨.type "tuple", none,(.seq l.toArray 0), #[]⟩
abbrev kD(n q:Str)(t l a:Nat)(x:Int)(r u:Nat):Obj:=kC n q t l a x r true (r+1) .none (.ref (r+2)) (.ref (r+3)) (r+4) u (u+1)
abbrev kd(n:Str):=kD n n
abbrev kn(n:Str)(t l a:Nat)(x:Int)(r u:Nat):Obj:=kC n n t l a x r true (r+1) .none .none .none (r+2) u (u+1)
abbrev kx:List Value:=[.type "ValueError",.type "Exception",.type "BaseException",.type "object"]
abbrev kK(n:Str)(b m:List Value)(s:Nat)(l:List Value)(c:Option Value)(t u:Nat)(w:String):Obj:=⟨.type "type", none,(.cls { name:=n,bases:=b,mro:=m,ns:=s,qualname:=n,hasDict:=true,slotNames:=[],subclasses:=l,abstract:=false,collection:=none,hasDel:=false }), #[c,none,some (.str n t),some (.str n u),some (.builtin w),some (.bool true)]⟩
abbrev kE(l:List DictEntry)(n:Nat):Obj:=⟨.type "dict", none,(.dict l.toArray n), #[]⟩
abbrev kf(n:Str):=kF n n
abbrev y0:Value:=.str "markwords.errors" 187
abbrev y1:Value:=.str "markwords.limbs" 264
abbrev y2:Value:=.str "markwords.layings" 320
abbrev y3:Value:=.str "markwords.needs" 351
abbrev y4:Value:=.str "markwords.plain" 379
abbrev y5:Value:=.str "markwords.words" 626
abbrev y6:Value:=.str "markwords.things" 697
abbrev y7:Value:=.str "markwords.sweeping" 733
abbrev y8:Value:=.str "markwords.store" 780
abbrev y9:Value:=.str "markwords.anew" 1103
abbrev y10:Value:=.str "markwords.runs" 1211
abbrev y11:Value:=.str "law_markwords_k65_plain_runs" 1352
abbrev oE(P:Params)(n:Str)(t:Nat)(v:Value):DictEntry:=⟨PyData.keyHash P n,.str n t,v⟩
abbrev o(P:Params)(n:Str)(t a:Nat):=oE P n t (.ref a)
noncomputable def K:Params->Frag:=λP=>
(nat_lit 2,⟨.none,none,(.dict #[] 0), #[]⟩)::
(nat_lit 3,kE [oE P "__name__" 165 (.str "law_markwords_k65_plain_runs" 1352),oE P "__doc__" 166 (.none),oE P "__package__" 167 (.none),oE P "__loader__" 168 (.builtin "__main__.__loader__#opaque"),oE P "__spec__" 169 (.none),o P "__annotations__" 170 6,o P "__builtins__" 171 4,oE P "__file__" 173 (.str "/claim/cut.py" 172),oE P "__cached__" 174 (.none),o P "WordError" 206 24,o P "WrongKind" 231 44,o P "Nought" 247 56,o P "NoRoom" 263 68,oE P "PAIR_HEAD" 267 (.int (1) 266),oE P "PAIR_SIZE" 269 (.int (3) 268),o P "limb_count" 278 77,o P "rows_of" 291 84,o P "size_at" 300 91,o P "number_at" 311 98,o P "is_great" 319 105,o P "kinds_on" 327 110,o P "mark_of" 336 117,o P "mark_for" 342 122,o P "load_bits" 350 129,o P "need_numbers" 361 136,o P "need_divisor" 370 143,o P "need_pair" 378 150,oE P "REGISTERS" 382 (.int (8) 381),o P "Pair" 413 167,o P "kind_of" 420 178,o P "PlainStore" 625 328,o P "THREE" 631 333,oE P "SIGNS" 633 (.int (128) 632),o P "load_of" 642 340,o P "marked" 652 347,o P "small_of" 660 354,o P "worth_of" 670 361,o P "word_of" 678 368,o P "is_small" 687 375,o P "address_of" 696 382,o P "heads_in" 707 389,o P "pair_words_at" 715 396,o P "read_worth" 725 403,o P "is_pair" 732 410,o P "reached_from" 746 417,o P "new_places" 757 424,o P "moved_word" 767 431,o P "moved_thing" 773 436,o P "swept" 779 441,o P "KINDS_BY_MARK" 797 442,o P "own_laying" 804 449,o P "most_outside" 812 456,o P "Store" 1091 662,o P "store_of" 1102 673,o P "Mover" 1204 739,o P "laid_anew" 1210 748,o P "Moves" 1262 779,o P "do_with_worth" 1272 790,o P "do_with_two" 1282 797,o P "do_with_three" 1293 804,o P "do_deed" 1302 811,o P "holds" 1310 818,o P "row_behind" 1321 825,o P "gone_through" 1334 832,o P "go" 1343 839,o P "plain_run" 1351 846,o P "_law_bag" 1359 851,o P "_law_draw" 1368 858,o P "_law_reckoned" 1377 865,o P "_law_deed_done" 1386 872,o P "_law_done" 1397 879,o P "_law_alike" 1403 884,o P "_law_any_number" 1412 891,o P "_law_letters" 1418 898,o P "_law_part" 1428 905,o P "_law_any_row" 1434 910,o P "_law_any_script" 1440 915,o P "_law_body_row" 1463 922,o P "_law_long_script" 1469 927,o P "_law_own_kind" 1476 934,o P "_law_own_numbers" 1492 941,o P "_law_own_do" 1504 948,o P "_law_own_ask" 1515 955,o P "_law_row_done" 1525 962,o P "_law_deed_of" 1532 969,o P "_law_row_gone" 1545 976,o P "_law_walk" 1558 983,o P "_law_fresh" 1564 990,o P "_law_some_script" 1570 995,o P "_law_some_deeds" 1585 1002,o P "_law_gone_by_hand" 1591 1007,o P "law" 1606 1014] 92)::
(nat_lit 15,kT [.type "ValueError"])::
(nat_lit 22,kT [])::
(nat_lit 23,kE [oE P "__module__" 196 (.str "markwords.errors" 187),oE P "__firstlineno__" 200 (.int (2) 199),o P "__static_attributes__" 201 22,o P "__weakref__" 203 25,oE P "__doc__" 204 (.none)] 3)::
(nat_lit 24,kK "WordError" [.type "ValueError"] (.ref 24::kx) 23 [.ref 44,.ref 56,.ref 68] (some (.ref 15)) 189 197 "ValueError.__new__")::
(nat_lit 25,⟨.type "getset_descriptor", none,(.fields #[.str "__weakref__" 202,.ref 24,.builtin "ExceptionGroup.__weakref__",.none]), #[]⟩)::
(nat_lit 28,kT [.ref 24])::
(nat_lit 40,kD "__init__" "WrongKind.__init__" 219 6 2 3 35 224)::
(nat_lit 41,kF "__init__" "WrongKind.__init__" (qk (top 2) 0) y0 40)::
(nat_lit 42,kT [.str "part" 227])::
(nat_lit 43,kE [oE P "__module__" 214 (.str "markwords.errors" 187),oE P "__firstlineno__" 218 (.int (4) 217),o P "__init__" 226 41,o P "__static_attributes__" 228 42,oE P "__doc__" 229 (.none)] 2)::
(nat_lit 44,kK "WrongKind" [.ref 24] (.ref 44 :: .ref 24::kx) 43 [] (some (.ref 28)) 207 215 "ValueError.__new__")::
(nat_lit 47,kT [.ref 24])::
(nat_lit 54,kT [])::
(nat_lit 55,kE [oE P "__module__" 239 (.str "markwords.errors" 187),oE P "__firstlineno__" 243 (.int (9) 242),o P "__static_attributes__" 244 54,oE P "__doc__" 245 (.none)] 2)::
(nat_lit 56,kK "Nought" [.ref 24] (.ref 56 :: .ref 24::kx) 55 [] (some (.ref 47)) 232 240 "ValueError.__new__")::
(nat_lit 59,kT [.ref 24])::
(nat_lit 66,kT [])::
(nat_lit 67,kE [oE P "__module__" 255 (.str "markwords.errors" 187),oE P "__firstlineno__" 259 (.int (11) 258),o P "__static_attributes__" 260 66,oE P "__doc__" 261 (.none)] 2)::
(nat_lit 68,kK "NoRoom" [.ref 24] (.ref 68 :: .ref 24::kx) 67 [] (some (.ref 59)) 248 256 "ValueError.__new__")::
(nat_lit 76,kd "limb_count" 270 16 2 3 71 276)::
(nat_lit 77,kf "limb_count" (top 8) y1 76)::
(nat_lit 83,kd "rows_of" 279 19 2 3 78 289)::
(nat_lit 84,kf "rows_of" (top 9) y1 83)::
(nat_lit 90,kd "size_at" 292 28 2 3 85 298)::
(nat_lit 91,kf "size_at" (top 10) y1 90)::
(nat_lit 97,kd "number_at" 301 31 3 3 92 309)::
(nat_lit 98,kf "number_at" (top 11) y1 97)::
(nat_lit 104,kd "is_great" 312 36 2 3 99 317)::
(nat_lit 105,kf "is_great" (top 12) y1 104)::
(nat_lit 109,kn "kinds_on" 322 39 2 3 106 325)::
(nat_lit 110,kf "kinds_on" (top 14) y2 109)::
(nat_lit 116,kd "mark_of" 328 41 2 3 111 334)::
(nat_lit 117,kf "mark_of" (top 15) y2 116)::
(nat_lit 121,kn "mark_for" 337 44 2 3 118 340)::
(nat_lit 122,kf "mark_for" (top 16) y2 121)::
(nat_lit 128,kd "load_bits" 343 46 2 3 123 348)::
(nat_lit 129,kf "load_bits" (top 17) y2 128)::
(nat_lit 135,kd "need_numbers" 353 49 3 3 130 359)::
(nat_lit 136,kf "need_numbers" (top 19) y3 135)::
(nat_lit 142,kd "need_divisor" 362 54 3 3 137 368)::
(nat_lit 143,kf "need_divisor" (top 20) y3 142)::
(nat_lit 149,kd "need_pair" 371 58 2 3 144 376)::
(nat_lit 150,kf "need_pair" (top 21) y3 149)::
(nat_lit 163,kD "__init__" "Pair.__init__" 395 65 3 3 158 401)::
(nat_lit 164,kF "__init__" "Pair.__init__" (qk (top 24) 0) y4 163)::
(nat_lit 165,kT [.str "left" 404,.str "right" 405])::
(nat_lit 166,kE [oE P "__module__" 390 (.str "markwords.plain" 379),oE P "__firstlineno__" 394 (.int (63) 393),o P "__init__" 403 164,o P "__static_attributes__" 406 165,o P "__dict__" 408 168,o P "__weakref__" 410 169,oE P "__doc__" 411 (.none)] 4)::
(nat_lit 167,kK "Pair" [.type "object"] [.ref 167,.type "object"] 166 [] none 383 391 "object.__new__")::
(nat_lit 168,⟨.type "getset_descriptor", none,(.fields #[.str "__dict__" 407,.ref 167,.builtin "function.__dict__",.builtin "function.__dict__#set"]), #[]⟩)::
(nat_lit 169,⟨.type "getset_descriptor", none,(.fields #[.str "__weakref__" 409,.ref 167,.builtin "ExceptionGroup.__weakref__",.none]), #[]⟩)::
(nat_lit 177,kd "kind_of" 414 68 1 3 172 418)::
(nat_lit 178,kf "kind_of" (top 25) y4 177)::
(nat_lit 191,kD "__init__" "PlainStore.__init__" 433 78 1 3 186 437)::
(nat_lit 192,kF "__init__" "PlainStore.__init__" (qk (top 26) 0) y4 191)::
(nat_lit 198,kD "pair_in" "PlainStore.pair_in" 440 81 2 3 193 445)::
(nat_lit 199,kF "pair_in" "PlainStore.pair_in" (qk (top 26) 1) y4 198)::
(nat_lit 205,kD "number" "PlainStore.number" 448 85 3 3 200 454)::
(nat_lit 206,kF "number" "PlainStore.number" (qk (top 26) 2) y4 205)::
(nat_lit 212,kD "sign" "PlainStore.sign" 457 88 3 3 207 463)::
(nat_lit 213,kF "sign" "PlainStore.sign" (qk (top 26) 3) y4 212)::
(nat_lit 219,kD "one" "PlainStore.one" 466 91 3 3 214 472)::
(nat_lit 220,kF "one" "PlainStore.one" (qk (top 26) 4) y4 219)::
(nat_lit 226,kD "copy" "PlainStore.copy" 475 94 3 3 221 481)::
(nat_lit 227,kF "copy" "PlainStore.copy" (qk (top 26) 5) y4 226)::
(nat_lit 233,kD "plus" "PlainStore.plus" 484 97 4 3 228 491)::
(nat_lit 234,kF "plus" "PlainStore.plus" (qk (top 26) 6) y4 233)::
(nat_lit 240,kD "less" "PlainStore.less" 494 101 4 3 235 501)::
(nat_lit 241,kF "less" "PlainStore.less" (qk (top 26) 7) y4 240)::
(nat_lit 247,kD "times" "PlainStore.times" 504 105 4 3 242 511)::
(nat_lit 248,kF "times" "PlainStore.times" (qk (top 26) 8) y4 247)::
(nat_lit 254,kD "over" "PlainStore.over" 514 109 4 3 249 521)::
(nat_lit 255,kF "over" "PlainStore.over" (qk (top 26) 9) y4 254)::
(nat_lit 261,kD "rest" "PlainStore.rest" 524 113 4 3 256 531)::
(nat_lit 262,kF "rest" "PlainStore.rest" (qk (top 26) 10) y4 261)::
(nat_lit 268,kD "pair" "PlainStore.pair" 534 117 4 3 263 541)::
(nat_lit 269,kF "pair" "PlainStore.pair" (qk (top 26) 11) y4 268)::
(nat_lit 275,kD "first" "PlainStore.first" 544 120 3 3 270 550)::
(nat_lit 276,kF "first" "PlainStore.first" (qk (top 26) 12) y4 275)::
(nat_lit 282,kD "second" "PlainStore.second" 553 123 3 3 277 559)::
(nat_lit 283,kF "second" "PlainStore.second" (qk (top 26) 13) y4 282)::
(nat_lit 289,kD "set_first" "PlainStore.set_first" 562 126 3 3 284 569)::
(nat_lit 290,kF "set_first" "PlainStore.set_first" (qk (top 26) 14) y4 289)::
(nat_lit 296,kD "set_second" "PlainStore.set_second" 572 130 3 3 291 579)::
(nat_lit 297,kF "set_second" "PlainStore.set_second" (qk (top 26) 15) y4 296)::
(nat_lit 303,kD "below" "PlainStore.below" 582 134 3 3 298 588)::
(nat_lit 304,kF "below" "PlainStore.below" (qk (top 26) 16) y4 303)::
(nat_lit 310,kD "same" "PlainStore.same" 591 138 3 3 305 597)::
(nat_lit 311,kF "same" "PlainStore.same" (qk (top 26) 17) y4 310)::
(nat_lit 317,kD "kind" "PlainStore.kind" 600 141 2 3 312 605)::
(nat_lit 318,kF "kind" "PlainStore.kind" (qk (top 26) 18) y4 317)::
(nat_lit 324,kD "told" "PlainStore.told" 608 144 2 3 319 614)::
(nat_lit 325,kF "told" "PlainStore.told" (qk (top 26) 19) y4 324)::
(nat_lit 326,kT [.str "held" 617])::
(nat_lit 327,kE [oE P "__module__" 428 (.str "markwords.plain" 379),oE P "__firstlineno__" 432 (.int (76) 431),o P "__init__" 439 192,o P "pair_in" 447 199,o P "number" 456 206,o P "sign" 465 213,o P "one" 474 220,o P "copy" 483 227,o P "plus" 493 234,o P "less" 503 241,o P "times" 513 248,o P "over" 523 255,o P "rest" 533 262,o P "pair" 543 269,o P "first" 552 276,o P "second" 561 283,o P "set_first" 571 290,o P "set_second" 581 297,o P "below" 590 304,o P "same" 599 311,o P "kind" 607 318,o P "told" 616 325,o P "__static_attributes__" 618 326,o P "__dict__" 620 329,o P "__weakref__" 622 330,oE P "__doc__" 623 (.none)] 4)::
(nat_lit 328,kK "PlainStore" [.type "object"] [.ref 328,.type "object"] 327 [] none 421 429 "object.__new__")::
(nat_lit 329,⟨.type "getset_descriptor", none,(.fields #[.str "__dict__" 619,.ref 328,.builtin "function.__dict__",.builtin "function.__dict__#set"]), #[]⟩)::
(nat_lit 330,⟨.type "getset_descriptor", none,(.fields #[.str "__weakref__" 621,.ref 328,.builtin "ExceptionGroup.__weakref__",.none]), #[]⟩)::
(nat_lit 333,kT [.str "none" 628,.str "no" 629,.str "yes" 630])::
(nat_lit 339,kd "load_of" 634 150 3 3 334 640)::
(nat_lit 340,kf "load_of" (top 30) y5 339)::
(nat_lit 346,kd "marked" 643 152 3 3 341 650)::
(nat_lit 347,kf "marked" (top 31) y5 346)::
(nat_lit 353,kd "small_of" 653 155 2 3 348 658)::
(nat_lit 354,kf "small_of" (top 32) y5 353)::
(nat_lit 360,kd "worth_of" 661 157 2 3 355 668)::
(nat_lit 361,kf "worth_of" (top 33) y5 360)::
(nat_lit 367,kd "word_of" 671 169 2 3 362 676)::
(nat_lit 368,kf "word_of" (top 34) y5 367)::
(nat_lit 374,kd "is_small" 679 175 2 3 369 685)::
(nat_lit 375,kf "is_small" (top 35) y5 374)::
(nat_lit 381,kd "address_of" 688 178 2 3 376 694)::
(nat_lit 382,kf "address_of" (top 36) y5 381)::
(nat_lit 388,kd "heads_in" 699 182 1 3 383 705)::
(nat_lit 389,kf "heads_in" (top 38) y6 388)::
(nat_lit 395,kd "pair_words_at" 708 189 2 3 390 713)::
(nat_lit 396,kf "pair_words_at" (top 39) y6 395)::
(nat_lit 402,kd "read_worth" 716 191 3 3 397 723)::
(nat_lit 403,kf "read_worth" (top 40) y6 402)::
(nat_lit 409,kd "is_pair" 726 196 1 3 404 730)::
(nat_lit 410,kf "is_pair" (top 41) y6 409)::
(nat_lit 416,kd "reached_from" 735 199 3 3 411 744)::
(nat_lit 417,kf "reached_from" (top 43) y7 416)::
(nat_lit 423,kd "new_places" 747 208 2 3 418 755)::
(nat_lit 424,kf "new_places" (top 44) y7 423)::
(nat_lit 430,kd "moved_word" 758 216 3 3 425 765)::
(nat_lit 431,kf "moved_word" (top 45) y7 430)::
(nat_lit 435,kn "moved_thing" 768 221 4 3 432 771)::
(nat_lit 436,kf "moved_thing" (top 46) y7 435)::
(nat_lit 440,kn "swept" 774 225 3 3 437 777)::
(nat_lit 441,kf "swept" (top 47) y7 440)::
(nat_lit 442,kE [oE P "small" 782 (.str "number" 783),oE P "far" 784 (.str "number" 785),oE P "pair" 786 (.str "pair" 787),oE P "sign" 788 (.str "sign" 789),oE P "one" 790 (.str "one" 791)] 5)::
(nat_lit 448,kd "own_laying" 798 233 1 3 443 802)::
(nat_lit 449,kf "own_laying" (top 50) y8 448)::
(nat_lit 455,kd "most_outside" 805 235 2 3 450 810)::
(nat_lit 456,kf "most_outside" (top 51) y8 455)::
(nat_lit 469,kD "__init__" "Store.__init__" 825 239 3 3 464 831)::
(nat_lit 470,kF "__init__" "Store.__init__" (qk (top 52) 0) y8 469)::
(nat_lit 476,kD "words" "Store.words" 834 248 1 3 471 838)::
(nat_lit 477,kF "words" "Store.words" (qk (top 52) 1) y8 476)::
(nat_lit 483,kD "outside" "Store.outside" 841 251 1 3 478 845)::
(nat_lit 484,kF "outside" "Store.outside" (qk (top 52) 2) y8 483)::
(nat_lit 490,kD "sweep" "Store.sweep" 848 254 1 3 485 853)::
(nat_lit 491,kF "sweep" "Store.sweep" (qk (top 52) 3) y8 490)::
(nat_lit 497,kD "lacks" "Store.lacks" 856 260 2 3 492 861)::
(nat_lit 498,kF "lacks" "Store.lacks" (qk (top 52) 4) y8 497)::
(nat_lit 504,kD "make_room" "Store.make_room" 864 263 2 3 499 869)::
(nat_lit 505,kF "make_room" "Store.make_room" (qk (top 52) 5) y8 504)::
(nat_lit 511,kD "lay" "Store.lay" 872 269 4 3 506 879)::
(nat_lit 512,kF "lay" "Store.lay" (qk (top 52) 6) y8 511)::
(nat_lit 518,kD "number" "Store.number" 882 273 3 3 513 889)::
(nat_lit 519,kF "number" "Store.number" (qk (top 52) 7) y8 518)::
(nat_lit 525,kD "sign" "Store.sign" 892 283 3 3 520 898)::
(nat_lit 526,kF "sign" "Store.sign" (qk (top 52) 8) y8 525)::
(nat_lit 532,kD "one" "Store.one" 901 286 3 3 527 907)::
(nat_lit 533,kF "one" "Store.one" (qk (top 52) 9) y8 532)::
(nat_lit 539,kD "copy" "Store.copy" 910 289 3 3 534 916)::
(nat_lit 540,kF "copy" "Store.copy" (qk (top 52) 10) y8 539)::
(nat_lit 546,kD "in_word" "Store.in_word" 919 292 2 3 541 924)::
(nat_lit 547,kF "in_word" "Store.in_word" (qk (top 52) 11) y8 546)::
(nat_lit 553,kD "come_of_two" "Store.come_of_two" 927 295 5 3 548 936)::
(nat_lit 554,kF "come_of_two" "Store.come_of_two" (qk (top 52) 12) y8 553)::
(nat_lit 560,kD "plus" "Store.plus" 939 303 4 3 555 946)::
(nat_lit 561,kF "plus" "Store.plus" (qk (top 52) 13) y8 560)::
(nat_lit 567,kD "less" "Store.less" 949 307 4 3 562 956)::
(nat_lit 568,kF "less" "Store.less" (qk (top 52) 14) y8 567)::
(nat_lit 574,kD "times" "Store.times" 959 311 4 3 569 966)::
(nat_lit 575,kF "times" "Store.times" (qk (top 52) 15) y8 574)::
(nat_lit 581,kD "over" "Store.over" 969 315 4 3 576 976)::
(nat_lit 582,kF "over" "Store.over" (qk (top 52) 16) y8 581)::
(nat_lit 588,kD "rest" "Store.rest" 979 319 4 3 583 986)::
(nat_lit 589,kF "rest" "Store.rest" (qk (top 52) 17) y8 588)::
(nat_lit 595,kD "pair" "Store.pair" 989 323 4 3 590 996)::
(nat_lit 596,kF "pair" "Store.pair" (qk (top 52) 18) y8 595)::
(nat_lit 602,kD "pair_in" "Store.pair_in" 999 327 2 3 597 1004)::
(nat_lit 603,kF "pair_in" "Store.pair_in" (qk (top 52) 19) y8 602)::
(nat_lit 609,kD "first" "Store.first" 1007 331 3 3 604 1013)::
(nat_lit 610,kF "first" "Store.first" (qk (top 52) 20) y8 609)::
(nat_lit 616,kD "second" "Store.second" 1016 334 3 3 611 1022)::
(nat_lit 617,kF "second" "Store.second" (qk (top 52) 21) y8 616)::
(nat_lit 623,kD "set_first" "Store.set_first" 1025 337 3 3 618 1031)::
(nat_lit 624,kF "set_first" "Store.set_first" (qk (top 52) 22) y8 623)::
(nat_lit 630,kD "set_second" "Store.set_second" 1034 340 3 3 625 1040)::
(nat_lit 631,kF "set_second" "Store.set_second" (qk (top 52) 23) y8 630)::
(nat_lit 637,kD "below" "Store.below" 1043 343 3 3 632 1049)::
(nat_lit 638,kF "below" "Store.below" (qk (top 52) 24) y8 637)::
(nat_lit 644,kD "same" "Store.same" 1052 347 3 3 639 1058)::
(nat_lit 645,kF "same" "Store.same" (qk (top 52) 25) y8 644)::
(nat_lit 651,kD "kind" "Store.kind" 1061 352 2 3 646 1066)::
(nat_lit 652,kF "kind" "Store.kind" (qk (top 52) 26) y8 651)::
(nat_lit 658,kD "told" "Store.told" 1069 355 2 3 653 1074)::
(nat_lit 659,kF "told" "Store.told" (qk (top 52) 27) y8 658)::
(nat_lit 660,kT [.str "held" 1077,.str "kept" 1078,.str "laying" 1079,.str "quick" 1080,.str "room" 1081,.str "slow" 1082,.str "sweeps" 1083])::
(nat_lit 661,kE [oE P "__module__" 820 (.str "markwords.store" 780),oE P "__firstlineno__" 824 (.int (237) 823),o P "__init__" 833 470,o P "words" 840 477,o P "outside" 847 484,o P "sweep" 855 491,o P "lacks" 863 498,o P "make_room" 871 505,o P "lay" 881 512,o P "number" 891 519,o P "sign" 900 526,o P "one" 909 533,o P "copy" 918 540,o P "in_word" 926 547,o P "come_of_two" 938 554,o P "plus" 948 561,o P "less" 958 568,o P "times" 968 575,o P "over" 978 582,o P "rest" 988 589,o P "pair" 998 596,o P "pair_in" 1006 603,o P "first" 1015 610,o P "second" 1024 617,o P "set_first" 1033 624,o P "set_second" 1042 631,o P "below" 1051 638,o P "same" 1060 645,o P "kind" 1068 652,o P "told" 1076 659,o P "__static_attributes__" 1084 660,o P "__dict__" 1086 663,o P "__weakref__" 1088 664,oE P "__doc__" 1089 (.none)] 4)::
(nat_lit 662,kK "Store" [.type "object"] [.ref 662,.type "object"] 661 [] none 813 821 "object.__new__")::
(nat_lit 663,⟨.type "getset_descriptor", none,(.fields #[.str "__dict__" 1085,.ref 662,.builtin "function.__dict__",.builtin "function.__dict__#set"]), #[]⟩)::
(nat_lit 664,⟨.type "getset_descriptor", none,(.fields #[.str "__weakref__" 1087,.ref 662,.builtin "ExceptionGroup.__weakref__",.none]), #[]⟩)::
(nat_lit 672,kd "store_of" 1092 359 4 3 667 1100)::
(nat_lit 673,kf "store_of" (top 53) y8 672)::
(nat_lit 686,kD "__init__" "Mover.__init__" 1117 367 4 3 681 1124)::
(nat_lit 687,kF "__init__" "Mover.__init__" (qk (top 55) 0) y9 686)::
(nat_lit 693,kD "put_behind" "Mover.put_behind" 1127 376 3 3 688 1134)::
(nat_lit 694,kF "put_behind" "Mover.put_behind" (qk (top 55) 1) y9 693)::
(nat_lit 700,kD "number_word" "Mover.number_word" 1137 383 2 3 695 1142)::
(nat_lit 701,kF "number_word" "Mover.number_word" (qk (top 55) 2) y9 700)::
(nat_lit 707,kD "pair_word" "Mover.pair_word" 1145 390 2 3 702 1150)::
(nat_lit 708,kF "pair_word" "Mover.pair_word" (qk (top 55) 3) y9 707)::
(nat_lit 714,kD "new_word" "Mover.new_word" 1153 394 2 3 709 1159)::
(nat_lit 715,kF "new_word" "Mover.new_word" (qk (top 55) 4) y9 714)::
(nat_lit 721,kD "moved" "Mover.moved" 1162 402 2 3 716 1168)::
(nat_lit 722,kF "moved" "Mover.moved" (qk (top 55) 5) y9 721)::
(nat_lit 728,kD "fill_pair" "Mover.fill_pair" 1171 410 3 3 723 1179)::
(nat_lit 729,kF "fill_pair" "Mover.fill_pair" (qk (top 55) 6) y9 728)::
(nat_lit 735,kD "fill_pairs" "Mover.fill_pairs" 1182 414 1 3 730 1187)::
(nat_lit 736,kF "fill_pairs" "Mover.fill_pairs" (qk (top 55) 7) y9 735)::
(nat_lit 737,kT [.str "kept" 1190,.str "laying" 1191,.str "met" 1192,.str "most" 1193,.str "old_kept" 1194,.str "old_laying" 1195,.str "queue" 1196])::
(nat_lit 738,kE [oE P "__module__" 1112 (.str "markwords.anew" 1103),oE P "__firstlineno__" 1116 (.int (365) 1115),o P "__init__" 1126 687,o P "put_behind" 1136 694,o P "number_word" 1144 701,o P "pair_word" 1152 708,o P "new_word" 1161 715,o P "moved" 1170 722,o P "fill_pair" 1181 729,o P "fill_pairs" 1189 736,o P "__static_attributes__" 1197 737,o P "__dict__" 1199 740,o P "__weakref__" 1201 741,oE P "__doc__" 1202 (.none)] 4)::
(nat_lit 739,kK "Mover" [.type "object"] [.ref 739,.type "object"] 738 [] none 1105 1113 "object.__new__")::
(nat_lit 740,⟨.type "getset_descriptor", none,(.fields #[.str "__dict__" 1198,.ref 739,.builtin "function.__dict__",.builtin "function.__dict__#set"]), #[]⟩)::
(nat_lit 741,⟨.type "getset_descriptor", none,(.fields #[.str "__weakref__" 1200,.ref 739,.builtin "ExceptionGroup.__weakref__",.none]), #[]⟩)::
(nat_lit 747,kn "laid_anew" 1205 419 3 3 744 1208)::
(nat_lit 748,kf "laid_anew" (top 56) y9 747)::
(nat_lit 761,kD "__init__" "Moves.__init__" 1225 427 4 3 756 1232)::
(nat_lit 762,kF "__init__" "Moves.__init__" (qk (top 58) 0) y10 761)::
(nat_lit 768,kD "move" "Moves.move" 1235 433 1 3 763 1240)::
(nat_lit 769,kF "move" "Moves.move" (qk (top 58) 1) y10 768)::
(nat_lit 775,kD "ahead" "Moves.ahead" 1243 441 2 3 770 1248)::
(nat_lit 776,kF "ahead" "Moves.ahead" (qk (top 58) 2) y10 775)::
(nat_lit 777,kT [.str "layings" 1251,.str "store" 1252,.str "turn" 1253,.str "when" 1254])::
(nat_lit 778,kE [oE P "__module__" 1220 (.str "markwords.runs" 1211),oE P "__firstlineno__" 1224 (.int (425) 1223),o P "__init__" 1234 762,o P "move" 1242 769,o P "ahead" 1250 776,o P "__static_attributes__" 1255 777,o P "__dict__" 1257 780,o P "__weakref__" 1259 781,oE P "__doc__" 1260 (.none)] 4)::
(nat_lit 779,kK "Moves" [.type "object"] [.ref 779,.type "object"] 778 [] none 1213 1221 "object.__new__")::
(nat_lit 780,⟨.type "getset_descriptor", none,(.fields #[.str "__dict__" 1256,.ref 779,.builtin "function.__dict__",.builtin "function.__dict__#set"]), #[]⟩)::
(nat_lit 781,⟨.type "getset_descriptor", none,(.fields #[.str "__weakref__" 1258,.ref 779,.builtin "ExceptionGroup.__weakref__",.none]), #[]⟩)::
(nat_lit 789,kd "do_with_worth" 1263 444 4 3 784 1270)::
(nat_lit 790,kf "do_with_worth" (top 59) y10 789)::
(nat_lit 796,kd "do_with_two" 1273 451 4 3 791 1280)::
(nat_lit 797,kf "do_with_two" (top 60) y10 796)::
(nat_lit 803,kd "do_with_three" 1283 462 5 3 798 1291)::
(nat_lit 804,kf "do_with_three" (top 61) y10 803)::
(nat_lit 810,kd "do_deed" 1294 475 2 3 805 1300)::
(nat_lit 811,kf "do_deed" (top 62) y10 810)::
(nat_lit 817,kd "holds" 1303 483 2 3 812 1308)::
(nat_lit 818,kf "holds" (top 63) y10 817)::
(nat_lit 824,kd "row_behind" 1311 489 4 3 819 1319)::
(nat_lit 825,kf "row_behind" (top 64) y10 824)::
(nat_lit 831,kd "gone_through" 1322 500 3 3 826 1332)::
(nat_lit 832,kf "gone_through" (top 65) y10 831)::
(nat_lit 838,kd "go" 1335 516 3 3 833 1341)::
(nat_lit 839,kf "go" (top 66) y10 838)::
(nat_lit 845,kd "plain_run" 1344 518 2 3 840 1349)::
(nat_lit 846,kf "plain_run" (top 67) y10 845)::
(nat_lit 850,kn "_law_bag" 1354 521 1 3 847 1357)::
(nat_lit 851,kf "_law_bag" (top 69) y11 850)::
(nat_lit 857,kd "_law_draw" 1360 526 2 3 852 1366)::
(nat_lit 858,kf "_law_draw" (top 70) y11 857)::
(nat_lit 864,kd "_law_reckoned" 1369 537 3 3 859 1375)::
(nat_lit 865,kf "_law_reckoned" (top 71) y11 864)::
(nat_lit 871,kd "_law_deed_done" 1378 545 2 3 866 1384)::
(nat_lit 872,kf "_law_deed_done" (top 72) y11 871)::
(nat_lit 878,kd "_law_done" 1387 580 2 3 873 1395)::
(nat_lit 879,kf "_law_done" (top 73) y11 878)::
(nat_lit 883,kn "_law_alike" 1398 593 2 3 880 1401)::
(nat_lit 884,kf "_law_alike" (top 74) y11 883)::
(nat_lit 890,kd "_law_any_number" 1404 603 1 3 885 1410)::
(nat_lit 891,kf "_law_any_number" (top 75) y11 890)::
(nat_lit 897,kd "_law_letters" 1413 611 0 3 892 1416)::
(nat_lit 898,kf "_law_letters" (top 76) y11 897)::
(nat_lit 904,kd "_law_part" 1419 613 3 3 899 1426)::
(nat_lit 905,kf "_law_part" (top 77) y11 904)::
(nat_lit 909,kn "_law_any_row" 1429 620 3 3 906 1432)::
(nat_lit 910,kf "_law_any_row" (top 78) y11 909)::
(nat_lit 914,kn "_law_any_script" 1435 622 1 3 911 1438)::
(nat_lit 915,kf "_law_any_script" (top 79) y11 914)::
(nat_lit 921,kd "_law_body_row" 1441 627 4 3 916 1461)::
(nat_lit 922,kf "_law_body_row" (top 80) y11 921)::
(nat_lit 926,kn "_law_long_script" 1464 644 1 3 923 1467)::
(nat_lit 927,kf "_law_long_script" (top 81) y11 926)::
(nat_lit 933,kd "_law_own_kind" 1470 655 1 3 928 1474)::
(nat_lit 934,kf "_law_own_kind" (top 82) y11 933)::
(nat_lit 940,kd "_law_own_numbers" 1477 661 2 3 935 1490)::
(nat_lit 941,kf "_law_own_numbers" (top 83) y11 940)::
(nat_lit 947,kd "_law_own_do" 1493 671 2 3 942 1502)::
(nat_lit 948,kf "_law_own_do" (top 84) y11 947)::
(nat_lit 954,kd "_law_own_ask" 1505 695 2 3 949 1513)::
(nat_lit 955,kf "_law_own_ask" (top 85) y11 954)::
(nat_lit 961,kd "_law_row_done" 1516 708 2 3 956 1523)::
(nat_lit 962,kf "_law_row_done" (top 86) y11 961)::
(nat_lit 968,kd "_law_deed_of" 1526 716 1 3 963 1530)::
(nat_lit 969,kf "_law_deed_of" (top 87) y11 968)::
(nat_lit 975,kd "_law_row_gone" 1533 722 4 3 970 1543)::
(nat_lit 976,kf "_law_row_gone" (top 88) y11 975)::
(nat_lit 982,kd "_law_walk" 1546 736 3 3 977 1556)::
(nat_lit 983,kf "_law_walk" (top 89) y11 982)::
(nat_lit 989,kd "_law_fresh" 1559 744 0 3 984 1562)::
(nat_lit 990,kf "_law_fresh" (top 90) y11 989)::
(nat_lit 994,kn "_law_some_script" 1565 746 2 3 991 1568)::
(nat_lit 995,kf "_law_some_script" (top 91) y11 994)::
(nat_lit 1001,kd "_law_some_deeds" 1571 751 3 3 996 1583)::
(nat_lit 1002,kf "_law_some_deeds" (top 92) y11 1001)::
(nat_lit 1006,kn "_law_gone_by_hand" 1586 763 3 3 1003 1589)::
(nat_lit 1007,kf "_law_gone_by_hand" (top 93) y11 1006)::
(nat_lit 1013,kd "law" 1592 776 1 3 1008 1604)::
(nat_lit 1014,kf "law" (top 94) y11 1013)::
[]
def KA:List Addr:=[2,3,15,22,23,24,25,28,40,41,42,43,44,47,54,55,56,59,66,67,68,76,77,83,84,90,91,97,98,104,105,109,110,116,117,121,122,128,129,135,136,142,143,149,150,163,164,165,166,167,168,169,177,178,191,192,198,199,205,206,212,213,219,220,226,227,233,234,240,241,247,248,254,255,261,262,268,269,275,276,282,283,289,290,296,297,303,304,310,311,317,318,324,325,326,327,328,329,330,333,339,340,346,347,353,354,360,361,367,368,374,375,381,382,388,389,395,396,402,403,409,410,416,417,423,424,430,431,435,436,440,441,442,448,449,455,456,469,470,476,477,483,484,490,491,497,498,504,505,511,512,518,519,525,526,532,533,539,540,546,547,553,554,560,561,567,568,574,575,581,582,588,589,595,596,602,603,609,610,616,617,623,624,630,631,637,638,644,645,651,652,658,659,660,661,662,663,664,672,673,686,687,693,694,700,701,707,708,714,715,721,722,728,729,735,736,737,738,739,740,741,747,748,761,762,768,769,775,776,777,778,779,780,781,789,790,796,797,803,804,810,811,817,818,824,825,831,832,838,839,845,846,850,851,857,858,864,865,871,872,878,879,883,884,890,891,897,898,904,905,909,910,914,915,921,922,926,927,933,934,940,941,947,948,954,955,961,962,968,969,975,976,982,983,989,990,994,995,1001,1002,1006,1007,1013,1014]
theorem K_as:∀P,KA=(K P).map (·.1):=λ_=>by kernel_rfl
noncomputable def KR(P:Params):Frag:=Hd.BR P++[]
def Q:List Nat:=[36,72,79,86,93,100,107,112,119,124,131,138,145,159,173,187,194,201,208,215,222,229,236,243,250,257,264,271,278,285,292,299,306,313,320,335,342,349,356,363,370,377,384,391,398,405,412,419,426,433,438,444,451,465,472,479,486,493,500,507,514,521,528,535,542,549,556,563,570,577,584,591,598,605,612,619,626,633,640,647,654,668,682,689,696,703,710,717,724,731,745,757,764,771,785,792,799,806,813,820,827,834,841,848,853,860,867,874,881,886,893,900,907,912,917,924,929,936,943,950,957,964,971,978,985,992,997,1004,1009]
noncomputable def vw:Program:=W.view PySem.Challenge.pw_markwords_k65_plain_runs [1,2,3,4,6,7,8,9,10,11,12,14,15,16,17,19,20,21,23,24,25,26,28,29,30,31,32,33,34,35,36,38,39,40,41,43,44,45,46,47,49,50,51,52,53,55,56,58,59,60,61,62,63,64,65,66,67,69,70,71,72,73,74,75,76,77,78,79,80,81,82,83,84,85,86,87,88,89,90,91,92,93,94]
def ls:List Str:=["KINDS_BY_MARK"]
def lv:List (Str×WData):=[]
noncomputable def Xt(s:Shared):Bool:=xlAt vw lv s&&recOk (RowW.records (OpenRow.toRowW (OpenLaw.row PySem.Challenge.rw_markwords_k65_plain_runs))) s
noncomputable def Lf(w:World)(os:OsState):=(Hd.topT treeTable PySem.Challenge.pw_markwords_k65_plain_runs w 11 (some (.ref 6)) 12424 (Hd.S0 w os) (topStub PySem.Challenge.pw_markwords_k65_plain_runs)).map (λs=>(s.n,s.gens,Q.map s.tree.get,(Hd.KX (K w.params) (KR w.params)).map λp=>s.tree.get p.1))
noncomputable def Rt(w:World)(_:OsState):Option (Nat×Array GenState×List (Option Obj)×List (Option Obj)):=some (1015, #[],Q.map (λ_=>some Hd.E0),(Hd.KX (K w.params) (KR w.params)).map λp=>some p.2)
theorem Lf_is:Lf=Lf:=rfl
theorem Rt_is:Rt=Rt:=rfl
name_quick MwLq for Lf by Lf_is
name_quick MwRq for Rt by Rt_is
theorem run0(w:World):Lf (World.withFollow w "special-get-raises" false)=Rt (World.withFollow w "special-get-raises" false):=
 (GJ PySem.W.Fast.MwLq_eq (World.withFollow w "special-get-raises" false)).trans (Eq.trans (by kernel_rfl:PySem.W.Fast.MwLq (World.withFollow w "special-get-raises" false)=PySem.W.Fast.MwRq (World.withFollow w "special-get-raises" false)) (GJ PySem.W.Fast.MwRq_eq (World.withFollow w "special-get-raises" false)).symm)
theorem run1(w:World):Lf (World.withFollow w "special-get-raises" true)=Rt (World.withFollow w "special-get-raises" true):=
 (GJ PySem.W.Fast.MwLq_eq (World.withFollow w "special-get-raises" true)).trans (Eq.trans (by kernel_rfl:PySem.W.Fast.MwLq (World.withFollow w "special-get-raises" true)=PySem.W.Fast.MwRq (World.withFollow w "special-get-raises" true)) (GJ PySem.W.Fast.MwRq_eq (World.withFollow w "special-get-raises" true)).symm)
theorem run(w:World):Lf w=Rt w:=byRow2 "special-get-raises" (P:=λw=>Lf w=Rt w) run0 run1 w
theorem L_eq(w:World)(os:OsState):Lf w os=(Hd.topT treeTable PySem.Challenge.pw_markwords_k65_plain_runs w 11 (some (.ref 6)) 12424 (Hd.S0 w os) (topStub PySem.Challenge.pw_markwords_k65_plain_runs)).map (λs=>(s.n,s.gens,Q.map s.tree.get,(Hd.KX (K w.params) (KR w.params)).map λp=>s.tree.get p.1)):=by delta Lf;exact Eq.refl _
theorem R_eq(w:World)(os:OsState):Rt w os=some (1015, #[],Q.map (λ_=>some Hd.E0),(Hd.KX (K w.params) (KR w.params)).map λp=>some p.2):=by delta Rt;exact Eq.refl _
noncomputable def LfA(w:World)(f:Nat->Obj)(l:Life)(d:Drawn)(k:Nat)(os:OsState):=Hd.LkA PySem.Challenge.pw_markwords_k65_plain_runs vw w (Hd.SE (K w.params) (KR w.params) Q 1015 f l d k os)
noncomputable def RtA(w:World)(f:Nat->Obj)(l:Life)(d:Drawn)(k:Nat)(os:OsState):=Hd.GdA vw
theorem LfA_is:LfA=LfA:=rfl
name_quick MwLAq for LfA by LfA_is
theorem RtA_is:RtA=RtA:=rfl
name_quick MwRAq for RtA by RtA_is
theorem lookA(w:World):LfA (w)=RtA (w):=
 (GJ PySem.W.Fast.MwLAq_eq (w)).trans (Eq.trans (by kernel_rfl:PySem.W.Fast.MwLAq (w)=PySem.W.Fast.MwRAq (w)) (GJ PySem.W.Fast.MwRAq_eq (w)).symm)
theorem HA_eq(w:World)(f:Nat->Obj)(l:Life)(d:Drawn)(k:Nat)(os:OsState):Hd.LkA PySem.Challenge.pw_markwords_k65_plain_runs vw w (Hd.SE (K w.params) (KR w.params) Q 1015 f l d k os)=Hd.GdA vw:=Eq.trans (by delta LfA;exact Eq.refl _:_=LfA w f l d k os) ((GJ (GJ (GJ (GJ (GJ (lookA w) f) l) d) k) os).trans (by delta RtA;exact Eq.refl _))
noncomputable def LfB(w:World)(f:Nat->Obj)(l:Life)(d:Drawn)(k:Nat)(os:OsState):=(λs=>(Hd.LkB PySem.Challenge.pw_markwords_k65_plain_runs vw ls Xt s,tabsOk vw s)) (Hd.SE (K w.params) (KR w.params) Q 1015 f l d k os)
noncomputable def RtB(w:World)(f:Nat->Obj)(l:Life)(d:Drawn)(k:Nat)(os:OsState):=(true,true)
theorem LfB_is:LfB=LfB:=rfl
name_quick MwLBq for LfB by LfB_is
theorem lookB(w:World):LfB w=RtB w:=(GJ PySem.W.Fast.MwLBq_eq w).trans (by kernel_rfl)
theorem HB_eq(w:World)(f:Nat->Obj)(l:Life)(d:Drawn)(k:Nat)(os:OsState):(λs=>(Hd.LkB PySem.Challenge.pw_markwords_k65_plain_runs vw ls Xt s,tabsOk vw s)) (Hd.SE (K w.params) (KR w.params) Q 1015 f l d k os)=(true,true):=Eq.trans (by delta LfB;exact Eq.refl _:_=LfB w f l d k os) ((GJ (GJ (GJ (GJ (GJ (lookB w) f) l) d) k) os).trans (by delta RtB;exact Eq.refl _))
noncomputable def LfD(w:World)(f:Nat->Obj)(l:Life)(d:Drawn)(k:Nat)(os:OsState):=Hd.LkD vw ls (Hd.SE (K w.params) (KR w.params) Q 1015 f l d k os)
noncomputable def RtD(w:World)(f:Nat->Obj)(l:Life)(d:Drawn)(k:Nat)(os:OsState):=Hd.GdD vw ls
theorem LfD_is:LfD=LfD:=rfl
name_quick MwLDq for LfD by LfD_is
theorem RtD_is:RtD=RtD:=rfl
name_quick MwRDq for RtD by RtD_is
theorem lookD(w:World):LfD (w)=RtD (w):=
 (GJ PySem.W.Fast.MwLDq_eq (w)).trans (Eq.trans (by kernel_rfl:PySem.W.Fast.MwLDq (w)=PySem.W.Fast.MwRDq (w)) (GJ PySem.W.Fast.MwRDq_eq (w)).symm)
theorem HD_eq(w:World)(f:Nat->Obj)(l:Life)(d:Drawn)(k:Nat)(os:OsState):Hd.LkD vw ls (Hd.SE (K w.params) (KR w.params) Q 1015 f l d k os)=Hd.GdD vw ls:=Eq.trans (by delta LfD;exact Eq.refl _:_=LfD w f l d k os) ((GJ (GJ (GJ (GJ (GJ (lookD w) f) l) d) k) os).trans (by delta RtD;exact Eq.refl _))
noncomputable def LfC(w:World)(f:Nat->Obj)(l:Life)(d:Drawn)(k:Nat)(os:OsState):=(kHook K KA K_as).obs (Hd.SE (K w.params) (KR w.params) Q 1015 f l d k os)
noncomputable def RtC(w:World)(f:Nat->Obj)(l:Life)(d:Drawn)(k:Nat)(os:OsState):=(kHook K KA K_as).val w
theorem LfC_is:LfC=LfC:=rfl
name_quick MwLCq for LfC by LfC_is
theorem RtC_is:RtC=RtC:=rfl
name_quick MwRCq for RtC by RtC_is
theorem lookC(w:World):LfC (w)=RtC (w):=
 (GJ PySem.W.Fast.MwLCq_eq (w)).trans (Eq.trans (by kernel_rfl:PySem.W.Fast.MwLCq (w)=PySem.W.Fast.MwRCq (w)) (GJ PySem.W.Fast.MwRCq_eq (w)).symm)
theorem HC_eq(w:World)(f:Nat->Obj)(l:Life)(d:Drawn)(k:Nat)(os:OsState):(kHook K KA K_as).obs (Hd.SE (K w.params) (KR w.params) Q 1015 f l d k os)=(kHook K KA K_as).val w:=Eq.trans (by delta LfC;exact Eq.refl _:_=LfC w f l d k os) ((GJ (GJ (GJ (GJ (GJ (lookC w) f) l) d) k) os).trans (by delta RtC;exact Eq.refl _))
theorem hLf9:LeftO PySem.Challenge.pw_markwords_k65_plain_runs vw ls Xt (kHook K KA K_as).obs (kHook K KA K_as).val 12424 :=
 Hd.left_ofE (R:=KR) (Q:=Q) (M:=12424) (n:=1015) (by kernel_rfl) (by decide) (λ_=>by kernel_rfl) (by decide) (λw os=>(L_eq w os).symm.trans ((GJ (run w) os).trans (R_eq w os))) (λw f l d k os=>Hd.look3 (HA_eq w f l d k os) (HB_eq w f l d k os) (HD_eq w f l d k os) (HC_eq w f l d k os)) Hd.boot_main
end Mx
namespace L2
open PySem PySem.Spec PyProof.Rows
section
variable {prog:Program}{w:World}{A:Around}{E:Value->Shared->Prop}{s:Shared}
theorem Xk{Q:Int->Shared->Prop}(h:Q 4238894112 { s with toks:=s.toks+1 }):wpAny (model prog w) A (pyHash .none) Q E s:=by
 unfold pyHash;have hv:[Value.none].any Value.onHeap=false:=rfl;refine GD ?_;rw[cRoomFor,GH (by rw[hv];exact UH)];refine GE ?_;refine GD (Ud (Up s) F.slot_NoneType_hash.lookup ?_);show wpAny _ _ (if(some (Value.builtin "NoneType.__hash__")==some Value.none)=true then _ else _) Q E s;rw[GH (by rw[beq_builtin_none];exact UH)];refine GD (Ud (Up s) F.slot_NoneType_hash.lookup ?_);show wpAny _ _ (callSpecialIfBoundUnlessNone? .none "__hash__" _ >>= _) Q E s;refine GD (wpAny_callSpecialIfBoundUnlessNone?_slot (Up s) F.slot_NoneType_hash
  (Uk F.slot_NoneType_hash (Up s) F.entry_NoneType_hash
   (show wpAny _ _ (do ret (<-mkInt 4238894112)) _ _ s from wpAny_ret_mkInt ?_) (F.args_NoneType_hash_1 _)))
 show wpAny _ _ (if(decide (-(2:Int)^63<=4238894112)&&decide ((4238894112:Int)<2^63))=true then _ else _) Q E _;rw[GL (by decide)];exact GE h
end
inductive Key where
 |inl (i:Int)|inr (x:Str)|non
 deriving DecidableEq
def XD:Key->Value->Bool
 |.inl k,v=>Value.isInt k v
 |.inr x,v=>Value.isStrOf x v
 |.non,.none=>true
 |.non,_=>false
def keyH(w:World):Key->Int
 |.inl k=>hashInt k
 |.inr x=>hashStr w x
 |.non=>4238894112
theorem va:∀{k:Key}{v:Value},XD k v=true->(∃i t,k=Key.inl i/\v=Value.int i t)\/(∃x t,k=Key.inr x/\v=Value.str x t)\/(k=Key.non/\v=Value.none)
 |.inl i,v,h=>by
  obtain⟨t,e⟩:=Value.isInt_shape (k:=i) (v:=v) h;exact .inl ⟨i,t,rfl,e⟩
 |.inr x,v,h=>by
  obtain⟨t,e⟩:=Value.isStrOf_shape (x:=x) (v:=v) h;exact .inr (.inl ⟨x,t,rfl,e⟩)
 |.non,v,h=>by
  cases v<;>first|exact .inr (.inr ⟨rfl,rfl⟩)|exact absurd h (by simp[XD])
theorem Wu(i:Int)(t:Tok):XD (.inl i) (.int i t)=true:=by simp[XD,Value.isInt]
theorem Ws(x:Str)(t:Tok):XD (.inr x) (.str x t)=true:=by simp[XD,Value.isStrOf]
theorem q5M(a b:Int):decide ((Key.inl a:Key)=Key.inl b)=(a==b):=by
 by_cases e:a=b
 ·subst e;simp
 ·have h:¬(Key.inl a:Key)=Key.inl b:=λq=>e (Key.inl.inj q)
  rw[GI h];exact(beq_eq_false_iff_ne.mpr e).symm
theorem q4H(a b:Str):decide ((Key.inr a:Key)=Key.inr b)=decide (a=b):=by
 by_cases e:a=b
 ·subst e;simp
 ·have h:¬(Key.inr a:Key)=Key.inr b:=λq=>e (Key.inr.inj q)
  rw[GI h,GI e]
theorem q5r(a:Int)(b:Str):decide ((Key.inl a:Key)=Key.inr b)=false:=GI (λq=>nomatch q)
theorem q5R(a:Str)(b:Int):decide ((Key.inr a:Key)=Key.inl b)=false:=GI (λq=>nomatch q)
def qV(prog:Program)(w:World):PySem.KeyKind prog w Key where
 is:=XD
 hash:=keyH w
 inj:=λv a b ha hb=>by
  rcases va ha with⟨i,t,rfl,rfl⟩|⟨x,t,rfl,rfl⟩|⟨rfl,rfl⟩
  ·rcases va hb with⟨j,u,rfl,e⟩|⟨y,u,rfl,e⟩|⟨rfl,e⟩
   ·injection e with e1 _;rw[e1]
   ·exact nomatch e
   ·exact nomatch e
  ·rcases va hb with⟨j,u,rfl,e⟩|⟨y,u,rfl,e⟩|⟨rfl,e⟩
   ·exact nomatch e
   ·injection e with e1 _;rw[e1]
   ·exact nomatch e
  ·rcases va hb with⟨j,u,rfl,e⟩|⟨y,u,rfl,e⟩|⟨rfl,e⟩
   ·exact nomatch e
   ·exact nomatch e
   ·rfl
 byValue:=λk v h=>by
  rcases va h with⟨i,t,rfl,rfl⟩|⟨x,t,rfl,rfl⟩|⟨rfl,rfl⟩<;>rfl
 pyHash:=λhv h=>by
  rcases va hv with⟨i,t,rfl,rfl⟩|⟨x,t,rfl,rfl⟩|⟨rfl,rfl⟩
  ·exact wpAny_pyHash_int h
  ·exact wpAny_pyHash_str h
  ·exact Xk h
 eqBool:=λhu hv h=>by
  rcases va hu with⟨i,t,rfl,rfl⟩|⟨x,t,rfl,rfl⟩|⟨rfl,rfl⟩
  ·rcases va hv with⟨j,u,rfl,rfl⟩|⟨y,u,rfl,rfl⟩|⟨rfl,rfl⟩
   ·rw[q5M]at h;exact wpAny_eqBool_int h
   ·rw[q5r]at h;exact SeqAt.EqAt.int_str i t y u _ _ _ _ h
   ·exact SeqAt.EqAt.int_none i t _ _ _ _ h
  ·rcases va hv with⟨j,u,rfl,rfl⟩|⟨y,u,rfl,rfl⟩|⟨rfl,rfl⟩
   ·rw[q5R]at h;exact SeqAt.EqAt.str_int x t j u _ _ _ _ h
   ·rw[q4H]at h;exact wpAny_eqBool_str h
   ·exact SeqAt.EqAt.str_none x t _ _ _ _ h
  ·rcases va hv with⟨j,u,rfl,rfl⟩|⟨y,u,rfl,rfl⟩|⟨rfl,rfl⟩
   ·exact SeqAt.EqAt.none_int j u _ _ _ _ h
   ·exact SeqAt.EqAt.none_str y u _ _ _ _ h
   ·exact SeqAt.EqAt.same .none _ _ _ _ h
 «strs»:=λk x t v h=>by
  rcases va h with⟨i,u,rfl,e⟩|⟨y,u,rfl,e⟩|⟨rfl,e⟩
  ·exact nomatch e
  ·injection e with e1 _
   subst e1;cases v<;>rfl
  ·exact nomatch e
theorem Xy(prog:Program)(w:World)(i:Int)(t:Tok):(qV prog w).is (.inl i) (.int i t)=true:=Wu i t
theorem xF(prog:Program)(w:World)(x:Str)(t:Tok):(qV prog w).is (.inr x) (.str x t)=true:=Ws x t
inductive V where
 |non|bl (b:Bool)|int (i:Int)|str (x:Str)|byt (b:Array UInt8)|flt (b:UInt64)|ref (a:Addr)|ty (n:String)
 deriving DecidableEq
def RelV:V->Value->Prop
 |.non,u=>u=Value.none
 |.bl b,u=>u=Value.bool b
 |.int i,u=>∃t,u=Value.int i t
 |.str x,u=>∃t,u=Value.str x t
 |.byt b,u=>∃t,u=Value.bytes b t
 |.flt b,u=>∃t,u=Value.float b t
 |.ref a,u=>u=Value.ref a
 |.ty n,u=>u=Value.type n
abbrev Vals:List V->List Value->Prop:=Paired RelV
theorem Vals.length{xs:List V}{us:List Value}(r:Vals xs us):xs.length=us.length:=Paired.length r
theorem Vals.get:∀{xs:List V}{us:List Value}{i:Nat}{x:V},Vals xs us->xs[i]?=some x->∃u,us[i]?=some u/\RelV x u
 |_,_,_,_,.nil,e=>by simp at e
 |_,_,0,_,.cons r _,e=>by simp at e;subst e;exact⟨_,rfl,r⟩
 |_,_,i+1,x,.cons _ t,e=>by
  obtain⟨u,h1,h2⟩:=Vals.get (i:=i) (x:=x) t (by simpa using e);exact⟨u,by simpa using h1,h2⟩
theorem Vals.set{x:V}{u:Value}(r:RelV x u):∀{xs:List V}{us:List Value}(i:Nat),Vals xs us->Vals (xs.set i x) (us.set i u)
 |_,_,_,.nil=>.nil
 |_,_,0,.cons _ t=>.cons r t
 |_,_,i+1,.cons q t=>.cons q (Vals.set r i t)
theorem Vals.append:∀{xs ys:List V}{us ws:List Value},Vals xs us->Vals ys ws->Vals (xs++ys) (us++ws)
 |_,_,_,_,.nil,s=>s
 |_,_,_,_,.cons r t,s=>.cons r (Vals.append t s)
theorem Vals.take:∀{xs:List V}{us:List Value}(n:Nat),Vals xs us->Vals (xs.take n) (us.take n)
 |_,_,0,_=>.nil
 |_,_,_+1,.nil=>.nil
 |_,_,n+1,.cons r t=>.cons r (Vals.take n t)
theorem Vals.drop:∀{xs:List V}{us:List Value}(n:Nat),Vals xs us->Vals (xs.drop n) (us.drop n)
 |_,_,0,r=>r
 |_,_,_+1,.nil=>.nil
 |_,_,n+1,.cons _ t=>Vals.drop n t
def RelO:Option V->Option Value->Prop
 |some v,some u=>RelV v u
 |none,none=>True
 |_,_=>False
def KV{κ:Type}:List (κ×V)->List (κ×Value)->Prop:=Paired λ(p:κ×V) (q:κ×Value)=>p.1=q.1/\RelV p.2 q.2
def kV:Key->V
 |.inl i=>.int i
 |.inr x=>.str x
 |.non=>.non
inductive HO where
  |lst (xs:List V)
  |tup (xs:List V)
  |dK (kvs:List (Key×V))|dT (kvs:List (List Key×V))
  |set (S:Int->Bool) (n:Nat)
  |ins (C dx:Addr) (fs:List (Str×V))
  |own (x:Addr)
  |xd (fs:List (Str×V))
  |met (f x:Addr)
  |rng (lo hi:Int)
  |frz (o:Obj) (u:HO)
  |tbl (ps:Array Value)
  |ext (φ:Heap->Prop)
abbrev Hp:=Addr->Option HO
def upd(H:Hp)(a:Addr)(o:HO):Hp:=λb=>if b=a then some o else H b
theorem upd_same{H:Hp}{a:Addr}{o:HO}:upd H a o a=some o:=by unfold upd;rw[GL rfl]
theorem upd_ne{H:Hp}{a b:Addr}{o:HO}(h:b≠a):upd H a o b=H b:=by unfold upd;rw[GH h]
theorem qU{H:Hp}{a b:Addr}{o:HO}(h:H a=some o)(h':H b=none):a≠b:=by
 intro e;subst e;rw[h]at h';cases h'
section
variable (P:Program) (w:World)
def ObjOk(H:Hp)(h:Heap)(a:Addr):HO->Prop
 |.lst xs=>xs.length<=sizeLine/\∃(its:List Value)(n:Nat),Vals xs its/\h.get? a=some { cls:=.type "list", data:=.seq its.toArray n }
 |.tup xs=>xs.length<=sizeLine/\∃its:List Value,Vals xs its/\IsTup h a its.toArray
 |.dK kvs=>kvs.length<=sizeLine/\(a==sysModules)=false/\∃vs,KV kvs vs/\h.DictOf (qV P w) a vs
 |.dT kvs=>kvs.length<=sizeLine/\(a==sysModules)=false/\∃xs:List (List Key×Addr×Value),
   Paired (λ(p:List Key×V) (q:List Key×Addr×Value)=>p.1=q.1/\H q.2.1=some (.tup (p.1.map kV))/\RelV p.2 q.2.2) kvs xs /\
   ∃o es ep,h.get? a=some o/\o.ExactDict/\o.data=.dict es ep/\es.toList=xs.map (entryOfKey (tupleKind (qV P w)))/\(xs.map (·.1)).Nodup
 |.set S n=>h.SetOf (intKind P w) a S n
 |.ins C dx fs=>H dx=some (.own a)/\fs.length<=1000/\dx≠a/\h.get? a=some (W.instObj C dx) /\
   ∃mA,h.Ns1 dx mA/\(∀f,RelO (fs.lookup f) (mA f))/\PySem.Within mA (fs.map (·.1))
 |.own _=>∃o,h.get? a=some o
 |.xd fs=>∃mA,h.Ns1 a mA/\∀f,RelO (fs.lookup f) (mA f)
 |.rng lo hi=>∃t u v,h.get? a=some { cls:=.type "range", data:=.fields #[.int lo t,.int hi u,.int 1 v] }
 |.frz o u=>h.get? a=some o/\ObjOk H h a u
 |.tbl ps=>h.get? a=some { cls:=.none,data:=.fields ps }
 |.met f x=>h.get? a=some (W.methodObj (.ref f) (.ref x))
 |.ext φ=>φ h/\(∃o,h.get? a=some o)/\∀h1 h2:Heap,φ h1->(∀o,h1.get? a=some o->h2.get? a=some o)->φ h2
def HOk(H:Hp)(h:Heap):Prop:=∀a o,H a=some o->ObjOk P w H h a o
end
section
variable {P:Program}{w:World}{H H':Hp}{h h':Heap}{a:Addr}{o:HO}
theorem ObjOk.lt(x:ObjOk P w H h a o):a<h.objs.size:=by
 cases o with
 |lst xs=>obtain⟨_,_,_,_,e⟩:=x;exact Heap.lt_size e
 |tup xs=>obtain⟨_,_,_,p⟩:=x;exact p.lt
 |dK kvs=>obtain⟨_,_,_,_,o,_,_,e,_⟩:=x;exact Heap.lt_size e
 |dT kvs=>obtain⟨_,_,_,_,o,_,_,e,_⟩:=x;exact Heap.lt_size e
 |set S n=>obtain⟨o,_,_,_,e,_⟩:=x;exact Heap.lt_size e
 |ins C dx fs=>obtain⟨_,_,_,e,_⟩:=x;exact Heap.lt_size e
 |own y=>obtain⟨_,e⟩:=x;exact Heap.lt_size e
 |xd fs=>obtain⟨_,⟨_,_,_,e,_⟩,_⟩:=x;exact Heap.lt_size e
 |rng lo hi=>obtain⟨_,_,_,e⟩:=x;exact Heap.lt_size e
 |frz ob u=>obtain⟨e,_⟩:=x;exact Heap.lt_size e
 |tbl ps=>exact Heap.lt_size (show h.get? a=some _ from x)
 |met f y=>exact Heap.lt_size (show h.get? a=some _ from x)
 |ext φ=>obtain⟨_,⟨_,e⟩,_⟩:=x;exact Heap.lt_size e
theorem Paired.mapP{α β:Type}{F G:α->β->Prop}:∀{gy:List α}{gz:List β},Paired F gy gz->(∀a b,F a b->G a b)->Paired G gy gz
 |_,_,.nil,_=>.nil
 |_,_,.cons r t,f=>.cons (f _ _ r) (Paired.mapP t f)
theorem ObjOk.stay(x:ObjOk P w H h a o)(k:∀b u,(b=a\/H b=some (.own a))->h.get? b=some u->h'.get? b=some u)(ho:∀b,H b=some (.own a)->H' b=some (.own a))(ht:∀b xs,H b=some (.tup xs)->H' b=some (.tup xs)):ObjOk P w H' h' a o:=by
 induction o with
 |lst xs=>obtain⟨z,its,n,r,e⟩:=x;exact⟨z,its,n,r,k _ _ (.inl rfl) e⟩
 |tup xs=>obtain⟨z,its,r,ob,e,c⟩:=x;exact⟨z,its,r,ob,k _ _ (.inl rfl) e,c⟩
 |dK kvs=>obtain⟨z,y,vs,r,ob,es,ep,e,c⟩:=x;exact⟨z,y,vs,r,ob,es,ep,k _ _ (.inl rfl) e,c⟩
 |dT kvs=>
  obtain⟨z,y,xs,r,ob,es,ep,e,c⟩:=x;exact⟨z,y,xs,Paired.mapP r λp q z=>⟨z.1,ht _ _ z.2.1,z.2.2⟩,ob,es,ep,k _ _ (.inl rfl) e,c⟩
 |set S n=>obtain⟨ob,es,ep,t,e,c⟩:=x;exact⟨ob,es,ep,t,k _ _ (.inl rfl) e,c⟩
 |ins C dx fs=>
  obtain⟨d,z,ne,e,mA,⟨od,es,ep,e2,c⟩,r⟩:=x;exact⟨ho _ d,z,ne,k _ _ (.inl rfl) e,mA,⟨od,es,ep,k _ _ (.inr d) e2,c⟩,r⟩
 |own y=>obtain⟨ob,e⟩:=x;exact⟨ob,k _ _ (.inl rfl) e⟩
 |xd fs=>obtain⟨mA,⟨od,es,ep,e,c⟩,r⟩:=x;exact⟨mA,⟨od,es,ep,k _ _ (.inl rfl) e,c⟩,r⟩
 |rng lo hi=>obtain⟨t,u,v,e⟩:=x;exact⟨t,u,v,k _ _ (.inl rfl) e⟩
 |frz ob u ih=>obtain⟨e,q⟩:=x;exact⟨k _ _ (.inl rfl) e,ih q⟩
 |tbl ps=>
  have e:h.get? a=some { cls:=.none,data:=.fields ps }:=x;show h'.get? a=some { cls:=.none,data:=.fields ps };exact k a _ (.inl rfl) e
 |met f y=>
  have e:h.get? a=some (W.methodObj (.ref f) (.ref y)):=x;show h'.get? a=some (W.methodObj (.ref f) (.ref y));exact k a _ (.inl rfl) e
 |ext φ=>obtain⟨p,⟨o,e⟩,st⟩:=x;exact⟨st _ _ p λo q=>k _ _ (.inl rfl) q,⟨o,k _ _ (.inl rfl) e⟩,st⟩
theorem HOk.lt(x:HOk P w H h)(e:H a=some o):a<h.objs.size:=(x a o e).lt
theorem HOk.fresh(x:HOk P w H h)(e:h.objs.size<=a):H a=none:=by
 cases q:H a with
 |none=>rfl
 |some u=>exact absurd (UP (x.lt q) e) (DI _)
theorem HOk.kept(x:HOk P w H h)(k:∀b u,h.get? b=some u->h'.get? b=some u):HOk P w H h':=λa o e=>
 (x a o e).stay (λb u _ q=>k b u q) (λ_ q=>q) λ_ _ q=>q
theorem HOk.laid(x:HOk P w H h)(k:∀b u,h.get? b=some u->h'.get? b=some u)(hp:h.objs.size<=a)(new:ObjOk P w (upd H a o) h' a o):HOk P w (upd H a o) h':=λb u e=>by
 have hn:=x.fresh hp;by_cases hb:b=a
 ·subst hb;rw[upd_same]at e;cases e;exact new
 ·rw[upd_ne hb]at e
  exact(x b u e).stay (λc v _ q=>k c v q) (λc q=>by rw[upd_ne (qU q hn)];exact q) λc xs q=>by rw[upd_ne (qU q hn)];exact q
end
def Rd(H:Hp)(a:Addr)(u:HO):Prop:=H a=some u\/∃o,H a=some (.frz o u)
theorem Rd.ok{P:Program}{w:World}{H:Hp}{h:Heap}{a:Addr}{u:HO}(r:Rd H a u)(x:HOk P w H h):ObjOk P w H h a u:=by
 rcases r with r|⟨o,r⟩
 ·exact x a u r
 ·obtain⟨_,q⟩:=x a _ r
  exact q
def Mut:Option HO->Prop
 |some (.lst _)=>True
 |some (.dK _)=>True
 |some (.dT _)=>True
 |some (.set _ _)=>True
 |some (.ins _ _ _)=>True
 |some (.ext _)=>True
 |_=>False
section
variable {P:Program}{w:World}{H:Hp}{h h':Heap}{x e:Addr}{o':HO}
theorem HOk.write(ok:HOk P w H h)(mu:Mut (H x))(he:e=x\/H e=some (.own x))(k:∀b u,b≠e->h.get? b=some u->h'.get? b=some u)(g8:∃u,h'.get? e=some u)(new:ObjOk P w (upd H x o') h' x o'):HOk P w (upd H x o') h':=λb u q=>by
 have gA:∀c y,H c=some (.own y)->c≠x:=λc y r z=>by subst z;rw[r]at mu;exact mu
 have iY:∀c xs,H c=some (.tup xs)->c≠x:=λc xs r z=>by subst z;rw[r]at mu;exact mu
 by_cases hb:b=x
 ·subst hb;rw[upd_same]at q;cases q;exact new
 ·rw[upd_ne hb]at q
  by_cases eg:b=e
  ·have q':H b=some (.own x):=by
    rcases he with z|z
    ·exact absurd (eg.trans z) hb
    ·rw[eg];exact z
   rw[q]at q';cases q';obtain⟨v,hv⟩:=g8;exact⟨v,by rw[eg];exact hv⟩
  ·refine(ok b u q).stay (λc v hc r=>k c v ?_ r) (λc r=>by rw[upd_ne (gA c b r)];exact r) λc xs r=>by rw[upd_ne (iY c xs r)];exact r
   rcases hc with rfl|hc
   ·exact eg
   ·rintro rfl
    rcases he with z|z
    ·exact gA c b hc z
    ·rw[hc]at z;cases z;exact hb rfl
end
structure Un(fs ex:List Addr)(H H':Hp)(h h':Heap):Prop where
 keep:∀b o,h.get? b=some o->H b=none->b∉fs->b∉ex->h'.get? b=some o
 slot:∀b o,h.get? b=some o->H b=none->b∈fs->b∉ex->∃sl,h'.get? b=some { o with slots:=sl }
 free:∀b o,h.get? b=some o->H b=none->b∉ex->H' b=none
 there:∀b o,h.get? b=some o->b∉ex->∃o',h'.get? b=some o'
 tups:∀b xs,H b=some (.tup xs)->H' b=some (.tup xs)
 frzs:∀b o u,H b=some (.frz o u)->H' b=some (.frz o u)
 tbls:∀b ps,H b=some (.tbl ps)->∃more,H' b=some (.tbl (ps++more))
section
variable {fs mT ex mU:List Addr}{H H1 H2:Hp}{h h1 h2 h':Heap}{a x e:Addr}{o:HO}
theorem Un.any(u:Un fs ex H H1 h h1){b:Addr}{ob:Obj}(q:h.get? b=some ob)(n:H b=none)(hx:b∉ex):∃sl,h1.get? b=some { ob with slots:=sl }:=by
 by_cases hb:b∈fs
 ·exact u.slot b ob q n hb hx
 ·exact⟨ob.slots,u.keep b ob q n hb hx⟩
theorem Un.trans(a:Un fs ex H H1 h h1)(b:Un fs ex H1 H2 h1 h2):Un fs ex H H2 h h2 where
 keep:=λc ob q n hc hx=>b.keep c ob (a.keep c ob q n hc hx) (a.free c ob q n hx) hc hx
 slot:=λc ob q n hc hx=>by
  obtain⟨sl,e1⟩:=a.slot c ob q n hc hx;obtain⟨ip,e2⟩:=b.slot c _ e1 (a.free c ob q n hx) hc hx;exact⟨ip,e2⟩
 free:=λc ob q n hx=>by
  obtain⟨o',e1⟩:=a.there c ob q hx;exact b.free c o' e1 (a.free c ob q n hx) hx
 there:=λc ob q hx=>by
  obtain⟨o',e1⟩:=a.there c ob q hx;exact b.there c o' e1 hx
 tups:=λc xs q=>b.tups c xs (a.tups c xs q)
 frzs:=λc ob xs q=>b.frzs c ob xs (a.frzs c ob xs q)
 tbls:=λc ps q=>by
  obtain⟨m1,e1⟩:=a.tbls c ps q;obtain⟨m2,e2⟩:=b.tbls c _ e1;exact⟨m1++m2,by rw[e2,Rb]⟩
theorem Un.kept(k:∀b u,h.get? b=some u->h'.get? b=some u):Un fs ex H H h h' :=
 ⟨λb ob q _ _ _=>k b ob q,λb ob q _ _ _=>⟨ob.slots,k b ob q⟩,λ_ _ _ n _=>n,λb ob q _=>⟨ob,k b ob q⟩,λ_ _ q=>q,λ_ _ _ q=>q,λ_ ps q=>⟨#[],by rw[q];simp⟩⟩
theorem Un.refl:Un fs ex H H h h:=Un.kept λ_ _ q=>q
theorem Un.laid(k:∀b u,h.get? b=some u->h'.get? b=some u)(hp:h.objs.size<=a)(hn:H a=none):Un fs ex H (upd H a o) h h' where
 keep:=λb u q _ _ _=>k b u q
 slot:=λb u q _ _ _=>⟨u.slots,k b u q⟩
 free:=λb u q n _=>by rw[upd_ne (UU (UP (Heap.lt_size q) hp))];exact n
 there:=λb u q _=>⟨u,k b u q⟩
 tups:=λb xs q=>by rw[upd_ne (qU q hn)];exact q
 frzs:=λb u xs q=>by rw[upd_ne (qU q hn)];exact q
 tbls:=λb ps q=>⟨#[],by rw[upd_ne (qU q hn),q];simp⟩
theorem Un.write(mu:Mut (H x))(he:e=x\/H e=some (.own x))(k:∀b u,b≠e->h.get? b=some u->h'.get? b=some u)(g8:∃u,h'.get? e=some u):Un fs ex H (upd H x o) h h':=by
 have hx:∀b,H b=none->b≠x:=λb n z=>by subst z;rw[n]at mu;exact mu
 have hb:∀b,H b=none->b≠e:=λb n z=>by
  subst z;rcases he with r|r
  ·exact hx b n r
  ·rw[n]at r;cases r
 have hm:∀b u,H b=some u->¬Mut (some u)->b≠x:=λb u q nm z=>by subst z;rw[q]at mu;exact nm mu
 refine⟨λb u q n _ _=>k b u (hb b n) q,λb u q n _ _=>⟨u.slots,k b u (hb b n) q⟩,λb u q n _=>by rw[upd_ne (hx b n)];exact n,λb u q _=>?_,
  λb xs q=>by rw[upd_ne (hm b _ q λz=>z)];exact q,λb u xs q=>by rw[upd_ne (hm b _ q λz=>z)];exact q,λb ps q=>⟨#[],by rw[upd_ne (hm b _ q λz=>z),q];simp⟩⟩
 by_cases eg:b=e
 ·subst eg;exact g8
 ·exact⟨u,k b u eg q⟩
theorem Un.mono(u:Un fs ex H H1 h h1)(hs:∀b∈fs,b∈mT)(hx:∀b∈ex,b∈mU):Un mT mU H H1 h h1 :=
 ⟨λb ob q n hb he=>u.keep b ob q n (λz=>hb (hs b z)) λz=>he (hx b z),λ_ _ q n _ he=>u.any q n λz=>he (hx _ z),λb ob q n he=>u.free b ob q n λz=>he (hx b z),λb ob q he=>u.there b ob q λz=>he (hx b z),u.tups,u.frzs,u.tbls⟩
end
def trk(h:Heap)(H:Hp):List Addr:=(List.range h.objs.size).filter λa=>(H a).isSome
def hidT(h:Heap)(H:Hp):Heap:=W.hideAll h (trk h H)
theorem WD(h:Heap)(H:Hp):(hidT h H).objs.size=h.objs.size:=W.hideAll_size _ _
theorem q1h{h:Heap}{H:Hp}{b:Addr}{o:Obj}(e:h.get? b=some o)(n:H b=none):(hidT h H).get? b=some o :=
 DF _ e λhm=>by
  have q:(H b).isSome=true:=(D1.mp hm).2;rw[n]at q;simp at q
theorem q4g{h:Heap}{H:Hp}{b:Addr}{o:Obj}(e:(hidT h H).get? b=some o):h.get? b=some o/\H b=none:=by
 have e':h.get? b=some o:=RJ (trk h H) e;refine⟨e',?_⟩;cases q:H b with
 |none=>rfl
 |some x=>
  have hm:b∈trk h H:=D1.mpr ⟨DV.mpr (Heap.lt_size e'),by simp[q]⟩;have z:(hidT h H).get? b=none:=DB (trk h H) hm;rw[z]at e;cases e
def q3d(g h:Heap)(L:Addr):List (Addr×Obj):=(List.range h.objs.size).filterMap λa=>if a=L\/(g.get? a).isSome=true then none else(h.get? a).map λo=>(a,o)
def rest(g h:Heap)(L d:Addr):List (Addr×Obj):=(q3d g h L).filter λp=>decide (p.1≠d)
structure Mod(K:PySem.W.Frag)(mg:Str->Option Value)(base:Heap):Prop where
 kin:K.In base
 glob:base.Ns mainGlobals mg
 blt:∃mb,base.Ns builtinsNs mb/\∀x:Str,x ≠ "__name__" -> mb x=bootBuiltins x
 nolimit:base.NoLimit
structure Cx where
 prog:Program
 w:World
 K:PySem.W.Frag
 mg:Str->Option Value
 base:Heap
 A:Around
 N:List Str
 s₀:Shared
 H₀:Hp
 env:Env
 outer:List Env
 stack:List Env
 ex:List Addr
 fn:Str->Bool
 calm:Bool
 pn:List (Addr×Obj)
 xe:Value->Shared->Prop
def frs(l:List Env):List Addr:=l.filterMap (·.frame)
abbrev Cx.fs(X:Cx):List Addr:=frs X.outer
def Vis(sc:Scope)(x:Str):Prop:=sc.names.lookup x=some .local\/sc.names.lookup x=some .cell\/sc.names.lookup x=some .free
def Loc(sc:Scope)(x:Str):Prop:=sc.names.lookup x=some .local\/sc.names.lookup x=some .cell
def Look(env:Env)(h:Heap)(m:Str->Option Value)(x:Str)(u:Value):Prop :=
 (env.kindOf x=some .local/\m x=some u)\/((env.kindOf x=some .cell\/env.kindOf x=some .free)/\∃c,env.cells.lookup x=some c/\h.IsCell c (some u))
structure Cx.Ok(X:Cx):Prop where
 mod:Mod X.K X.mg X.base
 kind:X.env.scope.kind=.function
 glob:X.env.globals=mainGlobals
 blt:X.env.builtins=builtinsNs
 above:X.s₀.heap.objs.size<=X.env.locals
 inj:∀x y c,X.env.cells.lookup x=some c->X.env.cells.lookup y=some c->x=y
 has:∀x,(X.env.kindOf x=some .cell\/X.env.kindOf x=some .free)->∃c,X.env.cells.lookup x=some c
 cab:∀x c,X.fn x=true->X.env.cells.lookup x=some c->X.s₀.heap.objs.size<=c
 hd:X.calm=true->X.A.handled=none
 frames:X.A.frames=some X.stack
 stk:X.stack=X.outer\/(X.stack=X.env::X.outer/\X.env.frame=some X.env.locals)
 exf:∀b∈X.ex,b≠X.env.locals/\∀x c,X.env.cells.lookup x=some c->c≠b
 bs:∀b o,X.base.get? b=some o->X.s₀.heap.get? b=some o/\X.H₀ b=none
 bsz:X.base.objs.size<=X.s₀.heap.objs.size
 noex:∀b o,X.base.get? b=some o->b∉X.ex
 exfs:∀b∈X.ex,b∉X.fs
 funs:X.s₀.heap.FunFrames X.base X.outer
 frf:∀b∈X.fs,X.H₀ b=none
structure Inv(X:Cx)(a5:List (Addr×Obj))(σ:List (Option V))(H:Hp)(s:Shared):Prop where
 ok:X.Ok
 os:s.os=X.s₀.os
 bare:AllBare s.gens
 base:Un X.fs X.ex X.H₀ H X.s₀.heap s.heap
 loc:∃m,s.heap.Ns X.env.locals m/\∀(i:Nat)(x:Str)(v:V),X.N[i]?=some x->σ[i]?=some (some v)->Vis X.env.scope x->∃u,RelV v u/\Look X.env s.heap m x u
 cell:∀x c,X.env.cells.lookup x=some c->∃v,s.heap.IsCell c v
 free:H X.env.locals=none
 freeC:∀x c,X.env.cells.lookup x=some c->H c=none
 pin:∀p∈X.pn++a5,s.heap.get? p.1=some p.2/\H p.1=none/\p.1≠X.env.locals/\p.1∉X.fs/\∀v,p.2.data ≠ .cell v
 hok:HOk X.prog X.w H s.heap
 len:σ.length=X.N.length
section
variable {X:Cx}{a5:List (Addr×Obj)}{σ:List (Option V)}{H H':Hp}{s:Shared}{h':Heap}
theorem Cx.Ok.nofr(ok:X.Ok){b:Addr}{o:Obj}(e:X.base.get? b=some o):b∉X.fs:=λhb=>by
 have:=(ok.funs.mem hb).1;rw[e]at this;cases this
theorem Inv.bs(I:Inv X a5 σ H s):∀b o,X.base.get? b=some o->s.heap.get? b=some o/\H b=none:=λb o e=>
 ⟨I.base.keep b o (I.ok.bs b o e).1 (I.ok.bs b o e).2 (I.ok.nofr e) (I.ok.noex b o e),I.base.free b o (I.ok.bs b o e).1 (I.ok.bs b o e).2 (I.ok.noex b o e)⟩
theorem Inv.bk(I:Inv X a5 σ H s):∀b o,X.base.get? b=some o->s.heap.get? b=some o:=λb o e=>(I.bs b o e).1
theorem Inv.mod(I:Inv X a5 σ H s):Mod X.K X.mg X.base:=I.ok.mod
theorem Inv.kIn(I:Inv X a5 σ H s):X.K.In s.heap:=I.ok.mod.kin.keeps I.bk
theorem Inv.fr(I:Inv X a5 σ H s):∃m,Fr X.base X.env.locals s.heap m :=
 let⟨m,hn,_⟩:=I.loc
 ⟨m,hn,I.bk,U3 I.ok.bsz I.ok.above⟩
theorem Inv.lt(I:Inv X a5 σ H s):X.env.locals<s.heap.objs.size:=let⟨_,hn,_⟩:=I.loc;hn.lt
theorem Inv.sz(I:Inv X a5 σ H s):X.s₀.heap.objs.size<=s.heap.objs.size:=U3 I.ok.above (U1 I.lt)
theorem Inv.nofs(I:Inv X a5 σ H s){a:Addr}(h:s.heap.objs.size<=a):a∉X.fs:=λhb=>by
 obtain⟨_,o,ho,_⟩:=I.ok.funs.mem hb;exact absurd (UP (Heap.lt_size ho) (U3 I.sz h)) (DI _)
theorem Inv.cne(I:Inv X a5 σ H s):∀x c,X.env.cells.lookup x=some c->c≠X.env.locals:=λx c e z=>by
 obtain⟨v,o,ho,hd⟩:=I.cell x c e;obtain⟨m,⟨o',es,ep,ce,dv,_⟩,_⟩:=I.loc;rw[z,ce]at ho;cases ho;rw[dv]at hd;cases hd
theorem Inv.funs(I:Inv X a5 σ H s):s.heap.FunFrames X.base X.outer:=by
 have all:∀(l:List Env),(∀b∈frs l,b∈X.fs)->X.s₀.heap.FunFrames X.base l->s.heap.FunFrames X.base l:=by
  intro l
  induction l with
  |nil=>intro _ _;trivial
  |cons env r ih=>
   intro hs hl;obtain⟨hk,⟨L,o,hf,hn,ho,hd⟩,hr⟩:=hl;have hL:L∈X.fs:=hs L (by unfold frs;rw[D2,hf];exact Di);obtain⟨sl,e⟩:=I.base.slot L o ho (I.ok.frf L hL) hL λz=>I.ok.exfs L z hL;exact⟨hk,⟨L,_,hf,hn,e,hd⟩,ih (λb hb=>hs b (by unfold frs;rw[D2,hf];exact U4 _ hb)) hr⟩
 exact all X.outer (λ_ hb=>hb) I.ok.funs
theorem Inv.stack(I:Inv X a5 σ H s):s.heap.FunFrames X.base X.stack:=by
 rcases I.ok.stk with e|⟨e,hf⟩
 ·rw[e];exact I.funs
 ·rw[e]
  obtain⟨m,hn,_⟩:=I.loc;refine .cons (by rw[I.ok.kind];decide) hf hn ?_ I.funs;exact Heap.get?_none_of_le (U3 I.ok.bsz I.ok.above)
theorem Inv.stkSub(I:Inv X a5 σ H s):∀b∈frs X.stack,b∈X.env.locals::X.fs:=λb hb=>by
 rcases I.ok.stk with e|⟨e,hf⟩
 ·rw[e]at hb;exact U4 _ hb
 ·rw[e]at hb
  unfold frs at hb;rw[D2,hf]at hb;exact hb
theorem Inv.stkFree(I:Inv X a5 σ H s):∀b∈frs X.stack,H b=none:=λb hb=>by
 rcases UQ.mp (I.stkSub b hb)with e|hb
 ·rw[e];exact I.free
 ·obtain⟨_,o,ho,_⟩:=I.ok.funs.mem hb
  exact I.base.free b o ho (I.ok.frf b hb) λz=>I.ok.exfs b z hb
theorem Inv.step{g':Array GenState}{t':Nat}{d':Drawn}{ch:List Addr}(I:Inv X a5 σ H s)(dY:∀b∈ch,(b∈X.ex\/X.s₀.heap.objs.size<=b)/\b≠X.env.locals/\(∀x c,X.env.cells.lookup x=some c->c≠b)/\∀p∈X.pn++a5,p.1≠b)(keep:∀b o,b≠X.env.locals->b∉X.fs->b∉ch->s.heap.get? b=some o->H b=none->h'.get? b=some o)(slot:∀b o,b≠X.env.locals->b∈X.fs->b∉ch->s.heap.get? b=some o->H b=none->∃sl,h'.get? b=some { o with slots:=sl })(free:∀b o,b∉ch->s.heap.get? b=some o->H b=none->H' b=none)(there:∀b o,b∉ch->s.heap.get? b=some o->∃o',h'.get? b=some o')(tups:∀b xs,H b=some (.tup xs)->H' b=some (.tup xs))(frzs:∀b o u,H b=some (.frz o u)->H' b=some (.frz o u))(tbls:∀b ps,H b=some (.tbl ps)->∃more,H' b=some (.tbl (ps++more)))(ns:∀m,s.heap.Ns X.env.locals m->h'.Ns X.env.locals m)(hok:HOk X.prog X.w H' h')(hg:AllBare g'):
  Inv X a5 σ H' { s with heap:=h',gens:=g',drawn:=d',toks:=t' }:=by
 have mV:∀b o,X.s₀.heap.get? b=some o->b≠X.env.locals:=λb o e=>UU (UP (Heap.lt_size e) I.ok.above);have iq:∀b o,X.s₀.heap.get? b=some o->b∉X.ex->b∉ch:=λb o e hx hb=>by
  rcases(dY b hb).1 with z|z
  ·exact hx z
  ·exact absurd (UP (Heap.lt_size e) z) (DI _)
 have eL:∀x c,X.env.cells.lookup x=some c->∀v,s.heap.IsCell c v->h'.IsCell c v:=λx c e v zz=>by
  obtain⟨o,ho,hd⟩:=zz;have gB:c∉ch:=λz=>(dY c z).2.2.1 x c e rfl;by_cases hc:c∈X.fs
  ·obtain⟨sl,q⟩:=slot c o (I.cne x c e) hc gB ho (I.freeC x c e)
   exact⟨_,q,hd⟩
  ·exact⟨o,keep c o (I.cne x c e) hc gB ho (I.freeC x c e),hd⟩
 refine⟨I.ok,I.os,hg,⟨λb o e n hb hx=>?_,λb o e n hb hx=>?_,λb o e n hx=>?_,λb o e hx=>?_,λb xs e=>tups b xs (I.base.tups b xs e),λb o xs e=>frzs b o xs (I.base.frzs b o xs e),λb ps e=>?_⟩,?_,λx c e=>?_,?_,λx c e=>?_,λp hp=>?_,hok,I.len⟩
 ·exact keep b o (mV b o e) hb (iq b o e hx) (I.base.keep b o e n hb hx) (I.base.free b o e n hx)
 ·obtain⟨sl,e1⟩:=I.base.slot b o e n hb hx
  obtain⟨ip,e2⟩:=slot b _ (mV b o e) hb (iq b o e hx) e1 (I.base.free b o e n hx);exact⟨ip,e2⟩
 ·obtain⟨o',e1⟩:=I.base.there b o e hx
  exact free b o' (iq b o e hx) e1 (I.base.free b o e n hx)
 ·obtain⟨o',e1⟩:=I.base.there b o e hx
  exact there b o' (iq b o e hx) e1
 ·obtain⟨m1,e1⟩:=I.base.tbls b ps e
  obtain⟨m2,e2⟩:=tbls b _ e1;exact⟨m1++m2,by rw[e2,Rb]⟩
 ·obtain⟨m,hn,hl⟩:=I.loc
  refine⟨m,ns m hn,λi x v e1 e2 e3=>?_⟩;obtain⟨u,r,l⟩:=hl i x v e1 e2 e3;refine⟨u,r,?_⟩;rcases l with l|⟨k,c,e,z⟩
  ·exact .inl l
  ·exact .inr ⟨k,c,e,eL x c e _ z⟩
 ·obtain⟨v,z⟩:=I.cell x c e
  exact⟨v,eL x c e v z⟩
 ·obtain⟨m,⟨o,_,_,ho,_⟩,_⟩:=I.loc
  exact free _ o (λz=>(dY _ z).2.1 rfl) ho I.free
 ·obtain⟨v,o,ho,hd⟩:=I.cell x c e
  exact free c o (λz=>(dY c z).2.2.1 x c e rfl) ho (I.freeC x c e)
 ·obtain⟨e,n,ne,nf,d⟩:=I.pin p hp
  have gB:p.1∉ch:=λz=>(dY p.1 z).2.2.2 p hp rfl;exact⟨keep p.1 p.2 ne nf gB e n,free p.1 p.2 gB e n,ne,nf,d⟩
theorem Inv.un{t':Nat}(I:Inv X a5 σ H s)(u:Un X.fs [] H H' s.heap h')(hok:HOk X.prog X.w H' h'):Inv X a5 σ H' { s with heap:=h',toks:=t' }:=by
 obtain⟨m,⟨o,es,ep,ho,r⟩,_⟩:=id I.loc;obtain⟨sl,hL⟩:=u.any ho I.free (by simp);exact I.step (g':=s.gens) (d':=s.drawn) (ch:=[]) (λ_ z=>nomatch z) (λb o _ hb _ e n=>u.keep b o e n hb (by simp)) (λb o _ hb _ e n=>u.slot b o e n hb (by simp)) (λb o _ e n=>u.free b o e n (by simp)) (λb o _ e=>u.there b o e (by simp)) u.tups u.frzs u.tbls (λm' hm=>by
  obtain⟨o',gC,ir,ce,r'⟩:=hm;rw[ho]at ce;cases ce;exact⟨_,gC,ir,hL,r'⟩) hok I.bare
theorem Inv.call{g':Array GenState}{t':Nat}{d':Drawn}{ch:List Addr}(I:Inv X a5 σ H s)(u:Un (frs X.stack) ch H H' s.heap h')(hok:HOk X.prog X.w H' h')(hg:AllBare g')(dY:∀b∈ch,(b∈X.ex\/X.s₀.heap.objs.size<=b)/\b≠X.env.locals/\(∀x c,X.env.cells.lookup x=some c->c≠b)/\∀p∈X.pn++a5,p.1≠b):
  Inv X a5 σ H' { s with heap:=h',gens:=g',drawn:=d',toks:=t' }:=by
 obtain⟨m,⟨o,es,ep,ho,r⟩,_⟩:=id I.loc;obtain⟨sl,hL⟩:=u.any ho I.free λz=>(dY _ z).2.1 rfl;exact I.step (ch:=ch) dY (λb o hL hb hc e n=>u.keep b o e n (λz=>(UQ.mp (I.stkSub b z)).elim hL hb) hc) (λb o _ _ hc e n=>u.any e n hc) (λb o hc e n=>u.free b o e n hc) (λb o hc e=>u.there b o e hc) u.tups u.frzs u.tbls (λm' hm=>by
  obtain⟨o',gC,ir,ce,r'⟩:=hm;rw[ho]at ce;cases ce;exact⟨_,gC,ir,hL,r'⟩) hok hg
theorem Inv.turned{t':Nat}{it:Addr}(I:Inv X a5 σ H s)(k:∀b o,b≠it->s.heap.get? b=some o->h'.get? b=some o)(hn:H it=none)(hL:it≠X.env.locals)(h1:it∈X.ex\/X.s₀.heap.objs.size<=it)(h2:∀x c,X.env.cells.lookup x=some c->c≠it)(h3:∀p∈X.pn++a5,p.1≠it):Inv X a5 σ H { s with heap:=h',toks:=t' }:=by
 have mW:∀b u,H b=some u->b≠it:=λb u e z=>by rw[z,hn]at e;cases e
 refine I.step (g':=s.gens) (d':=s.drawn) (ch:=[it]) (λb hb=>?_) (λb o _ _ hc e _=>k b o (λz=>hc (by simp[z])) e) (λb o _ _ hc e _=>⟨o.slots,k b o (λz=>hc (by simp[z])) e⟩) (λ_ _ _ _ n=>n)
  (λb o hc e=>⟨o,k b o (λz=>hc (by simp[z])) e⟩) (λ_ _ e=>e) (λ_ _ _ e=>e) (λb ps e=>⟨#[],by rw[e];simp⟩) (λm hm=>?_) (λb u e=>?_) I.bare
 ·have e:b=it:=by simpa using hb
  subst e;exact⟨h1,hL,h2,h3⟩
 ·obtain⟨o,es,ep,ho,r⟩:=hm
  exact⟨o,es,ep,k _ o (Ne.symm hL) ho,r⟩
 ·refine(I.hok b u e).stay (λc v hc q=>k c v ?_ q) (λ_ q=>q) λ_ _ q=>q
  rcases hc with z|z
  ·rw[z];exact mW b u e
  ·exact mW c _ z
theorem Inv.tok(I:Inv X a5 σ H s)(t:Nat):Inv X a5 σ H { s with toks:=t }:=I.un (h':=s.heap) (t':=t) Un.refl I.hok
theorem Inv.kept{t':Nat}(I:Inv X a5 σ H s)(k:∀b u,s.heap.get? b=some u->h'.get? b=some u):Inv X a5 σ H { s with heap:=h',toks:=t' }:=I.un (Un.kept k) (I.hok.kept k)
theorem Inv.laid{a:Addr}{o:HO}{t':Nat}(I:Inv X a5 σ H s)(k:∀b u,s.heap.get? b=some u->h'.get? b=some u)(hp:s.heap.objs.size<=a)(new:ObjOk X.prog X.w (upd H a o) h' a o):
  Inv X a5 σ (upd H a o) { s with heap:=h',toks:=t' }:=I.un (Un.laid k hp (I.hok.fresh hp)) (I.hok.laid k hp new)
theorem Inv.write{x e:Addr}{o:HO}{t':Nat}(I:Inv X a5 σ H s)(mu:Mut (H x))(he:e=x\/H e=some (.own x))(k:∀b u,b≠e->s.heap.get? b=some u->h'.get? b=some u)(g8:∃u,h'.get? e=some u)(new:ObjOk X.prog X.w (upd H x o) h' x o):Inv X a5 σ (upd H x o) { s with heap:=h',toks:=t' }:=I.un (Un.write mu he k g8) (I.hok.write mu he k g8 new)
theorem Inv.weak{ah:List (Option V)}(I:Inv X a5 σ H s)(hl:ah.length=σ.length)(w:∀(i:Nat) v,ah[i]?=some (some v)->σ[i]?=some (some v)):Inv X a5 ah H s :=
 ⟨I.ok,I.os,I.bare,I.base,let⟨m,hn,mX⟩:=I.loc;⟨m,hn,λi x v e1 e2 e3=>mX i x v e1 (w i v e2) e3⟩,I.cell,I.free,I.freeC,I.pin,I.hok,hl.trans I.len⟩
theorem Inv.pins_of{bZ:List (Addr×Obj)}(I:Inv X a5 σ H s)(h:∀p∈bZ,s.heap.get? p.1=some p.2/\H p.1=none/\p.1≠X.env.locals/\p.1∉X.fs/\∀v,p.2.data ≠ .cell v):Inv X bZ σ H s :=
 ⟨I.ok,I.os,I.bare,I.base,I.loc,I.cell,I.free,I.freeC,λp hp=>(UD.mp hp).elim (λz=>I.pin p (UV _ z)) (h p),I.hok,I.len⟩
theorem Vk{N:List Str}(hN:N.Nodup){i j:Nat}{x:Str}(a:N[i]?=some x)(b:N[j]?=some x):i=j:=by
 obtain⟨h1,e1⟩:=Us.mp a;obtain⟨h2,e2⟩:=Us.mp b;exact(Rp hN).mp (e1.trans e2.symm)
theorem V0{M:Model}{A:Around}{E:Value->Shared->Prop}{i:Nat}{x:Str}{v:V}{u:Value}{Q:Unit->Shared->Prop}(I:Inv X a5 σ H s)(hN:X.N.Nodup)(hi:X.N[i]?=some x)(hx:Loc X.env.scope x)(r:RelV v u)(h:∀s',Inv X a5 (σ.set i (some v)) H s'->(∃a,Heap.SameBut a s.heap s'.heap/\(a=X.env.locals\/X.env.cells.lookup x=some a))->Q () s')(hf:X.fn x=true\/X.env.scope.names.lookup x=some .local:=by first|exact .inl rfl|exact .inr rfl|assumption):wpAny M A (storeName X.env x u) Q E s:=by
 obtain⟨m,hn,hl⟩:=id I.loc;have fc:(X.env.scope.kind == .class||(X.env.scope.kind == .module&&X.env.locals != X.env.globals))=false:=by rw[I.ok.kind];rfl
 have gD:i<σ.length:=by rw[I.len];exact(Us.mp hi).1
 have cne:=I.cne;have cq:∀{a:Addr}{h':Heap},(∃o,s.heap.get? a=some o/\H a=none)->Heap.SameBut a s.heap h'->HOk X.prog X.w H h':=λ{a h'} ha hs b ob e=>by
  obtain⟨_,_,cz⟩:=ha;refine(I.hok b ob e).stay (λc w' hc q=>(hs.2 c ?_).trans q) (λ_ q=>q) λ_ _ q=>q;rintro rfl;rcases hc with rfl|hc
  ·rw[cz]at e;cases e
  ·rw[cz]at hc;cases hc
 rcases hx with hk|hk
 ·refine wpAny_storeName_local hk hn (λh' eN hs=>?_) fc
  obtain⟨oL,_,_,mY,_⟩:=id hn;refine h _ ⟨I.ok,I.os,I.bare,⟨λb o e n hb hx=>?_,λb o e n hb hx=>?_,I.base.free,λb o e hx=>?_,I.base.tups,I.base.frzs,I.base.tbls⟩,⟨_,eN,λj y v' e1 e2 e3=>?_⟩,λy c e=>?_,I.free,I.freeC,λp hp=>?_,cq ⟨oL,mY,I.free⟩ hs,by simpa using I.len⟩ ⟨_,hs,.inl rfl⟩
  ·exact(hs.2 b (UU (UP (Heap.lt_size e) I.ok.above))).trans (I.base.keep b o e n hb hx)
  ·obtain⟨sl,e1⟩:=I.base.slot b o e n hb hx
   exact⟨sl,(hs.2 b (UU (UP (Heap.lt_size e) I.ok.above))).trans e1⟩
  ·obtain⟨o',e1⟩:=I.base.there b o e hx
   exact⟨o',(hs.2 b (UU (UP (Heap.lt_size e) I.ok.above))).trans e1⟩
  ·by_cases hj:j=i
   ·subst hj
    rw[hi]at e1;cases e1;rw[UC gD]at e2;cases e2;exact⟨u,r,.inl ⟨hk,by simp⟩⟩
   ·rw[Uv (Ne.symm hj)]at e2
    obtain⟨u',r',q⟩:=hl j y v' e1 e2 e3;refine⟨u',r',?_⟩;rcases q with⟨k,e⟩|⟨k,c,e,z⟩
    ·refine .inl ⟨k,?_⟩
     have:y≠x:=λe=>hj (Vk hN e1 (e▸hi));simp[this,e]
    ·exact .inr ⟨k,c,e,z.sameBut hs (cne y c e)⟩
  ·obtain⟨w',z⟩:=I.cell y c e
   exact⟨w',z.sameBut hs (cne y c e)⟩
  ·obtain⟨e,n,ne,nf,d⟩:=I.pin p hp
   exact⟨(hs.2 p.1 ne).trans e,n,ne,nf,d⟩
 ·have iZ:X.fn x=true:=by
   rcases hf with z|z
   ·exact z
   ·rw[z]at hk;cases hk
  obtain⟨c,hc⟩:=I.ok.has x (.inl hk);obtain⟨w',z⟩:=I.cell x c hc;refine wpAny_storeName_cell I.ok.kind hk hc z (λh' cN hs=>?_);obtain⟨oc,mZ,l7⟩:=id z;refine h { s with heap:=h' } ⟨I.ok,I.os,I.bare,⟨λb o e n hb hx=>?_,λb o e n hb hx=>?_,I.base.free,λb o e hx=>?_,I.base.tups,I.base.frzs,I.base.tbls⟩,⟨m,hn.sameBut hs (Ne.symm (cne x c hc)),λj y v' e1 e2 e3=>?_⟩,λy c' e=>?_,I.free,I.freeC,λp hp=>?_,cq ⟨oc,mZ,I.freeC x c hc⟩ hs,by simpa using I.len⟩ ⟨c,hs,.inr hc⟩
  ·exact(hs.2 b (UU (UP (Heap.lt_size e) (I.ok.cab x c iZ hc)))).trans (I.base.keep b o e n hb hx)
  ·obtain⟨sl,e1⟩:=I.base.slot b o e n hb hx
   exact⟨sl,(hs.2 b (UU (UP (Heap.lt_size e) (I.ok.cab x c iZ hc)))).trans e1⟩
  ·obtain⟨o',e1⟩:=I.base.there b o e hx
   exact⟨o',(hs.2 b (UU (UP (Heap.lt_size e) (I.ok.cab x c iZ hc)))).trans e1⟩
  ·by_cases hj:j=i
   ·subst hj
    rw[hi]at e1;cases e1;rw[UC gD]at e2;cases e2;exact⟨u,r,.inr ⟨.inl hk,c,hc,cN⟩⟩
   ·rw[Uv (Ne.symm hj)]at e2
    obtain⟨u',r',q⟩:=hl j y v' e1 e2 e3;refine⟨u',r',?_⟩;rcases q with q|⟨k,c',e,z'⟩
    ·exact .inl q
    ·refine .inr ⟨k,c',e,z'.sameBut hs ?_⟩
     rintro rfl;exact hj (Vk hN e1 (I.ok.inj _ _ _ e hc▸hi))
  ·by_cases iu:c'=c
   ·subst iu;exact⟨_,cN⟩
   ·obtain⟨w2,z2⟩:=I.cell y c' e
    exact⟨w2,z2.sameBut hs iu⟩
  ·obtain⟨e,n,ne,nf,d⟩:=I.pin p hp
   refine⟨(hs.2 p.1 ?_).trans e,n,ne,nf,d⟩;intro q;rw[q,mZ]at e;have q':oc=p.2:=Option.some.inj e;exact d w' (by rw[<-q'];exact l7)
theorem vE{M:Model}{A:Around}{E:Value->Shared->Prop}{i:Nat}{x:Str}{v:V}{u:Value}{Q:Unit->Shared->Prop}(I:Inv X a5 σ H s)(hN:X.N.Nodup)(hi:X.N[i]?=some x)(hx:Loc X.env.scope x)(r:RelV v u)(h:∀s',Inv X a5 (σ.set i (some v)) H s'->Q () s')(hf:X.fn x=true\/X.env.scope.names.lookup x=some .local:=by first|exact .inl rfl|exact .inr rfl|assumption):wpAny M A (storeName X.env x u) Q E s :=
 V0 I hN hi hx r (λs' I' _=>h s' I') hf
theorem Inv.call'{s':Shared}{ch:List Addr}(I:Inv X a5 σ H s)(ho:s'.os=s.os)(u:Un (frs X.stack) ch H H' s.heap s'.heap)(hok:HOk X.prog X.w H' s'.heap)(hg:AllBare s'.gens)(dY:∀b∈ch,(b∈X.ex\/X.s₀.heap.objs.size<=b)/\b≠X.env.locals/\(∀x c,X.env.cells.lookup x=some c->c≠b)/\∀p∈X.pn++a5,p.1≠b):Inv X a5 σ H' s':=by
 obtain⟨h',g',d',t',o'⟩:=s';have e:o'=s.os:=ho;subst e;exact I.call (g':=g') (t':=t') (d':=d') u hok hg dY
end
abbrev XK:=Value->Option Addr->Hp->Prop
abbrev St:=List (Option V)
abbrev VK:=V->Hp->Prop
abbrev TE:=St->Hp->VK->Prop
abbrev TT:=St->Hp->(Bool->Hp->Prop)->Prop
abbrev TA:=St->Hp->(List V->Hp->Prop)->Prop
structure Ends where
 nx:St->Hp->Prop
 rt:VK
 bk:St->Hp->Prop:=λ_ _=>False
 ct:St->Hp->Prop:=λ_ _=>False
abbrev TS:=Ends->St->Hp->Prop
def EP(X:Cx)(a5:List (Addr×Obj))(σ:St)(Q:VK)(u:Value)(s':Shared):Prop:=∃v H',Inv X a5 σ H' s'/\RelV v u/\Q v H'
def TP(X:Cx)(a5:List (Addr×Obj))(σ:St)(Q:Bool->Hp->Prop)(b:Bool)(s':Shared):Prop:=∃H',Inv X a5 σ H' s'/\Q b H'
def AP(X:Cx)(a5:List (Addr×Obj))(σ:St)(Q:List V->Hp->Prop)(us:List Value)(s':Shared):Prop:=∃vs H',Inv X a5 σ H' s'/\Vals vs us/\Q vs H'
def SP(X:Cx)(a5:List (Addr×Obj))(D:Ends)(f:Flow)(s':Shared):Prop :=
 match f with
 |.next=>∃ah H',Inv X a5 ah H' s'/\D.nx ah H'
 |.brk=>∃ah H',Inv X a5 ah H' s'/\D.bk ah H'
 |.cont=>∃ah H',Inv X a5 ah H' s'/\D.ct ah H'
 |.ret u=>∃v ah H',Inv X a5 ah H' s'/\RelV v u/\D.rt v H'
def PE(X:Cx)(e:Expr)(t:TE):Prop :=
 ∀(a5:List (Addr×Obj))(s:Shared)(σ:St)(H:Hp)(Q:VK),Inv X a5 σ H s->t σ H Q->wpAny (model X.prog X.w) X.A (eval e X.env) (EP X a5 σ Q) X.xe s
def PT(X:Cx)(e:Expr)(t:TT):Prop :=
 ∀(a5:List (Addr×Obj))(s:Shared)(σ:St)(H:Hp)(Q:Bool->Hp->Prop),Inv X a5 σ H s->t σ H Q->wpAny (model X.prog X.w) X.A (isTrue e X.env (eval e X.env)) (TP X a5 σ Q) X.xe s
def PW(X:Cx)(e:Expr)(t:TT):Prop :=
 ∀(c3:Sem Value)(a5:List (Addr×Obj))(s:Shared)(σ:St)(H:Hp)(Q:Bool->Hp->Prop),Inv X a5 σ H s->t σ H Q->wpAny (model X.prog X.w) X.A (isTrue e X.env c3) (TP X a5 σ Q) X.xe s
theorem PW.pt{X:Cx}{e:Expr}{t:TT}(h:PW X e t):PT X e t:=h _
def PA(X:Cx)(es:List Expr)(t:TA):Prop :=
 ∀(pos:Pos)(a5:List (Addr×Obj))(s:Shared)(σ:St)(H:Hp)(Q:List V->Hp->Prop),Inv X a5 σ H s->t σ H Q->wpAny (model X.prog X.w) X.A (spliced (backTo pos (starEach es X.env))) (AP X a5 σ Q) X.xe s
def PS(X:Cx)(st:Stmt)(t:TS):Prop :=
 ∀(a5:List (Addr×Obj))(s:Shared)(σ:St)(H:Hp)(D:Ends),Inv X a5 σ H s->t D σ H->wpAny (model X.prog X.w) X.A (exec st X.env) (SP X a5 D) X.xe s
def PSs(X:Cx)(st:List Stmt)(t:TS):Prop :=
 ∀(a5:List (Addr×Obj))(s:Shared)(σ:St)(H:Hp)(D:Ends),Inv X a5 σ H s->t D σ H->wpAny (model X.prog X.w) X.A (execs st X.env) (SP X a5 D) X.xe s
theorem thn{α:Type}{t:Sem α}{Q Q':α->Shared->Prop}{M:Model}{A:Around}{E:Value->Shared->Prop}{s:Shared}(h:wpAny M A t Q E s)(hQ:∀a s,Q a s->Q' a s):wpAny M A t Q' E s:=GF h hQ λ_ _ x=>x
section
variable {X:Cx}
def tVar(i:Nat):TE:=λσ H Q=>∃v,σ[i]?=some (some v)/\Q v H
def tC(v:V):TE:=λ_ H Q=>Q v H
theorem q2f{i:Nat}{x:Str}{pos:Pos}(hN:X.N[i]?=some x)(hv:Vis X.env.scope x)(hd:(x==("__debug__" : Str))=false:=by decide)(di:(x==("__classdict__" : Str))=false:=by decide):PE X (.Name x pos) (tVar i):=by
 intro a5 s σ H Q I h;obtain⟨v,e,h⟩:=h;obtain⟨m,hn,hl⟩:=I.loc;obtain⟨u,r,l⟩:=hl i x v hN e hv;have fin:EP X a5 σ Q u s:=⟨v,H,I,r,h⟩;rcases l with⟨hk,hm⟩|⟨hk,c,hc,cf⟩
 ·exact wpAny_Name (wpAny_loadName_local I.ok.kind hk hn hm fin) hd
 ·rcases hk with hk|hk
  ·exact wpAny_Name (wpAny_loadName_cell I.ok.kind hk hc cf fin) hd
  ·exact wpAny_Name (wpAny_loadName_free I.ok.kind hk hc cf fin di) hd
theorem q6t{i j pos}:PE X (.Constant (.int i) j pos) (tC (.int i)):=λ_ _ _ H _ I h=>wpAny_Constant_int ⟨.int i,H,I.tok _,⟨_,rfl⟩,h⟩
theorem q74{b j pos}:PE X (.Constant (.bool b) j pos) (tC (.bl b)):=λ_ _ _ H _ I h=>Constant_bool ⟨.bl b,H,I,rfl,h⟩
theorem q5s{j pos}:PE X (.Constant .none j pos) (tC .non):=λ_ _ _ H _ I h=>Constant_none ⟨.non,H,I,rfl,h⟩
theorem q5b{x j pos}:PE X (.Constant (.str x) j pos) (tC (.str x)):=λ_ _ _ H _ I h=>Calls.Constant_str ⟨.str x,H,I.tok _,⟨_,rfl⟩,h⟩
def Gl(X:Cx)(x:Str):Prop:=X.env.kindOf x=some .globalImplicit
theorem vU{E:Value->Shared->Prop}{a5:List (Addr×Obj)}{s:Shared}{σ:St}{H:Hp}{x:Str}{u:Value}{pos:Pos}{Q:Value->Shared->Prop}(I:Inv X a5 σ H s)(hg:Gl X x)(hm:X.mg x=some u)(h:Q u s)(hd:(x==("__debug__" : Str))=false:=by decide):wpAny (model X.prog X.w) X.A (eval (.Name x pos) X.env) Q E s :=
 Calls.Name_function_global I.ok.kind hg (Calls.loadGlobal_global (by rw[I.ok.glob];exact I.mod.glob.keeps I.bk) hm h) hd
theorem Ju{E:Value->Shared->Prop}{a5:List (Addr×Obj)}{s:Shared}{σ:St}{H:Hp}{x:Str}{u:Value}{pos:Pos}{Q:Value->Shared->Prop}(I:Inv X a5 σ H s)(hg:Gl X x)(hm:X.mg x=none)(hv:bootBuiltins x=some u)(h:Q u s)(hn:x ≠ "__name__" := by decide)(hd:(x==("__debug__" : Str))=false:=by decide):wpAny (model X.prog X.w) X.A (eval (.Name x pos) X.env) Q E s:=by
 obtain⟨mb,h1,h2⟩:=I.mod.blt;exact Calls.Name_function_global I.ok.kind hg (Calls.loadGlobal_builtin (by rw[I.ok.glob];exact I.mod.glob.keeps I.bk) hm (by rw[I.ok.blt];exact h1.keeps I.bk) ((h2 x hn).trans hv) h) hd
theorem q4y{x:Str}{v:V}{u:Value}{pos:Pos}(hg:Gl X x)(hm:X.mg x=some u)(r:RelV v u)(hd:(x==("__debug__" : Str))=false:=by decide):PE X (.Name x pos) (tC v):=
 λ_ _ _ H _ I h=>vU I hg hm ⟨v,H,I,r,h⟩ hd
variable {a b:Expr}{ta tb:TE}{pos:Pos}
def tB(t:TE):TT:=λσ H Q=>t σ H λx H1=>∃c,x=.bl c/\Q c H1
variable {tA g9:TT}{rest:List Expr}
def tAnd(t u:TT):TT:=λσ H Q=>t σ H λc H1=>if c=true then u σ H1 Q else Q false H1
def tOr(t u:TT):TT:=λσ H Q=>t σ H λc H1=>if c=true then Q true H1 else u σ H1 Q
def tNot(t:TT):TT:=λσ H Q=>t σ H λc H1=>Q (!c) H1
def VX(ta tb:TE):TE:=λσ H Q=>ta σ H λx H1=>∃c,x=.bl c/\if c=true then tb σ H1 Q else Q (.bl false) H1
def tOrV(ta tb:TE):TE:=λσ H Q=>ta σ H λx H1=>∃c,x=.bl c/\if c=true then Q (.bl true) H1 else tb σ H1 Q
def q0A(ta:TE):TE:=λσ H Q=>ta σ H λx H1=>∃c,x=.bl c/\Q (.bl (!c)) H1
def tIf(t:TT)(ta tb:TE):TE:=λσ H Q=>t σ H λc H1=>if c=true then ta σ H1 Q else tb σ H1 Q
end
def SqL(K:PySem.W.Frag)(H:Hp)(a:Addr)(xs:List V):Prop :=
 Rd H a (.lst xs) \/
  ∃(o:Obj)(its:Array Value)(n:Nat),K.lookup a=some o/\o.cls=.type "list" /\ o.dict=none/\o.data=.seq its n/\its.size<=sizeLine/\Vals xs its.toList
def SqT(K:PySem.W.Frag)(H:Hp)(a:Addr)(xs:List V):Prop :=
 Rd H a (.tup xs) \/
  ∃(o:Obj)(its:Array Value)(n:Nat),K.lookup a=some o/\o.cls=.type "tuple" /\ o.data=.seq its n/\its.size<=sizeLine/\Vals xs its.toList
def absV:Value->Option V
 |.none=>some .non
 |.bool b=>some (.bl b)
 |.int i _=>some (.int i)
 |.str x _=>some (.str x)
 |.bytes b _=>some (.byt b)
 |.float b _=>some (.flt b)
 |.ref a=>some (.ref a)
 |.type n=>some (.ty n)
 |_=>none
theorem RelV.abs{x:V}{u:Value}(r:RelV x u):absV u=some x:=by
 cases x with
 |non=>cases r;rfl
 |bl _=>cases r;rfl
 |int _=>obtain⟨t,rfl⟩:=r;rfl
 |str _=>obtain⟨t,rfl⟩:=r;rfl
 |byt _=>obtain⟨t,rfl⟩:=r;rfl
 |flt _=>obtain⟨t,rfl⟩:=r;rfl
 |ref _=>cases r;rfl
 |ty _=>cases r;rfl
theorem RelV.inj{x y:V}{u:Value}(r:RelV x u)(q:RelV y u):x=y:=Option.some.inj (r.abs.symm.trans q.abs)
theorem Vals.inj:∀{xs ys:List V}{us:List Value},Vals xs us->Vals ys us->xs=ys
 |_,_,_,.nil,.nil=>rfl
 |_,_,_,.cons r t,.cons r' t'=>by rw[r.inj r',Vals.inj t t']
section
variable {X:Cx}{a5:List (Addr×Obj)}{σ:St}{H:Hp}{s:Shared}{a:Addr}{xs ys:List V}
theorem SqL.of{K:PySem.W.Frag}(h:H a=some (.lst xs)):SqL K H a xs:=.inl (.inl h)
theorem SqT.of{K:PySem.W.Frag}(h:H a=some (.tup xs)):SqT K H a xs:=.inl (.inl h)
theorem Inv.list(I:Inv X a5 σ H s)(h:SqL X.K H a xs):∃its:List Value,Vals xs its/\PlainL s.heap a its.toArray/\xs.length<=sizeLine:=by
 rcases h with h|⟨o,its,n,hk,hc,hd,hs,hz,r⟩
 ·obtain⟨z,its,n,r,e⟩:=h.ok I.hok
  exact⟨its,r,⟨_,n,e,rfl,rfl,rfl⟩,z⟩
 ·refine⟨its.toList,r,⟨o,n,I.kIn a o hk,hc,hd,by simpa using hs⟩,?_⟩
  have e:=r.length;simp only[Dm]at e;lia
theorem Inv.tuple(I:Inv X a5 σ H s)(h:SqT X.K H a xs):∃its:List Value,Vals xs its/\IsTup s.heap a its.toArray/\xs.length<=sizeLine:=by
 rcases h with h|⟨o,its,n,hk,hc,hs,hz,r⟩
 ·obtain⟨z,its,r,p⟩:=h.ok I.hok
  exact⟨its,r,p,z⟩
 ·refine⟨its.toList,r,⟨o,I.kIn a o hk,hc,n,by simpa using hs⟩,?_⟩
  have e:=r.length;simp only[Dm]at e;lia
theorem Inv.list_inj(I:Inv X a5 σ H s)(h:SqL X.K H a xs)(h':SqL X.K H a ys):xs=ys:=by
 obtain⟨its,r,⟨o,n,e,_,_,d⟩,_⟩:=I.list h;obtain⟨its',r',⟨o',n',e',_,_,d'⟩,_⟩:=I.list h';rw[e]at e';cases e';rw[d]at d';injection d' with d1 _
 have:its=its':=by simpa using GM Array.toList d1
 subst this;exact r.inj r'
end
abbrev Cx.wish(X:Cx)(E:Value->Shared->Prop):Cx:={ X with xe:=E }
abbrev Cx.nox(X:Cx):Cx:=X.wish λ_ _=>False
theorem Cx.Ok.wish{X:Cx}(ok:X.Ok)(E:Value->Shared->Prop):(X.wish E).Ok :=
 ⟨ok.mod,ok.kind,ok.glob,ok.blt,ok.above,ok.inj,ok.has,ok.cab,ok.hd,ok.frames,ok.stk,ok.exf,ok.bs,ok.bsz,ok.noex,ok.exfs,ok.funs,ok.frf⟩
theorem Cx.Ok.unwish{X:Cx}{E:Value->Shared->Prop}(ok:(X.wish E).Ok):X.Ok :=
 ⟨ok.mod,ok.kind,ok.glob,ok.blt,ok.above,ok.inj,ok.has,ok.cab,ok.hd,ok.frames,ok.stk,ok.exf,ok.bs,ok.bsz,ok.noex,ok.exfs,ok.funs,ok.frf⟩
section
variable {X:Cx}{a5:List (Addr×Obj)}{σ:St}{H:Hp}{s:Shared}{E:Value->Shared->Prop}
theorem Inv.wish(I:Inv X a5 σ H s)(E:Value->Shared->Prop):Inv (X.wish E) a5 σ H s:=⟨I.ok.wish E,I.os,I.bare,I.base,I.loc,I.cell,I.free,I.freeC,I.pin,I.hok,I.len⟩
theorem Inv.unwish(I:Inv (X.wish E) a5 σ H s):Inv X a5 σ H s:=⟨I.ok.unwish,I.os,I.bare,I.base,I.loc,I.cell,I.free,I.freeC,I.pin,I.hok,I.len⟩
theorem SP.unwish{D:Ends}{f:Flow}{s':Shared}(h:SP (X.wish E) a5 D f s'):SP X a5 D f s':=by
 cases f with
 |next=>obtain⟨ah,H',I,q⟩:=h;exact⟨ah,H',I.unwish,q⟩
 |brk=>obtain⟨ah,H',I,q⟩:=h;exact⟨ah,H',I.unwish,q⟩
 |cont=>obtain⟨ah,H',I,q⟩:=h;exact⟨ah,H',I.unwish,q⟩
 |ret u=>obtain⟨v,ah,H',I,r,q⟩:=h;exact⟨v,ah,H',I.unwish,r,q⟩
theorem PE.nox{e:Expr}{t:TE}(h:PE X.nox e t):PE X e t:=λa5 s σ H Q I hw=>
 GF (h a5 s σ H Q (I.wish _) hw) (λ_ _ ⟨v,H',I',r,q⟩=>⟨v,H',I'.unwish,r,q⟩) λ_ _ z=>False.elim z
theorem PT.nox{e:Expr}{t:TT}(h:PT X.nox e t):PT X e t:=λa5 s σ H Q I hw=>
 GF (h a5 s σ H Q (I.wish _) hw) (λ_ _ ⟨H',I',q⟩=>⟨H',I'.unwish,q⟩) λ_ _ z=>False.elim z
theorem PSs.nox{st:List Stmt}{t:TS}(h:PSs X.nox st t):PSs X st t:=λa5 s σ H D I hw=>
 GF (h a5 s σ H D (I.wish _) hw) (λ_ _ q=>q.unwish) λ_ _ z=>False.elim z
end
section
variable {X:Cx}{st:Stmt}{rest:List Stmt}{t u:TS}{e:Expr}{te:TE}{pos:Pos}
def QN:TS:=λD σ H=>D.nx σ H
def tSeq(t u:TS):TS:=λD σ H=>t { D with nx:=u D } σ H
theorem q4f:PSs X [] QN:=λ_ _ σ H _ I h=>GV ⟨σ,H,I,h⟩
theorem Inv.quiet{a5:List (Addr×Obj)}{σ:St}{H:Hp}{s:Shared}(I:Inv X a5 σ H s):interactive X.env=false:=by simp[interactive,I.ok.kind]
def VW(te:TE):TS:=λD σ H=>te σ H λ_ H1=>D.nx σ H1
def tRet(te:TE):TS:=λD σ H=>te σ H D.rt
def q1G:TS:=λD _ H=>D.rt .non H
def tIfS(c:TT)(t u:TS):TS:=λD σ H=>c σ H λb H1=>if b=true then t D σ H1 else u D σ H1
end
abbrev TG:=V->St->Hp->(St->Hp->Prop)->Prop
abbrev TGs:=List V->St->Hp->(St->Hp->Prop)->Prop
def PG(X:Cx)(fe:Expr)(t:TG):Prop :=
 ∀(a5:List (Addr×Obj))(s:Shared)(σ:St)(H:Hp)(v:V)(u:Value)(Q:St->Hp->Prop),Inv X a5 σ H s->RelV v u->t v σ H Q ->
  wpAny (model X.prog X.w) X.A (assign fe X.env u) (λ_ s'=>∃ah H',Inv X a5 ah H' s'/\Q ah H') X.xe s
def PGs(X:Cx)(ts:List Expr)(t:TGs):Prop :=
 ∀(a5:List (Addr×Obj))(s:Shared)(σ:St)(H:Hp)(vs:List V)(us:List Value)(Q:St->Hp->Prop),Inv X a5 σ H s->Vals vs us->t vs σ H Q ->
  wpAny (model X.prog X.w) X.A (assignInOrder ((assignEach ts X.env).map (·.2)) us) (λ_ s'=>∃ah H',Inv X a5 ah H' s'/\Q ah H') X.xe s
abbrev TSet:=V->V->V->Hp->(Hp->Prop)->Prop
def PSet(X:Cx)(t:TSet):Prop :=
 ∀(a5:List (Addr×Obj))(s:Shared)(σ:St)(H:Hp)(o i v:V)(ov iv u:Value)(Q:Hp->Prop),Inv X a5 σ H s->RelV o ov->RelV i iv->RelV v u->t o i v H Q ->
  wpAny (model X.prog X.w) X.A (setItem ov iv u) (λ_ s'=>∃H',Inv X a5 σ H' s'/\Q H') X.xe s
section
variable {X:Cx}{pos:Pos}
def qT(i:Nat):TG:=λv σ H Q=>Q (σ.set i (some v)) H
theorem jm{i:Nat}{x:Str}(hN:X.N.Nodup)(hi:X.N[i]?=some x)(hx:Loc X.env.scope x)(hf:X.fn x=true\/X.env.scope.names.lookup x=some .local:=by first|exact .inl rfl|exact .inr rfl|assumption):PG X (.Name x pos) (qT i):=by
 intro a5 s σ H v u Q I r h;exact wpAny_assign_Name (vE I hN hi hx r (λs' I'=>⟨_,H,I',h⟩) hf)
def gNil:TGs:=λvs σ H Q=>vs=[]/\Q σ H
def vk(t:TG)(u:TGs):TGs:=λvs σ H Q=>∃v r,vs=v::r/\t v σ H λah H'=>u r ah H' Q
theorem Xl:PGs X [] gNil:=by
 intro a5 s σ H vs us Q I r h;obtain⟨e,h⟩:=h;subst e;cases r;exact Uf ⟨σ,H,I,h⟩
theorem xh{e:Expr}{es:List Expr}{t:TG}{u:TGs}(h1:PG X e t)(h2:PGs X es u)(hs:(assignEach (e::es) X.env).map (·.2)=assign e X.env::(assignEach es X.env).map (·.2):=by rfl):PGs X (e::es) (vk t u):=by
 intro a5 s σ H vs us Q I r h;obtain⟨v,vr,e1,h⟩:=h;subst e1;cases r with
 |cons r rr=>
  rw[hs];refine GT (thn (h1 a5 s σ H _ _ _ I r h) λ_ s1 zz=>?_);obtain⟨cA,H1,I1,q1⟩:=zz;exact h2 a5 s1 cA H1 _ _ Q I1 rr q1
def gTup(K:PySem.W.Frag)(n:Nat)(t:TGs):TG:=λv σ H Q=>∃a xs,v=.ref a/\SqT K H a xs/\xs.length=n/\t xs σ H Q
theorem YI{es:List Expr}{k:Nat}{t:TGs}{n:Nat}(hc:X.calm=true)(h:PGs X es t)(hn:(assignEach es X.env).length=n:=by rfl)(dD:(assignEach es X.env).findIdx? (·.1)=none:=by rfl):PG X (.Tuple es k pos) (gTup X.K n t):=by
 intro a5 s σ H v u Q I r hw;obtain⟨a,xs,e1,hq,hl,hw⟩:=hw;subst e1;cases r;obtain⟨its,rv,ht,hz⟩:=I.tuple hq;refine assign_Tuple_tuple (I.ok.hd hc) ht (by simp[hn, <-hl,rv.length]) dD λh' hx=>?_;have I1:Inv X a5 σ H { s with heap:=h' }:=I.kept (t':=s.toks) λb o e=>hx b o (UU (Heap.lt_size e)) e;exact h a5 _ σ H xs _ Q I1 (by simpa using rv) hw
def gSub(to ti:TE)(t:TSet):TG:=λv σ H Q=>to σ H λo H1=>ti σ H1 λi H2=>t o i v H2 λH3=>Q σ H3
def tAsg(te:TE)(g:TG):TS:=λD σ H=>te σ H λx H1=>g x σ H1 D.nx
def tPar(i j:Nat)(ta:TA):TS:=λD σ H=>ta σ H λvs H1=>∃v w,vs=[v,w]/\D.nx ((σ.set i (some v)).set j (some w)) H1
end
structure It where
 go:Nat->Hp->Prop
 yld:Nat->Hp->V->Hp->Prop
 stop:Nat->Hp->Prop
def FpOk(X:Cx)(a5:List (Addr×Obj))(H:Hp)(b:Addr):Prop :=
 H b=none/\b≠X.env.locals/\b∉X.fs/\(b∈X.ex\/X.s₀.heap.objs.size<=b)/\(∀x c,X.env.cells.lookup x=some c->c≠b)/\∀p∈X.pn++a5,p.1≠b
theorem Inv.fpOk{X:Cx}{a5:List (Addr×Obj)}{σ:St}{H H':Hp}{s:Shared}{b:Addr}(I:Inv X a5 σ H s)(hb:s.heap.objs.size<=b)(hn:H' b=none):FpOk X a5 H' b:=by
 refine⟨hn,Nat.ne_of_gt (UP I.lt hb),I.nofs hb,.inr (U3 I.sz hb),λx c e z=>?_,λp hp z=>?_⟩
 ·obtain⟨v,q⟩:=I.cell x c e
  exact absurd (UP q.lt (by rw[z];exact hb)) (DI _)
 ·exact absurd (UP (Heap.lt_size (I.pin p hp).1) (by rw[z];exact hb)) (DI _)
def CalP:Bool->Cx->Prop
 |true,X=>X.calm=true
 |false,X=>∃a oe vs,X.A.handled=some (.ref a)/\X.base.get? a=some oe/\oe.data=.fields vs/\vs[2]?=some .none
structure q47(cm:Bool)(P:Program)(w:World)(K:PySem.W.Frag)(tg:Expr)(J:It)(fp:List Addr)(it:Addr)(tn:Nat->Heap->Prop):Prop where
 mem:it∈fp
 obj:∀i h,tn i h->∀b∈fp,∃o,h.get? b=some o/\∀v,o.data ≠ .cell v
 keep:∀i h h',tn i h->(∀b∈fp,∀o,h.get? b=some o->h'.get? b=some o)->tn i h'
 item:∀(X:Cx),X.prog=P->X.w=w->X.K=K->CalP cm X->∀(i:Nat)(a5:List (Addr×Obj))(s:Shared)(σ:St)(H:Hp)(E:Value->Shared->Prop),Inv X a5 σ H s->(∀b∈fp,FpOk X a5 H b)->tn i s.heap->J.go i H ->
  wpAny (model P w) X.A (pyNext (.ref it)) (λr s1=>∃u,r=some u /\
   wpAny (model P w) X.A (letOwnedTupleGo tg (.ref it) u) (λ_ s2=>∃x H',Inv X a5 σ H' s2/\RelV x u/\J.yld i H x H'/\tn (i+1) s2.heap/\∀b∈fp,H' b=none) E s1) E s
 done:∀(X:Cx),X.prog=P->X.w=w->X.K=K->CalP cm X->∀(i:Nat)(a5:List (Addr×Obj))(s:Shared)(σ:St)(H:Hp)(E:Value->Shared->Prop),Inv X a5 σ H s->(∀b∈fp,FpOk X a5 H b)->tn i s.heap->J.stop i H ->
  wpAny (model P w) X.A (pyNext (.ref it)) (λr s1=>r=none/\Inv X a5 σ H s1) E s
 self:∀(A:Around)(i:Nat)(s:Shared)(Q:Value->Shared->Prop)(E:Value->Shared->Prop),tn i s.heap->Q (.ref it) s->wpAny (model P w) A (pyIter (.ref it)) Q E s
abbrev Turn:=q47 true
abbrev TI:=St->Hp->(It->Hp->Prop)->Prop
def PIEC(cm:Bool)(X:Cx)(a5:List (Addr×Obj))(σ:St)(tg:Expr)(R:It->Hp->Prop)(l8:Value)(s2:Shared):Prop :=
 ∃(it:Addr)(fp:List Addr)(tn:Nat->Heap->Prop)(J:It)(H':Hp),l8=.ref it/\Inv X a5 σ H' s2/\q47 cm X.prog X.w X.K tg J fp it tn/\tn 0 s2.heap/\(∀b∈fp,FpOk X a5 H' b)/\R J H'
def PIC(cm:Bool)(X:Cx)(tg au:Expr)(wi:TI):Prop :=
 ∀(a5:List (Addr×Obj))(s:Shared)(σ:St)(H:Hp)(R:It->Hp->Prop),Inv X a5 σ H s->wi σ H R ->
  wpAny (model X.prog X.w) X.A (eval au X.env) (λv s1=>wpAny (model X.prog X.w) X.A (pyIter v) (PIEC cm X a5 σ tg R) X.xe s1) X.xe s
abbrev PI:=PIC true
theorem q40{M:Model}{A:Around}{E:Value->Shared->Prop}{s:Shared}{tg:Expr}{it:Addr}{u:Value}{o:Obj}{n:String}{vs:Array Value}{Q:Unit->Shared->Prop}(ho:s.heap.get? it=some o)(hc:o.cls=.type n)(hd:o.data=.fields vs)(hn:["enumerate","zip","dict_itemiterator","dict_reverseitemiterator","odict_iterator","itertools.zip_longest","itertools.pairwise"].contains n=false)(hQ:Q () s):wpAny M A (letOwnedTupleGo tg (.ref it) u) Q E s:=by
 unfold letOwnedTupleGo;cases tg<;>first
  |exact GE hQ
  | (cases u<;>first
    |exact GE hQ
    | (refine GD (wpAny_load ho ?_)
       rw[hc,hd];show wpAny M A (if(["enumerate","zip","dict_itemiterator","dict_reverseitemiterator","odict_iterator","itertools.zip_longest","itertools.pairwise"].contains n&&vs[0]?==some (rawInt _))=true then _ else _) Q E s;rw[GH (by intro h;rw[hn,Bool.false_and]at h;cases h)];exact GE hQ))
def Itl(K:PySem.W.Frag)(a:Addr):It :=
 ⟨λi H=>∃xs x,SqL K H a xs/\xs[i]?=some x,λi H x H'=>H'=H/\∀xs,SqL K H a xs->xs[i]?=some x,λi H=>∃xs,SqL K H a xs/\xs.length<=i⟩
def Itr(lo:Int)(n:Nat):It:=⟨λi _=>i<n,λi H x H'=>H'=H/\x=.int (lo+i),λi _=>n<=i⟩
theorem K3{P:Program}{w:World}{K:PySem.W.Frag}{tg:Expr}(a it:Addr):Turn P w K tg (Itl K a) [it] it (λi h=>h.IsListIter it a i) where
 mem:=by simp
 obj:=λi h st b hb=>by
  have e:b=it:=by simpa using hb
  subst e;obtain⟨o,e,c,d⟩:=st;exact⟨o,e,λv z=>by rw[d]at z;cases z⟩
 keep:=λi h h' st k=>st.at λo e=>k it (by simp) o e
 item:=by
  intro X hP hw hK hc i a5 s σ H E I hf st hg;subst hP hw hK;obtain⟨xs,x,hq,hx⟩:=hg;obtain⟨its,rv,p,hz⟩:=I.list hq;obtain⟨u,hu,ru⟩:=rv.get hx;obtain⟨f0,f1,f2,f3,f4,f5⟩:=hf it (by simp);refine wpAny_pyNext_list_item st p.isList (x:=u) (by simpa using hu) λh' cO sb=>?_;have I1:Inv X a5 σ H { s with heap:=h' }:=I.turned (t':=s.toks) (λb o hb e=>(sb.2 b hb).trans e) f0 f1 f3 f4 f5;obtain⟨o,e,c,d⟩:=id cO;exact⟨u,rfl,q40 (s:={ s with heap:=h' }) e c d (by decide) ⟨x,H,I1,ru,⟨rfl,λys hy=>by rw[I.list_inj hy hq];exact hx⟩,cO,λb hb=>(hf b hb).1⟩⟩
 done:=by
  intro X hP hw hK hc i a5 s σ H E I hf st hg;subst hP hw hK;obtain⟨xs,hq,hx⟩:=hg;obtain⟨its,rv,p,hz⟩:=I.list hq;obtain⟨f0,f1,f2,f3,f4,f5⟩:=hf it (by simp);have hl:=rv.length;exact wpAny_pyNext_list_end (I.ok.hd hc) st p.isList (by simp;lia) λh' eb=>⟨rfl,I.turned (t':=s.toks) (λb o hb e=>eb b o hb e) f0 f1 f3 f4 f5⟩
 self:=λ_ _ _ _ _ st h=>wpAny_pyIter_listiter st h
theorem VB:entryFor table "proto.unchain" = some Builtin.«proto.unchain»:=entryFor_of_fast (by kernel_rfl)
section
variable {prog:Program}{w:World}{A:Around}{E:Value->Shared->Prop}{s:Shared}
theorem Kd{a:Addr}{oe:Obj}{vs:Array Value}{it:Addr}{x left step:Int}{Q:Option Value->Shared->Prop}(hh:A.handled=some (.ref a))(ho:s.heap.get? a=some oe)(hd:oe.data=.fields vs)(h2:vs[2]?=some .none)(iw:IsRangeIter s.heap it x left step)(gE:left<=0)(hQ:∀h',Heap.ExtBut it s.heap h'->Q none { s with heap:=h' }):wpAny (model prog w) A (pyNext (.ref it)) Q E s:=by
 have hT:s.TypeIs (.ref it) "range_iterator" := ⟨_,iw,rfl⟩;unfold pyNext;refine GD (wpAny_attempt (wpAny_callSpecial?_slot (name:=Str.ofString "__next__") hT F.slot_range_iterator_next
  (Uk F.slot_range_iterator_next hT F.entry_range_iterator_next ?_ (F.args_range_iterator_next_1 _))))
 show wpAny _ _ (field (.ref it) 0 >>= _) _ _ s;refine GD (G8 iw rfl (x:=rawInt x) rfl ?_);show wpAny _ _ (field (.ref it) 1 >>= _) _ _ s;refine GD (G8 iw rfl (x:=rawInt left) rfl ?_);show wpAny _ _ (field (.ref it) 2 >>= _) _ _ s;refine GD (G8 iw rfl (x:=rawInt step) rfl ?_);show wpAny _ _ (if left<=0 then _ else _) _ _ s;rw[GL gE];refine GD (Uq ?_);refine GD ?_;show wpAny _ _ (newExc (.type "StopIteration") [] >>= _) _ _ _;refine GD ?_;simp only[newExc,newTuple];refine GD (GP ?_ (by size_fits));refine GD (m:=firstArgMember _ _) (wpAny_of_eq (a:=Value.none) (by first|rfl|(simp only[firstArgMember];rfl)) ?_);refine GP ?_ (by size_fits);simp only[raiseNew];refine GD (wpAny_handled ?_)
 first|rw[show A.in1.handled=some (.ref a)from hh]|rw[hh]
 have lt:=Heap.lt_size ho;have cJ:((Value.ref a) != Value.ref (s.heap.push { cls:=Value.type "tuple", data:=Data.seq #[] }).objs.size)=true:=bne_iff_ne.mpr λz=>by
  have:=Value.ref.inj z;rw[Heap.size_push]at this;exact UU (Rh lt) this
 show wpAny _ _ (if _=true then _ else _) _ _ _;rw[GL cJ];refine GD (GK (runValue_entry VB ?_));show wpAny _ _ (field (.ref a) 2 >>= _) _ _ _;refine GD (G8 (Heap.get?_push_of_some _ (Heap.get?_push_of_some _ ho)) hd h2 ?_);refine GE ⟨_,rfl,?_⟩;show wpAny _ _ (setField (.ref _) 2 _ >>= _) _ _ _;refine GD (wpAny_setField (Heap.get?_push_size _ rfl) rfl (by show 2<6;decide) (wpAny_throw ?_));refine GD (wpAny_isInstance (T := "StopIteration") (b:=true) ⟨_,Heap.get?_update_self _ (Heap.get?_push_size _ rfl) rfl,rfl⟩ isSubtype_stop ?_);exact GE (hQ _ λb o hb q=>Heap.get?_update_of_ne _ (λz=>by have:=Heap.lt_size q;rw[<-z,Heap.size_push]at this;exact absurd this (Nat.not_lt.mpr (RE _))) (((Heap.ExtBut.refl it s.heap).push _).push _ b o hb q))
end
theorem JZ{cm:Bool}{P:Program}{w:World}{K:PySem.W.Frag}{tg:Expr}(it:Addr)(lo:Int)(n:Nat):q47 cm P w K tg (Itr lo n) [it] it (λi h=>IsRangeIter h it (lo+(i:Nat)*1) ((n:Int)-(i:Nat)) 1) where
 mem:=by simp
 obj:=λi h st b hb=>by
  have e:b=it:=by simpa using hb
  subst e;exact⟨_,st,λv z=>by
   have z':Data.fields _=Data.cell v:=z;cases z'⟩
 keep:=λi h h' st k=>k it (by simp) _ st
 item:=by
  intro X hP hw hK hc i a5 s σ H E I hf st hg;subst hP hw hK;obtain⟨f0,f1,f2,f3,f4,f5⟩:=hf it (by simp);refine wpAny_pyNext_range_item st (by have:i<n:=hg;lia) λh' cO kk=>?_;have I1:Inv X a5 σ H { s with heap:=h',toks:=s.toks+1 }:=I.turned (λb o hb e=>kk.extBut b o hb e) f0 f1 f3 f4 f5;have gb:IsRangeIter h' it (lo+((i+1:Nat):Int)*1) ((n:Int)-((i+1:Nat):Int)) 1:=by
   rw[show lo+((i+1:Nat):Int)*1=lo+(i:Int)*1+1 by lia,show(n:Int)-((i+1:Nat):Int)=(n:Int)-(i:Int)-1 by lia];exact cO
  refine⟨_,rfl,q40 (s:={ s with heap:=h',toks:=s.toks+1 }) (n := "range_iterator") cO rfl rfl (by decide) ⟨.int (lo+i),H,I1,⟨s.toks,?_⟩,⟨rfl,rfl⟩,gb,λb hb=>(hf b hb).1⟩⟩;rw[Int.mul_one]
 done:=by
  intro X hP hw hK hc i a5 s σ H E I hf st hg;subst hP hw hK;obtain⟨f0,f1,f2,f3,f4,f5⟩:=hf it (by simp);have hl:(n:Int)-(i:Nat)<=0:=by have:n<=i:=hg;lia
  cases cm with
  |true=>exact wpAny_pyNext_range_end (I.ok.hd hc) st hl λh' eb=>⟨rfl,I.turned (t':=s.toks) (λb o hb e=>eb b o hb e) f0 f1 f3 f4 f5⟩
  |false=>
   obtain⟨a,oe,vs,h1,h2,h3,h4⟩:=hc;exact Kd h1 (I.bk a oe h2) h3 h4 st hl λh' eb=>⟨rfl,I.turned (t':=s.toks) (λb o hb e=>eb b o hb e) f0 f1 f3 f4 f5⟩
 self:=λ_ _ _ _ _ st h=>wpAny_pyIter_rangeiter st h
section
variable {X:Cx}{tg:Expr}
def Kw(K:PySem.W.Frag)(tl:TE):TI:=λσ H R=>tl σ H λx H1=>∃a,x=.ref a/\(∃xs,SqL K H1 a xs)/\R (Itl K a) H1
theorem q2M{l:Expr}{tl:TE}(hl:PE X l tl):PI X tg l (Kw X.K tl):=by
 intro a5 s σ H R I h;refine thn (hl a5 s σ H _ I h) λv s1 zz=>?_;obtain⟨x,H1,I1,r1,q1⟩:=zz;obtain⟨a,e,⟨xs,hq⟩,q⟩:=q1;subst e;cases r1;obtain⟨its,rv,p,hz⟩:=I1.list hq;refine wpAny_pyIter_list p.isList ?_;refine⟨s1.heap.objs.size, [s1.heap.objs.size],_,_,H1,rfl,I1.kept (t':=s1.toks) λb o e=>Heap.get?_push_of_some _ e,K3 a _,⟨_,Heap.get?_push_size _ rfl,rfl,rfl⟩,λb hb=>?_,q⟩;have e:b=s1.heap.objs.size:=by simpa using hb
 subst e;exact I1.fpOk (Ux _) (I1.hok.fresh (Ux _))
theorem q0e{cm:Bool}{a5:List (Addr×Obj)}{σ:St}{H:Hp}{s:Shared}{R:It->Hp->Prop}{E:Value->Shared->Prop}{lo hi:Int}{t u v:Tok}{tk:Nat}(I:Inv X a5 σ H s)(h1 : -(2^62)<=lo)(h2:lo<2^62)(h3 : -(2^62)<=hi)(h4:hi<2^62)(q:R (Itr lo (hi-lo).toNat) H):wpAny (model X.prog X.w) X.A (pyIter (.ref s.heap.objs.size)) (PIEC cm X a5 σ tg R) E { s with heap:=s.heap.push { cls:=.type "range", data:=.fields #[.int lo t,.int hi u,.int 1 v] },toks:=tk }:=by
 refine wpAny_pyIter_range (IsRange.new ..) (small_one h1 h2 h3 h4) ?_;have I1:Inv X a5 σ H { s with heap:=s.heap.push { cls:=.type "range", data:=.fields #[.int lo t,.int hi u,.int 1 v] },toks:=tk }:=I.kept λb o e=>Heap.get?_push_of_some _ e;refine⟨(s.heap.push { cls:=.type "range", data:=.fields #[.int lo t,.int hi u,.int 1 v] }).objs.size, [(s.heap.push { cls:=.type "range", data:=.fields #[.int lo t,.int hi u,.int 1 v] }).objs.size],_,_,H,rfl,
  I1.kept (t':=tk) λb o e=>Heap.get?_push_of_some _ e,JZ _ lo (hi-lo).toNat,?_,λb hb=>?_,q⟩
 ·have e1:lo+((0:Nat):Int)*1=lo:=by simp
  have e2:(((hi-lo).toNat:Nat):Int)-((0:Nat):Int)=Builtin.Range.rangeSize lo hi 1:=by rw[rangeSize_one];split<;>lia
  show IsRangeIter _ _ (lo+((0:Nat):Int)*1) ((((hi-lo).toNat:Nat):Int)-((0:Nat):Int)) 1;rw[e1,e2];exact Heap.get?_push_size _ rfl
 ·have e:b=(s.heap.push { cls:=.type "range", data:=.fields #[.int lo t,.int hi u,.int 1 v] }).objs.size:=by simpa using hb
  subst e;exact I1.fpOk (Ux _) (I1.hok.fresh (Ux _))
def WC(ta:TA):TI:=λσ H R=>ta σ H λvs H1=>∃j:Int,vs=[.int j] /\ -(2^62)<=j/\j<2^62/\R (Itr 0 j.toNat) H1
def tFor(wi:TI)(g:TG)(tb:TS):TS:=λD σ H=>wi σ H λJ H1=>∃W:Nat->Nat->St->Hp->Prop,(∃m,W 0 m σ H1)/\∀i m σ H,W i m σ H ->
 (J.stop i H/\D.nx σ H)\/(J.go i H/\∃N:St->Hp->Prop,(∀ah H',N ah H'->∃m',m'<m/\W (i+1) m' ah H')/\∀x H',J.yld i H x H'->g x σ H' λcK H2=>tb { D with nx:=N,ct:=N,bk:=D.nx } cK H2)
def V6(fp:List Addr)(h:Heap):List (Addr×Obj):=fp.filterMap λb=>(h.get? b).map λo=>(b,o)
theorem xi{fp:List Addr}{h:Heap}{b:Addr}{o:Obj}(hb:b∈fp)(e:h.get? b=some o):(b,o)∈V6 fp h:=U8.mpr ⟨b,hb,by rw[e];rfl⟩
theorem Wc{fp:List Addr}{h:Heap}{p:Addr×Obj}(hp:p∈V6 fp h):p.1∈fp/\h.get? p.1=some p.2:=by
 obtain⟨b,hb,e⟩:=U8.mp hp;cases q:h.get? b with
 |none=>rw[q]at e;cases e
 |some o=>
  rw[q]at e;have e':(b,o)=p:=Option.some.inj e;subst e';exact⟨hb,q⟩
theorem Inv.pinned{a5:List (Addr×Obj)}{σ:St}{H:Hp}{s:Shared}{fp:List Addr}(I:Inv X a5 σ H s)(hf:∀b∈fp,FpOk X a5 H b)(ho:∀b∈fp,∃o,s.heap.get? b=some o/\∀v,o.data ≠ .cell v):Inv X (a5++V6 fp s.heap) σ H s :=
 I.pins_of λp hp=>(UD.mp hp).elim (λz=>I.pin p (UR _ z)) λz=>by
  obtain⟨hb,e⟩:=Wc z;obtain⟨f0,f1,f2,_⟩:=hf p.1 hb;obtain⟨o,e',d⟩:=ho p.1 hb;rw[e]at e';cases e';exact⟨e,f0,f1,f2,d⟩
theorem Inv.unpinned{a5 pl:List (Addr×Obj)}{σ:St}{H:Hp}{s:Shared}(I:Inv X (a5++pl) σ H s):Inv X a5 σ H s:=I.pins_of λp hp=>I.pin p (UR _ (UV _ hp))
theorem q6E{au:Expr}{body:List Stmt}{wi:TI}{g:TG}{tb:TS}{pos:Pos}(hp:PassesOwn (model X.prog X.w) X.A X.env X.xe)(hc:X.calm=true)(hi:PI X tg au wi)(hg:PG X tg g)(hb:PSs X body tb)(hs:∀x,foldedSetIterable au X.env x=pure x:=by intro _;rfl):PS X (.For tg au body [] pos) (tFor wi g tb):=by
 intro a5 s σ H D I h;refine wpAny_For (thn (hi a5 s σ H _ I h) λv s1 h1=>thn h1 λl8 s2 h2=>?_) hs;obtain⟨it,fp,tn,J,H2,e,I2,T,gb,f2,W,⟨m0,w0⟩,ff⟩:=h2;subst e
 -- what stays true of the iterator's objects through the fh
 have fj:∀{H':Hp},(∀b∈fp,H' b=none)->∀b∈fp,FpOk X a5 H' b:=λhn b hb=>⟨hn b hb,(f2 b hb).2⟩;refine codeAny_forLoop_any (λn s'=>∃i ah H',Inv X a5 ah H' s'/\tn i s'.heap/\(∀b∈fp,H' b=none)/\W i n ah H') ?_ m0 ⟨0,σ,H2,I2,gb,λb hb=>(f2 b hb).1,w0⟩;rintro n s3 ⟨i,gF,H3,I3,iy,n5,w3⟩;rcases ff i n gF H3 w3 with⟨stop,qn⟩|⟨go,N,hN,step⟩
 ·refine G6 hp (thn (T.done X rfl rfl rfl hc i a5 s3 gF H3 X.xe I3 (fj n5) iy stop) λr s4 zz=>?_)
  obtain⟨hr,I4⟩:=zz;subst hr;exact GV ⟨gF,H3,I4,qn⟩
 ·refine G6 hp (thn (T.item X rfl rfl rfl hc i a5 s3 gF H3 X.xe I3 (fj n5) iy go) λr s4 zz=>?_)
  obtain⟨u,hr,h4⟩:=zz;subst hr;refine G6 hp (thn h4 λ_ s5 zz=>?_);obtain⟨x,H5,I5,r5,y5,gc,fm⟩:=zz;have oz:=I5.pinned (fj fm) (T.obj _ _ gc);refine G6 hp (thn (hg _ s5 gF H5 x u _ oz r5 (step x H5 y5)) λ_ s6 zz=>?_);obtain⟨oA,H6,I6,q6⟩:=zz;refine G6 hp (thn (hb _ s6 oA H6 _ I6 q6) λf s7 q7=>?_);have again:∀{dE:St}{H7:Hp},Inv X (a5++V6 fp s5.heap) dE H7 s7->N dE H7->∃m,m<n/\∃i ah H',Inv X a5 ah H' s7/\tn i s7.heap/\(∀b∈fp,H' b=none)/\W i m ah H':=λ{dE H7} I7 n7=>by
   obtain⟨m',hm,w7⟩:=hN dE H7 n7;refine⟨m',hm,i+1,dE,H7,I7.unpinned,T.keep _ _ _ gc λb hb o e=>(I7.pin (b,o) (UR _ (UR _ (xi hb e)))).1,λb hb=>?_,w7⟩;obtain⟨o,e,d⟩:=T.obj _ _ gc b hb;exact(I7.pin (b,o) (UR _ (UR _ (xi hb e)))).2.1
  cases f with
  |next=>obtain⟨dE,H7,I7,n7⟩:=q7;exact again I7 n7
  |cont=>obtain⟨dE,H7,I7,n7⟩:=q7;exact again I7 n7
  |brk=>obtain⟨dE,H7,I7,q7⟩:=q7;exact⟨dE,H7,I7.unpinned,q7⟩
  |ret v=>obtain⟨x7,dE,H7,I7,r7,q7⟩:=q7;exact⟨x7,dE,H7,I7.unpinned,r7,q7⟩
end
theorem q0q{K:PySem.W.Frag}{a:Addr}{xs:List V}{g:TG}{tb:TS}{D:Ends}{σ:St}{H:Hp}(Pv:Nat->St->Hp->Prop)(h0:Pv 0 σ H)(hl:∀i σ H,i<=xs.length->Pv i σ H->SqL K H a xs)(hs:∀i x σ H,xs[i]?=some x->Pv i σ H->g x σ H λcK H2=>tb { D with nx:=Pv (i+1),ct:=Pv (i+1),bk:=D.nx } cK H2)(hd:∀σ H,Pv xs.length σ H->D.nx σ H):
  ∃W:Nat->Nat->St->Hp->Prop,(∃m,W 0 m σ H)/\∀i m σ H,W i m σ H ->
   ((Itl K a).stop i H/\D.nx σ H)\/((Itl K a).go i H/\∃N:St->Hp->Prop,(∀ah H',N ah H'->∃m',m'<m/\W (i+1) m' ah H')/\∀x H',(Itl K a).yld i H x H'->g x σ H' λcK H2=>tb { D with nx:=N,ct:=N,bk:=D.nx } cK H2):=by
 refine⟨λi m σ H=>m=xs.length-i/\i<=xs.length/\Pv i σ H,⟨xs.length,by simp,Db _,h0⟩,?_⟩;rintro i m σ H ⟨rfl,hi,p⟩;have q:=hl i σ H hi p;by_cases bS:i<xs.length
 ·refine .inr ⟨⟨xs,xs[i],q,by simp[bS]⟩,Pv (i+1),λah H' p'=>⟨xs.length-(i+1),by lia,rfl,bS,p'⟩,λx H' y=>?_⟩
  obtain⟨e,y⟩:=y;subst e;exact hs i x σ _ (y xs q) p
 ·have e:i=xs.length:=by lia
  subst e;exact .inl ⟨⟨xs,q,Ux _⟩,hd σ H p⟩
abbrev R2:=V->V->Hp->VK->Prop
def OpR(X:Cx)(f:Value->Value->Sem Value)(r:R2):Prop :=
 ∀(a5:List (Addr×Obj))(s:Shared)(σ:St)(H:Hp)(x y:V)(v u:Value)(Q:VK),Inv X a5 σ H s->RelV x v->RelV y u->r x y H Q ->
  wpAny (model X.prog X.w) X.A (f v u) (EP X a5 σ Q) X.xe s
def UnR(X:Cx)(f:Value->Sem Value)(r:V->Hp->VK->Prop):Prop :=
 ∀(a5:List (Addr×Obj))(s:Shared)(σ:St)(H:Hp)(x:V)(v:Value)(Q:VK),Inv X a5 σ H s->RelV x v->r x H Q ->
  wpAny (model X.prog X.w) X.A (f v) (EP X a5 σ Q) X.xe s
def zF(X:Cx)(f:Value)(r:List V->Hp->VK->Prop):Prop :=
 ∀(a5:List (Addr×Obj))(s:Shared)(σ:St)(H:Hp)(xs:List V)(us:List Value)(Q:VK),Inv X a5 σ H s->Vals xs us->r xs H Q ->
  wpAny (model X.prog X.w) X.A (call f us) (EP X a5 σ Q) X.xe s
def tOp(r:R2)(ta tb:TE):TE:=λσ H Q=>ta σ H λx H1=>tb σ H1 λy H2=>r x y H2 Q
def tUn(r:V->Hp->VK->Prop)(ta:TE):TE:=λσ H Q=>ta σ H λx H1=>r x H1 Q
def rI(C:Int->Int->Prop)(g:Int->Int->V):R2:=λx y H Q=>∃i j,x=.int i/\y=.int j/\C i j/\Q (g i j) H
def rI0(g:Int->Int->V):R2:=λx y H Q=>∃i j,x=.int i/\y=.int j/\Q (g i j) H
def rU(g:Int->V):V->Hp->VK->Prop:=λx H Q=>∃i,x=.int i/\Q (g i) H
section
variable {X:Cx}{a b:Expr}{ta tb:TE}{pos:Pos}
theorem binT(ha:PE X a ta)(hb:PE X b tb){a5:List (Addr×Obj)}{s:Shared}{σ:St}{H:Hp}{R:V->V->Hp->Prop}(I:Inv X a5 σ H s)(h:ta σ H λx H1=>tb σ H1 λy H2=>R x y H2){Q:Value->Shared->Prop}{f:Value->Value->Sem Value}(hf:∀v u s2 x y H2,Inv X a5 σ H2 s2->RelV x v->RelV y u->R x y H2->wpAny (model X.prog X.w) X.A (f v u) Q X.xe s2):
  wpAny (model X.prog X.w) X.A (eval a X.env) (λv ag=>wpAny (model X.prog X.w) X.A (eval b X.env) (λu bB=>wpAny (model X.prog X.w) X.A (f v u) Q X.xe bB) X.xe ag) X.xe s:=by
 refine thn (ha a5 s σ H _ I h) λv s1 zz=>?_;obtain⟨x,H1,I1,r1,q1⟩:=zz;refine thn (hb a5 s1 σ H1 _ I1 q1) λu s2 zz=>?_;obtain⟨y,H2,I2,r2,q2⟩:=zz;exact hf v u s2 x y H2 I2 r1 r2 q2
theorem opI{f:Value->Value->Sem Value}{C:Int->Int->Prop}{g:Int->Int->Int}(rule:∀(i j:Int)(t u:Tok)(s:Shared)(Q:Value->Shared->Prop)(E:Value->Shared->Prop),C i j->Q (.int (g i j) s.toks) { s with toks:=s.toks+1 }->wpAny (model X.prog X.w) X.A (f (.int i t) (.int j u)) Q E s):
  OpR X f (rI C λi j=>.int (g i j)):=by
 intro a5 s σ H x y v u Q I rx ry h;obtain⟨i,j,rfl,rfl,hc,q⟩:=h;obtain⟨t,rfl⟩:=rx;obtain⟨t',rfl⟩:=ry;exact rule i j t t' s _ _ hc ⟨.int (g i j),H,I.tok _,⟨_,rfl⟩,q⟩
theorem opI0{f:Value->Value->Sem Value}{g:Int->Int->Int}(rule:∀(i j:Int)(t u:Tok)(s:Shared)(Q:Value->Shared->Prop)(E:Value->Shared->Prop),Q (.int (g i j) s.toks) { s with toks:=s.toks+1 }->wpAny (model X.prog X.w) X.A (f (.int i t) (.int j u)) Q E s):
  OpR X f (rI0 λi j=>.int (g i j)):=by
 intro a5 s σ H x y v u Q I rx ry h;obtain⟨i,j,rfl,rfl,q⟩:=h;obtain⟨t,rfl⟩:=rx;obtain⟨t',rfl⟩:=ry;exact rule i j t t' s _ _ ⟨.int (g i j),H,I.tok _,⟨_,rfl⟩,q⟩
theorem opB0{f:Value->Value->Sem Value}{g:Int->Int->Bool}(rule:∀(i j:Int)(t u:Tok)(s:Shared)(Q:Value->Shared->Prop)(E:Value->Shared->Prop),Q (.bool (g i j)) s->wpAny (model X.prog X.w) X.A (f (.int i t) (.int j u)) Q E s):
  OpR X f (rI0 λi j=>.bl (g i j)):=by
 intro a5 s σ H x y v u Q I rx ry h;obtain⟨i,j,rfl,rfl,q⟩:=h;obtain⟨t,rfl⟩:=rx;obtain⟨t',rfl⟩:=ry;exact rule i j t t' s _ _ ⟨.bl (g i j),H,I,rfl,q⟩
def CPow(i j:Int):Prop:=0<=j/\j<=1000000/\i.natAbs<2^64
def CMul(i j:Int):Prop:=(-(2^64)<i/\i<2^64)\/(-(2^64)<j/\j<2^64)
theorem CMul.ok{i j:Int}(h:CMul i j):IntMulOk i j:=by
 rcases h with⟨h1,h2⟩|⟨h1,h2⟩
 ·exact .of_left (intBits_le_64 h1 h2)
 ·exact .of_right (intBits_le_64 h1 h2)
theorem vq:OpR X (binaryOp .Add) (rI0 λi j=>.int (i+j)):=opI0 λ_ _ _ _ _ _ _ q=>add_int q
theorem jz:OpR X (binaryOp .Sub) (rI0 λi j=>.int (i-j)):=opI0 λ_ _ _ _ _ _ _ q=>sub_int q
theorem ku:OpR X (binaryOp .Mult) (rI CMul λi j=>.int (i*j)):=opI λ_ _ _ _ _ _ _ hc q=>mul_int q hc.ok
theorem xq:OpR X (binaryOp .Mod) (rI (λ_ j=>0<j) λi j=>.int (i % j)):=opI λi j _ _ _ _ _ hc q=>by
 have h1:(0:Int)<j:=hc;exact mod_int' (by lia) (by rw[DA i (by lia)];exact q)
theorem YM:OpR X (binaryOp .Mod) (rI (λ_ j=>j≠0) λi j=>.int (i.fmod j)):=opI λ_ _ _ _ _ _ _ hc q=>mod_int' hc q
theorem Jl:OpR X (binaryOp .Pow) (rI CPow λi j=>.int (i^j.toNat)):=opI λ_ _ _ _ _ _ _ hc q=>pow_int_small hc.1 hc.2.1 hc.2.2 q
theorem q2k:OpR X (binaryOp .LShift) (rI CPow λi j=>.int (i*2^j.toNat)):=opI λ_ _ _ _ _ _ _ hc q=>lshift_int_small hc.1 hc.2.1 hc.2.2 q
theorem unI{f:Value->Sem Value}{g:Int->Int}(rule:∀(i:Int)(t:Tok)(s:Shared)(Q:Value->Shared->Prop)(E:Value->Shared->Prop),Q (.int (g i) s.toks) { s with toks:=s.toks+1 }->wpAny (model X.prog X.w) X.A (f (.int i t)) Q E s):
  UnR X f (rU λi=>.int (g i)):=by
 intro a5 s σ H x v Q I rx h;obtain⟨i,rfl,q⟩:=h;obtain⟨t,rfl⟩:=rx;exact rule i t s _ _ ⟨.int (g i),H,I.tok _,⟨_,rfl⟩,q⟩
theorem q5o:UnR X (unaryOp .USub) (rU λi=>.int (-i)):=unI λ_ _ _ _ _ q=>neg_int q
end
def scal:V->V->Bool
 |.non,.non=>true | .non,.int _=>true | .int _,.non=>true | .non,.bl _=>true | .bl _,.non=>true | .non,.str _=>true | .str _,.non=>true
 |.int _,.int _=>true | .bl _,.bl _=>true | .str _,.str _=>true | .byt _,.byt _=>true
 |.int _,.str _=>true | .str _,.int _=>true | .bl _,.str _=>true | .str _,.bl _=>true
 |_,_=>false
def rEq:R2:=λx y H Q=>scal x y=true/\Q (.bl (decide (x=y))) H
def rNe:R2:=λx y H Q=>scal x y=true/\Q (.bl (!decide (x=y))) H
theorem WY{i j:Int}:decide (V.int i=V.int j)=(i==j):=by
 rw[D3];simp
theorem q2i{i j:Bool}:decide (V.bl i=V.bl j)=(i==j):=by
 rw[D3];simp
theorem WX{i j:Str}:decide (V.str i=V.str j)=(i==j):=by
 rw[D3];simp
theorem WZ{i j:Array UInt8}:decide (V.byt i=V.byt j)=(i.toList==j.toList):=by
 rw[D3];cases i;cases j;simp
section
variable {X:Cx}{a b c:Expr}{ta tb tc:TE}{pos:Pos}
theorem qZ{a5:List (Addr×Obj)}{σ:St}{H:Hp}{s:Shared}{Q:VK}{k k':Bool}(I:Inv X a5 σ H s)(q:Q (.bl k) H)(e:k=k'):EP X a5 σ Q (.bool k') s:=by
 subst e;exact⟨.bl k,H,I,rfl,q⟩
theorem op_eq:OpR X (compareOp .Eq) rEq:=by
 intro a5 s σ H x y v u Q I rx ry h;obtain⟨hs,q⟩:=h;cases x with
 |non=>
  cases rx;cases y with
  |non=>cases ry;exact PySem.EqNone.eq_none_none (qZ I q (by simp))
  |bl j=>cases ry;exact PySem.EqNone.eq_none_bool (qZ I q (by simp))
  |int j=>obtain⟨t',rfl⟩:=ry;exact PySem.EqNone.eq_none_int (qZ I q (by simp))
  |str j=>obtain⟨t',rfl⟩:=ry;exact PySem.EqNone.eq_none_str (qZ I q (by simp))
  |_=>exact absurd (show false=true from hs) UH
 |bl i=>
  cases rx;cases y with
  |non=>cases ry;exact PySem.EqNone.eq_bool_none (qZ I q (by simp))
  |bl j=>cases ry;exact eq_bool (qZ I q q2i)
  |str j=>obtain⟨t',rfl⟩:=ry;exact PySem.EqMixed.eq_bool_str (qZ I q (by simp))
  |_=>exact absurd (show false=true from hs) UH
 |int i=>
  obtain⟨t,rfl⟩:=rx;cases y with
  |non=>cases ry;exact PySem.EqNone.eq_int_none (qZ I q (by simp))
  |int j=>obtain⟨t',rfl⟩:=ry;exact eq_int (qZ I q WY)
  |str j=>obtain⟨t',rfl⟩:=ry;exact PySem.EqMixed.eq_int_str (qZ I q (by simp))
  |_=>exact absurd (show false=true from hs) UH
 |str i=>
  obtain⟨t,rfl⟩:=rx;cases y with
  |non=>cases ry;exact PySem.EqNone.eq_str_none (qZ I q (by simp))
  |bl j=>cases ry;exact PySem.EqMixed.eq_str_bool (qZ I q (by simp))
  |int j=>obtain⟨t',rfl⟩:=ry;exact PySem.EqMixed.eq_str_int (qZ I q (by simp))
  |str j=>obtain⟨t',rfl⟩:=ry;exact eq_str (qZ I q WX)
  |_=>exact absurd (show false=true from hs) UH
 |byt i=>
  obtain⟨t,rfl⟩:=rx;cases y with
  |byt j=>obtain⟨t',rfl⟩:=ry;exact W.eq_bytes (qZ I q WZ)
  |_=>exact absurd (show false=true from hs) UH
 |_=>cases y<;>exact absurd (show false=true from hs) UH
theorem jL:OpR X (compareOp .NotEq) rNe:=by
 intro a5 s σ H x y v u Q I rx ry h;obtain⟨hs,q⟩:=h;cases x with
 |non=>
  cases rx;cases y with
  |non=>cases ry;exact PySem.EqNone.ne_none_none (qZ I q (by simp))
  |bl j=>cases ry;exact PySem.EqNone.ne_none_bool (qZ I q (by simp))
  |int j=>obtain⟨t',rfl⟩:=ry;exact PySem.EqNone.ne_none_int (qZ I q (by simp))
  |str j=>obtain⟨t',rfl⟩:=ry;exact PySem.EqNone.ne_none_str (qZ I q (by simp))
  |_=>exact absurd (show false=true from hs) UH
 |bl i=>
  cases rx;cases y with
  |non=>cases ry;exact PySem.EqNone.ne_bool_none (qZ I q (by simp))
  |bl j=>cases ry;exact ne_bool (qZ I q (GM not q2i))
  |str j=>obtain⟨t',rfl⟩:=ry;exact PySem.EqMixed.ne_bool_str (qZ I q (by simp))
  |_=>exact absurd (show false=true from hs) UH
 |int i=>
  obtain⟨t,rfl⟩:=rx;cases y with
  |non=>cases ry;exact PySem.EqNone.ne_int_none (qZ I q (by simp))
  |int j=>obtain⟨t',rfl⟩:=ry;exact ne_int (qZ I q (GM not WY))
  |str j=>obtain⟨t',rfl⟩:=ry;exact PySem.EqMixed.ne_int_str (qZ I q (by simp))
  |_=>exact absurd (show false=true from hs) UH
 |str i=>
  obtain⟨t,rfl⟩:=rx;cases y with
  |non=>cases ry;exact PySem.EqNone.ne_str_none (qZ I q (by simp))
  |bl j=>cases ry;exact PySem.EqMixed.ne_str_bool (qZ I q (by simp))
  |int j=>obtain⟨t',rfl⟩:=ry;exact PySem.EqMixed.ne_str_int (qZ I q (by simp))
  |str j=>obtain⟨t',rfl⟩:=ry;exact ne_str (qZ I q (GM not WX))
  |_=>exact absurd (show false=true from hs) UH
 |byt i=>
  obtain⟨t,rfl⟩:=rx;cases y with
  |byt j=>obtain⟨t',rfl⟩:=ry;exact W.ne_bytes (qZ I q (GM not WZ))
  |_=>exact absurd (show false=true from hs) UH
 |_=>cases y<;>exact absurd (show false=true from hs) UH
theorem Ki:OpR X (compareOp .Lt) (rI0 λi j=>.bl (decide (i<j))):=opB0 λ_ _ _ _ _ _ _ q=>lt_int q
theorem q6V:OpR X (compareOp .Gt) (rI0 λi j=>.bl (decide (j<i))):=opB0 λ_ _ _ _ _ _ _ q=>gt_int q
theorem q7s:OpR X (compareOp .GtE) (rI0 λi j=>.bl (decide (j<=i))):=opB0 λ_ _ _ _ _ _ _ q=>ge_int q
theorem YN:OpR X (compareOp .In) (λx y H Q=>∃i j,x=.str i/\y=.str j/\Q (.bl (!(Builtin.Str.occurrences j i 0 j.length 1).isEmpty)) H):=by
 intro a5 s σ H x y v u Q I rx ry h;obtain⟨i,j,rfl,rfl,q⟩:=h;obtain⟨t,rfl⟩:=rx;obtain⟨t',rfl⟩:=ry;exact in_str (qZ I q rfl)
theorem q3Y:OpR X (compareOp .IsNot) (λx y H Q=>y=.non/\Q (.bl (!decide (x=.non))) H):=by
 intro a5 s σ H x y v u Q I rx ry h;obtain⟨rfl,q⟩:=h;cases ry;refine isnot_none_gen (qZ I q ?_);cases x<;>first
  | (cases rx;rfl)
  | (obtain⟨t,rfl⟩:=rx;rfl)
theorem OpR.or{f:Value->Value->Sem Value}{r r':R2}(h:OpR X f r)(h':OpR X f r'):OpR X f (λx y H Q=>r x y H Q\/r' x y H Q):=by
 intro a5 s σ H x y v u Q I rx ry q;rcases q with q|q
 ·exact h a5 s σ H x y v u Q I rx ry q
 ·exact h' a5 s σ H x y v u Q I rx ry q
theorem qm(b:Expr){op:CmpOp}(h:op ≠ .In:=by decide)(h2:op ≠ .NotIn:=by decide):behindInMarks op b=false:=by
 have e1:(op==CmpOp.In)=false:=by cases op<;>first|rfl|exact absurd rfl h
 have e2:(op==CmpOp.NotIn)=false:=by cases op<;>first|rfl|exact absurd rfl h2
 cases b<;>simp[behindInMarks,e1,e2]
def QM(t:TE):TT:=λσ H Q=>t σ H λx H'=>∃k,x=.bl k/\Q k H'
def Jc(r r':R2)(ta tb tc:TE):TE:=λσ H Q=>ta σ H λx H1=>tb σ H1 λy H2=>r x y H2 λz H3=>∃k,z=.bl k /\
 (if k=true then tc σ H3 λw' H4=>r' y w' H4 Q else Q (.bl false) H3)
def TruV(K:PySem.W.Frag)(x:V)(H:Hp)(k:Bool):Prop :=
 match x with
 |.non=>k=false
 |.bl b=>k=b
 |.int i=>k=(i != 0)
 |.str y=>y.length<=sizeLine/\k=((y.length:Int) != 0)
 |.byt y=>y.size<=sizeLine/\k=((y.size:Int) != 0)
 |.ref p=>(∃xs,SqL K H p xs/\k = !xs.isEmpty)\/(∃xs,SqT K H p xs/\k = !xs.isEmpty)\/∃kvs,H p=some (.dK kvs)/\k = !kvs.isEmpty
 |_=>False
theorem Jt:(sizeLine:Nat)<2^63:=by rw[GX];decide
theorem QJ{x:V}{us:List Value}(r:Vals [x] us):∃u,us=[u]/\RelV x u:=by
 cases r with
 |cons r1 r2=>cases r2;exact⟨_,rfl,r1⟩
theorem vals2{x y:V}{us:List Value}(r:Vals [x,y] us):∃u w',us=[u,w']/\RelV x u/\RelV y w':=by
 cases r with
 |cons r1 r2=>
  cases r2 with
  |cons r3 r4=>cases r4;exact⟨_,_,rfl,r1,r3⟩
theorem JV:zF X (.builtin "abs") (λxs H Q=>∃i,xs=[.int i]/\Q (.int (if i<0 then -i else i)) H):=by
 intro a5 s σ H xs us Q I r h;obtain⟨i,rfl,q⟩:=h;obtain⟨u,rfl,t,rfl⟩:=QJ r;exact call_abs_int λu tk=>⟨.int (if i<0 then -i else i),H,I.tok _,⟨_,rfl⟩,q⟩
theorem kY:zF X (.type "int") (λxs H Q=>(∃i,xs=[.int i]/\Q (.int i) H)\/∃k,xs=[.bl k]/\Q (.int (if k then 1 else 0)) H):=by
 intro a5 s σ H xs us Q I r h;rcases h with⟨i,rfl,q⟩|⟨k,rfl,q⟩
 ·obtain⟨u,rfl,t,rfl⟩:=QJ r
  exact call_int_int ⟨.int i,H,I,⟨_,rfl⟩,q⟩
 ·obtain⟨u,rfl,r1⟩:=QJ r
  cases r1;exact call_int_bool ⟨.int (if k then 1 else 0),H,I.tok _,⟨_,rfl⟩,q⟩
end
structure ObjM(h:Heap)(x dx C:Addr)(mA:Str->Option Value):Prop where
 obj:h.get? x=some (W.instObj C dx)
 ns:h.Ns1 dx mA
 ne:dx≠x
theorem kH{h:Heap}{dx:Addr}{mA:Str->Option Value}(n:h.Ns1 dx mA):∃od,h.get? dx=some od/\∀name,W.lookIn name od=some (mA name):=by
 obtain⟨o,es,ep,ho,hd,hk,_,hm⟩:=n;refine⟨o,ho,λname=>?_⟩;have e:=hm name;unfold nsFind findBy at e;rw[<-RK]at e;unfold W.lookIn;rw[hd];dsimp only;split
 ·rename_i y q
  rw[q]at e;exact GM some e
 ·rename_i q
  rw[q]at e;have a:es.toList.any (·.refKey)=false:=by
   rw[List.any_eq_false];intro y hy;obtain⟨z,t,hkey⟩:=hk y (Array.mem_toList_iff.mp hy);simp[DictEntry.refKey,hkey]
  have a':¬es.toList.any (·.refKey)=true:=by rw[a];exact UH
  rw[GH a'];exact GM some e
theorem ObjM.look{h:Heap}{x dx C:Addr}{mA:Str->Option Value}(I:ObjM h x dx C mA):∃od,PySem.W.InstAt h x (W.instObj C dx) C (some od)/\∀name,W.lookIn name od=some (mA name):=
 let⟨od,ho,hl⟩:=kH I.ns
 ⟨od,⟨I.obj,rfl,rfl,ho⟩,hl⟩
section
variable {prog:Program}{w:World}{A:Around}{E:Value->Shared->Prop}{s:Shared}{K:PySem.W.Frag}{x dx C f:Addr}{mA:Str->Option Value}{name:Str}{v:Value}
theorem q2G{dG:Bool}{Q:Value->Shared->Prop}(X:K.In s.heap)(I:ObjM s.heap x dx C mA)(hg:W.plainGet K C name=true)(hh:W.hasDictIn K C=true)(ha:W.findIn K (.ref C) name=some none)(hv:mA name=some v)(oB:W.handedIn v=true)(h:Q v { s with toks:=s.toks+1 }):
  wpAny (model prog w) A (getAttr (.ref x) name dG) Q E s:=by
 obtain⟨od,J,hl⟩:=I.look;exact W.get_value X J (D4 hg).1 (D5 hh ha rfl (by rw[hl,hv])) oB h
theorem q1f{pl:Sem Bool}{Q:Value×List Value->Shared->Prop}(X:K.In s.heap)(I:ObjM s.heap x dx C mA)(hg:W.plainGet K C name=true)(hf:W.findIn K (.ref C) name=some (some (.ref f)))(ht:W.isFn K (.ref f)=true)(hv:mA name=none)(h:Q (.ref f, [.ref x]) s):
  wpAny (model prog w) A (getMethod (.ref x) name pl) Q E s:=by
 obtain⟨od,J,hl⟩:=I.look;exact W.method_fn X J (D4 hg).1 (D4 hg).2 hf (beq_iff_eq.mp ht) (by show(W.lookIn name od).map (·.isSome)=some false;rw[hl,hv];rfl) h
theorem q3z{ns:List Str}{Q:Unit->Shared->Prop}(X:K.In s.heap)(I:ObjM s.heap x dx C mA)(hs:W.findIn K (.ref C) "__setattr__" = some (some (.builtin "object.__setattr__")))(hp:W.plainOver K C=true)(ht:W.takerIn K C name=some none)(hh:W.hasDictIn K C=true)(hw:PySem.Within mA ns)(hsz:ns.length<=sizeLine)(h:∀h',ObjM h' x dx C (λy=>if y=name then some v else mA y)->Heap.SameBut dx s.heap h'->Q () { s with heap:=h',toks:=s.toks+2 }):
  wpAny (model prog w) A (setAttr (.ref x) name v) Q E s:=by
 obtain⟨od,J,hl⟩:=I.look;refine W.set_plain X J hs (W.osa_open (s:={ s with toks:=s.toks+1 }) (r:=none) X J hp ht λb=>?_);obtain⟨cd,hc,dv⟩:=W.any_some hh;have hx:s.heap.get? x=some ⟨.ref C,some dx,.plain, #[]⟩:=I.obj;refine GD (GE (GD (GD (wpAny_loadPart hx (GD (PySem.W.Looks.here (s:={ s with toks:=s.toks+1 }) (W.looks_clsIn X hc) ?_))))));rw[dv];refine GE (a:=some dx) (GD (GE (GD ?_)));refine wpAny_nsSet1 (s:={ s with toks:=s.toks+1 }) I.ns λh' ge eO=>?_;obtain⟨oD,oC,oG,l9,lc,lf⟩:=ge.count (PySem.Within.cons name v hw);refine GD (wpAny_lookBehind l9 (by rw[lc];exact pastItsLine_dict (U3 lf (by rw[UL];lia))) ?_);exact GE (h _ ⟨(eO.2 _ (Ne.symm I.ne)).trans I.obj,ge,I.ne⟩ eO)
theorem q0y{R:Result->Shared->Prop}{vs:List Value}{kw:List (Str×Value)}(X:K.In s.heap)(hm:W.makesIn K C=true)(hi:W.findIn K (.ref C) "__init__" = some (some (.ref f)))(hf:W.typeIn K (.ref f)=some (.type "function"))(h:codeAny (model prog w) (A.under (.builtin "type.__call__" ⟨.ref C::vs,kw⟩)) (.call (.ref f) ⟨.ref (s.heap.objs.size+1)::vs,kw⟩) (PySem.W.InitBack (s.heap.objs.size+1) R)
   { s with heap:=(s.heap.push W.emptyDict).push (W.instObj C s.heap.objs.size) }):
  codeAny (model prog w) A (.call (.ref C) ⟨vs,kw⟩) R s:=by
 obtain⟨hh,g,d,t,os⟩:=s;exact W.make_core (W.makes_of X hm) (W.looks_findIn X hi) (λself=>W.bind_fn X self hf) (.inl rfl) h
end
def putF(f:Str)(v:V):List (Str×V)->List (Str×V)
 | []=>[(f,v)]
 | (g,x)::r=>if g=f then(g,v)::r else(g,x)::putF f v r
theorem kG(f g:Str)(v:V):∀fs:List (Str×V),(putF f v fs).lookup g=if g=f then some v else fs.lookup g
 | []=>by
  show List.lookup g [(f,v)]=_;by_cases h:g=f
  ·have hb:(g==f)=true:=beq_iff_eq.mpr h
   simp only[List.lookup,hb,GL h]
  ·have hb:(g==f)=false:=beq_eq_false_iff_ne.mpr h
   simp only[List.lookup,hb,GH h]
 | (k,x)::r=>by
  have ih:=kG f g v r;rw[show putF f v ((k,x)::r)=(if k=f then(k,v)::r else(k,x)::putF f v r)from rfl];by_cases hk:k=f
  ·rw[GL hk]
   by_cases h:g=k
   ·have hb:(g==k)=true:=beq_iff_eq.mpr h
    simp only[List.lookup,hb,GL (h.trans hk)]
   ·have hb:(g==k)=false:=beq_eq_false_iff_ne.mpr h
    simp only[List.lookup,hb,GH (λe:g=f=>h (e.trans hk.symm))]
  ·rw[GH hk]
   by_cases h:g=k
   ·have hb:(g==k)=true:=beq_iff_eq.mpr h
    simp only[List.lookup,hb,GH (λe:g=f=>hk (h.symm.trans e))]
   ·have hb:(g==k)=false:=beq_eq_false_iff_ne.mpr h
    simp only[List.lookup,hb];exact ih
theorem kL(f:Str)(v:V):∀fs:List (Str×V),f∈(putF f v fs).map (·.1)/\∀g,g∈fs.map (·.1)->g∈(putF f v fs).map (·.1)
 | []=>⟨by simp[putF],λg h=>by simp at h⟩
 | (k,x)::r=>by
  obtain⟨i1,i2⟩:=kL f v r;rw[show putF f v ((k,x)::r)=(if k=f then(k,v)::r else(k,x)::putF f v r)from rfl];by_cases hk:k=f
  ·rw[GL hk]
   subst hk;exact⟨by simp,λg h=>by simpa using h⟩
  ·rw[GH hk]
   refine⟨?_,λg h=>?_⟩
   ·rw[UZ]
    exact U4 _ i1
   ·rw[UZ]at h ⊢
    rcases UQ.mp h with e|e
    ·exact UQ.mpr (.inl e)
    ·exact U4 _ (i2 g e)
theorem kI(f:Str)(v:V):∀fs:List (Str×V),(putF f v fs).length<=fs.length+1
 | []=>by simp[putF]
 | (k,x)::r=>by
  have ih:=kI f v r;rw[show putF f v ((k,x)::r)=(if k=f then(k,v)::r else(k,x)::putF f v r)from rfl];by_cases hk:k=f
  ·rw[GL hk,UL,UL];lia
  ·rw[GH hk,UL,UL];lia
theorem RelO.some_of{v:V}{o:Option Value}(r:RelO (some v) o):∃u,o=some u/\RelV v u:=by
 cases o with
 |none=>exact(show False from r).elim
 |some u=>exact⟨u,rfl,r⟩
theorem RelO.none_of{o:Option Value}(r:RelO none o):o=none:=by
 cases o with
 |none=>rfl
 |some u=>exact(show False from r).elim
theorem WE{v:V}{u:Value}(r:RelV v u):W.handedIn u=true:=by
 cases v with
 |non=>cases(show u=Value.none from r);rfl
 |bl b=>cases(show u=Value.bool b from r);rfl
 |int i=>obtain⟨t,e⟩:=(show ∃t,u=Value.int i t from r);cases e;rfl
 |str x=>obtain⟨t,e⟩:=(show ∃t,u=Value.str x t from r);cases e;rfl
 |byt b=>obtain⟨t,e⟩:=(show ∃t,u=Value.bytes b t from r);cases e;rfl
 |flt b=>obtain⟨t,e⟩:=(show ∃t,u=Value.float b t from r);cases e;rfl
 |ref a=>cases(show u=Value.ref a from r);rfl
 |ty n=>cases(show u=Value.type n from r);rfl
section
variable {P:Program}{w:World}{H:Hp}{h:Heap}{a C dx:Addr}{fs:List (Str×V)}
theorem Vr(hok:HOk P w H h)(e:H a=some (.ins C dx fs)):∃mA,ObjM h a dx C mA/\(∀f,RelO (fs.lookup f) (mA f))/\PySem.Within mA (fs.map (·.1))/\fs.length<=1000/\H dx=some (.own a):=by
 obtain⟨d,z,ne,ob,mA,n,r,q⟩:=(show ObjOk P w H h a (.ins C dx fs)from hok a _ e);exact⟨mA,⟨ob,n,ne⟩,r,q,z,d⟩
end
structure Cls(K:PySem.W.Frag)(C:Addr):Prop where
 pg:W.plainGet K C Str.empty=true
 hd:W.hasDictIn K C=true
 po:W.plainOver K C=true
 sa:W.findIn K (.ref C) "__setattr__" = some (some (.builtin "object.__setattr__"))
theorem Cls.get{K:PySem.W.Frag}{C:Addr}(c:Cls K C)(f:Str):W.plainGet K C f=true:=c.pg
def NoAttr(K:PySem.W.Frag)(C:Addr)(f:Str):Prop:=W.findIn K (.ref C) f=some none
theorem NoAttr.taker{K:PySem.W.Frag}{C:Addr}{f:Str}(n:NoAttr K C f):W.takerIn K C f=some none:=by
 unfold W.takerIn;rw[show W.findIn K (.ref C) f=some none from n];rfl
structure Meth(K:PySem.W.Frag)(C:Addr)(m:Str)(f:Addr):Prop where
 at_:W.findIn K (.ref C) m=some (some (.ref f))
 fn:W.isFn K (.ref f)=true
 kp:W.keepIn K (.ref f)=true
section
variable {X:Cx}{a5:List (Addr×Obj)}{σ:St}{H:Hp}{s:Shared}{a C dx:Addr}{fs:List (Str×V)}{f:Str}{v:V}{A:Around}{E:Value->Shared->Prop}
theorem Qn{b:Bool}{Q:Value->Shared->Prop}(I:Inv X a5 σ H s)(e:H a=some (.ins C dx fs))(c:Cls X.K C)(n:NoAttr X.K C f)(l:fs.lookup f=some v)(h:∀u s',Inv X a5 σ H s'->RelV v u->Q u s'):wpAny (model X.prog X.w) A (getAttr (.ref a) f b) Q E s:=by
 obtain⟨mA,O,r,_,_,_⟩:=Vr I.hok e;obtain⟨u,hu,ru⟩:=RelO.some_of (v:=v) (o:=mA f) (by rw[<-l];exact r f);exact q2G I.kIn O (c.get f) c.hd n hu (WE ru) (h u _ (I.tok _) ru)
theorem xj{m:Str}{g:Addr}{pl:Sem Bool}{Q:Value×List Value->Shared->Prop}(I:Inv X a5 σ H s)(e:H a=some (.ins C dx fs))(c:Cls X.K C)(k:Meth X.K C m g)(l:fs.lookup m=none)(h:Q (.ref g, [.ref a]) s):wpAny (model X.prog X.w) A (getMethod (.ref a) m pl) Q E s:=by
 obtain⟨mA,O,r,_,_,_⟩:=Vr I.hok e;have hn:mA m=none:=RelO.none_of (by rw[<-l];exact r m);exact q1f I.kIn O (c.get m) k.at_ k.fn hn h
theorem J4{y:V}{u:Value}{Q:Unit->Shared->Prop}(I:Inv X a5 σ H s)(e:H a=some (.ins C dx fs))(c:Cls X.K C)(n:NoAttr X.K C f)(hl:fs.length<1000)(ry:RelV y u)(h:∀s',Inv X a5 σ (upd H a (.ins C dx (putF f y fs))) s'->Q () s'):wpAny (model X.prog X.w) A (setAttr (.ref a) f u) Q E s:=by
 obtain⟨mA,O,r,wi,_,ho⟩:=Vr I.hok e;have hz:(fs.map (·.1)).length<=sizeLine:=by rw[Uw,GX];lia
 refine q3z I.kIn O c.sa c.po n.taker c.hd wi hz λh' O' sb=>h _ ?_;have hd:∃o,h'.get? dx=some o:=let⟨o,_,_,e',_⟩:=O'.ns;⟨o,e'⟩;refine I.write (x:=a) (e:=dx) (by rw[e];exact True.intro) (.inr ho) (λb q hb z=>(sb.2 b hb).trans z) hd ?_;refine⟨by rw[upd_ne O.ne];exact ho,?_,O.ne,O'.obj,_,O'.ns,λg=>?_,λg hg=>?_⟩
 ·have:=kI f y fs;lia
 ·show RelO ((putF f y fs).lookup g) (if g=f then some u else mA g)
  rw[kG];by_cases q:g=f
  ·rw[GL q,GL q];exact ry
  ·rw[GH q,GH q];exact r g
 ·by_cases q:g=f
  ·rw[q];exact(kL f y fs).1
  ·refine(kL f y fs).2 g (wi g λz=>hg ?_)
   show(if g=f then some u else mA g)=none;rw[GH q];exact z
theorem Inv.made(I:Inv X a5 σ H s):Inv X a5 σ (upd (upd H s.heap.objs.size (.own (s.heap.objs.size+1))) (s.heap.objs.size+1) (.ins C s.heap.objs.size []))
  { s with heap:=(s.heap.push W.emptyDict).push (W.instObj C s.heap.objs.size) }:=by
 have e1:(s.heap.push W.emptyDict).get? s.heap.objs.size=some W.emptyDict:=Heap.get?_push_size s.heap rfl;have e2:((s.heap.push W.emptyDict).push (W.instObj C s.heap.objs.size)).get? (s.heap.objs.size+1)=some (W.instObj C s.heap.objs.size):=by
  have:=Heap.get?_push_size (s.heap.push W.emptyDict) (o:=W.instObj C s.heap.objs.size) rfl;rwa [Heap.size_push]at this
 have e3:(s.heap.push W.emptyDict).Ns s.heap.objs.size (λ_=>none):=⟨W.emptyDict, #[],_,e1,rfl,(λe he=>absurd he (by simp)),λ_=>rfl⟩;have I1:=I.laid (a:=s.heap.objs.size) (o:=.own (s.heap.objs.size+1)) (h':=s.heap.push W.emptyDict) (t':=s.toks) (λb u q=>Heap.get?_push_of_some _ q) (Ux _) ⟨_,e1⟩;refine I1.laid (a:=s.heap.objs.size+1) (o:=.ins C s.heap.objs.size []) (t':=s.toks) (λb u q=>Heap.get?_push_of_some _ q) (Rc (Heap.size_push _ _)) ?_;have ne:s.heap.objs.size≠s.heap.objs.size+1:=UU (Rq _);refine⟨by rw[upd_ne ne,upd_same],Db _,ne,e2,λ_=>none,(Heap.Ns1.of_empty e3).at λo q=>Heap.get?_push_of_some _ q,λ_=>True.intro,λy hy=>absurd rfl hy⟩
theorem VL{prog:Program}{w:World}{env:Env}{e:Expr}{f:Str}{pos:Pos}{s:Shared}{Q:Value->Shared->Prop}(hb:attributeBase e f env (eval e env)=eval e env)(h:wpAny (model prog w) A (eval e env) (λo ag=>wpAny (model prog w) A (getAttr o f true) Q E ag) E s):wpAny (model prog w) A (eval (.Attribute e f pos) env) Q E s :=
 Attribute_any_ h (by rw[arm_eval_Attribute,hb])
end
def tFld(K:PySem.W.Frag)(ta:TE)(f:Str):TE:=λσ H Q=>ta σ H λx H1=>∃a C dx fs v,x=.ref a/\H1 a=some (.ins C dx fs)/\Cls K C/\NoAttr K C f/\fs.lookup f=some v/\Q v H1
def sFld(K:PySem.W.Frag)(ta tv:TE)(f:Str):TS:=λD σ H=>tv σ H λy H1=>ta σ H1 λx H2=>∃a C dx fs,x=.ref a/\H2 a=some (.ins C dx fs)/\Cls K C/\NoAttr K C f/\fs.length<1000 /\
 D.nx σ (upd H2 a (.ins C dx (putF f y fs)))
section
variable {X:Cx}{o e value:Expr}{f:Str}{pos aJ:Pos}{ta tv:TE}
end
section
variable {X:Cx}{a5:List (Addr×Obj)}{σ:St}{H:Hp}{s:Shared}{A:Around}{E:Value->Shared->Prop}{Q:Value->Shared->Prop}{c:Value}{b:Bool}
inductive TyOf(K:PySem.W.Frag)(H:Hp):V->Value->Prop where
 |non:TyOf K H .non (.type "NoneType")
 |bl (x:Bool):TyOf K H (.bl x) (.type "bool")
 |int (i:Int):TyOf K H (.int i) (.type "int")
 |str (x:Str):TyOf K H (.str x) (.type "str")
 |flt (x:UInt64):TyOf K H (.flt x) (.type "float")
 |lst {a:Addr}{xs:List V} (e:H a=some (.lst xs)):TyOf K H (.ref a) (.type "list")
 |frz {a:Addr}{o:Obj}{xs:List V} (e:H a=some (.frz o (.lst xs))):TyOf K H (.ref a) (.type "list")
 |tup {a:Addr}{xs:List V} (e:H a=some (.tup xs)):TyOf K H (.ref a) (.type "tuple")
 |dK {a:Addr}{kvs:List (Key×V)} (e:H a=some (.dK kvs)):TyOf K H (.ref a) (.type "dict")
 |dT {a:Addr}{kvs:List (List Key×V)} (e:H a=some (.dT kvs)):TyOf K H (.ref a) (.type "dict")
 |ins {a C dx:Addr}{fs:List (Str×V)} (e:H a=some (.ins C dx fs)) (cl:Cls K C) (ha:W.findIn K (.ref C) "__class__" = some (some (.builtin "object.__class__")))
   (hn:W.specialIn K (.builtin "object.__class__") "__get__" = some (some (.builtin "getset_descriptor.__get__"))) (htk:W.takesIn K (.builtin "object.__class__")=some true)
   (hm:W.mroIn K C (.type "object")=some true):TyOf K H (.ref a) (.ref C)
theorem Zg{x:V}{u t:Value}(I:Inv X a5 σ H s)(rx:RelV x u)(ty:TyOf X.K H x t)(e:W.kitOne X.K t c=some b)(h:∀tk,Q (.bool b) { s with toks:=tk }):
  wpAny (model X.prog X.w) A (call (.builtin "isinstance") [u,c]) Q E s:=by
 cases ty with
 |non=>cases(show u=Value.none from rx);exact Da W.kitx_none I.kIn True.intro e (λz=>nomatch z) h
 |bl y=>cases(show u=Value.bool y from rx);exact Da W.kitx_bool I.kIn True.intro e (λz=>nomatch z) h
 |int i=>obtain⟨t,q⟩:=(show ∃t,u=Value.int i t from rx);cases q;exact Da W.kitx_int I.kIn True.intro e (λz=>nomatch z) h
 |str y=>obtain⟨t,q⟩:=(show ∃t,u=Value.str y t from rx);cases q;exact Da W.kitx_str I.kIn True.intro e (λz=>nomatch z) h
 |flt y=>obtain⟨t,q⟩:=(show ∃t,u=Value.float y t from rx);cases q;exact Da RL I.kIn True.intro e (λz=>nomatch z) h
 | @lst a xs ea=>
  cases(show u=Value.ref a from rx);obtain⟨_,_,n,_,h1⟩:=(show ObjOk X.prog X.w H s.heap a (.lst xs)from I.hok a _ ea);exact Da DR I.kIn ⟨_,h1,rfl⟩ e (λz=>nomatch z) h
 | @frz a ob xs ea=>
  cases(show u=Value.ref a from rx);obtain⟨_,_,_,n,_,h1⟩:=(show ObjOk X.prog X.w H s.heap a (.frz ob (.lst xs))from I.hok a _ ea);exact Da DR I.kIn ⟨_,h1,rfl⟩ e (λz=>nomatch z) h
 | @tup a xs ea=>
  cases(show u=Value.ref a from rx);obtain⟨_,_,_,p⟩:=(show ObjOk X.prog X.w H s.heap a (.tup xs)from I.hok a _ ea);obtain⟨o,h1,h2,_⟩:=p;exact Da RM I.kIn ⟨o,h1,h2⟩ e (λz=>nomatch z) h
 | @dK a kvs ea=>
  cases(show u=Value.ref a from rx);obtain⟨_,_,vs,_,p⟩:=(show ObjOk X.prog X.w H s.heap a (.dK kvs)from I.hok a _ ea);obtain⟨o,es,ep,h1,h2,_⟩:=p;exact Da DS I.kIn ⟨o,h1,h2.1⟩ e (λz=>nomatch z) h
 | @dT a kvs ea=>
  cases(show u=Value.ref a from rx);obtain⟨_,_,xs,_,o,es,ep,h1,h2,_⟩:=(show ObjOk X.prog X.w H s.heap a (.dT kvs)from I.hok a _ ea);exact Da DS I.kIn ⟨o,h1,h2.1⟩ e (λz=>nomatch z) h
 | @ins a C dx fs ea cl ha hn htk hm=>
  cases(show u=Value.ref a from rx);obtain⟨mA,O,_⟩:=Vr I.hok ea;obtain⟨od,J,_⟩:=O.look;exact Da (W.kitx_own (cl.get _) cl.hd ha hn htk hm) I.kIn J e (λz=>nomatch z) h
end
structure Room(k:Nat)(A:Around):Prop where
 hd:A.handled=none
 dp:A.depth+3*k+5<recursionLimit
 un:A.units+16*k+200<cLine
 gd:A.guards=some []
theorem Room.mono{j k:Nat}{A:Around}(r:Room k A)(h:j<=k):Room j A:=⟨r.hd,by have:=r.dp;lia,by have:=r.un;lia,r.gd⟩
theorem Room.deeper{k:Nat}{A:Around}(r:Room (k+1) A)(env:Env):Room k (A.deeper env):=
 ⟨r.hd,by have:=r.dp;show A.depth+1+3*k+5<_;lia,by have:=r.un;show A.units+3+16*k+200<_;lia,r.gd⟩
theorem Kv{A:Around}{C:Addr}{us:List Value}{kw:List (Str×Value)}:(A.under (.builtin "type.__call__" ⟨.ref C::us,kw⟩)).depth=A.depth+1:=by
 first|rfl|simp[Around.under,Code.weight,Code.isCreation,Code.isGuard,Code.isCaller,Code.frames,Code.isFrame,guardIds]
theorem Ku{A:Around}{C:Addr}{us:List Value}{kw:List (Str×Value)}:(A.under (.builtin "type.__call__" ⟨.ref C::us,kw⟩)).units=A.units+1:=by
 first|rfl|simp[Around.under,Code.cUnits,Code.frames,Code.isFrame]
theorem make_guards{A:Around}{C:Addr}{us:List Value}{kw:List (Str×Value)}:(A.under (.builtin "type.__call__" ⟨.ref C::us,kw⟩)).guards=A.guards:=by
 first|rfl|simp[Around.under,Code.guards,Code.isGuard,guardIds,pushGuards]
theorem Room.make{k:Nat}{A:Around}(r:Room (k+1) A)(C:Addr)(us:List Value)(kw:List (Str×Value)):Room k (A.under (.builtin "type.__call__" ⟨.ref C::us,kw⟩)):=
 ⟨r.hd,by have:=r.dp;rw[Kv];lia,by have:=r.un;rw[Ku];lia,make_guards.trans r.gd⟩
theorem Room.depth{k:Nat}{A:Around}(r:Room k A):A.depth<recursionLimit:=by have:=r.dp;lia
theorem Room.units{k:Nat}{A:Around}(r:Room k A):A.units+64<cLine:=by have:=r.un;lia
def tNil:TA:=λ_ H Q=>Q [] H
def vH(ta:TE)(tr:TA):TA:=λσ H Q=>ta σ H λx H1=>tr σ H1 λxs H2=>Q (x::xs) H2
section
variable {X:Cx}{e:Expr}{es:List Expr}{te:TE}{t:TA}{pos:Pos}
theorem q6D:PA X [] tNil:=λ_ _ _ _ H Q I h=>Calls.spliced_nil ⟨[],H,I,.nil,h⟩
theorem q3M(ha:PE X e te)(hr:PA X es t)(hs:starEach (e::es) X.env=(false,eval e X.env)::starEach es X.env:=by rfl):PA X (e::es) (vH te t):=by
 intro pos a5 s σ H Q I h;rw[hs];show wpAny _ _ (spliced ((false,eval e X.env)::backTo pos (starEach es X.env))) _ _ s;refine Calls.spliced_cons (thn (ha a5 s σ H _ I h) λu s1 zz=>?_);obtain⟨x,H1,I1,r1,q1⟩:=zz;exact thn (hr pos a5 s1 σ H1 _ I1 q1) λus s2 ⟨xs,H2,I2,r2,q2⟩=>⟨x::xs,H2,I2,.cons r1 r2,q2⟩
def tTup(t:TA):TE:=λσ H Q=>t σ H λxs H1=>xs.length<=sizeLine/\∀p,H1 p=none->Q (.ref p) (upd H1 p (.tup xs))
def tLst(t:TA):TE:=λσ H Q=>t σ H λxs H1=>xs.length<=sizeLine/\∀p,H1 p=none->Q (.ref p) (upd H1 p (.lst xs))
end
abbrev Sp:=List V->Hp->VK->XK->Prop
abbrev CXT:=List Env->Hp->Shared->XK->Value->Shared->Prop
structure Env0(P:Program)(w:World)(K:PySem.W.Frag)(mg:Str->Option Value)(base:Heap)(A:Around)(outer:List Env)(s:Shared)(H:Hp):Prop where
 frames:A.frames=some outer
 mod:Mod K mg base
 bs:∀b o,base.get? b=some o->s.heap.get? b=some o/\H b=none
 bsz:base.objs.size<=s.heap.objs.size
 funs:s.heap.FunFrames base outer
 frf:∀b∈frs outer,H b=none
 hok:HOk P w H s.heap
 bare:AllBare s.gens
def CE(outer:List Env)(P:Program)(w:World)(H:Hp)(s:Shared)(Q:VK)(u:Value)(s':Shared):Prop :=
 ∃v H',s'.os=s.os/\AllBare s'.gens/\Un (frs outer) [] H H' s.heap s'.heap/\HOk P w H' s'.heap/\RelV v u/\Q v H'
def CR(CX:CXT)(outer:List Env)(P:Program)(w:World)(H:Hp)(s:Shared)(Q:VK)(E:XK)(r:Result)(s':Shared):Prop :=
 match r with
 |.ok (.ret u)=>CE outer P w H s Q u s'
 |.ok _=>False
 |.error e=>CX outer H s E e s'
structure FnOk(P:Program)(w:World)(K:PySem.W.Frag)(mg:Str->Option Value)(base:Heap)(CX:CXT)(k:Nat)(f:Addr)(fd:FuncData)(ps:List Str)(sp:Sp):Prop where
 len:∀vs H Q E,sp vs H Q E->vs.length=ps.length
 run:∀(A:Around)(outer:List Env)(s:Shared)(H:Hp)(args:Args)(us:List Value)(vs:List V)(Q:VK)(E:XK),Room k A->Env0 P w K mg base A outer s H->BindsTo s fd args (ps.zip us)->Vals vs us->sp vs H Q E ->
  codeAny (model P w) A (.call (.ref f) args) (CR CX outer P w H s Q E) s
theorem FnOk.mono{P:Program}{w:World}{K:PySem.W.Frag}{mg:Str->Option Value}{base:Heap}{CX:CXT}{j k:Nat}{f:Addr}{fd:FuncData}{ps:List Str}{sp:Sp}(F:FnOk P w K mg base CX j f fd ps sp)(h:j<=k):
  FnOk P w K mg base CX k f fd ps sp:=⟨F.len,λA outer s H args us vs Q E hr=>F.run A outer s H args us vs Q E (hr.mono h)⟩
theorem FnOk.imp{P:Program}{w:World}{K:PySem.W.Frag}{mg:Str->Option Value}{base:Heap}{CX:CXT}{k:Nat}{f:Addr}{fd:FuncData}{ps:List Str}{sp n6:Sp}(F:FnOk P w K mg base CX k f fd ps sp)(h:∀vs H Q E,n6 vs H Q E->sp vs H Q E):FnOk P w K mg base CX k f fd ps n6 :=
 ⟨λvs H Q E q=>F.len vs H Q E (h _ _ _ _ q),λA outer s H args us vs Q E hr he hb hv hs=>F.run A outer s H args us vs Q E hr he hb hv (h _ _ _ _ hs)⟩
theorem Env0.make{P:Program}{w:World}{K:PySem.W.Frag}{mg:Str->Option Value}{base:Heap}{A:Around}{outer:List Env}{s:Shared}{H:Hp}(e:Env0 P w K mg base A outer s H)(C:Addr)(us:List Value)(kw:List (Str×Value)):
  Env0 P w K mg base (A.under (.builtin "type.__call__" ⟨.ref C::us,kw⟩)) outer s H:=⟨by first|exact e.frames|(simpa[Around.under,Code.envs,Code.isFrame,pushEnvs]using e.frames),e.mod,e.bs,e.bsz,e.funs,e.frf,e.hok,e.bare⟩
section
variable {X:Cx}{a5:List (Addr×Obj)}{σ:St}{H:Hp}{s s':Shared}
theorem Inv.env0(I:Inv X a5 σ H s):Env0 X.prog X.w X.K X.mg X.base X.A X.stack s H :=
 ⟨I.ok.frames,I.ok.mod,I.bs,U3 I.ok.bsz I.sz,I.stack,I.stkFree,I.hok,I.bare⟩
theorem Inv.after{Q:VK}{u:Value}(I:Inv X a5 σ H s)(h:CE X.stack X.prog X.w H s Q u s'):EP X a5 σ Q u s':=by
 obtain⟨v,H',os,bare,un,hok,r,q⟩:=h;obtain⟨hh,g,d,t,oH⟩:=s';obtain rfl:oH=s.os:=os;exact⟨v,H',I.call (h':=hh) (g':=g) (d':=d) (t':=t) (ch:=[]) un hok bare (λb z=>absurd z (by simp)),r,q⟩
end
def zC(sp:Sp)(bV:List V)(E:XK)(t:TA):TE:=λσ H Q=>t σ H λvs H1=>sp (vs++bV) H1 Q E
def ZM(C:Addr)(m:Str)(sp:Sp)(bV:List V)(E:XK)(ta:TE)(t:TA):TE:=λσ H Q=>ta σ H λx H1=>∃a dx fs,x=.ref a/\H1 a=some (.ins C dx fs)/\fs.lookup m=none /\
 t σ H1 λvs H2=>sp (x::(vs++bV)) H2 Q E
def J0(C:Addr)(sp:Sp)(bV:List V)(E:XK)(t:TA):TE:=λσ H Q=>t σ H λvs H1=>∀x dx,H1 x=none->H1 dx=none->dx≠x ->
 sp (.ref x::(vs++bV)) (upd (upd H1 dx (.own x)) x (.ins C dx [])) (λv H2=>v=.non/\Q (.ref x) H2) E
def Binds(K:PySem.W.Frag)(fd:FuncData)(ps:List Str)(ds:List Value):Prop :=
 ∀(s:Shared)(us:List Value),K.In s.heap->(us++ds).length=ps.length->BindsTo s fd ⟨us, []⟩ (ps.zip (us++ds))
theorem Binds.all{K:PySem.W.Frag}{fd:FuncData}{ps:List Str}(h:∀us:List Value,us.length=ps.length->bindArgs fd ⟨us, []⟩=pure (ps.zip us)):Binds K fd ps []:=λs us _ hl=>by
 rw[U2]at hl ⊢;exact .of_eq (h us hl)
def jc(CX:CXT)(X:Cx)(E:XK):Prop:=∀(a5:List (Addr×Obj))(σ:St)(H:Hp)(s:Shared)(e:Value)(s':Shared),Inv X a5 σ H s->CX X.stack H s E e s'->X.xe e s'
section
variable {X:Cx}{CX:CXT}{k:Nat}{f C:Addr}{fd:FuncData}{ps:List Str}{sp:Sp}{bV:List V}{ds:List Value}{E:XK}{x m:Str}{p pos aF:Pos}{e o:Expr}{es:List Expr}{ta:TE}{t:TA}
theorem Je{a5:List (Addr×Obj)}{σ:St}{H:Hp}{s:Shared}{Q:VK}{us:List Value}{vs:List V}(F:FnOk X.prog X.w X.K X.mg X.base CX k f fd ps sp)(hr:Room k X.A)(hb:Binds X.K fd ps ds)(hd:Vals bV ds)(hx:jc CX X E)(I:Inv X a5 σ H s)(r:Vals vs us)(h:sp (vs++bV) H Q E):wpAny (model X.prog X.w) X.A (call (.ref f) us) (EP X a5 σ Q) X.xe s:=by
 have r2:Vals (vs++bV) (us++ds):=r.append hd;have hl:(us++ds).length=ps.length:=by rw[<-r2.length];exact F.len _ _ _ _ h
 refine GZ (G5 (F.run X.A X.stack s H ⟨us, []⟩ (us++ds) (vs++bV) Q E hr I.env0 (hb s us I.kIn hl) r2 h) λr s' hq=>?_);cases r with
 |error e=>exact hx a5 σ H s e s' I hq
 |ok fl=>
  cases fl with
  |ret u=>exact I.after hq
  |next=>exact False.elim hq
  |brk=>exact False.elim hq
  |cont=>exact False.elim hq
theorem q32(F:FnOk X.prog X.w X.K X.mg X.base CX k f fd ps sp)(hr:Room k X.A)(hg:Gl X x)(hm:X.mg x=some (.ref f))(hk:W.keepIn X.K (.ref f)=true)(hb:Binds X.K fd ps ds)(hd:Vals bV ds)(hx:jc CX X E)(ha:PA X (e::es) t)(bf:(x==("__debug__" : Str))=false:=by decide)(he:starEach (e::es) X.env=(false,eval e X.env)::starEach es X.env:=by rfl)(bI:(backTo pos (starEach es X.env)).any (·.1)=false:=by rfl):
  PE X (.Call (.Name x p) (e::es) [] pos) (zC sp bV E t):=by
 intro a5 s σ H Q I h;refine GR (vU I hg hm ?_ bf);refine Dw (h₀:=X.base) I.ok.mod.kin hk (thn (ha pos a5 s σ H _ I h) λus s1 ⟨vs,H1,I1,r,q⟩=>⟨I1.kIn,?_⟩) he bI;exact Je F hr hb hd hx I1 r q
theorem q0T(F:FnOk X.prog X.w X.K X.mg X.base CX k f fd ps sp)(hr:Room k X.A)(hg:Gl X x)(hm:X.mg x=some (.ref f))(hk:W.keepIn X.K (.ref f)=true)(hb:Binds X.K fd ps ds)(hd:Vals bV ds)(hx:jc CX X E)(bf:(x==("__debug__" : Str))=false:=by decide):PE X (.Call (.Name x p) [] [] pos) (zC sp bV E tNil):=by
 intro a5 s σ H Q I h;refine GR (vU I hg hm ?_ bf);exact D6 I.kIn hk (Je (us:=[]) F hr hb hd hx I .nil h)
theorem q4j{pl:Sem Bool}(he:PE X o ta)(c:Cls X.K C)(hm:Meth X.K C m f)(F:FnOk X.prog X.w X.K X.mg X.base CX k f fd ps sp)(hr:Room k X.A)(hb:Binds X.K fd ps ds)(hd:Vals bV ds)(hx:jc CX X E)(ha:PA X (e::es) t)(dD:starEach (e::es) X.env=(false,eval e X.env)::starEach es X.env:=by rfl)(bI:(backTo pos (starEach es X.env)).any (·.1)=false:=by rfl)(ht:eval (.Call (.Attribute o m aF) (e::es) [] pos) X.env=(do
   let ov <-eval o X.env
   standAt aF.atName;let(f,first) <-holding [ov] (getMethod ov m pl)
   callWith pos f first (backTo pos (starEach (e::es) X.env)) (backToKw pos (keywordEach [] X.env))):=by rfl):
  PE X (.Call (.Attribute o m aF) (e::es) [] pos) (ZM C m sp bV E ta t):=by
 intro a5 s σ H Q I h;refine Dn (pl:=pl) (thn (he a5 s σ H _ I h) λu s1 ⟨x,H1,I1,rx,a,dx,fs,ex,ea,l,q⟩=>?_) ht;subst ex;obtain rfl:u=Value.ref a:=rx;refine xj I1 ea c hm l ?_;refine Dw (first:=[.ref a]) (h₀:=X.base) I.ok.mod.kin hm.kp (thn (ha pos a5 s1 σ H1 _ I1 q) λus s2 ⟨vs,H2,I2,r,q2⟩=>⟨I2.kIn,?_⟩) dD bI;exact Je (us:=.ref a::us) (vs:=.ref a::vs) F hr hb hd hx I2 (.cons rfl r) q2
theorem q17{pl:Sem Bool}(he:PE X o ta)(c:Cls X.K C)(hm:Meth X.K C m f)(F:FnOk X.prog X.w X.K X.mg X.base CX k f fd ps sp)(hr:Room k X.A)(hb:Binds X.K fd ps ds)(hd:Vals bV ds)(hx:jc CX X E)(ht:eval (.Call (.Attribute o m aF) [] [] pos) X.env=(do
   let ov <-eval o X.env
   standAt aF.atName;let(f,first) <-holding [ov] (getMethod ov m pl)
   callWith pos f first (backTo pos (starEach [] X.env)) (backToKw pos (keywordEach [] X.env))):=by rfl):
  PE X (.Call (.Attribute o m aF) [] [] pos) (ZM C m sp bV E ta tNil):=by
 intro a5 s σ H Q I h;refine Dn (pl:=pl) (thn (he a5 s σ H _ I h) λu s1 ⟨x,H1,I1,rx,a,dx,fs,ex,ea,l,q⟩=>?_) ht;subst ex;obtain rfl:u=Value.ref a:=rx;refine xj I1 ea c hm l ?_;exact D6 (first:=[.ref a]) I1.kIn hm.kp (Je (us:=[.ref a]) (vs:=[.ref a]) F hr hb hd hx I1 (.cons rfl .nil) q)
structure Mk(K:PySem.W.Frag)(C f:Addr):Prop where
 makes:W.makesIn K C=true
 init:W.findIn K (.ref C) "__init__" = some (some (.ref f))
 fn:W.isFn K (.ref f)=true
 kp:W.keepIn K (.ref C)=true
theorem Jd{a5:List (Addr×Obj)}{σ:St}{H:Hp}{s:Shared}{Q:VK}{us:List Value}{vs:List V}(M:Mk X.K C f)(F:FnOk X.prog X.w X.K X.mg X.base CX k f fd ps sp)(hr:Room (k+1) X.A)(hb:Binds X.K fd ps ds)(hd:Vals bV ds)(hx:jc CX X E)(I:Inv X a5 σ H s)(r:Vals vs us)(h:∀x dx,H x=none->H dx=none->dx≠x->sp (.ref x::(vs++bV)) (upd (upd H dx (.own x)) x (.ins C dx [])) (λv H2=>v=.non/\Q (.ref x) H2) E):
  wpAny (model X.prog X.w) X.A (call (.ref C) us) (EP X a5 σ Q) X.xe s:=by
 have hq:=h (s.heap.objs.size+1) s.heap.objs.size (I.hok.fresh (RE _)) (I.hok.fresh (Ux _)) (UU (Rq _));have I2:=Inv.made (C:=C) I;have r2:Vals (V.ref (s.heap.objs.size+1)::(vs++bV)) (Value.ref (s.heap.objs.size+1)::(us++ds)):=.cons rfl (r.append hd);have hl:(Value.ref (s.heap.objs.size+1)::us++ds).length=ps.length:=by
  have e:=r2.length;rw[F.len _ _ _ _ hq]at e;exact e.symm
 refine GZ (q0y (f:=f) I.kIn M.makes M.init (beq_iff_eq.mp M.fn) (G5 (F.run _ X.stack _ _ ⟨Value.ref (s.heap.objs.size+1)::us, []⟩ (Value.ref (s.heap.objs.size+1)::(us++ds)) _ _ E (hr.make C us [])
  (I2.env0.make C us []) (hb _ (Value.ref (s.heap.objs.size+1)::us) I2.kIn hl) r2 hq) λr s' dH=>?_))
 cases r with
 |error e=>exact hx a5 σ _ _ e s' I2 dH
 |ok fl=>
  cases fl with
  |ret u=>
   obtain⟨v,H',I3,rv,ev,q3⟩:=I2.after dH;subst ev;exact⟨rv,⟨V.ref (s.heap.objs.size+1),H',I3,rfl,q3⟩⟩
  |next=>exact False.elim dH
  |brk=>exact False.elim dH
  |cont=>exact False.elim dH
theorem q3m(M:Mk X.K C f)(F:FnOk X.prog X.w X.K X.mg X.base CX k f fd ps sp)(hr:Room (k+1) X.A)(hg:Gl X x)(hm:X.mg x=some (.ref C))(hb:Binds X.K fd ps ds)(hd:Vals bV ds)(hx:jc CX X E)(ha:PA X (e::es) t)(bf:(x==("__debug__" : Str))=false:=by decide)(he:starEach (e::es) X.env=(false,eval e X.env)::starEach es X.env:=by rfl)(bI:(backTo pos (starEach es X.env)).any (·.1)=false:=by rfl):
  PE X (.Call (.Name x p) (e::es) [] pos) (J0 C sp bV E t):=by
 intro a5 s σ H Q I h;refine GR (vU I hg hm ?_ bf);refine Dw (h₀:=X.base) I.ok.mod.kin M.kp (thn (ha pos a5 s σ H _ I h) λus s1 ⟨vs,H1,I1,r,q⟩=>⟨I1.kIn,?_⟩) he bI;exact Jd M F hr hb hd hx I1 r q
theorem q0Q(M:Mk X.K C f)(F:FnOk X.prog X.w X.K X.mg X.base CX k f fd ps sp)(hr:Room (k+1) X.A)(hg:Gl X x)(hm:X.mg x=some (.ref C))(hb:Binds X.K fd ps ds)(hd:Vals bV ds)(hx:jc CX X E)(bf:(x==("__debug__" : Str))=false:=by decide):PE X (.Call (.Name x p) [] [] pos) (J0 C sp bV E tNil):=by
 intro a5 s σ H Q I h;refine GR (vU I hg hm ?_ bf);exact D6 I.kIn M.kp (Jd (us:=[]) M F hr hb hd hx I .nil h)
end
structure q00(N P:List Str)(sc:Scope):Prop where
 kind:sc.kind=.function
 co:sc.isCoroutine=false
 gen:sc.isGenerator=false
 nd:N.Nodup
 pre:N.take P.length=P
 par:∀x∈P,sc.names.lookup x=some .local\/sc.names.lookup x=some .cell
 nofree:∀y∈sc.names,y.2 ≠ .free
theorem Zz{kindOf:Str->Option NameKind}{x:Str}:∀{binds:List (Str×Value)}{m:Str->Option Value},(∀v,(x,v)∉binds)->bindL kindOf binds m x=m x
 | [],_,_=>rfl
 | (n,v)::r,m,h=>by
  unfold bindL;rw[Zz λw hw=>h w (U4 _ hw)];split
  ·have:x≠n:=by rintro rfl;exact h v Di
   simp[this]
  ·rfl
theorem ZC{kindOf:Str->Option NameKind}{x:Str}:∀{binds:List (Str×Value)}{m:Str->Option Value},(∀v,(x,v)∉binds)->bindC kindOf binds m x=m x
 | [],_,_=>rfl
 | (n,v)::r,m,h=>by
  unfold bindC;rw[ZC λw hw=>h w (U4 _ hw)];split
  ·rfl
  ·have:x≠n:=by rintro rfl;exact h v Di
   simp[this]
theorem ZB{kindOf:Str->Option NameKind}{x:Str}{v:Value}:∀{P:List Str}{vs:List Value}{i:Nat}{m:Str->Option Value},P.Nodup->P[i]?=some x->vs[i]?=some v->kindOf x=some .local ->
  bindL kindOf (P.zip vs) m x=some v
 | [],_,_,_,_,h,_,_=>by simp at h
 |_::_, [],_,_,_,_,h,_=>by simp at h
 |p::P,w::vs,0,m,nd,h1,h2,hk=>by
  simp at h1 h2;subst h1;subst h2;show bindL kindOf ((p,w)::P.zip vs) m p=_;unfold bindL;rw[Zz λv hv=>(D7.mp nd).1 (Rw hv).1,GL hk];simp
 |p::P,w::vs,i+1,m,nd,h1,h2,hk=>by
  show bindL kindOf ((p,w)::P.zip vs) m x=_;unfold bindL;exact ZB (i:=i) (D7.mp nd).2 (by simpa using h1) (by simpa using h2) hk
theorem ZD{kindOf:Str->Option NameKind}{x:Str}{v:Value}:∀{P:List Str}{vs:List Value}{i:Nat}{m:Str->Option Value},P.Nodup->P[i]?=some x->vs[i]?=some v->kindOf x≠some .local ->
  bindC kindOf (P.zip vs) m x=some v
 | [],_,_,_,_,h,_,_=>by simp at h
 |_::_, [],_,_,_,_,h,_=>by simp at h
 |p::P,w::vs,0,m,nd,h1,h2,hk=>by
  simp at h1 h2;subst h1;subst h2;show bindC kindOf ((p,w)::P.zip vs) m p=_;unfold bindC;rw[ZC λv hv=>(D7.mp nd).1 (Rw hv).1,GH hk];simp
 |p::P,w::vs,i+1,m,nd,h1,h2,hk=>by
  show bindC kindOf ((p,w)::P.zip vs) m x=_;unfold bindC;exact ZD (i:=i) (D7.mp nd).2 (by simpa using h1) (by simpa using h2) hk
def start(N:List Str)(vs:List V):St:=vs.map some++List.replicate (N.length-vs.length) none
def cxOf(CX:CXT)(P:Program)(w:World)(K:PySem.W.Frag)(mg:Str->Option Value)(base:Heap)(N:List Str)(ac:Str)(scope:Scope)(f:Addr)(cd:Value)(A:Around)(outer:List Env)(s:Shared)(H:Hp)(E:XK):Cx where
 prog:=P
 w:=w
 K:=K
 mg:=mg
 base:=base
 A:=A.deeper (envOfC ac scope s.heap.objs.size f cd)
 N:=N
 s₀:=s
 H₀:=H
 env:=envOfC ac scope s.heap.objs.size f cd
 outer:=outer
 stack:=envOfC ac scope s.heap.objs.size f cd::outer
 ex:=[]
 calm:=true
 fn:=λ_=>true
 pn:=[]
 xe:=λe s'=>wpAny (model P w) (A.deeper (envOfC ac scope s.heap.objs.size f cd)) (leaving (envOfC ac scope s.heap.objs.size f cd) e) (λ_ fo=>CX outer H s E e fo) (λe' fo=>CX outer H s E e' fo) s'
theorem JR{sc:Scope}{n:Nat}{x:Str}(h:sc.names.lookup x=some .cell):∃c,(cellsFrom n sc.names []).lookup x=some c:=by
 have q:=Rs sc.names n [] (.inl h);exact Ri.mp q
theorem WB{CX:CXT}{P:Program}{w:World}{K:PySem.W.Frag}{mg:Str->Option Value}{base:Heap}{N ps:List Str}{ac:Str}{scope:Scope}{f:Addr}{cd:Value}{A:Around}{outer:List Env}{s s1:Shared}{H:Hp}{E:XK}{us:List Value}{vs:List V}(S:q00 N ps scope)(hd:A.handled=none)(e0:Env0 P w K mg base A outer s H)(hl:vs.length=ps.length)(r:Vals vs us)(x:InCallC s s.heap.objs.size (bindL (envOfC ac scope s.heap.objs.size f cd).kindOf (ps.zip us) λ_=>none) (cellsFrom (s.heap.objs.size+1) scope.names []) (bindC (envOfC ac scope s.heap.objs.size f cd).kindOf (ps.zip us) λ_=>none) s1):
  Inv (cxOf CX P w K mg base N ac scope f cd A outer s H E) [] (start N vs) H s1:=by
 have bI:ps.length<=N.length:=by have:=GM List.length S.pre;rw[Dj]at this;lia
 obtain⟨h1,tk,rfl,hk⟩:=x.done;have gG:∀b:Addr,b∉(cxOf CX P w K mg base N ac scope f cd A outer s H E).ex:=λb z=>absurd (show b∈([]:List Addr)from z) (by simp);refine⟨⟨e0.mod,S.kind,rfl,rfl,Ux _,λy z c h1 h2=>?_,λy hy=>?_,λy c _ h=>?_,λ_=>hd,Around.frames_deeper e0.frames,.inr ⟨rfl,rfl⟩,λb z=>absurd z (gG b),e0.bs,e0.bsz,λb _ _=>gG b,λb z=>absurd z (gG b),e0.funs,e0.frf⟩,
  rfl,e0.bare,Un.kept hk,⟨_,x.toInCall.ns,λi y v h1 h2 h3=>?_⟩,λy c h=>⟨_,x.cell y c h⟩,e0.hok.fresh (Ux _),λy c h=>?_,λp hp=>absurd (show p∈([]:List (Addr×Obj))from hp) (by simp),e0.hok.kept hk,?_⟩
 ·exact name_of_addr x.apart (PySem.mem_of_lookup h1) (PySem.mem_of_lookup h2)
 ·have hy:scope.names.lookup y=some .cell\/scope.names.lookup y=some .free:=hy
  rcases hy with hy|hy
  ·exact JR hy
  ·exact absurd rfl (S.nofree _ (PySem.mem_of_lookup hy))
 ·exact U1 (x.above y c (PySem.mem_of_lookup h))
 ·have hi:i<vs.length:=by
   unfold start at h2;by_cases hi:i<vs.length
   ·exact hi
   ·rw[UM (by simpa using hi)]at h2
    rw[DJ]at h2;split at h2<;>cases h2
  have ha:vs[i]?=some v:=by
   unfold start at h2;rw[Uz (by simpa using hi),UW]at h2;cases e:vs[i]? with
   |none=>rw[e]at h2;cases h2
   |some a=>rw[e]at h2;cases h2;rfl
  obtain⟨u,hu,rv⟩:=r.get ha;have hp:ps[i]?=some y:=by
   rw[<-S.pre,Rj (by lia)];exact h1
  have n8:ps.Nodup:=by rw[<-S.pre];exact S.nd.sublist (List.take_sublist _ _)
  refine⟨u,rv,?_⟩;rcases S.par y (Uy hp)with k|k
  ·exact .inl ⟨k,ZB n8 hp hu k⟩
  ·obtain⟨c,e⟩:=JR (n:=s.heap.objs.size+1) k
   refine .inr ⟨.inl k,c,e,?_⟩;have q:=x.cell y c e;rw[ZD n8 hp hu (by show scope.names.lookup y≠_;rw[k];decide)]at q;exact q
 ·exact e0.hok.fresh (U1 (x.above y c (PySem.mem_of_lookup h)))
 ·unfold start
  show _=N.length;rw[Uu,Uw,Rx];lia
theorem q5V{CX:CXT}{P:Program}{w:World}{K:PySem.W.Frag}{mg:Str->Option Value}{base:Heap}{k:Nat}{f:Addr}{name ac:Str}{params:Arguments}{body:List Stmt}{scope:Scope}{dV kV bJ pm ae ct oc:Value}{an od:Option Addr}{dI:Array (Option Value)}{N ps:List Str}{sp:Sp}(lk:K.lookup f=some ⟨oc,od,.func (W.fnOf name ac params body scope dV kV bJ pm an ae ct),dI⟩)(di:W.codeIn K ae ac=true)(S:q00 N ps scope)(len:∀vs H Q E,sp vs H Q E->vs.length=ps.length)(aA:∀(A:Around)(outer:List Env)(s:Shared)(H:Hp)(vs:List V)(Q:VK)(E:XK),Room k (A.deeper (envOfC ac scope s.heap.objs.size f ae))->sp vs H Q E ->
   ∃t,PSs (cxOf CX P w K mg base N ac scope f ae A outer s H E) body t/\t { nx:=λ_ H'=>Q .non H',rt:=Q } (start N vs) H):
  FnOk P w K mg base CX (k+1) f (W.fnOf name ac params body scope dV kV bJ pm an ae ct) ps sp:=by
 refine⟨len,λA outer s H args us vs Q E hr e0 hb r dw=>?_⟩;have hl:=len _ _ _ _ dw;have KX:K.In s.heap:=e0.mod.kin.keeps λb o e=>(e0.bs b o e).1;have oJ:s.heap.NoLimit:=e0.mod.nolimit.keeps λb o e=>(e0.bs b o e).1;have gH:∀y∈ps.zip us,scope.names.lookup y.1=some .local\/(scope.names.lookup y.1=some .cell/\((cellsFrom (s.heap.objs.size+1) scope.names []).lookup y.1).isSome=true):=λ⟨n,v⟩ hy=>by
  rcases S.par n (Rw hy).1 with q|q
  ·exact .inl q
  ·exact .inr ⟨q,Rs _ _ _ (.inl q)⟩
 refine codeAny_call_function hr.depth (KX _ _ lk) rfl S.co S.gen rfl (W.codeRec_of KX di) (hb _ _ _ _ ?_);refine wpAny_newFunctionEnv_cells S.kind gH λenv he s1 x=>?_;subst he;refine⟨oJ.keeps x.toInCall.keep,codeAny_func ?_⟩;obtain⟨t,ht,hq⟩:=aA A outer s H vs Q E (hr.deeper _) dw;have I:Inv (cxOf CX P w K mg base N ac scope f ae A outer s H E) [] (start N vs) H s1:=WB S hr.hd e0 hl r x;refine GF (ht [] s1 (start N vs) H _ I hq) (λfl s' hs=>?_) λe s' hs=>hs;have fin:∀{ah:St}{H':Hp}{v:V}{u:Value},Inv (cxOf CX P w K mg base N ac scope f ae A outer s H E) [] ah H' s'->RelV v u->Q v H'->CE outer P w H s Q u s' :=
  λ{ah H' v u} J rv q=>⟨v,H',J.os,J.bare,J.base,J.hok,rv,q⟩
 cases fl with
 |ret u=>
  obtain⟨v,ah,H',J,rv,q⟩:=hs;exact fin J rv q
 |next=>
  obtain⟨ah,H',J,q⟩:=hs;exact fin (v:=V.non) (u:=Value.none) J rfl q
 |brk=>
  obtain⟨_,_,_,q⟩:=hs;exact False.elim q
 |cont=>
  obtain⟨_,_,_,q⟩:=hs;exact False.elim q
section
variable {X:Cx}{x:Str}{p pos:Pos}{e:Expr}{es:List Expr}{t:TA}{id T:String}{r:List V->Hp->VK->Prop}
def tCB(r:List V->Hp->VK->Prop)(t:TA):TE:=λσ H Q=>t σ H λvs H1=>r vs H1 Q
end
end L2
namespace HT
open PySem PyProof.Rows
section
variable {prog:Program}{w:World}{A:Around}{E:Value->Shared->Prop}{s:Shared}
theorem cat_tup{t b:Addr}{vs ws:List Value}{Q:Value->Shared->Prop}(ht:IsTup s.heap t vs.toArray)(hb:IsTup s.heap b ws.toArray)(hv:vs≠[])(h1:ws=[]->Q (.ref t) s)(h2:ws≠[]->Q (.ref s.heap.objs.size) { s with heap:=s.heap.push { cls:=.type "tuple", data:=.seq (vs++ws).toArray } })(hsz:vs.length+ws.length<=sizeLine):wpAny (model prog w) A (binaryOp .Add (.ref t) (.ref b)) Q E s:=by
 obtain⟨⟨cls,dd,data,sl⟩,ho,hc,n,hd⟩:=id ht;obtain⟨⟨cls2,n9,data2,eP⟩,iz,gf,n2,cP⟩:=id hb;simp only at hc hd gf cP;subst hc hd gf cP;have e:vs.toArray++ws.toArray=(vs++ws).toArray:=by simp
 by_cases hw:ws=[]
 ·exact concat_meets ⟨_,ho,rfl⟩ ⟨_,iz,rfl⟩ noFill_tuple_add seq_tuple_add PySem.F.slot_tuple_add PySem.F.entry_tuple_add (PySem.F.args_tuple_add_2 _ _)
   (tuple_addW1 t b vs.toArray ws.toArray n n2 dd n9 sl eP (by simpa using hv) (by simp[hw])) ⟨ho,iz,h1 hw⟩
 ·refine concat_meets ⟨_,ho,rfl⟩ ⟨_,iz,rfl⟩ noFill_tuple_add seq_tuple_add PySem.F.slot_tuple_add PySem.F.entry_tuple_add (PySem.F.args_tuple_add_2 _ _)
   (tuple_addW2 t b vs.toArray ws.toArray n n2 dd n9 sl eP (by simpa using hv) (by simpa using hw) (by rw[UF,UF];exact hsz)) ⟨ho,iz,?_⟩
  rw[e];exact h2 hw
def sIx(n d:Nat):Option Int->Nat
 |none=>d
 |some v=>if v<0 then(v+(n:Int)).toNat else min v.toNat n
theorem sIx_nat(n d k:Nat):sIx n d (some (k:Int))=min k n:=by
 show(if(k:Int)<0 then((k:Int)+(n:Int)).toNat else min (k:Int).toNat n)=min k n;rw[GH (by lia),Int.toNat_natCast]
theorem q66(n d:Nat)(hd:d<=n)(o:Option Int):sIx n d o<=n:=by
 cases o with
 |none=>exact hd
 |some v=>
  show(if v<0 then(v+(n:Int)).toNat else min v.toNat n)<=n;by_cases hv:v<0
  ·rw[GL hv];lia
  ·rw[GH hv];exact Nat.min_le_right _ _
theorem Ge(v:Int)(n d:Nat):(if v<0 then max (v+(n:Int)) 0 else min v (n:Int))=((sIx n d (some v):Nat):Int):=by
 show(if v<0 then max (v+(n:Int)) 0 else min v (n:Int))=(((if v<0 then(v+(n:Int)).toNat else min v.toNat n):Nat):Int);by_cases hv:v<0
 ·simp only[GL hv];lia
 ·simp only[GH hv];lia
theorem KG(lo hi:Option Int)(n:Nat):Builtin.Slice.sliceAdjust lo hi 1 (n:Int)=(((sIx n 0 lo:Nat):Int),((sIx n n hi:Nat):Int)):=by
 have h1:¬((1:Int)<0):=by lia
 unfold Builtin.Slice.sliceAdjust;simp only[h1,G2];refine Prod.ext ?_ ?_
 ·cases lo with
  |none=>rfl
  |some v=>exact Ge v n 0
 ·cases hi with
  |none=>rfl
  |some v=>exact Ge v n n
theorem Kf(i j:Nat):Builtin.Slice.slicePlaces (i:Int) (j:Int) 1=j-i:=by
 unfold Builtin.Slice.slicePlaces;have h1:(1:Int)>0:=by lia
 simp only[h1,Uc,Int.ediv_one];split<;>lia
theorem Qi{v:Value}{o:Option Int}{Q:Option Int->Shared->Prop}(p:IsPart v o)(h:Q o s):wpAny (model prog w) A (Builtin.Slice.slicePartIndex v) Q E s:=by
 cases p with
 |none=>exact slicePart_none h
 |int i t=>exact slicePart_int h
theorem jK{sl:Addr}{vl vu:Value}{lo hi:Option Int}{n:Nat}{Q:Int×Int×Nat->Shared->Prop}(hs:s.heap.IsSliceOf sl vl vu .none)(pl:IsPart vl lo)(pu:IsPart vu hi)(h:Q (((sIx n 0 lo:Nat):Int),1,sIx n n hi-sIx n 0 lo) s):wpAny (model prog w) A (Builtin.Slice.sliceApplied (.ref sl) (pure (n:Int))) Q E s:=by
 obtain⟨os,gI,lg,dZ⟩:=id hs;unfold Builtin.Slice.sliceApplied Builtin.Slice.sliceFields;refine GD (GD (G8 gI dZ (x:=vl) rfl (GD (G8 gI dZ (x:=vu) rfl (GD (G8 gI dZ (x:=.none) rfl (GE ?_)))))));refine GD (slicePart_none ?_);show wpAny _ _ (if((1:Int)==0)=true then _ else _) _ _ s;rw[GH (by decide)];refine GD (Qi pl (GD (Qi pu (GD (GE ?_)))));show wpAny _ _ (match Builtin.Slice.sliceAdjust lo hi 1 (n:Int) with|(lo,hi)=>pure (lo,(1:Int),Builtin.Slice.slicePlaces lo hi 1)) _ _ s;rw[KG lo hi n];show wpAny _ _ (pure (((sIx n 0 lo:Nat):Int),(1:Int),Builtin.Slice.slicePlaces ((sIx n 0 lo:Nat):Int) ((sIx n n hi:Nat):Int) 1)) _ _ s;rw[Kf];exact GE h
theorem q0u(xs:Array Value)(i k:Nat):((List.range k).filterMap λ(m:Nat)=>xs[((i:Int)+(m:Int)*1).toNat]?).toArray=((xs.toList.drop i).take k).toArray:=by
 have e:(λ(m:Nat)=>xs[((i:Int)+(m:Int)*1).toNat]?)=λm=>xs[i+m]?:=by
  funext m;have:((i:Int)+(m:Int)*1).toNat=i+m:=by lia
  rw[this]
 rw[e];have:=pick_run xs i k;rw[List.filterMap_map]at this;have e2:((λx=>xs[x]?) ∘ λx=>i+x)=λm=>xs[i+m]?:=rfl;rw[e2]at this;rw[this]
theorem getItem_tuple_cut{t sl:Addr}{items:Array Value}{vl vu:Value}{lo hi:Option Int}{Q:Value->Shared->Prop}(ht:IsTup s.heap t items)(hs:s.heap.IsSliceOf sl vl vu .none)(pl:IsPart vl lo)(pu:IsPart vu hi)(hw:¬(sIx items.size 0 lo=0/\sIx items.size items.size hi=items.size))(h:Q (.ref s.heap.objs.size) { s with heap:=s.heap.push { cls:=.type "tuple", data:=.seq ((items.toList.drop (sIx items.size 0 lo)).take (sIx items.size items.size hi-sIx items.size 0 lo)).toArray } })(hsz:items.size<=sizeLine):wpAny (model prog w) A (getItem (.ref t) (.ref sl)) Q E s:=by
 have dj:sizeOk (.seq ((items.toList.drop (sIx items.size 0 lo)).take (sIx items.size items.size hi-sIx items.size 0 lo)).toArray):=by
  show((items.toList.drop (sIx items.size 0 lo)).take (sIx items.size items.size hi-sIx items.size 0 lo)).toArray.size<=sizeLine;rw[UF,Dj,DC,Dm];lia
 have hj:sIx items.size items.size hi<=items.size:=q66 _ _ (Ux _) hi;obtain⟨os,gI,lg,dZ⟩:=id hs;have oM:s.TypeIs (.ref sl) "slice" := ⟨os,gI,lg⟩;unfold getItem
 try with_reducible refine GK ?_
 first|refine GD (GE ?_)|skip
 refine GD (wpAny_sequenceKey ht.typeIs (by decide) ?_);refine GD (wpAny_callSpecial?_slot (name:=Str.ofString "__getitem__") ht.typeIs PyProof.Rows.slot_tuple_getitem
  (Uk PyProof.Rows.slot_tuple_getitem ht.typeIs entry_tuple_getitem ?_ (args_tuple_getitem _ _)))
 show wpAny _ _ (Builtin.Tuple.tupleItemsOf (.ref t) >>= _) _ _ s;refine GD (tupleItemsOf_ ht ?_);refine GD (wpAny_typeOf oM ?_);rw[GL (by decide)];refine GD (jK hs pl pu ?_);have iA:¬((((sIx items.size 0 lo:Nat):Int)==0&&(1:Int)==1&&(sIx items.size items.size hi-sIx items.size 0 lo)==items.size)=true):=by
  intro q;rw[Df,Df]at q;have q1:((sIx items.size 0 lo:Nat):Int)=0:=eq_of_beq q.1.1;have q2:sIx items.size items.size hi-sIx items.size 0 lo=items.size:=eq_of_beq q.2;exact hw ⟨by lia,by lia⟩
 show wpAny _ _ (if(((sIx items.size 0 lo:Nat):Int)==0&&(1:Int)==1&&(sIx items.size items.size hi-sIx items.size 0 lo)==items.size)=true then _ else _) _ _ s;rw[GH iA,q0u]
 first
  |exact GD (m:=Builtin.Tuple.tupleExact _) (GP (GE ⟨_,rfl,GE h⟩) dj)
  |exact GD (m:=Builtin.Tuple.tupleExact _) (GP (GD (GE (GE ⟨_,rfl,GE h⟩))) dj)
  |exact GD (GD (m:=Builtin.Tuple.tupleExact _) (GP (GE (GE ⟨_,rfl,GE h⟩)) dj))
  |exact GD (GD (m:=Builtin.Tuple.tupleExact _) (GP (GE ⟨_,rfl,GE h⟩) dj))
end
end HT
namespace L2
open PySem PySem.Spec PyProof.Rows
abbrev TO:=St->Hp->(Option Int->Hp->Prop)->Prop
def PO(X:Cx)(e:Option Expr)(t:TO):Prop :=
 ∀(a5:List (Addr×Obj))(s:Shared)(σ:St)(H:Hp)(Q:Option Int->Hp->Prop),Inv X a5 σ H s->t σ H Q ->
  wpAny (model X.prog X.w) X.A (evalPart e X.env) (λu s'=>∃o H',Inv X a5 σ H' s'/\IsPart u o/\Q o H') X.xe s
def zH:TO:=λ_ H Q=>Q none H
def VU(t:TE):TO:=λσ H Q=>t σ H λx H1=>∃i,x=.int i/\Q (some i) H1
section
variable {X:Cx}{e:Expr}{te:TE}{lo hi:Option Expr}{tl th:TO}{pos p2:Pos}
theorem q3y:PO X none zH:=by
 intro a5 s σ H Q I h;rw[evalPart_none];exact GE ⟨none,H,I,.none,h⟩
def SlR(X:Cx)(r:V->Option Int->Option Int->Hp->VK->Prop):Prop :=
 ∀(a5:List (Addr×Obj))(s:Shared)(σ:St)(H:Hp)(x:V)(v vl vu:Value)(lo hi:Option Int)(sl:Addr)(Q:VK),Inv X a5 σ H s->RelV x v->s.heap.IsSliceOf sl vl vu .none->IsPart vl lo->IsPart vu hi->r x lo hi H Q ->
  ∃T id,typeLookup (.type T) "__getitem__" = pure (some (.builtin id))/\s.TypeIs v T/\wpAny (model X.prog X.w) X.A (getItem v (.ref sl)) (EP X a5 σ Q) X.xe s
def tSl(r:V->Option Int->Option Int->Hp->VK->Prop)(te:TE)(tl th:TO):TE:=λσ H Q=>te σ H λx H1=>tl σ H1 λl H2=>th σ H2 λu H3=>r x l u H3 Q
def cutV(xs:List V)(lo hi:Option Int):List V:=(xs.drop (HT.sIx xs.length 0 lo)).take (HT.sIx xs.length xs.length hi-HT.sIx xs.length 0 lo)
theorem kR(xs:List V)(lo hi:Option Int):(cutV xs lo hi).length<=xs.length:=by
 unfold cutV;rw[Dj,DC];lia
def rSlT(K:PySem.W.Frag):V->Option Int->Option Int->Hp->VK->Prop:=λx lo hi H Q=>∃a xs,x=.ref a/\SqT K H a xs /\
 ¬(HT.sIx xs.length 0 lo=0/\HT.sIx xs.length xs.length hi=xs.length)/\∀p,H p=none->Q (.ref p) (upd H p (.tup (cutV xs lo hi)))
theorem q6e:SlR X (rSlT X.K):=by
 intro a5 s σ H x v vl vu lo hi sl Q I rx hs pl pu h;obtain⟨a,xs,rfl,hx,hw,q⟩:=h;cases rx;obtain⟨its,r,ht,hz⟩:=I.tuple hx;have aw:its.toArray.size=xs.length:=by rw[UF];exact r.length.symm
 refine⟨"tuple", _,PyProof.Rows.slot_tuple_getitem.lookup,ht.typeIs,?_⟩;refine HT.getItem_tuple_cut ht hs pl pu (by rw[aw];exact hw) ?_ (by rw[aw];exact hz);rw[aw];refine⟨.ref s.heap.objs.size,_,I.laid (t':=s.toks) (o:=.tup (cutV xs lo hi)) (λb ob q=>Heap.get?_push_of_some _ q) (Ux _) ?_,rfl,q _ (I.hok.fresh (Ux _))⟩;exact⟨U3 (kR xs lo hi) hz,_,(r.drop (HT.sIx xs.length 0 lo)).take (HT.sIx xs.length xs.length hi-HT.sIx xs.length 0 lo),IsTup.new _ _⟩
def q3h(K:PySem.W.Frag):R2:=λx y H Q=>∃a b xs ys,x=.ref a/\y=.ref b/\SqT K H a xs/\SqT K H b ys/\xs≠[]/\xs.length+ys.length<=sizeLine /\
 (ys=[]->Q (.ref a) H)/\(ys≠[]->∀p,H p=none->Q (.ref p) (upd H p (.tup (xs++ys))))
theorem Vals.nil_iff{xs:List V}{us:List Value}(r:Vals xs us):us=[]↔xs=[]:=by
 cases r with
 |nil=>simp
 |cons _ _=>simp
theorem q3k:OpR X (binaryOp .Add) (q3h X.K):=by
 intro a5 s σ H x y v u Q I rx ry h;obtain⟨a,b,xs,ys,rfl,rfl,ha,hb,hx,hz,q1,q2⟩:=h;cases rx;cases ry;obtain⟨its,r1,p1,_⟩:=I.tuple ha;obtain⟨bW,r2,p2,_⟩:=I.tuple hb;refine HT.cat_tup p1 p2 (λz=>hx (r1.nil_iff.mp z)) (λz=>⟨.ref a,H,I,rfl,q1 (r2.nil_iff.mp z)⟩) (λz=>?_) (by rw[<-r1.length, <-r2.length];exact hz);refine⟨.ref s.heap.objs.size,_,I.laid (t':=s.toks) (o:=.tup (xs++ys)) (λb ob q=>Heap.get?_push_of_some _ q) (Ux _) ?_,rfl,q2 (λw=>z (r2.nil_iff.mpr w)) _ (I.hok.fresh (Ux _))⟩;exact⟨by rw[Uu];exact hz,_,r1.append r2,IsTup.new _ _⟩
end
def ixN(n:Nat)(i:Int):Option Nat:=if 0<=i then(if i<n then some i.toNat else none) else if -(n:Int)<=i then some (i+n).toNat else none
def atI{α:Type}(xs:List α)(i:Int):Option α:=(ixN xs.length i).bind λj=>xs[j]?
theorem Ww{n:Nat}{i:Int}{j:Nat}(h:ixN n i=some j):seqIndex? i n=some j/\j<n /\ -(n:Int)<=i/\i<n:=by
 unfold ixN at h;by_cases h0:0<=i
 ·rw[GL h0]at h
  by_cases h1:i<n
  ·rw[GL h1]at h
   have e:i.toNat=j:=Option.some.inj h;exact⟨by rw[seqIndex_of h0 h1,e],by lia,by lia,h1⟩
  ·rw[GH h1]at h;cases h
 ·rw[GH h0]at h
  by_cases h1 : -(n:Int)<=i
  ·rw[GL h1]at h
   have e:(i+n).toNat=j:=Option.some.inj h;exact⟨by rw[seqIndex_neg (by lia) h1,e],by lia,h1,by lia⟩
  ·rw[GH h1]at h;cases h
theorem Gu{α:Type}{xs:List α}{i:Int}{v:α}(h:atI xs i=some v):∃j,seqIndex? i xs.length=some j/\xs[j]?=some v/\j<xs.length /\ -(xs.length:Int)<=i/\i<xs.length:=by
 unfold atI at h;cases e:ixN xs.length i with
 |none=>rw[e]at h;cases h
 |some j=>
  rw[e]at h;obtain⟨h1,h2,h3,h4⟩:=Ww e;exact⟨j,h1,h,h2,h3,h4⟩
theorem zd{α:Type}{xs:List α}{j:Nat}{v:α}(h:xs[j]?=some v):atI xs (j:Int)=some v:=by
 have hj:j<xs.length:=(Us.mp h).1;have e:ixN xs.length (j:Int)=some j:=by
  unfold ixN;rw[GL (by lia),GL (by lia)];simp
 unfold atI;rw[e];exact h
def Gv(b:Expr):Prop:=∀o i,subscripted b false o i=operate [o,i] (getItem o i)
def IxR(X:Cx)(r:R2):Prop :=
 ∀(value slice:Expr)(a5:List (Addr×Obj))(s:Shared)(σ:St)(H:Hp)(x y:V)(v u:Value)(Q:VK),Inv X a5 σ H s->RelV x v->RelV y u->r x y H Q ->
  subscripted slice false v u=operate [v,u] (getItem v u)->wpAny (model X.prog X.w) X.A (subscriptTail value slice v u) (EP X a5 σ Q) X.xe s
def MtR(X:Cx)(id:String)(r:V->List V->Hp->VK->Prop):Prop :=
 ∀(a5:List (Addr×Obj))(s:Shared)(σ:St)(H:Hp)(x:V)(xs:List V)(v:Value)(us:List Value)(Q:VK),Inv X a5 σ H s->RelV x v->Vals xs us->r x xs H Q ->
  wpAny (model X.prog X.w) X.A (call (.builtin id) (v::us)) (EP X a5 σ Q) X.xe s
section
variable {X:Cx}{a b:Expr}{ta tb:TE}{pos:Pos}
theorem IxR.or{r r':R2}(h:IxR X r)(h':IxR X r'):IxR X (λx y H Q=>r x y H Q\/r' x y H Q):=by
 intro value slice a5 s σ H x y v u Q I rx ry q hs;rcases q with q|q
 ·exact h value slice a5 s σ H x y v u Q I rx ry q hs
 ·exact h' value slice a5 s σ H x y v u Q I rx ry q hs
def rIxL(K:PySem.W.Frag):R2:=λx y H Q=>∃p xs i v,x=.ref p/\y=.int i/\SqL K H p xs/\atI xs i=some v/\Q v H
def rIxT(K:PySem.W.Frag):R2:=λx y H Q=>∃p xs i v,x=.ref p/\y=.int i/\SqT K H p xs/\atI xs i=some v/\Q v H
theorem q30:IxR X (rIxL X.K):=by
 intro value slice a5 s σ H x y v u Q I rx ry h hs;obtain⟨p,xs,i,z,rfl,rfl,hq,he,q⟩:=h;cases rx;obtain⟨t,rfl⟩:=ry;obtain⟨its,r,pl,hz⟩:=I.list hq;obtain⟨j,h1,h2,h3,h4,h5⟩:=Gu he;obtain⟨w,ew,dn⟩:=r.get h2;have hl:=r.length;have hn:=Jt;have fin:EP X a5 σ Q w s:=⟨z,H,I,dn,q⟩;by_cases h0:0<=i
 ·have hj:i.toNat=j:=by
   rw[seqIndex_of h0 h5]at h1;exact Option.some.inj h1
  exact item_listR pl.isList h0 (by lia) (by rw[hj];simpa using ew) fin hs
 ·have hj:(i+(its.toArray.size:Int)).toNat=j:=by
   rw[seqIndex_neg (by lia) h4]at h1;rw[UF, <-hl];exact Option.some.inj h1
  exact subscriptTail_builtinR (x:=w) pl.isList.typeIs slot_list_getitem.lookup
   (wpAny_getItem_list_neg (Q:=λr s'=>r=w/\EP X a5 σ Q r s') pl.isList (by lia) (by rw[UF]<;>lia) (by lia) (by rw[hj];simpa using ew) ⟨rfl,fin⟩) hs
theorem q6n:IxR X (rIxT X.K):=by
 intro value slice a5 s σ H x y v u Q I rx ry h hs;obtain⟨p,xs,i,z,rfl,rfl,hq,he,q⟩:=h;cases rx;obtain⟨t,rfl⟩:=ry;obtain⟨its,r,pl,hz⟩:=I.tuple hq;obtain⟨j,h1,h2,h3,h4,h5⟩:=Gu he;obtain⟨w,ew,dn⟩:=r.get h2;have hl:=r.length;have hn:=Jt;have fin:EP X a5 σ Q w s:=⟨z,H,I,dn,q⟩;exact subscriptTail_builtinR (x:=w) pl.typeIs slot_tuple_getitem.lookup
  (getItem_tuple (j:=j) (Q:=λr s'=>r=w/\EP X a5 σ Q r s') pl (by lia) (by lia) (by rw[UF, <-hl];exact h1) (by simpa using ew) ⟨rfl,fin⟩) hs
theorem Kt(its:List Value)(n j:Nat)(u:Value):Obj.mapSeq (·.setIfInBounds j u) { cls:=.type "list", data:=.seq its.toArray n }={ cls:=.type "list", data:=.seq (its.set j u).toArray n }:=by
 simp[Obj.mapSeq]
theorem Inv.lst{a5:List (Addr×Obj)}{σ:St}{H:Hp}{s:Shared}{p:Addr}{xs:List V}(I:Inv X a5 σ H s)(h:H p=some (.lst xs)):
  ∃(its:List Value)(n:Nat),Vals xs its/\s.heap.get? p=some { cls:=.type "list", data:=.seq its.toArray n }/\xs.length<=sizeLine:=by
 obtain⟨z,its,n,r,e⟩:=I.hok p _ h;exact⟨its,n,r,e,z⟩
theorem Inv.lstUpd{a5:List (Addr×Obj)}{σ:St}{H:Hp}{s:Shared}{p:Addr}{xs ys:List V}{its its':List Value}{n n':Nat}{f:Obj->Obj}(I:Inv X a5 σ H s)(h:H p=some (.lst xs))(ho:s.heap.get? p=some { cls:=.type "list", data:=.seq its.toArray n })(hf:f { cls:=.type "list", data:=.seq its.toArray n }={ cls:=.type "list", data:=.seq its'.toArray n' })(r:Vals ys its')(hz:ys.length<=sizeLine)(t:Nat):
  Inv X a5 σ (upd H p (.lst ys)) { s with heap:=s.heap.update p f,toks:=t }:=by
 have e:(s.heap.update p f).get? p=some { cls:=.type "list", data:=.seq its'.toArray n' }:=by
  rw[Heap.get?_update_self f ho (by rw[hf]<;>rfl),hf]
 refine I.write (x:=p) (e:=p) (by rw[h];trivial) (.inl rfl) (λb u hb q=>(Heap.get?_update_other _ _ (Ne.symm hb)).trans q) ⟨_,e⟩ ?_;exact⟨hz,its',n',r,e⟩
def q2W:V->V->V->Hp->(Hp->Prop)->Prop:=λo i v H Q=>∃p xs k j,o=.ref p/\i=.int k/\H p=some (.lst xs)/\ixN xs.length k=some j/\Q (upd H p (.lst (xs.set j v)))
theorem qQ:PSet X q2W:=by
 intro a5 s σ H o i v ov iv u Q I ro ri rv h;obtain⟨p,xs,k,j,rfl,rfl,hp,hj,q⟩:=h;cases ro;obtain⟨t,rfl⟩:=ri;obtain⟨its,n,r,ho,hz⟩:=I.lst hp;obtain⟨h1,h2,h3,h4⟩:=Ww hj;have hl:=r.length;have hn:=Jt;have I':Inv X a5 σ (upd H p (.lst (xs.set j v))) { s with heap:=s.heap.update p (Obj.mapSeq (·.setIfInBounds j u)) } :=
  I.lstUpd hp ho (Kt its n j u) (r.set rv j) (by rw[UB];exact hz) s.toks
 by_cases h0:0<=k
 ·have hk:k.toNat=j:=by
   rw[seqIndex_of h0 h4]at h1;exact Option.some.inj h1
  exact W.ki_setAt ho h0 (by lia) (by rw[UF, <-hl];exact h4) (by rw[hk];exact⟨_,I',q⟩)
 ·have hk:(k+(its.toArray.size:Int)).toNat=j:=by
   rw[seqIndex_neg (by lia) h3]at h1;rw[UF, <-hl];exact Option.some.inj h1
  exact W.ki_setBack ho (by lia) (by rw[UF, <-hl];exact h3) (by lia) (by rw[hk];exact⟨_,I',q⟩)
theorem V1(lo hi:Option Int)(n:Nat):(sliceBounds lo hi none n).1=((HT.sIx n 0 lo:Nat):Int)/\(sliceBounds lo hi none n).2.1=((HT.sIx n n hi:Nat):Int)/\(sliceBounds lo hi none n).2.2=1:=by
 refine⟨?_,?_,rfl⟩
 ·cases lo with
  |none=>simp[sliceBounds,HT.sIx]
  |some i=>
   simp only[sliceBounds,HT.sIx,Option.getD_none,show(1:Int)>0 by decide,Uc];by_cases h:i<0
   ·simp only[h,Uc]<;>lia
   ·simp only[h,G2]<;>lia
 ·cases hi with
  |none=>simp[sliceBounds,HT.sIx]
  |some i=>
   simp only[sliceBounds,HT.sIx,Option.getD_none,show(1:Int)>0 by decide,Uc];by_cases h:i<0
   ·simp only[h,Uc]<;>lia
   ·simp only[h,G2]<;>lia
theorem QQ(its:List Value)(lo hi:Option Int):slicePick its.toArray lo hi none=((its.drop (HT.sIx its.length 0 lo)).take (HT.sIx its.length its.length hi-HT.sIx its.length 0 lo)).toArray:=by
 obtain⟨h1,h2,h3⟩:=V1 lo hi its.toArray.size;unfold slicePick;rw[h1,h2,h3];simp only[sliceRange_one,pick_run,UF]<;>rfl
def rSlL(K:PySem.W.Frag):V->Option Int->Option Int->Hp->VK->Prop:=λx lo hi H Q=>∃a xs,x=.ref a/\SqL K H a xs/\∀p,H p=none->Q (.ref p) (upd H p (.lst (cutV xs lo hi)))
theorem q3c:SlR X (rSlL X.K):=by
 intro a5 s σ H x v vl vu lo hi sl Q I rx hs pl pu h;obtain⟨a,xs,rfl,hx,q⟩:=h;cases rx;obtain⟨its,r,ht,hz⟩:=I.list hx;have aw:=r.length;refine⟨"list", _,slot_list_getitem.lookup,ht.isList.typeIs,?_⟩;refine wpAny_getItem_list_slice ht.isList hs pl pu .none (by simp) ?_ (by rw[UF]<;>lia);rw[QQ, <-aw];refine⟨.ref s.heap.objs.size,_,I.laid (t':=s.toks) (o:=.lst (cutV xs lo hi)) (λb ob q=>Heap.get?_push_of_some _ q) (Ux _) ?_,rfl,q _ (I.hok.fresh (Ux _))⟩;exact⟨U3 (kR xs lo hi) hz,_,0,(r.drop (HT.sIx xs.length 0 lo)).take (HT.sIx xs.length xs.length hi-HT.sIx xs.length 0 lo),Heap.get?_push_size _ rfl⟩
def jO:V->Bool
 |.non=>true
 |.bl _=>true
 |.int _=>true
 |.str _=>true
 |_=>false
def eqV:V->V->Bool
 |.non,.non=>true
 |.bl a,.bl b=>a==b
 |.bl a,.int b=>(if a then 1 else 0)==b
 |.int a,.bl b=>a==(if b then 1 else 0)
 |.int a,.int b=>a==b
 |.str a,.str b=>a==b
 |_,_=>false
theorem q27{A:Around}{s:Shared}{y x:V}{u v:Value}(ry:RelV y u)(rx:RelV x v)(fy:jO y=true)(fx:jO x=true):SeqAt.EqAt A s u v (eqV y x):=by
 cases y with
 |non=>
  cases ry;cases x with
  |non=>cases rx;exact SeqAt.EqAt.same _
  |bl b=>cases rx;exact SeqAt.EqAt.none_bool b
  |int b=>obtain⟨t,rfl⟩:=rx;exact SeqAt.EqAt.none_int b t
  |str b=>obtain⟨t,rfl⟩:=rx;exact SeqAt.EqAt.none_str b t
  |_=>exact absurd (show false=true from fx) UH
 |bl a=>
  cases ry;cases x with
  |non=>cases rx;exact SeqAt.EqAt.bool_none a
  |bl b=>cases rx;exact SeqAt.EqAt.bool_bool a b
  |int b=>obtain⟨t,rfl⟩:=rx;exact SeqAt.EqAt.bool_int a b t
  |str b=>obtain⟨t,rfl⟩:=rx;exact SeqAt.EqAt.bool_str a b t
  |_=>exact absurd (show false=true from fx) UH
 |int a=>
  obtain⟨t',rfl⟩:=ry;cases x with
  |non=>cases rx;exact SeqAt.EqAt.int_none a t'
  |bl b=>cases rx;exact SeqAt.EqAt.int_bool a t' b
  |int b=>obtain⟨t,rfl⟩:=rx;exact SeqAt.EqAt.int_int a t' b t
  |str b=>obtain⟨t,rfl⟩:=rx;exact SeqAt.EqAt.int_str a t' b t
  |_=>exact absurd (show false=true from fx) UH
 |str a=>
  obtain⟨t',rfl⟩:=ry;cases x with
  |non=>cases rx;exact SeqAt.EqAt.str_none a t'
  |bl b=>cases rx;exact SeqAt.EqAt.str_bool a t' b
  |int b=>obtain⟨t,rfl⟩:=rx;exact SeqAt.EqAt.str_int a t' b t
  |str b=>obtain⟨t,rfl⟩:=rx;exact SeqAt.EqAt.str_str a t' b t
  |_=>exact absurd (show false=true from fx) UH
 |_=>exact absurd (show false=true from fy) UH
def eqU(x:V)(u:Value):Bool:=match u with
 |.none=>eqV .non x
 |.bool b=>eqV (.bl b) x
 |.int i _=>eqV (.int i) x
 |.str z _=>eqV (.str z) x
 |_=>false
theorem q2l{x y:V}{u:Value}(r:RelV y u)(f:jO y=true):eqU x u=eqV y x:=by
 cases y with
 |non=>cases r;rfl
 |bl b=>cases r;rfl
 |int i=>obtain⟨t,rfl⟩:=r;rfl
 |str z=>obtain⟨t,rfl⟩:=r;rfl
 |_=>exact absurd (show false=true from f) UH
theorem X3{x:V}:∀{xs:List V}{us:List Value},Vals xs us->xs.all jO=true->us.any (eqU x)=xs.any λy=>eqV y x
 |_,_,.nil,_=>rfl
 |y::xs,u::us,.cons r t,f=>by
  rw[Rm,Df]at f;rw[DL,DL,q2l r f.1,X3 t f.2]
theorem Vp{A:Around}{s:Shared}{x:V}{v:Value}(rx:RelV x v)(fx:jO x=true):∀{xs:List V}{us:List Value},Vals xs us->xs.all jO=true->∀u∈us,SeqAt.EqAt A s u v (eqU x u)
 |_,_,.nil,_=>λu hu=>by cases hu
 |y::xs,u::us,.cons r t,f=>λu' hu=>by
  rw[Rm,Df]at f;rcases UQ.mp hu with rfl|hu
  ·rw[q2l r f.1];exact q27 r rx f.1 fx
  ·exact Vp rx fx t f.2 u' hu
def inV(x:V)(xs:List V):Bool:=xs.any λy=>eqV y x
def rIn(K:PySem.W.Frag)(neg:Bool):R2:=λx y H Q=>∃p xs,y=.ref p/\(SqL K H p xs\/SqT K H p xs)/\jO x=true/\xs.all jO=true/\Q (.bl (if neg then !inV x xs else inV x xs)) H
theorem YO:OpR X (compareOp .In) (rIn X.K false):=by
 intro a5 s σ H x y v u Q I rx ry h;obtain⟨p,xs,rfl,hq,fx,fs,q⟩:=h;cases ry;rcases hq with hq|hq
 ·obtain⟨its,r,pl,hz⟩:=I.list hq
  refine SeqAt.in_listAt (eqU x) pl.isList (λw hw=>Vp rx fx r fs w (by simpa using hw)) ⟨.bl _,H,I,rfl,?_⟩;rw[show its.toArray.any (eqU x)=its.any (eqU x) by simp,X3 r fs];exact q
 ·obtain⟨its,r,pl,hz⟩:=I.tuple hq
  refine SeqAt.in_tupleAt (eqU x) pl (λw hw=>Vp rx fx r fs w (by simpa using hw)) ⟨.bl _,H,I,rfl,?_⟩;rw[show its.toArray.any (eqU x)=its.any (eqU x) by simp,X3 r fs];exact q
theorem jE:zF X (.builtin "len") (λxs H Q=>∃p ys,xs=[.ref p]/\(SqL X.K H p ys\/SqT X.K H p ys)/\Q (.int ys.length) H):=by
 intro a5 s σ H xs us Q I r h;obtain⟨p,ys,rfl,hq,q⟩:=h;obtain⟨u,rfl,rx⟩:=QJ r;cases rx;have hn:=Jt;rcases hq with hq|hq
 ·obtain⟨its,r',pl,hz⟩:=I.list hq
  have aw:=r'.length;exact Calls.call_len_list pl.isList (by simp only[UF]<;>lia) ⟨.int ys.length,H,I.tok _,⟨s.toks+1,by rw[UF,aw]⟩,q⟩
 ·obtain⟨its,r',pl,hz⟩:=I.tuple hq
  have aw:=r'.length;exact len_tuple pl (by simp only[UF]<;>lia) ⟨.int ys.length,H,I.tok _,⟨s.toks+1,by rw[UF,aw]⟩,q⟩
theorem zf:zF X (.type "list") (λxs H Q=>∃p ys,xs=[.ref p]/\(SqL X.K H p ys\/SqT X.K H p ys)/\∀l,H l=none->Q (.ref l) (upd H l (.lst ys))):=by
 intro a5 s σ H xs us Q I r h;obtain⟨p,ys,rfl,hq,q⟩:=h;obtain⟨u,rfl,rx⟩:=QJ r;cases rx;have fin:∀(its:List Value),Vals ys its->ys.length<=sizeLine->∀(h':Heap)(c':Nat),(∀b o',s.heap.get? b=some o'->h'.get? b=some o') ->
   h'.get? s.heap.objs.size=some { cls:=.type "list", dict:=none,data:=.seq its.toArray c',slots:=#[] }->EP X a5 σ Q (.ref s.heap.objs.size) { s with heap:=h' }:=λits r' hz h' c' kp e=>
  ⟨.ref s.heap.objs.size,_,I.laid (t':=s.toks) kp (Ux _) (show ObjOk X.prog X.w _ h' _ (.lst ys) from⟨hz,its,c',r',e⟩),rfl,q _ (I.hok.fresh (Ux _))⟩
 rcases hq with hq|hq
 ·obtain⟨its,r',pl,hz⟩:=I.list hq
  have aw:=r'.length;obtain⟨o,ho,hc,n,hd⟩:=pl.isList;exact call_list_seq p (.inl rfl) ho hc hd (λh' c' kp e=>fin its r' hz h' c' kp e) (by simp only[UF]<;>lia)
 ·obtain⟨its,r',pl,hz⟩:=I.tuple hq
  have aw:=r'.length;obtain⟨o,ho,hc,n,hd⟩:=pl;exact call_list_seq p (.inr rfl) ho hc hd (λh' c' kp e=>fin its r' hz h' c' kp e) (by simp only[UF]<;>lia)
theorem VH:zF X (.type "tuple") (λxs H Q=>∃p ys,xs=[.ref p]/\((SqL X.K H p ys/\∀l,H l=none->Q (.ref l) (upd H l (.tup ys)))\/(SqT X.K H p ys/\Q (.ref p) H))):=by
 intro a5 s σ H xs us Q I r h;obtain⟨p,ys,rfl,h⟩:=h;obtain⟨u,rfl,rx⟩:=QJ r;cases rx;rcases h with⟨hq,q⟩|⟨hq,q⟩
 ·obtain⟨its,r',pl,hz⟩:=I.list hq
  have aw:=r'.length;refine call_tuple_list pl.isList (λh' kp=>?_) (by simp only[UF]<;>lia);have I1:Inv X a5 σ H { s with heap:=h' }:=I.kept (t':=s.toks) kp;have I2:Inv X a5 σ (upd H h'.objs.size (.tup ys)) { s with heap:=h'.push { cls:=.type "tuple", data:=.seq its.toArray } } :=
   I1.laid (t':=s.toks) (λb o e=>Heap.get?_push_of_some _ e) (Ux _) (show ObjOk X.prog X.w _ _ _ (.tup ys) from⟨hz,its,r',IsTup.new _ _⟩)
  exact⟨.ref h'.objs.size,_,I2,rfl,q _ (I1.hok.fresh (Ux _))⟩
 ·obtain⟨its,r',pl,hz⟩:=I.tuple hq
  exact call_tuple_same pl ⟨.ref p,H,I,rfl,q⟩
def tyV(K:PySem.W.Frag)(T:String)(x:V)(H:Hp):Prop:=match x with
 |.str _=>T = "str"
 |.int _=>T = "int"
 |.ref p=>(T = "list" /\ ∃xs,SqL K H p xs)\/(T = "tuple" /\ ∃o,K.lookup p=some o/\o.cls=.type "tuple" /\ o.dict=none) \/
   (T = "dict" /\ ((∃kvs,H p=some (.dK kvs))\/∃kvs,H p=some (.dT kvs)))\/(T = "set" /\ ∃S n,H p=some (.set S n))
 |_=>False
theorem q4R{a5:List (Addr×Obj)}{σ:St}{H:Hp}{s:Shared}{T:String}{x:V}{v:Value}(I:Inv X a5 σ H s)(r:RelV x v)(ty:tyV X.K T x H):
  s.TypeIs v T/\∀a,v=.ref a->∃ob,s.heap.get? a=some ob/\ob.dict=none:=by
 cases x with
 |str z=>
  obtain⟨t,rfl⟩:=r;cases(show T = "str" from ty);exact⟨typeIs_str s z t,λ_ e=>nomatch e⟩
 |int i=>
  obtain⟨t,rfl⟩:=r;cases(show T = "int" from ty);exact⟨typeIs_int s i t,λ_ e=>nomatch e⟩
 |ref p=>
  cases r;rcases ty with⟨rfl,xs,hq⟩|⟨rfl,o,hk,hc,hd⟩|⟨rfl,hk⟩|⟨rfl,S,n,hk⟩
  ·obtain⟨its,_,pl,_⟩:=I.list hq
   refine⟨pl.isList.typeIs,λa e=>?_⟩;cases e;obtain⟨o,n,e,c,hd,_⟩:=pl;exact⟨o,e,hd⟩
  ·refine⟨⟨o,I.kIn p o hk,hc⟩,λa e=>?_⟩
   cases e;exact⟨o,I.kIn _ o hk,hd⟩
  ·have z:∃o,s.heap.get? p=some o/\o.ExactDict:=by
    rcases hk with⟨kvs,hk⟩|⟨kvs,hk⟩
    ·obtain⟨_,_,_,_,o,_,_,e,ex,_⟩:=I.hok p _ hk
     exact⟨o,e,ex⟩
    ·obtain⟨_,_,_,_,o,_,_,e,ex,_⟩:=I.hok p _ hk
     exact⟨o,e,ex⟩
   obtain⟨o,e,ex⟩:=z;refine⟨⟨o,e,ex.1⟩,λa e2=>?_⟩;cases e2;exact⟨o,e,ex.2.1⟩
  ·obtain⟨o,_,_,_,e,ex,_⟩:=I.hok p _ hk
   refine⟨⟨o,e,ex.1⟩,λa e2=>?_⟩;cases e2;exact⟨o,e,ex.2.1⟩
 |_=>exact False.elim ty
def tBM0(K:PySem.W.Frag)(T:String)(r:V->List V->Hp->VK->Prop)(to:TE):TE:=λσ H Q=>to σ H λx H1=>tyV K T x H1/\r x [] H1 Q
def tBM(K:PySem.W.Frag)(T:String)(r:V->List V->Hp->VK->Prop)(to:TE)(t:TA):TE:=λσ H Q=>to σ H λx H1=>tyV K T x H1/\t σ H1 λxs H2=>r x xs H2 Q
end
def MtM(X:Cx)(id:String)(r:V->List V->Hp->VK->Prop):Prop :=
 ∀(a5:List (Addr×Obj))(s:Shared)(σ:St)(H:Hp)(x:V)(xs:List V)(v:Value)(us:List Value)(Q:VK),Inv X a5 σ H s->RelV x v->Vals xs us->r x xs H Q ->
  wpAny (model X.prog X.w) X.A (call (.builtin id) (v::us)) (EP X a5 σ Q) X.xe s
theorem Vals.one:∀{x:V}{us:List Value},Vals [x] us->∃u,us=[u]/\RelV x u
 |_,_,.cons r .nil=>⟨_,rfl,r⟩
theorem Vals.two:∀{x y:V}{us:List Value},Vals [x,y] us->∃u v,us=[u,v]/\RelV x u/\RelV y v
 |_,_,_,.cons r (.cons q .nil)=>⟨_,_,rfl,r,q⟩
theorem Vals.rep{xs:List V}{us:List Value}(h:Vals xs us):∀k:Nat,Vals (List.replicate k xs).flatten (List.replicate k us).flatten
 |0=>.nil
 |k+1=>by
  rw[Dc,Dc,Dq,Dq];exact Vals.append h (Vals.rep h k)
theorem Zq(its:List Value):∀(k:Nat)(a9:List Value),
  List.foldl (λx1 x2=>x1++x2) a9.toArray (List.replicate k its.toArray)=(a9++(List.replicate k its).flatten).toArray
 |0,a9=>by simp
 |k+1,a9=>by
  have e:a9.toArray++its.toArray=(a9++its).toArray:=by simp
  have e2:(a9++its)++(List.replicate k its).flatten=a9++(List.replicate (k+1) its).flatten:=by
   rw[Dc,Dq,UN]
  rw[<-e2, <-Zq its k (a9++its), <-e,Dc,Ry]
section
variable {X:Cx}{a5:List (Addr×Obj)}{σ:St}{H:Hp}{s:Shared}{l:Addr}{xs ys:List V}
theorem Inv.lset{its its':List Value}{n:Nat}{f:Array Value->Array Value}{t':Nat}(I:Inv X a5 σ H s)(hH:H l=some (.lst xs))(e:s.heap.get? l=some { cls:=.type "list", data:=.seq its.toArray n })(hf:f its.toArray=its'.toArray)(hv:Vals ys its')(hz:ys.length<=sizeLine):
  Inv X a5 σ (upd H l (.lst ys)) { s with heap:=s.heap.update l (Obj.mapSeq f),toks:=t' }:=by
 have q:=PySem.IsL.update e f;rw[hf]at q;refine I.write (x:=l) (e:=l) (by rw[hH];exact trivial) (.inl rfl) (λb' u hb hu=>(Heap.get?_update_other s.heap (Obj.mapSeq f) (Ne.symm hb)).trans hu) ⟨_,q⟩ ?_;exact⟨hz,its',_,hv,q⟩
theorem Inv.lnew{its:List Value}{t':Nat}(I:Inv X a5 σ H s)(hv:Vals ys its)(hz:ys.length<=sizeLine):
  Inv X a5 σ (upd H s.heap.objs.size (.lst ys)) { s with heap:=s.heap.push { cls:=.type "list", data:=.seq its.toArray },toks:=t' } :=
 I.laid (λ_ _ q=>Heap.get?_push_of_some _ q) (Ux _) ⟨hz,its,0,hv,Heap.get?_push_size _ rfl⟩
theorem Inv.fresh(I:Inv X a5 σ H s):H s.heap.objs.size=none:=I.hok.fresh (Ux _)
theorem Inv.lstM(I:Inv X a5 σ H s)(hH:H l=some (.lst xs)):xs.length<=sizeLine/\∃(its:List Value)(n:Nat),Vals xs its/\xs.length=its.length/\s.heap.get? l=some { cls:=.type "list", data:=.seq its.toArray n }:=by
 obtain⟨z,its,n,r,e⟩:=I.hok l _ hH;exact⟨z,its,n,r,r.length,e⟩
theorem Jp{n:Nat}(h:n<=sizeLine):Builtin.List.listTooLong n=false:=by
 unfold Builtin.List.listTooLong;exact GI (by lia)
end
section
variable {X:Cx}
def Yy:V->List V->Hp->VK->Prop:=λx vs H Q=>∃l xs y,x=.ref l/\vs=[y]/\H l=some (.lst xs)/\xs.length<sizeLine/\Q .non (upd H l (.lst (xs++[y])))
theorem zZ:MtM X "list.append" Yy:=by
 intro a5 s σ H x vs v us Q I rx rv h;obtain⟨l,xs,y,rfl,rfl,hH,hz,q⟩:=h;cases rx;obtain⟨u,rfl,ru⟩:=rv.one;obtain⟨z,its,n,r,hl,e⟩:=I.lstM hH;refine Ur F.slot_list_append ⟨_,e,rfl⟩ F.entry_list_append (F.args_list_append_2 _ _) (PySem.list_append l its.toArray n u (by rw[UF];lia)) ⟨e,?_⟩;refine⟨.non,_,I.lset (its':=its++[u]) hH e (by simp) (r.append (.cons ru .nil)) ?_,rfl,q⟩;rw[Uu,U6];lia
def rCat:R2:=λx y H Q=>∃l b xs zs,x=.ref l/\y=.ref b/\H l=some (.lst xs)/\H b=some (.lst zs)/\xs.length+zs.length<=sizeLine/\∀p,H p=none->Q (.ref p) (upd H p (.lst (xs++zs)))
theorem zB:OpR X (binaryOp .Add) rCat:=by
 intro a5 s σ H x y v u Q I rx ry h;obtain⟨l,b,xs,zs,rfl,rfl,hH,hB,hz,q⟩:=h;cases rx;cases ry;obtain⟨z,its,n,r,hl,e⟩:=I.lstM hH;obtain⟨z2,bW,n2,r2,oN,e2⟩:=I.lstM hB;refine PySem.P.add_list e e2 ?_ (by rw[UF,UF];lia);have ea:its.toArray++bW.toArray=(its++bW).toArray:=by simp
 rw[ea];exact⟨.ref _,_,I.lnew (t':=s.toks) (r.append r2) (by rw[Uu];lia),rfl,q _ I.fresh⟩
def rRep:R2:=λx y H Q=>∃l k xs,x=.ref l/\y=.int k/\H l=some (.lst xs) /\ -(2^63)<=k/\k<2^63/\xs.length*k.toNat<=sizeLine /\
 ∀p,H p=none->Q (.ref p) (upd H p (.lst (List.replicate k.toNat xs).flatten))
theorem q4k{α:Type}(xs:List α)(k:Nat):(List.replicate k xs).flatten.length=k*xs.length:=by
 induction k with
 |zero=>simp
 |succ k ih=>rw[Dc,Dq,Uu,ih,Nat.succ_mul,Nat.add_comm]
theorem q1L:OpR X (binaryOp .Mult) rRep:=by
 intro a5 s σ H x y v u Q I rx ry h;obtain⟨l,k,xs,rfl,rfl,hH,h1,h2,hz,q⟩:=h;cases rx;obtain⟨t,rfl⟩:=ry;obtain⟨z,its,n,r,hl,e⟩:=I.lstM hH;have aw:its.toArray.size*k.toNat<=sizeLine:=by rw[UF, <-hl];exact hz
 have lh:¬its.toArray.size*k.toNat>(2^63-1) / 8:=by
  have:(sizeLine:Nat)<=(2^63-1) / 8:=by decide
  lia
 have lj:¬(!Builtin.List.listFitsIndex k)=true:=by
  rw[fitsIndex_both h1 h2];exact UH
 have gJ:¬Builtin.List.listTooLong (its.toArray.size*k.toNat)=true:=by
  rw[Jp aw];exact UH
 have cB:List.foldl (λx1 x2=>x1++x2) #[] (List.replicate (if its.toArray.isEmpty=true then 0 else k.toNat) its.toArray)=(List.replicate k.toNat its).flatten.toArray:=by
  have f0:∀m:Nat,List.foldl (λx1 x2=>x1++x2) #[] (List.replicate m its.toArray)=(List.replicate m its).flatten.toArray:=λm=>by
   have:=Zq its m [];rw[Dr]at this;exact this
  rw[f0];cases its with
  |nil=>simp
  |cons a r'=>rw[GH (by simp)]
 refine wpAny_binaryOp_repeat_ref (T := "list") (U := "int") (by decide) ⟨_,e,rfl⟩ (λs'=>typeIs_int s' k t) noFill_list_mul F.fills_int_mul F.slot_int_rmul repeat_list F.slot_int_index.lookup
  (Ur F.slot_int_rmul (typeIs_int s k t) F.entry_int_rmul (F.args_int_rmul_2 _ _) (int___rmul___int_list k t l its.toArray n)
   ⟨e,rfl,⟨_,e,rfl⟩,Ur F.slot_list_mul ⟨_,e,rfl⟩ F.entry_list_mul (F.args_list_mul_2 _ _) (AutoListH.list___mul___list_int_3 l its.toArray n k t lj lh gJ) ⟨e,?_⟩⟩)
 rw[cB];exact⟨.ref _,_,I.lnew (t':=s.toks) (r.rep k.toNat) (by rw[q4k,Nat.mul_comm];exact hz),rfl,q _ I.fresh⟩
end
end L2
namespace Att
open PySem PySem.W PySem.Calls PyProof.Rows
theorem kN{P:Params}{h:Heap}:∀(ns:List Int)(vs:List Value),WellAll P h vs (ns.map WData.int)->IntsAre vs ns:=by
 intro ns
 induction ns with
 |nil=>
  intro vs w;rw[DG]at w;cases w;exact .nil
 |cons n ns ih=>
  intro vs w;rw[UZ]at w;cases w with
  |cons a b=>
   cases a;exact .cons _ _ (ih _ b)
theorem Yb{l:OpenLaw}{n:Nat}(hn:l.most=some n){P:Params}{h:Heap}{args:List WData}{fq:List Value}(eh:l.row.toRowW.claim.pre args=true)(lm:WellAll P h fq args):
  ∃a vs ns,fq=[Value.ref a]/\args=[WData.list (ns.map WData.int)]/\h.get? a=some { cls:=.type "list", data:=.seq vs.toArray }/\IntsAre vs ns/\ns.length<=n:=by
 have oO:WShape.hasAll [] args [.list .int]=true:=(pre_splitW eh).1;have hc:l.pre.holds [] { args:=args }=true:=(pre_splitW eh).2;obtain⟨d,r,rfl,h1,h2⟩:=hasAllW_cons oO;obtain rfl:=hasAllW_nil h2;obtain⟨xs,rfl,h3⟩:=hasW_list h1;obtain⟨ns,rfl⟩:=items_int h3;have aw:ns.length<=n:=by
  unfold OpenLaw.pre at hc;have h4:(WTm.not (.lt (.lit (.int (n:Int))) (.len (.arg 0)))).holds [] { args:=[.list (ns.map .int)] }=true:=by
   have h4:=(holds_andW hc).1;rw[hn]at h4;exact h4
  have h5:=condW_of h4 (w_not (w_lt w_lit (w_len_list (w_arg rfl))));rw[Uw]at h5;refine Nat.le_of_not_lt λq=>?_;have q':(n:Int)<((ns.length:Nat):Int):=by lia
  first
   | (rw[Ul q']at h5;exact absurd h5 (by decide))
   | (simp at h5;lia)
 cases lm with
 |cons w1 w2=>
  cases w2;cases w1 with
  |list ho cQ=>exact⟨_,_,ns,rfl,rfl,ho,kN ns _ cQ,aw⟩
theorem YG(l:OpenLaw)(args:List WData):l.row.toRowW.claim.post args (.bool true) args=true :=
 postW_of (r:=l.row.toRowW) (X:=(true==true))
  (show WShape.has [] (.bool true) .bool=true by first|rfl|decide|simp[WShape.has,WShape.arms,WShape.armsAll])
  (show(WTm.eq .res (.lit (.bool true))).value [] { args:=args,res:=some (.bool true),after:=args }=some (.bool (true==true))from w_eq_bool (w_res rfl) w_lit) rfl
theorem attach_call{l:OpenLaw}{n:Nat}{q:Program}{loose:List Str}{XP:(Str->Option Value)->Heap->Prop}{YP:World->Heap->Prop}{d:DefRec}(hn:l.most=some n)(gK:d.params.defaults=[])(call:∀(w:World)(s₀ ag:Shared)(mg mb:Str->Option Value)(fa:Addr)(o:Obj)(pm cd bJ:Value)(a:Addr)(vs:List Value)(ns:List Int),
   Ground q loose [] XP w s₀ mg mb ag.heap->YP w ag.heap ->
   ag.heap.get? fa=some o->o.data=.func (docDef d.name d.params d.body d.scope pm cd bJ)->ag.heap.CodeRec cd d.name->mg d.name=some (.ref fa) ->
   ag.heap.get? a=some { cls:=.type "list", data:=.seq vs.toArray }->IntsAre vs ns->ns.length<=n->ag.gens=#[] ->
   codeAny (model l.prog w) callerA (.call (.ref fa) ⟨[.ref a], []⟩) (λr s'=>r=.ok (.ret (.bool true))/\OldK ag.heap s'.heap/\s'.os=ag.os/\AllBare s'.gens) ag):
  WalkO q loose XP YP l.row.toRowW d [] (λf vs=>PySem.call f vs):=by
 intro w s₀ ag mg mb G Y fa o pm cd bJ dV kV ho hd di hD hmg hg args fq as eh hlay hrd lm hlo;obtain rfl:dV=.none:=Dflts.none hD gK;obtain rfl:kV=.none:=Dflts.noKw hD;obtain⟨a,vs,ns,rfl,rfl,ft,dJ,aw⟩:=Yb hn eh lm;refine enter_call (G5 (call w s₀ ag mg mb fa o pm cd bJ a vs ns G Y ho (fd_plain hd) di hmg ft dJ aw hg) λr s' hq=>?_);obtain⟨rfl,h2,h3,h4⟩:=hq;exact⟨.inl ⟨.bool true,.bool true, [],rfl,λ_=>rfl,.bool true,YG l _,λ_=>⟨List.Pairwise.nil,λ_ hm=>(nomatch hm)⟩⟩,h2,h3,h4⟩
end Att
namespace L2
open PySem PySem.Spec PyProof.Rows
theorem VP:∀{vs:List Value}{ns:List Int},IntsAre vs ns->Vals (ns.map V.int) vs
 |_,_,.nil=>.nil
 |_,_,.cons n t h=>.cons ⟨t,rfl⟩ (VP h)
def Only(H:Hp):Prop:=∀b,H b=none\/∃o xs,H b=some (.frz o (.lst xs))
theorem q1j{P:Program}{w:World}{K:PySem.W.Frag}{mg mb:Str->Option Value}{CX:CXT}{k:Nat}{fa a:Addr}{fd:FuncData}{x:Str}{sp:Sp}{ag:Shared}{vs:List Value}{ns:List Int}(KX:K.In ag.heap)(cR:ag.heap.Ns mainGlobals mg)(hb:ag.heap.Ns builtinsNs mb)(iB:∀x:Str,x ≠ "__name__" -> mb x=bootBuiltins x)(lq:ag.heap.NoLimit)(hg:ag.gens=#[])(ha:ag.heap.get? a=some { cls:=.type "list", data:=.seq vs.toArray })(hi:IntsAre vs ns)(hl:ns.length<=sizeLine)(hr:Room k callerA)(F:∀base:Heap,K.In base->base.Ns mainGlobals mg->FnOk P w K mg base CX k fa fd [x] sp)(gL:∀(s:Shared)(u:Value),BindsTo s fd ⟨[u], []⟩ [(x,u)])(dw:∀H:Hp,Only H->SqL K H a (ns.map V.int)->sp [.ref a] H (λv _=>v=.bl true) λ_ _ _=>False)(lr:∀H e s',CX [] H ag (λ_ _ _=>False) e s'->False):
  codeAny (model P w) callerA (.call (.ref fa) ⟨[.ref a], []⟩) (λr s'=>r=.ok (.ret (.bool true))/\OldK ag.heap s'.heap/\s'.os=ag.os/\AllBare s'.gens) ag:=by
 have rv:=VP hi;have lu:=hi.length
 -- from an abstract heap in which nothing but the script may be cq
 have gM:∀H:Hp,Only H->SqL K H a (ns.map V.int)->HOk P w H ag.heap->(∀b,H b≠none->b=a)->(H a≠none->K.lookup a=none) ->
   codeAny (model P w) callerA (.call (.ref fa) ⟨[.ref a], []⟩) (λr s'=>r=.ok (.ret (.bool true))/\OldK ag.heap s'.heap/\s'.os=ag.os/\AllBare s'.gens) ag:=by
  intro H hO hS hok hA hK;have dk:∀{b:Addr}{o:Obj},ag.heap.get? b=some o->H b=none->(hidT ag.heap H).get? b=some o:=λe n=>q1h e n;have gG:∀{b:Addr}{o:Obj}{es:Array DictEntry}{ep:Nat},ag.heap.get? b=some o->o.data=.dict es ep->H b=none:=λ{b o es ep} e d=>by
   cases q:H b with
   |none=>rfl
   |some u=>
    have e':b=a:=hA b (by rw[q];simp);subst e';rw[ha]at e;cases e;have d':Data.seq vs.toArray _=Data.dict es ep:=d;cases d'
  have iC:∀{b:Addr}{m:Str->Option Value},ag.heap.Ns b m->(hidT ag.heap H).Ns b m:=λ{b m} ⟨o,es,ep,e,d,r⟩=>⟨o,es,ep,dk e (gG e d),d,r⟩;have ng:K.In (hidT ag.heap H):=λb o e=>dk (KX b o e) (by
   cases q:H b with
   |none=>rfl
   |some u=>
    have e':b=a:=hA b (by rw[q];simp);subst e';rw[hK (by rw[q];simp)]at e;cases e)
  have hM:Mod K mg (hidT ag.heap H):=⟨ng,iC cR,⟨mb,iC hb,iB⟩,let⟨mc,h1,h2⟩:=lq;⟨mc,iC h1,h2⟩⟩;have e0:Env0 P w K mg (hidT ag.heap H) callerA [] ag H:=⟨rfl,hM,λb o e=>q4g e,Rc (WD _ _),trivial,λb hb=>absurd (show b∈([]:List Addr)from hb) (by simp),hok,.of_eq hg⟩;refine G5 ((F _ ng (iC cR)).run callerA [] ag H ⟨[.ref a], []⟩ [.ref a] [.ref a] _ _ hr e0 (gL ag (.ref a)) (.cons rfl .nil) (dw H hO hS)) λr s' h=>?_;cases r with
  |error e=>exact(lr H e s' h).elim
  |ok fl=>
   cases fl with
   |next=>exact False.elim h
   |brk=>exact False.elim h
   |cont=>exact False.elim h
   |ret u=>
    obtain⟨v,H',os,bare,un,lw,r',q⟩:=h;have q':v=.bl true:=q;subst q';obtain rfl:u=Value.bool true:=r';refine⟨rfl,OldK.of_keep λb o e=>?_,os,bare⟩;cases q:H b with
    |none=>exact un.keep b o e q (by intro z;exact absurd (show b∈([]:List Addr)from z) (by simp)) (by simp)
    |some u=>
     rcases hO b with z|⟨ob,xs,z⟩
     ·rw[q]at z;cases z
     ·have z2:=un.frzs b ob _ z
      obtain⟨e1,_⟩:=hok b _ z;obtain⟨e2,_⟩:=lw b _ z2;rw[e]at e1;cases e1;exact e2
 cases hk:K.lookup a with
 |some o=>
  -- the script is one of the module's own objects
  have e:=KX a o hk;rw[ha]at e;cases e;refine gM (λ_=>none) (λ_=>.inl rfl) (.inr ⟨_,vs.toArray,_,hk,rfl,rfl,rfl,by rw[UF,lu];exact hl,by simpa using rv⟩) (λb u z=>by have z':(none:Option HO)=some u:=z;cases z') (λb z=>absurd rfl z) λz=>absurd rfl z
 |none=>
  refine gM (λb=>if b=a then some (.frz { cls:=.type "list", data:=.seq vs.toArray } (.lst (ns.map V.int))) else none) (λb=>?_) (.inl (.inr ⟨{ cls:=.type "list", data:=.seq vs.toArray },GL rfl⟩)) (λb u z=>?_) (λb z=>?_) λ_=>hk
  ·by_cases hb:b=a
   ·exact .inr ⟨_,_,GL hb⟩
   ·exact .inl (GH hb)
  ·by_cases hb:b=a
   ·have z':=(GL hb).symm.trans z
    cases z';subst hb;exact⟨ha,by rw[Uw];exact hl,vs,_,rv,ha⟩
   ·have z':=(GH hb).symm.trans z
    cases z'
  ·by_cases hb:b=a
   ·exact hb
   ·exact absurd (GH hb) z
theorem walk_of{l:PySem.W.OpenLaw}{n k:Nat}{q:Program}{loose:List Str}{XP:(Str->Option Value)->Heap->Prop}{YP:World->Heap->Prop}{d:DefRec}{K:Params->PySem.W.Frag}{CX:World->CXT}{sp:World->Sp}{x:Str}(hn:l.most=some n)(ge:n<=sizeLine)(gK:d.params.defaults=[])(hr:Room k callerA)(hY:∀(w:World)(h:Heap),YP w h->(K w.params).In h)(F:∀(w:World)(mg:Str->Option Value)(fa:Addr)(h:Heap),(K w.params).In h->h.Ns mainGlobals mg->mg d.name=some (.ref fa) ->
   ∃fd:FuncData,(∀(s:Shared)(u:Value),BindsTo s fd ⟨[u], []⟩ [(x,u)]) /\
    ∀base:Heap,(K w.params).In base->base.Ns mainGlobals mg->FnOk l.prog w (K w.params) mg base (CX w) k fa fd [x] (sp w))(dw:∀(w:World)(H:Hp)(a:Addr)(ns:List Int),ns.length<=n->Only H->SqL (K w.params) H a (ns.map V.int)->sp w [.ref a] H (λv _=>v=.bl true) λ_ _ _=>False)(lr:∀(w:World)(H:Hp)(s:Shared)(e:Value)(s':Shared),CX w [] H s (λ_ _ _=>False) e s'->False):
  PySem.W.WalkO q loose XP YP l.row.toRowW d [] (λf vs=>PySem.call f vs):=by
 refine Att.attach_call hn gK λw s₀ ag mg mb fa o pm cd bJ a vs ns G Y ho hd di hmg ft dJ aw hg=>?_;have KX:=hY w _ Y;obtain⟨fd,hb,hF⟩:=F w mg fa _ KX G.T.g hmg;exact q1j KX G.T.g G.T.b G.T.builtins G.T.nolimit hg ft dJ (U3 aw ge) hr hF hb (λH hO hS=>dw w H a ns aw hO hS) λH e s'=>lr w H ag e s'
abbrev CX0:CXT:=λ_ _ _ _ _ _=>False
abbrev E0:XK:=λ_ _ _=>False
theorem Kg{X:Cx}:jc CX0 X E0:=λ_ _ _ _ _ _ _ h=>h.elim
structure Fun(K:PySem.W.Frag)(x ac:Str)(st:Stmt)(f:Addr)(fd:FuncData):Prop where
 ex:∃(oc:Value)(od:Option Addr)(kV bJ pm:Value)(an:Option Addr)(ae ct:Value)(dI:Array (Option Value)),
  fd=W.fnOf x ac (zt st) (vi st) (qd st) .none kV bJ pm an ae ct/\K.lookup f=some ⟨oc,od,.func fd,dI⟩/\W.codeIn K ae ac=true
 kp:W.keepIn K (.ref f)=true
section
variable {P:Program}{w:World}{K:PySem.W.Frag}{mg:Str->Option Value}{base:Heap}
theorem Fun.ok{x ac:Str}{st:Stmt}{f:Addr}{fd:FuncData}{N ps:List Str}{k:Nat}{sp:Sp}(F:Fun K x ac st f fd)(S:q00 N ps (qd st))(len:∀vs H Q E,sp vs H Q E->vs.length=ps.length)(aA:∀(ae:Value)(A:Around)(outer:List Env)(s:Shared)(H:Hp)(vs:List V)(Q:VK)(E:XK),Room k (A.deeper (envOfC ac (qd st) s.heap.objs.size f ae))->sp vs H Q E ->
   ∃t,PSs (cxOf CX0 P w K mg base N ac (qd st) f ae A outer s H E).nox (vi st) t/\t { nx:=λ_ H'=>Q .non H',rt:=Q } (start N vs) H):FnOk P w K mg base CX0 (k+1) f fd ps sp:=by
 obtain⟨oc,od,kV,bJ,pm,an,ae,ct,dI,rfl,lk,di⟩:=F.ex;refine q5V lk di S len λA outer s H vs Q E hr dw=>?_;obtain⟨t,h,q⟩:=aA ae A outer s H vs Q E hr dw;exact⟨t,h.nox,q⟩
theorem Fun.binds{x ac:Str}{st:Stmt}{f:Addr}{fd:FuncData}{ps:List Str}(F:Fun K x ac st f fd)(h:∀(kV bJ pm:Value)(an:Option Addr)(ae ct:Value)(us:List Value),us.length=ps.length->bindArgs (W.fnOf x ac (zt st) (vi st) (qd st) .none kV bJ pm an ae ct) ⟨us, []⟩=pure (ps.zip us)):Binds K fd ps []:=by
 obtain⟨oc,od,kV,bJ,pm,an,ae,ct,dI,rfl,lk,di⟩:=F.ex;exact .all (h kV bJ pm an ae ct)
theorem fun_mk{x ac:Str}{st:Stmt}{f:Addr}{oc:Value}{od an:Option Addr}{dI:Array (Option Value)}{kV bJ pm ae ct:Value}(l:K.lookup f=some ⟨oc,od,.func (W.fnOf x ac (zt st) (vi st) (qd st) .none kV bJ pm an ae ct),dI⟩)(c:W.codeIn K ae ac=true)(k:W.keepIn K (.ref f)=true):Fun K x ac st f (W.fnOf x ac (zt st) (vi st) (qd st) .none kV bJ pm an ae ct):=⟨⟨oc,od,kV,bJ,pm,an,ae,ct,dI,rfl,l,c⟩,k⟩
end
theorem q4a{A:Around}{k:Nat}(hr:Room k A):A.units+1<cLine:=U5 (Nat.add_le_add_left (by decide:1<=64) _) hr.units
theorem qF{n:Nat}(h:n<=1000):n<sizeLine:=U5 h (by decide)
section
variable {X:Cx}
end
theorem ite2{c A B:Prop}[Decidable c](h1:c->A)(h2:¬c->B):if c then A else B:=by
 by_cases h:c
 ·rw[GL h]
  exact h1 h
 ·rw[GH h]
  exact h2 h
def Same(H H':Hp):Prop:=∀b o,H b=some o->H' b=some o
theorem Same.refl(H:Hp):Same H H:=λ_ _ h=>h
theorem Same.trans{H H1 H2:Hp}(a:Same H H1)(b:Same H1 H2):Same H H2:=λc o h=>b c o (a c o h)
theorem Same.free{H H':Hp}(e:Same H H'){l:Addr}(h:H' l=Option.none):H l=Option.none:=by
 cases q:H l with
 |none=>rfl
 |some o=>
  rw[e l o q]at h;cases h
theorem Same.seq{K:PySem.W.Frag}{H H':Hp}{a:Addr}{xs:List V}(e:Same H H')(h:SqL K H a xs):SqL K H' a xs:=by
 rcases h with(h|⟨o,h⟩)|h
 ·exact .inl (.inl (e _ _ h))
 ·exact .inl (.inr ⟨o,e _ _ h⟩)
 ·exact .inr h
section
variable {κ:Type} [DecidableEq κ]
def valV(kvs:List (κ×V))(k:κ):Option V:=(kvs.find? λkv=>decide (kv.1=k)).map (·.2)
def putK(kvs:List (κ×V))(k:κ)(v:V):List (κ×V):=
 if(kvs.any λkv=>decide (kv.1=k))=true then kvs.map (λkv=>if kv.1=k then(kv.1,v) else kv) else kvs++[(k,v)]
theorem X5{p:κ×V}{r:List (κ×V)}{k:κ}(e:p.1=k):valV (p::r) k=some p.2:=by simp[valV,Ds,e]
theorem X6{p:κ×V}{r:List (κ×V)}{k:κ}(e:¬p.1=k):valV (p::r) k=valV r k:=by simp[valV,Ds,e]
theorem XC(kvs:List (κ×V))(k:κ)(v:V):(putK kvs k v).length<=kvs.length+1:=by
 unfold putK;split
 ·rw[Uw];lia
 ·rw[Uu,UL,Dg];lia
theorem KV.val{kvs:List (κ×V)}{vs:List (κ×Value)}(r:KV kvs vs)(k:κ):RelO (valV kvs k) (valueAt vs k):=by
 unfold KV at r
 induction r with
 |nil=>exact True.intro
 | @cons p q ps qs h t ih=>
  obtain⟨h1,h2⟩:=h;by_cases e:p.1=k
  ·have e':q.1=k:=h1.symm.trans e
   have b:valueAt (q::qs) k=some q.2:=by simp[valueAt,Ds,e']
   rw[X5 e,b];exact h2
  ·have e':¬q.1=k:=λz=>e (h1.trans z)
   have b:valueAt (q::qs) k=valueAt qs k:=by simp[valueAt,Ds,e']
   rw[X6 e,b];exact ih
theorem KV.any{kvs:List (κ×V)}{vs:List (κ×Value)}(r:KV kvs vs)(k:κ):(kvs.any λkv=>decide (kv.1=k))=vs.any λkv=>decide (kv.1=k):=by
 unfold KV at r
 induction r with
 |nil=>rfl
 |cons h t ih=>rw[DL,DL,ih,h.1]
theorem KV.repl{kvs:List (κ×V)}{vs:List (κ×Value)}(r:KV kvs vs)(k:κ){y:V}{u:Value}(ry:RelV y u):
  KV (kvs.map λkv=>if kv.1=k then(kv.1,y) else kv) (vs.map λkv=>if kv.1=k then(kv.1,u) else kv):=by
 unfold KV at r ⊢
 induction r with
 |nil=>exact .nil
 | @cons p q ps qs h t ih=>
  rw[UZ,UZ];refine .cons ?_ ih;obtain⟨h1,h2⟩:=h;by_cases e:p.1=k
  ·rw[GL e,GL (h1.symm.trans e)];exact⟨h1,ry⟩
  ·rw[GH e,GH (λz=>e (h1.trans z))];exact⟨h1,h2⟩
theorem KV.put{kvs:List (κ×V)}{vs:List (κ×Value)}(r:KV kvs vs)(k:κ){y:V}{u:Value}(ry:RelV y u):KV (putK kvs k y) (stored vs k u):=by
 unfold putK stored;rw[r.any k];by_cases e:(vs.any λkv=>decide (kv.1=k))=true
 ·rw[GL e,GL e];exact r.repl k ry
 ·rw[GH e,GH e];exact Paired.snoc r ⟨rfl,ry⟩
theorem KV.keys{kvs:List (κ×V)}{vs:List (κ×Value)}(r:KV kvs vs):kvs.map (·.1)=vs.map (·.1):=by
 unfold KV at r
 induction r with
 |nil=>rfl
 |cons h t ih=>rw[UZ,UZ,ih,h.1]
theorem KV.length{kvs:List (κ×V)}{vs:List (κ×Value)}(r:KV kvs vs):kvs.length=vs.length:=Paired.length r
end
theorem q3P{P:Program}{w:World}{k:Key}{u:Value}(r:RelV (kV k) u):(qV P w).is k u=true:=by
 cases k with
 |inl i=>obtain⟨t,e⟩:=(show ∃t,u=Value.int i t from r);subst e;exact Xy P w i t
 |inr x=>obtain⟨t,e⟩:=(show ∃t,u=Value.str x t from r);subst e;exact xF P w x t
 |non=>cases(show u=Value.none from r);rfl
theorem Zf{P:Program}{w:World}:∀{ks:List Key}{us:List Value},Vals (ks.map kV) us->ItemsAre (qV P w) ks us
 | [],_,r=>by rw[DG]at r;cases r;exact .nil
 |k::ks,_,r=>by
  rw[UZ]at r;cases r with
  |cons h t=>exact .cons (q3P h) (Zf t)
abbrev KT(H:Hp):List (List Key×V)->List (List Key×Addr×Value)->Prop:=Paired λp q=>p.1=q.1/\H q.2.1=some (.tup (p.1.map kV))/\RelV p.2 q.2.2
theorem KT.val{H:Hp}{kvs:List (List Key×V)}{xs:List (List Key×Addr×Value)}(r:KT H kvs xs)(k:List Key):RelO (valV kvs k) ((atKey xs k).map (·.2)):=by
 induction r with
 |nil=>exact True.intro
 | @cons p q ps qs h t ih=>
  obtain⟨h1,_,h2⟩:=h;by_cases e:p.1=k
  ·have e':q.1=k:=h1.symm.trans e
   have b:atKey (q::qs) k=some q.2:=by simp[atKey,Ds,e']
   rw[X5 e,b];exact h2
  ·have e':¬q.1=k:=λz=>e (h1.trans z)
   have b:atKey (q::qs) k=atKey qs k:=by simp[atKey,Ds,e']
   rw[X6 e,b];exact ih
section
variable {P:Program}{w:World}{H:Hp}{h:Heap}{a:Addr}
theorem q6B{u:HO}(ok:HOk P w H h)(e:Rd H a u):ObjOk P w H h a u:=e.ok ok
theorem q1D{kvs:List (Key×V)}(ok:HOk P w H h)(e:Rd H a (.dK kvs)):kvs.length<=sizeLine/\(a==sysModules)=false/\∃vs,KV kvs vs/\h.DictOf (qV P w) a vs :=
 show ObjOk P w H h a (.dK kvs)from q6B ok e
theorem q6U{kvs:List (Key×V)}(ok:HOk P w H h)(e:H a=some (.dK kvs)):kvs.length<=sizeLine/\(a==sysModules)=false/\∃vs,KV kvs vs/\h.DictOf (qV P w) a vs:=q1D ok (.inl e)
theorem q1X{ks:List Key}(ok:HOk P w H h)(e:H a=some (.tup (ks.map kV))):(tupleKind (qV P w)).is h ks a:=by
 obtain⟨_,its,r,o,h1,h2,n,h3⟩:=(show ObjOk P w H h a (.tup (ks.map kV))from ok a _ e);exact⟨o,its.toArray,n,h1,h2,h3,by simpa using Zf r⟩
theorem q54{kvs:List (List Key×V)}(ok:HOk P w H h)(e:Rd H a (.dT kvs)):kvs.length<=sizeLine/\(a==sysModules)=false /\
  ∃xs,KT H kvs xs/\h.DictOfH (tupleKind (qV P w)) a xs:=by
 obtain⟨z,y,xs,r,o,es,ep,h1,h2,h3,h4,h5⟩:=(show ObjOk P w H h a (.dT kvs)from q6B ok e);refine⟨z,y,xs,r,o,es,ep,h1,h2,h3,h4,λx hx=>?_,h5⟩;have all:∀{l:List (List Key×V)}{m:List (List Key×Addr×Value)},KT H l m->∀x∈m,(tupleKind (qV P w)).is h x.1 x.2.1:=by
  intro l m q
  induction q with
  |nil=>intro x hx;exact nomatch hx
  | @cons p q ps qs hq t ih=>
   intro x hx;rcases UQ.mp hx with e|hx
   ·subst e
    exact q1X ok (by rw[<-hq.1];exact hq.2.1)
   ·exact ih x hx
 exact all r x hx
end
def DGet(H:Hp)(a:Addr)(y:V)(r:Option V):Prop :=
 (∃kvs k,Rd H a (.dK kvs)/\y=kV k/\r=valV kvs k)\/∃kvs k b,Rd H a (.dT kvs)/\y=.ref b/\H b=some (.tup (k.map kV))/\r=valV kvs k
def DPut(H:Hp)(a:Addr)(y v:V)(H':Hp):Prop :=
 (∃kvs k,H a=some (.dK kvs)/\y=kV k/\kvs.length<sizeLine/\H'=upd H a (.dK (putK kvs k v))) \/
 ∃kvs k b,H a=some (.dT kvs)/\y=.ref b/\H b=some (.tup (k.map kV))/\kvs.length<sizeLine/\H'=upd H a (.dT (putK kvs k v))
theorem DGet.k{H:Hp}{a:Addr}{kvs:List (Key×V)}{k:Key}(e:H a=some (.dK kvs)):DGet H a (kV k) (valV kvs k):=.inl ⟨kvs,k,.inl e,rfl,rfl⟩
theorem DGet.t{H:Hp}{a b:Addr}{kvs:List (List Key×V)}{k:List Key}(e:H a=some (.dT kvs))(eb:H b=some (.tup (k.map kV))):DGet H a (.ref b) (valV kvs k):=.inr ⟨kvs,k,b,.inl e,rfl,eb,rfl⟩
theorem DPut.k{H:Hp}{a:Addr}{kvs:List (Key×V)}{k:Key}{v:V}(e:H a=some (.dK kvs))(hl:kvs.length<sizeLine):DPut H a (kV k) v (upd H a (.dK (putK kvs k v))):=.inl ⟨kvs,k,e,rfl,hl,rfl⟩
theorem DPut.t{H:Hp}{a b:Addr}{kvs:List (List Key×V)}{k:List Key}{v:V}(e:H a=some (.dT kvs))(eb:H b=some (.tup (k.map kV)))(hl:kvs.length<sizeLine):
  DPut H a (.ref b) v (upd H a (.dT (putK kvs k v))):=.inr ⟨kvs,k,b,e,rfl,eb,hl,rfl⟩
section
variable {X:Cx}{a5:List (Addr×Obj)}{σ:St}{H:Hp}{s:Shared}{a:Addr}{y v:V}{u:Value}{o:Option V}{A:Around}{E:Value->Shared->Prop}
theorem Inv.big(I:Inv X a5 σ H s):sysModules<s.heap.objs.size:=by
 have h:mainGlobals<s.heap.objs.size:=(I.mod.glob.keeps I.bk).lt;exact Nat.lt_trans (by decide) h
theorem W0{Q:Value->Shared->Prop}(hu:A.units+1<cLine)(I:Inv X a5 σ H s)(g:DGet H a y (some v))(ry:RelV y u)(h:∀w' s',Inv X a5 σ H s'->RelV v w'->Q w' s'):
  wpAny (model X.prog X.w) A (getItem (.ref a) u) Q E s:=by
 rcases g with⟨kvs,k,e,ey,l⟩|⟨kvs,k,b,e,ey,eb,l⟩
 ·subst ey
  obtain⟨z,hd,vs,dz,dd⟩:=q1D I.hok e;obtain⟨w',hw,dn⟩:=RelO.some_of (v:=v) (o:=valueAt vs k) (by rw[l];exact dz.val k);exact wpAny_getItem_of (q3P ry) dd.mapOf hw (h w' _ (I.tok _) dn)
 ·subst ey
  cases(show u=Value.ref b from ry);obtain⟨z,hd,xs,dz,dd⟩:=q54 I.hok e;obtain⟨w',hw,dn⟩:=RelO.some_of (v:=v) (o:=(atKey xs k).map (·.2)) (by rw[l];exact dz.val k);obtain⟨p,hp,gN⟩:=Dv.mp hw;refine wpAny_getItem_heap (tupleKind_room_in1 hu) (q1X I.hok eb) dd hp ?_;rw[gN];exact h w' _ (I.tok _) dn
theorem q3g{h':Heap}{t':Nat}{ob:HO}(I:Inv X a5 σ H s)(mu:Mut (H a))(hs:Heap.SameBut a s.heap h')(he:∃q,h'.get? a=some q)(new:ObjOk X.prog X.w (upd H a ob) h' a ob):
  Inv X a5 σ (upd H a ob) { s with heap:=h',toks:=t' } :=
 I.write (x:=a) (e:=a) mu (.inl rfl) (λb q hb z=>(hs.2 b hb).trans z) he new
theorem q5u{P:Program}{w:World}{H':Hp}{h':Heap}{kvs:List (Key×V)}{vs:List (Key×Value)}(z:kvs.length<=sizeLine)(hd:(a==sysModules)=false)(dz:KV kvs vs)(dd:h'.DictOf (qV P w) a vs):
  ObjOk P w H' h' a (.dK kvs):=⟨z,hd,vs,dz,dd⟩
end
def NoSl(i:Expr):Prop:=∀ov iv,subscripted i false ov iv=operate [ov,iv] (getItem ov iv)
theorem q31{prog:Program}{w:World}{A:Around}{E:Value->Shared->Prop}{s:Shared}{env:Env}{value slice:Expr}{pos:Pos}{T id:String}{Q:Value->Shared->Prop}(hl:typeLookup (.type T) "__getitem__" = pure (some (.builtin id)))(hs:NoSl slice)(h:wpAny (model prog w) A (eval value env) (λo ag=>wpAny (model prog w) A (eval slice env) (λi bB=>bB.TypeIs o T/\wpAny (model prog w) A (getItem o i) Q E bB) E ag) E s):
  wpAny (model prog w) A (eval (.Subscript value slice pos) env) Q E s:=by
 refine Subscript_ (GF h (λo ag cS=>GF cS (λi bB cT=>?_) λ_ _ x=>x) λ_ _ x=>x);obtain⟨hT,cT⟩:=cT;unfold subscriptTail;refine GD ?_;rw[getitemInPython_of_ne hT.not_modules];refine GD (Ud hT hl ?_);have fin:wpAny (model prog w) A (subscripted slice false o i) (λr dL=>wpAny (model prog w) A (letTemporaryGo value o r >>= λ_=>pure r) Q E dL) E bB:=by
  rw[hs o i];exact wpAny_operating (GF cT (λr dL fu=>GD (wpAny_letTemporaryGo (GE fu))) λ_ _ x=>x)
 first
  |exact GE (GD fin)
  |exact GD (GE (GD fin))
  |exact GD fin
theorem XU{X:Cx}{a5:List (Addr×Obj)}{σ:St}{H:Hp}{s:Shared}{a:Addr}{y:V}{o:Option V}(I:Inv X a5 σ H s)(g:DGet H a y o):s.TypeIs (.ref a) "dict" := by
 rcases g with⟨kvs,k,e,_,_⟩|⟨kvs,k,b,e,_,_,_⟩
 ·obtain⟨_,_,vs,_,dd⟩:=q1D I.hok e
  exact dd.typeIs
 ·obtain⟨_,_,xs,_,dd⟩:=q54 I.hok e
  exact dd.typeIs
def q4G(td ty:TE):TE:=λσ H Q=>td σ H λx H1=>ty σ H1 λy H2=>∃a v,x=.ref a/\DGet H2 a y (some v)/\Q v H2
section
variable {X:Cx}{o i:Expr}{pos:Pos}{td ty:TE}
end
theorem q0E{P:Program}{w:World}{H:Hp}(h:Heap)(hb:sysModules<h.objs.size):ObjOk P w H (h.push { cls:=.type "dict", data:=.dict #[] }) h.objs.size (.dK []):=
 ⟨Db _,beq_eq_false_iff_ne.mpr (Ne.symm (UU hb)), [],.nil,Heap.DictOf.new h⟩
def Jb:List (TE×TE)->St->Hp->(List (V×V)->Hp->Prop)->Prop
 | [],_,H,Q=>Q [] H
 | (tk,tv)::r,σ,H,Q=>tk σ H λx H1=>tv σ H1 λy H2=>Jb r σ H2 λps H3=>Q ((x,y)::ps) H3
abbrev VV:List (V×V)->List (Value×Value)->Prop:=Paired λp q=>RelV p.1 q.1/\RelV p.2 q.2
def PPs(X:Cx)(pos:Pos)(keys:List (Option Expr))(aX:List Expr)(cU:List (TE×TE)):Prop :=
 ∀(a5:List (Addr×Obj))(s:Shared)(σ:St)(H:Hp)(Q:List (V×V)->Hp->Prop),Inv X a5 σ H s->Jb cU σ H Q ->
  wpAny (model X.prog X.w) X.A (evalPairs (pairTrees keys aX X.env pos)) (λvs s'=>∃ps H',Inv X a5 σ H' s'/\VV ps vs/\Q ps H') X.xe s
theorem q3n{X:Cx}{pos:Pos}:PPs X pos [] [] []:=λa5 s σ H Q I h=>pairTrees_nil_walk ⟨[],H,I,.nil,h⟩
def kB(kvs more:List (Key×V)):List (Key×V):=more.foldl (λa9 kv=>putK a9 kv.1 kv.2) kvs
theorem KV.merge:∀{more:List (Key×V)}{rs:List (Key×Value)}{kvs:List (Key×V)}{vs:List (Key×Value)},KV more rs->KV kvs vs->KV (kB kvs more) (merged vs rs):=by
 intro more rs kvs vs r;unfold KV at r
 induction r generalizing kvs vs with
 |nil=>intro q;exact q
 | @cons p q ps qs h t ih=>
  intro r0;have e:KV (putK kvs p.1 p.2) (stored vs q.1 q.2):=by
   have:=r0.put p.1 h.2;rw[<-h.1];exact this
  exact ih e
theorem xU:∀(more kvs:List (Key×V)),(kB kvs more).length<=kvs.length+more.length
 | [],kvs=>by show kvs.length<=kvs.length+0;lia
 |p::r,kvs=>by
  have h1:=xU r (putK kvs p.1 p.2);have h2:=XC kvs p.1 p.2;show(kB (putK kvs p.1 p.2) r).length<=_;rw[UL];lia
theorem QC{P:Program}{w:World}:∀{kvs:List (Key×V)}{ws:List (Value×Value)},VV (kvs.map λkv=>(kV kv.1,kv.2)) ws->∃rs,Carries (qV P w) ws rs/\KV kvs rs
 | [],_,r=>by rw[DG]at r;cases r;exact⟨[],True.intro,.nil⟩
 |p::kvs,_,r=>by
  rw[UZ]at r;cases r with
  | @cons a b as bs h t=>
   obtain⟨rs,c,q⟩:=QC (P:=P) (w:=w) t;obtain⟨b1,b2⟩:=b;exact⟨(p.1,b2)::rs,⟨q3P h.1,rfl,c⟩,.cons ⟨rfl,h.2⟩ q⟩
def q5Y(cU:List (TE×TE)):TE:=λσ H Q=>∀p,H p=none->Jb cU σ (upd H p (.dK [])) λps H2=>H2 p=some (.dK [])/\∃kvs:List (Key×V),ps=kvs.map (λkv=>(kV kv.1,kv.2))/\kvs.length<=15/\Q (.ref p) (upd H2 p (.dK (kB [] kvs)))
structure M1(X:Cx)(o:Expr)(m:Str)(aF:Pos)(e:Expr)(aG:Pos):Prop where
 base:attributeBase o m X.env (eval o X.env)=eval o X.env
 few:((backTo aG (starEach [e] X.env)).all (λx=> !x.1)&&(backToKw aG (keywordEach [] X.env)).all (λx=>x.1.isSome)
  && decide (([e]:List Expr).length+([]:List Keyword).length+(if([]:List Keyword).isEmpty then 0 else 1)<30))=true
 line:(aF.endLine==aG.line)=true
 trees:backTo aG (starEach [e] X.env)=[(false,eval e X.env)]
structure M2(X:Cx)(o:Expr)(m:Str)(aF:Pos)(e f:Expr)(aG:Pos):Prop where
 base:attributeBase o m X.env (eval o X.env)=eval o X.env
 few:((backTo aG (starEach [e,f] X.env)).all (λx=> !x.1)&&(backToKw aG (keywordEach [] X.env)).all (λx=>x.1.isSome)
  && decide (([e,f]:List Expr).length+([]:List Keyword).length+(if([]:List Keyword).isEmpty then 0 else 1)<30))=true
 line:(aF.endLine==aG.line)=true
 trees:backTo aG (starEach [e,f] X.env)=[(false,eval e X.env),(false,eval f X.env)]
def cxC(X:Cx)(scope:Scope)(cl:List (Str×Addr))(M:List Str)(fp:List Addr)(s:Shared)(H:Hp):Cx :=
 { X with N:=M,s₀:=s,H₀:=H,env:=compEnvC scope cl s.heap.objs.size X.env,outer:=X.stack,stack:=X.stack,ex:=fp,fn:=λ_=>false,pn:=[],xe:=λ_ _=>False }
def zg(bs:List Bool)(n:Nat)(σ:St):St:=(bs.zip σ).map (λp=>if p.1 then p.2 else none)++List.replicate n none
def ExtS(σ τ:St):Prop:=∀(i:Nat) v,σ[i]?=some (some v)->τ[i]?=some (some v)
theorem ExtS.refl(σ:St):ExtS σ σ:=λ_ _ h=>h
theorem ExtS.trans{a b c:St}(h:ExtS a b)(k:ExtS b c):ExtS a c:=λi v e=>k i v (h i v e)
theorem ExtS.put{σ τ:St}{i:Nat}{v:V}(h:ExtS σ τ)(e:σ[i]?=some none):ExtS σ (τ.set i (some v)):=λj w q=>by
 by_cases hj:i=j
 ·subst hj;rw[e]at q;cases q
 ·rw[Uv hj];exact h j w q
def q4m(J:It)(a9:Addr)(g:TG)(tt:TT)(te:TE)(dq:St)(H1:Hp)(Q:VK):Prop:=∃W:Nat->Nat->Hp->Prop,(∃m,W 0 m (upd H1 a9 (.lst []))) /\
 ∀i m H2,W i m H2->(J.stop i H2/\Q (.ref a9) H2)\/(J.go i H2/\∃N:Hp->Prop,(∀H',N H'->∃m',m'<m/\W (i+1) m' H')/\∀x H3,J.yld i H2 x H3->g x dq H3 λca H4=>(ExtS dq ca/\ca.length=dq.length)/\tt ca H4 λb H5=>
  if b=true then te ca H5 λv H6=>∃ys,H6 a9=some (.lst ys)/\ys.length<sizeLine/\N (upd H6 a9 (.lst (ys++[v]))) else N H5)
def xu(wi:TI)(bs:List Bool)(n:Nat)(g:TG)(tt:TT)(te:TE):TE:=λσ H Q=>wi σ H λJ H1=>∀a9,H1 a9=none->q4m J a9 g tt te (zg bs n σ) H1 Q
def PTs(X:Cx)(bT:List Expr)(t:TT):Prop :=
 ∀(a5:List (Addr×Obj))(s:Shared)(σ:St)(H:Hp)(Q:Bool->Hp->Prop),Inv X a5 σ H s->t σ H Q ->
  wpAny (model X.prog X.w) X.A (forIn bT true λc r=>if r=true then do let ok <-isTrue c X.env (eval c X.env);pure (ForInStep.yield ok) else pure (ForInStep.yield r)) (TP X a5 σ Q) X.xe s
def tYes:TT:=λ_ H Q=>Q true H
theorem q48{X:Cx}:PTs X [] tYes:=λ_ _ _ H _ I h=>wpAny_tests_nil ⟨H,I,h⟩
structure CompS(X:Cx)(scope:Scope)(cl:List (Str×Addr))(bs:List Bool)(ext:List Str):Prop where
 clos:closureFor scope X.env=pure cl
 cell:∀y∈scope.names,y.2 ≠ .cell
 kind:scope.kind=.function
 names:∀y∈scope.names,y.2=.local->scope.names.lookup y.1=some .local
 sub:∀x c,cl.lookup x=some c->X.env.cells.lookup x=some c
 has:∀x,((relabel scope X.env).names.lookup x=some .cell\/(relabel scope X.env).names.lookup x=some .free)->∃c,cl.lookup x=some c
 len:bs.length=X.N.length
 vis:∀(i:Nat) x,X.N[i]?=some x->bs[i]?=some true->Vis (relabel scope X.env) x->(relabel scope X.env).names.lookup x≠some .local/\(X.env.kindOf x=some .cell\/X.env.kindOf x=some .free)/\Vis X.env.scope x
theorem Wk{bs:List Bool}{n:Nat}{σ:St}(h:bs.length=σ.length):(zg bs n σ).length=σ.length+n:=by
 unfold zg;simp[h]
theorem Wl{bs:List Bool}{n:Nat}{σ:St}(h:bs.length=σ.length){i:Nat}{v:V}(e:(zg bs n σ)[i]?=some (some v)):i<σ.length/\bs[i]?=some true/\σ[i]?=some (some v):=by
 unfold zg at e;by_cases hi:i<σ.length
 ·rw[Uz (by simp[h];exact hi),UW]at e
  have hb:i<bs.length:=by lia
  rw[Ut (by simp[h];exact hi)]at e;simp only[List.getElem_zip,Option.map_some]at e;split at e
  ·rename_i lA
   refine⟨hi,?_,?_⟩
   ·rw[Ut hb];rw[lA]
   ·rw[Ut hi];exact e
  ·cases e
 ·rw[UM (by simp[h];lia),DJ]at e
  split at e<;>cases e
section
variable {X:Cx}{a5:List (Addr×Obj)}{σ:St}{H:Hp}{s:Shared}
theorem q6x{scope:Scope}{cl:List (Str×Addr)}{bs:List Bool}{ext:List Str}{fp:List Addr}(S:CompS X scope cl bs ext)(I:Inv X a5 σ H s)(hf:∀b∈fp,FpOk X a5 H b)(lB:∀b∈fp,b<s.heap.objs.size):
  (cxC X scope cl (X.N++ext) fp s H).Ok where
 mod:=I.ok.mod
 kind:=S.kind
 glob:=I.ok.glob
 blt:=I.ok.blt
 above:=Ux _
 inj:=λx y c a b=>I.ok.inj x y c (S.sub x c a) (S.sub y c b)
 has:=S.has
 cab:=λx c h=>nomatch h
 hd:=I.ok.hd
 frames:=I.ok.frames
 stk:=.inl rfl
 exf:=λb hb=>⟨UU (lB b hb),λx c e=>(hf b hb).2.2.2.2.1 x c (S.sub x c e)⟩
 bs:=I.bs
 bsz:=U3 I.ok.bsz I.sz
 noex:=λb o e hb=>by
  rcases(hf b hb).2.2.2.1 with z|z
  ·exact I.ok.noex b o e z
  ·exact absurd (UP (UP (Heap.lt_size e) I.ok.bsz) z) (DI _)
 exfs:=λb hb z=>by
  rcases UQ.mp (I.stkSub b z)with q|q
  ·exact(hf b hb).2.1 q
  ·exact(hf b hb).2.2.1 q
 funs:=I.stack
 frf:=I.stkFree
theorem W3{scope:Scope}{cl:List (Str×Addr)}{bs:List Bool}{ext:List Str}{fp:List Addr}{h1:Heap}{t':Nat}(S:CompS X scope cl bs ext)(I:Inv X a5 σ H s)(hf:∀b∈fp,FpOk X a5 H b)(lB:∀b∈fp,b<s.heap.objs.size)(hn:h1.Ns s.heap.objs.size (λ_=>none))(k:∀b o,s.heap.get? b=some o->h1.get? b=some o):
  Inv (cxC X scope cl (X.N++ext) fp s H) [] (zg bs ext.length σ) H { s with heap:=h1,toks:=t' }:=by
 have hl:bs.length=σ.length:=S.len.trans I.len.symm;have eQ:∀c v,s.heap.IsCell c v->h1.IsCell c v:=λc v ⟨o,ho,hd⟩=>⟨o,k c o ho,hd⟩;refine⟨q6x S I hf lB,rfl,I.bare,Un.kept k,⟨_,hn,λi x v e1 e2 e3=>?_⟩,λx c e=>?_,I.hok.fresh (Ux _),λx c e=>I.freeC x c (S.sub x c e),λp hp=>absurd hp (by simp[cxC]),I.hok.kept k,?_⟩
 ·obtain⟨hi,hb,hs⟩:=Wl hl e2
  have iD:X.N[i]?=some x:=by
   have lC:(X.N++ext)[i]?=some x:=e1;rwa [Uz (by have:=I.len;lia)]at lC
  obtain⟨nl,kk,vv⟩:=S.vis i x iD hb e3;obtain⟨m,_,lD⟩:=I.loc;obtain⟨u,r,l⟩:=lD i x v iD hs vv;refine⟨u,r,.inr ⟨?_,?_⟩⟩
  ·rcases e3 with z|z|z
   ·exact absurd z nl
   ·exact .inl z
   ·exact .inr z
  ·have hc:=S.has x (by
    rcases e3 with z|z|z
    ·exact absurd z nl
    ·exact .inl z
    ·exact .inr z)
   obtain⟨c,hc⟩:=hc;rcases l with⟨kl,_⟩|⟨_,c',cN,cf⟩
   ·rcases kk with z|z<;>(rw[kl]at z;cases z)
   ·rw[S.sub x c hc]at cN
    cases cN;exact⟨c,hc,eQ c _ cf⟩
 ·obtain⟨v,z⟩:=I.cell x c (S.sub x c e)
  exact⟨v,eQ c v z⟩
 ·rw[Wk hl,I.len];show _=(X.N++ext).length;simp
theorem W4{scope:Scope}{cl:List (Str×Addr)}{ext:List Str}{fp:List Addr}{ah:St}{H':Hp}{s':Shared}{h':Heap}{bZ:List (Addr×Obj)}(I:Inv X a5 σ H s)(hf:∀b∈fp,FpOk X a5 H b)(J:Inv (cxC X scope cl (X.N++ext) fp s H) bZ ah H' s')(sb:Heap.SameBut s.heap.objs.size s'.heap h'):Inv X a5 σ H' { s' with heap:=h' }:=by
 have B:Un (frs X.stack) fp H H' s.heap s'.heap:=J.base;have nC:∀b o,s.heap.get? b=some o->b≠s.heap.objs.size:=λb o e=>UU (Heap.lt_size e);refine I.call' (ch:=fp) (s':={ s' with heap:=h' }) J.os ⟨λb o e n hb hx=>?_,λb o e n hb hx=>?_,λb o e n hx=>B.free b o e n hx,λb o e hx=>?_,B.tups,B.frzs,B.tbls⟩ ?_ J.bare λb hb=>⟨(hf b hb).2.2.2.1,(hf b hb).2.1,(hf b hb).2.2.2.2.1,(hf b hb).2.2.2.2.2⟩
 ·exact sb.extBut b o (nC b o e) (B.keep b o e n hb hx)
 ·obtain⟨sl,q⟩:=B.slot b o e n hb hx
  exact⟨sl,sb.extBut b _ (nC b o e) q⟩
 ·obtain⟨o',q⟩:=B.there b o e hx
  exact⟨o',sb.extBut b o' (nC b o e) q⟩
 ·intro a o e
  have fr:H' s.heap.objs.size=none:=J.free;refine(J.hok a o e).stay (λb u hb q=>sb.extBut b u ?_ q) (λ_ q=>q) λ_ _ q=>q;rcases hb with z|z
  ·subst z;intro z;rw[z,fr]at e;cases e
  ·intro z2;rw[z2,fr]at z;cases z
end
section
variable {X:Cx}{bX tg au:Expr}{bT:List Expr}{scope:Scope}{cl:List (Str×Addr)}{bs:List Bool}{ext:List Str}{pos:Pos}{wi:TI}{g:TG}{tt:TT}{te:TE}
theorem JM{cm:Bool}{use:Option (Value->Sem Unit)}{a5:List (Addr×Obj)}{s:Shared}{σ:St}{H:Hp}{Q:VK}{RR:Value->Shared->Prop}(S:CompS X scope cl bs ext)(hc:CalP cm X)(hi:PIC cm X tg au wi)(hg:∀fp s H,PG (cxC X scope cl (X.N++ext) fp s H) tg g)(ht:∀fp s H,PTs (cxC X scope cl (X.N++ext) fp s H) bT tt)(he:∀fp s H,PE (cxC X scope cl (X.N++ext) fp s H) bX te)(hs:∀x,foldedSetIterable au X.env x=pure x)(I:Inv X a5 σ H s)(h:xu wi bs ext.length g tt te σ H Q)(ep:Pos)(fv:∀(a9:Addr)(s2:Shared)(H2:Hp)(fp:List Addr)(ah:St)(H':Hp)(s':Shared),Inv X a5 σ H2 s2->(∀b∈fp,FpOk X a5 H2 b)->Inv (cxC X scope cl (X.N++ext) fp s2 H2) [] ah H' s'->Q (.ref a9) H' ->
   compPost (model X.prog X.w) X.A X.xe use RR (.ref a9) s2.heap.objs.size (.ok .next) s'):
  wpAny (model X.prog X.w) X.A (comprehension (.ListComp bX [⟨tg,au,bT,0⟩] scope pos) scope X.env ep (newList []) false (eval au X.env) use) RR X.xe s:=by
 refine wpAny_comprehension_free (use:=use) rfl hs S.clos S.kind S.names (thn (hi a5 s σ H _ I h) λv s1 h1=>thn h1 λl8 s2 h2=>?_);obtain⟨it,fp,tn,J,H2,e,I2,T,gb,f2,hW⟩:=h2;subst e;refine wpAny_newList ?_ (by decide);have ge:H2 s2.heap.objs.size=none:=I2.hok.fresh (Ux _);obtain⟨W,⟨m0,w0⟩,ff⟩:=hW s2.heap.objs.size ge;have I3:=I2.lnew (its:=[]) (ys:=[]) (t':=s2.toks) .nil (Db _);generalize hs3:({ s2 with heap:=s2.heap.push { cls:=.type "list", data:=.seq ([]:List Value).toArray },toks:=s2.toks }:Shared)=s3 at I3;have lE:s3.heap.objs.size=s2.heap.objs.size+1:=by rw[<-hs3];exact Heap.size_push ..
 have k3:∀b o,s2.heap.get? b=some o->s3.heap.get? b=some o:=λb o e=>by rw[<-hs3];exact Heap.get?_push_of_some _ e
 have nh:∀b∈fp,b<s2.heap.objs.size:=λb hb=>by obtain⟨o,e,_⟩:=T.obj _ _ gb b hb;exact Heap.lt_size e
 have f3:∀b∈fp,FpOk X a5 (upd H2 s2.heap.objs.size (.lst [])) b:=λb hb=>⟨by rw[upd_ne (UU (nh b hb))];exact(f2 b hb).1,(f2 b hb).2⟩;have nj:∀b∈fp,b<s3.heap.objs.size:=λb hb=>by rw[lE];exact Rh (nh b hb)
 have iy:tn 0 s3.heap:=T.keep _ _ _ gb λb hb o e=>k3 b o e;refine wpAny_newFunctionEnv S.cell (by intro y hy;simp at hy) (λh4 lF lG=>?_) S.kind;have k4:∀b o,s3.heap.get? b=some o->h4.get? b=some o:=λb o e=>lG.extBut b o (UU (Heap.lt_size e)) (Heap.get?_push_of_some _ e);have I4:=W3 (ext:=ext) (t':=s3.toks+([]:List (Str×Value)).length) S I3 f3 nj (h1:=h4) lF k4;have oP:tn 0 h4:=T.keep _ _ _ iy λb hb o e=>k4 b o e;generalize hs4:({ s3 with heap:=h4,toks:=s3.toks+([]:List (Str×Value)).length }:Shared)=s4 at I4 ⊢;have gO:tn 0 s4.heap:=by rw[<-hs4];exact oP
 -- the block
 generalize hY:cxC X scope cl (X.N++ext) fp s3 (upd H2 s2.heap.objs.size (.lst []))=Y at I4;have lH:∀{H':Hp},(∀b∈fp,H' b=none)->∀b∈fp,FpOk Y [] H' b:=λhn b hb=>by
  subst hY;refine⟨hn b hb,UU (nj b hb),λz=>?_,.inl hb,λx c e=>(f3 b hb).2.2.2.2.1 x c (S.sub x c e),λp hp=>absurd hp (by simp[cxC])⟩;rcases UQ.mp (I3.stkSub b z)with q|q
  ·exact(f3 b hb).2.1 q
  ·exact(f3 b hb).2.2.1 q
 have oQ:PG Y tg g:=by subst hY;exact hg _ _ _
 have oR:PTs Y bT tt:=by subst hY;exact ht _ _ _
 have oS:PE Y bX te:=by subst hY;exact he _ _ _
 have nq:CalP cm Y:=by subst hY;cases cm<;>exact hc
 have oU:Y.prog=X.prog/\Y.w=X.w/\Y.K=X.K/\Y.A=X.A/\Y.env=compEnvC scope cl s3.heap.objs.size X.env/\Y.xe=λ_ _=>False:=by subst hY;exact⟨rfl,rfl,rfl,rfl,rfl,rfl⟩
 obtain⟨e1,e2,e3,e4,e5,e6⟩:=oU;have never:∀{α:Type}{t:Sem α}{Q:α->Shared->Prop}{s:Shared}{E:Value->Shared->Prop},wpAny (model Y.prog Y.w) Y.A t Q Y.xe s->wpAny (model X.prog X.w) X.A t Q E s:=λ{α t Q s E} q=>by
  rw[e1,e2,e4,e6]at q;exact GF q (λ_ _ z=>z) λ_ _ z=>z.elim
 have fh:codeAny (model X.prog X.w) X.A (.compLoop (.ListComp bX [⟨tg,au,bT,0⟩] scope pos) 0 (.ref it) (.ref s2.heap.objs.size) (compEnvC scope cl s3.heap.objs.size X.env))
   (compPost (model X.prog X.w) X.A X.xe use RR (.ref s2.heap.objs.size) s3.heap.objs.size) s4:=by
  refine codeAny_loop rfl (λn s'=>∃i H',Inv Y [] (zg bs ext.length σ) H' s'/\tn i s'.heap/\(∀b∈fp,H' b=none)/\W i n H') (λn s5 hI=>?_) m0 ⟨0,_,I4,gO,λb hb=>(f3 b hb).1,w0⟩;obtain⟨i,H5,I5,gc,fm,w5⟩:=hI;show wpAny _ X.A ((compTurn (.ListComp bX [⟨tg,au,bT,0⟩] scope pos) 0 (.ref it) (.ref s2.heap.objs.size) (compEnvC scope cl s3.heap.objs.size X.env)).onRaise (λx=>do noteFrame x (compEnvC scope cl s3.heap.objs.size X.env);theTreesLotGoes x)) _ _ s5;refine wpAny_noted ?_;rw[compTurn_list];rcases ff i n H5 w5 with⟨stop,qn⟩|⟨go,N,hN,step⟩
  ·refine GD (GQ (GD ?_))
   have hd:=T.done Y e1 e2 e3 nq i [] s5 _ H5 (λ_ _=>False) I5 (lH fm) gc stop;rw[e4]at hd;refine GF hd (λr s6 ⟨hr,I6⟩=>?_) λ_ _ z=>z.elim;subst hr;subst hY;exact GE (fv s2.heap.objs.size s3 _ fp _ H5 s6 I3 f3 I6 qn)
  ·refine GD (GQ (GD ?_))
   have hd:=T.item Y e1 e2 e3 nq i [] s5 _ H5 (λ_ _=>False) I5 (lH fm) gc go;rw[e4]at hd;refine GF hd (λr s6 ⟨u,hr,h6⟩=>?_) λ_ _ z=>z.elim;subst hr;refine GD (GF h6 (λ_ s7 ⟨x,H7,I7,r7,y7,lI,oV⟩=>?_) λ_ _ z=>z.elim);have oW:=I7.pinned (lH oV) (T.obj _ _ lI);rw[<-e5];refine GD (never (thn (oQ _ s7 _ H7 x u _ oW r7 (step x H7 y7)) λ_ s8 zz=>?_));obtain⟨iE,H8,I8,⟨oX,oY⟩,q8⟩:=zz;refine GD (never (thn (oR _ s8 iE H8 _ I8 q8) λb s9 zz=>?_));obtain⟨H9,I9,q9⟩:=zz;have again:∀{gg:Hp}{gh:Shared}{m':Nat},Inv Y ([]++V6 fp s7.heap) iE gg gh->m'<n->W (i+1) m' gg->∃m,m<n/\∃i H',Inv Y [] (zg bs ext.length σ) H' gh/\tn i gh.heap/\(∀b∈fp,H' b=none)/\W i m H':=λ{gg gh m'} fw hm lJ=>by
    refine⟨m',hm,i+1,gg,(fw.unpinned).weak oY.symm oX,T.keep _ _ _ lI λb hb o e=>(fw.pin (b,o) (UR _ (UR _ (xi hb e)))).1,λb hb=>?_,lJ⟩;obtain⟨o,e,d⟩:=T.obj _ _ lI b hb;exact(fw.pin (b,o) (UR _ (UR _ (xi hb e)))).2.1
   cases b with
   |false=>
    rw[GH UH]at q9;obtain⟨m',hm,w9⟩:=hN _ q9;exact GE ⟨by rw[e5],again I9 hm w9⟩
   |true=>
    rw[GL rfl]at q9;refine GD (GD (never (thn (oS _ s9 iE H9 _ I9 q9) λxv gh zz=>?_)));obtain⟨y,gg,fw,oZ,ys,fA,hz,p8⟩:=zz;obtain⟨m',hm,lJ⟩:=hN _ p8;refine GD (never (thn (zZ (X:=Y) _ gh iE gg (.ref s2.heap.objs.size) [y] (.ref s2.heap.objs.size) [xv] (λ_ H=>∃m',m'<n/\W (i+1) m' H) fw rfl (.cons oZ .nil) ⟨_,ys,y,rfl,rfl,fA,hz,m',hm,lJ⟩) λ_ s11 zz=>?_));obtain⟨_,H11,p9,_,m2,iF,pc⟩:=zz;exact GE (GE ⟨by rw[e5],again p9 iF pc⟩)
 exact codeAny_compStart_list fh (T.self X.A 0 s4 _ _ gO fh)
theorem q2C{cm:Bool}(S:CompS X scope cl bs ext)(hc:CalP cm X)(hi:PIC cm X tg au wi)(hg:∀fp s H,PG (cxC X scope cl (X.N++ext) fp s H) tg g)(ht:∀fp s H,PTs (cxC X scope cl (X.N++ext) fp s H) bT tt)(he:∀fp s H,PE (cxC X scope cl (X.N++ext) fp s H) bX te)(hs:∀x,foldedSetIterable au X.env x=pure x:=by intro _;rfl):PE X (.ListComp bX [⟨tg,au,bT,0⟩] scope pos) (xu wi bs ext.length g tt te):=by
 intro a5 s σ H Q I h;rw[eval_ListComp];refine JM (use:=none) S hc hi hg ht he hs I h _ λa9 s2 H2 fp ah H' s' I2 f2 J q=>?_;obtain⟨m,hn,_⟩:=J.loc;exact⟨m,hn,λh' sb=>⟨.ref a9,H',W4 I2 f2 J sb,rfl,q⟩⟩
theorem q2O{i:Nat}{x:Str}{aJ cD:Pos}(S:CompS X scope cl bs ext)(hc:X.calm=true)(hN:X.N.Nodup)(gP:X.N[i]?=some x)(hx:X.env.scope.names.lookup x=some .local)(hi:PI X tg au wi)(hg:∀fp s H,PG (cxC X scope cl (X.N++ext) fp s H) tg g)(ht:∀fp s H,PTs (cxC X scope cl (X.N++ext) fp s H) bT tt)(he:∀fp s H,PE (cxC X scope cl (X.N++ext) fp s H) bX te)(gQ:swapsWith (.ListComp bX [⟨tg,au,bT,0⟩] scope pos) (some (.Name x aJ)) cD.line X.env=pure true)(hs:∀x,foldedSetIterable au X.env x=pure x:=by intro _;rfl):PS X (.Assign [.Name x aJ] (.ListComp bX [⟨tg,au,bT,0⟩] scope pos) cD) (tAsg (xu wi bs ext.length g tt te) (qT i)):=by
 intro a5 s σ H D I h;rw[exec_Assign_Name_used _ _ _ _ gQ];refine GD (GQ (GD ?_));show wpAny _ X.A (do let _ <-comprehension (.ListComp bX [⟨tg,au,bT,0⟩] scope pos) scope X.env _ (newList []) false (eval au X.env) (some (assign (.Name x aJ) X.env))) _ _ s;refine GD (GF (JM (cm:=true) (use:=some (assign (.Name x aJ) X.env)) (RR:=λ_ s'=>SP X a5 D .next s') S hc hi hg ht he hs I h _ λa9 s2 H2 fp ah H' s' I2 f2 J q=>?_) (λ_ s' hq=>GE (GE hq)) λ_ _ e=>e);have I5:Inv X a5 σ H' s':=by
  have:=W4 (h':=s'.heap) I2 f2 J (.refl ..);exact this
 show wpAny _ X.A (assign (.Name x aJ) X.env (.ref a9)) _ _ s';obtain⟨m,hn,_⟩:=J.loc;have nt:s2.heap.objs.size≠X.env.locals:=Nat.ne_of_gt I2.lt;have nC:∀b o,s2.heap.get? b=some o->b≠s2.heap.objs.size:=λb o e=>UU (Heap.lt_size e);have cC:∀y c,X.env.cells.lookup y=some c->c≠s2.heap.objs.size:=λy c e=>by
  obtain⟨v,o,ho,_⟩:=I2.cell y c e;exact nC c o ho
 refine wpAny_assign_Name (V0 I5 hN gP (.inl hx) (v:=.ref a9) rfl (λs6 I6 k6=>?_) (.inr hx));obtain⟨a,pd,ha⟩:=k6;have pe:a≠s2.heap.objs.size:=by
  rcases ha with z|z
  ·rw[z];exact nt.symm
  ·exact cC x a z
 refine⟨m,hn.sameBut pd pe.symm,λh' sb=>?_⟩;refine⟨_,H',I6.turned (t':=s6.toks) (it:=s2.heap.objs.size) (λb o hb e=>sb.extBut b o hb e) ?_ nt (.inr (U3 I2.ok.above (U1 I2.lt))) cC λp hp=>?_,q⟩
 ·have fr:H' s2.heap.objs.size=none:=J.free
  exact fr
 ·exact nC p.1 p.2 (I2.pin p hp).1
end
theorem Gb{K:PySem.W.Frag}{a a9:Addr}{xs:List V}{g:TG}{tt:TT}{te:TE}{dq:St}{H1:Hp}{Q:VK}(Pv:Nat->Hp->Prop)(h0:Pv 0 (upd H1 a9 (.lst [])))(hl:∀i H,i<=xs.length->Pv i H->SqL K H a xs)(hs:∀i x H,xs[i]?=some x->Pv i H->g x dq H λca H4=>(ExtS dq ca/\ca.length=dq.length)/\tt ca H4 λb H5=>
   if b=true then te ca H5 λv H6=>∃ys,H6 a9=some (.lst ys)/\ys.length<sizeLine/\Pv (i+1) (upd H6 a9 (.lst (ys++[v]))) else Pv (i+1) H5)(hd:∀H,Pv xs.length H->Q (.ref a9) H):q4m (Itl K a) a9 g tt te dq H1 Q:=by
 refine⟨λi m H=>m=xs.length-i/\i<=xs.length/\Pv i H,⟨xs.length,by simp,Db _,h0⟩,?_⟩;rintro i m H ⟨rfl,hi,p⟩;have q:=hl i H hi p;by_cases bS:i<xs.length
 ·refine .inr ⟨⟨xs,xs[i],q,by simp[bS]⟩,Pv (i+1),λH' p'=>⟨xs.length-(i+1),by lia,rfl,bS,p'⟩,λx H' y=>?_⟩
  obtain⟨e,y⟩:=y;subst e;exact hs i x _ (y xs q) p
 ·have e:i=xs.length:=by lia
  subst e;exact .inl ⟨⟨xs,q,Ux _⟩,hd H p⟩
theorem KC{a9:Addr}{lo:Int}{n:Nat}{g:TG}{tt:TT}{te:TE}{dq:St}{H1:Hp}{Q:VK}(Pv:Nat->Hp->Prop)(h0:Pv 0 (upd H1 a9 (.lst [])))(hs:∀(i:Nat) H,i<n->Pv i H->g (.int (lo+i)) dq H λca H4=>(ExtS dq ca/\ca.length=dq.length)/\tt ca H4 λb H5=>
   if b=true then te ca H5 λv H6=>∃ys,H6 a9=some (.lst ys)/\ys.length<sizeLine/\Pv (i+1) (upd H6 a9 (.lst (ys++[v]))) else Pv (i+1) H5)(hd:∀H,Pv n H->Q (.ref a9) H):q4m (Itr lo n) a9 g tt te dq H1 Q:=by
 refine⟨λi m H=>m=n-i/\i<=n/\Pv i H,⟨n,by simp,Db _,h0⟩,?_⟩;rintro i m H ⟨rfl,hi,p⟩;by_cases bS:i<n
 ·refine .inr ⟨bS,Pv (i+1),λH' p'=>⟨n-(i+1),by lia,rfl,bS,p'⟩,λx H' y=>?_⟩
  obtain⟨e,y⟩:=y;subst e y;exact hs i _ bS p
 ·have e:i=n:=by lia
  subst e;exact .inl ⟨Ux _,hd H p⟩
def clOf(env:Env):List (Str×NameKind)->List (Str×Addr)->List (Str×Addr)
 | [],cs=>cs
 | (n,k)::r,cs=>clOf env r (if(k==NameKind.free)=true then(n,(env.cells.lookup n).getD 0)::cs else cs)
theorem q3V{env:Env}(scope:Scope)(h:∀p∈scope.names,p.2=.free->∃c,env.cells.lookup p.1=some c):closureFor scope env=pure (clOf env scope.names []):=by
 unfold closureFor;generalize([]:List (Str×Addr))=cs0;generalize scope.names=ns at h;have key:∀(ns:List (Str×NameKind))(cs:List (Str×Addr)),(∀p∈ns,p.2=.free->∃c,env.cells.lookup p.1=some c) ->
   (forIn ns cs λ(x:Str×NameKind) (r:List (Str×Addr))=>(match x with|(name,kind)=>if(kind==NameKind.free)=true then do let c <-cellOf env name;pure (ForInStep.yield ((name,c)::r)) else pure (ForInStep.yield r):Sem (ForInStep (List (Str×Addr)))))=pure (clOf env ns cs):=by
  intro ns
  induction ns with
  |nil=>intro cs _;rfl
  |cons p r ih=>
   intro cs hp;obtain⟨n,k⟩:=p;rw[D8];by_cases hk:(k==NameKind.free)=true
   ·obtain⟨c,hc⟩:=hp (n,k) Di (by simpa using hk)
    have cf:cellOf env n=pure c:=by unfold cellOf;rw[hc]
    simp only[hk,Uc,cf,pure_bind];rw[ih _ λq hq=>hp q (U4 _ hq)];have cN:List.lookup n env.cells=some c:=hc;simp[clOf,hk,cN]
   ·simp only[hk,U9,G2,pure_bind]
    rw[ih _ λq hq=>hp q (U4 _ hq)];simp[clOf,hk]
 have:=key ns cs0 h;rw[show(do
   let mut cs:=cs0
   for (name,kind) in ns do
    if kind == .free then cs:=(name, <-cellOf env name)::cs
   return cs:Sem (List (Str×Addr)))=(forIn ns cs0 λ(x:Str×NameKind) (r:List (Str×Addr))=>(match x with|(name,kind)=>if(kind==NameKind.free)=true then do let c <-cellOf env name;pure (ForInStep.yield ((name,c)::r)) else pure (ForInStep.yield r):Sem (ForInStep (List (Str×Addr))))) >>= pure from rfl]
 rw[this,pure_bind]
theorem JN{env:Env}:∀(ns:List (Str×NameKind))(cs:List (Str×Addr)),(∀p∈ns,p.2=.free->∃c,env.cells.lookup p.1=some c)->(∀x c,cs.lookup x=some c->env.cells.lookup x=some c)->∀x c,(clOf env ns cs).lookup x=some c->env.cells.lookup x=some c
 | [],cs,_,h,x,c,e=>h x c e
 | (n,k)::r,cs,hp,h,x,c,e=>by
  refine JN r _ (λq hq=>hp q (U4 _ hq)) (λy d e'=>?_) x c e;split at e'
  ·rename_i hk
   obtain⟨c',hc⟩:=hp (n,k) Di (by simpa using hk);rw[U0]at e';have cN:List.lookup n env.cells=some c':=hc;rw[cN]at e';split at e'
   ·rename_i hy
    have ph:y=n:=by simpa using hy
    subst ph;rw[<-e'];exact cN
   ·exact h y d e'
  ·exact h y d e'
theorem JO{env:Env}:∀(ns:List (Str×NameKind))(cs:List (Str×Addr))(x:Str),((x,NameKind.free)∈ns\/∃c,cs.lookup x=some c)->∃c,(clOf env ns cs).lookup x=some c
 | [],cs,x,h=>by
  rcases h with h|h
  ·cases h
  ·exact h
 | (n,k)::r,cs,x,h=>by
  refine JO r _ x ?_;rcases h with h|⟨c,h⟩
  ·rcases UQ.mp h with h|h
   ·injection h with h1 h2
    subst h1 h2;right;exact⟨_,by simp[U0];rfl⟩
   ·exact .inl h
  ·right
   split
   ·rw[U0]
    split
    ·exact⟨_,rfl⟩
    ·exact⟨c,h⟩
   ·exact⟨c,h⟩
def jq(scope:Scope)(env:Env)(N:List Str)(bs:List Bool):Bool :=
 scope.names.all (λp=>p.2 != .cell)&&(scope.kind == .function)&&scope.names.all (λp=>p.2 != .local||scope.names.lookup p.1==some .local)&&(bs.length==N.length)
  && scope.names.all (λp=>p.2 != .free||(env.kindOf p.1==some .cell||env.kindOf p.1==some .free))&&(N.zip bs).all (λp=> !p.2||scope.names.lookup p.1==some .free)
theorem mem_of_lookup{β:Type}{x:Str}{b:β}:∀{l:List (Str×β)},l.lookup x=some b->(x,b)∈l
 | [],h=>by simp at h
 | (y,c)::r,h=>by
  rw[U0]at h;split at h
  ·rename_i hy
   have:x=y:=by simpa using hy
   subst this;cases h;exact Di
  ·exact U4 _ (mem_of_lookup h)
theorem vN{env:Env}:∀{names:List (Str×NameKind)}{x:Str}{k:NameKind},
  (names.map λ(n,k)=>if(k==NameKind.free&&env.scope.kind == .function&&env.kindOf n==some .cell) then(n,NameKind.cell) else(n,k)).lookup x=some k->names.lookup x=some k\/(k=.cell/\names.lookup x=some .free)
 | [],_,_,h=>by simp at h
 | (n,k')::r,x,k,h=>by
  have ih:=@vN env r x k;have h':List.lookup x ((if(k'==NameKind.free&&env.scope.kind == .function&&env.kindOf n==some .cell)=true then(n,NameKind.cell) else(n,k'))::(r.map λ(n,k)=>if(k==NameKind.free&&env.scope.kind == .function&&env.kindOf n==some .cell) then(n,NameKind.cell) else(n,k)))=some k:=h;by_cases hc:(k'==NameKind.free&&env.scope.kind == .function&&env.kindOf n==some .cell)=true
  ·rw[GL hc,U0]at h'
   rw[U0];have hf:k'=.free:=by
    cases k'<;>first|rfl|(exfalso;revert hc;simp)
   split at h'
   ·right
    injection h' with h'
    rw[hf];exact⟨h'.symm,rfl⟩
   ·exact ih h'
  ·rw[GH hc,U0]at h'
   rw[U0];split at h'
   ·exact .inl h'
   ·exact ih h'
theorem CompS.of{X:Cx}{scope:Scope}{bs:List Bool}{ext:List Str}{a5:List (Addr×Obj)}{σ:St}{H:Hp}{s:Shared}(I:Inv X a5 σ H s)(h:jq scope X.env X.N bs=true):CompS X scope (clOf X.env scope.names []) bs ext:=by
 unfold jq at h;simp only[Df,DX]at h;obtain⟨⟨⟨⟨⟨h1,h2⟩,h3⟩,h4⟩,h5⟩,h6⟩:=h;have hc:∀p∈scope.names,p.2=.free->∃c,X.env.cells.lookup p.1=some c:=λp hp hf=>by
  have:=h5 p hp;rw[hf]at this;refine I.ok.has p.1 ?_;simpa using this
 have fB:∀{x:Str},scope.names.lookup x≠some .cell:=λ{x} e=>by
  have:=h1 _ (mem_of_lookup e);simp at this
 refine⟨q3V scope hc,λy hy=>by simpa using h1 y hy,by simpa using h2,λy hy hl=>?_,λx c e=>JN scope.names [] hc (λ_ _ z=>by simp at z) x c e,λx hx=>?_,by simpa using h4,λi x hN hb hv=>?_⟩
 ·have:=h3 y hy
  rw[hl]at this;simpa using this
 ·refine JO scope.names [] x (.inl ?_)
  rcases hx with hx|hx
  ·rcases vN hx with z|⟨_,z⟩
   ·exact absurd z fB
   ·exact mem_of_lookup z
  ·rcases vN hx with z|⟨z,_⟩
   ·exact mem_of_lookup z
   ·cases z
 ·have hz:(x,true)∈X.N.zip bs:=by
   have:(X.N.zip bs)[i]?=some (x,true):=by
    rw[List.getElem?_zip_eq_some];exact⟨hN,hb⟩
   exact Uy this
  have hf:=h6 _ hz;have hf:scope.names.lookup x=some .free:=by simpa using hf
  have hk:=h5 _ (mem_of_lookup hf);have hk:X.env.kindOf x=some .cell\/X.env.kindOf x=some .free:=by simpa using hk
  refine⟨λz=>?_,hk,?_⟩
  ·rcases vN z with q|⟨q,_⟩
   ·rw[hf]at q;cases q
   ·cases q
  ·rcases hk with q|q
   ·exact .inr (.inl q)
   ·exact .inr (.inr q)
section
variable {X:Cx}{bX tg au:Expr}{bT:List Expr}{scope:Scope}{bs:List Bool}{ext:List Str}{pos:Pos}{wi:TI}{g:TG}{tt:TT}{te:TE}
abbrev cxB(X:Cx)(scope:Scope)(ext:List Str)(fp:List Addr)(s:Shared)(H:Hp):Cx:=cxC X scope (clOf X.env scope.names []) (X.N++ext) fp s H
theorem q6R(bs:List Bool)(ext:List Str)(hi:PI X tg au wi)(hg:∀fp s H,PG (cxB X scope ext fp s H) tg g)(ht:∀fp s H,PTs (cxB X scope ext fp s H) bT tt)(he:∀fp s H,PE (cxB X scope ext fp s H) bX te)(hk:jq scope X.env X.N bs=true:=by rfl)(hc:X.calm=true:=by rfl)(hs:∀x,foldedSetIterable au X.env x=pure x:=by intro _;rfl):
  PE X (.ListComp bX [⟨tg,au,bT,0⟩] scope pos) (xu wi bs ext.length g tt te):=λa5 s σ H Q I h=>q2C (cm:=true) (CompS.of I hk) hc hi hg ht he hs a5 s σ H Q I h
theorem q7l{i:Nat}{x:Str}{aJ cD:Pos}(bs:List Bool)(ext:List Str)(hN:X.N.Nodup)(gP:X.N[i]?=some x)(hx:X.env.scope.names.lookup x=some .local)(hi:PI X tg au wi)(hg:∀fp s H,PG (cxB X scope ext fp s H) tg g)(ht:∀fp s H,PTs (cxB X scope ext fp s H) bT tt)(he:∀fp s H,PE (cxB X scope ext fp s H) bX te)(hk:jq scope X.env X.N bs=true:=by rfl)(hc:X.calm=true:=by rfl)(gQ:swapsWith (.ListComp bX [⟨tg,au,bT,0⟩] scope pos) (some (.Name x aJ)) cD.line X.env=pure true:=by rfl)(hs:∀x,foldedSetIterable au X.env x=pure x:=by intro _;rfl):
  PS X (.Assign [.Name x aJ] (.ListComp bX [⟨tg,au,bT,0⟩] scope pos) cD) (tAsg (xu wi bs ext.length g tt te) (qT i)):=λa5 s σ H D I h=>q2O (CompS.of I hk) hc hN gP hx hi hg ht he gQ hs a5 s σ H D I h
end
def q6o(i j:Int):Prop:=0<j/\j.natAbs.log2<9000
theorem q7c{i j:Int}(h:q6o i j):Builtin.divisionGoesByPylong i j=false:=PyProof.noPylong_of_log2 h.2
theorem Vh{X:Cx}:OpR X (binaryOp .FloorDiv) (rI q6o λi j=>.int (i / j)):=opI λi j _ _ _ _ _ hc q=>by
 refine floordiv_int (by have:=hc.1;lia) ?_ (.inl (q7c hc));rw[Ra _ (by have:=hc.1;lia)];exact q
section
variable {σ:St}{H:Hp}{Q:VK}
theorem rd_I{C:Int->Int->Prop}{g:Int->Int->V}{i j:Int}:rI C g (.int i) (.int j) H Q=(C i j/\Q (g i j) H):=
 propext ⟨λzz=>by obtain⟨_,_,e1,e2,h⟩:=zz;cases e1;cases e2;exact h,λh=>⟨i,j,rfl,rfl,h⟩⟩
theorem q0Y{g:Int->Int->V}{i j:Int}:rI0 g (.int i) (.int j) H Q=Q (g i j) H :=
 propext ⟨λzz=>by obtain⟨_,_,e1,e2,h⟩:=zz;cases e1;cases e2;exact h,λh=>⟨i,j,rfl,rfl,h⟩⟩
theorem rd_U{g:Int->V}{i:Int}:rU g (.int i) H Q=Q (g i) H :=
 propext ⟨λzz=>by obtain⟨_,e1,h⟩:=zz;cases e1;exact h,λh=>⟨i,rfl,h⟩⟩
theorem Vb{t:TE}{R:Bool->Hp->Prop}:QM t σ H R=t σ H λx H'=>∃k,x=.bl k/\R k H':=rfl
theorem q1F{k:Bool}{R:Bool->Prop}:(∃k',V.bl k=.bl k'/\R k')=R k:=propext ⟨λzz=>by obtain⟨_,e,h⟩:=zz;cases e;exact h,λh=>⟨k,rfl,h⟩⟩
theorem q1b{i:Int}{R:Int->Prop}:(∃j,([V.int i]:List V)=[V.int j]/\R j)=R i:=propext ⟨λzz=>by obtain⟨_,e,h⟩:=zz;cases e;exact h,λh=>⟨i,rfl,h⟩⟩
theorem q0l{a b:Int}{R:Int->Int->Prop}:(∃i j,([V.int a,V.int b]:List V)=[V.int i,V.int j]/\R i j)=R a b:=propext ⟨λzz=>by obtain⟨_,_,e,h⟩:=zz;cases e;exact h,λh=>⟨a,b,rfl,h⟩⟩
theorem q0i{a:Addr}{R:Addr->List V->Prop}:(∃p ys,([V.ref a]:List V)=[V.ref p]/\R p ys)=∃ys,R a ys:=propext ⟨λzz=>by obtain⟨_,ys,e,h⟩:=zz;cases e;exact⟨ys,h⟩,λ⟨ys,h⟩=>⟨a,ys,rfl,h⟩⟩
theorem zG{p x:Addr}{o o':HO}(hp:H p=none)(h:H x=some o):upd H p o' x=some o:=by rw[upd_ne (qU h hp)];exact h
theorem jR{p x:Addr}{o o':HO}(hn:x≠p)(h:H x=some o):upd H p o' x=some o:=by rw[upd_ne hn];exact h
theorem Vz{p x:Addr}{o':HO}(h:upd H p o' x=none):H x=none/\x≠p:=by
 have hx:x≠p:=λe=>by subst e;rw[upd_same]at h;cases h
 rw[upd_ne hx]at h;exact⟨h,hx⟩
theorem Same.upd{H1:Hp}{p:Addr}{o:HO}(s:Same H H1)(h:H p=none):Same H (upd H1 p o):=λb o' e=>by
 rw[upd_ne (qU e h)];exact s b o' e
theorem ExtS.nl:ExtS [] []:=λ_ _ h=>h
theorem ExtS.no{a b:St}{x:Option V}(h:ExtS a b):ExtS (none::a) (x::b):=λi v e=>by
 cases i with
 |zero=>simp at e
 |succ i=>simpa using h i v (by simpa using e)
theorem ExtS.sm{a b:St}{x:Option V}(h:ExtS a b):ExtS (x::a) (x::b):=λi v e=>by
 cases i with
 |zero=>simpa using e
 |succ i=>simpa using h i v (by simpa using e)
end
structure Def(P:Program)(w:World)(K:PySem.W.Frag)(mg:Str->Option Value)(base:Heap)(x:Str)(k:Nat)(ps:List Str)(sp:Sp):Prop where
 ex:∃(f:Addr)(fd:FuncData),mg x=some (.ref f)/\W.keepIn K (.ref f)=true/\Binds K fd ps []/\FnOk P w K mg base CX0 k f fd ps sp
section
variable {X:Cx}{x:Str}{k:Nat}{ps:List Str}{sp:Sp}{p pos:Pos}{e:Expr}{es:List Expr}{t:TA}
end
def rIsi(K:PySem.W.Frag):List V->Hp->VK->Prop:=λxs H Q=>∃x n t b,xs=[x,.ty n]/\TyOf K H x (.type t)/\W.kitOne K (.type t) (.type n)=some b/\Q (.bl b) H
theorem q0j{X:Cx}:zF X (.builtin "isinstance") (rIsi X.K):=by
 intro a5 s σ H xs us Q I r h;obtain⟨x,n,t,b,rfl,ty,e,q⟩:=h;obtain⟨u,v,rfl,ru,rv⟩:=vals2 r;obtain rfl:v=Value.type n:=rv;exact Zg I ru ty e λtk=>⟨.bl b,H,I.tok tk,rfl,q⟩
inductive DE(K:PySem.W.Frag)(H:Hp):Nat->V->V->Bool->Prop
 |flat {n:Nat}{x y:V}:jO x=true->jO y=true->DE K H n x y (eqV x y)
 |same {n:Nat}{a:Addr}:DE K H n (.ref a) (.ref a) true
 |tup {n:Nat}{a b:Addr}{xs ys:List V}{e:Nat->Bool}:a≠b->SqT K H a xs->SqT K H b ys->(∀(j:Nat) x y,xs[j]?=some x->ys[j]?=some y->DE K H n x y (e j))->DE K H (n+1) (.ref a) (.ref b) ((List.range (min xs.length ys.length)).all e&&xs.length==ys.length)
 |lst {n:Nat}{a b:Addr}{xs ys:List V}{e:Nat->Bool}:a≠b->SqL K H a xs->SqL K H b ys->xs.length=ys.length->(∀(j:Nat) x y,xs[j]?=some x->ys[j]?=some y->DE K H n x y (e j))->DE K H (n+1) (.ref a) (.ref b) ((List.range xs.length).all e)
 |lstN {n:Nat}{a b:Addr}{xs ys:List V}:a≠b->SqL K H a xs->SqL K H b ys->xs.length≠ys.length->DE K H (n+1) (.ref a) (.ref b) false
theorem xV{A:Around}:A.in1.units=A.units+1:=rfl
theorem DE.eqAt{X:Cx}{a5:List (Addr×Obj)}{σ:St}{H:Hp}{s:Shared}(I:Inv X a5 σ H s){n:Nat}{x y:V}{b:Bool}(d:DE X.K H n x y b):∀{A:Around}{u v:Value},A.units+n<cLine->RelV x u->RelV y v->SeqAt.EqAt A s u v b:=by
 induction d with
 |flat f g=>intro A u v _ rx ry;exact q27 rx ry f g
 |same=>
  intro A u v _ rx ry;obtain rfl:u=_:=rx;obtain rfl:v=_:=ry;exact SeqAt.EqAt.same _
 | @tup n a b xs ys e ne ha hb _ ih=>
  intro A u v hu rx ry;obtain rfl:u=Value.ref a:=rx;obtain rfl:v=Value.ref b:=ry;obtain⟨its,r1,p1,_⟩:=I.tuple ha;obtain⟨bW,r2,p2,_⟩:=I.tuple hb;have:=SeqAt.RcAt.tuples (A:=A) (e:=e) p1 p2 (by lia) λj h1 h2=>by
   have l1:j<xs.length:=by rw[r1.length];simpa using h1
   have l2:j<ys.length:=by rw[r2.length];simpa using h2
   obtain⟨u1,q1,s1⟩:=r1.get (Ut l1);obtain⟨u2,q2,s2⟩:=r2.get (Ut l2);have e1:its.toArray[j]=u1:=by
    have:=Us.mp q1;obtain⟨_,z⟩:=this;simpa using z
   have e2:bW.toArray[j]=u2:=by
    have:=Us.mp q2;obtain⟨_,z⟩:=this;simpa using z
   rw[e1,e2];exact ih j _ _ (Ut l1) (Ut l2) (by rw[xV];lia) s1 s2
  rw[UF,UF, <-r1.length, <-r2.length]at this;exact .of_refs ne this
 | @lst n a b xs ys e ne ha hb hl _ ih=>
  intro A u v hu rx ry;obtain rfl:u=Value.ref a:=rx;obtain rfl:v=Value.ref b:=ry;obtain⟨its,r1,p1,_⟩:=I.list ha;obtain⟨bW,r2,p2,_⟩:=I.list hb;have:=SeqAt.RcAt.lists (A:=A) (e:=e) p1.isList p2.isList (by simp[<-r1.length, <-r2.length,hl]) (by lia) λj h1 h2=>by
   have l1:j<xs.length:=by rw[r1.length];simpa using h1
   have l2:j<ys.length:=by rw[r2.length];simpa using h2
   obtain⟨u1,q1,s1⟩:=r1.get (Ut l1);obtain⟨u2,q2,s2⟩:=r2.get (Ut l2);have e1:its.toArray[j]=u1:=by
    have:=Us.mp q1;obtain⟨_,z⟩:=this;simpa using z
   have e2:bW.toArray[j]=u2:=by
    have:=Us.mp q2;obtain⟨_,z⟩:=this;simpa using z
   rw[e1,e2];exact ih j _ _ (Ut l1) (Ut l2) (by rw[xV];lia) s1 s2
  rw[UF, <-r1.length]at this;exact .of_refs ne this
 | @lstN n a b xs ys ne ha hb hl=>
  intro A u v hu rx ry;obtain rfl:u=Value.ref a:=rx;obtain rfl:v=Value.ref b:=ry;obtain⟨its,r1,p1,_⟩:=I.list ha;obtain⟨bW,r2,p2,_⟩:=I.list hb;exact .of_refs ne (SeqAt.RcAt.lists_lengths p1.isList p2.isList (by simp[<-r1.length, <-r2.length,hl]) (by lia))
structure Nms(mg:Str->Option Value):Prop where
 abs:mg "abs" = none
 len:mg "len" = none
 min:mg "min" = none
 max:mg "max" = none
 sum:mg "sum" = none
 sorted:mg "sorted" = none
 all:mg "all" = none
 any:mg "any" = none
 isinstance:mg "isinstance" = none
 range:mg "range" = none
 int:mg "int" = none
 list:mg "list" = none
 str:mg "str" = none
 bool:mg "bool" = none
 tuple:mg "tuple" = none
 zip:mg "zip" = none
 enumerate:mg "enumerate" = none
 dict:mg "dict" = none
theorem q6A:bootBuiltins "abs" = some (.builtin "abs"):=by decide+kernel
theorem Qe:bootBuiltins "len" = some (.builtin "len"):=by decide+kernel
theorem q7n:bootBuiltins "all" = some (.builtin "all"):=by decide+kernel
theorem qD:bootBuiltins "isinstance" = some (.builtin "isinstance"):=by decide+kernel
theorem VJ:bootBuiltins "int" = some (.type "int"):=by decide+kernel
theorem jb:bootBuiltins "list" = some (.type "list"):=by decide+kernel
theorem q0N:bootBuiltins "str" = some (.type "str"):=by decide+kernel
theorem q1Y:bootBuiltins "bool" = some (.type "bool"):=by decide+kernel
theorem VI:bootBuiltins "tuple" = some (.type "tuple"):=by decide+kernel
def SameB(b:Addr)(H H':Hp):Prop:=∀x o,H x=some o->x≠b->H' x=some o
theorem SameB.trans{b:Addr}{H H1 H2:Hp}(h:SameB b H H1)(k:SameB b H1 H2):SameB b H H2:=λx o e n=>k x o (h x o e n) n
theorem SameB.upd{b p:Addr}{H H1:Hp}{o:HO}(s:SameB b H H1)(h:H p=none\/p=b):SameB b H (upd H1 p o):=λx o' e n=>by
 have:x≠p:=by
  rcases h with h|h
  ·exact qU e h
  ·rw[h];exact n
 rw[upd_ne this];exact s x o' e n
def q3e:List V->Hp->VK->Prop:=λvs H Q=>∃p ys,vs=[.ref p]/\H p=some (.lst ys)/\Q (.int ys.length) H
theorem zn{X:Cx}:zF X (.builtin "len") q3e:=by
 intro a5 s σ H xs us Q I r h;obtain⟨p,ys,e,h,q⟩:=h;exact jE a5 s σ H xs us Q I r ⟨p,ys,e,.inl (SqL.of h),q⟩
section
variable {K:PySem.W.Frag}{H:Hp}{Q:VK}{p:Addr}{xs:List V}{v:V}{i:Int}
theorem Wx(h:H p=some (.lst xs))(e:atI xs i=some v)(q:Q v H):rIxL K (.ref p) (.int i) H Q:=⟨p,xs,i,v,rfl,rfl,SqL.of h,e,q⟩
theorem q5q(h:H p=some (.tup xs))(e:atI xs i=some v)(q:Q v H):rIxT K (.ref p) (.int i) H Q:=⟨p,xs,i,v,rfl,rfl,SqT.of h,e,q⟩
theorem at0{α:Type}{x:α}{l:List α}:atI (x::l) 0=some x:=zd (j:=0) rfl
theorem at1{α:Type}{x y:α}{l:List α}:atI (x::y::l) 1=some y:=zd (j:=1) rfl
theorem q2T{j:Nat}{R:Hp->Prop}(h:H p=some (.lst xs))(e:ixN xs.length i=some j)(q:R (upd H p (.lst (xs.set j v)))):q2W (.ref p) (.int i) v H R:=⟨p,xs,i,j,rfl,rfl,h,e,q⟩
theorem WR{x y:V}(h:scal x y=true)(q:Q (.bl (decide (x=y))) H):rEq x y H Q:=⟨h,q⟩
theorem q6T{x y:V}(h:scal x y=true)(q:Q (.bl (!decide (x=y))) H):rNe x y H Q:=⟨h,q⟩
theorem q6l(h:H p=some (.lst xs))(q:Q (.int xs.length) H):q3e [.ref p] H Q:=⟨p,xs,rfl,h,q⟩
theorem JA{σ:St}{x y:V}{i j:Nat}{R:St->Hp->Prop}(h:H p=some (.tup [x,y]))(q:R ((σ.set i (some x)).set j (some y)) H):gTup K 2 (vk (qT i) (vk (qT j) gNil)) (.ref p) σ H R :=
 ⟨p,_,rfl,SqT.of h,rfl,_,_,rfl,_,_,rfl,rfl,q⟩
theorem Jz{σ:St}{x y z:V}{i j k:Nat}{R:St->Hp->Prop}(h:H p=some (.tup [x,y,z]))(q:R (((σ.set i (some x)).set j (some y)).set k (some z)) H):gTup K 3 (vk (qT i) (vk (qT j) (vk (qT k) gNil))) (.ref p) σ H R :=
 ⟨p,_,rfl,SqT.of h,rfl,_,_,rfl,_,_,rfl,_,_,rfl,rfl,q⟩
theorem xl{i j:Int}:(V.int i=V.int j)=(i=j):=propext ⟨λh=>by cases h;rfl,λh=>by rw[h]⟩
theorem xk{i j:Str}:(V.str i=V.str j)=(i=j):=propext ⟨λh=>by cases h;rfl,λh=>by rw[h]⟩
end
section
variable {X:Cx}{i j k:Nat}{x y z:Str}{px py pz pos:Pos}{kk:Nat}
theorem q7h(hN:X.N.Nodup)(hc:X.calm=true)(hi:X.N[i]?=some x)(hj:X.N[j]?=some y)(lx:Loc X.env.scope x)(ly:Loc X.env.scope y)(fx:X.fn x=true\/X.env.scope.names.lookup x=some .local)(fy:X.fn y=true\/X.env.scope.names.lookup y=some .local):
  PG X (.Tuple [.Name x px,.Name y py] kk pos) (gTup X.K 2 (vk (qT i) (vk (qT j) gNil))):=YI hc (xh (jm hN hi lx fx) (xh (jm hN hj ly fy) Xl))
theorem q6J(hN:X.N.Nodup)(hc:X.calm=true)(hi:X.N[i]?=some x)(hj:X.N[j]?=some y)(hk:X.N[k]?=some z)(lx:Loc X.env.scope x)(ly:Loc X.env.scope y)(lz:Loc X.env.scope z)(fx:X.fn x=true\/X.env.scope.names.lookup x=some .local)(fy:X.fn y=true\/X.env.scope.names.lookup y=some .local)(fz:X.fn z=true\/X.env.scope.names.lookup z=some .local):
  PG X (.Tuple [.Name x px,.Name y py,.Name z pz] kk pos) (gTup X.K 3 (vk (qT i) (vk (qT j) (vk (qT k) gNil)))):=YI hc (xh (jm hN hi lx fx) (xh (jm hN hj ly fy) (xh (jm hN hk lz fz) Xl)))
end
section
variable {X:Cx}{K:PySem.W.Frag}
theorem qf(h:X.K=K):IxR X (rIxL K):=h▸q30
theorem qh(h:X.K=K):IxR X (rIxT K):=h▸q6n
theorem QU(h:X.K=K):SlR X (rSlL K):=h▸q3c
theorem zT(h:X.K=K):OpR X (compareOp .In) (rIn K false):=h▸YO
theorem vo(h:X.K=K):zF X (.builtin "isinstance") (rIsi K):=h▸q0j
def tTru(K:PySem.W.Frag)(ta:TE):TT:=λσ H Q=>ta σ H λx H'=>∃k,TruV K x H' k/\Q k H'
def q2u(x:V)(H:Hp)(k:Prop):Prop:=∃p xs,x=.ref p/\H p=some (.lst xs)/\k
theorem q7o{p:Addr}{xs:List V}{H:Hp}{k:Prop}(h:H p=some (.lst xs))(q:k):q2u (.ref p) H k:=⟨p,xs,rfl,h,q⟩
def tLM(r:V->List V->Hp->VK->Prop)(to:TE)(t:TA):TE:=λσ H Q=>to σ H λx H1=>q2u x H1 (t σ H1 λvs H2=>r x vs H2 Q)
end
def ForW(J:It)(g:TG)(tb:TS)(D:Ends)(σ:St)(H1:Hp):Prop:=∃W:Nat->Nat->St->Hp->Prop,(∃m,W 0 m σ H1)/\∀i m σ H,W i m σ H ->
 (J.stop i H/\D.nx σ H)\/(J.go i H/\∃N:St->Hp->Prop,(∀ah H',N ah H'->∃m',m'<m/\W (i+1) m' ah H')/\∀x H',J.yld i H x H'->g x σ H' λcK H2=>tb { D with nx:=N,ct:=N,bk:=D.nx } cK H2)
theorem Jf{wi:TI}{g:TG}{tb:TS}{D:Ends}{σ:St}{H:Hp}:tFor wi g tb D σ H=wi σ H λJ H1=>ForW J g tb D σ H1:=rfl
def q1M(K:PySem.W.Frag)(x:V)(H:Hp)(R:It->Hp->Prop):Prop:=∃a,x=.ref a/\(∃xs,SqL K H a xs)/\R (Itl K a) H
theorem jU{K:PySem.W.Frag}{tl:TE}{σ:St}{H:Hp}{R:It->Hp->Prop}:Kw K tl σ H R=tl σ H λx H1=>q1M K x H1 R:=rfl
theorem q6L{K:PySem.W.Frag}{p:Addr}{xs:List V}{H:Hp}{R:It->Hp->Prop}(h:H p=some (.lst xs))(q:R (Itl K p) H):q1M K (.ref p) H R:=⟨p,rfl,⟨xs,SqL.of h⟩,q⟩
def q1R(vs:List V)(H:Hp)(R:It->Hp->Prop):Prop:=∃j:Int,vs=[.int j] /\ -(2^62)<=j/\j<2^62/\R (Itr 0 j.toNat) H
theorem jT{ta:TA}{σ:St}{H:Hp}{R:It->Hp->Prop}:WC ta σ H R=ta σ H λvs H1=>q1R vs H1 R:=rfl
theorem q77{j:Int}{H:Hp}{R:It->Hp->Prop}(h1 : -(2^62)<=j)(h2:j<2^62)(q:R (Itr 0 j.toNat) H):q1R [.int j] H R:=⟨j,rfl,h1,h2,q⟩
theorem q0r{k:Int}{R:Int->Prop}:(∃i,V.int k=.int i/\R i)=R k:=propext ⟨λzz=>by obtain⟨_,e,h⟩:=zz;cases e;exact h,λh=>⟨k,rfl,h⟩⟩
theorem jB{K:PySem.W.Frag}{H:Hp}{Q:VK}{x:V}{n t:String}{b:Bool}(ty:TyOf K H x (.type t))(e:W.kitOne K (.type t) (.type n)=some b)(q:Q (.bl b) H):rIsi K [x,.ty n] H Q:=⟨x,n,t,b,rfl,ty,e,q⟩
def rEqT(K:PySem.W.Frag):R2:=λx y H Q=>∃a b xs ys e,x=.ref a/\y=.ref b/\SqT K H a xs/\SqT K H b ys/\(∀(j:Nat) x y,xs[j]?=some x->ys[j]?=some y->DE K H 20 x y (e j))/\Q (.bl ((List.range (min xs.length ys.length)).all e&&xs.length==ys.length)) H
theorem q2R{X:Cx}{K:PySem.W.Frag}(hK:X.K=K)(hu:X.A.units+64<cLine):OpR X (compareOp .Eq) (rEqT K):=by
 subst hK;intro a5 s σ H x y v u Q I rx ry h;obtain⟨a,b,xs,ys,e,rfl,rfl,ha,hb,he,q⟩:=h;obtain rfl:v=Value.ref a:=rx;obtain rfl:u=Value.ref b:=ry;obtain⟨its,r1,p1,_⟩:=I.tuple ha;obtain⟨bW,r2,p2,_⟩:=I.tuple hb;refine SeqAt.eq_tupleAt (A:=X.A) (e:=e) p1 p2 (by lia) (λj h1 h2=>?_) ⟨.bl _,H,I,rfl,?_⟩
 ·have l1:j<xs.length:=by rw[r1.length];simpa using h1
  have l2:j<ys.length:=by rw[r2.length];simpa using h2
  obtain⟨u1,q1,s1⟩:=r1.get (Ut l1);obtain⟨u2,q2,s2⟩:=r2.get (Ut l2);have e1:its.toArray[j]=u1:=by
   obtain⟨_,z⟩:=Us.mp q1;simpa using z
  have e2:bW.toArray[j]=u2:=by
   obtain⟨_,z⟩:=Us.mp q2;simpa using z
  rw[e1,e2];exact(he j _ _ (Ut l1) (Ut l2)).eqAt I (by rw[xV];lia) s1 s2
 ·rw[UF,UF, <-r1.length, <-r2.length]
  exact q
def Qv:V->Bool
 |.int _=>true
 |.str _=>true
 |_=>false
def q0Z(K:PySem.W.Frag):R2:=λx y H Q=>∃a xs,Qv x=true/\y=.ref a/\SqT K H a xs/\Q (.bl false) H
def q11(K:PySem.W.Frag):R2:=λx y H Q=>∃a xs,Qv y=true/\x=.ref a/\SqT K H a xs/\Q (.bl false) H
theorem q0z{X:Cx}{K:PySem.W.Frag}(hK:X.K=K)(hu:X.A.units+64<cLine):OpR X (compareOp .Eq) (q0Z K):=by
 subst hK;intro a5 s σ H x y v u Q I rx ry h;obtain⟨a,xs,hf,rfl,ha,q⟩:=h;obtain rfl:u=Value.ref a:=ry;obtain⟨its,r1,p1,_⟩:=I.tuple ha;cases x with
 |int i=>
  obtain⟨t,rfl⟩:=rx;exact SeqAt.RcAt.int_tuple i t p1 (by lia) _ _ _ _ ⟨.bl false,H,I,rfl,q⟩
 |str i=>
  obtain⟨t,rfl⟩:=rx;exact SeqAt.RcAt.str_tuple i t p1 (by lia) _ _ _ _ ⟨.bl false,H,I,rfl,q⟩
 |_=>exact absurd (show false=true from hf) UH
theorem q1d{X:Cx}{K:PySem.W.Frag}(hK:X.K=K)(hu:X.A.units+64<cLine):OpR X (compareOp .Eq) (q11 K):=by
 subst hK;intro a5 s σ H x y v u Q I rx ry h;obtain⟨a,xs,hf,rfl,ha,q⟩:=h;obtain rfl:v=Value.ref a:=rx;obtain⟨its,r1,p1,_⟩:=I.tuple ha;cases y with
 |int i=>
  obtain⟨t,rfl⟩:=ry;exact SeqAt.RcAt.tuple_int i t p1 (by lia) _ _ _ _ ⟨.bl false,H,I,rfl,q⟩
 |str i=>
  obtain⟨t,rfl⟩:=ry;exact SeqAt.RcAt.tuple_str i t p1 (by lia) _ _ _ _ ⟨.bl false,H,I,rfl,q⟩
 |_=>exact absurd (show false=true from hf) UH
theorem q2a{X:Cx}{K:PySem.W.Frag}(hK:X.K=K)(hu:X.A.units+64<cLine):OpR X (compareOp .Eq) (λx y H Q=>rEq x y H Q\/rEqT K x y H Q\/q0Z K x y H Q\/q11 K x y H Q):=
 op_eq.or ((q2R hK hu).or ((q0z hK hu).or (q1d hK hu)))
def q6M(K:PySem.W.Frag):List V->Hp->VK->Prop:=λxs H Q=>∃(x:V)(p:Addr)(ns:List String)(t:String)(b:Bool),xs=[x,.ref p]/\H p=some (.tup (ns.map V.ty))/\TyOf K H x (.type t)/\W.kitAny K (.type t) (ns.map Value.type)=some b/\Q (.bl b) H
theorem KI:∀{ns:List String}{us:List Value},Vals (ns.map V.ty) us->us=ns.map Value.type
 | [],_,h=>by cases h;rfl
 |n::ns,_,h=>by
  cases h with
  |cons r t=>
   have:=KI t;subst this;obtain rfl:=(show _=Value.type n from r);rfl
theorem Zy{X:Cx}{K:PySem.W.Frag}(hK:X.K=K):zF X (.builtin "isinstance") (q6M K):=by
 subst hK;intro a5 s σ H xs us Q I r h;obtain⟨x,p,ns,t,b,rfl,hp,ty,e,q⟩:=h;obtain⟨u,v,rfl,ru,rv⟩:=vals2 r;obtain rfl:v=Value.ref p:=rv;obtain⟨_,its,r1,o,ho,hc,n,hd⟩:=(show ObjOk X.prog X.w H s.heap p (.tup (ns.map V.ty))from I.hok p _ hp);obtain rfl:=KI r1;obtain⟨c,dd,dt,sl⟩:=o;simp only at hc hd;subst hc hd;have fin:∀tk,EP X a5 σ Q (.bool b) { s with toks:=tk }:=λtk=>⟨.bl b,H,I.tok tk,rfl,q⟩;cases ty with
 |non=>cases(show u=Value.none from ru);exact De W.kitx_none I.kIn True.intro ho e (λz=>nomatch z) fin
 |bl y=>cases(show u=Value.bool y from ru);exact De W.kitx_bool I.kIn True.intro ho e (λz=>nomatch z) fin
 |int i=>obtain⟨t,q'⟩:=(show ∃t,u=Value.int i t from ru);cases q';exact De W.kitx_int I.kIn True.intro ho e (λz=>nomatch z) fin
 |str y=>obtain⟨t,q'⟩:=(show ∃t,u=Value.str y t from ru);cases q';exact De W.kitx_str I.kIn True.intro ho e (λz=>nomatch z) fin
 |flt y=>obtain⟨t,q'⟩:=(show ∃t,u=Value.float y t from ru);cases q';exact De RL I.kIn True.intro ho e (λz=>nomatch z) fin
 | @lst a xs ea=>
  cases(show u=Value.ref a from ru);obtain⟨_,_,n,_,h1⟩:=(show ObjOk X.prog X.w H s.heap a (.lst xs)from I.hok a _ ea);exact De DR I.kIn ⟨_,h1,rfl⟩ ho e (λz=>nomatch z) fin
 | @frz a ob xs ea=>
  cases(show u=Value.ref a from ru);obtain⟨_,_,_,n,_,h1⟩:=(show ObjOk X.prog X.w H s.heap a (.frz ob (.lst xs))from I.hok a _ ea);exact De DR I.kIn ⟨_,h1,rfl⟩ ho e (λz=>nomatch z) fin
 | @tup a xs ea=>
  cases(show u=Value.ref a from ru);obtain⟨_,_,_,o2,h1,h2,_⟩:=(show ObjOk X.prog X.w H s.heap a (.tup xs)from I.hok a _ ea);exact De RM I.kIn ⟨o2,h1,h2⟩ ho e (λz=>nomatch z) fin
 | @dK a kvs ea=>
  cases(show u=Value.ref a from ru);obtain⟨_,_,vs,_,p2⟩:=(show ObjOk X.prog X.w H s.heap a (.dK kvs)from I.hok a _ ea);obtain⟨o2,es,ep,h1,h2,_⟩:=p2;exact De DS I.kIn ⟨o2,h1,h2.1⟩ ho e (λz=>nomatch z) fin
 | @dT a kvs ea=>
  cases(show u=Value.ref a from ru);obtain⟨_,_,xs,_,o2,es,ep,h1,h2,_⟩:=(show ObjOk X.prog X.w H s.heap a (.dT kvs)from I.hok a _ ea);exact De DS I.kIn ⟨o2,h1,h2.1⟩ ho e (λz=>nomatch z) fin
structure MDef(P:Program)(w:World)(K:PySem.W.Frag)(mg:Str->Option Value)(base:Heap)(C:Addr)(m:Str)(k:Nat)(ps:List Str)(sp:Sp):Prop where
 ex:∃(f:Addr)(fd:FuncData),Meth K C m f/\Binds K fd ps []/\FnOk P w K mg base CX0 k f fd ps sp
structure Tup3(K:PySem.W.Frag)(mg:Str->Option Value)(nm:Str)(p:Addr)(x y z:Str):Prop where
 mg:mg nm=some (.ref p)
 lk:∃(a b c:Tok)(n:Nat)(sl:Array (Option Value)),K.lookup p=some ⟨.type "tuple", none,.seq #[.str x a,.str y b,.str z c] n,sl⟩
theorem Tup3.ty{K:PySem.W.Frag}{mg:Str->Option Value}{nm:Str}{p:Addr}{x y z:Str}(T:Tup3 K mg nm p x y z)(H:Hp):tyV K "tuple" (.ref p) H:=by
 obtain⟨a,b,c,n,sl,e⟩:=T.lk;exact .inr (.inl ⟨rfl,_,e,rfl,rfl⟩)
def h00:Heap:={}
def Jq(h:Heap)(L:Addr):List (Addr×Obj):=(List.range h.objs.size).filterMap λa=>if a=L then none else(h.get? a).map λo=>(a,o)
theorem Jx(a:Addr):h00.get? a=none:=Heap.get?_none_of_le (Db _)
theorem q0d{h:Heap}{L b:Addr}{o:Obj}(e:h.get? b=some o)(n:b≠L):(b,o)∈Jq h L:=by
 refine U8.mpr ⟨b,DV.mpr (Heap.lt_size e),?_⟩;rw[GH n,e];rfl
theorem q3G{h:Heap}{L:Addr}:News h00 L h (Jq h L):=λp hp=>by
 obtain⟨a,_,e⟩:=U8.mp hp;by_cases n:a=L
 ·rw[GL n]at e;cases e
 ·rw[GH n]at e
  cases q:h.get? a with
  |none=>rw[q]at e;cases e
  |some o=>rw[q]at e;cases e;exact⟨q,n,Jx _⟩
theorem Inv.ledger{X:Cx}{a5:List (Addr×Obj)}{σ:St}{H:Hp}{s:Shared}(I:Inv X a5 σ H s):∃m,Fr h00 X.env.locals s.heap m/\News h00 X.env.locals s.heap (Jq s.heap X.env.locals) /\
  ∀(h':Heap)(tk:Nat),Fr h00 X.env.locals h' m->News h00 X.env.locals h' (Jq s.heap X.env.locals)->Inv X a5 σ H { s with heap:=h',toks:=tk }:=by
 obtain⟨m,hn,_⟩:=I.loc;refine⟨m,⟨hn,λb o e=>(by rw[Jx]at e;cases e),Db _⟩,q3G,λh' tk F W=>?_⟩;have kp:∀b o,b≠X.env.locals->s.heap.get? b=some o->h'.get? b=some o:=λb o n e=>(W _ (q0d e n)).1;refine I.step (ch:=[]) (H':=H) (λb hb=>nomatch hb) (λb o n _ _ e _=>kp b o n e) (λb o n _ _ e _=>⟨o.slots,kp b o n e⟩) (λb o _ _ z=>z) (λb o _ e=>?_) (λ_ _ z=>z) (λ_ _ _ z=>z) (λb ps z=>⟨#[],by simpa using z⟩) (λm' lK=>?_) (λa o e=>?_) I.bare
 ·by_cases n:b=X.env.locals
  ·subst n
   obtain⟨o',_,_,e',_⟩:=F.ns;exact⟨o',e'⟩
  ·exact⟨o,kp b o n e⟩
 ·have:m'=m:=funext λx=>by
   obtain⟨o,es,ep,e1,e2,e3,e4⟩:=lK;obtain⟨o',gC,ir,f1,f2,f3,f4⟩:=hn;rw[e1]at f1;cases f1;rw[e2]at f2;cases f2;rw[<-e4, <-f4]
  rw[this];exact F.ns
 ·refine(I.hok a o e).stay (λb u hb q=>kp b u ?_ q) (λ_ q=>q) λ_ _ q=>q
  intro z;subst z;have:=I.free;rcases hb with hb|hb
  ·subst hb;rw[e]at this;cases this
  ·rw[hb]at this;cases this
theorem JW:∀{bs:List Bool}{us:List Value},Vals (bs.map V.bl) us->LSm.BoolsAre us bs
 | [],_,h=>by cases h;exact .nil
 |b::bs,_,h=>by
  cases h with
  |cons r t=>
   obtain rfl:=(show _=Value.bool b from r);exact .cons b (JW t)
def rAll:List V->Hp->VK->Prop:=λxs H Q=>∃(l:Addr)(bs:List Bool),xs=[.ref l]/\H l=some (.lst (bs.map V.bl))/\Q (.bl (bs.all id)) H
theorem q1o{X:Cx}(hc:X.calm=true):zF X (.builtin "all") rAll:=by
 intro a5 s σ H xs us Q I r h;obtain⟨l,bs,rfl,hl,q⟩:=h;obtain⟨u,rfl,rx⟩:=QJ r;cases rx;obtain⟨its,r',pl,hz⟩:=I.list (SqL.of hl);obtain⟨m,F,W,fin⟩:=I.ledger;exact LSm.all_bools F W (I.ok.hd hc) pl.isList (JW r') λh' tk F' W'=>⟨.bl _,H,fin h' tk F' W',rfl,q⟩
def rIxA(K:PySem.W.Frag):R2:=λx y H Q=>rIxL K x y H Q\/rIxT K x y H Q
theorem Wv{X:Cx}{K:PySem.W.Frag}(h:X.K=K):IxR X (rIxA K):=(qf h).or (qh h)
def q60(K:PySem.W.Frag):List V->Hp->VK->Prop:=λxs H Q=>∃p ys,xs=[.ref p]/\(SqL K H p ys\/SqT K H p ys)/\Q (.int ys.length) H
theorem xm{X:Cx}{K:PySem.W.Frag}(h:X.K=K):zF X (.builtin "len") (q60 K):=h▸jE
structure GInt(mg:Str->Option Value)(nm:Str)(n:Int):Prop where
 ex:∃t,mg nm=some (.int n t)
def Bt(n:Nat)(i:Int):Prop:=i.natAbs<2^n
theorem Bt.bits{n:Nat}{i:Int}(h:Bt n i):Builtin.Int.intBits i<=n:=intBits_le_iff.mpr h
theorem Bt.mono{n m:Nat}{i:Int}(h:Bt n i)(hm:n<=m):Bt m i:=UP h (Nat.pow_le_pow_right (by decide) hm)
theorem Bt.neg{n:Nat}{i:Int}(h:Bt n i):Bt n (-i):=by unfold Bt;rw[RD];exact h
theorem Bt.add{n m:Nat}{i j:Int}(h:Bt n i)(h':Bt m j):Bt (max n m+1) (i+j):=by
 have a:=h.mono (Nat.le_max_left n m);have b:=h'.mono (Nat.le_max_right n m);unfold Bt at *;have:=Int.natAbs_add_le i j;rw[Nat.pow_succ];lia
theorem Bt.sub{n m:Nat}{i j:Int}(h:Bt n i)(h':Bt m j):Bt (max n m+1) (i-j):=by
 rw[Int.sub_eq_add_neg];exact h.add h'.neg
theorem Bt.shl{n k:Nat}{i:Int}(h:Bt n i):Bt (n+k) (i*2^k):=by
 unfold Bt at *;rw[Int.natAbs_mul,Int.natAbs_pow,Nat.pow_add];exact Nat.mul_lt_mul_of_pos_right h (Nat.pow_pos (by decide))
theorem Bt.pow(k:Nat):Bt (1+k) ((1:Int)*2^k):=Bt.shl (n:=1) (by unfold Bt;decide)
theorem Bt.small{n:Nat}{i:Int}(h0 : -(2^62)<i)(h1:i<2^62)(hn:62<=n):Bt n i:=by
 refine Bt.mono (n:=62) ?_ hn;unfold Bt;lia
theorem Bt.nonneg_le{n:Nat}{i j:Int}(h:Bt n i)(h0:0<=j)(h1:j<=i):Bt n j:=by
 unfold Bt at *;lia
theorem Bt.sign{n:Nat}{i s:Int}(h:Bt n i)(hs:s=1\/s = -1):Bt n (s*i):=by
 rcases hs with rfl|rfl
 ·rw[RF];exact h
 ·rw[Int.neg_mul,RF];exact h.neg
def Itv(K:PySem.W.Frag)(a:Addr)(n:Nat):It :=
 ⟨λi H=>i<n/\∃xs,SqL K H a xs/\xs.length=n,λi H x H'=>H'=H/\∀xs,SqL K H a xs->xs[n-1-i]?=some x,λi H=>n=i⟩
def q2c(K:PySem.W.Frag)(vs:List V)(H:Hp)(R:It->Hp->Prop):Prop:=∃a xs,vs=[.ref a]/\SqL K H a xs/\R (Itv K a xs.length) H
def iRev(K:PySem.W.Frag)(ta:TA):TI:=λσ H R=>ta σ H λvs H1=>q2c K vs H1 R
theorem Vd{K:PySem.W.Frag}{ta:TA}{σ:St}{H:Hp}{R:It->Hp->Prop}:iRev K ta σ H R=ta σ H λvs H1=>q2c K vs H1 R:=rfl
def Ite(K:PySem.W.Frag)(a:Addr):It :=
 ⟨λi H=>∃xs x,SqL K H a xs/\xs[i]?=some x,λi H x H'=>∃(p:Addr)(v:V),x=.ref p/\H p=none/\H'=upd H p (.tup [.int i,v])/\∀xs,SqL K H a xs->xs[i]?=some v,λi H=>∃xs,SqL K H a xs/\xs.length<=i⟩
def q1W(K:PySem.W.Frag)(vs:List V)(H:Hp)(R:It->Hp->Prop):Prop:=∃a xs,vs=[.ref a]/\SqL K H a xs/\R (Ite K a) H
def q7x(K:PySem.W.Frag)(ta:TA):TI:=λσ H R=>ta σ H λvs H1=>q1W K vs H1 R
theorem jV{K:PySem.W.Frag}{ta:TA}{σ:St}{H:Hp}{R:It->Hp->Prop}:q7x K ta σ H R=ta σ H λvs H1=>q1W K vs H1 R:=rfl
def rNeL(K:PySem.W.Frag):R2:=λx y H Q=>∃a b xs ys,x=.ref a/\y=.ref b/\SqL K H a xs/\SqL K H b ys/\((xs.length≠ys.length/\Q (.bl true) H)\/(xs.length=ys.length/\∃e:Nat->Bool,(∀(j:Nat) x y,xs[j]?=some x->ys[j]?=some y->DE K H 20 x y (e j))/\Q (.bl (!(List.range xs.length).all e)) H))
theorem q3E{X:Cx}{K:PySem.W.Frag}(hK:X.K=K)(hu:X.A.units+64<cLine):OpR X (compareOp .NotEq) (rNeL K):=by
 subst hK;intro a5 s σ H x y v u Q I rx ry h;obtain⟨a,b,xs,ys,rfl,rfl,ha,hb,h⟩:=h;obtain rfl:v=Value.ref a:=rx;obtain rfl:u=Value.ref b:=ry;obtain⟨its,r1,p1,_⟩:=I.list ha;obtain⟨bW,r2,p2,_⟩:=I.list hb;rcases h with⟨hl,q⟩|⟨hl,e,he,q⟩
 ·exact EqBoolInt.of_rcne (SeqAt.RcNeAt.lists_lengths (A:=X.A) p1.isList p2.isList (by simp[<-r1.length, <-r2.length,hl]) (by lia)) ⟨.bl _,H,I,rfl,q⟩
 ·refine EqBoolInt.of_rcne (SeqAt.RcNeAt.lists (A:=X.A) (e:=e) p1.isList p2.isList (by simp[<-r1.length, <-r2.length,hl]) (by lia) λj h1 h2=>?_) ⟨.bl _,H,I,rfl,?_⟩
  ·have l1:j<xs.length:=by rw[r1.length];simpa using h1
   have l2:j<ys.length:=by rw[r2.length];simpa using h2
   obtain⟨u1,q1,s1⟩:=r1.get (Ut l1);obtain⟨u2,q2,s2⟩:=r2.get (Ut l2);have e1:its.toArray[j]=u1:=by
    obtain⟨_,z⟩:=Us.mp q1;simpa using z
   have e2:bW.toArray[j]=u2:=by
    obtain⟨_,z⟩:=Us.mp q2;simpa using z
   rw[e1,e2];exact(he j _ _ (Ut l1) (Ut l2)).eqAt I (by rw[xV];lia) s1 s2
  ·rw[UF, <-r1.length]
   exact q
def q7j(n:Nat):List Nat:=sliceRange (sliceBounds none none (some (-1)) n).1 (sliceBounds none none (some (-1)) n).2.1 (sliceBounds none none (some (-1)) n).2.2
def q7w(xs:List V):List V:=(q7j xs.length).filterMap λi=>xs[i]?
def q2D(K:PySem.W.Frag)(x:V)(H:Hp)(Q:VK):Prop:=∃a xs,x=.ref a/\SqL K H a xs/\∀r,H r=none->Q (.ref r) (upd H r (.lst (q7w xs)))
def tRev(K:PySem.W.Frag)(te:TE):TE:=λσ H Q=>te σ H λx H1=>q2D K x H1 Q
def zi:Expr->Bool
 |.Starred _ _=>false
 |_=>true
theorem K8{e:Expr}{es:List Expr}{env:Env}(h:zi e=true):starEach (e::es) env=(false,eval e env)::starEach es env:=by
 cases e<;>first|rfl|cases h
structure QE(X:Cx)(e:Expr)(t:TE):Prop where
 h:PE X e t
structure QT(X:Cx)(e:Expr)(t:TT):Prop where
 h:PT X e t
structure QW(X:Cx)(e:Expr)(t:TT):Prop where
 h:PW X e t
structure QA(X:Cx)(e:List Expr)(t:TA):Prop where
 h:PA X e t
structure QS(X:Cx)(e:Stmt)(t:TS):Prop where
 h:PS X e t
structure QSs(X:Cx)(e:List Stmt)(t:TS):Prop where
 h:PSs X e t
structure QG(X:Cx)(e:Expr)(t:TG):Prop where
 h:PG X e t
structure QGs(X:Cx)(e:List Expr)(t:TGs):Prop where
 h:PGs X e t
structure QTs(X:Cx)(e:List Expr)(t:TT):Prop where
 h:PTs X e t
structure QO(X:Cx)(e:Option Expr)(t:TO):Prop where
 h:PO X e t
structure QI(X:Cx)(tg e:Expr)(t:TI):Prop where
 h:PI X tg e t
structure QPs(X:Cx)(pos:Pos)(ks:List (Option Expr))(vs:List Expr)(t:List (TE×TE)):Prop where
 h:PPs X pos ks vs t
section
variable {X:Cx}
theorem qx  : QSs X [] QN:=⟨q4f ⟩
end
section
variable {X:Cx}{st:Stmt}{t:TS}
theorem qe(h1:QS X st t):QSs X [st] t:=⟨by
 intro a5 s σ H D I h;refine GW (thn (h1.h a5 s σ H D I h) λf s1 q=>?_);cases f with
 |next=>exact GV q
 |ret v=>exact q
 |brk=>exact q
 |cont=>exact q⟩
end
section
variable {X:Cx}{st:Stmt}{rest:List Stmt}{t u:TS}
theorem qb(h1:QS X st t)(h2:QSs X rest u):QSs X (st::rest) (tSeq t u):=⟨by
 intro a5 s σ H D I h;refine GW (thn (h1.h a5 s σ H { D with nx:=u D } I h) λf s1 q=>?_);cases f with
 |next=>
  obtain⟨ah,H',I',q⟩:=q;exact h2.h a5 s1 ah H' D I' q
 |ret v=>exact q
 |brk=>exact q
 |cont=>exact q⟩
end
section
variable {X:Cx}{bX tg au:Expr}{bT:List Expr}{scope:Scope}{bs:List Bool}{ext:List Str}{pos:Pos}{wi:TI}{g:TG}{tt:TT}{te:TE}
theorem q4p{i:Nat}{x:Str}{aJ cD:Pos}(bs:List Bool)(ext:List Str)(hN:X.N.Nodup)(gP:X.N[i]?=some x)(hx:X.env.scope.names.lookup x=some .local)(hi:QI X tg au wi)(hg:∀fp s H,QG (cxB X scope ext fp s H) tg g)(ht:∀fp s H,QTs (cxB X scope ext fp s H) bT tt)(he:∀fp s H,QE (cxB X scope ext fp s H) bX te)(hk:jq scope X.env X.N bs=true:=by rfl)(hc:X.calm=true:=by rfl)(gQ:swapsWith (.ListComp bX [⟨tg,au,bT,0⟩] scope pos) (some (.Name x aJ)) cD.line X.env=pure true:=by rfl)(hs:∀x,foldedSetIterable au X.env x=pure x:=by intro _;rfl):QS X (.Assign [.Name x aJ] (.ListComp bX [⟨tg,au,bT,0⟩] scope pos) cD) (tAsg (xu wi bs ext.length g tt te) (qT i)):=⟨q7l bs ext hN gP hx hi.h (λfp s H=>(hg fp s H).h) (λfp s H=>(ht fp s H).h) (λfp s H=>(he fp s H).h) hk hc gQ hs⟩
end
section
variable {X:Cx}{o value:Expr}{f:Str}{pos aJ:Pos}{ta tv:TE}
theorem xP(ha:QE X o ta)(hv:QE X value tv)(hs:swapsWith value (some (.Attribute o f aJ)) pos.line X.env=pure false):QS X (.Assign [.Attribute o f aJ] value pos) (sFld X.K ta tv f):=⟨by
 intro a5 s σ H D I h;refine G9 (thn (hv.h a5 s σ H _ I h) λu s1 ⟨y,H1,I1,ry,q⟩=>thn (ha.h a5 s1 σ H1 _ I1 q) λov s2 ⟨x,H2,I2,rx,a,C,dx,fs,ex,ea,c,n,l,q2⟩=>?_) hs;subst ex;obtain rfl:ov=Value.ref a:=rx;exact J4 I2 ea c n l ry λs3 I3=>⟨σ,_,I3,q2⟩⟩
end
section
variable {X:Cx}{pos:Pos}
theorem qB{i:Nat}{x:Str}{e:Expr}{te:TE}{aJ:Pos}(hN:X.N.Nodup)(hi:X.N[i]?=some x)(hx:Loc X.env.scope x)(he:QE X e te)(hs:swapsWith e (some (.Name x aJ)) pos.line X.env=pure false:=by rfl)(hf:X.fn x=true\/X.env.scope.names.lookup x=some .local:=by first|exact .inl rfl|exact .inr rfl|assumption):QS X (.Assign [.Name x aJ] e pos) (tAsg te (qT i)):=⟨by
 intro a5 s σ H D I h;refine Ua (thn (he.h a5 s σ H _ I h) λv s1 ⟨y,H1,I1,r1,q1⟩=>?_) hs;exact vE I1 hN hi hx r1 (λs2 I2=>⟨_,H1,I2,q1⟩) hf⟩
end
section
variable {X:Cx}{pos:Pos}
theorem vh{tg e:Expr}{te:TE}{g:TG}(he:QE X e te)(hg:QG X tg g)(hs:swapsWithSole [tg] e pos.line X.env=pure false:=by rfl)(hw:swappedStores [tg] e X.env=pure none:=by rfl)(h1:(assignEach [tg] X.env).map (·.2)=[assign tg X.env]:=by rfl):QS X (.Assign [tg] e pos) (tAsg te g):=⟨by
 intro a5 s σ H D I h;refine wpAny_Assign_stores (thn (he.h a5 s σ H _ I h) λv s1 ⟨x,H1,I1,r1,q1⟩=>?_) hs hw;rw[h1];exact thn (hg.h a5 s1 σ H1 x v _ I1 r1 q1) λ_ s2 q=>q⟩
end
section
variable {X:Cx}{e:Expr}{te:TE}{pos:Pos}
theorem qt(he:QE X e te):QS X (.Return (some e) pos) (tRet te):=⟨by
 intro a5 s σ H D I h;exact wpAny_Return_some (thn (he.h a5 s σ H _ I h) λv s1 ⟨x,H1,I1,r1,q1⟩=>⟨x,σ,H1,I1,r1,q1⟩)⟩
end
section
variable {X:Cx}{t u:TS}{pos:Pos}
theorem qP{c:Expr}{a b:List Stmt}{tc:TT}(hc:QT X c tc)(ha:QSs X a t)(hb:QSs X b u):QS X (.If c a b pos) (tIfS tc t u):=⟨by
 intro a5 s σ H D I h;refine wpAny_If (thn (hc.h a5 s σ H _ I h) λd s1 zz=>?_);obtain⟨H1,I1,q1⟩:=zz;cases d with
 |true=>exact ha.h a5 s1 σ H1 D I1 q1
 |false=>exact hb.h a5 s1 σ H1 D I1 q1⟩
end
section
variable {X:Cx}{tg:Expr}
theorem xp{au:Expr}{body:List Stmt}{wi:TI}{g:TG}{tb:TS}{pos:Pos}(hp:PassesOwn (model X.prog X.w) X.A X.env X.xe)(hc:X.calm=true)(hi:QI X tg au wi)(hg:QG X tg g)(hb:QSs X body tb)(hs:∀x,foldedSetIterable au X.env x=pure x:=by intro _;rfl):QS X (.For tg au body [] pos) (tFor wi g tb):=⟨q6E hp hc hi.h hg.h hb.h hs⟩
end
section
variable {X:Cx}{e:Expr}{te:TE}{pos:Pos}
theorem vY(he:QE X e te)(hs:swapsWith e none pos.line X.env=pure false:=by rfl):QS X (.Expr e pos) (VW te):=⟨by
 intro a5 s σ H D I h;exact Um (thn (he.h a5 s σ H _ I h) λv s1 ⟨x,H1,I1,r1,q1⟩=>⟨σ,H1,I1,q1⟩) I.quiet hs⟩
end
section
variable {X:Cx}{tg:Expr}
theorem vK{a:Expr}{ta:TA}{p pos:Pos}(hg:Gl X "range")(hm:X.mg "range" = none)(ha:QA X [a] ta)(hs:starEach [a] X.env=[(false,eval a X.env)]:=by rfl):QI X tg (.Call (.Name "range" p) [a] [] pos) (WC ta):=⟨by
 intro a5 s σ H R I h;refine Call_ (Ju I hg hm boot_range (PyProof.Rows.callWith_type1 (thn (ha.h pos a5 s σ H _ I h) λus s1 ⟨vs,H1,I1,r1,q1⟩=>?_) hs rfl));obtain⟨j,e,q1,q2,q⟩:=q1;subst e;cases r1 with
 |cons r rr=>
  cases rr;obtain⟨t,rfl⟩:=r;exact call_range_1 (q0e I1 (by lia) (by lia) q1 q2 (by simpa using q))⟩
end
section
variable {X:Cx}{K:PySem.W.Frag}
theorem v8{tg l:Expr}{tl:TE}(h:X.K=K)(hl:QE X l tl):QI X tg l (Kw K tl):=⟨h▸q2M hl.h⟩
end
section
variable {X:Cx}{pos:Pos}
theorem vb{i:Nat}{x:Str}(hN:X.N.Nodup)(hi:X.N[i]?=some x)(hx:Loc X.env.scope x)(hf:X.fn x=true\/X.env.scope.names.lookup x=some .local:=by first|exact .inl rfl|exact .inr rfl|assumption):QG X (.Name x pos) (qT i):=⟨jm hN hi hx hf⟩
end
section
variable {X:Cx}{K:PySem.W.Frag}
theorem YD{i j:Nat}{x y:Str}{px py pos:Pos}{kk:Nat}(h:X.K=K)(hN:X.N.Nodup)(hc:X.calm=true)(hi:X.N[i]?=some x)(hj:X.N[j]?=some y)(lx:Loc X.env.scope x)(ly:Loc X.env.scope y)(fx:X.fn x=true\/X.env.scope.names.lookup x=some .local)(fy:X.fn y=true\/X.env.scope.names.lookup y=some .local):QG X (.Tuple [.Name x px,.Name y py] kk pos) (gTup K 2 (vk (qT i) (vk (qT j) gNil))):=⟨h▸q7h hN hc hi hj lx ly fx fy⟩
end
section
variable {X:Cx}{K:PySem.W.Frag}
theorem q1O{i j k:Nat}{x y z:Str}{px py pz pos:Pos}{kk:Nat}(h:X.K=K)(hN:X.N.Nodup)(hc:X.calm=true)(hi:X.N[i]?=some x)(hj:X.N[j]?=some y)(hk:X.N[k]?=some z)(lx:Loc X.env.scope x)(ly:Loc X.env.scope y)(lz:Loc X.env.scope z)(fx:X.fn x=true\/X.env.scope.names.lookup x=some .local)(fy:X.fn y=true\/X.env.scope.names.lookup y=some .local)(fz:X.fn z=true\/X.env.scope.names.lookup z=some .local):QG X (.Tuple [.Name x px,.Name y py,.Name z pz] kk pos) (gTup K 3 (vk (qT i) (vk (qT j) (vk (qT k) gNil)))):=⟨h▸q6J hN hc hi hj hk lx ly lz fx fy fz⟩
end
section
variable {X:Cx}{pos:Pos}
theorem q5x{es:List Expr}{k:Nat}{t:TGs}{n:Nat}(hc:X.calm=true)(h:QGs X es t)(hn:(assignEach es X.env).length=n:=by rfl)(dD:(assignEach es X.env).findIdx? (·.1)=none:=by rfl):QG X (.Tuple es k pos) (gTup X.K n t):=⟨YI hc h.h hn dD⟩
end
section
variable {X:Cx}
theorem q3b  : QGs X [] gNil:=⟨Xl ⟩
end
section
variable {X:Cx}
theorem jW{e:Expr}{es:List Expr}{t:TG}{u:TGs}(h1:QG X e t)(h2:QGs X es u)(hs:(assignEach (e::es) X.env).map (·.2)=assign e X.env::(assignEach es X.env).map (·.2):=by rfl):QGs X (e::es) (vk t u):=⟨xh h1.h h2.h hs⟩
end
section
variable {X:Cx}{pos:Pos}
theorem vp{o i:Expr}{to ti:TE}{t:TSet}(ho:QE X o to)(hi:QE X i ti)(hs:PSet X t)(ha:∀v,assign (.Subscript o i pos) X.env v=(do
   let ov <-holding [v] (eval o X.env);let iv <-holding [v,ov] (eval i X.env)
   standAt pos
   holding [v,ov,iv] (setItem ov iv v)
   release [v,ov,iv] []):=by intro _;rfl):QG X (.Subscript o i pos) (gSub to ti t):=⟨by
 intro a5 s σ H v u Q I r h;rw[ha];refine GD (GK (thn (ho.h a5 s σ H _ I h) λov s1 zz=>?_));obtain⟨x,H1,I1,r1,q1⟩:=zz;refine GD (GK (thn (hi.h a5 s1 σ H1 _ I1 q1) λiv s2 zz=>?_));obtain⟨y,H2,I2,r2,q2⟩:=zz;refine GD (GQ (GD (GK (thn (hs a5 s2 σ H2 x y v ov iv u _ I2 r1 r2 r q2) λ_ s3 zz=>?_))));obtain⟨H3,I3,q3⟩:=zz;exact wpAny_release ⟨σ,H3,I3,q3⟩⟩
end
theorem zq{X:Cx}:QTs X [] tYes:=⟨q48 ⟩
theorem qa_c{X:Cx}{e:Expr}{es:List Expr}{te:TE}{t:TA}(ha:QE X e te)(hr:QA X es t)(h:zi e=true:=by rfl):QA X (e::es) (vH te t):=⟨q3M ha.h hr.h (K8 h)⟩
section
variable {X:Cx}
theorem vD  : QA X [] tNil:=⟨q6D ⟩
end
section
variable {X:Cx}{a b:Expr}{ta tb:TE}{pos:Pos}
theorem qi{op:CmpOp}{r:R2}(ho:OpR X (compareOp op) r)(ha:QE X a ta)(hb:QE X b tb)(hm:behindInMarks op b=false):QT X (.Compare a [op] [b] pos) (QM (tOp r ta tb)):=⟨by
 intro a5 s σ H Q I h;refine wpAny_isTrue_Compare1 (thn (ha.h a5 s σ H _ I h) λv s1 ⟨x,H1,I1,r1,q1⟩=>thn (hb.h a5 s1 σ H1 _ I1 q1) λu s2 ⟨y,H2,I2,r2,q2⟩=>
  thn (ho a5 s2 σ H2 x y v u _ I2 r1 r2 q2) λc s3 ⟨z,H3,I3,r3,k,e,q3⟩=>?_) hm
 subst e;cases r3;exact GU ⟨H3,I3,q3⟩⟩
end
theorem Xi{X:Cx}{e:Expr}{t:TT}(h:QW X e t):QT X e t:=⟨PW.pt h.h⟩
section
variable {X:Cx}
variable {a b:Expr}{pos:Pos}
variable {tA g9:TT}{rest:List Expr}
theorem V4(ha:QT X a tA)(hb:QW X (.BoolOp .And (b::rest) pos) g9):QW X (.BoolOp .And (a::b::rest) pos) (tAnd tA g9):=⟨by
 intro wh a5 s σ H Q I h;refine isTrue_and (thn (ha.h a5 s σ H _ I h) λc s1 zz=>?_);obtain⟨H1,I1,q1⟩:=zz;cases c with
 |true=>exact hb.h wh a5 s1 σ H1 Q I1 q1
 |false=>exact⟨H1,I1,q1⟩⟩
end
section
variable {X:Cx}
variable {a:Expr}{pos:Pos}
variable {tA:TT}
theorem Ve(ha:QT X a tA):QW X (.BoolOp .And [a] pos) tA:=⟨by
 intro wh a5 s σ H Q I h;refine isTrue_and (thn (ha.h a5 s σ H Q I h) λc s1 e=>?_);cases c with
 |true=>exact isTrue_and_nil e
 |false=>exact e⟩
end
section
variable {X:Cx}
variable {a b:Expr}{pos:Pos}
variable {tA g9:TT}{rest:List Expr}
theorem q49(ha:QT X a tA)(hb:QW X (.BoolOp .Or (b::rest) pos) g9):QW X (.BoolOp .Or (a::b::rest) pos) (tOr tA g9):=⟨by
 intro wh a5 s σ H Q I h;refine isTrue_or (thn (ha.h a5 s σ H _ I h) λc s1 zz=>?_);obtain⟨H1,I1,q1⟩:=zz;cases c with
 |true=>exact⟨H1,I1,q1⟩
 |false=>exact hb.h wh a5 s1 σ H1 Q I1 q1⟩
end
section
variable {X:Cx}
variable {a:Expr}{pos:Pos}
variable {tA:TT}
theorem Yz(ha:QT X a tA):QW X (.BoolOp .Or [a] pos) tA:=⟨by
 intro wh a5 s σ H Q I h;refine isTrue_or (thn (ha.h a5 s σ H Q I h) λc s1 e=>?_);cases c with
 |false=>exact isTrue_or_nil e
 |true=>exact e⟩
end
section
variable {X:Cx}
variable {a:Expr}{pos:Pos}
variable {tA:TT}
theorem Qj(ha:QT X a tA):QT X (.UnaryOp .Not a pos) (tNot tA):=⟨by
 intro a5 s σ H Q I h;exact isTrue_not (ha.h a5 s σ H (λc H1=>Q (!c) H1) I h)⟩
end
section
variable {X:Cx}
variable {pos:Pos}
theorem vJ{e:Expr}{t:TE}(h:QE X e t)(he:∀c3,isTrue e X.env c3=(do let v <-c3;standAt e.pos;holding [v] (truthy v)):=by intro _;rfl):QT X e (tB t):=⟨by
 intro a5 s σ H Q I hw;refine isTrue_plain (thn (h.h a5 s σ H _ I hw) λv s1 ⟨x,H1,I1,r1,q1⟩=>?_) (he _);obtain⟨d,rfl,q⟩:=q1;cases r1;exact GU ⟨H1,I1,q⟩⟩
end
section
variable {X:Cx}
theorem jw{j pos}:QE X (.Constant .none j pos) (tC .non):=⟨q5s ⟩
end
section
variable {X:Cx}
theorem Vf{b j pos}:QE X (.Constant (.bool b) j pos) (tC (.bl b)):=⟨q74 ⟩
end
section
variable {X:Cx}
theorem qa{i j pos}:QE X (.Constant (.int i) j pos) (tC (.int i)):=⟨q6t ⟩
end
section
variable {X:Cx}
theorem qc{x j pos}:QE X (.Constant (.str x) j pos) (tC (.str x)):=⟨q5b ⟩
end
section
variable {X:Cx}
theorem qv(i:Nat){x:Str}{pos:Pos}(hN:X.N[i]?=some x:=by rfl)(hv:Vis X.env.scope x:=by first|exact Or.inl rfl|exact Or.inr (Or.inl rfl)|exact Or.inr (Or.inr rfl))(hd:(x==("__debug__" : Str))=false:=by decide)(di:(x==("__classdict__" : Str))=false:=by decide):QE X (.Name x pos) (tVar i):=⟨q2f hN hv hd di⟩
end
section
variable {X:Cx}{a:Expr}{ta:TE}{pos:Pos}
theorem q6K{op:UnaryOp}{r:V->Hp->VK->Prop}(ho:UnR X (unaryOp op) r)(ha:QE X a ta):QE X (.UnaryOp op a pos) (tUn r ta):=⟨by
 intro a5 s σ H Q I h;exact UnaryOp_ (thn (ha.h a5 s σ H _ I h) λv s1 ⟨x,H1,I1,r1,q1⟩=>ho a5 s1 σ H1 x v Q I1 r1 q1)⟩
end
section
variable {X:Cx}{a b:Expr}{ta tb:TE}{pos:Pos}
theorem qC{op:Operator}{r:R2}(ho:OpR X (binaryOp op) r)(ha:QE X a ta)(hb:QE X b tb):QE X (.BinOp a op b pos) (tOp r ta tb):=⟨by
 intro a5 s σ H Q I h;exact wpAny_BinOp (binT ha.h hb.h I h λv u s2 x y H2 I2 rx ry q=>ho a5 s2 σ H2 x y v u Q I2 rx ry q)⟩
end
section
variable {X:Cx}{a b:Expr}{ta tb:TE}{pos:Pos}
theorem vF{op:CmpOp}{r:R2}(ho:OpR X (compareOp op) r)(ha:QE X a ta)(hb:QE X b tb)(hm:behindInMarks op b=false):QE X (.Compare a [op] [b] pos) (tOp r ta tb):=⟨by
 intro a5 s σ H Q I h;exact wpAny_Compare1 (binT ha.h hb.h I h λv u s2 x y H2 I2 rx ry q=>ho a5 s2 σ H2 x y v u Q I2 rx ry q) hm⟩
end
section
variable {X:Cx}
variable {a:Expr}{pos:Pos}
theorem V5{op}{t:TE}(h:QE X a t):QE X (.BoolOp op [a] pos) t:=⟨λa5 s σ H Q I hw=>BoolOp_one (h.h a5 s σ H Q I hw)⟩
end
section
variable {X:Cx}
variable {a b:Expr}{ta tb:TE}{pos:Pos}
variable {rest:List Expr}
theorem Ji(ha:QE X a ta)(hb:QE X (.BoolOp .And (b::rest) pos) tb):QE X (.BoolOp .And (a::b::rest) pos) (VX ta tb):=⟨by
 intro a5 s σ H Q I h;refine BoolOp_and (thn (ha.h a5 s σ H _ I h) λv s1 zz=>?_);obtain⟨x,H1,I1,r1,q1⟩:=zz;obtain⟨c,rfl,q1⟩:=q1;cases r1;refine GU ?_;cases c with
 |true=>exact hb.h a5 s1 σ H1 Q I1 q1
 |false=>exact⟨.bl false,H1,I1,rfl,q1⟩⟩
end
section
variable {X:Cx}
variable {a b:Expr}{ta tb:TE}{pos:Pos}
variable {rest:List Expr}
theorem q78(ha:QE X a ta)(hb:QE X (.BoolOp .Or (b::rest) pos) tb):QE X (.BoolOp .Or (a::b::rest) pos) (tOrV ta tb):=⟨by
 intro a5 s σ H Q I h;refine BoolOp_or (thn (ha.h a5 s σ H _ I h) λv s1 zz=>?_);obtain⟨x,H1,I1,r1,q1⟩:=zz;obtain⟨c,rfl,q1⟩:=q1;cases r1;refine GU ?_;cases c with
 |false=>exact hb.h a5 s1 σ H1 Q I1 q1
 |true=>exact⟨.bl true,H1,I1,rfl,q1⟩⟩
end
section
variable {X:Cx}
variable {a b:Expr}{ta tb:TE}{pos:Pos}
variable {tA:TT}
theorem vm{c:Expr}(hc:QT X c tA)(ha:QE X a ta)(hb:QE X b tb):QE X (.IfExp c a b pos) (tIf tA ta tb):=⟨by
 intro a5 s σ H Q I h;refine wpAny_IfExp (thn (hc.h a5 s σ H _ I h) λd s1 zz=>?_);obtain⟨H1,I1,q1⟩:=zz;cases d with
 |true=>exact ha.h a5 s1 σ H1 Q I1 q1
 |false=>exact hb.h a5 s1 σ H1 Q I1 q1⟩
end
section
variable {X:Cx}{es:List Expr}{t:TA}{pos:Pos}
theorem qG(h:QA X es t):QE X (.List es pos) (tLst t):=⟨by
 intro a5 s σ H Q I hq;refine wpAny_List_spliced (thn (h.h pos a5 s σ H _ I hq) λus s1 ⟨xs,H1,I1,r,z,q⟩=>⟨by rw[<-r.length];exact z,?_⟩);have hf:H1 s1.heap.objs.size=none:=I1.hok.fresh (Ux _);refine⟨.ref s1.heap.objs.size,upd H1 s1.heap.objs.size (.lst xs),I1.laid (t':=s1.toks) (λb u e=>Heap.get?_push_of_some _ e) (Ux _) ?_,rfl,q _ hf⟩;exact⟨z,us,0,r,Heap.get?_push_size _ rfl⟩⟩
end
section
variable {X:Cx}{es:List Expr}{t:TA}{pos:Pos}
theorem qu{x1}(h:QA X es t):QE X (.Tuple es x1 pos) (tTup t):=⟨by
 intro a5 s σ H Q I hq;refine wpAny_Tuple_spliced (thn (h.h pos a5 s σ H _ I hq) λus s1 ⟨xs,H1,I1,r,z,q⟩=>⟨by rw[<-r.length];exact z,?_⟩);have hf:H1 s1.heap.objs.size=none:=I1.hok.fresh (Ux _);refine⟨.ref s1.heap.objs.size,upd H1 s1.heap.objs.size (.tup xs),I1.laid (t':=s1.toks) (λb u e=>Heap.get?_push_of_some _ e) (Ux _) ?_,rfl,q _ hf⟩;exact⟨z,us,r,⟨_,Heap.get?_push_size _ rfl,rfl,_,rfl⟩⟩⟩
end
section
variable {X:Cx}{e:Expr}{te:TE}{lo hi:Option Expr}{tl th:TO}{pos p2:Pos}
theorem zr{r:V->Option Int->Option Int->Hp->VK->Prop}(hr:SlR X r)(he:QE X e te)(hl:QO X lo tl)(hu:QO X hi th):QE X (.Subscript e (.Slice lo hi none p2) pos) (tSl r te tl th):=⟨by
 intro a5 s σ H Q I h;refine Subscript_ (thn (he.h a5 s σ H _ I h) λv s1 zz=>?_);obtain⟨x,H1,I1,r1,q1⟩:=zz;refine wpAny_Slice (thn (hl.h a5 s1 σ H1 _ I1 q1) λvl s2 ⟨l,H2,I2,pl,q2⟩=>thn (hu.h a5 s2 σ H2 _ I2 q2) λvu s3 zz=>?_);obtain⟨u,H3,I3,pu,q3⟩:=zz;rw[evalPart_none];refine GE ?_;have I4:Inv X a5 σ H3 { s3 with heap:=s3.heap.push { cls:=.type "slice", data:=.fields #[vl,vu,.none] } }:=I3.kept (t':=s3.toks) λb ob q=>Heap.get?_push_of_some _ q;obtain⟨T,id,hT,ht,hg⟩:=hr a5 { s3 with heap:=s3.heap.push { cls:=.type "slice", data:=.fields #[vl,vu,.none] } } σ H3 x v vl vu l u s3.heap.objs.size Q I4 r1 (Heap.IsSliceOf.new ..) pl pu q3;show wpAny (model X.prog X.w) X.A (subscriptTail e (.Slice lo hi none p2) v (.ref s3.heap.objs.size)) (EP X a5 σ Q) X.xe { s3 with heap:=s3.heap.push { cls:=.type "slice", data:=.fields #[vl,vu,.none] } };exact tail_any (ops:=[.ref s3.heap.objs.size,v]) ht hT hg (by with_unfolding_all rfl)⟩
end
section
variable {X:Cx}{e:Expr}{te:TE}
theorem xC(h:QE X e te):QO X (some e) (VU te):=⟨by
 intro a5 s σ H Q I hw;rw[evalPart_some];refine thn (h.h a5 s σ H _ I hw) λu s1 zz=>?_;obtain⟨x,H1,I1,r1,q1⟩:=zz;obtain⟨i,rfl,q⟩:=q1;obtain⟨t,rfl⟩:=r1;exact⟨some i,H1,I1,.int i t,q⟩⟩
end
section
variable {X:Cx}
theorem xD  : QO X none zH:=⟨q3y ⟩
end
section
variable {X:Cx}{a b:Expr}{ta tb:TE}{pos:Pos}
theorem qj{r:R2}(hr:IxR X r)(ha:QE X a ta)(hb:QE X b tb)(hs:Gv b):QE X (.Subscript a b pos) (tOp r ta tb):=⟨by
 intro a5 s σ H Q I h;exact Subscript_ (binT ha.h hb.h I h λv u s2 x y H2 I2 rx ry q=>hr a b a5 s2 σ H2 x y v u Q I2 rx ry q (hs _ _))⟩
end
section
variable {X:Cx}{o i:Expr}{pos:Pos}{td ty:TE}
theorem Xj(hu:X.A.units+1<cLine)(ho:QE X o td)(hi:QE X i ty)(hs:NoSl i):QE X (.Subscript o i pos) (q4G td ty):=⟨by
 intro a5 s σ H Q I h;refine q31 PySem.F.slot_dict_getitem.lookup hs (thn (ho.h a5 s σ H _ I h) λu s1 ⟨x,H1,I1,rx,q1⟩=>thn (hi.h a5 s1 σ H1 _ I1 q1) λiv s2 zz=>?_);obtain⟨y,H2,I2,ry,a,v,ex,g,q2⟩:=zz;subst ex;obtain rfl:u=Value.ref a:=rx;exact⟨XU I2 g,W0 hu I2 g ry λw' s3 I3 dn=>⟨v,H2,I3,dn,q2⟩⟩⟩
end
section
variable {X:Cx}{e:Expr}{f:Str}{pos:Pos}{ta:TE}
theorem qS(he:QE X e ta)(hb:attributeBase e f X.env (eval e X.env)=eval e X.env):QE X (.Attribute e f pos) (tFld X.K ta f):=⟨by
 intro a5 s σ H Q I h;refine VL hb (thn (he.h a5 s σ H _ I h) λu s1 zz=>?_);obtain⟨x,H1,I1,rx,a,C,dx,fs,v,ex,ea,c,n,l,q⟩:=zz;subst ex;obtain rfl:u=Value.ref a:=rx;exact Qn I1 ea c n l λu' s2 I2 ru=>⟨v,H1,I2,ru,q⟩⟩
end
section
variable {X:Cx}{bX tg au:Expr}{bT:List Expr}{scope:Scope}{bs:List Bool}{ext:List Str}{pos:Pos}{wi:TI}{g:TG}{tt:TT}{te:TE}
theorem Ke(bs:List Bool)(ext:List Str)(hi:QI X tg au wi)(hg:∀fp s H,QG (cxB X scope ext fp s H) tg g)(ht:∀fp s H,QTs (cxB X scope ext fp s H) bT tt)(he:∀fp s H,QE (cxB X scope ext fp s H) bX te)(hk:jq scope X.env X.N bs=true:=by rfl)(hc:X.calm=true:=by rfl)(hs:∀x,foldedSetIterable au X.env x=pure x:=by intro _;rfl):QE X (.ListComp bX [⟨tg,au,bT,0⟩] scope pos) (xu wi bs ext.length g tt te):=⟨q6R bs ext hi.h (λfp s H=>(hg fp s H).h) (λfp s H=>(ht fp s H).h) (λfp s H=>(he fp s H).h) hk hc hs⟩
end
theorem YF{X:Cx}{pos:Pos}{keys:List (Option Expr)}{aX:List Expr}{cU:List (TE×TE)}(h:QPs X pos keys aX cU)(cQ:keys.all (·.isSome)=true)(hl:keys.length=aX.length)(h0:keys≠[])(iG:keys.length<=15):QE X (.Dict keys aX pos) (q5Y cU):=⟨by
 intro a5 s σ H Q I q;have hn:=I.hok.fresh (Ux s.heap.objs.size);have I1:=I.laid (a:=s.heap.objs.size) (o:=.dK []) (h':=s.heap.push { cls:=.type "dict", data:=.dict #[] }) (t':=s.toks) (λ_ _ q=>Heap.get?_push_of_some _ q) (Ux _) (q0E s.heap I.big);refine wpAny_Dict_walk (knd:=qV X.prog X.w) cQ hl h0 iG (thn (h.h a5 _ σ _ _ I1 (q _ hn)) λws s2 zz=>?_);obtain⟨ps,H2,I2,dz,e,kvs,ep,lk,q2⟩:=zz;subst ep;obtain⟨rs,c,rk⟩:=QC (P:=X.prog) (w:=X.w) dz;obtain⟨z,hd,vs0,r0,dd⟩:=q6U I2.hok e;cases r0;refine⟨rs,c,dd,λh' nu hs=>⟨.ref s.heap.objs.size,_,?_,rfl,q2⟩⟩;have hz:(kB [] kvs).length<=sizeLine:=by
  have h1:=xU kvs [];rw[Dg]at h1;rw[GX];lia
 have he:∃q,h'.get? s.heap.objs.size=some q:=let⟨q,_,_,hq,_⟩:=nu;⟨q,hq⟩;exact q3g I2 (by rw[e];exact True.intro) hs he (q5u hz hd (rk.merge .nil) nu)⟩
theorem YB{X:Cx}{pos:Pos}:QPs X pos [] [] []:=⟨q3n ⟩
theorem xf{X:Cx}{pos:Pos}{k v:Expr}{ks:List (Option Expr)}{vs:List Expr}{tk tv:TE}{cU:List (TE×TE)}(hk:QE X k tk)(hv:QE X v tv)(hr:QPs X pos ks vs cU):QPs X pos (some k::ks) (v::vs) ((tk,tv)::cU):=⟨λa5 s σ H Q I h=>
 pairTrees_cons_walk (thn (hk.h a5 s σ H _ I h) λu s1 ⟨x,H1,I1,rx,q1⟩=>thn (hv.h a5 s1 σ H1 _ I1 q1) λw2 s2 ⟨y,H2,I2,ry,q2⟩=>
  thn (hr.h a5 s2 σ H2 _ I2 q2) λws s3 ⟨ps,H3,I3,dz,q3⟩=>⟨(x,y)::ps,H3,I3,.cons ⟨rx,ry⟩ dz,q3⟩)⟩
section
variable {X:Cx}{x:Str}{k:Nat}{ps:List Str}{sp:Sp}{p pos:Pos}{e:Expr}{es:List Expr}{t:TA}
theorem qo(D:Def X.prog X.w X.K X.mg X.base x k ps sp)(hr:Room k X.A)(ha:QA X (e::es) t)(hg:Gl X x:=by rfl)(bf:(x==("__debug__" : Str))=false:=by decide)(he:starEach (e::es) X.env=(false,eval e X.env)::starEach es X.env:=by rfl)(bI:(backTo pos (starEach es X.env)).any (·.1)=false:=by rfl):QE X (.Call (.Name x p) (e::es) [] pos) (zC sp [] E0 t):=⟨by
 obtain⟨f,fd,h1,h2,h3,h4⟩:=D.ex;exact q32 h4 hr hg h1 h2 h3 .nil Kg ha.h bf he bI⟩
end
section
variable {X:Cx}{x:Str}{k:Nat}{ps:List Str}{sp:Sp}{p pos:Pos}
theorem kq(D:Def X.prog X.w X.K X.mg X.base x k ps sp)(hr:Room k X.A)(hg:Gl X x:=by rfl)(bf:(x==("__debug__" : Str))=false:=by decide):QE X (.Call (.Name x p) [] [] pos) (zC sp [] E0 tNil):=⟨by
 obtain⟨f,fd,h1,h2,h3,h4⟩:=D.ex;exact q0T h4 hr hg h1 h2 h3 .nil Kg bf⟩
end
section
variable {X:Cx}{x:Str}{p pos:Pos}{e:Expr}{es:List Expr}{t:TA}{id:String}{r:List V->Hp->VK->Prop}
theorem qH(hc:zF X (.builtin id) r)(hg:Gl X x)(hm:X.mg x=none)(hv:bootBuiltins x=some (.builtin id))(ha:QA X (e::es) t)(hn:x ≠ "__name__" := by decide)(bf:(x==("__debug__" : Str))=false:=by decide)(he:starEach (e::es) X.env=(false,eval e X.env)::starEach es X.env:=by rfl)(bI:(backTo pos (starEach es X.env)).any (·.1)=false:=by rfl):QE X (.Call (.Name x p) (e::es) [] pos) (tCB r t):=⟨by
 intro a5 s σ H Q I h;refine GR (Ju I hg hm hv ?_ hn bf);exact PyProof.Rows.callWith_builtin1 (thn (ha.h pos a5 s σ H _ I h) λus s1 ⟨vs,H1,I1,r1,q1⟩=>hc a5 s1 σ H1 vs us Q I1 r1 q1) he bI⟩
end
section
variable {X:Cx}{x:Str}{p pos:Pos}{e:Expr}{es:List Expr}{t:TA}{T:String}{r:List V->Hp->VK->Prop}
theorem vL(hc:zF X (.type T) r)(hg:Gl X x)(hm:X.mg x=none)(hv:bootBuiltins x=some (.type T))(ha:QA X (e::es) t)(hn:x ≠ "__name__" := by decide)(bf:(x==("__debug__" : Str))=false:=by decide)(he:starEach (e::es) X.env=(false,eval e X.env)::starEach es X.env:=by rfl)(bI:(backTo pos (starEach es X.env)).any (·.1)=false:=by rfl):QE X (.Call (.Name x p) (e::es) [] pos) (tCB r t):=⟨by
 intro a5 s σ H Q I h;refine GR (Ju I hg hm hv ?_ hn bf);exact PyProof.Rows.callWith_type1 (thn (ha.h pos a5 s σ H _ I h) λus s1 ⟨vs,H1,I1,r1,q1⟩=>hc a5 s1 σ H1 vs us Q I1 r1 q1) he bI⟩
end
section
variable {X:Cx}
theorem vn{x:Str}{v:V}{u:Value}{pos:Pos}(hg:Gl X x)(hm:X.mg x=none)(hv:bootBuiltins x=some u)(r:RelV v u)(hn:x ≠ "__name__" := by decide)(hd:(x==("__debug__" : Str))=false:=by decide):QE X (.Name x pos) (tC v):=⟨
 λ_ _ _ H _ I h=>Ju I hg hm hv ⟨v,H,I,r,h⟩ hn hd⟩
end
section
variable {X:Cx}
theorem q0K{o e:Expr}{es:List Expr}{to:TE}{t:TA}{name:Str}{aF aG:Pos}{id:String}{r:V->List V->Hp->VK->Prop}(slot:Slot "list" name id)(gi:typeOf (.builtin id)=pure (.type "method_descriptor"))(hm:MtR X id r)(ho:QE X o to)(ha:QA X (e::es) t)(gR:attributeBase o name X.env (eval o X.env)=eval o X.env:=by rfl)(lL:((backTo aG (starEach (e::es) X.env)).all (λx=> !x.1)&&(backToKw aG (keywordEach [] X.env)).all (λx=>x.1.isSome)
   && decide ((e::es).length+([]:List Keyword).length+(if([]:List Keyword).isEmpty then 0 else 1)<30))=true:=by rfl)(gS:(aF.endLine==aG.line)=true:=by rfl)(hs:starEach (e::es) X.env=(false,eval e X.env)::starEach es X.env:=by rfl)(cV:(backTo aG (starEach es X.env)).any (·.1)=false:=by rfl):QE X (.Call (.Attribute o name aF) (e::es) [] aG) (tLM r to t):=⟨by
 intro a5 s σ H Q I h;refine wpAny_Call_method_late gR lL gS rfl (thn (ho.h a5 s σ H _ I h) λv s1 zz=>?_);obtain⟨x,H1,I1,r1,p,xs,ex,hp,q1⟩:=zz;subst ex;obtain⟨h1,h2⟩:=q4R (T := "list") I1 r1 (.inl ⟨rfl,xs,SqL.of hp⟩);refine⟨"list", id,PySem.F.plainAttrs_list,slot,gi,h1,h2,?_⟩;have hA:=ha.h aG a5 s1 σ H1 _ I1 q1;rw[hs]at hA ⊢;refine Calls.callWith_builtin (by show(false||(backTo aG (starEach es X.env)).any (·.1))=false;rw[cV]<;>rfl) (Calls.evalArgs_plain ?_);exact thn hA λus s2 ⟨vs,H2,I2,r2,q2⟩=>hm a5 s2 σ H2 (.ref p) vs v us Q I2 r1 r2 q2⟩
end
theorem vd{X:Cx}{pl:Sem Bool}{C:Addr}{m:Str}{k:Nat}{ps:List Str}{sp:Sp}{o e:Expr}{es:List Expr}{ta:TE}{t:TA}{aF pos:Pos}(D:MDef X.prog X.w X.K X.mg X.base C m k ps sp)(c:Cls X.K C)(he:QE X o ta)(hr:Room k X.A)(ha:QA X (e::es) t)(dD:starEach (e::es) X.env=(false,eval e X.env)::starEach es X.env:=by rfl)(bI:(backTo pos (starEach es X.env)).any (·.1)=false:=by rfl)(ht:eval (.Call (.Attribute o m aF) (e::es) [] pos) X.env=(do
   let ov <-eval o X.env
   standAt aF.atName;let(f,first) <-holding [ov] (getMethod ov m pl)
   callWith pos f first (backTo pos (starEach (e::es) X.env)) (backToKw pos (keywordEach [] X.env))):=by rfl):QE X (.Call (.Attribute o m aF) (e::es) [] pos) (ZM C m sp [] E0 ta t):=⟨by
 obtain⟨f,fd,h1,h2,h3⟩:=D.ex;exact q4j he.h c h1 h3 hr h2 .nil Kg ha.h dD bI ht⟩
theorem q3O{X:Cx}{x:Str}{n:Int}{pos:Pos}(G:GInt X.mg x n)(hg:Gl X x)(hd:(x==("__debug__" : Str))=false:=by decide):QE X (.Name x pos) (tC (.int n)):=⟨by
 obtain⟨t,e⟩:=G.ex;exact q4y hg e ⟨t,rfl⟩ hd⟩
structure q03(P:Program)(w:World)(K:PySem.W.Frag)(mg:Str->Option Value)(base:Heap)(C:Addr)(x:Str)(k:Nat)(ps:List Str)(sp:Sp):Prop where
 ex:∃(f:Addr)(fd:FuncData),Mk K C f/\mg x=some (.ref C)/\Binds K fd ps []/\FnOk P w K mg base CX0 k f fd ps sp
section
variable {X:Cx}{C:Addr}{k:Nat}{ps:List Str}{sp:Sp}{x:Str}{p pos:Pos}{e:Expr}{es:List Expr}{t:TA}
theorem YE(D:q03 X.prog X.w X.K X.mg X.base C x k ps sp)(hr:Room (k+1) X.A)(hg:Gl X x)(bf:(x==("__debug__" : Str))=false:=by decide):QE X (.Call (.Name x p) [] [] pos) (J0 C sp [] E0 tNil):=by
 obtain⟨f,fd,h1,h2,h3,h4⟩:=D.ex;exact⟨q0Q h1 h4 hr hg h2 h3 .nil Kg bf⟩
theorem q6s(D:q03 X.prog X.w X.K X.mg X.base C x k ps sp)(hr:Room (k+1) X.A)(hg:Gl X x)(ha:QA X (e::es) t)(bf:(x==("__debug__" : Str))=false:=by decide)(he:starEach (e::es) X.env=(false,eval e X.env)::starEach es X.env:=by rfl)(bI:(backTo pos (starEach es X.env)).any (·.1)=false:=by rfl):QE X (.Call (.Name x p) (e::es) [] pos) (J0 C sp [] E0 t):=by
 obtain⟨f,fd,h1,h2,h3,h4⟩:=D.ex;exact⟨q3m h1 h4 hr hg h2 h3 .nil Kg ha.h bf he bI⟩
theorem q2w{i j:Nat}{x y:Str}{a b:Expr}{ta:TA}{px py pt:Pos}{kt k2 pt2}(hc:X.calm=true)(hN:X.N.Nodup)(hi:X.N[i]?=some x)(hj:X.N[j]?=some y)(gj:i≠j)(hx:X.env.scope.names.lookup x=some .local)(hy:X.env.scope.names.lookup y=some .local)(ha:QA X [a,b] ta)(hw:swappedStores [.Tuple [.Name x px,.Name y py] kt pt] (.Tuple [a,b] k2 pt2) X.env=pure (some [x,y]))(hs:swapsWithSole [.Tuple [.Name x px,.Name y py] kt pt] (.Tuple [a,b] k2 pt2) pos.line X.env=pure false:=by rfl):
  QS X (.Assign [.Tuple [.Name x px,.Name y py] kt pt] (.Tuple [a,b] k2 pt2) pos) (tPar i j ta):=⟨by
 intro a5 s σ H D I h;rw[exec_Assign_arm];refine GD (GQ ?_);rw[hs];refine GD (GE ?_);rw[GH (by decide)];refine GD (Tuple_ (thn (ha.h _ a5 s σ H _ I h) λus s1 zz=>?_));obtain⟨vs,H1,I1,r1,q1⟩:=zz;obtain⟨v,w,e1,q1⟩:=q1;subst e1;obtain⟨u1,u2,rfl,rv,dn⟩:∃u1 u2,us=[u1,u2]/\RelV v u1/\RelV w u2:=by
  cases r1 with
  |cons p q=>
   cases q with
   |cons p' q'=>
    cases q';exact⟨_,_,rfl,p,p'⟩
 refine GP ?_ (by show 2<=sizeLine;decide);have I2:Inv X a5 σ H1 { s1 with heap:=s1.heap.push { cls:=.type "tuple", data:=.seq [u1,u2].toArray } }:=I1.kept (t':=s1.toks) λb o e=>Heap.get?_push_of_some _ e;rw[hw];refine GD (GE ?_);show wpAny (model X.prog X.w) X.A (do rule "assign.swapped-stores";let items <-unpackItems (.ref s1.heap.objs.size) 2 none;assignInOrder [λv=>bindName X.env y v,λv=>bindName X.env x v] items.reverse;pure Flow.next) _ _ _;refine GD (Uq (GD (unpackItems_tuple (items:=#[u1,u2]) (I.ok.hd hc) (IsTup.new s1.heap _) λh' lM=>?_)));have I3:=I2.kept (h':=h') (t':=s1.toks) λb o e=>lM b o (UU (Heap.lt_size e)) e;show wpAny _ _ (assignInOrder [λv=>bindName X.env y v,λv=>bindName X.env x v] [u2,u1] >>= λ_=>pure Flow.next) _ _ _;refine GD (GT (Ub (vE I3 hN hj (.inl hy) dn (λs2 I4=>?_) (.inr hy))));refine GT (Ub (vE I4 hN hi (.inl hx) rv (λs3 I5=>Uf (GE ?_)) (.inr hx)));rw[DM _ _ (Ne.symm gj)]at I5;exact⟨_,H1,I5,q1⟩⟩
def q5z(i j k:Nat)(ta:TA):TS:=λD σ H=>ta σ H λvs H1=>∃v w u,vs=[v,w,u]/\D.nx (((σ.set i (some v)).set j (some w)).set k (some u)) H1
theorem YA{i j k:Nat}{x y z:Str}{a b c:Expr}{ta:TA}{px py pz pt:Pos}{kt k2 pt2}(hc:X.calm=true)(hN:X.N.Nodup)(hi:X.N[i]?=some x)(hj:X.N[j]?=some y)(hk:X.N[k]?=some z)(gj:i≠j)(lN:i≠k)(pj:j≠k)(hx:X.env.scope.names.lookup x=some .local)(hy:X.env.scope.names.lookup y=some .local)(hz:X.env.scope.names.lookup z=some .local)(ha:QA X [a,b,c] ta)(hw:swappedStores [.Tuple [.Name x px,.Name y py,.Name z pz] kt pt] (.Tuple [a,b,c] k2 pt2) X.env=pure (some [x,y,z]))(hs:swapsWithSole [.Tuple [.Name x px,.Name y py,.Name z pz] kt pt] (.Tuple [a,b,c] k2 pt2) pos.line X.env=pure false:=by rfl):
  QS X (.Assign [.Tuple [.Name x px,.Name y py,.Name z pz] kt pt] (.Tuple [a,b,c] k2 pt2) pos) (q5z i j k ta):=⟨by
 intro a5 s σ H D I h;rw[exec_Assign_arm];refine GD (GQ ?_);rw[hs];refine GD (GE ?_);rw[GH (by decide)];refine GD (Tuple_ (thn (ha.h _ a5 s σ H _ I h) λus s1 zz=>?_));obtain⟨vs,H1,I1,r1,q1⟩:=zz;obtain⟨v,w,u,e1,q1⟩:=q1;subst e1;obtain⟨u1,u2,u3,rfl,rv,dn,ru⟩:∃u1 u2 u3,us=[u1,u2,u3]/\RelV v u1/\RelV w u2/\RelV u u3:=by
  cases r1 with
  |cons p q=>
   cases q with
   |cons p' q'=>
    cases q' with
    |cons p2 q2=>
     cases q2;exact⟨_,_,_,rfl,p,p',p2⟩
 refine GP ?_ (by show 3<=sizeLine;decide);have I2:Inv X a5 σ H1 { s1 with heap:=s1.heap.push { cls:=.type "tuple", data:=.seq [u1,u2,u3].toArray } }:=I1.kept (t':=s1.toks) λb o e=>Heap.get?_push_of_some _ e;rw[hw];refine GD (GE ?_);show wpAny (model X.prog X.w) X.A (do rule "assign.swapped-stores";let items <-unpackItems (.ref s1.heap.objs.size) 3 none;assignInOrder [λv=>bindName X.env z v,λv=>bindName X.env y v,λv=>bindName X.env x v] items.reverse;pure Flow.next) _ _ _;refine GD (Uq (GD (unpackItems_tuple (items:=#[u1,u2,u3]) (I.ok.hd hc) (IsTup.new s1.heap _) λh' lM=>?_)));have I3:=I2.kept (h':=h') (t':=s1.toks) λb o e=>lM b o (UU (Heap.lt_size e)) e;show wpAny _ _ (assignInOrder [λv=>bindName X.env z v,λv=>bindName X.env y v,λv=>bindName X.env x v] [u3,u2,u1] >>= λ_=>pure Flow.next) _ _ _;refine GD (GT (Ub (vE I3 hN hk (.inl hz) ru (λs2 I4=>?_) (.inr hz))));refine GT (Ub (vE I4 hN hj (.inl hy) dn (λs3 I5=>?_) (.inr hy)));refine GT (Ub (vE I5 hN hi (.inl hx) rv (λs4 I6=>Uf (GE ?_)) (.inr hx)));have e:(((σ.set k (some u)).set j (some w)).set i (some v))=((σ.set i (some v)).set j (some w)).set k (some u):=by
  rw[DM _ _ (Ne.symm gj),DM _ _ (Ne.symm lN),DM (some u) (some w) (Ne.symm pj)]
 rw[e]at I6;exact⟨_,H1,I6,q1⟩⟩
theorem kX(K:PySem.W.Frag)(h:X.K=K):zF X (.builtin "isinstance") (λxs H Q=>∃x n t b,xs=[x,.ty n]/\TyOf K H x t/\W.kitOne K t (.type n)=some b/\Q (.bl b) H):=by
 subst h;intro a5 s σ H xs us Q I r h;obtain⟨x,n,t,b,rfl,ty,e,q⟩:=h;obtain⟨u,v,rfl,ru,rv⟩:=vals2 r;obtain rfl:v=Value.type n:=rv;exact Zg I ru ty e λtk=>⟨.bl b,H,I.tok tk,rfl,q⟩
end
def okey(o:Obj):Option Addr×Option Value:=(o.dict,match o.data with | .fields vs=>vs[2]?|_=>none)
def Obk(h h':Heap):Prop:=∀(b:Nat)(o:Obj),h.objs[b]?=some o->∃o',h'.objs[b]?=some o'/\okey o'=okey o
theorem Obk.refl(h:Heap):Obk h h:=λb o e=>⟨o,e,rfl⟩
theorem Obk.trans{h h' gT:Heap}(x:Obk h h')(y:Obk h' gT):Obk h gT:=λb o e=>by
 obtain⟨o',e',d'⟩:=x b o e;obtain⟨o2,e2,d2⟩:=y b o' e';exact⟨o2,e2,d2.trans d'⟩
theorem Obk.push(h:Heap)(o:Obj):Obk h (h.push o):=λb u e=>⟨u,by
 have hb:b<h.objs.size:=(Array.getElem?_eq_some_iff.mp e).1;cases h;simp only[Heap.push]at e hb ⊢;rw[RG,GH (UU hb)];exact e,rfl⟩
theorem Obk.update(h:Heap)(a:Addr){f:Obj->Obj}(hf:∀o,okey (f o)=okey o):Obk h (h.update a f):=λb u e=>by
 cases h;simp only[Heap.update]at e ⊢;rw[Array.getElem?_modify];split
 ·exact⟨f u,by rw[e];rfl,hf u⟩
 ·exact⟨u,e,rfl⟩
theorem Obk.get{h h':Heap}{a d:Addr}{o o':Obj}(x:Obk h h')(e:h.get? a=some o)(e':h'.get? a=some o'):okey o'=okey o:=by
 obtain⟨u,eu,du⟩:=x a o (Heap.get?_some_iff.mp e).1;rw[(Heap.get?_some_iff.mp e').1]at eu;cases eu;exact du
def DK{α:Type}:Sem α->Prop
 |.pure _=>True
 |.raise _=>True
 |.unsupported _=>True
 |.finish _=>True
 |.rule _ k=>DK (k ())
 |.at _ k=>DK (k ())
 |.load _ _ k=>∀o,DK (k o)
 |.update _ _ f k=>(∀o,okey (f o)=okey o)/\DK (k ())
 |.alloc _ k=>∀a,DK (k a)
 |.loadIfAlive _ k=>∀o,DK (k o)
 |.point _ k=>DK (k ())
 |.register _ _=>True
 |.fresh k=>∀t,DK (k t)
 |.ask k=>∀x,DK (k x)
 |.choose _ _ k=>∀n,DK (k n)
 |.os _ _ k=>∀r,DK (k r)
 |.call _ _ _ _ _=>False
 |.handled _ k=>∀x,DK (k x)
 |.newGen _ k=>∀n,DK (k n)
 |.genState _ k=>∀x,DK (k x)
 |.resume _ _ _ _=>False
 |.yield _ _ _ _=>True
 |.stack k=>∀l,DK (k l)
 |.fork _ _=>True
 |.thread k=>∀n,DK (k n)
 |.await _ _ _ _ _=>True
theorem DK.wp{α:Type}{M:Model}{Γ:PySem.Ctx}:∀{t:Sem α}{Q:α->Pos->Shared->Prop}{E:Value->Pos->Shared->Prop}{p:Pos}{s:Shared},DK t->Sem.wp M Γ t Q E p s ->
  Sem.wp M Γ t (λa p' s'=>Q a p' s'/\Obk s.heap s'.heap) (λe p' s'=>E e p' s'/\Obk s.heap s'.heap) p s:=by
 intro t
 induction t with
 |pure a=>intro Q E p s _ h;rw[Sem.wp]at h ⊢;exact⟨h,.refl _⟩
 |raise e=>intro Q E p s _ h;rw[Sem.wp]at h ⊢;exact⟨h,.refl _⟩
 |unsupported x=>intro Q E p s _ h;rw[Sem.wp]at h;exact h.elim
 |finish x=>intro Q E p s _ h;rw[Sem.wp]at h;exact h.elim
 |rule x k ih=>intro Q E p s d h;rw[Sem.wp]at h ⊢;exact ih () d h
 | «at» x k ih=>intro Q E p s d h;rw[Sem.wp]at h ⊢;exact ih () d h
 |load a x k ih=>intro Q E p s d h;rw[Sem.wp]at h ⊢;obtain⟨o,e,h⟩:=h;exact⟨o,e,ih o (d o) h⟩
 |update a x f k ih=>
  intro Q E p s d h;rw[Sem.wp]at h ⊢;refine⟨h.1,Sem.wp_mono M Γ _ (λa p' s' z=>⟨z.1,(Obk.update _ _ d.1).trans z.2⟩) (λa p' s' z=>⟨z.1,(Obk.update _ _ d.1).trans z.2⟩) _ _ (ih () d.2 h.2)⟩
 |alloc o k ih=>
  intro Q E p s d h;rw[Sem.wp]at h ⊢;exact Sem.wp_mono M Γ _ (λa p' s' z=>⟨z.1,(Obk.push _ _).trans z.2⟩) (λa p' s' z=>⟨z.1,(Obk.push _ _).trans z.2⟩) _ _ (ih _ (d _) h)
 |loadIfAlive a k ih=>intro Q E p s d h;rw[Sem.wp]at h ⊢;exact ih _ (d _) h
 |point x k ih=>intro Q E p s d h;rw[Sem.wp]at h ⊢;exact ih () d h
 |register a k ih=>intro Q E p s d h;rw[Sem.wp]at h;exact h.elim
 |fresh k ih=>intro Q E p s d h;rw[Sem.wp]at h ⊢;exact ih _ (d _) h
 |ask k ih=>intro Q E p s d h;rw[Sem.wp]at h ⊢;exact ih _ (d _) h
 |choose x n k ih=>intro Q E p s d h;rw[Sem.wp]at h ⊢;exact⟨h.1,ih _ (d _) h.2⟩
 |os q l k ih=>intro Q E p s d h;rw[Sem.wp]at h ⊢;exact ih _ (d _) h
 |call c x g l k ih=>intro Q E p s d h;exact d.elim
 |handled x k ih=>intro Q E p s d h;rw[Sem.wp]at h ⊢;exact ih _ (d _) h
 |newGen c k ih=>intro Q E p s d h;rw[Sem.wp]at h ⊢;exact ih _ (d _) h
 |genState g k ih=>intro Q E p s d h;rw[Sem.wp]at h ⊢;obtain⟨o,e,h⟩:=h;exact⟨o,e,ih _ (d _) h⟩
 |resume g r l k ih=>intro Q E p s d h;exact d.elim
 |yield v g l k ih=>intro Q E p s d h;rw[Sem.wp]at h;exact h.elim
 |stack k ih=>intro Q E p s d h;rw[Sem.wp]at h ⊢;exact ih _ (d _) h
 |fork c k ih=>intro Q E p s d h;rw[Sem.wp]at h;exact h.elim
 |thread k ih=>intro Q E p s d h;rw[Sem.wp]at h ⊢;exact ih _ (d _) h
 |await a f b l k ih=>intro Q E p s d h;rw[Sem.wp]at h;exact h.elim
theorem DK.any{α:Type}{M:Model}{A:Around}{t:Sem α}{Q:α->Shared->Prop}{E:Value->Shared->Prop}{s:Shared}(d:DK t)(h:wpAny M A t Q E s):
  wpAny M A t (λa s'=>Q a s'/\Obk s.heap s'.heap) (λe s'=>E e s'/\Obk s.heap s'.heap) s:=λΓ p pk=>DK.wp d (h Γ p pk)
theorem DK.bind{α β:Type}{f:α->Sem β}:∀{m:Sem α},DK m->(∀a,DK (f a))->DK (m >>= f):=by
 intro m;show DK m->_->DK (m.bind f)
 induction m with
 |pure a=>intro _ h;exact h a
 |update a x g k ih=>intro d h;exact⟨d.1,ih () d.2 h⟩
 |raise e=>intro _ _;trivial
 |unsupported x=>intro _ _;trivial
 |finish x=>intro _ _;trivial
 |rule x k ih=>intro d h;exact ih () d h
 | «at» x k ih=>intro d h;exact ih () d h
 |load a x k ih=>intro d h o;exact ih o (d o) h
 |alloc o k ih=>intro d h o;exact ih o (d o) h
 |loadIfAlive a k ih=>intro d h o;exact ih o (d o) h
 |point x k ih=>intro d h;exact ih () d h
 |register a k ih=>intro _ _;trivial
 |fresh k ih=>intro d h o;exact ih o (d o) h
 |ask k ih=>intro d h o;exact ih o (d o) h
 |choose x n k ih=>intro d h o;exact ih o (d o) h
 |os q l k ih=>intro d h o;exact ih o (d o) h
 |call c x g l k ih=>intro d h;exact d.elim
 |handled x k ih=>intro d h o;exact ih o (d o) h
 |newGen c k ih=>intro d h o;exact ih o (d o) h
 |genState g k ih=>intro d h o;exact ih o (d o) h
 |resume g r l k ih=>intro d h;exact d.elim
 |yield v g l k ih=>intro _ _;trivial
 |stack k ih=>intro d h o;exact ih o (d o) h
 |fork c k ih=>intro _ _;trivial
 |thread k ih=>intro d h o;exact ih o (d o) h
 |await a f b l k ih=>intro _ _;trivial
theorem DK.pure{α:Type}(a:α):DK (Pure.pure a:Sem α):=trivial
theorem XS(a:Addr):DK (load a):=λ_=>trivial
theorem dk_stack:DK stack:=λ_=>trivial
theorem Zs(a:Addr){f:Obj->Obj}(h:∀o,okey (f o)=okey o):DK (update a f):=⟨h,trivial⟩
theorem Zu{f:Array Value->Array Value}(hf:∀vs,(f vs)[2]?=vs[2]?)(o:Obj):okey (Obj.mapFields f o)=okey o:=by
 unfold Obj.mapFields;split
 ·exact GM (Prod.mk _) (hf _)
 ·rfl
theorem XT(v:Value):DK (fieldsOf v):=by
 unfold fieldsOf;split
 ·refine(XS _).bind λo=>?_
  split<;>trivial
 ·trivial
theorem jY(v:Value)(i:Nat):DK (field v i):=by
 unfold field;refine(XT v).bind λo=>?_;split<;>trivial
theorem xI(v:Value){i:Nat}(x:Value)(hi:i≠2):DK (setField v i x):=by
 unfold setField;split
 ·unfold updateField
  refine(XS _).bind λo=>?_;split
  ·split
   ·exact Zs _ (Zu λvs=>Array.getElem?_setIfInBounds_ne hi)
   ·trivial
  ·trivial
 ·trivial
theorem vV(e:Value)(f:Option Addr):DK (setFlight e f):=by
 unfold setFlight;refine(jY _ _).bind λo=>?_;split
 ·exact xI _ _ (by decide)
 ·trivial
theorem Zt(ty:String)(vs:List Value):DK (newFields ty vs):=by
 unfold newFields newObj;dsimp only;split
 ·trivial
 ·unfold newObjAsIs
  exact λa=>trivial
theorem WT(env:Env)(l:List Env):DK (behindIsImport env l):=by
 unfold behindIsImport;split
 ·trivial
 ·split
  ·trivial
  ·exact(jY _ _).bind λ_=>trivial
theorem q41(env:Env)(b:Bool)(l:List Env):DK (keptBack env b l):=by
 unfold keptBack;split
 ·split
  ·trivial
  ·unfold underTheClaimsCaller
   exact DK.bind (dk_stack.bind λ_=>trivial) λ_=>trivial
 ·trivial
theorem JJ:∀l:List Env,DK (readyFrames l)
 | []=>by unfold readyFrames;trivial
 |env::outer=>by
  unfold readyFrames;split
  ·refine(XS _).bind λo=>?_
   split
   ·trivial
   ·refine(WT _ _).bind λ_=>(q41 _ _ _).bind λ_=>DK.bind ?_ λ_=>JJ outer
    exact Zs _ λo=>rfl
  ·trivial
theorem Kz(env:Env):DK (PySem.frameOf env):=by
 unfold PySem.frameOf frameEnvs;refine DK.bind (dk_stack.bind λ_=>trivial) λl=>DK.bind ?_ λx=>?_
 ·unfold frameObject
  split
  ·trivial
  ·exact(JJ _).bind λ_=>trivial
 ·split<;>trivial
theorem q08(f:Addr)(b:Bool):DK (entryPlaceOf f b):=by
 unfold entryPlaceOf;refine dk_stack.bind λl=>?_;split<;>trivial
theorem WS(e:Value)(env:Env):DK (noteFrame e env):=by
 unfold noteFrame;have k:∀f head,DK (do setField e 1 (<-EntryCells.newEntry head (<-PySem.frameOf env) .none (rawInt f) .none (<-entryPlaceOf f (head != .none))):Sem Unit):=λf head=>
  (Kz _).bind λ_=>(q08 _ _).bind λ_=>DK.bind (by unfold EntryCells.newEntry;exact Zt _ _) λ_=>xI _ _ (by decide)
 split
 ·refine(jY _ _).bind λhead=>?_
  split
  ·refine(jY _ _).bind λ_=>?_
   split
   ·trivial
   ·exact(xI _ _ (by decide)).bind λ_=>k _ _
  ·exact k _ _
 ·trivial
theorem Qx(env:Env)(e:Value):DK (leaving env e):=by
 unfold leaving;exact(WS _ _).bind λ_=>vV _ _
end L2
namespace PySem.W
open Builtin.ObjectAttr
section
variable {prog:Program}{w:World}{A:Around}{E:Value->Shared->Prop}{s:Shared}{K:Frag}{x C:Addr}{ox:Obj}{od:Option Obj}{name:Str}{dG:Bool}{Q:Value->Shared->Prop}
theorem getX_value{v:Value}(X:K.In s.heap)(I:InstAt s.heap x ox C od)(pq:findIn K (.ref C) "__getattribute__" = some (some (.builtin "BaseException.__getattribute__")))(pv:findIn K (.ref C) "__getattr__" = some none)(hm:mroIn K C (.type "BaseException")=some true)(hf:findObj K C od name=some (.value v))(hh:handedIn v=true)(h:Q v { s with toks:=s.toks+1 }):wpAny (model prog w) A (getAttr (.ref x) name dG) Q E s:=by
 obtain⟨hp,g,d,t,os⟩:=s;have L0:=I.type (M:=model prog w);have L1:=looks_findIn (M:=model prog w) X pq;have L2:=looks_findIn (M:=model prog w) X pv;have L3:=looks_find (M:=model prog w) X I hf;have L4:=looks_mroIn (M:=model prog w) X hm;have FB:=PySem.F.excAttr_ValueError;have f3:=FB.ga.bind (.ref x);have gU:(dG&&onTheHeap (Value.builtin "BaseException.__getattribute__"))=false:=by cases dG<;>rfl
 have gk:(Value.builtin "BaseException.__getattribute__" == Value.builtin "object.__getattribute__")=false:=by decide+kernel
 have hx1:(onTheHeap (Value.ref C)&&Value.builtin "BaseException.__getattribute__" == Value.builtin "object.__getattribute__")=false:=by rw[gk];rfl
 have ha:=F.args_bexc_ga (.ref x) (.str name t);have hk:builtinKind "BaseException.__getattribute__" = some .slot:=by decide+kernel
 have fC:splitId "BaseException.__getattribute__" = some ("BaseException","__getattribute__"):=by decide+kernel
 unfold getAttr getAttrBy;refine GD (wpAny_mkText (GK (GD (L0.at (GD (L1.at ?_))))))
 repeat (any_goals (first|assumption|with_reducible refine L0.at ?_|with_reducible refine L2.at ?_|wp_step))
 refine GO FB.ga.plain F.entry_bexc_ga ?_;simp only[checkBuiltinCall,hk,fC,DD,Dr];refine GD ?_;unfold isInstance;refine GD (L0.at (L4.at ?_))
 repeat (any_goals (first|assumption|with_reducible refine L0.at ?_|with_reducible refine L3.at ?_|wp_step))
 show wpAny _ _ (handedOut v) _ _ _;rw[handedOut_of hh];exact GE h
def xY(cL:List Value):List Value->Bool
 |.ref _::r=>xY cL r
 |l=>l==cL
theorem Qw{cL r:List Value}{c:Addr}:xY cL (.ref c::r)=xY cL r:=by rw[xY]
theorem VC{cL:List Value}{self:Value}(h:refuseLoop self "__setattr__" cL=pure ()):∀l,xY cL l=true->refuseLoop self "__setattr__" l=pure ():=by
 intro l
 induction l with
 |nil=>intro e;have e:(([]:List Value)==cL)=true:=e;rw[eq_of_beq e];exact h
 |cons x r ih=>
  intro e;cases x with
  |ref c=>rw[refuseLoop_ref];exact ih (by rw[Qw]at e;exact e)
  |_=>
   rw[xY]at e
   ·rw[eq_of_beq e];exact h
   ·intro a r' q;cases q
theorem Kx{cL:List Value}{v:Value}(h:cL.contains v=true):∀l,xY cL l=true->l.contains v=true:=by
 intro l
 induction l with
 |nil=>intro e;have e:(([]:List Value)==cL)=true:=e;rw[eq_of_beq e];exact h
 |cons x r ih=>
  intro e;cases x with
  |ref c=>rw[RN,ih (by rw[Qw]at e;exact e),Bool.or_true]
  |_=>
   rw[xY]at e
   ·rw[eq_of_beq e];exact h
   ·intro a r' q;cases q
def excOver(K:Frag)(C:Addr):Bool:=(clsIn K C).any λcd=>xY [.type "ValueError",.type "Exception",.type "BaseException",.type "object"] cd.mro&&cd.hasDict && !cd.mro.isEmpty
theorem setX_new{ox:Obj}{v:Value}{vs:Array Value}{Q:Unit->Shared->Prop}(X:K.In s.heap)(I:InstAt s.heap x ox C none)(nv:ox.dict=none)(nB:ox.data=.fields vs)(pw:findIn K (.ref C) "__setattr__" = some (some (.builtin "object.__setattr__")))(hp:excOver K C=true)(ht:findIn K (.ref C) name=some none)(h:∀h' d,d=s.heap.objs.size->(∀b o,b≠x->s.heap.get? b=some o->h'.get? b=some o)->h'.get? x=some { ox with dict:=some d }->h'.Ns1 d (λy=>if y=name then some v else none)->Q () { s with heap:=h',toks:=s.toks+2 }):
  wpAny (model prog w) A (setAttr (.ref x) name v) Q E s:=by
 have SF:=PySem.F.store_ValueError;obtain⟨cd,hc,ho⟩:=any_some hp;simp only[Df,DT]at ho;obtain⟨⟨ho,hd⟩,ne⟩:=ho;refine set_plain X I pw ?_;have sub:Looks (model prog w) s.heap (isInstance (.ref x) (.type "object")) true:=I.type.andThen (looks_mroIn X (by unfold mroIn;rw[hc,Option.bind_some,GH (by rw[ne];decide),Kx (by decide) _ ho]));refine GO SF.slot.plain SF.entry (@check_slot (model prog w) _ _ { s with toks:=s.toks+1 } "object.__setattr__" "object" "__setattr__" (.ref x) [.str name s.toks,v] [] _ SF.kind SF.split sub (SF.args (.ref x) (.str name s.toks) v) ?_);have hm:Looks (model prog w) s.heap (mroOf (.ref C)) cd.mro:=(looks_clsIn X hc).andThen .now;rw[osa_eq,refuse_eq];refine GD (GD (Looks.here (s:={ s with toks:=s.toks+1 }) I.type (GD (Looks.here (s:={ s with toks:=s.toks+1 }) hm ?_))));rw[VC (SF.passes _) _ ho];refine GE (GD (Looks.here (s:={ s with toks:=s.toks+1 }) I.type (GD (Looks.here (s:={ s with toks:=s.toks+1 }) (looks_findIn X ht) (GD (GE ?_))))));obtain⟨hx,gl,hn, -⟩:=I;obtain⟨oc,odi,oda,dI⟩:=ox;dsimp only at gl nv nB;subst gl nv nB;refine GD (GE (GD (GD (wpAny_loadPart hx (GD (Looks.here (s:={ s with toks:=s.toks+1 }) (looks_clsIn X hc) ?_))))));rw[hd];have eR:(s.heap.push { cls:=.type "dict", data:=.dict #[] }).get? x=some ⟨.ref C,none,.fields vs,dI⟩:=Heap.get?_push_of_some _ hx;have nD:x≠s.heap.objs.size:=UU (Heap.lt_size hx);refine GD (wpAny_alloc' (GD (wpAny_update' eR (GE ?_))));have pA:((s.heap.push { cls:=.type "dict", data:=.dict #[] }).update x λo=>{ cls:=o.cls,dict:=some s.heap.objs.size,data:=o.data,slots:=o.slots }).get? s.heap.objs.size=some { cls:=.type "dict", data:=.dict #[] } :=
  (Heap.get?_update_ne _ _ _ _ nD.symm).trans (Heap.get?_push_at rfl rfl)
 have nE:((s.heap.push { cls:=.type "dict", data:=.dict #[] }).update x λo=>{ cls:=o.cls,dict:=some s.heap.objs.size,data:=o.data,slots:=o.slots }).Ns s.heap.objs.size (λ_=>none):=
  ⟨_, #[],_,pA,rfl,λe he=>absurd he (by simp),λ_=>rfl⟩
 show wpAny _ _ (storeInDict s.heap.objs.size (.str name s.toks) name v) _ _ _;unfold storeInDict newKeyGuard;refine GD (GE (GD (wpAny_nsSet1 (Heap.Ns1.of_empty nE) λh' eN hs=>?_)));obtain⟨oD,oC,oG,l9,lc,lf⟩:=eN.count (Within.cons name v Within.nil);refine GD (wpAny_lookBehind l9 (by rw[lc];exact pastItsLine_dict (U3 lf (by rw[UL,Dg,GX];lia))) ?_);refine GE (h h' s.heap.objs.size rfl (λb ob pB hb=>?_) ?_ eN)
 ·exact(hs.2 b (UU (Heap.lt_size hb))).trans ((Heap.get?_update_ne _ _ _ _ pB).trans (Heap.get?_push_of_some _ hb))
 ·exact(hs.2 x nD).trans (Heap.get?_update_self _ eR rfl)
end
end PySem.W
namespace PySem.W
abbrev bmV:List Value:=[.type "ValueError",.type "Exception",.type "BaseException",.type "object"]
structure ExcI(h:Heap)(C f:Addr):Prop where
 ex:∃bm N nm qn bs hdct sn sub ab col dd k0 k1 k2 k3 k5 mN oI,h.get? C=some (excClassObj nm qn C N bs bm hdct sn sub ab col dd k0 k1 k2 k3 k5 "ValueError.__new__")/\h.Ns N mN/\mN "__init__" = some (.ref f)/\OwnTail h bmV bm/\h.get? f=some oI/\oI.cls=.type "function"
def excInI(K:Frag)(C f:Addr):Bool:=match K.lookup C with
 |some ⟨.type "type", _,.cls cd,sl⟩=>(match cd.mro,sl.toList with
  |.ref C'::bm, [_,_,_,_,some (.builtin n),_]=>C'==C&&n == "ValueError.__new__" && !cd.hasDel&&tailIn K bmV bm&&nsOkIn K cd.ns&&nsIn K cd.ns "__init__" == some (some (.ref f))&&typeIn K (.ref f)==some (.type "function")
  |_,_=>false)
 |_=>false
theorem Kq{K:Frag}{h:Heap}{N:Addr}{mg:Str->Option Value}{n:Str}{v:Value}(X:K.In h)(G:h.Ns N mg)(e:nsIn K N n=some (some v)):mg n=some v:=by
 obtain⟨o,es,ep,ho,hd,_,hf⟩:=G;unfold nsIn at e;split at e
 ·rename_i c d gC n' sl q
  have:=X _ _ q;rw[ho]at this;cases this;cases hd;split at e
  ·rename_i en he
   cases e;rw[<-hf];unfold nsFind findBy;rw[<-RK,he];rfl
  ·first|cases e|(split at e<;>cases e)
 ·cases e
theorem q6i{K:Frag}{h:Heap}{f:Addr}(X:K.In h)(e:typeIn K (.ref f)=some (.type "function")):∃oI,h.get? f=some oI/\oI.cls=.type "function" := by
 unfold typeIn at e;dsimp only at e;cases q:K.lookup f with
 |none=>rw[q]at e;cases e
 |some o=>rw[q]at e;exact⟨o,X _ _ q,by simpa using e⟩
theorem excI_of{K:Frag}{h:Heap}{C f:Addr}(X:K.In h)(q:excInI K C f=true):ExcI h C f:=by
 unfold excInI at q;split at q
 ·rename_i dd cd sl ho
  split at q
  ·rename_i C' bm k0 k1 k2 k3 n k5 hm hs
   obtain⟨nm,bs,mro,ns,qn,hd,sn,sub,ab,col,nF⟩:=cd;simp only[Df,beq_iff_eq,DT]at q hm;obtain⟨⟨⟨⟨⟨⟨z1,z2⟩,z3⟩,z4⟩,z5⟩,z6⟩,z7⟩:=q;subst z1;subst z2;subst hm;subst z3;obtain⟨l⟩:=sl;have hs:l=_:=hs;subst hs;obtain⟨oI,e1,e2⟩:=q6i X z7;have N1:=Heap.Ns.of_isNs (isNs_of_in X z5);exact⟨bm,ns,nm,qn,bs,hd,sn,sub,ab,col,dd,k0,k1,k2,k3,k5,_,oI,X _ _ ho,N1,Kq X N1 z6,tail_of_in X z4,e1,e2⟩
  ·cases q
 ·cases q
section
variable {prog:Program}{w:World}{A:Around}{E:Value->Shared->Prop}{s:Shared}{C f:Addr}
theorem kZ{h:Heap}{g:Array GenState}{d:Drawn}{t:Nat}{os:OsState}{rest:List Value}{Q:Fin->Shared->Prop}(J:ExcI h C f)(cg:rest.length<=sizeLine)(hq:∀h' e,Heap.MadeExcOf h h' e (.ref C) rest->wpAny (model prog w) A (call (.ref f) (.ref e::rest)) (λr s'=>r=.none/\Q (.done (.ret (.ref e))) s') E ⟨h',g,d,t,os⟩):
  wpAny (model prog w) A (Builtin.«type.__call__» ⟨.ref C::rest, []⟩) Q E ⟨h,g,d,t,os⟩:=by
 obtain⟨bm,N,nm,qn,bs,hdct,sn,sub,ab,col,dd,k0,k1,k2,k3,k5,mN,oI,hC,hn,hi,T,gV,gW⟩:=J.ex;have Fn:=PySem.F.excBase_ValueError
 repeat (first|with_reducible refine GG hC ?_|with_reducible refine wpAny_madeBy_exc hC ?_|wp_step)
 refine codeAny_call_builtin_code (Code.quiet_builtin _ Fn.quiet) (wpAny_check_new_subU Fn (by decide) T hC ?_);refine codeAny_exc_new_subU Fn (by decide) Fn T hC ?_ cg;show wpAny _ _ _ _ _ _;have kk:∀b o,h.get? b=some o->((h.push { cls:=.type "tuple", data:=.seq rest.toArray }).push { cls:=.ref C,data:=.fields #[.ref h.objs.size,.none,.none,.none,.bool false,.none] }).get? b=some o :=
  λb o e=>Heap.get?_push_of_some _ (Heap.get?_push_of_some _ e)
 have gX:((h.push { cls:=.type "tuple", data:=.seq rest.toArray }).push
   { cls:=.ref C,data:=.fields #[.ref h.objs.size,.none,.none,.none,.bool false,.none] }).get? (h.objs.size+1)=some
   { cls:=.ref C,data:=.fields #[.ref h.objs.size,.none,.none,.none,.bool false,.none] }:=by heap_get
 have eS:=kk _ _ hC;have gY:=hn.keeps kk;have lO:=T.keeps kk;have pC:(Value.ref C::bm).contains (.ref C)=true:=by simp
 unfold isInstance
 repeat (first|with_reducible refine GG gX ?_|(with_reducible refine GN eS ?_;rw[pC])|wp_step)
 show wpAny _ _ (typeLookup (.ref C) _) _ _ _;refine wpAny_typeLookup_tail eS gY lO Fn.mroIs Fn.init.lookup ?_;rw[hi];refine GK (GD ?_);unfold bindSpecial;refine GD (wpAny_typeOf (T := "function") ⟨_,kk _ _ gV,gW⟩ ?_);rw[GL (by decide)];refine GE (GD (GF (hq _ (h.objs.size+1) ⟨kk,Heap.get?_none_of_le (RE _),h.objs.size,gX,Heap.get?_none_of_le (Ux _),?_⟩) (λr s' hr=>?_) λ_ _ x=>x))
 ·exact Heap.get?_push_of_some _ (Heap.get?_push_at rfl rfl)
 ·obtain⟨rfl,hQ⟩:=hr
  wp_walk;exact hQ
theorem Gn{rest:List Value}{Q:Value->Shared->Prop}(J:ExcI s.heap C f)(cg:rest.length<=sizeLine)(hq:∀h' e,Heap.MadeExcOf s.heap h' e (.ref C) rest->wpAny (model prog w) (A.under (.builtin "type.__call__" ⟨.ref C::rest, []⟩)) (call (.ref f) (.ref e::rest)) (λr s'=>r=.none/\Q (.ref e) s') E { s with heap:=h' }):
  wpAny (model prog w) A (call (.ref C) rest) Q E s:=by
 obtain⟨h,g,d,t,os⟩:=s;obtain⟨bm,N,nm,qn,bs,hdct,sn,sub,ab,col,dd,k0,k1,k2,k3,k5,mN,oI,hC,hn,hi,T,gV,gW⟩:=J.ex;have f1:=tc_lookup;have f2:=tc_bind (.ref C);have hT:(⟨h,g,d,t,os⟩:Shared).TypeIs (.ref C) "type" := ⟨_,hC,rfl⟩;refine GZ (codeAny_of_tree ?_);show wpAny _ _ (callAny (.ref C) _) _ _ _
 repeat (any_goals (first|assumption|with_reducible refine GG hC ?_|wp_step))
 refine⟨rfl,?_⟩;refine codeAny_call_builtin_at (Code.quiet_builtin _ (by decide+kernel)) entry_typeCall (wpAny_check_type_call_sub hC (kZ J cg λh' e hm=>?_));exact hq h' e hm
abbrev excOb(C:Addr)(d:Option Addr)(t:Addr):Obj:={ cls:=.ref C,dict:=d,data:=.fields #[.ref t,.none,.none,.none,.bool false,.none] }
theorem Xh{env:Env}{x:Sem Value}{Q:Flow->Shared->Prop}(hh:A.handled=none)(h:wpAny (model prog w) A x (λv ag=>∃e d t,v=.ref e/\ExcI ag.heap C f/\ag.heap.get? e=some (excOb C d t)/\E (.ref e) ag) E s):wpAny (model prog w) A (raiseStmt env (some x) none) Q E s:=by
 unfold raiseStmt;refine GD (GF h (λv ag cS=>?_) λ_ _ x=>x);obtain⟨e,dx,tx,rfl,J,he,hE⟩:=cS;obtain⟨bm,N,nm,qn,bs,hdct,sn,sub,ab,col,dd,k0,k1,k2,k3,k5,mN,oI,hC,hn,hi,T,gV,gW⟩:=J.ex;have pD:(Value.ref C::bm).contains (.type "BaseException")=true:=by rw[RN,T.hasType (b:=true) (by decide),Bool.or_true]
 obtain⟨hp,g,d,tk,os⟩:=ag
 repeat (first|with_reducible refine GG he ?_|with_reducible refine GG hC ?_|(with_reducible refine GN hC ?_;rw[pD])|wp_step)
 exact wpAny_raiseNew_none hh hE
theorem Raise_I{env:Env}{x:Str}{np aG pos:Pos}{args:List Expr}{Q:Flow->Shared->Prop}(hh:A.handled=none)(cV:(backTo aG (starEach args env)).any (·.1)=false)(h:wpAny (model prog w) A (eval (.Name x np) env) (λc ag=>c=.ref C/\wpAny (model prog w) A (evalArgs (.ref C) true (backTo aG (starEach args env)) [])
   (λa bB=>a.kw=[]/\a.pos.length<=sizeLine/\ExcI bB.heap C f/\∀h' e,Heap.MadeExcOf bB.heap h' e (.ref C) a.pos ->
    wpAny (model prog w) (A.under (.builtin "type.__call__" ⟨.ref C::a.pos, []⟩)) (call (.ref f) (.ref e::a.pos)) (λr s'=>r=.none/\∃d t,ExcI s'.heap C f/\s'.heap.get? e=some (excOb C d t)/\E (.ref e) s') E { bB with heap:=h' }) E ag) E s):
  wpAny (model prog w) A (exec (.Raise (some (.Call (.Name x np) args [] aG)) none pos) env) Q E s:=by
 rw[arm_exec_Raise];refine GD (GQ (Xh (C:=C) (f:=f) hh ?_));refine GD (GF (wpAny_Call_ofName (GF h (λc ag cS=>?_) λ_ _ x=>x)) (λv dL fu=>GD (GQ (GE fu))) λ_ _ x=>x);obtain⟨rfl,cS⟩:=cS;unfold callWith;refine GD (GK (GF cS (λa bB cT=>GD (GQ ?_)) λ_ _ x=>x));obtain⟨aF,pE⟩:=a;obtain⟨pF,aw,J,cT⟩:=cT;obtain rfl:pE=[]:=pF;obtain⟨bm,N,nm,qn,bs,hdct,sn,sub,ab,col,dd,k0,k1,k2,k3,k5,mN,oI,hC,hn,hi,T,gV,gW⟩:=J.ex;obtain⟨hp,g,d,tk,os⟩:=bB;simp only[cV];refine GD (wpAny_keeperOf_exc hC ?_);refine GD (Gn J aw λh' e hm=>GF (cT h' e hm) (λr s' z=>⟨z.1,GD (GK (wpAny_point (GE ?_)))⟩) λ_ _ x=>x);obtain⟨_,dx,tx,J',he,hE⟩:=z;exact⟨e,dx,tx,rfl,J',he,hE⟩
theorem bexc_init{e:Addr}{dx:Option Addr}{tx:Addr}{rest:List Value}{R:Result->Shared->Prop}(J:ExcI s.heap C f)(he:s.heap.get? e=some (excOb C dx tx))(cg:rest.length<=sizeLine)(hq:∀h' t',(∀b o,b≠e->s.heap.get? b=some o->h'.get? b=some o)->h'.get? e=some (excOb C dx t')->R (.ok (.ret .none)) { s with heap:=h' }):
  codeAny (model prog w) A (.call (.builtin "ValueError.__init__") ⟨.ref e::rest, []⟩) R s:=by
 obtain⟨bm,N,nm,qn,bs,hdct,sn,sub,ab,col,dd,k0,k1,k2,k3,k5,mN,oI,hC,hn,hi,T,gV,gW⟩:=J.ex;have F:=PySem.F.excBase_ValueError;obtain⟨h,g,d,t,os⟩:=s;refine GO F.init.plain F.initEntry (wpAny_check_init_subU F T hC he rfl ?_);have cJ:e≠h.objs.size:=UU (Heap.lt_size he);have pG:(h.push { cls:=.type "tuple", data:=.seq rest.toArray }).get? e=some (excOb C dx tx):=Heap.get?_push_of_some _ he
 wp_walk;refine hq _ h.objs.size (λb o hb q=>?_) ?_
 ·rw[Heap.get?_update_other _ _ (Ne.symm hb)];exact Heap.get?_push_of_some _ q
 ·exact(Heap.get?_update_self _ pG rfl).trans rfl
end
end PySem.W
namespace L2
open PySem PySem.Spec PyProof.Rows
def q73(a C:Addr)(d:Option Addr):Heap->Prop:=λh=>∃t,h.get? a=some (W.excOb C d t)
abbrev excO(a C:Addr)(d:Option Addr):HO:=.ext (q73 a C d)
theorem XH{P:Program}{w:World}{H:Hp}{h:Heap}{a C:Addr}{d:Option Addr}{t:Addr}(e:h.get? a=some (W.excOb C d t)):ObjOk P w H h a (excO a C d):=
 ⟨⟨t,e⟩,⟨_,e⟩,λh1 h2 ⟨t',e'⟩ k=>⟨t',k _ e'⟩⟩
theorem jX{P:Program}{w:World}{H:Hp}{h:Heap}{a C:Addr}{d:Option Addr}(x:HOk P w H h)(e:H a=some (excO a C d)):∃t,h.get? a=some (W.excOb C d t):=(x a _ e).1
structure ExcK(K:PySem.W.Frag)(C f:Addr):Prop where
 i:W.excInI K C f=true
 sa:W.findIn K (.ref C) "__setattr__" = some (some (.builtin "object.__setattr__"))
 ov:W.excOver K C=true
 ga:W.findIn K (.ref C) "__getattribute__" = some (some (.builtin "BaseException.__getattribute__"))
 gt:W.findIn K (.ref C) "__getattr__" = some none
 mr:W.mroIn K C (.type "BaseException")=some true
 hd:W.hasDictIn K C=true
section
variable {X:Cx}{o e value:Expr}{f:Str}{pos aJ:Pos}{ta tv:TE}{C g:Addr}
def q7e(K:PySem.W.Frag)(C:Addr)(ta tv:TE)(f:Str):TS:=λD σ H=>tv σ H λy H1=>ta σ H1 λx H2=>∃a,x=.ref a/\H2 a=some (excO a C none)/\∀d,H2 d=none->D.nx σ (upd (upd H2 d (.xd [(f,y)])) a (excO a C (some d)))
def tFs3(a b:Str)(te:TE):TE:=λσ H Q=>te σ H λv H1=>∃n,v=.int n/\n.natAbs.log2<1920/\(Str.ofString (toString n)).length<=10000/\Q (.str (Str.empty++a++(Str.ofString (toString n))++b)) H1
theorem q4S{a b:Str}{ka kb:_}{pa pb pf:Pos}{te:TE}(la:a.length<=10000)(lb:b.length<=10000)(he:QE X e te):QE X (.JoinedStr [.Constant (.str a) ka pa,.FormattedValue e (-1) none pf,.Constant (.str b) kb pb] pos) (tFs3 a b te):=⟨by
 intro a5 s σ H Q I h;refine wpAny_JoinedStr ?_;refine Calls.Constant_str ⟨a,_,rfl,by rw[G7,show Str.empty.length=0 from rfl,GX];lia,?_⟩;show wpAny _ _ (eval (.FormattedValue e (-1) none pf) X.env) _ _ _;refine wpAny_FormattedValue_plain (thn (he.h a5 _ σ H _ (I.tok _) h) λu s1 zz=>?_);obtain⟨v,H1,I1,rv,n,ev,hn,ln,q⟩:=zz;subst ev;obtain⟨t,rfl⟩:=(show ∃t,u=Value.int n t from rv);refine wpAny_formatField_int hn ?_;refine⟨_,_,rfl,by rw[G7,G7,show Str.empty.length=0 from rfl,GX];lia,?_⟩;have lz:(Str.empty++a++Str.ofString (toString n)++b).length<=sizeLine:=by rw[G7,G7,G7,show Str.empty.length=0 from rfl,GX];lia
 refine Calls.Constant_str ⟨b,_,rfl,lz,lz,?_⟩;exact⟨.str (Str.empty++a++Str.ofString (toString n)++b),H1,(((I1.tok _).tok _).tok _),⟨_,rfl⟩,q⟩⟩
theorem q43(c:ExcK X.K C g)(n:NoAttr X.K C f)(ha:QE X o ta)(hv:QE X value tv)(hs:swapsWith value (some (.Attribute o f aJ)) pos.line X.env=pure false:=by rfl):QS X (.Assign [.Attribute o f aJ] value pos) (q7e X.K C ta tv f):=⟨by
 intro a5 s σ H D I h;refine G9 (thn (hv.h a5 s σ H _ I h) λu s1 ⟨y,H1,I1,ry,q⟩=>thn (ha.h a5 s1 σ H1 _ I1 q) λov s2 ⟨x,H2,I2,rx,a,ex,ea,q2⟩=>?_) hs;subst ex;obtain rfl:ov=Value.ref a:=rx;obtain⟨t,hx⟩:=jX I2.hok ea;refine W.setX_new I2.kIn (C:=C) (ox:=W.excOb C none t) ⟨hx,rfl,rfl,trivial⟩ rfl rfl c.sa c.ov n λh' d hd k e1 e2=>?_;obtain⟨od,es,ep,ho,hr⟩:=e2;have hf:=(Heap.get?_some_iff.mp ho).2;have hm:(s2.heap.push od).get? d=some od:=by rw[hd];exact Heap.get?_push_size _ hf
 have ne:a≠d:=by rw[hd];exact UU (Heap.lt_size hx)
 have J:=I2.laid (a:=d) (o:=.xd [(f,y)]) (h':=s2.heap.push od) (t':=s2.toks) (λb v q=>Heap.get?_push_of_some _ q) (by rw[hd];exact Ux _)
  ⟨_,⟨od,es,ep,hm,hr⟩,λz=>by
   show RelO (([(f,y)]:List (Str×V)).lookup z) (if z=f then some u else none);rw[U0];by_cases q:z=f
   ·subst q;rw[G3,GL rfl];exact ry
   ·rw[GH q,beq_eq_false_iff_ne.mpr q];exact True.intro⟩
 have fr:H2 d=none:=I2.hok.fresh (by rw[hd];exact Ux _);have J2:=J.write (x:=a) (e:=a) (o:=excO a C (some d)) (h':=h') (t':=s2.toks+2) (by rw[upd_ne ne,ea];exact True.intro) (.inl rfl) (λb v hb q=>?_) ⟨_,e1⟩ (XH (t:=t) e1)
 ·exact⟨σ,_,J2,q2 d fr⟩
 ·by_cases hbd:b=d
  ·subst hbd;rw[hm]at q;rw[ho];exact q
  ·have q':s2.heap.get? b=some v:=by
    have hz:b≠s2.heap.objs.size:=by rw[<-hd];exact hbd
    have:=Heap.get?_some_iff.mp q;refine Heap.get?_some_iff.mpr ⟨?_,this.2⟩;have q1:=this.1;revert q1 hz;cases s2.heap;intro hz q1;simp only[Heap.push]at q1 hz ⊢;rw[RG,GH hz]at q1;exact q1
   exact k b v hb q'⟩
structure q3s(K:PySem.W.Frag)(mg:Str->Option Value)(x:Str)(B:Addr):Prop where
 b:mg x=some (.ref B)
 sp:W.specialIn K (.ref B) "__getattribute__" = some (some (.builtin "type.__getattribute__"))
 rd:W.readsIn K B (.type "type")=true
 fi:W.findCls K (.ref B) (.type "type") "__init__" = some (.val (.builtin "ValueError.__init__"))
def q4F(C:Addr)(ta:TA):TS:=λD σ H=>ta σ H λvs H1=>∃a d rest,vs=.ref a::rest/\H1 a=some (excO a C d)/\rest.length<=1000/\D.nx σ H1
theorem q0h{x:Str}{B:Addr}{p aF:Pos}{es:List Expr}{tl:TA}{pl:Sem Bool}(c:ExcK X.K C g)(b:q3s X.K X.mg x B)(ha:QA X (e::es) tl)(hg:Gl X x:=by rfl)(bf:(x==("__debug__" : Str))=false:=by decide)(dD:starEach (e::es) X.env=(false,eval e X.env)::starEach es X.env:=by rfl)(bI:(backTo pos (starEach es X.env)).any (·.1)=false:=by rfl)(ht:eval (.Call (.Attribute (.Name x p) "__init__" aF) (e::es) [] pos) X.env=(do
   let ov <-eval (.Name x p) X.env
   standAt aF.atName;let(f,first) <-holding [ov] (getMethod ov "__init__" pl)
   callWith pos f first (backTo pos (starEach (e::es) X.env)) (backToKw pos (keywordEach [] X.env))):=by rfl)(hs:swapsWith (.Call (.Attribute (.Name x p) "__init__" aF) (e::es) [] pos) none aJ.line X.env=pure false:=by rfl):
  QS X (.Expr (.Call (.Attribute (.Name x p) "__init__" aF) (e::es) [] pos) aJ) (q4F C tl):=⟨by
 intro a5 s σ H D I h;refine Um ?_ I.quiet hs;refine Dn (pl:=pl) (vU I hg b.b ?_ bf) ht;refine W.method_cls I.kIn b.sp (W.cls_value I.kIn b.rd b.fi rfl ?_);refine PyProof.Rows.callWith_builtin1 (thn (ha.h pos a5 _ σ H _ (I.tok _) h) λus s1 ⟨vs,H1,I1,r1,a,d,rest,ev,ea,hl,q1⟩=>?_) dD bI;subst ev;cases r1 with
 |cons ra rr=>
 rename_i u cb _;obtain rfl:u=Value.ref a:=ra;obtain⟨t,hx⟩:=jX I1.hok ea;refine GZ (W.bexc_init (W.excI_of I1.kIn c.i) hx (by rw[<-rr.length,GX];lia) λh' t' k e1=>?_);have J:=I1.write (x:=a) (e:=a) (o:=excO a C d) (h':=h') (t':=s1.toks) (by rw[ea];exact True.intro) (.inl rfl) (λb v hb q=>k b v hb q) ⟨_,e1⟩ (XH (t:=t') e1);refine⟨σ,H1,?_,q1⟩;have eH:upd H1 a (excO a C d)=H1:=by
  funext b;unfold upd;split
  ·rename_i q;rw[q,ea]
  ·rfl
 rw[eH]at J;exact J⟩
end
structure Fli(P:Program)(w:World)(outer:List Env)(H:Hp)(s:Shared)(a:Addr)(C:Value)(d:Option Addr)(H':Hp)(s':Shared):Prop where
 own:∀o,s'.heap.get? a=some o->okey o=(d,some .none)
 os:s'.os=s.os
 bare:AllBare s'.gens
 fly:∃(B:Heap)(a0:Value),Heap.FlyingW B outer a C a0 s'.heap/\HOk P w H' B/\(∀b∈frs outer,B.get? b=none)/\(∀b o,s.heap.get? b=some o->H b=none->b∉frs outer->B.get? b=some o) /\
  ∀b o,s.heap.get? b=some o->H b≠none->∃o',B.get? b=some o'
 up:∀b o,s.heap.get? b=some o->H b=none->b∈frs outer->∃sl,s'.heap.get? b=some { o with slots:=sl }
 free:∀b o,s.heap.get? b=some o->H b=none->H' b=none
 tups:∀b xs,H b=some (.tup xs)->H' b=some (.tup xs)
 frzs:∀b o u,H b=some (.frz o u)->H' b=some (.frz o u)
 tbls:∀b ps,H b=some (.tbl ps)->∃more,H' b=some (.tbl (ps++more))
def CXe(P:Program)(w:World):CXT:=λouter H s E e s'=>∃a C d H',e=.ref a/\Fli P w outer H s a C d H' s'/\E C d H'
theorem CXe.mono{P:Program}{w:World}{outer:List Env}{H:Hp}{s s':Shared}{E E':XK}{e:Value}(h:CXe P w outer H s E e s')(k:∀C d H',E C d H'->E' C d H'):CXe P w outer H s E' e s':=by
 obtain⟨a,C,d,H',e1,f,q⟩:=h;exact⟨a,C,d,H',e1,f,k C d H' q⟩
structure Body(X:Cx)(outer:List Env):Prop where
 stk:X.stack=X.env::outer
 out:X.outer=outer
 fr:X.env.frame=some X.env.locals
 ex:X.ex=[]
section
variable {X:Cx}{outer:List Env}{a5:List (Addr×Obj)}{σ:St}{H:Hp}{s:Shared}
theorem Inv.old(I:Inv X a5 σ H s){b:Addr}{o:Obj}(q:X.s₀.heap.get? b=some o):b≠X.env.locals:=λz=>by
 subst z;exact absurd (Heap.lt_size q) (Nat.not_lt.mpr I.ok.above)
theorem Body.mem(Y:Body X outer){b:Addr}(hb:b∈frs X.stack):b=X.env.locals\/b∈frs outer:=by
 rw[Y.stk]at hb;obtain⟨env,he,hf⟩:=U8.mp hb;rcases UQ.mp he with rfl|he
 ·rw[Y.fr]at hf;exact .inl (Option.some.inj hf).symm
 ·exact .inr (U8.mpr ⟨env,he,hf⟩)
theorem Body.in_(Y:Body X outer){b:Addr}(hb:b∈frs outer):b∈frs X.stack:=by
 rw[Y.stk];obtain⟨env,he,hf⟩:=U8.mp hb;exact U8.mpr ⟨env,.tail _ he,hf⟩
def untr(H:Hp)(a:Addr):Hp:=λb=>if b=a then none else H b
theorem xt{H:Hp}{a b:Addr}(h:b≠a):untr H a b=H b:=by unfold untr;rw[GH h]
theorem KJ{H:Hp}{a:Addr}:untr H a a=none:=by unfold untr;rw[GL rfl]
theorem HOk.untr{P:Program}{w:World}{H:Hp}{h h':Heap}{a:Addr}{φ:Heap->Prop}(x:HOk P w H h)(ea:H a=some (.ext φ))(k:∀b u,b≠a->H b≠none->h.get? b=some u->h'.get? b=some u):HOk P w (untr H a) h':=λb o e=>by
 have hb:b≠a:=λz=>by rw[z,KJ]at e;cases e
 rw[xt hb]at e;refine(x b o e).stay (λc u hc q=>?_) (λc hc=>?_) λc xs hc=>?_
 ·rcases hc with rfl|hc
  ·exact k _ u hb (by rw[e];simp) q
  ·exact k c u (λz=>by rw[z,ea]at hc;cases hc) (by rw[hc];simp) q
 ·rw[xt λz=>by rw[z,ea]at hc;cases hc];exact hc
 ·rw[xt λz=>by rw[z,ea]at hc;cases hc];exact hc
theorem XB(Y:Body X outer)(I:Inv X a5 σ H s){e C:Addr}{d:Option Addr}{E:XK}{R:Value->Shared->Prop}{M:Model}{A:Around}(hA:A.frames=some X.stack)(hx:H e=some (excO e C d))(pH:X.s₀.heap.get? e=none)(hE:E (.ref C) d (untr H e)):
  wpAny M A (leaving X.env (.ref e)) (λ_ fo=>CXe X.prog X.w outer X.H₀ X.s₀ E (.ref e) fo) R s:=by
 obtain⟨t0,nG⟩:=jX I.hok hx;have eT:∀env∈X.stack,∀b,env.frame=some b->b∈e::frs X.stack:=λenv he b hb=>.tail _ (U8.mpr ⟨env,he,hb⟩);have hl:s.heap.FunFrames (W.hideAll s.heap (e::frs X.stack)) X.stack:=W.funFrames_hide I.stack eT;rw[Y.stk]at hA;have ob:∀b o,X.s₀.heap.get? b=some o->b∉frs outer->b∉e::frs X.stack:=λb o q n z=>by
  rcases UQ.mp z with rfl|z
  ·rw[pH]at q;cases q
  ·rcases Y.mem z with z|z
   ·exact I.old q z
   ·exact n z
 have nx:∀b,b∉X.ex:=λb=>by rw[Y.ex];simp
 have fs:∀b,b∈frs outer↔b∈X.fs:=λb=>by show _↔b∈frs X.outer;rw[Y.out]
 refine GF (DK.any (Qx _ _) (wpAny_leaving_firstW (base:=W.hideAll s.heap (e::frs X.stack)) hA (by rw[<-Y.stk];exact hl) Y.fr nG (λb o q=>RJ _ q) (DB _ (.head _)) rfl rfl rfl (Q:=λ_ s'=>Heap.LeftW (W.hideAll s.heap (e::frs X.stack)) (X.env::outer) e (.ref C) (.ref t0) s.heap s'.heap/\∃h',s'={ s with heap:=h' }) λh' q=>⟨q,h',rfl⟩)) (λ_ s' q=>?_) λ_ _ q=>q.1;obtain⟨⟨⟨k1,⟨_,_,k2⟩,k3,k4⟩,h',rfl⟩,kd⟩:=q;refine⟨e,.ref C,d,untr H e,rfl,⟨?_,I.os,I.bare,⟨_,.ref t0,⟨k1,DB _ (.head _),k2,k3⟩,?_,?_,?_,?_⟩,?_,?_,?_,?_,?_⟩,hE⟩
 ·exact λo q=>(kd.get (d:=0) nG q)
 ·exact I.hok.untr hx λb u hb pI q=>DF _ q λhm=>by
   rcases UQ.mp hm with z|hm
   ·exact hb z
   ·exact pI (I.stkFree b hm)
 ·exact λb hb=>DB _ (.tail _ (Y.in_ hb))
 ·exact λb o q n hb=>DF _ (I.base.keep b o q n (λz=>hb ((fs b).mpr z)) (nx b)) (ob b o q hb)
 ·intro b o q n
  obtain⟨o',e1⟩:=I.base.there b o q (nx b);refine⟨o',DF _ e1 (ob b o q λz=>n (I.ok.frf b ((fs b).mp z)))⟩
 ·intro b o q n hb
  obtain⟨sl,e1⟩:=I.base.slot b o q n ((fs b).mp hb) (nx b);obtain⟨_,o',ce,hd⟩:=I.ok.funs.mem (show b∈X.outer.filterMap (·.frame) from(fs b).mp hb);rw[q]at ce;cases ce;obtain⟨eP,e2⟩:=k4 b _ e1 hd;exact⟨eP,e2⟩
 ·intro b o q n
  have:=I.base.free b o q n (nx b);unfold untr;split
  ·rfl
  ·exact this
 ·intro b xs q
  have:=I.base.tups b xs q;rw[xt λz=>by rw[z,hx]at this;cases this];exact this
 ·intro b o u q
  have:=I.base.frzs b o u q;rw[xt λz=>by rw[z,hx]at this;cases this];exact this
 ·intro b ps q
  obtain⟨m,this⟩:=I.base.tbls b ps q;exact⟨m,by rw[xt λz=>by rw[z,hx]at this;cases this];exact this⟩
theorem YQ(Y:Body X outer)(I:Inv X a5 σ H s){e:Value}{s':Shared}{E:XK}{R:Value->Shared->Prop}{M:Model}{A:Around}(hA:A.frames=some X.stack)(hx:CXe X.prog X.w X.stack H s E e s'):
  wpAny M A (leaving X.env e) (λ_ fo=>CXe X.prog X.w outer X.H₀ X.s₀ E e fo) R s':=by
 obtain⟨a,C,d,H',rfl,F,hE⟩:=hx;obtain⟨B,a0,fl,hok,nb,kp,th⟩:=F.fly;have ob:∀b o,X.s₀.heap.get? b=some o->b∉frs outer->b∉frs X.stack:=λb o q n z=>by
  rcases Y.mem z with z|z
  ·exact I.old q z
  ·exact n z
 have nx:∀b,b∉X.ex:=λb=>by rw[Y.ex];simp
 have fs:∀b,b∈frs outer↔b∈X.fs:=λb=>by show _↔b∈frs X.outer;rw[Y.out]
 rw[Y.stk]at hA fl;refine GF (DK.any (Qx _ _) (wpAny_leaves_onW hA Y.fr fl (Q:=λ_ s2=>(Heap.FlyingW B outer a C a0 s2.heap/\s'.heap.UpToSlots s2.heap)/\∃h',s2={ s' with heap:=h' }) λh' x1 x4=>⟨⟨x1,x4⟩,h',rfl⟩)) (λ_ s2 z=>?_) λ_ _ q=>q.1;obtain⟨⟨⟨x1,x4⟩,h',rfl⟩,kd⟩:=z;refine⟨a,C,d,H',rfl,⟨?_,F.os.trans I.os,F.bare,⟨B,a0,x1,hok,λb hb=>nb b (Y.in_ hb),?_,?_⟩,?_,?_,λb xs q=>F.tups b xs (I.base.tups b xs q),λb o u q=>F.frzs b o u (I.base.frzs b o u q),?_⟩,hE⟩
 ·obtain⟨o1,e1,_⟩:=fl.there
  exact λo q=>(kd.get (d:=0) e1 q).trans (F.own o1 e1)
 ·exact λb o q n hb=>kp b o (I.base.keep b o q n (λz=>hb ((fs b).mpr z)) (nx b)) (I.base.free b o q n (nx b)) (ob b o q hb)
 ·intro b o q n
  obtain⟨o',e1⟩:=I.base.there b o q (nx b);cases hb:H b with
  |none=>exact⟨o',kp b o' e1 hb (ob b o q λz=>n (I.ok.frf b ((fs b).mp z)))⟩
  |some u=>exact th b o' e1 (by rw[hb];simp)
 ·intro b o q n hb
  obtain⟨sl,e1⟩:=I.base.slot b o q n ((fs b).mp hb) (nx b);obtain⟨ip,e2⟩:=F.up b _ e1 (I.base.free b o q n (nx b)) (Y.in_ hb);obtain⟨_,o',ce,hd⟩:=I.ok.funs.mem (show b∈X.outer.filterMap (·.frame) from(fs b).mp hb);rw[q]at ce;cases ce;obtain⟨eP,e3⟩:=x4 b _ e2 hd;exact⟨eP,e3⟩
 ·intro b o q n
  obtain⟨o',e1⟩:=I.base.there b o q (nx b);exact F.free b o' e1 (I.base.free b o q n (nx b))
 ·intro b ps q
  obtain⟨m1,e1⟩:=I.base.tbls b ps q;obtain⟨m2,e2⟩:=F.tbls b _ e1;exact⟨m1++m2,by rw[e2,Rb]⟩
end
def q5P:List Str:=["laying","room","word","head","end","limb","small","kind","address"]
def wW(n:Int):Str:=(q5P[((n-1000000) % 9).toNat]?).getD ""
def wK(n:Int):Int:=(n-1000000) / 9
def xfs(n:Int):List (Str×V):=if n<1000000 then[("part",.int n)] else[("word",.str (wW n)),("k",.int (wK n))]
theorem QF{n:Int}(h:n<1000000):xfs n=([("part",.int n)]:List (Str×V)):=GL h
def pV:Option Int->V
 |none=>.non
 |some n=>.int n
theorem q24{p q:Option Int}(h:pV p=pV q):p=q:=by
 cases p<;>cases q<;>first|rfl|cases h
 rfl
def PartIs(d:Option Addr)(H:Hp):Option Int->Prop
 |none=>d=none
 |some n=>∃x,d=some x/\H x=some (.xd (xfs n))
def EX(mg:Str->Option Value)(D:Ends)(σ:St):XK:=λC d H'=>∃nm p,mg nm=some C/\PartIs d H' p/\D.bk (some (.str nm)::some (pV p)::σ) H'
def Cmp(X:Cx)(E:XK)(σ:St):Prop:=∀a5 H s e s',Inv X a5 σ H s->CXe X.prog X.w X.stack H s E e s'->X.xe e s'
def CmpD(r:Prop)(X:Cx)(D:Ends):Prop:=(∀σ,Cmp X (EX X.mg D σ) σ)/\(r->∀a5 σ H s e C d,Inv X a5 σ H s->H e=some (excO e C d)->X.s₀.heap.get? e=none->EX X.mg D σ (.ref C) d (untr H e)->X.xe (.ref e) s)
structure QX(r:Prop)(X:Cx)(st:Stmt)(t:TS):Prop where
 h:∀a5 s σ H D,CmpD r X D->Inv X a5 σ H s->t D σ H->wpAny (model X.prog X.w) X.A (exec st X.env) (SP X a5 D) X.xe s
structure QXs(r:Prop)(X:Cx)(st:List Stmt)(t:TS):Prop where
 h:∀a5 s σ H D,CmpD r X D->Inv X a5 σ H s->t D σ H->wpAny (model X.prog X.w) X.A (execs st X.env) (SP X a5 D) X.xe s
abbrev TX:=St->Hp->VK->XK->Prop
structure QXe(X:Cx)(e:Expr)(t:TX):Prop where
 h:∀a5 s σ H Q E,Cmp X E σ->Inv X a5 σ H s->t σ H Q E->wpAny (model X.prog X.w) X.A (eval e X.env) (EP X a5 σ Q) X.xe s
section
variable {r:Prop}{X:Cx}{st:Stmt}{rest:List Stmt}{t u:TS}{e:Expr}{tx:TX}{pos:Pos}
theorem qA(h1:QX r X st t)(h2:QXs r X rest u):QXs r X (st::rest) (tSeq t u):=⟨λa5 s σ H D c I h=>by
 refine GW (thn (h1.h a5 s σ H { D with nx:=u D } c I h) λf s1 q=>?_);cases f with
 |next=>
  obtain⟨ah,H',I',q⟩:=q;exact h2.h a5 s1 ah H' D c I' q
 |ret v=>exact q
 |brk=>exact q
 |cont=>exact q⟩
theorem vC:QXs r X [] QN:=⟨λa5 s σ H D c I h=>GV ⟨σ,H,I,h⟩⟩
theorem qw(h1:QX r X st t):QXs r X [st] t:=⟨λa5 s σ H D c I h=>by
 refine GW (thn (h1.h a5 s σ H D c I h) λf s1 q=>?_);cases f with
 |next=>exact GV q
 |ret v=>exact q
 |brk=>exact q
 |cont=>exact q⟩
theorem vS(h:QS X.nox st t):QX r X st t:=⟨λa5 s σ H D _ I q=>GF (h.h a5 s σ H D (I.wish _) q) (λ_ _ z=>z.unwish) λ_ _ z=>False.elim z⟩
theorem vR{c:Expr}{a b:List Stmt}{tc:TT}(hc:QT X.nox c tc)(ha:QXs r X a t)(hb:QXs r X b u):QX r X (.If c a b pos) (tIfS tc t u):=⟨λa5 s σ H D k I h=>by
 refine wpAny_If (thn (hc.h.nox a5 s σ H _ I h) λd s1 zz=>?_);obtain⟨H1,I1,q1⟩:=zz;cases d with
 |true=>exact ha.h a5 s1 σ H1 D k I1 q1
 |false=>exact hb.h a5 s1 σ H1 D k I1 q1⟩
def q23(tx:TX)(mg:Str->Option Value):TS:=λD σ H=>tx σ H (λ_ H1=>D.nx σ H1) (EX mg D σ)
theorem vg(he:QXe X e tx)(hs:swapsWith e none pos.line X.env=pure false:=by rfl):QX r X (.Expr e pos) (q23 tx X.mg):=⟨λa5 s σ H D k I h=>
 Um (thn (he.h a5 s σ H _ _ (k.1 σ) I h) λv s1 ⟨x,H1,I1,r1,q1⟩=>⟨σ,H1,I1,q1⟩) I.quiet hs⟩
def q5G(tx:TX)(mg:Str->Option Value):TS:=λD σ H=>tx σ H D.rt (EX mg D σ)
theorem zA(he:QXe X e tx):QX r X (.Return (some e) pos) (q5G tx X.mg):=⟨λa5 s σ H D k I h=>
 wpAny_Return_some (thn (he.h a5 s σ H _ _ (k.1 σ) I h) λv s1 ⟨x,H1,I1,r1,q1⟩=>⟨x,σ,H1,I1,r1,q1⟩)⟩
def q5C(i:Nat)(tx:TX)(mg:Str->Option Value):TS:=λD σ H=>tx σ H (λv H1=>D.nx (σ.set i (some v)) H1) (EX mg D σ)
theorem Jh{i:Nat}{x:Str}{aJ:Pos}(hN:X.N.Nodup)(hi:X.N[i]?=some x)(hx:Loc X.env.scope x)(he:QXe X e tx)(hs:swapsWith e (some (.Name x aJ)) pos.line X.env=pure false:=by rfl)(hf:X.fn x=true\/X.env.scope.names.lookup x=some .local:=by first|exact .inl rfl|exact .inr rfl|assumption):
  QX r X (.Assign [.Name x aJ] e pos) (q5C i tx X.mg):=⟨λa5 s σ H D k I h=>by
 refine Ua (thn (he.h a5 s σ H _ _ (k.1 σ) I h) λv s1 ⟨y,H1,I1,r1,q1⟩=>?_) hs;exact vE I1 hN hi hx r1 (λs2 I2=>⟨_,H1,I2,q1⟩) hf⟩
theorem Yo{k:Nat}{f:Addr}{fd:FuncData}{ps:List Str}{sp:Sp}{a5:List (Addr×Obj)}{σ:St}{H:Hp}{s:Shared}{Q:VK}{E:XK}{us:List Value}{vs:List V}(F:FnOk X.prog X.w X.K X.mg X.base (CXe X.prog X.w) k f fd ps sp)(hr:Room k X.A)(hb:Binds X.K fd ps [])(hx:Cmp X E σ)(I:Inv X a5 σ H s)(rv:Vals vs us)(h:sp vs H Q E):wpAny (model X.prog X.w) X.A (call (.ref f) us) (EP X a5 σ Q) X.xe s:=by
 have hl:us.length=ps.length:=by rw[<-rv.length];exact F.len _ _ _ _ h
 refine GZ (G5 (F.run X.A X.stack s H ⟨us, []⟩ us vs Q E hr I.env0 (by simpa using hb s us I.kIn (by simpa using hl)) rv h) λrr s' hq=>?_);cases rr with
 |error e=>exact hx a5 H s e s' I hq
 |ok fl=>
  cases fl with
  |ret u=>exact I.after hq
  |next=>exact False.elim hq
  |brk=>exact False.elim hq
  |cont=>exact False.elim hq
structure DefX(P:Program)(w:World)(K:PySem.W.Frag)(mg:Str->Option Value)(base:Heap)(x:Str)(k:Nat)(ps:List Str)(sp:Sp):Prop where
 ex:∃(f:Addr)(fd:FuncData),mg x=some (.ref f)/\W.keepIn K (.ref f)=true/\Binds K fd ps []/\FnOk P w K mg base (CXe P w) k f fd ps sp
structure q3U(P:Program)(w:World)(K:PySem.W.Frag)(mg:Str->Option Value)(base:Heap)(C:Addr)(m:Str)(k:Nat)(ps:List Str)(sp:Sp):Prop where
 ex:∃(f:Addr)(fd:FuncData),Meth K C m f/\Binds K fd ps []/\FnOk P w K mg base (CXe P w) k f fd ps sp
def q25(sp:Sp)(t:TA):TX:=λσ H Q E=>t σ H λvs H1=>sp vs H1 Q E
theorem vI{x:Str}{k:Nat}{ps:List Str}{sp:Sp}{p:Pos}{es:List Expr}{ta:TA}(D:DefX X.prog X.w X.K X.mg X.base x k ps sp)(hr:Room k X.A)(ha:QA X.nox (e::es) ta)(hg:Gl X x:=by rfl)(bf:(x==("__debug__" : Str))=false:=by decide)(he:starEach (e::es) X.env=(false,eval e X.env)::starEach es X.env:=by rfl)(bI:(backTo pos (starEach es X.env)).any (·.1)=false:=by rfl):
  QXe X (.Call (.Name x p) (e::es) [] pos) (q25 sp ta):=⟨λa5 s σ H Q E hx I h=>by
 obtain⟨f,fd,hm,hk,hb,F⟩:=D.ex;refine GR (vU I hg hm ?_ bf);refine Dw (h₀:=X.base) I.ok.mod.kin hk (GF (ha.h pos a5 s σ H _ (I.wish _) h) (λus s1 ⟨vs,H1,I1,r,q⟩=>⟨I1.unwish.kIn,?_⟩) λ_ _ z=>False.elim z) he bI;exact Yo F hr hb hx I1.unwish r q⟩
def q20(C:Addr)(m:Str)(sp:Sp)(ta:TE)(t:TA):TX:=λσ H Q E=>ta σ H λx H1=>∃a dx fs,x=.ref a/\H1 a=some (.ins C dx fs)/\fs.lookup m=none/\t σ H1 λvs H2=>sp (x::vs) H2 Q E
theorem qY{pl:Sem Bool}{C:Addr}{m:Str}{k:Nat}{ps:List Str}{sp:Sp}{o:Expr}{aF:Pos}{es:List Expr}{ta:TE}{tl:TA}(hq:QE X.nox o ta)(c:Cls X.K C)(D:q3U X.prog X.w X.K X.mg X.base C m k ps sp)(hr:Room k X.A)(ha:QA X.nox (e::es) tl)(dD:starEach (e::es) X.env=(false,eval e X.env)::starEach es X.env:=by rfl)(bI:(backTo pos (starEach es X.env)).any (·.1)=false:=by rfl)(ht:eval (.Call (.Attribute o m aF) (e::es) [] pos) X.env=(do
   let ov <-eval o X.env
   standAt aF.atName;let(f,first) <-holding [ov] (getMethod ov m pl)
   callWith pos f first (backTo pos (starEach (e::es) X.env)) (backToKw pos (keywordEach [] X.env))):=by rfl):
  QXe X (.Call (.Attribute o m aF) (e::es) [] pos) (q20 C m sp ta tl):=⟨λa5 s σ H Q E hx I h=>by
 obtain⟨f,fd,hm,hb,F⟩:=D.ex;refine Dn (pl:=pl) (thn (hq.h.nox a5 s σ H _ I h) λu s1 ⟨x,H1,I1,rx,a,dx,fs,ex,ea,l,q⟩=>?_) ht;subst ex;obtain rfl:u=Value.ref a:=rx;refine xj I1 ea c hm l ?_;refine Dw (first:=[.ref a]) (h₀:=X.base) I.ok.mod.kin hm.kp (GF (ha.h pos a5 s1 σ H1 _ (I1.wish _) q) (λus s2 ⟨vs,H2,I2,r,q2⟩=>⟨I2.unwish.kIn,?_⟩) λ_ _ z=>False.elim z) dD bI;exact Yo (us:=.ref a::us) (vs:=.ref a::vs) F hr hb hx I2.unwish (.cons rfl r) q2⟩
end
theorem q3o{K:PySem.W.Frag}{h:Heap}{C:Addr}{cL:List Value}{bd:String}(X:K.In h)(q:W.excIn K C cL bd=true):
  ∃bm N nm qn bs hdct sn sub ab col dd k0 k1 k2 k3 k5 mN,h.get? C=some (excClassObj nm qn C N bs bm hdct sn sub ab col dd k0 k1 k2 k3 k5 bd)/\h.Ns N mN/\mN "__init__" = none/\OwnTail h cL bm:=by
 unfold W.excIn at q;split at q
 ·rename_i dd cd sl ho
  split at q
  ·rename_i C' bm k0 k1 k2 k3 n k5 hm hs
   obtain⟨nm,bs,mro,ns,qn,hd,sn,sub,ab,col,nF⟩:=cd;simp only[Df,beq_iff_eq,DT]at q hm;obtain⟨⟨⟨⟨⟨z1,z2⟩,z3⟩,z4⟩,z5⟩,z6⟩:=q;subst z1;subst z2;subst hm;subst z3;obtain⟨l⟩:=sl;have hs:l=_:=hs;subst hs;exact⟨bm,ns,nm,qn,bs,hd,sn,sub,ab,col,dd,k0,k1,k2,k3,k5,_,X _ _ ho,.of_isNs (RO X z5),DH X z5 z6,W.tail_of_in X z4⟩
  ·cases q
 ·cases q
structure ExcC(K:PySem.W.Frag)(mg:Str->Option Value)(x:Str)(C:Addr):Prop where
 b:mg x=some (.ref C)
 o:W.excIn K C [.type "ValueError",.type "Exception",.type "BaseException",.type "object"] "ValueError.__new__" = true
theorem q0P{H:Hp}{a:Addr}{o:HO}(h:H a=none):untr (upd H a o) a=H:=by
 funext b;unfold untr upd;split
 ·rename_i q;rw[q,h]
 ·rfl
theorem Inv.none0{X:Cx}{a5:List (Addr×Obj)}{σ:St}{H:Hp}{s:Shared}{e:Addr}(I:Inv X a5 σ H s)(hx:e∉X.ex)(h:s.heap.get? e=none):X.s₀.heap.get? e=none:=by
 cases z:X.s₀.heap.get? e with
 |none=>rfl
 |some o=>
  obtain⟨o',q⟩:=I.base.there e o z hx;rw[h]at q;cases q
theorem ObjOk.here{P:Program}{w:World}{H:Hp}{h:Heap}{a:Addr}{o:HO}(x:ObjOk P w H h a o):∃u,h.get? a=some u:=by
 cases o with
 |lst xs=>obtain⟨_,_,_,_,e⟩:=x;exact⟨_,e⟩
 |tup xs=>obtain⟨_,_,_,o,e,_⟩:=x;exact⟨o,e⟩
 |dK kvs=>obtain⟨_,_,_,_,o,_,_,e,_⟩:=x;exact⟨_,e⟩
 |dT kvs=>obtain⟨_,_,_,_,o,_,_,e,_⟩:=x;exact⟨_,e⟩
 |set S n=>obtain⟨o,_,_,_,e,_⟩:=x;exact⟨_,e⟩
 |ins C dx fs=>obtain⟨_,_,_,e,_⟩:=x;exact⟨_,e⟩
 |own y=>obtain⟨_,e⟩:=x;exact⟨_,e⟩
 |xd fs=>obtain⟨_,⟨_,_,_,e,_⟩,_⟩:=x;exact⟨_,e⟩
 |rng lo hi=>obtain⟨_,_,_,e⟩:=x;exact⟨_,e⟩
 |frz ob u=>obtain⟨e,_⟩:=x;exact⟨_,e⟩
 |tbl ps=>exact⟨_,(show h.get? a=some _ from x)⟩
 |met f y=>exact⟨_,(show h.get? a=some _ from x)⟩
 |ext φ=>obtain⟨_,⟨o,e⟩,_⟩:=x;exact⟨o,e⟩
theorem Inv.exc{X:Cx}{a5:List (Addr×Obj)}{σ:St}{H:Hp}{s:Shared}{e C:Addr}{args:List Value}{h1:Heap}(I:Inv X a5 σ H s)(hm:Heap.MadeExcOf s.heap h1 e (.ref C) args):H e=none/\Inv X a5 σ (upd H e (excO e C none)) { s with heap:=h1 }:=by
 obtain⟨k,hn,t,ht,_⟩:=hm;have fr:H e=none:=by
  cases z:H e with
  |none=>rfl
  |some o=>
   obtain⟨u,q⟩:=(I.hok e o z).here;rw[hn]at q;cases q
 refine⟨fr,?_⟩;refine I.un (h':=h1) (t':=s.toks) ⟨λb u q _ _ _=>k b u q,λb u q _ _ _=>⟨u.slots,k b u q⟩,λb u q n _=>?_,λb u q _=>⟨u,k b u q⟩,λb xs q=>?_,λb u xs q=>?_,λb ps q=>⟨#[],?_⟩⟩ λb u q=>?_
 ·rw[upd_ne λz=>by rw[z,hn]at q;cases q];exact n
 ·rw[upd_ne (qU q fr)];exact q
 ·rw[upd_ne (qU q fr)];exact q
 ·rw[upd_ne (qU q fr),q];simp
 ·by_cases hb:b=e
  ·subst hb;rw[upd_same]at q;cases q;exact XH (t:=t) ht
  ·rw[upd_ne hb]at q
   exact(I.hok b u q).stay (λc v _ q=>k c v q) (λc q=>by rw[upd_ne (qU q fr)];exact q) λc xs q=>by rw[upd_ne (qU q fr)];exact q
def q2B(x:Str)(t:TA):TS:=λD σ H=>t σ H λvs H1=>vs.length<=sizeLine/\D.bk (some (.str x)::some .non::σ) H1
theorem q10{X:Cx}{x:Str}{C:Addr}{np aG pos:Pos}{e:Expr}{es:List Expr}{ta:TA}(hc:X.calm=true)(hx:X.ex=[])(O:ExcC X.K X.mg x C)(ha:QA X.nox (e::es) ta)(hg:Gl X x:=by rfl)(bf:(x==("__debug__" : Str))=false:=by decide)(he:starEach (e::es) X.env=(false,eval e X.env)::starEach es X.env:=by rfl)(bI:(backTo aG (starEach es X.env)).any (·.1)=false:=by rfl):
  QX True X (.Raise (some (.Call (.Name x np) (e::es) [] aG)) none pos) (q2B x ta):=⟨λa5 s σ H D k I h=>by
 obtain⟨bm,N,nm,qn,bs,hdct,sn,sub,ab,col,dd,k0,k1,k2,k3,k5,mN,hC,hN,pJ,T⟩:=q3o I.mod.kin O.o;have hh:=I.ok.hd hc;refine wpAny_Raise_call_subU (C:=C) (nm:=nm) (q:=qn) (N:=N) (bs:=bs) (bm:=bm) (hdct:=hdct) (sn:=sn) (sub:=sub) (ab:=ab) (col:=col) (dd:=dd) (k0:=k0) (k1:=k1) (k2:=k2) (k3:=k3) (k5:=k5)
  PySem.F.excBase_ValueError (by decide) PySem.F.excBase_ValueError (mN:=mN) (T.hasType PySem.F.excBase_ValueError.hasBase) hh (by rw[he];show(false||(backTo aG (starEach es X.env)).any (·.1))=false;rw[bI];rfl) pJ (vU I hg O.b ⟨rfl,?_⟩ bf)
 have h1:=ha.h aG a5 s σ H _ (I.wish _) h;rw[he]at h1 ⊢;refine Calls.evalArgs_plain (GF h1 (λvs bB ⟨xs,H1,I1,r,hl,q⟩=>?_) λ_ _ z=>False.elim z);have I2:=I1.unwish;refine⟨rfl,by rw[<-r.length];exact hl,I2.bk _ _ hC,hN.keeps I2.bk,T.keeps I2.bk,λh' e' hm=>?_⟩;obtain⟨fr,J⟩:=I2.exc hm;refine k.2 trivial a5 σ _ _ e' C none J upd_same (I2.none0 (by rw[hx];simp) hm.new) ⟨x,none,O.b,rfl,?_⟩;rw[q0P fr];exact q⟩
abbrev j5(n:Int):Prop:=n.natAbs.log2<1920/\(Str.ofString (toString n)).length<=10000/\n<1000000
def spI(C:Addr):Sp:=λvs H Q _=>∃a n,vs=[.ref a,.int n]/\j5 n/\H a=some (excO a C none)/\∀d,H d=none->Q .non (upd (upd H d (.xd [("part",.int n)])) a (excO a C (some d)))
structure ExcD(P:Program)(w:World)(K:PySem.W.Frag)(mg:Str->Option Value)(base:Heap)(x:Str)(C:Addr)(k:Nat):Prop where
 b:mg x=some (.ref C)
 ex:∃f fd,ExcK K C f/\Binds K fd ["self","part"] []/\FnOk P w K mg base CX0 k f fd ["self","part"] (spI C)
def K5(x:Str)(t:TA):TS:=λD σ H=>t σ H λvs H1=>∃n,vs=[.int n]/\j5 n/\∀d,H1 d=none->D.bk (some (.str x)::some (.int n)::σ) (upd H1 d (.xd [("part",.int n)]))
theorem ko{X:Cx}{x:Str}{C:Addr}{kk:Nat}{np aG pos:Pos}{e:Expr}{es:List Expr}{ta:TA}(hc:X.calm=true)(hx:X.ex=[])(O:ExcD X.prog X.w X.K X.mg X.base x C kk)(hr:Room (kk+1) X.A)(ha:QA X.nox (e::es) ta)(hg:Gl X x:=by rfl)(bf:(x==("__debug__" : Str))=false:=by decide)(he:starEach (e::es) X.env=(false,eval e X.env)::starEach es X.env:=by rfl)(bI:(backTo aG (starEach es X.env)).any (·.1)=false:=by rfl):
  QX True X (.Raise (some (.Call (.Name x np) (e::es) [] aG)) none pos) (K5 x ta):=⟨λa5 s σ H D k I h=>by
 obtain⟨f,fd,ck,hb,F⟩:=O.ex;have hh:=I.ok.hd hc;refine PySem.W.Raise_I (C:=C) (f:=f) hh (by rw[he];show(false||(backTo aG (starEach es X.env)).any (·.1))=false;rw[bI];rfl) (vU I hg O.b ⟨rfl,?_⟩ bf);have h1:=ha.h aG a5 s σ H _ (I.wish _) h;rw[he]at h1 ⊢;refine Calls.evalArgs_plain (GF h1 (λus bB ⟨xs,H1,I1,r,n,ev,hn,q⟩=>?_) λ_ _ z=>False.elim z);subst ev;have I2:=I1.unwish;have nH:us.length=1:=by rw[<-r.length];rfl
 refine⟨rfl,by show us.length<=_;rw[nH,GX];lia,W.excI_of I2.kIn ck.i,λh' e' hm=>?_⟩;obtain⟨fr,J⟩:=I2.exc hm;have r2:Vals [V.ref e',V.int n] (Value.ref e'::us):=.cons rfl r;refine GZ (G5 (F.run _ X.stack _ _ ⟨Value.ref e'::us, []⟩ (Value.ref e'::us) _ (λv H2=>v=.non/\∃d,H1 d=none/\d≠e'/\H2=upd (upd (upd H1 e' (excO e' C none)) d (.xd [("part",.int n)])) e' (excO e' C (some d))) E0 (hr.make C us [])
  (J.env0.make C us []) (by simpa using hb _ (Value.ref e'::us) J.kIn (by simp[nH])) r2 ⟨e',n,rfl,hn,upd_same,λd hd=>⟨rfl,d,?_,?_,rfl⟩⟩) λrr s' dH=>?_)
 ·by_cases z:d=e'
  ·subst z;rw[upd_same]at hd;cases hd
  ·rwa [upd_ne z]at hd
 ·intro z;subst z;rw[upd_same]at hd;cases hd
 ·cases rr with
  |error e=>exact False.elim dH
  |ok fl=>
   cases fl with
   |ret u=>
    obtain⟨v,H2,I3,rv,ev,d,iH,cP,eH⟩:=J.after dH;subst ev eH;obtain⟨t,ht⟩:=jX I3.hok (upd_same (H:=upd (upd H1 e' (excO e' C none)) d (.xd [("part",.int n)])) (o:=excO e' C (some d)));refine⟨rv,some d,t,W.excI_of I3.kIn ck.i,ht,?_⟩;refine k.2 trivial a5 σ _ _ e' C (some d) I3 upd_same (I2.none0 (by rw[hx];simp) hm.new) ⟨x,some n,O.b,⟨d,rfl,?_⟩,?_⟩
    ·rw[xt cP,upd_ne cP,upd_same,QF hn.2.2]
    ·have eU:untr (upd (upd (upd H1 e' (excO e' C none)) d (.xd [("part",.int n)])) e' (excO e' C (some d))) e'=upd H1 d (.xd [("part",.int n)]):=by
      funext b;unfold untr upd;by_cases z:b=e'
      ·subst z;simp only[Uc];rw[GH (Ne.symm cP),fr]
      ·simp only[z,G2]
     rw[eU];exact q d iH
   |next=>exact False.elim dH
   |brk=>exact False.elim dH
   |cont=>exact False.elim dH⟩
section
variable {P:Program}{w:World}{K:PySem.W.Frag}{mg:Str->Option Value}{base:Heap}
def bkX(n:Nat)(mg:Str->Option Value)(E:XK):St->Hp->Prop:=λτ H'=>∃nm p ah,τ=some (.str nm)::some (pV p)::ah/\ah.length=n/\∀C d,mg nm=some C->PartIs d H' p->E C d H'
theorem bkX.ex{n:Nat}{E:XK}{Q:VK}{nx:St->Hp->Prop}{σ:St}{C:Value}{H':Hp}{d:Option Addr}(h:EX mg { nx:=nx,rt:=Q,bk:=bkX n mg E } σ C d H'):E C d H':=by
 obtain⟨nm,p,hm,hp,gZ,p',ah,e,_,k⟩:=h;simp only[List.cons.injEq,Option.some.injEq,V.str.injEq]at e;exact k C d (e.1▸hm) (q24 e.2.1▸hp)
theorem Fun.okX{x ac:Str}{st:Stmt}{f:Addr}{fd:FuncData}{N ps:List Str}{k:Nat}{sp:Sp}(F:Fun K x ac st f fd)(S:q00 N ps (qd st))(len:∀vs H Q E,sp vs H Q E->vs.length=ps.length)(aA:∀(ae:Value)(A:Around)(outer:List Env)(s:Shared)(H:Hp)(vs:List V)(Q:VK)(E:XK),Room k (A.deeper (envOfC ac (qd st) s.heap.objs.size f ae))->sp vs H Q E ->
   ∃t,QXs True (cxOf (CXe P w) P w K mg base N ac (qd st) f ae A outer s H E) (vi st) t/\t { nx:=λ_ H'=>Q .non H',rt:=Q,bk:=bkX N.length mg E } (start N vs) H):FnOk P w K mg base (CXe P w) (k+1) f fd ps sp:=by
 obtain⟨oc,od,kV,bJ,pm,an,ae,ct,dI,rfl,lk,di⟩:=F.ex;refine q5V lk di S len λA outer s H vs Q E hr dw=>?_;obtain⟨t,h,q⟩:=aA ae A outer s H vs Q E hr dw;refine⟨λD σ H1=>D={ nx:=λ_ H'=>Q .non H',rt:=Q }/\t { nx:=λ_ H'=>Q .non H',rt:=Q,bk:=bkX N.length mg E } σ H1,λa5 s1 σ H1 D I hd=>?_,rfl,q⟩;obtain⟨rfl,hd⟩:=hd;have Y:Body (cxOf (CXe P w) P w K mg base N ac (qd st) f ae A outer s H E) outer:=⟨rfl,rfl,rfl,rfl⟩;refine GF (h.h a5 s1 σ H1 _ ⟨λσ a5 H s e s' I hx=>?_,λ_ a5 σ H s e C d I hm h0 hx=>?_⟩ I hd) (λfl s' z=>?_) λ_ _ z=>z
 ·exact YQ Y I I.ok.frames (hx.mono λC d H' z=>bkX.ex z)
 ·exact XB Y I I.ok.frames hm h0 (bkX.ex hx)
 ·cases fl with
  |next=>exact z
  |ret u=>exact z
  |cont=>exact z
  |brk=>
   obtain⟨ah,H',I',nm,p,pK,e,hl,_⟩:=z;have:=I'.len;rw[e,UL,UL,hl]at this;exact absurd this (by show N.length+1+1≠N.length;lia)
end
section
variable {P:Program}{w:World}{outer:List Env}{H H':Hp}{s s':Shared}{a:Addr}{C:Value}{d:Option Addr}
theorem Fli.un(F:Fli P w outer H s a C d H' s'):Un (frs outer) [] H H' s.heap s'.heap/\HOk P w H' s'.heap:=by
 obtain⟨B,a0,fl,hok,nb,kp,th⟩:=F.fly;refine⟨⟨λb o q n hb _=>fl.1 b o (kp b o q n hb),λb o q n hb _=>F.up b o q n hb,λb o q n _=>F.free b o q n,λb o q _=>?_,F.tups,F.frzs,F.tbls⟩,hok.kept fl.1⟩;cases hb:H b with
 |some u=>
  obtain⟨o',e⟩:=th b o q (by rw[hb];simp);exact⟨o',fl.1 b o' e⟩
 |none=>
  by_cases hf:b∈frs outer
  ·obtain⟨sl,e⟩:=F.up b o q hb hf
   exact⟨_,e⟩
  ·exact⟨o,fl.1 b o (kp b o q hb hf)⟩
theorem Fli.inv{X:Cx}{a5:List (Addr×Obj)}{σ:St}(I:Inv X a5 σ H s)(F:Fli X.prog X.w X.stack H s a C d H' s'):Inv X a5 σ H' s' :=
 I.call' F.os F.un.1 F.un.2 F.bare (ch:=[]) λb z=>absurd z (by simp)
theorem Fli.step(F:Fli P w outer H s a C d H' s'):∃B a0,Heap.FlyingW B outer a C a0 s'.heap/\∀h',Heap.FlyingW B outer a C a0 h'->s'.heap.UpToSlots h'->Obk s'.heap h'->Fli P w outer H s a C d H' { s' with heap:=h' }:=by
 obtain⟨B,a0,fl,hok,nb,kp,th⟩:=F.fly;refine⟨B,a0,fl,λh' fD up kd=>⟨λo q=>by
  obtain⟨o1,e1,_⟩:=fl.there;exact(kd.get (d:=0) e1 q).trans (F.own o1 e1),F.os,F.bare,⟨B,a0,fD,hok,nb,kp,th⟩,λb o q n hb=>?_,F.free,F.tups,F.frzs,F.tbls⟩⟩
 obtain⟨sl,e⟩:=F.up b o q n hb;obtain⟨_,o',ce,hd⟩:=fl.2.2.1.mem (show b∈outer.filterMap (·.frame)from hb);rw[e]at ce;cases ce;obtain⟨eP,e2⟩:=up b _ e hd;exact⟨eP,e2⟩
theorem Fli.ty{M:Model}(F:Fli P w outer H s a C d H' s'):PySem.W.Looks M s'.heap (typeOf (.ref a)) C:=by
 obtain⟨B,a0,fl,_⟩:=F.fly;obtain⟨ob,pL,hc⟩:=fl.there;subst hc;exact(PySem.W.Looks.ld pL).andThen .now
end
abbrev Cx.caught(X:Cx)(a:Addr):Cx:={ X with A:=X.A.mark (some (.ref a)),calm:=false,xe:=λ_ _=>False }
section
variable {X:Cx}{a5:List (Addr×Obj)}{σ:St}{H:Hp}{s:Shared}{a:Addr}
theorem Inv.caught(I:Inv X a5 σ H s)(a:Addr):Inv (X.caught a) a5 σ H s :=
 ⟨⟨I.ok.mod,I.ok.kind,I.ok.glob,I.ok.blt,I.ok.above,I.ok.inj,I.ok.has,I.ok.cab,(λz=>nomatch z),I.ok.frames,I.ok.stk,I.ok.exf,I.ok.bs,I.ok.bsz,I.ok.noex,I.ok.exfs,I.ok.funs,I.ok.frf⟩,I.os,I.bare,I.base,I.loc,I.cell,I.free,I.freeC,I.pin,I.hok,I.len⟩
theorem Inv.back(ok:X.Ok)(I:Inv (X.caught a) a5 σ H s):Inv X a5 σ H s:=⟨ok,I.os,I.bare,I.base,I.loc,I.cell,I.free,I.freeC,I.pin,I.hok,I.len⟩
abbrev Cx.tried(X:Cx)(a5:List (Addr×Obj))(xe:Value->Shared->Prop):Cx:={ X with pn:=X.pn++a5,xe:=xe }
theorem Inv.tried(I:Inv X a5 σ H s)(xe:Value->Shared->Prop):Inv (X.tried a5 xe) [] σ H s :=
 ⟨⟨I.ok.mod,I.ok.kind,I.ok.glob,I.ok.blt,I.ok.above,I.ok.inj,I.ok.has,I.ok.cab,I.ok.hd,I.ok.frames,I.ok.stk,I.ok.exf,I.ok.bs,I.ok.bsz,I.ok.noex,I.ok.exfs,I.ok.funs,I.ok.frf⟩,I.os,I.bare,I.base,I.loc,I.cell,I.free,I.freeC,λp hp=>I.pin p (by simpa using hp),I.hok,I.len⟩
theorem Inv.untried{bZ:List (Addr×Obj)}{xe:Value->Shared->Prop}(ok:X.Ok)(I:Inv (X.tried a5 xe) bZ σ H s):Inv X a5 σ H s :=
 ⟨ok,I.os,I.bare,I.base,I.loc,I.cell,I.free,I.freeC,λp hp=>I.pin p (UV _ hp),I.hok,I.len⟩
end
structure QH(X:Cx)(hs:List ExceptHandler)(C:Value)(q:Option Int)(t:TS):Prop where
 h:∀a5 σ H1 s1 d H' s a D,Inv X a5 σ H1 s1->Fli X.prog X.w X.stack H1 s1 a C d H' s->PartIs d H' q->t D σ H'->wpAny (model X.prog X.w) X.A (handleBy (.ref a) X.env hs) (SP X a5 D) X.xe s
section
variable {X:Cx}{C cX:Value}{qp:Option Int}{x:Str}{p pos:Pos}{hs:List ExceptHandler}{t:TS}
theorem YC{pM:Option Str}{c4:List Stmt}(hm:X.mg x=some cX)(he:W.exmOne X.K C cX=some false)(hr:QH X hs C qp t)(hg:Gl X x:=by rfl)(bf:(x==("__debug__" : Str))=false:=by decide):
  QH X (.ExceptHandler (some (.Name x p)) pM c4 pos::hs) C qp t:=⟨λa5 σ H1 s1 d H' s a D I F hq h=>by
 have J:=F.inv I;refine G4 (GY (vU (X:=X.caught a) (J.caught a) hg hm ?_ bf)) (by intro q;cases q);refine D9 J.kIn F.ty he _ _ _ s (λ_ _ z=>z) ?_;exact hr.h a5 σ H1 s1 d H' s a D I F hq h⟩
theorem q2A{b0:Stmt}{c4:List Stmt}(hm:X.mg x=some cX)(he:W.exmOne X.K C cX=some true)(hb:∀a,QSs (X.caught a) (b0::c4) t)(hg:Gl X x:=by rfl)(bf:(x==("__debug__" : Str))=false:=by decide):
  QH X (.ExceptHandler (some (.Name x p)) none (b0::c4) pos::hs) C qp t:=⟨λa5 σ H1 s1 d H' s a D I F hq h=>by
 have J:=F.inv I;refine G4 (GY (vU (X:=X.caught a) (J.caught a) hg hm ?_ bf)) (by intro q;cases q);refine D9 J.kIn F.ty he _ _ _ s (λ_ _ z=>z) ?_;show codeAny _ _ _ _ s;refine codeAny_handlers_suite ?_;obtain⟨B,a0,fl,st⟩:=F.step;refine GF (DK.any (vV _ _) (lands_againW fl (Q:=λ_ s2=>(Heap.FlyingW B X.stack a C a0 s2.heap/\s.heap.UpToSlots s2.heap)/\∃h',s2={ s with heap:=h' }) (E:=λ_ _=>False) λh' x1 x4=>⟨⟨x1,x4⟩,h',rfl⟩)) (λ_ s2 z=>?_) λ_ _ q=>q.1.elim;obtain⟨⟨⟨fD,up⟩,h',rfl⟩,kd⟩:=z;have J2:=(st h' fD up kd).inv I;refine GF ((hb a).h a5 _ σ H' D (J2.caught a) h) (λf s2 q=>?_) λ_ _ z=>False.elim z;cases f with
 |next=>obtain⟨ah,H2,I2,q⟩:=q;exact⟨ah,H2,I2.back I.ok,q⟩
 |brk=>obtain⟨ah,H2,I2,q⟩:=q;exact⟨ah,H2,I2.back I.ok,q⟩
 |cont=>obtain⟨ah,H2,I2,q⟩:=q;exact⟨ah,H2,I2.back I.ok,q⟩
 |ret u=>obtain⟨v,ah,H2,I2,r,q⟩:=q;exact⟨v,ah,H2,I2.back I.ok,r,q⟩⟩
end
def tTry(n:Nat)(tb:TS)(l:List (Str×(Option Int->TS))):TS:=λD σ H=>tb { D with bk:=λτ H'=>∃nm p ah t,τ=some (.str nm)::some (pV p)::ah/\ah.length=n/\l.lookup nm=some t/\t p D ah H' } σ H
theorem q2n{X:Cx}{outer:List Env}{body:List Stmt}{h0:ExceptHandler}{hs:List ExceptHandler}{pos:Pos}{tb:TS}{l:List (Str×(Option Int->TS))}(Y:Body X outer)(hb:∀a5 xe,QXs False (X.tried a5 xe) body tb)(hh:∀nm t C,l.lookup nm=some t->X.mg nm=some C->∀p,QH X (h0::hs) C p (t p)):QS X (.Try body (h0::hs) [] [] pos) (tTry X.N.length tb l):=⟨λa5 s σ H D I h=>by
 refine wpAny_Try_except ?_;refine GF ((hb a5 λe s1=>wpAny (model X.prog X.w) X.A (noteFrame e X.env) (λ_ bB=>wpAny (model X.prog X.w) X.A (setFlight e none) (λ_ dL=>wpAny (model X.prog X.w) X.A (handleBy e X.env (h0::hs)) (SP X a5 D) X.xe dL) X.xe bB) X.xe s1).h [] s σ H _ ⟨λcA bZ H1 s1 e s' IY hx=>?_,λz=>z.elim⟩ (I.tried _) h) (λf s1 q=>?_) λ_ _ z=>z
 ·obtain⟨a,C,d,H',rfl,F,nm,p,hm,hp,gZ,p',ah,t,e,hl,ht,q⟩:=hx
  simp only[List.cons.injEq,Option.some.injEq,V.str.injEq]at e;obtain⟨rfl,ep,rfl⟩:=e;obtain rfl:=q24 ep;have I1:Inv X a5 cA H1 s1:=IY.untried I.ok;have F:Fli X.prog X.w X.stack H1 s1 a C d H' s':=F;obtain⟨B,a0,fl,st⟩:=F.step;have hA:X.A.frames=some (X.env::outer):=by rw[<-Y.stk];exact I.ok.frames
  rw[Y.stk]at fl;refine GF (DK.any (WS _ _) (wpAny_looks_onW hA Y.fr fl (Q:=λ_ s2=>(Heap.HeldW B (X.env::outer) a C a0 X.env.locals s2.heap/\s'.heap.UpToSlots s2.heap)/\∃h',s2={ s' with heap:=h' }) (E:=λ_ _=>False) λh' x1 x4=>⟨⟨x1,x4⟩,h',rfl⟩)) (λ_ s2 z=>?_) λ_ _ q=>q.1.elim;obtain⟨⟨⟨lP,up1⟩,h1,rfl⟩,pN⟩:=z;refine GF (DK.any (vV _ _) (wpAny_landsW (s:={ s' with heap:=h1 }) lP (Q:=λ_ s2=>(Heap.FlyingW B (X.env::outer) a C a0 s2.heap/\h1.UpToSlots s2.heap)/\∃h',s2={ s' with heap:=h' }) (E:=λ_ _=>False) λh' x1 x4=>⟨⟨x1,x4⟩,h',rfl⟩)) (λ_ s2 z=>?_) λ_ _ q=>q.1.elim;obtain⟨⟨⟨pO,pP⟩,h2,rfl⟩,pQ⟩:=z;exact(hh nm t C ht hm p).h a5 cA H1 s1 d H' _ a D I1 (st h2 (by rw[Y.stk];exact pO) (up1.trans pP) (pN.trans pQ)) hp q
 ·cases f with
  |next=>obtain⟨ah,H2,I2,q⟩:=q;exact GV ⟨ah,H2,I2.untried I.ok,q⟩
  |cont=>obtain⟨ah,H2,I2,q⟩:=q;exact⟨ah,H2,I2.untried I.ok,q⟩
  |ret u=>obtain⟨v,ah,H2,I2,r,q⟩:=q;exact⟨v,ah,H2,I2.untried I.ok,r,q⟩
  |brk=>
   obtain⟨ah,H2,I2,nm,p,pK,t,e,hl,_⟩:=q;have:=I2.len;rw[e,UL,UL,hl]at this;exact absurd this (by show X.N.length+1+1≠X.N.length;lia)⟩
section
variable {X:Cx}{a5:List (Addr×Obj)}{σ:St}{H:Hp}{s:Shared}
theorem xT{M:Model}{A:Around}{E:Value->Shared->Prop}{i:Nat}{x:Str}{pos:Pos}{Q:Unit->Shared->Prop}(I:Inv X a5 σ H s)(hN:X.N.Nodup)(hi:X.N[i]?=some x)(hk:X.env.scope.names.lookup x=some .local)(h:∀s',Inv X a5 (σ.set i none) H s'->Q () s'):wpAny M A (do bindName X.env x .none;unbindBehindTheSuite X.env x pos) Q E s:=by
 obtain⟨m,hn,hl⟩:=id I.loc;have fc:(X.env.scope.kind == .class||(X.env.scope.kind == .module&&X.env.locals != X.env.globals))=false:=by rw[I.ok.kind];rfl
 have cne:=I.cne;obtain⟨oL,_,_,mY,_⟩:=id hn;refine wpAny_nameGoes_keeps hk hn fc λh' v eN hs=>h _ ⟨I.ok,I.os,I.bare,⟨λb o e n hb hx=>?_,λb o e n hb hx=>?_,I.base.free,λb o e hx=>?_,I.base.tups,I.base.frzs,I.base.tbls⟩,⟨_,eN,λj y v' e1 e2 e3=>?_⟩,λy c e=>?_,I.free,I.freeC,λp hp=>?_,λb ob e=>?_,by simpa using I.len⟩
 ·exact(hs.2 b (UU (UP (Heap.lt_size e) I.ok.above))).trans (I.base.keep b o e n hb hx)
 ·obtain⟨sl,e1⟩:=I.base.slot b o e n hb hx
  exact⟨sl,(hs.2 b (UU (UP (Heap.lt_size e) I.ok.above))).trans e1⟩
 ·obtain⟨o',e1⟩:=I.base.there b o e hx
  exact⟨o',(hs.2 b (UU (UP (Heap.lt_size e) I.ok.above))).trans e1⟩
 ·have hj:j≠i:=λz=>by
   subst z;rw[List.getElem?_set]at e2;simp only[Uc]at e2;split at e2<;>cases e2
  rw[Uv (Ne.symm hj)]at e2;obtain⟨u',r',q⟩:=hl j y v' e1 e2 e3;refine⟨u',r',?_⟩;rcases q with⟨k,e⟩|⟨k,c,e,z⟩
  ·refine .inl ⟨k,?_⟩
   have:y≠x:=λe=>hj (Vk hN e1 (e▸hi));simp[this,e]
  ·exact .inr ⟨k,c,e,z.sameBut hs (cne y c e)⟩
 ·obtain⟨w',z⟩:=I.cell y c e
  exact⟨w',z.sameBut hs (cne y c e)⟩
 ·obtain⟨e,n,ne,nf,d⟩:=I.pin p hp
  exact⟨(hs.2 p.1 ne).trans e,n,ne,nf,d⟩
 ·refine(I.hok b ob e).stay (λc w' hc q=>(hs.2 c ?_).trans q) (λ_ q=>q) λ_ _ q=>q
  rintro rfl;have cz:=I.free;rcases hc with rfl|hc
  ·rw[cz]at e;cases e
  ·rw[cz]at hc;cases hc
theorem Fli.new{H1 H':Hp}{s1 s':Shared}{a:Addr}{C:Value}{d:Option Addr}(F:Fli X.prog X.w X.stack H1 s1 a C d H' s'):s1.heap.get? a=none/\H' a=none/\∃oe vs,s'.heap.get? a=some oe/\oe.cls=C/\oe.dict=d/\oe.data=.fields vs/\vs[2]?=some .none:=by
 obtain⟨B,a0,fl,hok,nb,kp,th⟩:=F.fly;obtain⟨oe,vs,T,oT,ts,he,hc,hd,_⟩:=fl.2.2.2;refine⟨?_,?_,oe,vs,he,hc.1,GM Prod.fst (F.own oe he),hd,by have:=GM Prod.snd (F.own oe he);unfold okey at this;rw[hd]at this;exact this⟩
 ·cases z:s1.heap.get? a with
  |none=>rfl
  |some o=>
   exfalso;have hn:=fl.2.1;by_cases hH:H1 a=none
   ·by_cases hf:a∈frs X.stack
    ·obtain⟨_,o',ce,dv⟩:=fl.2.2.1.mem (show a∈X.stack.filterMap (·.frame)from hf)
     rw[he]at ce;cases ce;exact dv vs hd
    ·rw[kp a o z hH hf]at hn;cases hn
   ·obtain⟨o',q⟩:=th a o z hH
    rw[q]at hn;cases hn
 ·cases z:H' a with
  |none=>rfl
  |some u=>
   obtain⟨o,q⟩:=(hok a u z).here;rw[fl.2.1]at q;cases q
theorem Fli.pinned{outer:List Env}{H1 H':Hp}{s1 s':Shared}{a:Addr}{C:Value}{d:Option Addr}{oe:Obj}{vs:Array Value}(Y:Body X outer)(I:Inv X a5 σ H1 s1)(F:Fli X.prog X.w X.stack H1 s1 a C d H' s')(he:s'.heap.get? a=some oe)(hd:oe.data=.fields vs):Inv X (a5++[(a,oe)]) σ H' s':=by
 have J:=F.inv I;obtain⟨n1,n2,_⟩:=F.new;refine J.pins_of λp hp=>?_;rcases UD.mp hp with hp|hp
 ·exact J.pin p (UR _ hp)
 ·obtain rfl:=UJ.mp hp
  refine⟨he,n2,λz=>?_,λz=>?_,λv z=>?_⟩
  ·obtain⟨m,⟨o,_,_,ho,_⟩,_⟩:=I.loc
   have z:a=X.env.locals:=z;rw[<-z,n1]at ho;cases ho
  ·obtain⟨_,o',ce,_⟩:=I.ok.funs.mem (show a∈X.outer.filterMap (·.frame)from z)
   obtain⟨o2,q⟩:=I.base.there a o' ce (by rw[Y.ex];simp);rw[n1]at q;cases q
  ·have z:oe.data=.cell v:=z
   rw[hd]at z;cases z
end
section
variable {X:Cx}{outer:List Env}{C:Addr}{cX:Value}{x e w v:Str}{c:Str}{p pos:Pos}{hs:List ExceptHandler}{i j k:Nat}
def tAs(i j k:Nat)(c:Str)(q:Option Int):TS:=λD σ H=>∃n,q=some n/\n<1000000/\D.nx (((σ.set j (some (.str c))).set k (some (.int n))).set i none) H
theorem q7i{kc:_}{p1 p2 p3 p4 p5 p6 p7:Pos}{g:Addr}{q:Option Int}(Y:Body X outer)(ck:ExcK X.K C g)(na:NoAttr X.K C "part")(hm:X.mg x=some cX)(he:W.exmOne X.K (.ref C) cX=some true)(hN:X.N.Nodup)(hi:X.N[i]?=some e)(hj:X.N[j]?=some w)(hk:X.N[k]?=some v)(gj:i≠j)(lN:i≠k)(e7:X.env.scope.names.lookup e=some .local)(nI:X.env.scope.names.lookup w=some .local)(nJ:X.env.scope.names.lookup v=some .local)(hg:Gl X x:=by rfl)(bf:(x==("__debug__" : Str))=false:=by decide)(pR:(e==("__debug__" : Str))=false:=by decide)(pS:(e==("__classdict__" : Str))=false:=by decide)(pU:swapsWith (.Constant (.str c) kc p2) (some (.Name w p1)) p3.line X.env=pure false:=by rfl)(eO:swapsWith (.Attribute (.Name e p5) "part" p6) (some (.Name v p4)) p7.line X.env=pure false:=by rfl)(fE:attributeBase (.Name e p5) "part" X.env (eval (.Name e p5) X.env)=eval (.Name e p5) X.env:=by rfl):
  QH X (.ExceptHandler (some (.Name x p)) (some e) [.Assign [.Name w p1] (.Constant (.str c) kc p2) p3,.Assign [.Name v p4] (.Attribute (.Name e p5) "part" p6) p7] pos::hs) (.ref C) q (tAs i j k c q):=⟨λa5 σ H1 s1 d H' s a D I F hq h=>by
 obtain⟨n,rfl,lQ,h⟩:=h;obtain⟨x0,rfl,gU⟩:=hq;rw[QF lQ]at gU;have J:=F.inv I;refine G4 (GY (vU (X:=X.caught a) (J.caught a) hg hm ?_ bf)) (by intro q;cases q);refine D9 J.kIn F.ty he _ _ _ s (λ_ _ z=>z) ?_;show codeAny _ _ _ _ s;refine Ue ?_;obtain⟨B,a0,fl,st⟩:=F.step;refine GF (DK.any (vV _ _) (lands_againW fl (Q:=λ_ s2=>(Heap.FlyingW B X.stack a (.ref C) a0 s2.heap/\s.heap.UpToSlots s2.heap)/\∃h',s2={ s with heap:=h' }) (E:=λ_ _=>False) λh' x1 x4=>⟨⟨x1,x4⟩,h',rfl⟩)) (λ_ s2 z=>?_) λ_ _ q=>q.1.elim;obtain⟨⟨⟨fD,up⟩,h',rfl⟩,kd⟩:=z;have F2:=st h' fD up kd;obtain⟨n1,n2,oe,vs,lR,gl,lS,fF,_⟩:=F2.new;have J2:=F2.pinned Y I lR fF;refine GF (E:=λ_ _=>False) (vE J2 hN hi (.inl e7) (v:=.ref a) (u:=.ref a) rfl (Q:=λ_ s3=>Inv X (a5++[(a,oe)]) (σ.set i (some (.ref a))) H' s3) (λs3 I3=>I3) (.inr e7)) (λ_ s3 I3=>?_) λ_ _ z=>z.elim;refine GF (E:=λ_ _=>False) (Q:=λf s4=>f=.next/\Inv X (a5++[(a,oe)]) (((σ.set i (some (.ref a))).set j (some (.str c))).set k (some (.int n))) H' s4) ?_ (λf s4 z=>?_) λ_ _ z=>z.elim
 ·refine GW (Ua (Calls.Constant_str ?_) pU)
  refine vE (I3.tok _) hN hj (.inl nI) (v:=.str c) ⟨_,rfl⟩ (λs4 I4=>?_) (.inr nI);refine GW (Ua (VL fE ?_) eO);have I5:=I4.caught a;refine GF (q2f (X:=X.caught a) hi (.inl e7) pR pS _ s4 _ H' (λv H2=>v=.ref a/\H2=H') I5 ?_) (λu s5 q=>?_) λ_ _ z=>z.elim
  ·have li:i<σ.length:=by rw[J.len];exact(Us.mp hi).1
   exact⟨.ref a,by rw[Uv (Ne.symm gj),UC li],rfl,rfl⟩
  obtain⟨v5,H5,I6,r5,e5,e6⟩:=q;subst e5 e6;obtain rfl:u=Value.ref a:=r5;have I7:Inv X (a5++[(a,oe)]) ((σ.set i (some (.ref a))).set j (some (.str c))) H5 s5:=I6.back I.ok;obtain⟨mA,cR,fG⟩:=I7.hok x0 _ gU;obtain⟨od,h8,lT⟩:=kH cR;have fH:=(I7.pin (a,oe) (by simp)).1;have hv:∃t,mA "part" = some (.int n t):=by
   have:=fG "part";obtain⟨u,hu,t,rfl⟩:=RelO.some_of (v:=.int n) (o:=mA "part") (by simpa using this);exact⟨t,hu⟩
  obtain⟨tn,hv⟩:=hv;refine W.getX_value (v:=.int n tn) (C:=C) (od:=some od) I7.kIn ⟨fH,gl,by unfold W.notCls;rw[fF],by rw[lS];exact h8⟩ ck.ga ck.gt ck.mr ?_ rfl ?_
  ·exact D5 ck.hd na rfl (by rw[lT,hv])
  ·refine vE (I7.tok _) hN hk (.inl nJ) (v:=.int n) ⟨_,rfl⟩ (λs6 I8=>?_) (.inr nJ)
   exact GV ⟨rfl,I8⟩
 ·obtain⟨rfl,I8⟩:=z
  show wpAny _ _ _ _ _ _;refine xT I8 hN hi e7 λs9 I9=>?_;have fw:Inv X a5 _ H' s9:=⟨I9.ok,I9.os,I9.bare,I9.base,I9.loc,I9.cell,I9.free,I9.freeC,λp hp=>I9.pin p (by
   rcases UD.mp hp with z|z
   ·exact UV _ z
   ·exact UR _ (UV _ z)),I9.hok,I9.len⟩
  refine⟨_,H',fw,?_⟩;have e:(((σ.set i (some (V.ref a))).set j (some (.str c))).set k (some (.int n))).set i none=((σ.set j (some (.str c))).set k (some (.int n))).set i none:=by
   rw[DM _ _ gj,DM _ _ lN,Dx]
  rw[e];exact h⟩
end
end L2
namespace PySem
theorem Paired.of_get{α β:Type}{F:α->β->Prop}:∀{l:List α}{m:List β},l.length=m.length->(∀(i:Nat) x y,l[i]?=some x->m[i]?=some y->F x y)->Paired F l m
 | [], [],_,_=>.nil
 | [],_::_,h,_=>by simp at h
 |_::_, [],h,_=>by simp at h
 |x::l,y::m,h,r=>.cons (r 0 x y rfl rfl) (Paired.of_get (by simpa using h) λi a b ha hb=>r (i+1) a b (by simpa using ha) (by simpa using hb))
theorem Paired.len{α β:Type}{F:α->β->Prop}:∀{l:List α}{m:List β},Paired F l m->l.length=m.length
 |_,_,.nil=>rfl
 |_,_,.cons _ t=>by rw[UL,UL,Paired.len t]
theorem Paired.get2{α β:Type}{F:α->β->Prop}:∀{l:List α}{m:List β}{i:Nat}{x:α}{y:β},Paired F l m->l[i]?=some x->m[i]?=some y->F x y
 |_,_,_,_,_,.nil,h,_=>by simp at h
 |_,_,0,_,_,.cons r _,h,k=>by simp at h k;subst h k;exact r
 |_,_,i+1,_,_,.cons _ t,h,k=>Paired.get2 (i:=i) t (by simpa using h) (by simpa using k)
theorem Paired.getR{α β:Type}{F:α->β->Prop}{l:List α}{m:List β}{i:Nat}{y:β}(h:Paired F l m)(e:m[i]?=some y):∃x,l[i]?=some x/\F x y:=by
 have hl:=h.len;have hi:=(Us.mp e).1;have hx:l[i]?=some (l[i]'(by lia)):=Ut (by lia);exact⟨_,hx,h.get2 hx e⟩
theorem Paired.getL{α β:Type}{F:α->β->Prop}{l:List α}{m:List β}{i:Nat}{x:α}(h:Paired F l m)(e:l[i]?=some x):∃y,m[i]?=some y/\F x y:=by
 have hl:=h.len;have hi:=(Us.mp e).1;have hx:m[i]?=some (m[i]'(by lia)):=Ut (by lia);exact⟨_,hx,h.get2 e hx⟩
theorem Paired.app{α β:Type}{F:α->β->Prop}:∀{l l':List α}{m m':List β},Paired F l m->Paired F l' m'->Paired F (l++l') (m++m')
 |_,_,_,_,.nil,h=>h
 |_,_,_,_,.cons r t,h=>.cons r (Paired.app t h)
theorem Paired.put{α β:Type}{F:α->β->Prop}{x:α}{y:β}(r:F x y):∀{l:List α}{m:List β}(i:Nat),Paired F l m->Paired F (l.set i x) (m.set i y)
 |_,_,_,.nil=>.nil
 |_,_,0,.cons _ t=>.cons r t
 |_,_,i+1,.cons q t=>.cons q (Paired.put r i t)
theorem Paired.tk{α β:Type}{F:α->β->Prop}:∀{l:List α}{m:List β}(n:Nat),Paired F l m->Paired F (l.take n) (m.take n)
 |_,_,0,_=>.nil
 |_,_,_+1,.nil=>.nil
 |_,_,n+1,.cons r t=>.cons r (Paired.tk n t)
theorem Paired.dr{α β:Type}{F:α->β->Prop}:∀{l:List α}{m:List β}(n:Nat),Paired F l m->Paired F (l.drop n) (m.drop n)
 |_,_,0,r=>r
 |_,_,_+1,.nil=>.nil
 |_,_,n+1,.cons _ t=>Paired.dr n t
theorem Paired.mapR{α β γ:Type}{F:α->β->Prop}{G:α->γ->Prop}{f:β->γ}(h:∀a b,F a b->G a (f b)):∀{l:List α}{m:List β},Paired F l m->Paired G l (m.map f)
 |_,_,.nil=>.nil
 |_,_,.cons r t=>.cons (h _ _ r) (Paired.mapR h t)
theorem Paired.unmapR{α β γ:Type}{F:α->β->Prop}{G:α->γ->Prop}{f:β->γ}(h:∀a b,G a (f b)->F a b):∀{m:List β}{l:List α},Paired G l (m.map f)->Paired F l m
 | [],_,.nil=>.nil
 |_::m,_,.cons r t=>.cons (h _ _ r) (Paired.unmapR h (m:=m) t)
end PySem
namespace L2
open PySem PySem.Spec PyProof.Rows
inductive T where
 |non|bl (b:Bool)|int (i:Int)|str (x:Str)|tup (xs:List T)|lst (xs:List T)
inductive U where
 |p (t:T)|m (k:Nat)|x (a:Addr) (d:Option Addr) (q:Option Int)
inductive MO where
 |lst (us:List U)|tup (us:List U)|ins (C:Addr) (fs:List (Str×U))|dK (kvs:List (Key×U))|dF (kvs:List (Key×U)) (ob:Obj) (gs:List (Key×V))|tab (P:Addr) (pos:Pos) (ac:Str)
abbrev MM:=List MO
abbrev UEnv:=List (Option U)
inductive RepT(A:Addr->Prop)(H:Hp):V->T->Prop
 |non:RepT A H .non .non
 |bl (b:Bool):RepT A H (.bl b) (.bl b)
 |int (i:Int):RepT A H (.int i) (.int i)
 |str (x:Str):RepT A H (.str x) (.str x)
 |tup {p:Addr}{vs:List V}{ts:List T} (na:¬A p) (e:H p=some (.tup vs)) (l:vs.length=ts.length) (r:∀(i:Nat) v t,vs[i]?=some v->ts[i]?=some t->RepT A H v t):RepT A H (.ref p) (.tup ts)
 |lst {p:Addr}{vs:List V}{ts:List T} (na:¬A p) (e:H p=some (.lst vs)) (l:vs.length=ts.length) (r:∀(i:Nat) v t,vs[i]?=some v->ts[i]?=some t->RepT A H v t):RepT A H (.ref p) (.lst ts)
section
variable {A A':Addr->Prop}{H H':Hp}{v:V}{t:T}{ι ai:List Addr}{M:MM}{u:U}{σ:St}{ρ:UEnv}
abbrev RepTs(A:Addr->Prop)(H:Hp):List V->List T->Prop:=Paired (RepT A H)
theorem RepT.tupP{p:Addr}{vs:List V}{ts:List T}(na:¬A p)(e:H p=some (.tup vs))(r:RepTs A H vs ts):RepT A H (.ref p) (.tup ts):=.tup na e r.len λi v t h k=>r.get2 h k
theorem RepT.lstP{p:Addr}{vs:List V}{ts:List T}(na:¬A p)(e:H p=some (.lst vs))(r:RepTs A H vs ts):RepT A H (.ref p) (.lst ts):=.lst na e r.len λi v t h k=>r.get2 h k
theorem RepT.mono(h:∀x o,¬A x->H x=some o->H' x=some o/\¬A' x)(r:RepT A H v t):RepT A' H' v t:=by
 induction r with
 |non=>exact .non
 |bl b=>exact .bl b
 |int i=>exact .int i
 |str x=>exact .str x
 |tup na e l r ih=>exact .tup (h _ _ na e).2 (h _ _ na e).1 l ih
 |lst na e l r ih=>exact .lst (h _ _ na e).2 (h _ _ na e).1 l ih
theorem RepT.tup_inv{ts:List T}(r:RepT A H v (.tup ts)):∃p vs,v=.ref p/\¬A p/\H p=some (.tup vs)/\RepTs A H vs ts:=by
 cases r with
 |tup na e l r=>exact⟨_,_,rfl,na,e,Paired.of_get l r⟩
theorem RepT.lst_inv{ts:List T}(r:RepT A H v (.lst ts)):∃p vs,v=.ref p/\¬A p/\H p=some (.lst vs)/\RepTs A H vs ts:=by
 cases r with
 |lst na e l r=>exact⟨_,_,rfl,na,e,Paired.of_get l r⟩
def Av(A:Addr->Prop)(ι:List Addr):Addr->Prop:=λx=>A x\/x∈ι
def PartX(ι:List Addr)(H:Hp)(d:Option Addr):Option Int->Prop
 |none=>d=none
 |some n=>∃x0,d=some x0/\x0∉ι/\H x0=some (.xd (xfs n))
inductive RepU(A:Addr->Prop)(ι:List Addr)(H:Hp):V->U->Prop
 |p {v:V}{t:T} (r:RepT (Av A ι) H v t):RepU A ι H v (.p t)
 |m {k:Nat}{a:Addr} (e:ι[k]?=some a):RepU A ι H (.ref a) (.m k)
 |x {a:Addr}{d:Option Addr}{q:Option Int} (h:PartX ι H d q):RepU A ι H (.ref a) (.x a d q)
abbrev RepUs(A:Addr->Prop)(ι:List Addr)(H:Hp):List V->List U->Prop:=Paired (RepU A ι H)
def q6I(c:Addr)(ac:Str):HO:=.ext λh=>h.CodeRec (.ref c) ac
def ObjR(A:Addr->Prop)(ι:List Addr)(H:Hp)(a:Addr):MO->Prop
 |.lst us=>∃vs,H a=some (.lst vs)/\RepUs A ι H vs us
 |.tup us=>∃vs,H a=some (.tup vs)/\RepUs A ι H vs us
 |.ins C fs=>∃dx gs,H a=some (.ins C dx gs)/\H dx=some (.own a)/\dx∉ι/\Paired (λ(g:Str×V) (f:Str×U)=>g.1=f.1/\RepU A ι H g.2 f.2) gs fs
 |.dK kvs=>∃gs,H a=some (.dK gs)/\Paired (λ(g:Key×V) (f:Key×U)=>g.1=f.1/\RepU A ι H g.2 f.2) gs kvs
 |.dF kvs ob gs=>H a=some (.frz ob (.dK gs))/\Paired (λ(g:Key×V) (f:Key×U)=>g.1=f.1/\RepU A ι H g.2 f.2) gs kvs
 |.tab P pos ac=>∃ps:Array Value,H a=some (.tbl ps)/\(TriplesOk ps.toList/\a=P)/\(codeAmong pos ps.toList=none\/∃c,codeAmong pos ps.toList=some (.ref c)/\H c=some (q6I c ac)/\c∉ι)
structure Wd(A:Addr->Prop)(ι:List Addr)(H:Hp)(M:MM):Prop where
 nd:ι.Nodup
 len:ι.length=M.length
 dom:∀x,A x->H x≠none
 na:∀x∈ι,¬A x
 obj:∀(k:Nat) a o,ι[k]?=some a->M[k]?=some o->ObjR A ι H a o
structure Le(ι:List Addr)(H:Hp)(ai:List Addr)(H':Hp):Prop where
 ext:∃n,ai=ι++n/\∀x∈n,H x=none
 fr:∀x o,H x=some o->x∉ι->H' x=some o
 al:∀x,H x≠none->H' x≠none
theorem Le.refl(ι:List Addr)(H:Hp):Le ι H ι H:=⟨⟨[],by simp,by simp⟩,λ_ _ h _=>h,λ_ h=>h⟩
theorem Le.trans{af:List Addr}{H2:Hp}(a:Le ι H ai H')(b:Le ai H' af H2):Le ι H af H2:=by
 obtain⟨n,rfl,hn⟩:=a.ext;obtain⟨m,rfl,hm⟩:=b.ext;have key:∀x,H x≠none->x∉ι->x∉ι++n:=λx hx h z=>by
  rcases UD.mp z with z|z
  ·exact h z
  ·exact hx (hn x z)
 refine⟨⟨n++m,by rw[UN],λx hx=>?_⟩,λx o e h=>b.fr x o (a.fr x o e h) (key x (by rw[e];simp) h),λx h=>b.al x (a.al x h)⟩;rcases UD.mp hx with z|z
 ·exact hn x z
 ·cases q:H x with
  |none=>rfl
  |some o=>exact absurd (hm x z) (a.al x (by rw[q];simp))
theorem Le.av(l:Le ι H ai H'){x:Addr}{o:HO}(h:¬Av A ι x)(e:H x=some o):H' x=some o/\¬Av A ai x:=by
 obtain⟨n,rfl,hn⟩:=l.ext;refine⟨l.fr x o e λz=>h (.inr z),λz=>?_⟩;rcases z with z|z
 ·exact h (.inl z)
 ·rcases UD.mp z with z|z
  ·exact h (.inr z)
  ·rw[hn x z]at e;cases e
theorem RepT.le(l:Le ι H ai H')(r:RepT (Av A ι) H v t):RepT (Av A ai) H' v t:=r.mono λ_ _ h e=>l.av h e
theorem PartX.le{d:Option Addr}{q:Option Int}(l:Le ι H ai H')(h:PartX ι H d q):PartX ai H' d q:=by
 cases q with
 |none=>exact h
 |some n=>
  obtain⟨x0,e,ni,hx⟩:=h;obtain⟨m,rfl,hm⟩:=l.ext;refine⟨x0,e,λz=>?_,l.fr x0 _ hx ni⟩;rcases UD.mp z with z|z
  ·exact ni z
  ·rw[hm x0 z]at hx;cases hx
theorem RepU.le(l:Le ι H ai H')(r:RepU A ι H v u):RepU A ai H' v u:=by
 cases r with
 |p r=>exact .p (r.le l)
 |m e=>
  obtain⟨n,rfl,_⟩:=l.ext;exact .m (by rw[Uz (Us.mp e).1];exact e)
 |x h=>exact .x (h.le l)
theorem RepUs.le{vs:List V}{us:List U}(l:Le ι H ai H')(r:RepUs A ι H vs us):RepUs A ai H' vs us:=Paired.mapP r λ_ _ q=>q.le l
theorem ObjR.some{a:Addr}{o:MO}(r:ObjR A ι H a o):∃h,H a=some h:=by
 cases o with
 |lst=>obtain⟨vs,e,_⟩:=r;exact⟨_,e⟩
 |tup=>obtain⟨vs,e,_⟩:=r;exact⟨_,e⟩
 |ins=>obtain⟨_,_,e,_⟩:=r;exact⟨_,e⟩
 |dK=>obtain⟨_,e,_⟩:=r;exact⟨_,e⟩
 |dF=>obtain⟨e,_⟩:=r;exact⟨_,e⟩
 |tab=>obtain⟨_,e,_⟩:=r;exact⟨_,e⟩
theorem ObjR.le'{a:Addr}{o:MO}(l:Le ι H ai H')(ea:H' a=H a)(eo:∀x,H x=Option.some (.own a)->H' x=H x)(r:ObjR A ι H a o):ObjR A ai H' a o:=by
 cases o with
 |lst=>obtain⟨vs,e,r⟩:=r;exact⟨vs,by rw[ea];exact e,Paired.mapP r λ_ _ q=>q.le l⟩
 |tup=>obtain⟨vs,e,r⟩:=r;exact⟨vs,by rw[ea];exact e,Paired.mapP r λ_ _ q=>q.le l⟩
 |ins=>
  obtain⟨dx,gs,e,ed,nd,r⟩:=r;obtain⟨n,rfl,hn⟩:=l.ext;refine⟨dx,gs,by rw[ea];exact e,by rw[eo dx ed];exact ed,λz=>?_,Paired.mapP r λ_ _ q=>⟨q.1,q.2.le l⟩⟩;rcases UD.mp z with z|z
  ·exact nd z
  ·rw[hn dx z]at ed;cases ed
 |dK=>obtain⟨gs,e,r⟩:=r;exact⟨gs,by rw[ea];exact e,Paired.mapP r λ_ _ q=>⟨q.1,q.2.le l⟩⟩
 |dF=>obtain⟨e,r⟩:=r;exact⟨by rw[ea];exact e,Paired.mapP r λ_ _ q=>⟨q.1,q.2.le l⟩⟩
 |tab=>
  obtain⟨ps,e,t,z⟩:=r;obtain⟨n,rfl,hn⟩:=l.ext;refine⟨ps,by rw[ea];exact e,t,z.imp id λ⟨c,h1,h2,h3⟩=>⟨c,h1,l.fr c _ h2 h3,λy=>?_⟩⟩;rcases UD.mp y with y|y
  ·exact h3 y
  ·rw[hn c y]at h2;cases h2
theorem Wd.al(w:Wd A ι H M){k:Nat}{a:Addr}(e:ι[k]?=some a):∃o,M[k]?=some o/\ObjR A ι H a o:=by
 have h:=(Us.mp e).1;have e2:M[k]?=some (M[k]'(by rw[<-w.len];exact h)):=Ut _;exact⟨_,e2,w.obj k a _ e e2⟩
theorem Wd.at(w:Wd A ι H M){k:Nat}{o:MO}(e:M[k]?=some o):∃a,ι[k]?=some a/\ObjR A ι H a o:=by
 have h:=(Us.mp e).1;have e2:ι[k]?=some (ι[k]'(by rw[w.len];exact h)):=Ut _;exact⟨_,e2,w.obj k _ _ e2 e⟩
theorem Wd.mem_some(w:Wd A ι H M){a:Addr}(h:a∈ι):∃o,H a=some o:=by
 obtain⟨k,e⟩:=D0 h;obtain⟨o,_,r⟩:=w.al e;exact r.some
theorem Wd.not_own(w:Wd A ι H M){a x:Addr}(h:a∈ι):H a≠some (.own x):=λz=>by
 obtain⟨k,e⟩:=D0 h;obtain⟨o,_,r⟩:=w.al e;cases o with
 |lst=>obtain⟨vs,e,_⟩:=r;rw[z]at e;cases e
 |tup=>obtain⟨vs,e,_⟩:=r;rw[z]at e;cases e
 |ins=>obtain⟨_,_,e,_⟩:=r;rw[z]at e;cases e
 |dK=>obtain⟨_,e,_⟩:=r;rw[z]at e;cases e
 |dF=>obtain⟨e,_⟩:=r;rw[z]at e;cases e
 |tab=>obtain⟨_,e,_⟩:=r;rw[z]at e;cases e
theorem Le.fresh{p:Addr}{o:HO}(h:H p=none):Le ι H ι (upd H p o):=⟨⟨[],by simp,by simp⟩,λx o' e _=>zG h e,λx e=>by
 by_cases z:x=p
 ·subst z;rw[upd_same];simp
 ·rw[upd_ne z];exact e⟩
theorem Le.push{p:Addr}{o:HO}(h:H p=none):Le ι H (ι++[p]) (upd H p o):=⟨⟨[p],rfl,λx hx=>by rw[UJ.mp hx];exact h⟩,(Le.fresh (ι:=ι) h).fr,(Le.fresh (ι:=ι) h).al⟩
theorem Le.put{p:Addr}{o:HO}(h:p∈ι):Le ι H ι (upd H p o):=⟨⟨[],by simp,by simp⟩,λx o' e n=>by rw[upd_ne (λz=>n (by rw[z];exact h))];exact e,λx e=>by
 by_cases z:x=p
 ·subst z;rw[upd_same];simp
 ·rw[upd_ne z];exact e⟩
theorem Wd.fresh(w:Wd A ι H M){p:Addr}{o:HO}(h:H p=none):Wd A ι (upd H p o) M :=
 ⟨w.nd,w.len,λx hx=>(Le.fresh (ι:=ι) h).al x (w.dom x hx),w.na,λk a ob e1 e2=>(w.obj k a ob e1 e2).le' (.fresh h) (upd_ne λz=>by
  obtain⟨q,hq⟩:=w.mem_some (Uy e1);rw[z,h]at hq;cases hq) λx ex=>upd_ne λz=>by rw[z,h]at ex;cases ex⟩
theorem Wd.nin(w:Wd A ι H M){p:Addr}(h:H p=none):p∉ι:=λz=>by
 obtain⟨q,hq⟩:=w.mem_some z;rw[h]at hq;cases hq
theorem Wd.nA(w:Wd A ι H M){p:Addr}(h:H p=none):¬Av A ι p:=λz=>z.elim (λz=>w.dom p z h) (w.nin h)
theorem Wd.push(w:Wd A ι H M){p:Addr}{o:HO}{mo:MO}(h:H p=none)(new:ObjR A (ι++[p]) (upd H p o) p mo):Wd A (ι++[p]) (upd H p o) (M++[mo]):=by
 have np:=w.nin h;refine⟨Dl.mpr ⟨w.nd,by simp,λa ha b hb=>?_⟩,by simp[w.len],λx hx=>(Le.fresh (ι:=ι) h).al x (w.dom x hx),λx hx=>?_,λk a ob e1 e2=>?_⟩
 ·rw[UJ.mp hb];exact λz=>np (by rw[<-z];exact ha)
 ·rcases UD.mp hx with z|z
  ·exact w.na x z
  ·rw[UJ.mp z];exact λz=>w.dom p z h
 ·by_cases hk:k<ι.length
  ·rw[Uz hk]at e1
   rw[Uz (by rw[<-w.len];exact hk)]at e2;exact(w.obj k a ob e1 e2).le' (.push h) (upd_ne λz=>np (by rw[<-z];exact Uy e1)) λx ex=>upd_ne λz=>by rw[z,h]at ex;cases ex
  ·have h9:=(Us.mp e1).1
   rw[Uu,U6]at h9;have:k=ι.length:=by lia
   subst this;rw[UM (Ux _),Dh]at e1;rw[w.len,UM (Ux _),Dh]at e2;simp at e1 e2;subst e1 e2;exact new
theorem Wd.put(w:Wd A ι H M){k:Nat}{p:Addr}{o:HO}{mo:MO}(e:ι[k]?=some p)(new:ObjR A ι (upd H p o) p mo):Wd A ι (upd H p o) (M.set k mo):=by
 have hp:=Uy e;refine⟨w.nd,by rw[UB];exact w.len,λx hx=>(Le.put hp).al x (w.dom x hx),w.na,λj a ob e1 e2=>?_⟩;by_cases hj:k=j
 ·subst hj
  rw[e]at e1;cases e1;rw[UC (by rw[<-w.len];exact(Us.mp e).1)]at e2;cases e2;exact new
 ·rw[Uv hj]at e2
  have na:a≠p:=λz=>by
   subst z;have h1:=Us.mp e;have h2:=Us.mp e1;exact hj ((Rp w.nd).mp (h1.2.trans h2.2.symm))
  exact(w.obj j a ob e1 e2).le' (.put hp) (upd_ne na) λx ex=>upd_ne λz=>by
   rw[z]at ex;exact w.not_own hp ex
def EnvR(A:Addr->Prop)(ι:List Addr)(H:Hp):St->UEnv->Prop:=Paired λ(s:Option V) (r:Option U)=>∀u,r=some u->∃v,s=some v/\RepU A ι H v u
theorem EnvR.le(l:Le ι H ai H')(r:EnvR A ι H σ ρ):EnvR A ai H' σ ρ:=Paired.mapP r λ_ _ q u e=>by
 obtain⟨v,h1,h2⟩:=q u e;exact⟨v,h1,h2.le l⟩
theorem EnvR.get(r:EnvR A ι H σ ρ){i:Nat}{u:U}(e:ρ[i]?=some (some u)):∃v,σ[i]?=some (some v)/\RepU A ι H v u:=by
 obtain⟨s,h1,h2⟩:=Paired.getR r e;obtain⟨v,rfl,h3⟩:=h2 u rfl;exact⟨v,h1,h3⟩
theorem EnvR.put(r:EnvR A ι H σ ρ)(i:Nat)(q:RepU A ι H v u):EnvR A ι H (σ.set i (some v)) (ρ.set i (some u)):=Paired.put (λw e=>by cases e;exact⟨v,rfl,q⟩) i r
def Ks(bs:List Bool)(n:Nat)(ρ:UEnv):UEnv:=(bs.zip ρ).map (λp=>if p.1 then p.2 else none)++List.replicate n none
theorem EnvR.mask{bs:List Bool}{n:Nat}(r:EnvR A ι H σ ρ):EnvR A ι H (zg bs n σ) (Ks bs n ρ):=by
 refine Paired.app ?_ ?_
 ·induction r generalizing bs with
  |nil=>simp;exact .nil
  |cons q t ih=>
   cases bs with
   |nil=>exact .nil
   |cons b bs=>
    refine .cons ?_ ih;cases b
    ·intro u e;simp at e
    ·simpa using q
 ·induction n with
  |zero=>exact .nil
  |succ n ih=>exact .cons (λu e=>by cases e) ih
end
abbrev UK:=U->MM->Prop
abbrev UE:=UEnv->MM->UK->Prop
abbrev UT:=UEnv->MM->(Bool->MM->Prop)->Prop
abbrev UA:=UEnv->MM->(List U->MM->Prop)->Prop
def LE(te:TE)(ue:UE):Prop:=∀(A:Addr->Prop)(ι:List Addr)(σ:St)(H:Hp)(ρ:UEnv)(M:MM)(Qu:UK)(Q:VK),Wd A ι H M->EnvR A ι H σ ρ->ue ρ M Qu ->
 (∀u M' ai v H',Le ι H ai H'->Wd A ai H' M'->RepU A ai H' v u->Qu u M'->Q v H')->te σ H Q
def LT(tt:TT)(ut:UT):Prop:=∀(A:Addr->Prop)(ι:List Addr)(σ:St)(H:Hp)(ρ:UEnv)(M:MM)(Qu:Bool->MM->Prop)(Q:Bool->Hp->Prop),Wd A ι H M->EnvR A ι H σ ρ->ut ρ M Qu ->
 (∀b M' ai H',Le ι H ai H'->Wd A ai H' M'->Qu b M'->Q b H')->tt σ H Q
def LA(n:Nat)(ta:TA)(ua:UA):Prop:=∀(A:Addr->Prop)(ι:List Addr)(σ:St)(H:Hp)(ρ:UEnv)(M:MM)(Qu:List U->MM->Prop)(Q:List V->Hp->Prop),Wd A ι H M->EnvR A ι H σ ρ->ua ρ M Qu ->
 (∀us M' ai vs H',Le ι H ai H'->Wd A ai H' M'->us.length=n->RepUs A ai H' vs us->Qu us M'->Q vs H')->ta σ H Q
section
variable {ta tb:TE}{ua ub uc:UE}{tt gm:TT}{ut gn:UT}{tl:TA}{ul:UA}{n:Nat}
def uVar(i:Nat):UE:=λρ M Q=>∃u,ρ[i]?=some (some u)/\Q u M
inductive Sc:V->T->Prop
 |non:Sc .non .non
 |bl (b:Bool):Sc (.bl b) (.bl b)
 |int (i:Int):Sc (.int i) (.int i)
 |str (x:Str):Sc (.str x) (.str x)
theorem Sc.rep{A:Addr->Prop}{H:Hp}{v:V}{t:T}(h:Sc v t):RepT A H v t:=by cases h<;>constructor
def uC(t:T):UE:=λ_ M Q=>Q (.p t) M
def uNil:UA:=λ_ M Q=>Q [] M
def q6g(ua:UE)(ul:UA):UA:=λρ M Q=>ua ρ M λx M1=>ul ρ M1 λxs M2=>Q (x::xs) M2
theorem q6d:LA 0 tNil uNil:=λA ι σ H ρ M Qu Q w e q k=>k [] M ι [] H (.refl _ _) w rfl .nil q
def v6:List U->Option (List T)
 | []=>some []
 |.p t::r=>(v6 r).map (t :: ·)
 |.m _::_=>none
 |.x _ _ _::_=>none
@[simp] theorem jl:∀ts:List T,v6 (ts.map U.p)=some ts
 | []=>rfl
 |t::r=>by simp[v6,jl r]
theorem zh:∀{us:List U}{ts:List T},v6 us=some ts->us=ts.map U.p
 | [],_,h=>by simp[v6]at h;subst h;rfl
 |.p t::r,ts,h=>by
  simp[v6]at h;obtain⟨a,h1,rfl⟩:=h;rw[UZ, <-zh h1]
 |.m _::_,_,h=>by simp[v6]at h
 |.x _ _ _::_,_,h=>by simp[v6]at h
def sn(M:MM):U->Option T
 |.p t=>some t
 |.m k=>match M[k]? with
  |some (.lst us)=>(v6 us).map T.lst
  |some (.tup us)=>(v6 us).map T.tup
  |_=>none
 |.x _ _ _=>none
def sns(M:MM):List U->Option (List T)
 | []=>some []
 |u::r=>match sn M u,sns M r with
  |some t,some ts=>some (t::ts)
  |_,_=>none
inductive RepV(A:Addr->Prop)(H:Hp):V->T->Prop
 |of {v:V}{t:T} (r:RepT A H v t):RepV A H v t
 |lst {p:Addr}{vs:List V}{ts:List T} (e:H p=some (.lst vs)) (r:RepTs A H vs ts):RepV A H (.ref p) (.lst ts)
 |tup {p:Addr}{vs:List V}{ts:List T} (e:H p=some (.tup vs)) (r:RepTs A H vs ts):RepV A H (.ref p) (.tup ts)
variable {A:Addr->Prop}{H H':Hp}{ι:List Addr}{M:MM}{v:V}{u:U}{t:T}
theorem RepV.lst_inv{ts:List T}(r:RepV A H v (.lst ts)):∃p vs,v=.ref p/\H p=some (.lst vs)/\RepTs A H vs ts:=by
 cases r with
 |of r=>obtain⟨p,vs,h1,_,h2,h3⟩:=r.lst_inv;exact⟨p,vs,h1,h2,h3⟩
 |lst e r=>exact⟨_,_,rfl,e,r⟩
theorem RepV.tup_inv{ts:List T}(r:RepV A H v (.tup ts)):∃p vs,v=.ref p/\H p=some (.tup vs)/\RepTs A H vs ts:=by
 cases r with
 |of r=>obtain⟨p,vs,h1,_,h2,h3⟩:=r.tup_inv;exact⟨p,vs,h1,h2,h3⟩
 |tup e r=>exact⟨_,_,rfl,e,r⟩
theorem RepV.int_inv{i:Int}(r:RepV A H v (.int i)):v=.int i:=by cases r with|of r=>cases r;rfl
theorem RepV.bl_inv{i:Bool}(r:RepV A H v (.bl i)):v=.bl i:=by cases r with|of r=>cases r;rfl
theorem RepV.str_inv{i:Str}(r:RepV A H v (.str i)):v=.str i:=by cases r with|of r=>cases r;rfl
theorem RepV.non_inv(r:RepV A H v .non):v=.non:=by cases r with|of r=>cases r;rfl
theorem RepUs.pures{vs:List V}{ts:List T}(r:RepUs A ι H vs (ts.map U.p)):RepTs (Av A ι) H vs ts:=Paired.unmapR (λa b q=>by cases q with|p r=>exact r) r
theorem RepTs.ups{vs:List V}{ts:List T}(r:RepTs (Av A ι) H vs ts):RepUs A ι H vs (ts.map U.p):=Paired.mapR (λa b q=>.p q) r
theorem RepU.sn(w:Wd A ι H M)(r:RepU A ι H v u)(e:sn M u=some t):RepV (Av A ι) H v t:=by
 cases r with
 |p r=>simp[L2.sn]at e;subst e;exact .of r
 |m q=>
  obtain⟨o,h1,h2⟩:=w.al q;simp only[L2.sn,h1]at e;cases o with
  |lst us=>
   simp at e;obtain⟨ts,e1,rfl⟩:=e;obtain⟨vs,h3,h4⟩:=h2;rw[zh e1]at h4;exact .lst h3 h4.pures
  |tup us=>
   simp at e;obtain⟨ts,e1,rfl⟩:=e;obtain⟨vs,h3,h4⟩:=h2;rw[zh e1]at h4;exact .tup h3 h4.pures
  |ins=>simp at e
  |dK=>simp at e
  |dF=>simp at e
  |tab=>simp at e
 |x h=>simp[L2.sn]at e
theorem RepUs.sns(w:Wd A ι H M):∀{vs:List V}{us:List U}{ts:List T},RepUs A ι H vs us->sns M us=some ts->Paired (RepV (Av A ι) H) vs ts
 |_,_,ts,.nil,e=>by simp[L2.sns]at e;subst e;exact .nil
 |_,_,ts,.cons r q,e=>by
  simp only[L2.sns]at e;split at e
  ·rename_i h1 h2
   simp at e;subst e;exact .cons (r.sn w h1) (RepUs.sns w q h2)
  ·cases e
def OpL(r:R2)(s:T->T->(T->Prop)->Prop):Prop:=∀(A:Addr->Prop)(ι:List Addr)(H:Hp)(M:MM)(x y:V)(a b:T)(Qs:T->Prop)(Q:VK),Wd A ι H M->RepV (Av A ι) H x a->RepV (Av A ι) H y b->s a b Qs ->
 (∀t ai v H',Le ι H ai H'->Wd A ai H' M->RepT (Av A ai) H' v t->Qs t->Q v H')->r x y H Q
def uOp(s:T->T->(T->Prop)->Prop)(ua ub:UE):UE:=λρ M Q=>ua ρ M λx M1=>ub ρ M1 λy M2=>∃a b,sn M2 x=some a/\sn M2 y=some b/\s a b λt=>Q (.p t) M2
def sI(C:Int->Int->Prop)(g:Int->Int->T):T->T->(T->Prop)->Prop:=λa b Q=>∃i j,a=.int i/\b=.int j/\C i j/\Q (g i j)
def sI0(g:Int->Int->T):T->T->(T->Prop)->Prop:=λa b Q=>∃i j,a=.int i/\b=.int j/\Q (g i j)
theorem q7p{C:Int->Int->Prop}{gv:Int->Int->V}{g:Int->Int->T}(hg:∀i j,Sc (gv i j) (g i j)):OpL (rI C gv) (sI C g):=λA ι H M x y a b Qs Q w r1 r2 ⟨i,j,ea,eb,c,q⟩ k=>by
 subst ea eb;exact⟨i,j,r1.int_inv,r2.int_inv,c,k _ ι _ H (.refl _ _) w (hg i j).rep q⟩
theorem Jk{gv:Int->Int->V}{g:Int->Int->T}(hg:∀i j,Sc (gv i j) (g i j)):OpL (rI0 gv) (sI0 g):=λA ι H M x y a b Qs Q w r1 r2 ⟨i,j,ea,eb,q⟩ k=>by
 subst ea eb;exact⟨i,j,r1.int_inv,r2.int_inv,k _ ι _ H (.refl _ _) w (hg i j).rep q⟩
def vt:T->Option V
 |.non=>some .non
 |.bl b=>some (.bl b)
 |.int i=>some (.int i)
 |.str x=>some (.str x)
 |_=>none
theorem j2{x:V}(e:vt t=some x):Sc x t:=by
 cases t<;>simp[vt]at e<;>subst e<;>constructor
theorem RepV.sc{x y:V}(r:RepV A H v t)(e:vt t=some x):v=x:=by
 cases j2 e with
 |non=>exact r.non_inv
 |bl=>exact r.bl_inv
 |int=>exact r.int_inv
 |str=>exact r.str_inv
def sEq(neg:Bool):T->T->(T->Prop)->Prop:=λa b Q=>∃x y,vt a=some x/\vt b=some y/\scal x y=true/\Q (.bl (if neg then !decide (x=y) else decide (x=y)))
theorem Ql:OpL rEq (sEq false):=λA ι H M x y a b Qs Q w r1 r2 ⟨x',y',e1,e2,sc,q⟩ k=>by
 cases r1.sc (y:=.non) e1;cases r2.sc (y:=.non) e2;exact⟨sc,k _ ι _ H (.refl _ _) w (.bl _) q⟩
theorem q5B:OpL rNe (sEq true):=λA ι H M x y a b Qs Q w r1 r2 ⟨x',y',e1,e2,sc,q⟩ k=>by
 cases r1.sc (y:=.non) e1;cases r2.sc (y:=.non) e2;exact⟨sc,k _ ι _ H (.refl _ _) w (.bl _) q⟩
def sStr:T->T->(T->Prop)->Prop:=λa b Q=>∃i j,a=.str i/\b=.str j/\i.length+j.length<=sizeLine/\Q (.str (i++j))
def vts:List T->Option (List V)
 | []=>some []
 |t::r=>match vt t,vts r with
  |some x,some xs=>some (x::xs)
  |_,_=>none
theorem ZH:∀{vs:List V}{ts:List T}{xs:List V},RepTs A H vs ts->vts ts=some xs->vs=xs/\xs.all jO=true
 |_,_,xs,.nil,e=>by simp[vts]at e;subst e;exact⟨rfl,rfl⟩
 |_,_,xs,.cons r q,e=>by
  simp only[vts]at e;split at e
  ·rename_i h1 h2
   simp at e;subst e;obtain⟨z1,z2⟩:=ZH q h2;subst z1;cases(RepV.of r).sc (y:=.non) h1;refine⟨rfl,?_⟩;rw[Rm,z2];cases j2 h1<;>rfl
  ·cases e
def seqT:T->Option (List T)
 |.lst ts=>some ts
 |.tup ts=>some ts
 |_=>none
def sIn(neg:Bool):T->T->(T->Prop)->Prop:=λa b Q=>∃x ts ys,vt a=some x/\seqT b=some ts/\vts ts=some ys/\Q (.bl (if neg then !inV x ys else inV x ys))
theorem q2v{K:PySem.W.Frag}{neg:Bool}:OpL (rIn K neg) (sIn neg):=λA ι H M x y a b Qs Q w r1 r2 ⟨x',ts,ys,e1,e2,e3,q⟩ k=>by
 cases r1.sc (y:=.non) e1;have hf:jO x=true:=by cases j2 e1<;>rfl
 cases b<;>simp[seqT]at e2
 ·subst e2
  obtain⟨p,vs,rfl,h,r⟩:=r2.tup_inv;obtain⟨rfl,z⟩:=ZH r e3;exact⟨p,vs,rfl,.inr (SqT.of h),hf,z,k _ ι _ H (.refl _ _) w (.bl _) q⟩
 ·subst e2
  obtain⟨p,vs,rfl,h,r⟩:=r2.lst_inv;obtain⟨rfl,z⟩:=ZH r e3;exact⟨p,vs,rfl,.inl (SqL.of h),hf,z,k _ ι _ H (.refl _ _) w (.bl _) q⟩
theorem zm(w:Wd A ι H M){p:Addr}{vs:List V}{ts:List T}(h:H p=none)(r:RepTs (Av A ι) H vs ts):RepT (Av A ι) (upd H p (.lst vs)) (.ref p) (.lst ts):=
 .lstP (w.nA h) upd_same (Paired.mapP r λ_ _ q=>q.le (.fresh h))
theorem xX(w:Wd A ι H M){p:Addr}{vs:List V}{ts:List T}(h:H p=none)(r:RepTs (Av A ι) H vs ts):RepT (Av A ι) (upd H p (.tup vs)) (.ref p) (.tup ts):=
 .tupP (w.nA h) upd_same (Paired.mapP r λ_ _ q=>q.le (.fresh h))
def sCat:T->T->(T->Prop)->Prop:=λa b Q=>∃xs ys,a=.lst xs/\b=.lst ys/\xs.length+ys.length<=sizeLine/\Q (.lst (xs++ys))
theorem YL:OpL rCat sCat:=λA ι H M x y a b Qs Q w r1 r2 ⟨xs,ys,ea,eb,hz,q⟩ k=>by
 subst ea eb;obtain⟨p,vs,rfl,h1,q1⟩:=r1.lst_inv;obtain⟨p2,ci,rfl,h2,q2⟩:=r2.lst_inv;exact⟨p,p2,vs,ci,rfl,rfl,h1,h2,by rw[q1.len,q2.len];exact hz,λp hp=>k _ ι _ _ (.fresh hp) (w.fresh hp) (zm w hp (q1.app q2)) q⟩
theorem Qk{α β:Type}{F:α->β->Prop}{l:List α}{m:List β}(h:Paired F l m):∀n:Nat,Paired F (List.replicate n l).flatten (List.replicate n m).flatten
 |0=>.nil
 |n+1=>by rw[Dc,Dc,Dq,Dq];exact h.app (Qk h n)
def XF:U->Bool
 |.p .non=>true
 |_=>false
theorem WA(r:RepU A ι H v u):decide (v=.non)=XF u:=by
 cases r with
 |p r=>cases r<;>simp[XF]
 |m e=>simp[XF]
 |x h=>simp[XF]
def uIsN(neg:Bool)(ua:UE):UE:=λρ M Q=>ua ρ M λx M1=>Q (.p (.bl (if neg then !XF x else XF x))) M1
def uNeg(ua:UE):UE:=λρ M Q=>ua ρ M λx M1=>∃i,x=.p (.int i)/\Q (.p (.int (-i))) M1
def uB(ua:UE):UT:=λρ M Q=>ua ρ M λx M1=>∃b,x=.p (.bl b)/\Q b M1
theorem lt_b(ha:LE ta ua):LT (tB ta) (uB ua):=λA ι σ H ρ M Qu Q w e q k=>
 ha A ι σ H ρ M _ _ w e q λx M1 a7 v H1 l1 w1 r1 zz=>by
  obtain⟨b,ex,q1⟩:=zz;subst ex;cases r1 with
  |p r=>cases r;exact⟨b,rfl,k b M1 a7 H1 l1 w1 q1⟩
def uAnd(t s:UT):UT:=λρ M Q=>t ρ M λc M1=>if c=true then s ρ M1 Q else Q false M1
def uOr(t s:UT):UT:=λρ M Q=>t ρ M λc M1=>if c=true then Q true M1 else s ρ M1 Q
def uNot(t:UT):UT:=λρ M Q=>t ρ M λc M1=>Q (!c) M1
def q4E(ua ub:UE):UE:=λρ M Q=>ua ρ M λx M1=>∃c,x=.p (.bl c)/\if c=true then ub ρ M1 Q else Q (.p (.bl false)) M1
def uOrV(ua ub:UE):UE:=λρ M Q=>ua ρ M λx M1=>∃c,x=.p (.bl c)/\if c=true then Q (.p (.bl true)) M1 else ub ρ M1 Q
def q6P(ua:UE):UE:=λρ M Q=>ua ρ M λx M1=>∃c,x=.p (.bl c)/\Q (.p (.bl (!c))) M1
def uIf(t:UT)(ua ub:UE):UE:=λρ M Q=>t ρ M λc M1=>if c=true then ua ρ M1 Q else ub ρ M1 Q
def q2g(s s':T->T->(T->Prop)->Prop)(ua ub uc:UE):UE:=λρ M Q=>ua ρ M λx M1=>ub ρ M1 λy M2=>∃a b,sn M2 x=some a/\sn M2 y=some b/\s a b λz=>∃k,z=.bl k /\
 if k=true then uc ρ M2 λc M3=>∃b' c',sn M3 y=some b'/\sn M3 c=some c'/\s' b' c' λt=>Q (.p t) M3 else Q (.p (.bl false)) M2
def uTup(ul:UA):UE:=λρ M Q=>ul ρ M λus M1=>∃ts,v6 us=some ts/\Q (.p (.tup ts)) M1
def uLst(ul:UA):UE:=λρ M Q=>ul ρ M λus M1=>∃ts,v6 us=some ts/\Q (.p (.lst ts)) M1
def uNew(ul:UA):UE:=λρ M Q=>ul ρ M λus M1=>Q (.m M1.length) (M1++[.lst us])
def q5w(ul:UA):UE:=λρ M Q=>ul ρ M λus M1=>Q (.m M1.length) (M1++[.tup us])
theorem qK{α:Type}{l:List α}{x:α}:(l++[x])[l.length]?=some x:=by rw[UM (Ux _),Dh];rfl
theorem xE(w:Wd A ι H M){p:Addr}{vs:List V}{us:List U}(h:H p=none)(r:RepUs A ι H vs us):Wd A (ι++[p]) (upd H p (.lst vs)) (M++[.lst us])/\RepU A (ι++[p]) (upd H p (.lst vs)) (.ref p) (.m M.length):=
 ⟨w.push h ⟨vs,upd_same,r.le (.push h)⟩,.m (by rw[<-w.len];exact qK)⟩
theorem We(w:Wd A ι H M){p:Addr}{vs:List V}{us:List U}(h:H p=none)(r:RepUs A ι H vs us):Wd A (ι++[p]) (upd H p (.tup vs)) (M++[.tup us])/\RepU A (ι++[p]) (upd H p (.tup vs)) (.ref p) (.m M.length):=
 ⟨w.push h ⟨vs,upd_same,r.le (.push h)⟩,.m (by rw[<-w.len];exact qK)⟩
def qI(M:MM):U->Option (List U)
 |.p (.lst ts)=>some (ts.map .p)
 |.m k=>match M[k]? with
  |some (.lst us)=>some us
  |_=>none
 |_=>none
def vB(M:MM):U->Option (List U)
 |.p (.tup ts)=>some (ts.map .p)
 |.m k=>match M[k]? with
  |some (.tup us)=>some us
  |_=>none
 |_=>none
theorem zl{us:List U}(w:Wd A ι H M)(r:RepU A ι H v u)(e:qI M u=some us):∃p vs,v=.ref p/\H p=some (.lst vs)/\RepUs A ι H vs us:=by
 cases r with
 |p r=>
  cases r with
  |lst na e1 l r=>simp[qI]at e;subst e;exact⟨_,_,rfl,e1,RepTs.ups (Paired.of_get l r)⟩
  |_=>simp[qI]at e
 |m q=>
  obtain⟨o,h1,h2⟩:=w.al q;simp only[qI,h1]at e;cases o with
  |lst us=>simp at e;subst e;obtain⟨vs,h3,h4⟩:=h2;exact⟨_,_,rfl,h3,h4⟩
  |_=>simp at e
 |x h=>simp[qI]at e
theorem zk{us:List U}(w:Wd A ι H M)(r:RepU A ι H v u)(e:vB M u=some us):∃p vs,v=.ref p/\H p=some (.tup vs)/\RepUs A ι H vs us:=by
 cases r with
 |p r=>
  cases r with
  |tup na e1 l r=>simp[vB]at e;subst e;exact⟨_,_,rfl,e1,RepTs.ups (Paired.of_get l r)⟩
  |_=>simp[vB]at e
 |m q=>
  obtain⟨o,h1,h2⟩:=w.al q;simp only[vB,h1]at e;cases o with
  |tup us=>simp at e;subst e;obtain⟨vs,h3,h4⟩:=h2;exact⟨_,_,rfl,h3,h4⟩
  |_=>simp at e
 |x h=>simp[vB]at e
theorem Gr{vs:List V}{us:List U}{i:Int}{z:U}(r:RepUs A ι H vs us)(e:atI us i=some z):∃x,atI vs i=some x/\RepU A ι H x z:=by
 unfold atI at e ⊢;rw[r.len];cases q:ixN us.length i with
 |none=>rw[q]at e;cases e
 |some j=>
  rw[q]at e;exact Paired.getR r e
def uIx(it:MM->U->Option (List U))(ua ub:UE):UE:=λρ M Q=>ua ρ M λx M1=>ub ρ M1 λy M2=>∃us i z,it M2 x=some us/\y=.p (.int i)/\atI us i=some z/\Q z M2
def CbL(r:List V->Hp->VK->Prop)(s:List T->(T->Prop)->Prop):Prop:=∀(A:Addr->Prop)(ι:List Addr)(H:Hp)(M:MM)(vs:List V)(ts:List T)(Qs:T->Prop)(Q:VK),Wd A ι H M->Paired (RepV (Av A ι) H) vs ts->s ts Qs ->
 (∀t ai v H',Le ι H ai H'->Wd A ai H' M->RepT (Av A ai) H' v t->Qs t->Q v H')->r vs H Q
def uCb(s:List T->(T->Prop)->Prop)(ul:UA):UE:=λρ M Q=>ul ρ M λus M1=>∃ts,sns M1 us=some ts/\s ts λt=>Q (.p t) M1
theorem pv1{vs:List V}{t:T}(r:Paired (RepV A H) vs [t]):∃v,vs=[v]/\RepV A H v t:=by
 cases r with
 |cons r q=>cases q;exact⟨_,rfl,r⟩
def sAbs:List T->(T->Prop)->Prop:=λts Q=>∃i,ts=[.int i]/\Q (.int (if i<0 then -i else i))
theorem q2Z:CbL (λxs H Q=>∃i,xs=[.int i]/\Q (.int (if i<0 then -i else i)) H) sAbs:=λA ι H M vs ts Qs Q w r ⟨i,e,q⟩ k=>by
 subst e;obtain⟨v,ev,r1⟩:=pv1 r;subst ev;cases r1.int_inv;exact⟨i,rfl,k _ ι _ H (.refl _ _) w (.int _) q⟩
def sMin:List T->(T->Prop)->Prop:=λts Q=>∃i j,ts=[.int i,.int j]/\Q (.int (if j<i then j else i))
def sMax:List T->(T->Prop)->Prop:=λts Q=>∃i j,ts=[.int i,.int j]/\Q (.int (if j>i then j else i))
def sInt:List T->(T->Prop)->Prop:=λts Q=>(∃i,ts=[.int i]/\Q (.int i))\/∃k,ts=[.bl k]/\Q (.int (if k then 1 else 0))
theorem X1:CbL (λxs H Q=>(∃i,xs=[.int i]/\Q (.int i) H)\/∃k,xs=[.bl k]/\Q (.int (if k then 1 else 0)) H) sInt:=λA ι H M vs ts Qs Q w r h k=>by
 rcases h with⟨i,e,q⟩|⟨b,e,q⟩
 ·subst e
  obtain⟨v,ev,r1⟩:=pv1 r;subst ev;cases r1.int_inv;exact .inl ⟨i,rfl,k _ ι _ H (.refl _ _) w (.int _) q⟩
 ·subst e
  obtain⟨v,ev,r1⟩:=pv1 r;subst ev;cases r1.bl_inv;exact .inr ⟨b,rfl,k _ ι _ H (.refl _ _) w (.int _) q⟩
def bls:List T->Option (List Bool)
 | []=>some []
 |.bl b::r=>(bls r).map (b :: ·)
 |_=>none
@[simp] theorem bls_map:∀bs:List Bool,bls (bs.map T.bl)=some bs
 | []=>rfl
 |b::r=>by simp[bls,bls_map r]
def q3u:List T->(T->Prop)->Prop:=λts Q=>∃a xs,ts=[a]/\seqT a=some xs/\Q (.lst xs)
theorem q0m{K:PySem.W.Frag}:CbL (λxs H Q=>∃p ys,xs=[.ref p]/\(SqL K H p ys\/SqT K H p ys)/\∀l,H l=none->Q (.ref l) (upd H l (.lst ys))) q3u:=λA ι H M vs ts Qs Q w r ⟨a,xs,e,ea,q⟩ k=>by
 subst e;obtain⟨v,ev,r1⟩:=pv1 r;subst ev;cases a<;>simp[seqT]at ea
 ·subst ea
  obtain⟨p,zs,rfl,h1,h2⟩:=r1.tup_inv;exact⟨p,zs,rfl,.inr (SqT.of h1),λl hl=>k _ ι _ _ (.fresh hl) (w.fresh hl) (zm w hl h2) q⟩
 ·subst ea
  obtain⟨p,zs,rfl,h1,h2⟩:=r1.lst_inv;exact⟨p,zs,rfl,.inl (SqL.of h1),λl hl=>k _ ι _ _ (.fresh hl) (w.fresh hl) (zm w hl h2) q⟩
def uLen(it:MM->U->Option (List U))(ul:UA):UE:=λρ M Q=>ul ρ M λus M1=>∃x ys,us=[x]/\it M1 x=some ys/\Q (.p (.int ys.length)) M1
def q6X(ua:UE):UE:=λρ M Q=>ua ρ M λx M1=>∃i,x=.p (.int i)/\Q (.p (.int (Builtin.Int.intBits i))) M1
def cutT(xs:List T)(lo hi:Option Int):List T:=(xs.drop (HT.sIx xs.length 0 lo)).take (HT.sIx xs.length xs.length hi-HT.sIx xs.length 0 lo)
theorem W5{vs:List V}{ts:List T}{lo hi:Option Int}(r:RepTs A H vs ts):RepTs A H (cutV vs lo hi) (cutT ts lo hi):=by
 unfold cutV cutT;rw[r.len];exact(r.dr _).tk _
abbrev UO:=UEnv->MM->(Option Int->MM->Prop)->Prop
def LO(to:TO)(uo:UO):Prop:=∀(A:Addr->Prop)(ι:List Addr)(σ:St)(H:Hp)(ρ:UEnv)(M:MM)(Qu:Option Int->MM->Prop)(Q:Option Int->Hp->Prop),Wd A ι H M->EnvR A ι H σ ρ->uo ρ M Qu ->
 (∀b M' ai H',Le ι H ai H'->Wd A ai H' M'->Qu b M'->Q b H')->to σ H Q
def ZK:UO:=λ_ M Q=>Q none M
def q5K(ua:UE):UO:=λρ M Q=>ua ρ M λx M1=>∃i,x=.p (.int i)/\Q (some i) M1
theorem q46:LO zH ZK:=λA ι σ H ρ M Qu Q w e q k=>k _ M ι H (.refl _ _) w q
def uSl(ua:UE)(ul uh:UO):UE:=λρ M Q=>ua ρ M λx M1=>ul ρ M1 λl M2=>uh ρ M2 λh M3=>∃ts,sn M3 x=some (.lst ts)/\Q (.p (.lst (cutT ts l h))) M3
end
section
variable {te ta tb:TE}{ue ua ub:UE}{tt:TT}{ut:UT}{tl:TA}{ul:UA}{n:Nat}{A A' A2:Addr->Prop}{H H' H1 H2:Hp}{ι ai a7 af:List Addr}{M M':MM}{v:V}{u:U}{t:T}{σ:St}{ρ:UEnv}{K:PySem.W.Frag}
structure Lea(A:Addr->Prop)(ι:List Addr)(H:Hp)(A':Addr->Prop)(ai:List Addr)(H':Hp):Prop where
 ext:∃n,ai=ι++n
 av:∀x o,¬Av A ι x->H x=some o->H' x=some o/\¬Av A' ai x
 xd:∀x fs,x∉ι->H x=some (.xd fs)->x∉ai/\H' x=some (.xd fs)
theorem Le.xd(l:Le ι H ai H'):∀x fs,x∉ι->H x=some (.xd fs)->x∉ai/\H' x=some (.xd fs):=λx fs hx e=>by
 obtain⟨m,rfl,hm⟩:=l.ext;refine⟨λz=>?_,l.fr x _ e hx⟩;rcases UD.mp z with z|z
 ·exact hx z
 ·rw[hm x z]at e;cases e
theorem Le.lea(l:Le ι H ai H'):Lea A ι H A ai H':=⟨let⟨n,e,_⟩:=l.ext;⟨n,e⟩,λ_ _ h e=>l.av h e,l.xd⟩
theorem Lea.trans(a:Lea A ι H A' ai H')(b:Lea A' ai H' A2 af H2):Lea A ι H A2 af H2:=by
 obtain⟨n,rfl⟩:=a.ext;obtain⟨m,rfl⟩:=b.ext;exact⟨⟨n++m,by rw[UN]⟩,λx o h e=>b.av x o (a.av x o h e).2 (a.av x o h e).1,λx fs h e=>b.xd x fs (a.xd x fs h e).1 (a.xd x fs h e).2⟩
theorem RepU.lea(l:Lea A ι H A' ai H')(r:RepU A ι H v u):RepU A' ai H' v u:=by
 cases r with
 |p r=>exact .p (r.mono l.av)
 |m e=>
  obtain⟨n,rfl⟩:=l.ext;exact .m (by rw[Uz (Us.mp e).1];exact e)
 | @x a d q h=>
  refine .x ?_;cases q with
  |none=>exact h
  |some n=>
   obtain⟨x0,e,ni,hx⟩:=h;have:=l.xd x0 _ ni hx;exact⟨x0,e,this.1,this.2⟩
theorem EnvR.lea(l:Lea A ι H A' ai H')(r:EnvR A ι H σ ρ):EnvR A' ai H' σ ρ:=Paired.mapP r λ_ _ q u e=>by
 obtain⟨v,h1,h2⟩:=q u e;exact⟨v,h1,h2.lea l⟩
structure UIt where
 n:Nat
 ok:MM->Prop
 item:Nat->U->Prop
def ItR(A:Addr->Prop)(a7:List Addr)(H1:Hp)(J:It)(it:UIt):Prop:=∀(A':Addr->Prop)(ι:List Addr)(H:Hp)(M:MM)(i:Nat),Lea A a7 H1 A' ι H->Wd A' ι H M->it.ok M ->
 (i<it.n->J.go i H/\∀x H',J.yld i H x H'->∃u,it.item i u/\Le ι H ι H'/\Wd A' ι H' M/\RepU A' ι H' x u)/\(i=it.n->J.stop i H)
abbrev UI:=UEnv->MM->(UIt->MM->Prop)->Prop
def LI(wi:TI)(ui:UI):Prop:=∀(A:Addr->Prop)(ι:List Addr)(σ:St)(H:Hp)(ρ:UEnv)(M:MM)(Qu:UIt->MM->Prop)(R:It->Hp->Prop),Wd A ι H M->EnvR A ι H σ ρ->ui ρ M Qu ->
 (∀it M' ai J H',Le ι H ai H'->Wd A ai H' M'->ItR A ai H' J it->Qu it M'->R J H')->wi σ H R
def q5n(ua:UE):UI:=λρ M Q=>ua ρ M λx M1=>∃us,qI M1 x=some us/\Q ⟨us.length,λM=>qI M x=some us,λi z=>us[i]?=some z⟩ M1
def uRev(ul:UA):UI:=λρ M Q=>ul ρ M λxs M1=>∃x us,xs=[x]/\qI M1 x=some us/\Q ⟨us.length,λM=>qI M x=some us,λi z=>us[us.length-1-i]?=some z⟩ M1
def q4O(ul:UA):UI:=λρ M Q=>ul ρ M λxs M1=>∃j:Int,xs=[.p (.int j)] /\ -(2^62)<=j/\j<2^62/\Q ⟨j.toNat,λ_=>True,λi z=>z=.p (.int i)⟩ M1
theorem q6F{lo:Int}{n:Nat}:ItR A ι H (Itr lo n) ⟨n,λ_=>True,λi z=>z=.p (.int (lo+i))⟩:=λA' af H2 M2 i l w2 _=>
 ⟨λhi=>⟨hi,λx H' y=>by
  obtain⟨rfl,rfl⟩:=y;exact⟨_,rfl,.refl _ _,w2,.p (.int _)⟩⟩,λhi=>Rc hi.symm⟩
abbrev UG:=U->UEnv->MM->(UEnv->MM->Prop)->Prop
def LG(g:TG)(ug:UG):Prop:=∀(A:Addr->Prop)(ι:List Addr)(σ:St)(H:Hp)(ρ:UEnv)(M:MM)(v:V)(u:U)(Qu:UEnv->MM->Prop)(Q:St->Hp->Prop),Wd A ι H M->EnvR A ι H σ ρ->RepU A ι H v u->ug u ρ M Qu ->
 (∀aR M' ai ah H',Le ι H ai H'->Wd A ai H' M'->EnvR A ai H' ah aR->Qu aR M'->Q ah H')->g v σ H Q
def KQ(i:Nat):UG:=λu ρ M Q=>Q (ρ.set i (some u)) M
def KP(i j:Nat):UG:=λu ρ M Q=>∃a b,vB M u=some [a,b]/\Q ((ρ.set i (some a)).set j (some b)) M
def KO(i j k:Nat):UG:=λu ρ M Q=>∃a b c,vB M u=some [a,b,c]/\Q (((ρ.set i (some a)).set j (some b)).set k (some c)) M
theorem rep2{vs:List V}{a b:U}(r:RepUs A ι H vs [a,b]):∃x y,vs=[x,y]/\RepU A ι H x a/\RepU A ι H y b:=by
 cases r with
 |cons r q=>cases q with|cons r2 q=>cases q;exact⟨_,_,rfl,r,r2⟩
theorem rep3{vs:List V}{a b c:U}(r:RepUs A ι H vs [a,b,c]):∃x y z,vs=[x,y,z]/\RepU A ι H x a/\RepU A ι H y b/\RepU A ι H z c:=by
 cases r with
 |cons r q=>
  obtain⟨y,z,rfl,r2,r3⟩:=rep2 q;exact⟨_,_,_,rfl,r,r2,r3⟩
def uSub(uo ui:UE):UG:=λu ρ M Q=>uo ρ M λo M1=>ui ρ M1 λi M2=>∃k us z j,o=.m k/\M2[k]?=some (.lst us)/\i=.p (.int z)/\ixN us.length z=some j/\Q ρ (M2.set k (.lst (us.set j u)))
def Ja(bs:List Bool)(n i:Nat):Bool:=match bs[i]? with
 |some b=> !b
 |none=>decide (i<bs.length+n)
theorem Wj{bs:List Bool}{n i:Nat}{σ:St}(hl:σ.length=bs.length)(h:Ja bs n i=true):(zg bs n σ)[i]?=some none:=by
 unfold Ja at h;unfold zg;have hz:((bs.zip σ).map (λp=>if p.1 then p.2 else none)).length=bs.length:=by simp[hl]
 cases e:bs[i]? with
 |some b=>
  rw[e]at h;have hi:=(Us.mp e).1;rw[Uz (by rw[hz];exact hi),UW];have hb:b=false:=by simpa using h
  have e2:(bs.zip σ)[i]?=some (b,σ[i]'(by lia)):=by
   rw[Ut (by simp[hl];exact hi)];simp;exact(Us.mp e).2
  rw[e2,hb];rfl
 |none=>
  rw[e]at h;have hi:=List.getElem?_eq_none_iff.mp e;simp at h;rw[UM (by rw[hz];exact hi),hz,DJ];rw[GL (by lia)]
def LGx(bs:List Bool)(n:Nat)(g:TG)(ug:UG):Prop:=∀(A:Addr->Prop)(ι:List Addr)(σ:St)(H:Hp)(ρ:UEnv)(M:MM)(v:V)(u:U)(Qu:UEnv->MM->Prop)(Q:St->Hp->Prop),σ.length=bs.length->Wd A ι H M->EnvR A ι H (zg bs n σ) ρ->RepU A ι H v u->ug u ρ M Qu ->
 (∀aR ah,EnvR A ι H ah aR->ExtS (zg bs n σ) ah->ah.length=(zg bs n σ).length->Qu aR M->Q ah H)->g v (zg bs n σ) H Q
theorem q5H:LT tYes (λ_ M Q=>Q true M):=λA ι σ H ρ M Qu Q w e q k=>k true M ι H (.refl _ _) w q
abbrev uYes:UT:=λ_ M Q=>Q true M
def q14(it:UIt)(ug:UG)(ut:UT)(ue:UE)(dA:UEnv)(M1:MM)(Q:UK):Prop:=it.n<=sizeLine/\∃Iv:Nat->List T->MM->Prop,Iv 0 [] M1 /\
 (∀i a9 M2,i<it.n->a9.length<=i->Iv i a9 M2->it.ok M2/\∀u,it.item i u->ug u dA M2 λcc M4=>ut cc M4 λb M5=>if b=true then ue cc M5 λz M6=>∃t,z=.p t/\Iv (i+1) (a9++[t]) M6 else Iv (i+1) a9 M5) /\
 (∀a9 M2,Iv it.n a9 M2->it.ok M2/\Q (.p (.lst a9)) M2)
def q5S(ui:UI)(bs:List Bool)(n:Nat)(ug:UG)(ut:UT)(ue:UE):UE:=λρ M Q=>ui ρ M λit M1=>ρ.length=bs.length/\q14 it ug ut ue (Ks bs n ρ) M1 Q
theorem Wd.addA(w:Wd A ι H M){p:Addr}{o:HO}(h:H p=none):Wd (λx=>A x\/x=p) ι (upd H p o) M:=by
 have w2:=w.fresh (o:=o) h;have hm:∀x o',¬Av A ι x->(upd H p o) x=some o'->H x≠none->(upd H p o) x=some o'/\¬Av (λx=>A x\/x=p) ι x:=λx o' hx e hs=>⟨e,λz=>by
  rcases z with(z|z)|z
  ·exact hx (.inl z)
  ·subst z;exact hs h
  ·exact hx (.inr z)⟩
 have hl:Lea A ι H (λx=>A x\/x=p) ι (upd H p o):=⟨⟨[],by simp⟩,λx o' hx e=>hm x o' hx (zG h e) (by rw[e];simp),λx fs hx e=>⟨hx,zG h e⟩⟩;refine⟨w.nd,w.len,λx hx=>?_,λx hx z=>?_,λk a ob e1 e2=>?_⟩
 ·rcases hx with hx|hx
  ·exact w2.dom x hx
  ·rw[hx,upd_same];simp
 ·rcases z with z|z
  ·exact w.na x hx z
  ·exact w.nin h (by rw[<-z];exact hx)
 ·have r:=w.obj k a ob e1 e2
  have ea:upd H p o a=H a:=upd_ne λz=>by
   obtain⟨q,hq⟩:=r.some;rw[z,h]at hq;cases hq
  cases ob with
  |lst=>obtain⟨vs,e,r⟩:=r;exact⟨vs,by rw[ea];exact e,Paired.mapP r λ_ _ q=>q.lea hl⟩
  |tup=>obtain⟨vs,e,r⟩:=r;exact⟨vs,by rw[ea];exact e,Paired.mapP r λ_ _ q=>q.lea hl⟩
  |ins=>
   obtain⟨dx,gs,e,ed,nd,r⟩:=r;exact⟨dx,gs,by rw[ea];exact e,zG h ed,nd,Paired.mapP r λ_ _ q=>⟨q.1,q.2.lea hl⟩⟩
  |dK=>obtain⟨gs,e,r⟩:=r;exact⟨gs,by rw[ea];exact e,Paired.mapP r λ_ _ q=>⟨q.1,q.2.lea hl⟩⟩
  |dF=>obtain⟨e,r⟩:=r;exact⟨by rw[ea];exact e,Paired.mapP r λ_ _ q=>⟨q.1,q.2.lea hl⟩⟩
  |tab=>obtain⟨ps,e,t,z⟩:=r;exact⟨ps,by rw[ea];exact e,t,z.imp id λ⟨c,h1,h2,h3⟩=>⟨c,h1,zG h h2,h3⟩⟩
theorem Wd.lessA(w:Wd A' ι H M)(h:∀x,A x->A' x):Wd A ι H M:=by
 have hl:Lea A' ι H A ι H:=⟨⟨[],by simp⟩,λx o hx e=>⟨e,λz=>hx (z.elim (λz=>.inl (h x z)) .inr)⟩,λx fs hx e=>⟨hx,e⟩⟩;refine⟨w.nd,w.len,λx hx=>w.dom x (h x hx),λx hx z=>w.na x hx (h x z),λk a ob e1 e2=>?_⟩;have r:=w.obj k a ob e1 e2;cases ob with
 |lst=>obtain⟨vs,e,r⟩:=r;exact⟨vs,e,Paired.mapP r λ_ _ q=>q.lea hl⟩
 |tup=>obtain⟨vs,e,r⟩:=r;exact⟨vs,e,Paired.mapP r λ_ _ q=>q.lea hl⟩
 |ins=>obtain⟨dx,gs,e,ed,nd,r⟩:=r;exact⟨dx,gs,e,ed,nd,Paired.mapP r λ_ _ q=>⟨q.1,q.2.lea hl⟩⟩
 |dK=>obtain⟨gs,e,r⟩:=r;exact⟨gs,e,Paired.mapP r λ_ _ q=>⟨q.1,q.2.lea hl⟩⟩
 |dF=>obtain⟨e,r⟩:=r;exact⟨e,Paired.mapP r λ_ _ q=>⟨q.1,q.2.lea hl⟩⟩
 |tab=>exact r
theorem Wd.updA(w:Wd A ι H M){p:Addr}{o:HO}{ys:List V}(ha:A p)(hp:H p=some (.lst ys)):Lea A ι H A ι (upd H p o)/\Wd A ι (upd H p o) M:=by
 have hl:Lea A ι H A ι (upd H p o):=⟨⟨[],by simp⟩,λx o' hx e=>⟨by rw[upd_ne λz=>hx (.inl (by rw[z];exact ha))];exact e,hx⟩,λx fs hx e=>⟨hx,by rw[upd_ne λz=>by rw[z,hp]at e;cases e];exact e⟩⟩;refine⟨hl,w.nd,w.len,λx hx=>?_,w.na,λk a ob e1 e2=>?_⟩
 ·by_cases z:x=p
  ·rw[z,upd_same];simp
  ·rw[upd_ne z];exact w.dom x hx
 ·have r:=w.obj k a ob e1 e2
  have ea:upd H p o a=H a:=upd_ne λz=>w.na a (Uy e1) (by rw[z];exact ha);cases ob with
  |lst=>obtain⟨vs,e,r⟩:=r;exact⟨vs,by rw[ea];exact e,Paired.mapP r λ_ _ q=>q.lea hl⟩
  |tup=>obtain⟨vs,e,r⟩:=r;exact⟨vs,by rw[ea];exact e,Paired.mapP r λ_ _ q=>q.lea hl⟩
  |ins=>
   obtain⟨dx,gs,e,ed,nd,r⟩:=r;exact⟨dx,gs,by rw[ea];exact e,by rw[upd_ne λz=>by rw[z,hp]at ed;cases ed];exact ed,nd,Paired.mapP r λ_ _ q=>⟨q.1,q.2.lea hl⟩⟩
  |dK=>obtain⟨gs,e,r⟩:=r;exact⟨gs,by rw[ea];exact e,Paired.mapP r λ_ _ q=>⟨q.1,q.2.lea hl⟩⟩
  |dF=>obtain⟨e,r⟩:=r;exact⟨by rw[ea];exact e,Paired.mapP r λ_ _ q=>⟨q.1,q.2.lea hl⟩⟩
  |tab=>obtain⟨ps,e,t,z⟩:=r;exact⟨ps,by rw[ea];exact e,t,z.imp id λ⟨c,h1,h2,h3⟩=>⟨c,h1,by rw[upd_ne λz=>by rw[z,hp]at h2;cases h2];exact h2,h3⟩⟩
theorem Le.updF{p:Addr}{o:HO}(l:Le ι H ai H')(h:H p=none):Le ι H ai (upd H' p o):=⟨l.ext,λx o' e n=>by rw[upd_ne (qU e h)];exact l.fr x o' e n,λx e=>by
 by_cases z:x=p
 ·rw[z,upd_same];simp
 ·rw[upd_ne z];exact l.al x e⟩
end
section
variable {ta:TE}{ua ub:UE}{tt:TT}{ut:UT}{tl:TA}{ul:UA}{n:Nat}{A:Addr->Prop}{H H' H1 H2:Hp}{ι ai a7 af:List Addr}{M M':MM}{v:V}{u:U}{t:T}{σ:St}{ρ:UEnv}
structure q01 where
 nx:UEnv->MM->Prop
 rt:UK
 bk:UEnv->MM->Prop:=λ_ _=>False
 ct:UEnv->MM->Prop:=λ_ _=>False
abbrev US:=q01->UEnv->MM->Prop
structure EndsR(A:Addr->Prop)(iI:List Addr)(H0:Hp)(E:q01)(D:Ends):Prop where
 nx:∀ι σ H ρ M,Le iI H0 ι H->Wd A ι H M->EnvR A ι H σ ρ->E.nx ρ M->D.nx σ H
 rt:∀ι v H u M,Le iI H0 ι H->Wd A ι H M->RepU A ι H v u->E.rt u M->D.rt v H
 bk:∀ι σ H ρ M,Le iI H0 ι H->Wd A ι H M->EnvR A ι H σ ρ->E.bk ρ M->D.bk σ H
 ct:∀ι σ H ρ M,Le iI H0 ι H->Wd A ι H M->EnvR A ι H σ ρ->E.ct ρ M->D.ct σ H
theorem EndsR.le{E:q01}{D:Ends}(l:Le ι H ai H')(r:EndsR A ι H E D):EndsR A ai H' E D :=
 ⟨λ_ _ _ _ _ h=>r.nx _ _ _ _ _ (l.trans h),λ_ _ _ _ _ h=>r.rt _ _ _ _ _ (l.trans h),λ_ _ _ _ _ h=>r.bk _ _ _ _ _ (l.trans h),λ_ _ _ _ _ h=>r.ct _ _ _ _ _ (l.trans h)⟩
def LS(ts:TS)(us:US):Prop:=∀(A:Addr->Prop)(ι:List Addr)(σ:St)(H:Hp)(ρ:UEnv)(M:MM)(D:Ends)(E:q01),Wd A ι H M->EnvR A ι H σ ρ->EndsR A ι H E D->us E ρ M->ts D σ H
variable {ts gp:TS}{us cb:US}
def q3a:US:=λE ρ M=>E.nx ρ M
def uSeq(a b:US):US:=λE ρ M=>a { E with nx:=b E } ρ M
def q5X(ua:UE):US:=λE ρ M=>ua ρ M λ_ M1=>E.nx ρ M1
def uRet(ua:UE):US:=λE ρ M=>ua ρ M E.rt
def q71:US:=λE ρ M=>E.rt (.p .non) M
def uIfS(c:UT)(a b:US):US:=λE ρ M=>c ρ M λk M1=>if k=true then a E ρ M1 else b E ρ M1
def uAsg(ua:UE)(g:UG):US:=λE ρ M=>ua ρ M λx M1=>g x ρ M1 E.nx
theorem q3f:LS QN q3a:=λA ι σ H ρ M D E w e r q=>r.nx ι σ H ρ M (.refl _ _) w e q
def UFor(it:UIt)(ug:UG)(ub:US)(E:q01)(ρ:UEnv)(M1:MM):Prop:=∃Iv:Nat->UEnv->MM->Prop,Iv 0 ρ M1 /\
 (∀i aI M2,i<it.n->Iv i aI M2->it.ok M2/\∀u,it.item i u->ug u aI M2 λfI M3=>ub { E with nx:=Iv (i+1),ct:=Iv (i+1),bk:=E.nx } fI M3) /\
 (∀aI M2,Iv it.n aI M2->it.ok M2/\E.nx aI M2)
def uFor(ui:UI)(ug:UG)(ub:US):US:=λE ρ M=>ui ρ M λit M1=>UFor it ug ub E ρ M1
def MeL(r:V->List V->Hp->VK->Prop)(s:List U->List U->(U->List U->Prop)->Prop):Prop:=∀(A:Addr->Prop)(ι:List Addr)(H:Hp)(M:MM)(k:Nat)(a:Addr)(xs ys:List V)(us ws:List U)(Qs:U->List U->Prop)(Q:VK),Wd A ι H M->ι[k]?=some a->H a=some (.lst xs)->M[k]?=some (.lst us)->RepUs A ι H xs us->RepUs A ι H ys ws->s us ws Qs ->
 (∀z cb v iJ,RepUs A ι H iJ cb->RepU A ι H v z->Qs z cb->Q v (upd H a (.lst iJ)))->r (.ref a) ys H Q
def uMe(s:List U->List U->(U->List U->Prop)->Prop)(uo:UE)(ul:UA):UE:=λρ M Q=>uo ρ M λo M1=>∃k,o=.m k/\(∃zs,M1[k]?=some (.lst zs))/\ul ρ M1 λws M2=>∃us,M2[k]?=some (.lst us)/\s us ws λz cb=>Q z (M2.set k (.lst cb))
def Yn:List U->List U->(U->List U->Prop)->Prop:=λus ws Q=>∃y,ws=[y]/\us.length<sizeLine/\Q (.p .non) (us++[y])
theorem Qm:MeL Yy Yn:=λA ι H M k a xs ys us ws Qs Q w ek h1 h2 rx ry ⟨y,ey,hz,q⟩ kk=>by
 subst ey;cases ry with
 |cons r q'=>
 cases q';exact⟨a,xs,_,rfl,rfl,h1,by rw[rx.len];exact hz,kk _ _ _ _ (rx.app (.cons r .nil)) (.p .non) q⟩
def spU(G:List U->MM->UK->Prop):Sp:=λvs H Q _=>∃A ι M us Qu,Wd A ι H M/\RepUs A ι H vs us/\G us M Qu/\∀u M' ai v H',Le ι H ai H'->Wd A ai H' M'->RepU A ai H' v u->Qu u M'->Q v H'
def q5l(G:List U->MM->UK->Prop)(ul:UA):UE:=λρ M Q=>ul ρ M λus M1=>G us M1 Q
def spP(G:List T->(T->Prop)->Prop):Sp:=λvs H Q _=>∃A ts Qt,(∀x,A x->H x≠none)/\RepTs A H vs ts/\G ts Qt/\∀t v H',Same H H'->RepT A H' v t->Qt t->Q v H'
def K1(G:List T->(T->Prop)->Prop)(ul:UA):UE:=λρ M Q=>ul ρ M λus M1=>∃ts,v6 us=some ts/\G ts λt=>Q (.p t) M1
def q61(G:List T->(T->Prop)->Prop)(ul:UA):UE:=λρ M Q=>ul ρ M λus M1=>∃ts,sns M1 us=some ts/\G ts λt=>(∃x,vt t=some x)/\Q (.p t) M1
theorem Same.le(s:Same H H'):Le ι H ι H':=⟨⟨[],by simp,by simp⟩,λx o e _=>s x o e,λx e=>by
 cases q:H x with
 |none=>exact absurd q e
 |some o=>rw[s x o q];simp⟩
theorem Wd.same(w:Wd A ι H M)(s:Same H H'):Wd A ι H' M :=
 ⟨w.nd,w.len,λx hx=>(Same.le (ι:=ι) s).al x (w.dom x hx),w.na,λk a ob e1 e2=>(w.obj k a ob e1 e2).le' s.le (by
  obtain⟨o,ho⟩:=(w.obj k a ob e1 e2).some;rw[ho,s _ _ ho]) λx ex=>by rw[ex,s _ _ ex]⟩
theorem Wd.domAv(w:Wd A ι H M):∀x,Av A ι x->H x≠none:=λx h=>by
 rcases h with h|h
 ·exact w.dom x h
 ·obtain⟨o,ho⟩:=w.mem_some h
  rw[ho];simp
def frzs(f:U->Option T):List U->Option (List T)
 | []=>some []
 |u::r=>match f u,frzs f r with
  |some t,some ts=>some (t::ts)
  |_,_=>none
def frzN:Nat->MM->U->Option T
 |_,_,.p t=>some t
 |0,_,.m _=>none
 |_,_,.x _ _ _=>none
 |n+1,M,.m k=>match M[k]? with
  |some (.lst us)=>(frzs (frzN n M) us).map T.lst
  |some (.tup us)=>(frzs (frzN n M) us).map T.tup
  |_=>none
theorem Vw{f:U->Option T}{vs:List V}{us:List U}{ts:List T}(r:RepUs A ι H vs us)(h:∀v u t,RepU A ι H v u->f u=some t->RepT A H v t)(e:frzs f us=some ts):RepTs A H vs ts:=by
 induction r generalizing ts with
 |nil=>simp[frzs]at e;subst e;exact .nil
 |cons r q ih=>
  simp only[frzs]at e;split at e
  ·rename_i h1 h2
   simp at e;subst e;exact .cons (h _ _ _ r h1) (ih h2)
  ·cases e
theorem Vx(w:Wd A ι H M):∀{n:Nat}{v:V}{u:U}{t:T},RepU A ι H v u->frzN n M u=some t->RepT A H v t
 |n,v,.p t',t,.p r,e=>by
  cases n<;>simp[frzN]at e<;>subst e<;>exact r.mono λx o hx ex=>⟨ex,λz=>hx (.inl z)⟩
 |0,v,.m k,t,r,e=>by simp[frzN]at e
 |n,v,.x a d q,t,r,e=>by cases n<;>simp[frzN]at e
 |n+1,v,.m k,t,r,e=>by
  cases r with
  |m q=>
  obtain⟨o,h1,h2⟩:=w.al q;have fJ:=w.na _ (Uy q);simp only[frzN,h1]at e;cases o with
  |lst us=>
   simp at e;obtain⟨ts,e1,rfl⟩:=e;obtain⟨vs,h3,h4⟩:=h2;exact .lstP fJ h3 (Vw h4 (λv u t r e=>Vx w r e) e1)
  |tup us=>
   simp at e;obtain⟨ts,e1,rfl⟩:=e;obtain⟨vs,h3,h4⟩:=h2;exact .tupP fJ h3 (Vw h4 (λv u t r e=>Vx w r e) e1)
  |ins=>simp at e
  |dK=>simp at e
  |dF=>simp at e
  |tab=>simp at e
theorem q02{f:U->Option T}(h:∀t,f (.p t)=some t):∀ts:List T,frzs f (ts.map U.p)=some ts
 | []=>rfl
 |t::r=>by simp[frzs,h t,q02 h r]
@[simp] theorem frzN_p{n:Nat}{M:MM}{t:T}:frzN n M (.p t)=some t:=by cases n<;>rfl
def zI(N:List Str)(us:List U):UEnv:=us.map some++List.replicate (N.length-us.length) none
theorem xN{N:List Str}{vs:List V}{us:List U}(r:RepUs A ι H vs us):EnvR A ι H (start N vs) (zI N us):=by
 unfold start zI;refine Paired.app ?_ ?_
 ·exact Paired.mapR (f:=some) (F:=λs u=>∃v,s=some v/\RepU A ι H v u) (λa b q u e=>by cases e;exact q) (by
   induction r with
   |nil=>exact .nil
   |cons r q ih=>exact .cons ⟨_,rfl,r⟩ ih)
 ·rw[r.len]
  generalize N.length-us.length=m
  induction m with
  |zero=>exact .nil
  |succ m ih=>exact .cons (λu e=>by cases e) ih
end
section
variable {P:Program}{w:World}{K:PySem.W.Frag}{mg:Str->Option Value}{base:Heap}
theorem Fun.okU{x ac:Str}{st:Stmt}{f:Addr}{fd:FuncData}{N ps:List Str}{k:Nat}{G:List U->MM->UK->Prop}(F:Fun K x ac st f fd)(S:q00 N ps (qd st))(len:∀us M Qu,G us M Qu->us.length=ps.length)(aA:∀(ae:Value)(A:Around)(outer:List Env)(s:Shared)(H:Hp)(E:XK),Room k (A.deeper (envOfC ac (qd st) s.heap.objs.size f ae)) ->
   ∃t,PSs (cxOf CX0 P w K mg base N ac (qd st) f ae A outer s H E).nox (vi st) t/\∃u,LS t u/\∀us M Qu,G us M Qu->u { nx:=λ_ M'=>Qu (.p .non) M',rt:=Qu } (zI N us) M):FnOk P w K mg base CX0 (k+1) f fd ps (spU G):=by
 refine F.ok S (λvs H Q E h=>?_) (λae A outer s H vs Q E hr h=>?_)
 ·obtain⟨A,ι,M,us,Qu,w1,r,g,_⟩:=h
  rw[r.len];exact len us M Qu g
 ·obtain⟨B,ι,M,us,Qu,w1,r,g,kk⟩:=h
  obtain⟨t,ht,u,hu,hb⟩:=aA ae A outer s H E hr;refine⟨t,ht,hu B ι _ H _ M _ { nx:=λ_ M'=>Qu (.p .non) M',rt:=Qu } w1 (xN r) ⟨λa7 cA H1 dB M1 l1 w1 e1 q1=>kk _ M1 a7 _ H1 l1 w1 (.p .non) q1,λa7 v H1 z M1 l1 w1 r1 q1=>kk z M1 a7 v H1 l1 w1 r1 q1,λ_ _ _ _ _ _ _ _ q=>q.elim,λ_ _ _ _ _ _ _ _ q=>q.elim⟩ (hb us M Qu g)⟩
theorem Fun.okP{x ac:Str}{st:Stmt}{f:Addr}{fd:FuncData}{N ps:List Str}{k:Nat}{G:List T->(T->Prop)->Prop}(F:Fun K x ac st f fd)(S:q00 N ps (qd st))(len:∀ts Qt,G ts Qt->ts.length=ps.length)(aA:∀(ae:Value)(A:Around)(outer:List Env)(s:Shared)(H:Hp)(E:XK),Room k (A.deeper (envOfC ac (qd st) s.heap.objs.size f ae)) ->
   ∃t,PSs (cxOf CX0 P w K mg base N ac (qd st) f ae A outer s H E).nox (vi st) t/\∃u,LS t u/\∀ts Qt,G ts Qt->u { nx:=λ_ _=>Qt .non,rt:=λz M'=>∃t,frzN 4 M' z=some t/\Qt t } (zI N (ts.map U.p)) []):FnOk P w K mg base CX0 (k+1) f fd ps (spP G):=by
 refine F.ok S (λvs H Q E h=>?_) (λae A outer s H vs Q E hr h=>?_)
 ·obtain⟨A,ts,Qt,hd,r,g,_⟩:=h
  rw[r.len];exact len ts Qt g
 ·obtain⟨B,ts,Qt,hd,r,g,kk⟩:=h
  obtain⟨t,ht,u,hu,hb⟩:=aA ae A outer s H E hr;have w0:Wd B [] H []:=⟨List.nodup_nil,rfl,hd,λx hx=>by simp at hx,λk a o e _=>by simp at e⟩;have same:∀{a7:List Addr}{H1:Hp},Le [] H a7 H1->Same H H1:=λl b o e=>l.fr b o e (by simp);have r0:RepUs B [] H vs (ts.map U.p):=RepTs.ups (Paired.mapP r λ_ _ q=>q.mono λx o hx ex=>⟨ex,λz=>z.elim hx (by simp)⟩);refine⟨t,ht,hu B [] _ H _ [] _ { nx:=λ_ _=>Qt .non,rt:=λz M'=>∃t,frzN 4 M' z=some t/\Qt t } w0 (xN r0) ⟨λa7 cA H1 dB M1 l1 w1 e1 q1=>kk _ _ H1 (same l1) .non q1,λa7 v H1 z M1 l1 w1 r1 ⟨t1,et,q1⟩=>kk t1 v H1 (same l1) (Vx w1 r1 et) q1,λ_ _ _ _ _ _ _ _ q=>q.elim,λ_ _ _ _ _ _ _ _ q=>q.elim⟩ (hb ts Qt g)⟩
end
section
variable {ua ub uc:UE}{ut:UT}{ul:UA}{us cb:US}{n:Nat}{M M1:MM}{u:U}{t:T}{ρ:UEnv}{Q:UK}{QB:Bool->MM->Prop}{E:q01}{ug:UG}
def OpS(s:T->T->(T->Prop)->Prop)(M:MM)(x y:U)(Q:UK):Prop:=∃a b,sn M x=some a/\sn M y=some b/\s a b λt=>Q (.p t) M
theorem q6Q{s:T->T->(T->Prop)->Prop}:uOp s ua ub ρ M Q=ua ρ M λx M1=>ub ρ M1 λy M2=>OpS s M2 x y Q:=rfl
theorem q50{s:T->T->(T->Prop)->Prop}{a b:T}:OpS s M (.p a) (.p b) Q=s a b λt=>Q (.p t) M :=
 propext ⟨λzz=>by obtain⟨_,_,e1,e2,h⟩:=zz;cases e1;cases e2;exact h,λh=>⟨a,b,rfl,rfl,h⟩⟩
theorem q7m{C:Int->Int->Prop}{g:Int->Int->T}{i j:Int}{Q:T->Prop}:sI C g (.int i) (.int j) Q=(C i j/\Q (g i j)):=
 propext ⟨λzz=>by obtain⟨_,_,e1,e2,h⟩:=zz;cases e1;cases e2;exact h,λh=>⟨i,j,rfl,rfl,h⟩⟩
theorem q6m{g:Int->Int->T}{i j:Int}{Q:T->Prop}:sI0 g (.int i) (.int j) Q=Q (g i j):=
 propext ⟨λzz=>by obtain⟨_,_,e1,e2,h⟩:=zz;cases e1;cases e2;exact h,λh=>⟨i,j,rfl,rfl,h⟩⟩
theorem q5j{i j:Int}{Q:T->Prop}:sEq false (.int i) (.int j) Q=Q (.bl (decide (i=j))):=by
 refine propext ⟨λ⟨x,y,e1,e2,_,h⟩=>?_,λh=>⟨_,_,rfl,rfl,rfl,?_⟩⟩
 ·simp[vt]at e1 e2;subst e1 e2;simpa using h
 ·simpa using h
theorem q5F{i j:Int}{Q:T->Prop}:sEq true (.int i) (.int j) Q=Q (.bl (!decide (i=j))):=by
 refine propext ⟨λ⟨x,y,e1,e2,_,h⟩=>?_,λh=>⟨_,_,rfl,rfl,rfl,?_⟩⟩
 ·simp[vt]at e1 e2;subst e1 e2;simpa using h
 ·simpa using h
theorem q5p{i j:Str}{Q:T->Prop}:sEq false (.str i) (.str j) Q=Q (.bl (decide (i=j))):=by
 refine propext ⟨λ⟨x,y,e1,e2,_,h⟩=>?_,λh=>⟨_,_,rfl,rfl,rfl,?_⟩⟩
 ·simp[vt]at e1 e2;subst e1 e2;simpa using h
 ·simpa using h
theorem q4Z{i j:Str}{Q:T->Prop}:sEq true (.str i) (.str j) Q=Q (.bl (!decide (i=j))):=by
 refine propext ⟨λ⟨x,y,e1,e2,_,h⟩=>?_,λh=>⟨_,_,rfl,rfl,rfl,?_⟩⟩
 ·simp[vt]at e1 e2;subst e1 e2;simpa using h
 ·simpa using h
theorem q56{i j:Bool}{Q:T->Prop}:sEq false (.bl i) (.bl j) Q=Q (.bl (decide (i=j))):=by
 refine propext ⟨λ⟨x,y,e1,e2,_,h⟩=>?_,λh=>⟨_,_,rfl,rfl,rfl,?_⟩⟩
 ·simp[vt]at e1 e2;subst e1 e2;simpa using h
 ·simpa using h
theorem q5g{i j:Bool}{Q:T->Prop}:sEq true (.bl i) (.bl j) Q=Q (.bl (!decide (i=j))):=by
 refine propext ⟨λ⟨x,y,e1,e2,_,h⟩=>?_,λh=>⟨_,_,rfl,rfl,rfl,?_⟩⟩
 ·simp[vt]at e1 e2;subst e1 e2;simpa using h
 ·simpa using h
def VarS(o:Option (Option U))(M:MM)(Q:UK):Prop:=∃u,o=some (some u)/\Q u M
theorem q4Q{i:Nat}:uVar i ρ M Q=VarS ρ[i]? M Q:=rfl
theorem q4A:VarS (some (some u)) M Q=Q u M:=propext ⟨λzz=>by obtain⟨_,e,h⟩:=zz;cases e;exact h,λh=>⟨u,rfl,h⟩⟩
def IntS(x:U)(R:Int->Prop):Prop:=∃i,x=.p (.int i)/\R i
theorem q4z{i:Int}{R:Int->Prop}:IntS (.p (.int i)) R=R i:=propext ⟨λzz=>by obtain⟨_,e,h⟩:=zz;cases e;exact h,λh=>⟨i,rfl,h⟩⟩
def BlS(x:U)(R:Bool->Prop):Prop:=∃b,x=.p (.bl b)/\R b
theorem q5f{b:Bool}{R:Bool->Prop}:BlS (.p (.bl b)) R=R b:=propext ⟨λzz=>by obtain⟨_,e,h⟩:=zz;cases e;exact h,λh=>⟨b,rfl,h⟩⟩
theorem q64:uNeg ua ρ M Q=ua ρ M λx M1=>IntS x λi=>Q (.p (.int (-i))) M1:=rfl
theorem q3l:q6X ua ρ M Q=ua ρ M λx M1=>IntS x λi=>Q (.p (.int (Builtin.Int.intBits i))) M1:=rfl
theorem rd_b:uB ua ρ M QB=ua ρ M λx M1=>BlS x λb=>QB b M1:=rfl
theorem q2X:q4E ua ub ρ M Q=ua ρ M λx M1=>BlS x λc=>if c=true then ub ρ M1 Q else Q (.p (.bl false)) M1:=rfl
theorem q5t:uOrV ua ub ρ M Q=ua ρ M λx M1=>BlS x λc=>if c=true then Q (.p (.bl true)) M1 else ub ρ M1 Q:=rfl
theorem q3I:q6P ua ρ M Q=ua ρ M λx M1=>BlS x λc=>Q (.p (.bl (!c))) M1:=rfl
def ChS(s':T->T->(T->Prop)->Prop)(uc:UE)(ρ:UEnv)(M:MM)(y:U)(Q:UK)(z:T):Prop:=∃k,z=.bl k/\if k=true then uc ρ M λc M3=>OpS s' M3 y c Q else Q (.p (.bl false)) M
theorem q0S{s s':T->T->(T->Prop)->Prop}:q2g s s' ua ub uc ρ M Q=ua ρ M λx M1=>ub ρ M1 λy M2=>OpS s M2 x y λz _=>∃t,z=.p t/\ChS s' uc ρ M2 y Q t :=
 propext (by
  have e:∀(x y:U)(M2:MM),(∃a b,sn M2 x=some a/\sn M2 y=some b/\s a b λz=>∃k,z=.bl k/\if k=true then uc ρ M2 λc M3=>∃b' c',sn M3 y=some b'/\sn M3 c=some c'/\s' b' c' λt=>Q (.p t) M3 else Q (.p (.bl false)) M2)=(OpS s M2 x y λz _=>∃t,z=.p t/\ChS s' uc ρ M2 y Q t):=λx y M2=>by
   unfold OpS ChS;have:∀z:T,(∃t,U.p z=.p t/\∃k,t=.bl k/\if k=true then uc ρ M2 λc M3=>OpS s' M3 y c Q else Q (.p (.bl false)) M2)=(∃k,z=.bl k/\if k=true then uc ρ M2 λc M3=>∃b' c',sn M3 y=some b'/\sn M3 c=some c'/\s' b' c' λt=>Q (.p t) M3 else Q (.p (.bl false)) M2):=λz=>
    propext ⟨λzz=>by obtain⟨t,e,h⟩:=zz;cases e;exact h,λh=>⟨z,rfl,h⟩⟩
   simp only[this]
  unfold q2g;simp only[e])
theorem q4N{s':T->T->(T->Prop)->Prop}{y:U}{b:Bool}:(∃t,U.p (.bl b)=.p t/\ChS s' uc ρ M y Q t)=if b=true then uc ρ M λc M3=>OpS s' M3 y c Q else Q (.p (.bl false)) M :=
 propext ⟨λzz=>by obtain⟨t,e,k,e2,h⟩:=zz;cases e;cases e2;exact h,λh=>⟨_,rfl,b,rfl,h⟩⟩
def PurS(us:List U)(R:List T->Prop):Prop:=∃ts,v6 us=some ts/\R ts
theorem Ys{ts:List T}{R:List T->Prop}:PurS (ts.map U.p) R=R ts:=propext ⟨λzz=>by obtain⟨_,e,h⟩:=zz;rw[jl]at e;cases e;exact h,λh=>⟨ts,jl ts,h⟩⟩
theorem q2N{R:List T->Prop}:PurS [] R=R []:=Ys (ts:=[])
theorem q3r{a:T}{us:List U}{R:List T->Prop}:PurS (.p a::us) R=PurS us λts=>R (a::ts):=by
 refine propext ⟨λ⟨ts,e,h⟩=>?_,λ⟨ts,e,h⟩=>⟨a::ts,by simp[v6,e],h⟩⟩;simp[v6]at e;obtain⟨r,e1,rfl⟩:=e;exact⟨r,e1,h⟩
theorem q5U:uTup ul ρ M Q=ul ρ M λus M1=>PurS us λts=>Q (.p (.tup ts)) M1:=rfl
theorem q6j:uLst ul ρ M Q=ul ρ M λus M1=>PurS us λts=>Q (.p (.lst ts)) M1:=rfl
def IxS(it:MM->U->Option (List U))(M:MM)(x y:U)(Q:UK):Prop:=∃us i z,it M x=some us/\y=.p (.int i)/\atI us i=some z/\Q z M
theorem q7z{it:MM->U->Option (List U)}:uIx it ua ub ρ M Q=ua ρ M λx M1=>ub ρ M1 λy M2=>IxS it M2 x y Q:=rfl
theorem xG{it:MM->U->Option (List U)}{x:U}{us:List U}{i:Int}{z:U}(h1:it M x=some us)(h2:atI us i=some z)(q:Q z M):IxS it M x (.p (.int i)) Q:=⟨us,i,z,h1,rfl,h2,q⟩
theorem Gs{ts:List T}{i:Int}{t:T}(h:atI ts i=some t):atI (ts.map U.p) i=some (.p t):=by
 unfold atI at h ⊢;rw[Uw];cases e:ixN ts.length i with
 |none=>rw[e]at h;cases h
 |some j=>rw[e]at h;simp at h ⊢;rw[h]
theorem qX{ts:List T}{i:Int}{t:T}(h:atI ts i=some t)(q:Q (.p t) M):IxS qI M (.p (.lst ts)) (.p (.int i)) Q:=xG rfl (Gs h) q
theorem vc{ts:List T}{i:Int}{t:T}(h:atI ts i=some t)(q:Q (.p t) M):IxS vB M (.p (.tup ts)) (.p (.int i)) Q:=xG rfl (Gs h) q
def SnsS(M:MM)(us:List U)(R:List T->Prop):Prop:=∃ts,sns M us=some ts/\R ts
theorem q4v{R:List T->Prop}:SnsS M [] R=R []:=propext ⟨λzz=>by obtain⟨_,e,h⟩:=zz;cases e;exact h,λh=>⟨[],rfl,h⟩⟩
theorem q3S{a:T}{us:List U}{R:List T->Prop}:SnsS M (.p a::us) R=SnsS M us λts=>R (a::ts):=by
 refine propext ⟨λ⟨ts,e,h⟩=>?_,λ⟨ts,e,h⟩=>⟨a::ts,by simp[sns,sn,e],h⟩⟩;simp only[sns,sn]at e;cases q:sns M us with
 |none=>rw[q]at e;cases e
 |some r=>rw[q]at e;simp at e;subst e;exact⟨r,q,h⟩
theorem q6N{s:List T->(T->Prop)->Prop}:uCb s ul ρ M Q=ul ρ M λus M1=>SnsS M1 us λts=>s ts λt=>Q (.p t) M1:=rfl
theorem q2F{i:Int}{Q:T->Prop}:sAbs [.int i] Q=Q (.int (if i<0 then -i else i)):=propext ⟨λzz=>by obtain⟨_,e,h⟩:=zz;cases e;exact h,λh=>⟨i,rfl,h⟩⟩
theorem q3H{i j:Int}{Q:T->Prop}:sMin [.int i,.int j] Q=Q (.int (if j<i then j else i)):=propext ⟨λzz=>by obtain⟨_,_,e,h⟩:=zz;cases e;exact h,λh=>⟨i,j,rfl,h⟩⟩
theorem q4e{i j:Int}{Q:T->Prop}:sMax [.int i,.int j] Q=Q (.int (if j>i then j else i)):=propext ⟨λzz=>by obtain⟨_,_,e,h⟩:=zz;cases e;exact h,λh=>⟨i,j,rfl,h⟩⟩
theorem q3L{i:Int}{Q:T->Prop}:sInt [.int i] Q=Q (.int i):=by
 refine propext ⟨λh=>?_,λh=>Or.inl ⟨i,rfl,h⟩⟩;rcases h with⟨_,e,h⟩|⟨_,e,h⟩
 ·cases e;exact h
 ·cases e
theorem q3Z{k:Bool}{Q:T->Prop}:sInt [.bl k] Q=Q (.int (if k then 1 else 0)):=by
 refine propext ⟨λh=>?_,λh=>Or.inr ⟨k,rfl,h⟩⟩;rcases h with⟨_,e,h⟩|⟨_,e,h⟩
 ·cases e
 ·cases e;exact h
def LenS(it:MM->U->Option (List U))(M:MM)(us:List U)(Q:UK):Prop:=∃x ys,us=[x]/\it M x=some ys/\Q (.p (.int ys.length)) M
theorem q4K{it:MM->U->Option (List U)}:uLen it ul ρ M Q=ul ρ M λus M1=>LenS it M1 us Q:=rfl
theorem q36{ts:List T}:LenS qI M [.p (.lst ts)] Q=Q (.p (.int ts.length)) M :=
 propext ⟨λzz=>by obtain⟨_,_,e1,e2,h⟩:=zz;cases e1;cases e2;rw[Uw]at h;exact h,λh=>⟨_,_,rfl,rfl,by rw[Uw];exact h⟩⟩
theorem kJ{k:Nat}{us:List U}(e:M[k]?=some (.lst us))(h:Q (.p (.int us.length)) M):LenS qI M [.m k] Q:=⟨_,_,rfl,by simp[qI,e],h⟩
def SlS(M:MM)(x:U)(l h:Option Int)(Q:UK):Prop:=∃ts,sn M x=some (.lst ts)/\Q (.p (.lst (cutT ts l h))) M
theorem q7C{u1 u2:UO}:uSl ua u1 u2 ρ M Q=ua ρ M λx M1=>u1 ρ M1 λl M2=>u2 ρ M2 λh M3=>SlS M3 x l h Q:=rfl
theorem q4T{ts:List T}{l h:Option Int}:SlS M (.p (.lst ts)) l h Q=Q (.p (.lst (cutT ts l h))) M:=propext ⟨λzz=>by obtain⟨_,e,h⟩:=zz;cases e;exact h,λh=>⟨ts,rfl,h⟩⟩
theorem q3v{QO:Option Int->MM->Prop}:q5K ua ρ M QO=ua ρ M λx M1=>IntS x λi=>QO (some i) M1:=rfl
theorem Yt{QO:Option Int->MM->Prop}:ZK ρ M QO=QO none M:=rfl
theorem q5y{xs ys:List T}{Q:T->Prop}:sCat (.lst xs) (.lst ys) Q=(xs.length+ys.length<=sizeLine/\Q (.lst (xs++ys))):=propext ⟨λzz=>by obtain⟨_,_,e1,e2,h⟩:=zz;cases e1;cases e2;exact h,λh=>⟨xs,ys,rfl,rfl,h⟩⟩
theorem q5J{i j:Str}{Q:T->Prop}:sStr (.str i) (.str j) Q=(i.length+j.length<=sizeLine/\Q (.str (i++j))):=propext ⟨λzz=>by obtain⟨_,_,e1,e2,h⟩:=zz;cases e1;cases e2;exact h,λh=>⟨i,j,rfl,rfl,h⟩⟩
def itU(x:U)(us:List U):UIt:=⟨us.length,λM=>qI M x=some us,λi z=>us[i]?=some z⟩
def q38(M:MM)(x:U)(R:UIt->MM->Prop):Prop:=∃us,qI M x=some us/\R (itU x us) M
theorem q4r{R:UIt->MM->Prop}:q5n ua ρ M R=ua ρ M λx M1=>q38 M1 x R:=rfl
theorem q06{ts:List T}{R:UIt->MM->Prop}:q38 M (.p (.lst ts)) R=R (itU (.p (.lst ts)) (ts.map U.p)) M:=propext ⟨λzz=>by obtain⟨_,e,h⟩:=zz;cases e;exact h,λh=>⟨_,rfl,h⟩⟩
theorem Wy{k:Nat}{us:List U}{R:UIt->MM->Prop}(e:M[k]?=some (.lst us))(h:R (itU (.m k) us) M):q38 M (.m k) R:=⟨us,by simp[qI,e],h⟩
def itR0(n:Nat):UIt:=⟨n,λ_=>True,λi z=>z=.p (.int i)⟩
def RngS(us:List U)(M:MM)(R:UIt->MM->Prop):Prop:=∃j:Int,us=[.p (.int j)] /\ -(2^62)<=j/\j<2^62/\R (itR0 j.toNat) M
theorem q3j{R:UIt->MM->Prop}:q4O ul ρ M R=ul ρ M λus M1=>RngS us M1 R:=rfl
theorem jv{j:Int}{R:UIt->MM->Prop}(h1 : -(2^62)<=j)(h2:j<2^62)(q:R (itR0 j.toNat) M):RngS [.p (.int j)] M R:=⟨j,rfl,h1,h2,q⟩
theorem j3{ts:List T}{ub:US}(Iv:Nat->UEnv->MM->Prop)(h0:Iv 0 ρ M)(hs:∀i t aI M2,ts[i]?=some t->Iv i aI M2->ug (.p t) aI M2 λfI M3=>ub { E with nx:=Iv (i+1),ct:=Iv (i+1),bk:=E.nx } fI M3)(hd:∀aI M2,Iv ts.length aI M2->E.nx aI M2):UFor (itU (.p (.lst ts)) (ts.map U.p)) ug ub E ρ M:=by
 refine⟨Iv,h0,λi aI M2 hi h=>⟨rfl,λu hu=>?_⟩,λaI M2 h=>⟨rfl,hd aI M2 (by simpa[itU]using h)⟩⟩;have hu:(ts.map U.p)[i]?=some u:=hu;rw[UW]at hu;cases e:ts[i]? with
 |none=>rw[e]at hu;cases hu
 |some t=>rw[e]at hu;cases hu;exact hs i t aI M2 e h
theorem xJ{m:Nat}{ub:US}(Iv:Nat->UEnv->MM->Prop)(h0:Iv 0 ρ M)(hs:∀(i:Nat) aI M2,i<m->Iv i aI M2->ug (.p (.int i)) aI M2 λfI M3=>ub { E with nx:=Iv (i+1),ct:=Iv (i+1),bk:=E.nx } fI M3)(hd:∀aI M2,Iv m aI M2->E.nx aI M2):UFor (itR0 m) ug ub E ρ M :=
 ⟨Iv,h0,λi aI M2 hi h=>⟨trivial,λu hu=>by cases(show u=_ from hu);exact hs i aI M2 hi h⟩,λaI M2 h=>⟨trivial,hd aI M2 h⟩⟩
theorem q1e{k:Nat}{xs:List U}{ub:US}(Iv:Nat->UEnv->MM->Prop)(h0:Iv 0 ρ M)(hk:∀i aI M2,Iv i aI M2->M2[k]?=some (.lst xs))(hs:∀i z aI M2,xs[i]?=some z->Iv i aI M2->ug z aI M2 λfI M3=>ub { E with nx:=Iv (i+1),ct:=Iv (i+1),bk:=E.nx } fI M3)(hd:∀aI M2,Iv xs.length aI M2->E.nx aI M2):UFor (itU (.m k) xs) ug ub E ρ M :=
 ⟨Iv,h0,λi aI M2 hi h=>⟨by show qI M2 (.m k)=_;simp[qI,hk i aI M2 h],λu hu=>hs i u aI M2 hu h⟩,λaI M2 h=>⟨by show qI M2 (.m k)=_;simp[qI,hk _ aI M2 h],hd aI M2 h⟩⟩
theorem Qg{ts:List T}{dA:UEnv}(hz:ts.length<=sizeLine)(Iv:Nat->List T->MM->Prop)(h0:Iv 0 [] M)(hs:∀i t a9 M2,ts[i]?=some t->a9.length<=i->Iv i a9 M2->ug (.p t) dA M2 λcc M4=>ut cc M4 λb M5=>if b=true then ua cc M5 λz M6=>∃t,z=.p t/\Iv (i+1) (a9++[t]) M6 else Iv (i+1) a9 M5)(hd:∀a9 M2,Iv ts.length a9 M2->Q (.p (.lst a9)) M2):q14 (itU (.p (.lst ts)) (ts.map U.p)) ug ut ua dA M Q:=by
 refine⟨by simpa[itU]using hz,Iv,h0,λi a9 M2 hi ha h=>⟨rfl,λu hu=>?_⟩,λa9 M2 h=>⟨rfl,hd a9 M2 (by simpa[itU]using h)⟩⟩;have hu:(ts.map U.p)[i]?=some u:=hu;rw[UW]at hu;cases e:ts[i]? with
 |none=>rw[e]at hu;cases hu
 |some t=>rw[e]at hu;cases hu;exact hs i t a9 M2 e ha h
theorem j4{m:Nat}{dA:UEnv}(hz:m<=sizeLine)(Iv:Nat->List T->MM->Prop)(h0:Iv 0 [] M)(hs:∀(i:Nat) a9 M2,i<m->a9.length<=i->Iv i a9 M2->ug (.p (.int i)) dA M2 λcc M4=>ut cc M4 λb M5=>if b=true then ua cc M5 λz M6=>∃t,z=.p t/\Iv (i+1) (a9++[t]) M6 else Iv (i+1) a9 M5)(hd:∀a9 M2,Iv m a9 M2->Q (.p (.lst a9)) M2):q14 (itR0 m) ug ut ua dA M Q :=
 ⟨hz,Iv,h0,λi a9 M2 hi ha h=>⟨trivial,λu hu=>by cases(show u=_ from hu);exact hs i a9 M2 hi ha h⟩,λa9 M2 h=>⟨trivial,hd a9 M2 h⟩⟩
def T2S(M:MM)(u:U)(R:U->U->Prop):Prop:=∃a b,vB M u=some [a,b]/\R a b
def T3S(M:MM)(u:U)(R:U->U->U->Prop):Prop:=∃a b c,vB M u=some [a,b,c]/\R a b c
theorem q1n{i j:Nat}{R:UEnv->MM->Prop}:KP i j u ρ M R=T2S M u λa b=>R ((ρ.set i (some a)).set j (some b)) M:=rfl
theorem q19{i j k:Nat}{R:UEnv->MM->Prop}:KO i j k u ρ M R=T3S M u λa b c=>R (((ρ.set i (some a)).set j (some b)).set k (some c)) M:=rfl
theorem q7y{a b:T}{R:U->U->Prop}:T2S M (.p (.tup [a,b])) R=R (.p a) (.p b):=propext ⟨λzz=>by obtain⟨_,_,e,h⟩:=zz;cases e;exact h,λh=>⟨_,_,rfl,h⟩⟩
theorem q70{a b c:T}{R:U->U->U->Prop}:T3S M (.p (.tup [a,b,c])) R=R (.p a) (.p b) (.p c):=propext ⟨λzz=>by obtain⟨_,_,_,e,h⟩:=zz;cases e;exact h,λh=>⟨_,_,_,rfl,h⟩⟩
theorem q0k{G:List T->(T->Prop)->Prop}:K1 G ul ρ M Q=ul ρ M λus M1=>PurS us λts=>G ts λt=>Q (.p t) M1:=rfl
theorem q0x{G:List T->(T->Prop)->Prop}:q61 G ul ρ M Q=ul ρ M λus M1=>SnsS M1 us λts=>G ts λt=>(∃x,vt t=some x)/\Q (.p t) M1:=rfl
theorem q1w{G:List U->MM->UK->Prop}:q5l G ul ρ M Q=ul ρ M λus M1=>G us M1 Q:=rfl
def MeS(s:List U->List U->(U->List U->Prop)->Prop)(ul:UA)(ρ:UEnv)(M:MM)(o:U)(Q:UK):Prop:=∃k,o=.m k/\(∃zs,M[k]?=some (.lst zs))/\ul ρ M λws M2=>∃us,M2[k]?=some (.lst us)/\s us ws λz cb=>Q z (M2.set k (.lst cb))
theorem q7B{s:List U->List U->(U->List U->Prop)->Prop}:uMe s ua ul ρ M Q=ua ρ M λo M1=>MeS s ul ρ M1 o Q:=rfl
theorem Vq{s:List U->List U->(U->List U->Prop)->Prop}{k:Nat}{zs:List U}(e:M[k]?=some (.lst zs))(h:ul ρ M λws M2=>∃us,M2[k]?=some (.lst us)/\s us ws λz cb=>Q z (M2.set k (.lst cb))):MeS s ul ρ M (.m k) Q:=⟨k,rfl,⟨zs,e⟩,h⟩
theorem q4U{us:List U}{y:U}{Q:U->List U->Prop}:Yn us [y] Q=(us.length<sizeLine/\Q (.p .non) (us++[y])):=propext ⟨λzz=>by obtain⟨_,e,h⟩:=zz;cases e;exact h,λh=>⟨y,rfl,h⟩⟩
theorem ss{α:Type}{a:α}{R:α->Prop}:(∃x,some a=some x/\R x)=R a:=propext ⟨λzz=>by obtain⟨_,e,h⟩:=zz;cases e;exact h,λh=>⟨a,rfl,h⟩⟩
end
inductive EqT:Nat->T->T->Bool->Prop
 |flat {n:Nat}{a b:T}{x y:V}:vt a=some x->vt b=some y->EqT n a b (eqV x y)
 |tup {n:Nat}{xs ys:List T}{e:Nat->Bool}:(∀(j:Nat) x y,xs[j]?=some x->ys[j]?=some y->EqT n x y (e j))->EqT (n+1) (.tup xs) (.tup ys) ((List.range (min xs.length ys.length)).all e&&xs.length==ys.length)
 |lst {n:Nat}{xs ys:List T}{e:Nat->Bool}:xs.length=ys.length->(∀(j:Nat) x y,xs[j]?=some x->ys[j]?=some y->EqT n x y (e j))->EqT (n+1) (.lst xs) (.lst ys) ((List.range xs.length).all e)
 |lstN {n:Nat}{xs ys:List T}:xs.length≠ys.length->EqT (n+1) (.lst xs) (.lst ys) false
section
variable {A:Addr->Prop}{H:Hp}{ι:List Addr}{M M':MM}{v:V}{u:U}{t:T}{K:PySem.W.Frag}{n:Nat}
theorem RepT.inj{a b:T}(r:RepT A H v a):RepT A H v b->a=b:=by
 induction r generalizing b with
 |non=>intro q;cases q;rfl
 |bl=>intro q;cases q;rfl
 |int=>intro q;cases q;rfl
 |str=>intro q;cases q;rfl
 |tup na e l r ih=>
  intro q;cases q with
  |tup na' e' l' r'=>
   rw[e]at e';cases e'
   congr 1;refine List.ext_getElem (by lia) λi h1 h2=>?_;have h3:=h1;rw[<-l]at h3;exact ih i _ _ (Ut h3) (Ut h1) (r' i _ _ (Ut h3) (Ut h2))
  |lst na' e' l' r'=>rw[e]at e';cases e'
 |lst na e l r ih=>
  intro q;cases q with
  |lst na' e' l' r'=>
   rw[e]at e';cases e'
   congr 1;refine List.ext_getElem (by lia) λi h1 h2=>?_;have h3:=h1;rw[<-l]at h3;exact ih i _ _ (Ut h3) (Ut h1) (r' i _ _ (Ut h3) (Ut h2))
  |tup na' e' l' r'=>rw[e]at e';cases e'
theorem q1x:∀{x:V}{t:T},vt t=some x->eqV x x=true:=λ{x t} h=>by cases j2 h<;>simp[eqV]
theorem EqT.self{a b:T}{r:Bool}(h:EqT n a b r):a=b->r=true:=by
 induction h with
 |flat h1 h2=>intro e;subst e;rw[h1]at h2;cases h2;exact q1x h1
 | @tup n xs ys e hh ih=>
  intro q;cases q;simp only[Nat.min_self,G3,Bool.and_true,DX,DV];intro j hj;exact ih j _ _ (Ut hj) (Ut hj) rfl
 | @lst n xs ys e hl hh ih=>
  intro q;cases q;simp only[DX,DV];intro j hj;exact ih j _ _ (Ut hj) (Ut hj) rfl
 |lstN hl=>intro q;cases q;exact absurd rfl hl
theorem EqT.de{a b:T}{r:Bool}(h:EqT n a b r):∀{x y:V},RepT A H x a->RepT A H y b->DE K H n x y r:=by
 induction h with
 | @flat n a b x0 y0 h1 h2=>
  intro x y r1 r2;cases(RepV.of r1).sc (y:=.non) h1;cases(RepV.of r2).sc (y:=.non) h2;exact .flat (by cases j2 h1<;>rfl) (by cases j2 h2<;>rfl)
 | @tup n xs ys e hh ih=>
  intro x y r1 r2;obtain⟨p,vs,rfl,_,h1,q1⟩:=r1.tup_inv;obtain⟨p2,ci,rfl,_,h2,q2⟩:=r2.tup_inv;by_cases hp:p=p2
  ·subst hp
   have:=(EqT.tup (n:=n) hh).self (r1.inj r2);rw[this];exact .same
  ·have:=DE.tup (K:=K) (H:=H) (n:=n) (e:=e) hp (SqT.of h1) (SqT.of h2) λj x y hx hy=>by
    obtain⟨a,ha,ra⟩:=Paired.getL q1 hx;obtain⟨b,hb,rb⟩:=Paired.getL q2 hy;exact ih j a b ha hb ra rb
   rw[q1.len,q2.len]at this;exact this
 | @lst n xs ys e hl hh ih=>
  intro x y r1 r2;obtain⟨p,vs,rfl,_,h1,q1⟩:=r1.lst_inv;obtain⟨p2,ci,rfl,_,h2,q2⟩:=r2.lst_inv;by_cases hp:p=p2
  ·subst hp
   have:=(EqT.lst (n:=n) hl hh).self (r1.inj r2);rw[this];exact .same
  ·have:=DE.lst (K:=K) (H:=H) (n:=n) (e:=e) hp (SqL.of h1) (SqL.of h2) (by rw[q1.len,q2.len,hl]) λj x y hx hy=>by
    obtain⟨a,ha,ra⟩:=Paired.getL q1 hx;obtain⟨b,hb,rb⟩:=Paired.getL q2 hy;exact ih j a b ha hb ra rb
   rw[q1.len]at this;exact this
 | @lstN n xs ys hl=>
  intro x y r1 r2;obtain⟨p,vs,rfl,_,h1,q1⟩:=r1.lst_inv;obtain⟨p2,ci,rfl,_,h2,q2⟩:=r2.lst_inv;by_cases hp:p=p2
  ·subst hp
   have:=r1.inj r2;cases this;exact absurd rfl hl
  ·exact .lstN hp (SqL.of h1) (SqL.of h2) (by rw[q1.len,q2.len];exact hl)
def sEqL(neg:Bool):T->T->(T->Prop)->Prop:=λa b Q=>∃xs ys,a=.lst xs/\b=.lst ys/\((xs.length≠ys.length/\Q (.bl neg))\/(xs.length=ys.length/\∃e:Nat->Bool,(∀(j:Nat) x y,xs[j]?=some x->ys[j]?=some y->EqT 20 x y (e j))/\Q (.bl (if neg then !(List.range xs.length).all e else(List.range xs.length).all e))))
theorem q2Y:OpL (rNeL K) (sEqL true):=λA ι H M x y a b Qs Q w r1 r2 ⟨xs,ys,ea,eb,h⟩ k=>by
 subst ea eb;obtain⟨p,vs,rfl,h1,q1⟩:=r1.lst_inv;obtain⟨p2,ci,rfl,h2,q2⟩:=r2.lst_inv;refine⟨p,p2,vs,ci,rfl,rfl,SqL.of h1,SqL.of h2,?_⟩;rcases h with⟨hl,q⟩|⟨hl,e,he,q⟩
 ·exact .inl ⟨by rw[q1.len,q2.len];exact hl,k _ ι _ H (.refl _ _) w (.bl _) q⟩
 ·refine .inr ⟨by rw[q1.len,q2.len];exact hl,e,λj x y hx hy=>?_,by rw[q1.len];exact k _ ι _ H (.refl _ _) w (.bl _) q⟩
  obtain⟨a,ha,ra⟩:=Paired.getL q1 hx;obtain⟨b,hb,rb⟩:=Paired.getL q2 hy;exact(he j a b ha hb).de ra rb
abbrev q1a(ns:List Int):T:=.lst (ns.map T.int)
def frzB(b:Nat):Nat->MM->U->Option T
 |_,_,.p t=>some t
 |0,_,.m _=>none
 |_,_,.x _ _ _=>none
 |n+1,M,.m k=>if b<=k then match M[k]? with
  |some (.lst us)=>(frzs (frzB b n M) us).map T.lst
  |some (.tup us)=>(frzs (frzB b n M) us).map T.tup
  |_=>none else none
@[simp] theorem frzB_p{b n:Nat}{M:MM}{t:T}:frzB b n M (.p t)=some t:=by cases n<;>rfl
theorem Zp{A':Addr->Prop}{f:U->Option T}{vs:List V}{us:List U}{ts:List T}(r:RepUs A ι H vs us)(h:∀v u t,RepU A ι H v u->f u=some t->RepT A' H v t)(e:frzs f us=some ts):RepTs A' H vs ts:=by
 induction r generalizing ts with
 |nil=>simp[frzs]at e;subst e;exact .nil
 |cons r q ih=>
  simp only[frzs]at e;split at e
  ·rename_i h1 h2
   simp at e;subst e;exact .cons (h _ _ _ r h1) (ih h2)
  ·cases e
theorem Vy{m:List Addr}(w:Wd A (ι++m) H M):∀{n:Nat}{v:V}{u:U}{t:T},RepU A (ι++m) H v u->frzB ι.length n M u=some t->RepT (Av A ι) H v t
 |n,v,.p t',t,.p r,e=>by
  rw[frzB_p]at e;cases e;exact r.mono λx o hx ex=>⟨ex,λz=>hx (z.elim .inl λz=>.inr (UV _ z))⟩
 |0,v,.m k,t,r,e=>by simp[frzB]at e
 |n,v,.x a d q,t,r,e=>by cases n<;>simp[frzB]at e
 |n+1,v,.m k,t,r,e=>by
  cases r with
  |m q=>
  rename_i a;obtain⟨o,h1,h2⟩:=w.al q;simp only[frzB,h1]at e;split at e
  ·rename_i hk
   have fJ:¬Av A ι a:=λz=>by
    rcases z with z|z
    ·exact w.na _ (Uy q) z
    ·rw[UM hk]at q
     have hd:=(Dl.mp w.nd).2.2;exact hd a z a (Uy q) rfl
   cases o with
   |lst us=>
    simp at e;obtain⟨ts,e1,rfl⟩:=e;obtain⟨vs,h3,h4⟩:=h2;exact .lstP fJ h3 (Zp h4 (λv u t r e=>Vy w r e) e1)
   |tup us=>
    simp at e;obtain⟨ts,e1,rfl⟩:=e;obtain⟨vs,h3,h4⟩:=h2;exact .tupP fJ h3 (Zp h4 (λv u t r e=>Vy w r e) e1)
   |ins=>simp at e
   |dK=>simp at e
   |dF=>simp at e
   |tab=>simp at e
  ·cases e
def PurO(o:MO):Prop:=∃ts:List T,o=.lst (ts.map U.p)
def zo(M M':MM):Prop:=∀(i:Nat) o,i<M.length->M'[i]?=some o->M[i]?=some o\/PurO o
theorem RepU.less{m:List Addr}{v0:V}{H0:Hp}(r:RepU A (ι++m) H v u)(r0:RepU A ι H0 v0 u):RepU A ι H v u:=by
 cases r with
 |p r=>exact .p (r.mono λx o hx ex=>⟨ex,λz=>hx (z.elim .inl λz=>.inr (UV _ z))⟩)
 |m e=>
  cases r0 with
  |m e0=>
   rw[Uz (Us.mp e0).1]at e;exact .m e
 | @x a d q h=>
  refine .x ?_;cases q with
  |none=>exact h
  |some n=>
   obtain⟨x0,e,ni,hx⟩:=h;exact⟨x0,e,λz=>ni (UV _ z),hx⟩
theorem vT{α β:Type}{F G L:α->β->Prop}(h:∀a a0 b,F a b->G a0 b->L a b):∀{l l0:List α}{r:List β},Paired F l r->Paired G l0 r->Paired L l r
 |_,_,_,.nil,.nil=>.nil
 |_,_,_,.cons p q,.cons p0 q0=>.cons (h _ _ _ p p0) (vT h q q0)
theorem ObjR.less{m:List Addr}{a a0:Addr}{o:MO}{H0:Hp}(r:ObjR A (ι++m) H a o)(r0:ObjR A ι H0 a0 o):ObjR A ι H a o:=by
 cases o with
 |lst=>obtain⟨vs,e,r⟩:=r;obtain⟨_,_,r0⟩:=r0;exact⟨vs,e,vT (λ_ _ _ p q=>p.less q) r r0⟩
 |tup=>obtain⟨vs,e,r⟩:=r;obtain⟨_,_,r0⟩:=r0;exact⟨vs,e,vT (λ_ _ _ p q=>p.less q) r r0⟩
 |ins=>obtain⟨dx,gs,e,ed,nd,r⟩:=r;obtain⟨_,_,_,_,_,r0⟩:=r0;exact⟨dx,gs,e,ed,λz=>nd (UV _ z),vT (λ_ _ _ p q=>⟨p.1,p.2.less q.2⟩) r r0⟩
 |dK=>obtain⟨gs,e,r⟩:=r;obtain⟨_,_,r0⟩:=r0;exact⟨gs,e,vT (λ_ _ _ p q=>⟨p.1,p.2.less q.2⟩) r r0⟩
 |dF=>obtain⟨e,r⟩:=r;obtain⟨_,r0⟩:=r0;exact⟨e,vT (λ_ _ _ p q=>⟨p.1,p.2.less q.2⟩) r r0⟩
 |tab=>obtain⟨ps,e,t,z⟩:=r;exact⟨ps,e,t,z.imp id λ⟨c,h1,h2,h3⟩=>⟨c,h1,h2,λz=>h3 (UV _ z)⟩⟩
theorem Wd.trim{m:List Addr}{H0:Hp}(w:Wd A (ι++m) H M')(w0:Wd A ι H0 M)(h:zo M M'):Wd A ι H (M'.take M.length):=by
 have hl:M.length<=M'.length:=by
  have:=w.len;rw[Uu,w0.len]at this;lia
 refine⟨(Dl.mp w.nd).1,by rw[Dj,Nat.min_eq_left hl];exact w0.len,w.dom,λx hx=>w.na x (UV _ hx),λk a o e1 e2=>?_⟩;have hk:=(Us.mp e1).1;rw[Rj (by rw[<-w0.len];exact hk)]at e2;have r:=w.obj k a o (by rw[Uz hk];exact e1) e2;rcases h k o (by rw[<-w0.len];exact hk) e2 with z|⟨ts,rfl⟩
 ·exact r.less (w0.obj k a o e1 z)
 ·obtain⟨vs,e,q⟩:=r
  refine⟨vs,e,?_⟩;have q2:=q.pures;exact RepTs.ups (Paired.mapP q2 λ_ _ q=>q.mono λx o hx ex=>⟨ex,λz=>hx (z.elim .inl λz=>.inr (UV _ z))⟩)
end
section
variable {P:Program}{w:World}{K:PySem.W.Frag}{mg:Str->Option Value}{base:Heap}
theorem q6v{N:List Str}{vs:List V}{H:Hp}{Q:VK}{E:XK}{t:TS}{u:US}{G:List U->MM->UK->Prop}(hu:LS t u)(hb:∀us M Qu,G us M Qu->u { nx:=λ_ M'=>zo M M'/\Qu (.p .non) (M'.take M.length),rt:=λz M'=>zo M M'/\∃t,frzB M.length 4 M' z=some t/\Qu (.p t) (M'.take M.length) } (zI N us) M)(h:spU G vs H Q E):t { nx:=λ_ H'=>Q .non H',rt:=Q } (start N vs) H:=by
 obtain⟨B,ι,M,us,Qu,w1,r,g,kk⟩:=h;have less:∀{a7:List Addr}{H1:Hp},Le ι H a7 H1->Le ι H ι H1:=λl=>⟨⟨[],by simp,by simp⟩,l.fr,l.al⟩;refine hu B ι _ H _ M _ { nx:=λ_ M'=>zo M M'/\Qu (.p .non) (M'.take M.length),rt:=λz M'=>zo M M'/\∃t,frzB M.length 4 M' z=some t/\Qu (.p t) (M'.take M.length) } w1 (xN r) ⟨λa7 cA H1 dB M1 l1 w2 e1 q1=>?_,λa7 v H1 z M1 l1 w2 r1 q1=>?_,λ_ _ _ _ _ _ _ _ q=>q.elim,λ_ _ _ _ _ _ _ _ q=>q.elim⟩ (hb us M Qu g)
 ·obtain⟨tr,q⟩:=q1
  obtain⟨m,rfl,_⟩:=id l1.ext;exact kk _ _ ι _ H1 (less l1) (w2.trim w1 tr) (.p .non) q
 ·obtain⟨tr,t1,et,q⟩:=q1
  obtain⟨m,rfl,_⟩:=id l1.ext;rw[<-w1.len]at et;exact kk _ _ ι v H1 (less l1) (w2.trim w1 tr) (.p (Vy w2 r1 et)) q
theorem Fun.okV{x ac:Str}{st:Stmt}{f:Addr}{fd:FuncData}{N ps:List Str}{k:Nat}{G:List U->MM->UK->Prop}(F:Fun K x ac st f fd)(S:q00 N ps (qd st))(len:∀us M Qu,G us M Qu->us.length=ps.length)(aA:∀(ae:Value)(A:Around)(outer:List Env)(s:Shared)(H:Hp)(E:XK),Room k (A.deeper (envOfC ac (qd st) s.heap.objs.size f ae)) ->
   ∃t,PSs (cxOf CX0 P w K mg base N ac (qd st) f ae A outer s H E).nox (vi st) t/\∃u,LS t u/\∀us M Qu,G us M Qu->u { nx:=λ_ M'=>zo M M'/\Qu (.p .non) (M'.take M.length),rt:=λz M'=>zo M M'/\∃t,frzB M.length 4 M' z=some t/\Qu (.p t) (M'.take M.length) } (zI N us) M):FnOk P w K mg base CX0 (k+1) f fd ps (spU G):=by
 refine F.ok S (λvs H Q E h=>?_) (λae A outer s H vs Q E hr h=>?_)
 ·obtain⟨A,ι,M,us,Qu,w1,r,g,_⟩:=h
  rw[r.len];exact len us M Qu g
 ·obtain⟨t,ht,u,hu,hb⟩:=aA ae A outer s H E hr
  exact⟨t,ht,q6v hu hb h⟩
end
section
variable {ta tb:TE}{ua ub uc:UE}{ul:UA}{A:Addr->Prop}{H H':Hp}{ι ai:List Addr}{M M':MM}{v:V}{u:U}{σ:St}{ρ:UEnv}
def keyU:Key->U
 |.inl i=>.p (.int i)
 |.inr x=>.p (.str x)
 |.non=>.p .non
def valU(kvs:List (Key×U))(k:Key):Option U:=(kvs.find? λkv=>decide (kv.1=k)).map (·.2)
def putU(kvs:List (Key×U))(k:Key)(y:U):List (Key×U):=if kvs.any (λkv=>decide (kv.1=k)) then kvs.map (λkv=>if kv.1=k then(kv.1,y) else kv) else kvs++[(k,y)]
def Zd(kvs more:List (Key×U)):List (Key×U):=more.foldl (λa9 kv=>putU a9 kv.1 kv.2) kvs
abbrev KR(A:Addr->Prop)(ι:List Addr)(H:Hp):List (Key×V)->List (Key×U)->Prop:=Paired λ(g:Key×V) (f:Key×U)=>g.1=f.1/\RepU A ι H g.2 f.2
theorem q4q{gs:List (Key×V)}{kvs:List (Key×U)}{k:Key}(r:KR A ι H gs kvs):match valU kvs k with|some u=>∃v,valV gs k=some v/\RepU A ι H v u|none=>valV gs k=none:=by
 induction r with
 |nil=>rfl
 | @cons g f gs kvs p q ih=>
  obtain⟨e,r⟩:=p;unfold valU valV at ih ⊢;simp only[Ds];by_cases h:f.1=k
  ·rw[e]
   simp only[h,decide_true];exact⟨_,rfl,r⟩
  ·rw[e]
   simp only[h,decide_false];exact ih
theorem q42{gs:List (Key×V)}{kvs:List (Key×U)}{k:Key}(r:KR A ι H gs kvs):(gs.any λkv=>decide (kv.1=k))=(kvs.any λkv=>decide (kv.1=k)):=by
 induction r with
 |nil=>rfl
 |cons p q ih=>rw[DL,DL,ih,p.1]
theorem XA{gs:List (Key×V)}{kvs:List (Key×U)}{k:Key}(r:KR A ι H gs kvs)(rv:RepU A ι H v u):KR A ι H (gs.map λkv=>if kv.1=k then(kv.1,v) else kv) (kvs.map λkv=>if kv.1=k then(kv.1,u) else kv):=by
 induction r with
 |nil=>exact .nil
 | @cons g f gs kvs p q ih=>
  refine .cons ?_ ih;show(if g.1=k then(g.1,v) else g).1=(if f.1=k then(f.1,u) else f).1/\RepU A ι H (if g.1=k then(g.1,v) else g).2 (if f.1=k then(f.1,u) else f).2;by_cases h:f.1=k
  ·rw[GL h,GL (p.1.trans h)];exact⟨p.1,rv⟩
  ·rw[GH h,GH (λz=>h (p.1.symm.trans z))];exact p
theorem q3D{gs:List (Key×V)}{kvs:List (Key×U)}{k:Key}(r:KR A ι H gs kvs)(rv:RepU A ι H v u):KR A ι H (putK gs k v) (putU kvs k u):=by
 unfold putK putU;rw[q42 r];split
 ·exact XA r rv
 ·exact r.app (.cons ⟨rfl,rv⟩ .nil)
theorem Wh{more:List (Key×V)}{eV:List (Key×U)}(q:KR A ι H more eV):∀{gs:List (Key×V)}{kvs:List (Key×U)},KR A ι H gs kvs->KR A ι H (kB gs more) (Zd kvs eV):=by
 unfold kB Zd
 induction q with
 |nil=>intro gs kvs r;exact r
 |cons p q ih=>
  intro gs kvs r;rw[Ry,Ry,p.1];exact ih (q3D r p.2)
inductive LPs:List (TE×TE)->List (UE×UE)->Prop
 |nil:LPs [] []
 |cons {tk tv:TE}{uk uv:UE}{ts:List (TE×TE)}{us:List (UE×UE)}:LE tk uk->LE tv uv->LPs ts us->LPs ((tk,tv)::ts) ((uk,uv)::us)
def X7:List (UE×UE)->UEnv->MM->(List (U×U)->MM->Prop)->Prop
 | [],_,M,Q=>Q [] M
 | (k,v)::r,ρ,M,Q=>k ρ M λx M1=>v ρ M1 λy M2=>X7 r ρ M2 λps M3=>Q ((x,y)::ps) M3
theorem q4h{cU:List (TE×TE)}{fK:List (UE×UE)}(h:LPs cU fK):∀(A:Addr->Prop)(ι:List Addr)(σ:St)(H:Hp)(ρ:UEnv)(M:MM)(Qu:List (U×U)->MM->Prop)(Q:List (V×V)->Hp->Prop),Wd A ι H M->EnvR A ι H σ ρ->X7 fK ρ M Qu ->
  (∀us M' ai vs H',Le ι H ai H'->Wd A ai H' M'->Paired (λ(x:V×V) (y:U×U)=>RepU A ai H' x.1 y.1/\RepU A ai H' x.2 y.2) vs us->Qu us M'->Q vs H')->Jb cU σ H Q:=by
 induction h with
 |nil=>intro A ι σ H ρ M Qu Q w e q k;exact k [] M ι [] H (.refl _ _) w .nil q
 |cons h1 h2 h3 ih=>
  intro A ι σ H ρ M Qu Q w e q k;refine h1 A ι σ H ρ M _ _ w e q λx M1 a7 v1 H1 l1 w1 r1 q1=>?_;refine h2 A a7 σ H1 ρ M1 _ _ w1 (e.le l1) q1 λy M2 af v2 H2 l2 w2 r2 q2=>?_;refine ih A af σ H2 ρ M2 _ _ w2 (e.le (l1.trans l2)) q2 λus M3 cW vs H3 l3 w3 r3 q3=>?_;exact k _ M3 cW _ H3 ((l1.trans l2).trans l3) w3 (.cons ⟨(r1.le l2).le l3,r2.le l3⟩ r3) q3
def KY(fK:List (UE×UE)):UE:=λρ M Q=>X7 fK ρ (M++[.dK []]) λps M2=>M2[M.length]?=some (.dK [])/\∃kvs:List (Key×U),ps=kvs.map (λkv=>(keyU kv.1,kv.2))/\kvs.length<=15/\Q (.m M.length) (M2.set M.length (.dK (Zd [] kvs)))
theorem Wr{k:Key}(r:RepU A ι H v (keyU k)):v=kV k:=by
 cases k with
 |inl i=>cases r with|p r=>cases r;rfl
 |inr x=>cases r with|p r=>cases r;rfl
 |non=>cases r with|p r=>cases r;rfl
theorem Wp:∀{kvs:List (Key×U)}{vs:List (V×V)},Paired (λ(x:V×V) (y:U×U)=>RepU A ι H x.1 y.1/\RepU A ι H x.2 y.2) vs (kvs.map λkv=>(keyU kv.1,kv.2))->∃gs:List (Key×V),vs=gs.map (λkv=>(kV kv.1,kv.2))/\KR A ι H gs kvs
 | [],_,.nil=>⟨[],rfl,.nil⟩
 |kv::kvs,(a,b)::_,.cons p q=>by
  obtain⟨gs,rfl,r⟩:=Wp (kvs:=kvs) q;refine⟨(kv.1,b)::gs,?_,.cons ⟨rfl,p.2⟩ r⟩;rw[UZ];have:=Wr p.1;simp only at this;rw[this]
def q3Q(M:MM)(x y:U)(Q:UK):Prop:=∃k kvs key w,x=.m k/\M[k]?=some (.dK kvs)/\y=keyU key/\valU kvs key=some w/\Q w M
def q4J(ua ub:UE):UE:=λρ M Q=>ua ρ M λx M1=>ub ρ M1 λy M2=>q3Q M2 x y Q
theorem q39{Q:UK}:q4J ua ub ρ M Q=ua ρ M λx M1=>ub ρ M1 λy M2=>q3Q M2 x y Q:=rfl
theorem jZ{k:Nat}{kvs:List (Key×U)}{x:Str}{w:U}{Q:UK}(h1:M[k]?=some (.dK kvs))(h2:valU kvs (.inr x)=some w)(q:Q w M):q3Q M (.m k) (.p (.str x)) Q:=⟨k,kvs,.inr x,w,rfl,h1,rfl,h2,q⟩
def uIfC(c:UT)(t1 t2:T):UE:=λρ M Q=>c ρ M λb M1=>Q (.p (if b=true then t1 else t2)) M1
theorem q0B{c:Prop}[Decidable c]{a b:Int}:(if c then T.int a else T.int b)=T.int (if c then a else b):=by split<;>rfl
theorem q04{c:Prop}[Decidable c]{a b:Str}:(if c then T.str a else T.str b)=T.str (if c then a else b):=by split<;>rfl
def itV(x:U)(us:List U):UIt:=⟨us.length,λM=>qI M x=some us,λi z=>us[us.length-1-i]?=some z⟩
def RevS(us:List U)(M:MM)(R:UIt->MM->Prop):Prop:=∃x ys,us=[x]/\qI M x=some ys/\R (itV x ys) M
theorem q6z{R:UIt->MM->Prop}:uRev ul ρ M R=ul ρ M λus M1=>RevS us M1 R:=rfl
theorem q33{ts:List T}{R:UIt->MM->Prop}:RevS [.p (.lst ts)] M R=R (itV (.p (.lst ts)) (ts.map U.p)) M:=propext ⟨λzz=>by obtain⟨_,_,e1,e2,h⟩:=zz;cases e1;cases e2;exact h,λh=>⟨_,_,rfl,rfl,h⟩⟩
theorem q6S{s':T->T->(T->Prop)->Prop}{y:U}{b:Bool}{Q:UK}:ChS s' uc ρ M y Q (.bl b)=if b=true then uc ρ M λc M3=>OpS s' M3 y c Q else Q (.p (.bl false)) M :=
 propext ⟨λzz=>by obtain⟨k,e,h⟩:=zz;cases e;exact h,λh=>⟨b,rfl,h⟩⟩
end
section
variable {ta:TE}{ua ub:UE}{ul:UA}{A:Addr->Prop}{H:Hp}{ι:List Addr}{M:MM}{v:V}{u:U}{t:T}{σ:St}{ρ:UEnv}{K:PySem.W.Frag}
def uIxK(ts:List T)(ub:UE):UE:=λρ M Q=>ub ρ M λy M1=>IntS y λi=>∃t,atI ts i=some t/\Q (.p t) M1
def uInK(neg:Bool)(vs:List V)(ua:UE):UE:=λρ M Q=>ua ρ M λx M1=>∃a,x=.p a/\∃y,vt a=some y/\Q (.p (.bl (if neg then !inV y vs else inV y vs))) M1
inductive TyC where
 |int|bool|str|list|tuple
def TyC.name:TyC->String
 |.int=> "int" |.bool=> "bool" |.str=> "str" |.list=> "list" |.tuple=> "tuple"
def isT:T->TyC->Bool
 |.int _,.int=>true
 |.bl _,.int=>true
 |.bl _,.bool=>true
 |.str _,.str=>true
 |.lst _,.list=>true
 |.tup _,.tuple=>true
 |_,_=>false
def isU(M:MM):U->TyC->Option Bool
 |.p t,c=>some (isT t c)
 |.m k,c=>match M[k]? with
  |some (.lst _)=>some (isT (.lst []) c)
  |some (.tup _)=>some (isT (.tup []) c)
  |_=>none
 |.x _ _ _,_=>none
theorem Wz{c:TyC}{b:Bool}(w:Wd A ι H M)(r:RepU A ι H v u)(e:isU M u c=some b):∃t,TyOf K H v (.type t)/\W.kitOne K (.type t) (.type c.name)=some b:=by
 cases r with
 |p r=>
  simp only[isU,Option.some.injEq]at e;subst e;cases r with
  |non=>exact⟨_,.non,by cases c<;>rfl⟩
  |bl b=>exact⟨_,.bl b,by cases c<;>rfl⟩
  |int i=>exact⟨_,.int i,by cases c<;>rfl⟩
  |str x=>exact⟨_,.str x,by cases c<;>rfl⟩
  |tup na e l r=>exact⟨_,.tup e,by cases c<;>rfl⟩
  |lst na e l r=>exact⟨_,.lst e,by cases c<;>rfl⟩
 |m q=>
  obtain⟨o,h1,h2⟩:=w.al q;simp only[isU,h1]at e;cases o with
  |lst us=>simp only[Option.some.injEq]at e;subst e;obtain⟨vs,h3,_⟩:=h2;exact⟨_,.lst h3,by cases c<;>rfl⟩
  |tup us=>simp only[Option.some.injEq]at e;subst e;obtain⟨vs,h3,_⟩:=h2;exact⟨_,.tup h3,by cases c<;>rfl⟩
  |ins=>simp at e
  |dK=>simp at e
  |dF=>simp at e
  |tab=>simp at e
 |x h=>simp[isU]at e
def uIsi(c:TyC)(ua:UE):UE:=λρ M Q=>ua ρ M λx M1=>∃b,isU M1 x c=some b/\Q (.p (.bl b)) M1
def q6O(c d:TyC)(ua:UE):UE:=λρ M Q=>ua ρ M λx M1=>∃b,isU M1 x c=some b/\∃b',isU M1 x d=some b'/\Q (.p (.bl (b||b'))) M1
def q3B(neg:Bool):T->T->(T->Prop)->Prop:=λa b Q=>∃xs ys,∃e:Nat->Bool,a=.tup xs/\b=.tup ys/\(∀(j:Nat) x y,xs[j]?=some x->ys[j]?=some y->EqT 20 x y (e j))/\Q (.bl (if neg then !((List.range (min xs.length ys.length)).all e&&xs.length==ys.length) else((List.range (min xs.length ys.length)).all e&&xs.length==ys.length)))
theorem q3J:OpL (rEqT K) (q3B false):=λA ι H M x y a b Qs Q w r1 r2 ⟨xs,ys,e,ea,eb,he,q⟩ k=>by
 subst ea eb;obtain⟨p,vs,rfl,h1,q1⟩:=r1.tup_inv;obtain⟨p2,ci,rfl,h2,q2⟩:=r2.tup_inv;refine⟨p,p2,vs,ci,e,rfl,rfl,SqT.of h1,SqT.of h2,λj x y hx hy=>?_,by rw[q1.len,q2.len];exact k _ ι _ H (.refl _ _) w (.bl _) q⟩;obtain⟨a,ha,ra⟩:=Paired.getL q1 hx;obtain⟨b,hb,rb⟩:=Paired.getL q2 hy;exact(he j a b ha hb).de ra rb
def q72:UE:=λ_ M Q=>Q (.m M.length) (M++[.dK []])
def DInS(neg:Bool)(M:MM)(y x:U)(Q:UK):Prop:=∃k kvs key,x=.m k/\M[k]?=some (.dK kvs)/\y=keyU key/\Q (.p (.bl (if neg then !(valU kvs key).isSome else(valU kvs key).isSome))) M
def uDIn(neg:Bool)(ua ub:UE):UE:=λρ M Q=>ua ρ M λy M1=>ub ρ M1 λx M2=>DInS neg M2 y x Q
def q52(M:MM)(x y v:U)(R:MM->Prop):Prop:=∃k kvs key,x=.m k/\M[k]?=some (.dK kvs)/\y=keyU key/\kvs.length<sizeLine/\R (M.set k (.dK (putU kvs key v)))
def q7f(ud uy uv:UE):US:=λE ρ M=>uv ρ M λv M1=>ud ρ M1 λx M2=>uy ρ M2 λy M3=>q52 M3 x y v λM4=>E.nx ρ M4
theorem q5I{neg:Bool}{Q:UK}:uDIn neg ua ub ρ M Q=ua ρ M λy M1=>ub ρ M1 λx M2=>DInS neg M2 y x Q:=rfl
theorem q4i{ud uy uv:UE}{E:q01}:q7f ud uy uv E ρ M=uv ρ M λv M1=>ud ρ M1 λx M2=>uy ρ M2 λy M3=>q52 M3 x y v λM4=>E.nx ρ M4:=rfl
def IdxS(us:List U)(xs:List Str)(M:MM)(Q:UK):Prop:=∃(t:Str)(j:Nat),us=[.p (.str t)]/\xs[j]?=some t/\(∀m,m<j->xs[m]?≠some t)/\Q (.p (.int j)) M
def q7r(xs:List Str)(ul:UA):UE:=λρ M Q=>ul ρ M λus M1=>IdxS us xs M1 Q
theorem q4c{xs:List Str}{Q:UK}:q7r xs ul ρ M Q=ul ρ M λus M1=>IdxS us xs M1 Q:=rfl
end
section
variable {ul:UA}{n:Nat}{M:MM}{u:U}{ρ:UEnv}
def q2z(us:List U)(M:MM)(Q:UK):Prop:=∃(i j:Int)(n:Nat),us=[.p (.int i),.p (.int j)] /\ -(2^62)<=i/\j<2^62/\j=i+n/\n<=1000000/\Q (.p (.lst ((List.range n).map λk:Nat=>T.int (i+k)))) M
def q5L(ul:UA):UE:=λρ M Q=>ul ρ M λus M1=>q2z us M1 Q
theorem q1k{Q:UK}:q5L ul ρ M Q=ul ρ M λus M1=>q2z us M1 Q:=rfl
theorem gdIx{it:MM->U->Option (List U)}{x y:U}{Q:UK}(h:IxS it M x y Q):IxS it M x y Q:=h
theorem gdT2{u:U}{R:U->U->Prop}(h:T2S M u R):T2S M u R:=h
theorem gdT3{u:U}{R:U->U->U->Prop}(h:T3S M u R):T3S M u R:=h
theorem gdMe{s:List U->List U->(U->List U->Prop)->Prop}{o:U}{Q:UK}(h:MeS s ul ρ M o Q):MeS s ul ρ M o Q:=h
theorem q75{it:MM->U->Option (List U)}{us:List U}{Q:UK}(h:LenS it M us Q):LenS it M us Q:=h
end
section
variable {ta tb tv:TE}{ua ub uv:UE}{tl:TA}{ul:UA}{n:Nat}{A:Addr->Prop}{H:Hp}{ι:List Addr}{M:MM}{v:V}{u:U}{t:T}{σ:St}{ρ:UEnv}{K:PySem.W.Frag}{f m:Str}{C:Addr}
abbrev FR(A:Addr->Prop)(ι:List Addr)(H:Hp):List (Str×V)->List (Str×U)->Prop:=Paired (λ(g:Str×V) (f:Str×U)=>g.1=f.1/\RepU A ι H g.2 f.2)
theorem Js{gs:List (Str×V)}{fs:List (Str×U)}{u:U}(r:FR A ι H gs fs)(e:fs.lookup f=some u):∃v,gs.lookup f=some v/\RepU A ι H v u:=by
 induction r with
 |nil=>cases e
 | @cons g h gs fs a _ ih=>
  obtain⟨g1,g2⟩:=g;obtain⟨h1,h2⟩:=h;obtain⟨e1,r1⟩:=a;simp only at e1 r1;subst e1;rw[U0]at e ⊢;cases hk:f==g1 with
  |true=>rw[hk]at e;cases e;exact⟨_,rfl,r1⟩
  |false=>rw[hk]at e;exact ih e
theorem Ze{gs:List (Str×V)}{fs:List (Str×U)}(r:FR A ι H gs fs)(e:fs.lookup f=none):gs.lookup f=none:=by
 induction r with
 |nil=>rfl
 | @cons g h gs fs a _ ih=>
  obtain⟨g1,g2⟩:=g;obtain⟨h1,h2⟩:=h;obtain⟨e1,r1⟩:=a;simp only at e1 r1;subst e1;rw[U0]at e ⊢;cases hk:f==g1 with
  |true=>rw[hk]at e;cases e
  |false=>rw[hk]at e;exact ih e
def Vg(f:Str)(v:U):List (Str×U)->List (Str×U)
 | []=>[(f,v)]
 | (g,x)::r=>if g=f then(g,v)::r else(g,x)::Vg f v r
theorem q0O{gs:List (Str×V)}{fs:List (Str×U)}(r:FR A ι H gs fs)(rv:RepU A ι H v u):FR A ι H (putF f v gs) (Vg f u fs):=by
 induction r with
 |nil=>exact .cons ⟨rfl,rv⟩ .nil
 | @cons g h gs fs a rr ih=>
  obtain⟨g1,g2⟩:=g;obtain⟨h1,h2⟩:=h;obtain⟨e1,r1⟩:=a;simp only at e1 r1;subst e1;unfold putF Vg;by_cases hk:g1=f
  ·rw[GL hk,GL hk];exact .cons ⟨rfl,rv⟩ rr
  ·rw[GH hk,GH hk];exact .cons ⟨rfl,r1⟩ ih
def FldS(K:PySem.W.Frag)(f:Str)(x:U)(M:MM)(Q:UK):Prop:=∃k C fs u,x=.m k/\M[k]?=some (.ins C fs)/\Cls K C/\NoAttr K C f/\fs.lookup f=some u/\Q u M
def uFld(K:PySem.W.Frag)(ua:UE)(f:Str):UE:=λρ M Q=>ua ρ M λx M1=>FldS K f x M1 Q
def X4(K:PySem.W.Frag)(f:Str)(x y:U)(M:MM)(R:MM->Prop):Prop:=∃k C fs,x=.m k/\M[k]?=some (.ins C fs)/\Cls K C/\NoAttr K C f/\fs.length<1000/\R (M.set k (.ins C (Vg f y fs)))
def ZL(K:PySem.W.Frag)(ua uv:UE)(f:Str):US:=λE ρ M=>uv ρ M λy M1=>ua ρ M1 λx M2=>X4 K f x y M2 λM3=>E.nx ρ M3
def Gw(C:Addr)(m:Str)(x:U)(M:MM)(R:Prop):Prop:=∃k fs,x=.m k/\M[k]?=some (.ins C fs)/\fs.lookup m=none/\R
def q58(C:Addr)(m:Str)(G:List U->MM->UK->Prop)(ua:UE)(ul:UA):UE:=λρ M Q=>ua ρ M λx M1=>Gw C m x M1 (ul ρ M1 λus M2=>G (x::us) M2 Q)
def q5Q(C:Addr)(G:List U->MM->UK->Prop)(ul:UA):UE:=λρ M Q=>ul ρ M λus M1=>G (.m M1.length::us) (M1++[.ins C []]) λv M2=>v=.p .non/\Q (.m M1.length) M2
def q2E(M:MM)(x y:U)(Q:UK):Prop:=∃xs k,x=.p (.lst xs)/\y=.p (.int k) /\ -(2^63)<=k/\k<2^63/\xs.length*k.toNat<=sizeLine/\Q (.m M.length) (M++[.lst ((List.replicate k.toNat xs).flatten.map U.p)])
def ZJ(ua ub:UE):UE:=λρ M Q=>ua ρ M λx M1=>ub ρ M1 λy M2=>q2E M2 x y Q
def flT:T->Bool
 |.int _=>true
 |.str _=>true
 |_=>false
def sEqW:T->T->(T->Prop)->Prop:=λa b Q=>sEq false a b Q\/q3B false a b Q\/(∃xs,flT a=true/\b=.tup xs/\Q (.bl false))\/∃xs,flT b=true/\a=.tup xs/\Q (.bl false)
theorem WP{A:Addr->Prop}{H:Hp}{v:V}{t:T}(h:flT t=true)(r:RepV A H v t):Qv v=true:=by
 cases t with
 |int i=>rw[r.int_inv];rfl
 |str i=>rw[r.str_inv];rfl
 |_=>cases h
theorem YK:OpL (λx y H Q=>rEq x y H Q\/rEqT K x y H Q\/q0Z K x y H Q\/q11 K x y H Q) sEqW:=λA ι H M x y a b Qs Q w r1 r2 h k=>by
 rcases h with h|h|⟨xs,hf,eb,q⟩|⟨xs,hf,ea,q⟩
 ·exact .inl (Ql A ι H M x y a b Qs Q w r1 r2 h k)
 ·exact .inr (.inl (q3J A ι H M x y a b Qs Q w r1 r2 h k))
 ·subst eb
  obtain⟨p,vs,rfl,h1,q1⟩:=r2.tup_inv;exact .inr (.inr (.inl ⟨p,vs,WP hf r1,rfl,SqT.of h1,k _ ι _ H (.refl _ _) w (.bl _) q⟩))
 ·subst ea
  obtain⟨p,vs,rfl,h1,q1⟩:=r1.tup_inv;exact .inr (.inr (.inr ⟨p,vs,WP hf r2,rfl,SqT.of h1,k _ ι _ H (.refl _ _) w (.bl _) q⟩))
def SubS(M:MM)(o i u:U)(R:MM->Prop):Prop:=∃k us z j,o=.m k/\M[k]?=some (.lst us)/\i=.p (.int z)/\ixN us.length z=some j/\R (M.set k (.lst (us.set j u)))
theorem q6b{Q:UEnv->MM->Prop}:uSub ua ub u ρ M Q=ua ρ M λo M1=>ub ρ M1 λi M2=>SubS M2 o i u λM3=>Q ρ M3:=rfl
theorem rep4{vs:List V}{a b c d:U}(r:RepUs A ι H vs [a,b,c,d]):∃x y z s,vs=[x,y,z,s]/\RepU A ι H x a/\RepU A ι H y b/\RepU A ι H z c/\RepU A ι H s d:=by
 cases r with
 |cons r q=>
  obtain⟨y,z,s,rfl,r2,r3,r4⟩:=rep3 q;exact⟨_,_,_,_,rfl,r,r2,r3,r4⟩
def KN(i j k l:Nat):UG:=λu ρ M Q=>∃a b c d,vB M u=some [a,b,c,d]/\Q ((((ρ.set i (some a)).set j (some b)).set k (some c)).set l (some d)) M
def T4S(M:MM)(u:U)(R:U->U->U->U->Prop):Prop:=∃a b c d,vB M u=some [a,b,c,d]/\R a b c d
theorem q1m{i j k l:Nat}{R:UEnv->MM->Prop}:KN i j k l u ρ M R=T4S M u λa b c d=>R ((((ρ.set i (some a)).set j (some b)).set k (some c)).set l (some d)) M:=rfl
theorem q7E{a b c d:T}{R:U->U->U->U->Prop}:T4S M (.p (.tup [a,b,c,d])) R=R (.p a) (.p b) (.p c) (.p d):=propext ⟨λzz=>by obtain⟨_,_,_,_,e,h⟩:=zz;cases e;exact h,λh=>⟨_,_,_,_,rfl,h⟩⟩
def P2S(us:List U)(R:U->U->Prop):Prop:=∃a b,us=[a,b]/\R a b
def P3S(us:List U)(R:U->U->U->Prop):Prop:=∃a b c,us=[a,b,c]/\R a b c
def uPar(i j:Nat)(ul:UA):US:=λE ρ M=>ul ρ M λus M1=>P2S us λa b=>E.nx ((ρ.set i (some a)).set j (some b)) M1
def q6G(i j k:Nat)(ul:UA):US:=λE ρ M=>ul ρ M λus M1=>P3S us λa b c=>E.nx (((ρ.set i (some a)).set j (some b)).set k (some c)) M1
theorem q4X{i j:Nat}{E:q01}:uPar i j ul E ρ M=ul ρ M λus M1=>P2S us λa b=>E.nx ((ρ.set i (some a)).set j (some b)) M1:=rfl
theorem q3X{i j k:Nat}{E:q01}:q6G i j k ul E ρ M=ul ρ M λus M1=>P3S us λa b c=>E.nx (((ρ.set i (some a)).set j (some b)).set k (some c)) M1:=rfl
theorem q7b{a b:U}{R:U->U->Prop}:P2S [a,b] R=R a b:=propext ⟨λzz=>by obtain⟨_,_,e,h⟩:=zz;cases e;exact h,λh=>⟨a,b,rfl,h⟩⟩
theorem q6Z{a b c:U}{R:U->U->U->Prop}:P3S [a,b,c] R=R a b c:=propext ⟨λzz=>by obtain⟨_,_,_,e,h⟩:=zz;cases e;exact h,λh=>⟨a,b,c,rfl,h⟩⟩
theorem q5A{Q:UK}:uFld K ua f ρ M Q=ua ρ M λx M1=>FldS K f x M1 Q:=rfl
theorem Yw{E:q01}:ZL K ua uv f E ρ M=uv ρ M λy M1=>ua ρ M1 λx M2=>X4 K f x y M2 λM3=>E.nx ρ M3:=rfl
theorem q3K{G:List U->MM->UK->Prop}{Q:UK}:q58 C m G ua ul ρ M Q=ua ρ M λx M1=>Gw C m x M1 (ul ρ M1 λus M2=>G (x::us) M2 Q):=rfl
theorem q4o{G:List U->MM->UK->Prop}{Q:UK}:q5Q C G ul ρ M Q=ul ρ M λus M1=>G (.m M1.length::us) (M1++[.ins C []]) λv M2=>v=.p .non/\Q (.m M1.length) M2:=rfl
theorem Yr{Q:UK}:ZJ ua ub ρ M Q=ua ρ M λx M1=>ub ρ M1 λy M2=>q2E M2 x y Q:=rfl
theorem xH{k:Nat}{fs:List (Str×U)}{u:U}{Q:UK}(c:Cls K C)(na:NoAttr K C f)(e:M[k]?=some (.ins C fs))(lk:fs.lookup f=some u)(q:Q u M):FldS K f (.m k) M Q:=⟨k,C,fs,u,rfl,e,c,na,lk,q⟩
theorem vO{k:Nat}{fs:List (Str×U)}{y:U}{R:MM->Prop}(c:Cls K C)(na:NoAttr K C f)(e:M[k]?=some (.ins C fs))(hz:fs.length<1000)(q:R (M.set k (.ins C (Vg f y fs)))):X4 K f (.m k) y M R:=⟨k,C,fs,rfl,e,c,na,hz,q⟩
theorem Xz{k:Nat}{fs:List (Str×U)}{R:Prop}(e:M[k]?=some (.ins C fs))(lk:fs.lookup m=none)(q:R):Gw C m (.m k) M R:=⟨k,fs,rfl,e,lk,q⟩
theorem Yp{xs:List T}{k:Int}{Q:UK}(k0 : -(2^63)<=k)(k1:k<2^63)(hz:xs.length*k.toNat<=sizeLine)(q:Q (.m M.length) (M++[.lst ((List.replicate k.toNat xs).flatten.map U.p)])):q2E M (.p (.lst xs)) (.p (.int k)) Q:=⟨xs,k,rfl,rfl,k0,k1,hz,q⟩
end
section
variable {P:Program}{w:World}{K:PySem.W.Frag}{mg:Str->Option Value}{base:Heap}
def gNo:List U->MM->UK->Prop:=λ_ _ _=>False
theorem FnOk.no{k:Nat}{f:Addr}{fd:FuncData}{ps:List Str}:FnOk P w K mg base CX0 k f fd ps (spU gNo):=
 ⟨λvs H Q E ⟨_,_,_,_,_,_,_,h,_⟩=>h.elim,λ_ _ _ _ _ _ _ _ _ _ _ _ _ ⟨_,_,_,_,_,_,_,h,_⟩=>h.elim⟩
end
structure ZE(a:TE)(b:UE):Prop where
 h:LE a b
structure ZT(a:TT)(b:UT):Prop where
 h:LT a b
structure ZA(n:Nat)(a:TA)(b:UA):Prop where
 h:LA n a b
structure ZO(a:TO)(b:UO):Prop where
 h:LO a b
structure ZI(a:TI)(b:UI):Prop where
 h:LI a b
structure ZG(a:TG)(b:UG):Prop where
 h:LG a b
structure ZX(bs:List Bool)(n:Nat)(a:TG)(b:UG):Prop where
 h:LGx bs n a b
structure ZS(a:TS)(b:US):Prop where
 h:LS a b
structure ZP(a:List (TE×TE))(b:List (UE×UE)):Prop where
 h:LPs a b
theorem q1Z:ZP [] []:=⟨.nil⟩
theorem jp{tk tv:TE}{uk uv:UE}{ts:List (TE×TE)}{us:List (UE×UE)}(a:ZE tk uk)(b:ZE tv uv)(c:ZP ts us):ZP ((tk,tv)::ts) ((uk,uv)::us):=⟨.cons a.h b.h c.h⟩
theorem Gj{cU:List (TE×TE)}{fK:List (UE×UE)}(h:ZP cU fK):ZE (q5Y cU) (KY fK):=⟨by
 intro A ι σ H ρ M Qu Q w e q k p hp;have w1:Wd A (ι++[p]) (upd H p (.dK [])) (M++[.dK []]):=w.push hp ⟨[],upd_same,.nil⟩;have l1:Le ι H (ι++[p]) (upd H p (.dK [])):=.push hp;refine q4h h.h A _ σ _ ρ _ _ _ w1 (e.le l1) q λus M2 af vs H2 l2 w2 r2 q2=>?_;obtain⟨hm,kvs,rfl,hl,q2⟩:=q2;have ep:af[M.length]?=some p:=by
  obtain⟨nn,rfl,_⟩:=l2.ext;rw[Uz (by rw[Uu,w.len];simp), <-w.len];exact qK
 obtain⟨gs0,h1,h2⟩:=w2.obj _ p _ ep hm;cases h2;obtain⟨gs,rfl,rk⟩:=Wp r2;have cE:=Uy ep;refine⟨h1,gs,rfl,by rw[rk.len];exact hl,k _ _ af _ _ ((l1.trans l2).trans (.put cE)) (w2.put (mo:=.dK (Zd [] kvs)) ep ⟨_,upd_same,?_⟩) (.m ep) q2⟩;exact Paired.mapP (Wh rk .nil) λ_ _ q=>⟨q.1,q.2.le (.put cE)⟩⟩
theorem qr(i:Nat):ZE (tVar i) (uVar i):=⟨λA ι σ H ρ M Qu Q w e ⟨u,h,q⟩ k=>by
 obtain⟨v,h1,h2⟩:=e.get h;exact⟨v,h1,k u M ι v H (.refl _ _) w h2 q⟩⟩
theorem ce_c{v:V}{t:T}(h:Sc v t):ZE (tC v) (uC t):=⟨λA ι σ H ρ M Qu Q w e q k=>k _ M ι v H (.refl _ _) w (.p h.rep) q⟩
theorem qJ  : ZA 0 tNil uNil:=⟨q6d ⟩
section
variable {ta:TE}{ua:UE}{tl:TA}{ul:UA}{n:Nat}
theorem ql(ha:ZE ta ua)(hl:ZA n tl ul):ZA (n+1) (vH ta tl) (q6g ua ul):=⟨λA ι σ H ρ M Qu Q w e q k=>
 ha.h A ι σ H ρ M _ _ w e q λx M1 a7 v H1 l1 w1 r1 q1=>hl.h A a7 σ H1 ρ M1 _ _ w1 (e.le l1) q1 λxs M2 af vs H2 l2 w2 hn r2 q2=>
  k (x::xs) M2 af (v::vs) H2 (l1.trans l2) w2 (by rw[UL,hn]) (.cons (r1.le l2) r2) q2⟩
end
section
variable {ta tb:TE}{ua ub:UE}
theorem ja{r:R2}{s:T->T->(T->Prop)->Prop}(h:OpL r s)(ha:ZE ta ua)(hb:ZE tb ub):ZE (tOp r ta tb) (uOp s ua ub):=⟨λA ι σ H ρ M Qu Q w e q k=>
 ha.h A ι σ H ρ M _ _ w e q λx M1 a7 v H1 l1 w1 r1 q1=>hb.h A a7 σ H1 ρ M1 _ _ w1 (e.le l1) q1 λy M2 af v2 H2 l2 w2 r2 ⟨a,b,e1,e2,q2⟩=>
  h A af H2 M2 v v2 a b _ Q w2 ((r1.le l2).sn w2 e1) (r2.sn w2 e2) q2 λt cW z H3 l3 w3 r3 q3=>k _ M2 cW z H3 ((l1.trans l2).trans l3) w3 (.p r3) q3⟩
end
section
variable {ta:TE}{ua:UE}
variable {H:Hp}
theorem q2J(ha:ZE ta ua):ZE (tOp (λx y H Q=>y=.non/\Q (.bl (!decide (x=.non))) H) ta (tC .non)) (uIsN true ua):=⟨λA ι σ H ρ M Qu Q w e q k=>
 ha.h A ι σ H ρ M _ _ w e q λx M1 a7 v H1 l1 w1 r1 q1=>⟨rfl,by rw[WA r1];exact k _ M1 a7 _ H1 l1 w1 (.p (.bl _)) q1⟩⟩
end
section
variable {ta:TE}{ua:UE}
theorem q65(ha:ZE ta ua):ZE (tUn (rU λi=>.int (-i)) ta) (uNeg ua):=⟨λA ι σ H ρ M Qu Q w e q k=>
 ha.h A ι σ H ρ M _ _ w e q λx M1 a7 v H1 l1 w1 r1 zz=>by
  obtain⟨i,ex,q1⟩:=zz;subst ex;cases r1 with
  |p r=>cases r;exact⟨i,rfl,k _ M1 a7 _ H1 l1 w1 (.p (.int _)) q1⟩⟩
end
section
variable {ta:TE}{ua:UE}
theorem ct_b(ha:ZE ta ua):ZT (tB ta) (uB ua):=⟨lt_b ha.h⟩
end
section
variable {ta:TE}{ua:UE}
theorem jo(ha:ZE ta ua):ZT (QM ta) (uB ua):=⟨lt_b ha.h⟩
end
section
variable {tt gm:TT}{ut gn:UT}
theorem JL(ha:ZT tt ut)(hb:ZT gm gn):ZT (tAnd tt gm) (uAnd ut gn):=⟨λA ι σ H ρ M Qu Q w e q k=>
 ha.h A ι σ H ρ M _ _ w e q λc M1 a7 H1 l1 w1 q1=>by
  cases c with
  |false=>exact k false M1 a7 H1 l1 w1 q1
  |true=>exact hb.h A a7 σ H1 ρ M1 _ _ w1 (e.le l1) q1 λb M2 af H2 l2 w2 q2=>k b M2 af H2 (l1.trans l2) w2 q2⟩
end
section
variable {tt gm:TT}{ut gn:UT}
theorem q7k(ha:ZT tt ut)(hb:ZT gm gn):ZT (tOr tt gm) (uOr ut gn):=⟨λA ι σ H ρ M Qu Q w e q k=>
 ha.h A ι σ H ρ M _ _ w e q λc M1 a7 H1 l1 w1 q1=>by
  cases c with
  |true=>exact k true M1 a7 H1 l1 w1 q1
  |false=>exact hb.h A a7 σ H1 ρ M1 _ _ w1 (e.le l1) q1 λb M2 af H2 l2 w2 q2=>k b M2 af H2 (l1.trans l2) w2 q2⟩
end
section
variable {tt:TT}{ut:UT}
theorem W6(ha:ZT tt ut):ZT (tNot tt) (uNot ut):=⟨λA ι σ H ρ M Qu Q w e q k=>
 ha.h A ι σ H ρ M _ _ w e q λc M1 a7 H1 l1 w1 q1=>k _ M1 a7 H1 l1 w1 q1⟩
end
section
variable {ta tb:TE}{ua ub:UE}
theorem X0(ha:ZE ta ua)(hb:ZE tb ub):ZE (VX ta tb) (q4E ua ub):=⟨λA ι σ H ρ M Qu Q w e q k=>
 ha.h A ι σ H ρ M _ _ w e q λx M1 a7 v H1 l1 w1 r1 zz=>by
  obtain⟨c,ex,q1⟩:=zz;subst ex;cases r1 with
  |p r=>
   cases r;refine⟨c,rfl,?_⟩;cases c with
   |false=>exact k _ M1 a7 _ H1 l1 w1 (.p (.bl _)) q1
   |true=>exact hb.h A a7 σ H1 ρ M1 _ _ w1 (e.le l1) q1 λb M2 af v2 H2 l2 w2 r2 q2=>k b M2 af v2 H2 (l1.trans l2) w2 r2 q2⟩
end
section
variable {ta tb:TE}{ua ub:UE}
theorem q51(ha:ZE ta ua)(hb:ZE tb ub):ZE (tOrV ta tb) (uOrV ua ub):=⟨λA ι σ H ρ M Qu Q w e q k=>
 ha.h A ι σ H ρ M _ _ w e q λx M1 a7 v H1 l1 w1 r1 zz=>by
  obtain⟨c,ex,q1⟩:=zz;subst ex;cases r1 with
  |p r=>
   cases r;refine⟨c,rfl,?_⟩;cases c with
   |true=>exact k _ M1 a7 _ H1 l1 w1 (.p (.bl _)) q1
   |false=>exact hb.h A a7 σ H1 ρ M1 _ _ w1 (e.le l1) q1 λb M2 af v2 H2 l2 w2 r2 q2=>k b M2 af v2 H2 (l1.trans l2) w2 r2 q2⟩
end
section
variable {ta tb:TE}{ua ub:UE}{tt:TT}{ut:UT}
theorem q45(hc:ZT tt ut)(ha:ZE ta ua)(hb:ZE tb ub):ZE (tIf tt ta tb) (uIf ut ua ub):=⟨λA ι σ H ρ M Qu Q w e q k=>
 hc.h A ι σ H ρ M _ _ w e q λc M1 a7 H1 l1 w1 q1=>by
  cases c with
  |true=>exact ha.h A a7 σ H1 ρ M1 _ _ w1 (e.le l1) q1 λb M2 af v2 H2 l2 w2 r2 q2=>k b M2 af v2 H2 (l1.trans l2) w2 r2 q2
  |false=>exact hb.h A a7 σ H1 ρ M1 _ _ w1 (e.le l1) q1 λb M2 af v2 H2 l2 w2 r2 q2=>k b M2 af v2 H2 (l1.trans l2) w2 r2 q2⟩
end
section
variable {tl:TA}{ul:UA}{n:Nat}
theorem jC(ha:ZA n tl ul)(hn:n<=1000:=by decide):ZE (tTup tl) (uTup ul):=⟨λA ι σ H ρ M Qu Q w e q k=>
 ha.h A ι σ H ρ M _ _ w e q λus M1 a7 vs H1 l1 w1 hl r1 zz=>by
  obtain⟨ts,et,q1⟩:=zz;have r2:=r1;rw[zh et]at r2;exact⟨by rw[r1.len,hl];exact U1 (qF hn),λp hp=>k _ M1 a7 _ _ (l1.trans (.fresh hp)) (w1.fresh hp) (.p (xX w1 hp r2.pures)) q1⟩⟩
end
section
variable {tl:TA}{ul:UA}{n:Nat}
theorem q2o(ha:ZA n tl ul)(hn:n<=1000:=by decide):ZE (tLst tl) (uLst ul):=⟨λA ι σ H ρ M Qu Q w e q k=>
 ha.h A ι σ H ρ M _ _ w e q λus M1 a7 vs H1 l1 w1 hl r1 zz=>by
  obtain⟨ts,et,q1⟩:=zz;have r2:=r1;rw[zh et]at r2;exact⟨by rw[r1.len,hl];exact U1 (qF hn),λp hp=>k _ M1 a7 _ _ (l1.trans (.fresh hp)) (w1.fresh hp) (.p (zm w1 hp r2.pures)) q1⟩⟩
end
section
variable {tl:TA}{ul:UA}{n:Nat}
theorem kU(ha:ZA n tl ul)(hn:n<=1000:=by decide):ZE (tLst tl) (uNew ul):=⟨λA ι σ H ρ M Qu Q w e q k=>
 ha.h A ι σ H ρ M _ _ w e q λus M1 a7 vs H1 l1 w1 hl r1 q1=>⟨by rw[r1.len,hl];exact U1 (qF hn),λp hp=>k _ _ _ _ _ (l1.trans (.push hp)) (xE w1 hp r1).1 (xE w1 hp r1).2 q1⟩⟩
end
section
variable {tl:TA}{ul:UA}{n:Nat}
theorem jr(ha:ZA n tl ul)(hn:n<=1000:=by decide):ZE (tTup tl) (q5w ul):=⟨λA ι σ H ρ M Qu Q w e q k=>
 ha.h A ι σ H ρ M _ _ w e q λus M1 a7 vs H1 l1 w1 hl r1 q1=>⟨by rw[r1.len,hl];exact U1 (qF hn),λp hp=>k _ _ _ _ _ (l1.trans (.push hp)) (We w1 hp r1).1 (We w1 hp r1).2 q1⟩⟩
end
section
variable {ta tb:TE}{ua ub:UE}
theorem vW{K:PySem.W.Frag}(ha:ZE ta ua)(hb:ZE tb ub):ZE (tOp (rIxL K) ta tb) (uIx qI ua ub):=⟨λA ι σ H ρ M Qu Q w e q k=>
 ha.h A ι σ H ρ M _ _ w e q λx M1 a7 v H1 l1 w1 r1 q1=>hb.h A a7 σ H1 ρ M1 _ _ w1 (e.le l1) q1 λy M2 af v2 H2 l2 w2 r2 zz=>by
  obtain⟨us,i,z,e1,e2,e3,q2⟩:=zz;subst e2;obtain⟨p,vs,rfl,h1,h2⟩:=zl w2 (r1.le l2) e1;obtain⟨x',h3,h4⟩:=Gr h2 e3;cases r2 with
  |p r=>cases r;exact⟨p,vs,i,x',rfl,rfl,SqL.of h1,h3,k z M2 af x' H2 (l1.trans l2) w2 h4 q2⟩⟩
end
section
variable {ta tb:TE}{ua ub:UE}
theorem jD{K:PySem.W.Frag}(ha:ZE ta ua)(hb:ZE tb ub):ZE (tOp (rIxT K) ta tb) (uIx vB ua ub):=⟨λA ι σ H ρ M Qu Q w e q k=>
 ha.h A ι σ H ρ M _ _ w e q λx M1 a7 v H1 l1 w1 r1 q1=>hb.h A a7 σ H1 ρ M1 _ _ w1 (e.le l1) q1 λy M2 af v2 H2 l2 w2 r2 zz=>by
  obtain⟨us,i,z,e1,e2,e3,q2⟩:=zz;subst e2;obtain⟨p,vs,rfl,h1,h2⟩:=zk w2 (r1.le l2) e1;obtain⟨x',h3,h4⟩:=Gr h2 e3;cases r2 with
  |p r=>cases r;exact⟨p,vs,i,x',rfl,rfl,SqT.of h1,h3,k z M2 af x' H2 (l1.trans l2) w2 h4 q2⟩⟩
end
section
variable {tl:TA}{ul:UA}{n:Nat}
theorem Gk{r:List V->Hp->VK->Prop}{s:List T->(T->Prop)->Prop}(h:CbL r s)(ha:ZA n tl ul):ZE (tCB r tl) (uCb s ul):=⟨λA ι σ H ρ M Qu Q w e q k=>
 ha.h A ι σ H ρ M _ _ w e q λus M1 a7 vs H1 l1 w1 hl r1 ⟨ts,e1,q1⟩=>h A a7 H1 M1 vs ts _ Q w1 (r1.sns w1 e1) q1 λt af z H2 l2 w2 r2 q2=>k _ M1 af z H2 (l1.trans l2) w2 (.p r2) q2⟩
end
section
variable {tl:TA}{ul:UA}{n:Nat}
theorem q1S(ha:ZA n tl ul):ZE (tCB q3e tl) (uLen qI ul):=⟨λA ι σ H ρ M Qu Q w e q k=>
 ha.h A ι σ H ρ M _ _ w e q λus M1 a7 vs H1 l1 w1 hl r1 zz=>by
  obtain⟨x,ys,e1,e2,q1⟩:=zz;subst e1;cases r1 with
  |cons r q=>
   cases q;obtain⟨p,zs,rfl,h1,h2⟩:=zl w1 r e2;exact⟨p,zs,rfl,h1,by rw[h2.len];exact k _ M1 a7 _ H1 l1 w1 (.p (.int _)) q1⟩⟩
end
theorem Gd  : ZO zH ZK:=⟨q46 ⟩
section
variable {ta:TE}{ua:UE}
theorem Gc(ha:ZE ta ua):ZO (VU ta) (q5K ua):=⟨λA ι σ H ρ M Qu Q w e q k=>
 ha.h A ι σ H ρ M _ _ w e q λx M1 a7 v H1 l1 w1 r1 zz=>by
  obtain⟨i,ex,q1⟩:=zz;subst ex;cases r1 with
  |p r=>cases r;exact⟨i,rfl,k _ M1 a7 H1 l1 w1 q1⟩⟩
end
section
variable {ta:TE}{ua:UE}
theorem q7q{K:PySem.W.Frag}{t1 t2:TO}{u1 u2:UO}(ha:ZE ta ua)(h1:ZO t1 u1)(h2:ZO t2 u2):ZE (tSl (rSlL K) ta t1 t2) (uSl ua u1 u2):=⟨λA ι σ H ρ M Qu Q w e q k=>
 ha.h A ι σ H ρ M _ _ w e q λx M1 a7 v H1 l1 w1 r1 q1=>h1.h A a7 σ H1 ρ M1 _ _ w1 (e.le l1) q1 λlo M2 af H2 l2 w2 q2=>h2.h A af σ H2 ρ M2 _ _ w2 (e.le (l1.trans l2)) q2 λhi M3 cW H3 l3 w3 zz=>by
  obtain⟨ts,es,q3⟩:=zz;obtain⟨p,vs,rfl,h4,h5⟩:=((r1.le (l2.trans l3)).sn w3 es).lst_inv;exact⟨p,vs,rfl,SqL.of h4,λr hr=>k _ M3 cW _ _ (((l1.trans l2).trans l3).trans (.fresh hr)) (w3.fresh hr) (.p (zm w3 hr (W5 h5))) q3⟩⟩
end
section
variable {ta:TE}{ua:UE}{K:PySem.W.Frag}
theorem XX(ha:ZE ta ua):ZI (Kw K ta) (q5n ua):=⟨λA ι σ H ρ M Qu R w e q k=>
 ha.h A ι σ H ρ M _ _ w e q λx M1 a7 v H1 l1 w1 r1 zz=>by
  obtain⟨us,eu,q1⟩:=zz;obtain⟨p,vs,rfl,h1,h2⟩:=zl w1 r1 eu;refine⟨p,rfl,⟨vs,SqL.of h1⟩,k _ M1 a7 _ H1 l1 w1 ?_ q1⟩;intro A' af H2 M2 i l w2 ok;obtain⟨p',ci,e2,h3,h4⟩:=zl w2 (r1.lea l) ok;cases e2;have hl:=h4.len;refine⟨λhi=>?_,λhi=>⟨ci,SqL.of h3,by rw[hl];exact Rc hi.symm⟩⟩;have hx:ci[i]?=some (ci[i]'(by rw[hl];exact hi)):=Ut _;refine⟨⟨ci,_,SqL.of h3,hx⟩,λx H' y=>?_⟩;obtain⟨rfl,y⟩:=y;have gk:=y ci (SqL.of h3);obtain⟨z,hz,rz⟩:=Paired.getL h4 gk;exact⟨z,hz,.refl _ _,w2,rz⟩⟩
end
section
variable {tl:TA}{ul:UA}{n:Nat}
theorem Gf(ha:ZA n tl ul):ZI (WC tl) (q4O ul):=⟨λA ι σ H ρ M Qu R w e q k=>
 ha.h A ι σ H ρ M _ _ w e q λxs M1 a7 vs1 H1 l1 w1 hn r0 zz=>by
  obtain⟨j,ex,j0,j1,q1⟩:=zz;subst ex;cases r0 with
  |cons r1 r0=>
  cases r0;cases r1 with
  |p r=>
  cases r;have:=q6F (A:=A) (ι:=a7) (H:=H1) (lo:=0) (n:=j.toNat);simp only[Int.zero_add]at this;exact⟨j,rfl,j0,j1,k _ M1 a7 _ H1 l1 w1 this q1⟩⟩
end
theorem ve(i:Nat):ZG (qT i) (KQ i):=⟨λA ι σ H ρ M v u Qu Q w e r q k=>k _ M ι _ H (.refl _ _) w (e.put i r) q⟩
section
variable {K:PySem.W.Frag}
theorem q0W(i j:Nat):ZG (gTup K 2 (vk (qT i) (vk (qT j) gNil))) (KP i j):=⟨λA ι σ H ρ M v u Qu Q w e r ⟨a,b,ei,q⟩ k=>by
 obtain⟨p,vs,rfl,h1,h2⟩:=zk w r ei;obtain⟨x,y,rfl,r1,r2⟩:=rep2 h2;exact JA h1 (k _ M ι _ H (.refl _ _) w ((e.put i r1).put j r2) q)⟩
end
section
variable {K:PySem.W.Frag}
theorem q07(i j l:Nat):ZG (gTup K 3 (vk (qT i) (vk (qT j) (vk (qT l) gNil)))) (KO i j l):=⟨λA ι σ H ρ M v u Qu Q w e r ⟨a,b,c,ei,q⟩ k=>by
 obtain⟨p,vs,rfl,h1,h2⟩:=zk w r ei;obtain⟨x,y,z,rfl,r1,r2,r3⟩:=rep3 h2;exact Jz h1 (k _ M ι _ H (.refl _ _) w (((e.put i r1).put j r2).put l r3) q)⟩
end
section
variable {ta tb:TE}{ua ub:UE}
theorem q2y(ha:ZE ta ua)(hb:ZE tb ub):ZG (gSub ta tb q2W) (uSub ua ub):=⟨λA ι σ H ρ M v u Qu Q w e r q k=>
 ha.h A ι σ H ρ M _ _ w e q λo M1 a7 v1 H1 l1 w1 r1 q1=>hb.h A a7 σ H1 ρ M1 _ _ w1 (e.le l1) q1 λi M2 af v2 H2 l2 w2 r2 zz=>by
  obtain⟨kk,us,z,j,eo,em,ei,ej,q2⟩:=zz;subst eo ei;cases r2 with
  |p r2=>
  cases r2;have eA:=r1.le l2;cases eA with
  |m ek=>
  obtain⟨vs,h1,h2⟩:=w2.obj kk _ _ ek em;have hm:=Uy ek;refine⟨_,vs,z,j,rfl,rfl,h1,by rw[h2.len];exact ej,k _ _ af _ _ ((l1.trans l2).trans (.put hm)) (w2.put (mo:=.lst (us.set j u)) ek ⟨_,upd_same,?_⟩) (e.le ((l1.trans l2).trans (.put hm))) q2⟩;exact RepUs.le (.put hm) (Paired.put (r.le (l1.trans l2)) j h2)⟩
end
section
variable {n:Nat}
theorem x9{bs:List Bool}(i:Nat)(h:Ja bs n i=true:=by rfl):ZX bs n (qT i) (KQ i):=⟨λA ι σ H ρ M v u Qu Q hl w e r q k=>
 k _ _ (e.put i r) ((ExtS.refl _).put (Wj hl h)) (by simp) q⟩
end
section
variable {M:MM}
theorem Zw  : ZT tYes (λ_ M Q=>Q true M):=⟨q5H ⟩
end
section
variable {te:TE}{ue:UE}{tt:TT}{ut:UT}{n:Nat}
theorem VG{wi:TI}{ui:UI}{bs:List Bool}{g:TG}{ug:UG}(hi:ZI wi ui)(hg:ZX bs n g ug)(ht:ZT tt ut)(he:ZE te ue):ZE (xu wi bs n g tt te) (q5S ui bs n ug ut ue):=⟨by
 intro A ι σ H ρ M Qu Q w e q k;refine hi.h A ι σ H ρ M _ _ w e q λit M1 a7 J H1 l1 w1 hJ q1 a9 aS=>?_;obtain⟨aw,hsz,Iv,I0,It,Id⟩:=q1;have lU:σ.length=bs.length:=by rw[<-aw];exact e.len
 have e1:=e.le l1;have na:¬Av A a7 a9:=w1.nA aS;have key:∀af H2,Le a7 H1 af H2->(∀x∈af,¬(A x\/x=a9))->Lea A a7 H1 (λx=>A x\/x=a9) af H2:=λaf H2 l h=>by
  refine⟨let⟨n,e,_⟩:=l.ext;⟨n,e⟩,λx o hx ex=>?_,l.xd⟩;obtain⟨a1,a2⟩:=l.av hx ex;refine⟨a1,λz=>?_⟩;rcases z with(z|z)|z
  ·exact a2 (.inl z)
  ·rw[z,aS]at ex;cases ex
  ·exact a2 (.inr z)
 refine⟨λi m H2=>m=it.n-i/\i<=it.n/\∃af M2 bK ys,Le a7 H1 af H2/\Wd (λx=>A x\/x=a9) af H2 M2/\H2 a9=some (.lst ys)/\RepTs (Av (λx=>A x\/x=a9) af) H2 ys bK/\bK.length<=i/\Iv i bK M2,
  ⟨it.n,by simp,Db _,a7,M1, [], [],.fresh aS,w1.addA aS,upd_same,.nil,Ux _,I0⟩,?_⟩
 rintro i m H2 ⟨rfl,eT,af,M2,bK,ys,l2,w2,fA,fL,fM,I2⟩;have lea:=key af H2 l2 w2.na;by_cases bS:i<it.n
 ·obtain⟨ok,step⟩:=It i bK M2 bS fM I2
  obtain⟨hG,jy⟩:=(hJ _ af H2 M2 i lea w2 ok).1 bS;refine .inr ⟨hG,λH'=>∃af M2 bK ys,Le a7 H1 af H'/\Wd (λx=>A x\/x=a9) af H' M2/\H' a9=some (.lst ys)/\RepTs (Av (λx=>A x\/x=a9) af) H' ys bK/\bK.length<=i+1/\Iv (i+1) bK M2,λH' h=>⟨it.n-(i+1),by lia,rfl,bS,h⟩,λx H3 y=>?_⟩;obtain⟨u,hu,l3,w3,r3⟩:=jy x H3 y;have fN:=l2.trans l3;have cY:∀{ai:List Addr}{H':Hp}{M':MM},Wd (λx=>A x\/x=a9) ai H' M'->a9∉ai:=λw z=>w.na a9 z (.inr rfl);have lV:H3 a9=some (.lst ys):=l3.fr _ _ fA (cY w2);have fO:EnvR (λx=>A x\/x=a9) af H3 (zg bs n σ) (Ks bs n ρ):=(e1.mask).lea (key af H3 fN w3.na);refine hg.h _ af σ H3 _ M2 x u _ _ lU w3 fO r3 (step u hu) λcc ca e4 x4 fP q4=>⟨⟨x4,fP⟩,?_⟩;refine ht.h _ af ca H3 cc M2 _ _ w3 e4 q4 λb M5 dM H5 l5 w5 q5=>?_;have hR:H5 a9=some (.lst ys):=l5.fr _ _ lV (cY w3);have dN:RepTs (Av (λx=>A x\/x=a9) dM) H5 ys bK:=Paired.mapP fL λ_ _ q=>(q.le l3).le l5;cases b with
  |false=>exact⟨dM,M5,bK,ys,fN.trans l5,w5,hR,dN,Nat.le_succ_of_le fM,q5⟩
  |true=>
   refine he.h _ dM ca H5 cc M5 _ _ w5 (e4.le l5) q5 λz M6 lW zv H6 l6 w6 r6 q6=>?_;obtain⟨t,rfl,q6⟩:=q6;have fQ:H6 a9=some (.lst ys):=l6.fr _ _ hR (cY w5);refine⟨ys,fQ,?_,lW,M6,bK++[t],ys++[zv],((fN.trans l5).trans l6).updF aS,(w6.updA (.inr rfl) fQ).2,upd_same,?_,by rw[Uu,U6];lia,q6⟩
   ·rw[fL.len];lia
   ·have hl:=(w6.updA (o:=.lst (ys++[zv])) (.inr rfl) fQ).1
    cases r6 with
    |p r6=>exact Paired.app (Paired.mapP dN λ_ _ q=>(q.le l6).mono hl.av) (.cons (r6.mono hl.av) .nil)
 ·have ei:i=it.n:=by lia
  subst ei;obtain⟨ok,fin⟩:=Id bK M2 I2;refine .inl ⟨(hJ _ af H2 M2 _ lea w2 ok).2 rfl,k _ M2 af _ H2 (l1.trans l2) (w2.lessA λx hx=>.inl hx) (.p (.lstP (λz=>?_) fA (Paired.mapP fL λ_ _ q=>q.mono λx o hx ex=>⟨ex,λz=>hx (z.elim (λz=>.inl (.inl z)) .inr)⟩))) fin⟩;rcases z with z|z
  ·exact na (.inl z)
  ·exact w2.na a9 z (.inr rfl)⟩
end
theorem vj  : ZS QN q3a:=⟨q3f ⟩
section
variable {ts gp:TS}{us cb:US}
theorem qy(ha:ZS ts us)(hb:ZS gp cb):ZS (tSeq ts gp) (uSeq us cb):=⟨λA ι σ H ρ M D E w e r q=>
 ha.h A ι σ H ρ M _ { E with nx:=cb E } w e ⟨λa7 cA H1 dB M1 l w1 e1 q1=>hb.h A a7 cA H1 dB M1 D E w1 e1 (r.le l) q1,r.rt,r.bk,r.ct⟩ q⟩
end
section
variable {ta:TE}{ua:UE}
theorem VF(ha:ZE ta ua):ZS (VW ta) (q5X ua):=⟨λA ι σ H ρ M D E w e r q=>
 ha.h A ι σ H ρ M _ _ w e q λx M1 a7 v H1 l1 w1 r1 q1=>r.nx a7 σ H1 ρ M1 l1 w1 (e.le l1) q1⟩
end
section
variable {ta:TE}{ua:UE}
theorem v7(ha:ZE ta ua):ZS (tRet ta) (uRet ua):=⟨λA ι σ H ρ M D E w e r q=>
 ha.h A ι σ H ρ M _ _ w e q λx M1 a7 v H1 l1 w1 r1 q1=>r.rt a7 v H1 x M1 l1 w1 r1 q1⟩
end
section
variable {tt:TT}{ut:UT}
variable {ts gp:TS}{us cb:US}
theorem zc(hc:ZT tt ut)(ha:ZS ts us)(hb:ZS gp cb):ZS (tIfS tt ts gp) (uIfS ut us cb):=⟨λA ι σ H ρ M D E w e r q=>
 hc.h A ι σ H ρ M _ _ w e q λc M1 a7 H1 l1 w1 q1=>by
  cases c with
  |true=>exact ha.h A a7 σ H1 ρ M1 D E w1 (e.le l1) (r.le l1) q1
  |false=>exact hb.h A a7 σ H1 ρ M1 D E w1 (e.le l1) (r.le l1) q1⟩
end
section
variable {ta:TE}{ua:UE}
theorem vQ{g:TG}{ug:UG}(ha:ZE ta ua)(hg:ZG g ug):ZS (tAsg ta g) (uAsg ua ug):=⟨λA ι σ H ρ M D E w e r q=>
 ha.h A ι σ H ρ M _ _ w e q λx M1 a7 v H1 l1 w1 r1 q1=>hg.h A a7 σ H1 ρ M1 v x _ _ w1 (e.le l1) r1 q1 λaI M2 af cK H2 l2 w2 e2 q2=>r.nx af cK H2 aI M2 (l1.trans l2) w2 e2 q2⟩
end
section
variable {ts:TS}{us:US}
theorem kS{wi:TI}{ui:UI}{g:TG}{ug:UG}(hi:ZI wi ui)(hg:ZG g ug)(hb:ZS ts us):ZS (tFor wi g ts) (uFor ui ug us):=⟨by
 intro A ι σ H ρ M D E w e r q;refine hi.h A ι σ H ρ M _ _ w e q λit M1 a7 J H1 l1 w1 hJ q1=>?_;obtain⟨Iv,I0,It,Id⟩:=q1;have r1:=r.le l1;refine⟨λi m cK H2=>m=it.n-i/\i<=it.n/\∃af aI M2,Le a7 H1 af H2/\Wd A af H2 M2/\EnvR A af H2 cK aI/\Iv i aI M2,⟨it.n,by simp,Db _,a7,ρ,M1,.refl _ _,w1,e.le l1,I0⟩,?_⟩;rintro i m cK H2 ⟨rfl,eT,af,aI,M2,l2,w2,e2,I2⟩;by_cases bS:i<it.n
 ·obtain⟨ok,step⟩:=It i aI M2 bS I2
  obtain⟨hG,jy⟩:=(hJ A af H2 M2 i l2.lea w2 ok).1 bS;refine .inr ⟨hG,λah H'=>∃af aI M2,Le a7 H1 af H'/\Wd A af H' M2/\EnvR A af H' ah aI/\Iv (i+1) aI M2,λah H' h=>⟨it.n-(i+1),by lia,rfl,bS,h⟩,λx H3 y=>?_⟩;obtain⟨u,hu,l3,w3,r3⟩:=jy x H3 y;refine hg.h A af cK H3 aI M2 x u _ _ w3 (e2.le l3) r3 (step u hu) λcc M4 lX ca H4 l4 w4 e4 q4=>?_;have iK:=(l2.trans l3).trans l4;exact hb.h A lX ca H4 cc M4 _ { E with nx:=Iv (i+1),ct:=Iv (i+1),bk:=E.nx } w4 e4 ⟨λdM pW H5 lY M5 l5 w5 e5 q5=>⟨dM,lY,M5,iK.trans l5,w5,e5,q5⟩,(r1.le iK).rt,(r1.le iK).nx,λdM pW H5 lY M5 l5 w5 e5 q5=>⟨dM,lY,M5,iK.trans l5,w5,e5,q5⟩⟩ q4
 ·have ei:i=it.n:=by lia
  subst ei;obtain⟨ok,fin⟩:=Id aI M2 I2;exact .inl ⟨(hJ A af H2 M2 _ l2.lea w2 ok).2 rfl,r1.nx af cK H2 aI M2 l2 w2 e2 fin⟩⟩
end
section
variable {ta:TE}{ua:UE}{tl:TA}{ul:UA}{n:Nat}
theorem q4M{r:V->List V->Hp->VK->Prop}{s:List U->List U->(U->List U->Prop)->Prop}(h:MeL r s)(ha:ZE ta ua)(hl:ZA n tl ul):ZE (tLM r ta tl) (uMe s ua ul):=⟨λA ι σ H ρ M Qu Q w e q k=>
 ha.h A ι σ H ρ M _ _ w e q λo M1 a7 v H1 l1 w1 r1 zz=>by
  obtain⟨kk,eo,⟨zs,hz⟩,q1⟩:=zz;subst eo;cases r1 with
  |m ek=>
  rename_i a;obtain⟨pX,h1,_⟩:=w1.obj kk a _ ek hz;refine⟨a,pX,rfl,h1,hl.h A a7 σ H1 ρ M1 _ _ w1 (e.le l1) q1 λws M2 af ys H2 l2 w2 hn r2 q2=>?_⟩;obtain⟨us,nK,q2⟩:=q2;have iL:af[kk]?=some a:=by
   obtain⟨nn,rfl,_⟩:=l2.ext;rw[Uz (Us.mp ek).1];exact ek
  obtain⟨pY,h3,h4⟩:=w2.obj kk a _ iL nK;have hm:=Uy iL;exact h A af H2 M2 kk a pY ys us ws _ Q w2 iL h3 nK h4 r2 q2 λz cb zv iJ rx rz qz=>k z _ af zv _ ((l1.trans l2).trans (.put hm)) (w2.put (mo:=.lst cb) iL ⟨iJ,upd_same,RepUs.le (.put hm) rx⟩) (rz.le (.put hm)) qz⟩
end
section
variable {tl:TA}{ul:UA}{n:Nat}
theorem vz{G:List U->MM->UK->Prop}{E:XK}(ha:ZA n tl ul):ZE (zC (spU G) [] E tl) (q5l G ul):=⟨λA ι σ H ρ M Qu Q w e q k=>
 ha.h A ι σ H ρ M _ _ w e q λus M1 a7 vs H1 l1 w1 hn r1 q1=>by
  rw[U2];exact⟨A,a7,M1,us,_,w1,r1,q1,λu M2 af v H2 l2 w2 r2 q2=>k u M2 af v H2 (l1.trans l2) w2 r2 q2⟩⟩
end
section
variable {tl:TA}{ul:UA}{n:Nat}
theorem q15{G:List T->(T->Prop)->Prop}{E:XK}(ha:ZA n tl ul):ZE (zC (spP G) [] E tl) (K1 G ul):=⟨λA ι σ H ρ M Qu Q w e q k=>
 ha.h A ι σ H ρ M _ _ w e q λus M1 a7 vs H1 l1 w1 hn r1 zz=>by
  obtain⟨ts,et,q1⟩:=zz;rw[U2];rw[zh et]at r1;exact⟨Av A a7,ts,_,w1.domAv,r1.pures,q1,λt v H2 s r2 q2=>k _ M1 a7 v H2 (l1.trans s.le) (w1.same s) (.p r2) q2⟩⟩
end
section
variable {ta tb:TE}{ua ub:UE}
theorem XZ(ha:ZE ta ua)(hb:ZE tb ub):ZE (q4G ta tb) (q4J ua ub):=⟨λA ι σ H ρ M Qu Q w e q k=>
 ha.h A ι σ H ρ M _ _ w e q λx M1 a7 v H1 l1 w1 r1 q1=>hb.h A a7 σ H1 ρ M1 _ _ w1 (e.le l1) q1 λy M2 af v2 H2 l2 w2 r2 zz=>by
  obtain⟨kk,kvs,key,z,ex,em,ey,ez,q2⟩:=zz;subst ex ey;have eA:=r1.le l2;cases eA with
  |m ek=>
  obtain⟨gs,h1,h2⟩:=w2.obj kk _ _ ek em;have hv:=q4q (k:=key) h2;rw[ez]at hv;obtain⟨x',hx,rx⟩:=hv;refine⟨_,x',rfl,?_,k z M2 af x' H2 (l1.trans l2) w2 rx q2⟩;have:=DGet.k (k:=key) h1;rw[hx]at this;rw[Wr r2];exact this⟩
end
theorem q5d{tt:TT}{ut:UT}{v1 v2:V}{t1 t2:T}(hc:ZT tt ut)(h1:Sc v1 t1)(h2:Sc v2 t2):ZE (tIf tt (tC v1) (tC v2)) (uIfC ut t1 t2):=⟨λA ι σ H ρ M Qu Q w e q k=>
 hc.h A ι σ H ρ M _ _ w e q λc M1 a7 H1 l1 w1 q1=>by
  cases c with
  |true=>exact k _ M1 a7 _ H1 l1 w1 (.p h1.rep) q1
  |false=>exact k _ M1 a7 _ H1 l1 w1 (.p h2.rep) q1⟩
section
variable {ta:TE}{ua:UE}{K:PySem.W.Frag}
theorem JT(c:TyC)(ha:ZE ta ua):ZE (tCB (rIsi K) (vH ta (vH (tC (.ty c.name)) tNil))) (uIsi c ua):=⟨λA ι σ H ρ M Qu Q w e q k=>
 ha.h A ι σ H ρ M _ _ w e q λx M1 a7 v1 H1 l1 w1 r1 zz=>by
  obtain⟨b,eb,q1⟩:=zz;obtain⟨t,h1,h2⟩:=Wz (K:=K) w1 r1 eb;exact⟨v1,c.name,t,b,rfl,h1,h2,k _ M1 a7 _ H1 l1 w1 (.p (.bl _)) q1⟩⟩
end
section
variable {ta:TE}{ua:UE}{K:PySem.W.Frag}{f:Str}
theorem Qz(ha:ZE ta ua):ZE (tFld K ta f) (uFld K ua f):=⟨λA ι σ H ρ M Qu Q w e q k=>
 ha.h A ι σ H ρ M _ _ w e q λx M1 a7 v1 H1 l1 w1 r1 zz=>by
  obtain⟨kk,C,fs,u,ex,em,c,na,lk,q1⟩:=zz;subst ex;cases r1 with
  |m ek=>
  obtain⟨dx,gs,h1,h2,h3,h4⟩:=w1.obj kk _ _ ek em;obtain⟨v,hv,rv⟩:=Js h4 lk;exact⟨_,C,dx,gs,v,rfl,h1,c,na,hv,k _ M1 a7 v H1 l1 w1 rv q1⟩⟩
end
section
variable {ta tv:TE}{ua uv:UE}{K:PySem.W.Frag}{f:Str}
theorem q26(ha:ZE ta ua)(hv:ZE tv uv):ZS (sFld K ta tv f) (ZL K ua uv f):=⟨λA ι σ H ρ M D E w e r q=>
 hv.h A ι σ H ρ M _ _ w e q λy M1 a7 vy H1 l1 w1 r1 q1=>ha.h A a7 σ H1 ρ M1 _ _ w1 (e.le l1) q1 λx M2 af vx H2 l2 w2 r2 zz=>by
  obtain⟨kk,C,fs,ex,em,c,na,hz,q2⟩:=zz;subst ex;cases r2 with
  |m ek=>
  rename_i a;obtain⟨dx,gs,h1,h2,h3,h4⟩:=w2.obj kk _ _ ek em;have cE:=Uy ek;have l4:=l1.trans l2;have cJ:dx≠a:=λz=>by rw[z,h1]at h2;cases h2
  refine⟨a,C,dx,gs,rfl,h1,c,na,by rw[h4.len];exact hz,r.nx af σ _ ρ _ (l4.trans (.put cE)) (w2.put (mo:=.ins C (Vg f y fs)) ek ⟨dx,_,upd_same,by rw[upd_ne cJ];exact h2,h3,Paired.mapP (q0O h4 (r1.le l2)) λ_ _ q=>⟨q.1,q.2.le (.put cE)⟩⟩) (e.le (l4.trans (.put cE))) q2⟩⟩
end
section
variable {ta:TE}{ua:UE}{tl:TA}{ul:UA}{n:Nat}{m:Str}{C:Addr}
theorem XY{G:List U->MM->UK->Prop}{E:XK}(ha:ZE ta ua)(hl:ZA n tl ul):ZE (ZM C m (spU G) [] E ta tl) (q58 C m G ua ul):=⟨λA ι σ H ρ M Qu Q w e q k=>
 ha.h A ι σ H ρ M _ _ w e q λx M1 a7 v1 H1 l1 w1 r1 zz=>by
  obtain⟨kk,fs,ex,em,lk,q1⟩:=zz;subst ex;have eA:=r1;cases eA with
  |m ek=>
  obtain⟨dx,gs,h1,h2,h3,h4⟩:=w1.obj kk _ _ ek em;refine⟨_,dx,gs,rfl,h1,Ze h4 lk,hl.h A a7 σ H1 ρ M1 _ _ w1 (e.le l1) q1 λus M2 af vs H2 l2 w2 hn r2 q2=>?_⟩;rw[U2];exact⟨A,af,M2,_,_,w2,.cons (r1.le l2) r2,q2,λu M3 cW v H3 l3 w3 r3 q3=>k u M3 cW v H3 ((l1.trans l2).trans l3) w3 r3 q3⟩⟩
end
section
variable {tl:TA}{ul:UA}{n:Nat}{C:Addr}
theorem kW{G:List U->MM->UK->Prop}{E:XK}(hl:ZA n tl ul):ZE (J0 C (spU G) [] E tl) (q5Q C G ul):=⟨λA ι σ H ρ M Qu Q w e q k=>
 hl.h A ι σ H ρ M _ _ w e q λus M1 a7 vs H1 l1 w1 hn r1 q1 x dx hx lZ cJ=>by
  have gk:upd H1 dx (.own x) x=none:=by rw[upd_ne (Ne.symm cJ)];exact hx
  have l2:Le a7 H1 a7 (upd H1 dx (.own x)):=.fresh lZ;have w2:=w1.fresh (o:=.own x) lZ;have l3:Le a7 (upd H1 dx (.own x)) (a7++[x]) (upd (upd H1 dx (.own x)) x (.ins C dx [])):=.push gk;have w3:Wd A (a7++[x]) (upd (upd H1 dx (.own x)) x (.ins C dx [])) (M1++[.ins C []]):=w2.push (mo:=.ins C []) gk ⟨dx, [],upd_same,by rw[upd_ne cJ,upd_same],λz=>by
   rcases UD.mp z with z|z
   ·exact w1.nin lZ z
   ·exact cJ (UJ.mp z),.nil⟩
  have rx:RepU A (a7++[x]) (upd (upd H1 dx (.own x)) x (.ins C dx [])) (.ref x) (.m M1.length):=.m (by rw[<-w1.len];exact qK);rw[U2];refine⟨A,a7++[x],_,_,_,w3,.cons rx (r1.le (l2.trans l3)),q1,λu M4 lX v4 H4 l4 w4 r4 q4=>?_⟩;obtain⟨eu,q4⟩:=q4;subst eu;cases r4 with
  |p r4=>
  cases r4;exact⟨rfl,k _ M4 lX _ H4 (l1.trans ((l2.trans l3).trans l4)) w4 (rx.le l4) q4⟩⟩
end
section
variable {ta tb:TE}{ua ub:UE}
theorem Zx(ha:ZE ta ua)(hb:ZE tb ub):ZE (tOp rRep ta tb) (ZJ ua ub):=⟨λA ι σ H ρ M Qu Q w e q k=>
 ha.h A ι σ H ρ M _ _ w e q λx M1 a7 v H1 l1 w1 r1 q1=>hb.h A a7 σ H1 ρ M1 _ _ w1 (e.le l1) q1 λy M2 af v2 H2 l2 w2 r2 zz=>by
  obtain⟨xs,kk,ex,ey,k0,k1,hz,q2⟩:=zz;subst ex ey;have eA:=r1.le l2;cases eA with
  |p r1=>
  cases r2 with
  |p r2=>
  cases r2;obtain⟨p,vs,rfl,na,h1,h2⟩:=r1.lst_inv;refine⟨p,kk,vs,rfl,rfl,h1,k0,k1,by rw[h2.len];exact hz,λl hl=>?_⟩;have:=xE w2 hl (RepTs.ups (Qk h2 kk.toNat));exact k _ _ _ _ _ ((l1.trans l2).trans (.push hl)) this.1 this.2 q2⟩
end
section
variable {K:PySem.W.Frag}
theorem q1l(i j l o:Nat):ZG (gTup K 4 (vk (qT i) (vk (qT j) (vk (qT l) (vk (qT o) gNil))))) (KN i j l o):=⟨λA ι σ H ρ M v u Qu Q w e r ⟨a,b,c,d,ei,q⟩ k=>by
 obtain⟨p,vs,rfl,h1,h2⟩:=zk w r ei;obtain⟨x,y,z,s,rfl,r1,r2,r3,r4⟩:=rep4 h2;exact⟨p,_,rfl,SqT.of h1,rfl,_,_,rfl,_,_,rfl,_,_,rfl,_,_,rfl,rfl,k _ M ι _ H (.refl _ _) w ((((e.put i r1).put j r2).put l r3).put o r4) q⟩⟩
end
section
variable {tl:TA}{ul:UA}{n:Nat}
theorem q2s{i j:Nat}(hl:ZA n tl ul):ZS (tPar i j tl) (uPar i j ul):=⟨λA ι σ H ρ M D E w e r q=>
 hl.h A ι σ H ρ M _ _ w e q λus M1 a7 vs H1 l1 w1 hn r1 zz=>by
  obtain⟨a,b,eu,q1⟩:=zz;subst eu;obtain⟨x,y,rfl,ra,rb⟩:=rep2 r1;exact⟨x,y,rfl,r.nx a7 _ H1 _ M1 l1 w1 (((e.le l1).put i ra).put j rb) q1⟩⟩
end
section
variable {tl:TA}{ul:UA}{n:Nat}
theorem W9{i j k:Nat}(hl:ZA n tl ul):ZS (q5z i j k tl) (q6G i j k ul):=⟨λA ι σ H ρ M D E w e r q=>
 hl.h A ι σ H ρ M _ _ w e q λus M1 a7 vs H1 l1 w1 hn r1 zz=>by
  obtain⟨a,b,c,eu,q1⟩:=zz;subst eu;obtain⟨x,y,z,rfl,ra,rb,rc⟩:=rep3 r1;exact⟨x,y,z,rfl,r.nx a7 _ H1 _ M1 l1 w1 ((((e.le l1).put i ra).put j rb).put k rc) q1⟩⟩
end
section
variable {P:Program}{w:World}{K:PySem.W.Frag}{mg:Str->Option Value}{base:Heap}
theorem Fun.okQ{x ac:Str}{st:Stmt}{f:Addr}{fd:FuncData}{N ps:List Str}{k:Nat}{sp:Sp}(F:Fun K x ac st f fd)(S:q00 N ps (qd st))(len:∀vs H Q E,sp vs H Q E->vs.length=ps.length)(aA:∀(ae:Value)(A:Around)(outer:List Env)(s:Shared)(H:Hp)(vs:List V)(Q:VK)(E:XK),Room k (A.deeper (envOfC ac (qd st) s.heap.objs.size f ae))->sp vs H Q E ->
   ∃t,QSs (cxOf CX0 P w K mg base N ac (qd st) f ae A outer s H E).nox (vi st) t/\t { nx:=λ_ H'=>Q .non H',rt:=Q } (start N vs) H):FnOk P w K mg base CX0 (k+1) f fd ps sp :=
 F.ok S len λae A outer s H vs Q E hr dw=>by
  obtain⟨t,h,q⟩:=aA ae A outer s H vs Q E hr dw;exact⟨t,h.h,q⟩
theorem Fun.zU{x ac:Str}{st:Stmt}{f:Addr}{fd:FuncData}{N ps:List Str}{k:Nat}{G:List U->MM->UK->Prop}(F:Fun K x ac st f fd)(S:q00 N ps (qd st))(len:∀us M Qu,G us M Qu->us.length=ps.length)(aA:∀(ae:Value)(A:Around)(outer:List Env)(s:Shared)(H:Hp)(E:XK),Room k (A.deeper (envOfC ac (qd st) s.heap.objs.size f ae)) ->
   ∃t,QSs (cxOf CX0 P w K mg base N ac (qd st) f ae A outer s H E).nox (vi st) t/\∃u,ZS t u/\∀us M Qu,G us M Qu->u { nx:=λ_ M'=>Qu (.p .non) M',rt:=Qu } (zI N us) M):FnOk P w K mg base CX0 (k+1) f fd ps (spU G):=
 F.okU S len λae A outer s H E hr=>by
  obtain⟨t,h,u,hu,q⟩:=aA ae A outer s H E hr;exact⟨t,h.h,u,hu.h,q⟩
theorem Fun.zV{x ac:Str}{st:Stmt}{f:Addr}{fd:FuncData}{N ps:List Str}{k:Nat}{G:List U->MM->UK->Prop}(F:Fun K x ac st f fd)(S:q00 N ps (qd st))(len:∀us M Qu,G us M Qu->us.length=ps.length)(aA:∀(ae:Value)(A:Around)(outer:List Env)(s:Shared)(H:Hp)(E:XK),Room k (A.deeper (envOfC ac (qd st) s.heap.objs.size f ae)) ->
   ∃t,QSs (cxOf CX0 P w K mg base N ac (qd st) f ae A outer s H E).nox (vi st) t/\∃u,ZS t u/\∀us M M1 Qu,M1=M->G us M Qu->u { nx:=λ_ M'=>zo M M'/\Qu (.p .non) (M'.take M.length),rt:=λz M'=>zo M M'/\∃t,frzB M.length 4 M' z=some t/\Qu (.p t) (M'.take M.length) } (zI N us) M1):FnOk P w K mg base CX0 (k+1) f fd ps (spU G):=
 F.okV S len λae A outer s H E hr=>by
  obtain⟨t,h,u,hu,q⟩:=aA ae A outer s H E hr;exact⟨t,h.h,u,hu.h,λus M Qu g=>q us M M Qu rfl g⟩
theorem Fun.zP{x ac:Str}{st:Stmt}{f:Addr}{fd:FuncData}{N ps:List Str}{k:Nat}{G:List T->(T->Prop)->Prop}(F:Fun K x ac st f fd)(S:q00 N ps (qd st))(len:∀ts Qt,G ts Qt->ts.length=ps.length)(aA:∀(ae:Value)(A:Around)(outer:List Env)(s:Shared)(H:Hp)(E:XK),Room k (A.deeper (envOfC ac (qd st) s.heap.objs.size f ae)) ->
   ∃t,QSs (cxOf CX0 P w K mg base N ac (qd st) f ae A outer s H E).nox (vi st) t/\∃u,ZS t u/\∀ts Qt,G ts Qt->u { nx:=λ_ _=>Qt .non,rt:=λz M'=>∃t,frzN 4 M' z=some t/\Qt t } (zI N (ts.map U.p)) []):FnOk P w K mg base CX0 (k+1) f fd ps (spP G):=
 F.okP S len λae A outer s H E hr=>by
  obtain⟨t,h,u,hu,q⟩:=aA ae A outer s H E hr;exact⟨t,h.h,u,hu.h,q⟩
end
abbrev UX:=Str->Option Int->MM->Prop
def pT:Option Int->T
 |none=>.non
 |some n=>.int n
theorem q6H{A:Addr->Prop}{H:Hp}:∀p:Option Int,RepT A H (pV p) (pT p)
 |none=>.non
 |some _=>.int _
theorem q2r{A:Addr->Prop}{H:Hp}{v:V}:∀{p:Option Int},RepT A H v (pT p)->v=pV p
 |none,r=>by cases r;rfl
 |some _,r=>by cases r;rfl
abbrev UXe:=UEnv->MM->UK->UX->Prop
def spX(mg:Str->Option Value)(G:List U->MM->UK->UX->Prop):Sp:=λvs H Q E=>∃A ι M us Qu Xu,Wd A ι H M/\RepUs A ι H vs us/\G us M Qu Xu /\
 (∀u M' ai v H',Le ι H ai H'->Wd A ai H' M'->RepU A ai H' v u->Qu u M'->Q v H')/\∀nm p C d M' ai H',mg nm=some C->PartIs d H' p->Le ι H ai H'->Wd A ai H' M'->Xu nm p M'->E C d H'
structure ZXe(mg:Str->Option Value)(tx:TX)(ux:UXe):Prop where
 h:∀(A:Addr->Prop)(ι:List Addr)(σ:St)(H:Hp)(ρ:UEnv)(M:MM)(Qu:UK)(Xu:UX)(Q:VK)(E:XK),Wd A ι H M->EnvR A ι H σ ρ->ux ρ M Qu Xu ->
  (∀u M' ai v H',Le ι H ai H'->Wd A ai H' M'->RepU A ai H' v u->Qu u M'->Q v H')->(∀nm p C d M' ai H',mg nm=some C->PartIs d H' p->Le ι H ai H'->Wd A ai H' M'->Xu nm p M'->E C d H')->tx σ H Q E
section
variable {mg:Str->Option Value}{tx:TX}{ux:UXe}{ta:TE}{ua:UE}{tl:TA}{ul:UA}{n:Nat}{tb:TS}{us ub:US}{C:Addr}{m:Str}
def zy(G:List U->MM->UK->UX->Prop)(ul:UA):UXe:=λρ M Q X=>ul ρ M λus M1=>G us M1 Q X
theorem VE{G:List U->MM->UK->UX->Prop}(ha:ZA n tl ul):ZXe mg (q25 (spX mg G) tl) (zy G ul):=⟨λA ι σ H ρ M Qu Xu Q E w e q k kx=>
 ha.h A ι σ H ρ M _ _ w e q λus M1 a7 vs H1 l1 w1 hn r1 q1=>
  ⟨A,a7,M1,us,_,_,w1,r1,q1,λu M2 af v H2 l2 w2 r2 q2=>k u M2 af v H2 (l1.trans l2) w2 r2 q2,λnm p C d M2 af H2 hm hp l2 w2 q2=>kx nm p C d M2 af H2 hm hp (l1.trans l2) w2 q2⟩⟩
def zw(C:Addr)(m:Str)(G:List U->MM->UK->UX->Prop)(ua:UE)(ul:UA):UXe:=λρ M Q X=>ua ρ M λx M1=>Gw C m x M1 (ul ρ M1 λus M2=>G (x::us) M2 Q X)
theorem XV{G:List U->MM->UK->UX->Prop}(ha:ZE ta ua)(hl:ZA n tl ul):ZXe mg (q20 C m (spX mg G) ta tl) (zw C m G ua ul):=⟨λA ι σ H ρ M Qu Xu Q E w e q k kx=>
 ha.h A ι σ H ρ M _ _ w e q λx M1 a7 v1 H1 l1 w1 r1 zz=>by
  obtain⟨kk,fs,ex,em,lk,q1⟩:=zz;subst ex;have eA:=r1;cases eA with
  |m ek=>
  obtain⟨dx,gs,h1,h2,h3,h4⟩:=w1.obj kk _ _ ek em;refine⟨_,dx,gs,rfl,h1,Ze h4 lk,hl.h A a7 σ H1 ρ M1 _ _ w1 (e.le l1) q1 λus M2 af vs H2 l2 w2 hn r2 q2=>?_⟩;exact⟨A,af,M2,_,_,_,w2,.cons (r1.le l2) r2,q2,λu M3 cW v H3 l3 w3 r3 q3=>k u M3 cW v H3 ((l1.trans l2).trans l3) w3 r3 q3,λnm p C d M3 cW H3 hm hp l3 w3 q3=>kx nm p C d M3 cW H3 hm hp ((l1.trans l2).trans l3) w3 q3⟩⟩
def tagU(nm:Str)(p:Option Int)(ρ:UEnv):UEnv:=some (.p (.str nm))::some (.p (pT p))::ρ
theorem je{A:Addr->Prop}{ι:List Addr}{H:Hp}{σ:St}{ρ:UEnv}{nm:Str}{p:Option Int}(e:EnvR A ι H σ ρ):EnvR A ι H (some (.str nm)::some (pV p)::σ) (tagU nm p ρ):=.cons (λu q=>by cases q;exact⟨_,rfl,.p (.str _)⟩) (.cons (λu q=>by cases q;exact⟨_,rfl,.p (q6H p)⟩) e)
def zx(ux:UXe):US:=λE ρ M=>ux ρ M (λ_ M1=>E.nx ρ M1) λnm p M1=>E.bk (tagU nm p ρ) M1
theorem q1y(h:ZXe mg tx ux):ZS (q23 tx mg) (zx ux):=⟨λA ι σ H ρ M D E w e r q=>
 h.h A ι σ H ρ M _ _ _ _ w e q (λx M1 a7 v H1 l1 w1 r1 q1=>r.nx a7 σ H1 ρ M1 l1 w1 (e.le l1) q1) λnm p C d M1 a7 H1 hm hp l1 w1 q1=>⟨nm,p,hm,hp,r.bk a7 _ H1 _ M1 l1 w1 (je (e.le l1)) q1⟩⟩
def jG(ux:UXe):US:=λE ρ M=>ux ρ M E.rt λnm p M1=>E.bk (tagU nm p ρ) M1
theorem W7(h:ZXe mg tx ux):ZS (q5G tx mg) (jG ux):=⟨λA ι σ H ρ M D E w e r q=>
 h.h A ι σ H ρ M _ _ _ _ w e q (λx M1 a7 v H1 l1 w1 r1 q1=>r.rt a7 v H1 x M1 l1 w1 r1 q1) λnm p C d M1 a7 H1 hm hp l1 w1 q1=>⟨nm,p,hm,hp,r.bk a7 _ H1 _ M1 l1 w1 (je (e.le l1)) q1⟩⟩
def jF(i:Nat)(ux:UXe):US:=λE ρ M=>ux ρ M (λx M1=>E.nx (ρ.set i (some x)) M1) λnm p M1=>E.bk (tagU nm p ρ) M1
theorem XW{i:Nat}(h:ZXe mg tx ux):ZS (q5C i tx mg) (jF i ux):=⟨λA ι σ H ρ M D E w e r q=>
 h.h A ι σ H ρ M _ _ _ _ w e q (λx M1 a7 v H1 l1 w1 r1 q1=>r.nx a7 _ H1 _ M1 l1 w1 ((e.le l1).put i r1) q1) λnm p C d M1 a7 H1 hm hp l1 w1 q1=>⟨nm,p,hm,hp,r.bk a7 _ H1 _ M1 l1 w1 (je (e.le l1)) q1⟩⟩
def zu(x:Str)(ul:UA):US:=λE ρ M=>ul ρ M λus M1=>us.length<=sizeLine/\E.bk (tagU x none ρ) M1
theorem q1E{x:Str}(h:ZA n tl ul):ZS (q2B x tl) (zu x ul):=⟨λA ι σ H ρ M D E w e r q=>
 h.h A ι σ H ρ M _ _ w e q λus M1 a7 vs H1 l1 w1 hn r1 ⟨hl,q1⟩=>⟨by rw[r1.len];exact hl,r.bk a7 _ H1 _ M1 l1 w1 (je (p:=none) (e.le l1)) q1⟩⟩
def vX(x:Str)(ul:UA):US:=λE ρ M=>ul ρ M λus M1=>∃k,us=[.p (.int k)]/\j5 k/\E.bk (tagU x (some k) ρ) M1
theorem W8{x:Str}(h:ZA n tl ul):ZS (K5 x tl) (vX x ul):=⟨λA ι σ H ρ M D E w e r q=>
 h.h A ι σ H ρ M _ _ w e q λus M1 a7 vs H1 l1 w1 hn r1 zz=>by
  obtain⟨k,eu,sk,q1⟩:=zz;subst eu;cases r1 with
  |cons a b=>
  cases b;cases a with
  |p a=>
  cases a;exact⟨k,rfl,sk,λd hd=>r.bk a7 _ _ _ M1 (l1.trans (Le.fresh hd)) (w1.fresh hd) (je (p:=some k) ((e.le l1).le (Le.fresh hd))) q1⟩⟩
def uTry(n:Nat)(ub:US)(l:List (Str×(Option Int->US))):US:=λE ρ M=>ub { E with bk:=λτ M'=>∃nm p aR u,τ=tagU nm p aR/\aR.length=n/\l.lookup nm=some u/\u p E aR M' } ρ M
structure ZHs(l:List (Str×(Option Int->TS)))(l':List (Str×(Option Int->US))):Prop where
 h:∀nm u,l'.lookup nm=some u->∃t,l.lookup nm=some t/\∀p,LS (t p) (u p)
theorem q1N:ZHs [] []:=⟨λnm u e=>by simp at e⟩
theorem QD{x:Str}{t:Option Int->TS}{u:Option Int->US}{l:List (Str×(Option Int->TS))}{l':List (Str×(Option Int->US))}(h:∀p,ZS (t p) (u p))(hr:ZHs l l'):ZHs ((x,t)::l) ((x,u)::l'):=⟨λnm v e=>by
 rw[U0]at e ⊢;cases hx:(nm==x) with
 |true=>rw[hx]at e;cases e;exact⟨t,rfl,λp=>(h p).h⟩
 |false=>rw[hx]at e;exact hr.h nm v e⟩
theorem q2x{l:List (Str×(Option Int->TS))}{l':List (Str×(Option Int->US))}(hb:ZS tb ub)(hl:ZHs l l'):ZS (tTry n tb l) (uTry n ub l'):=⟨λA ι σ H ρ M D E w e r q=>
 hb.h A ι σ H ρ M _ { E with bk:=λτ M'=>∃nm p aR u,τ=tagU nm p aR/\aR.length=n/\l'.lookup nm=some u/\u p E aR M' } w e ⟨r.nx,r.rt,λa7 cA H1 dB M1 l1 w1 e1 q1=>by
  obtain⟨nm,p,aR,u,rfl,hn,hu,q1⟩:=q1;obtain⟨t,ht,lk⟩:=hl.h nm u hu;cases e1 with
  |cons a b=>
  cases b with
  |cons a2 b=>
  obtain⟨v,rfl,rv⟩:=a _ rfl;obtain⟨v2,rfl,fR⟩:=a2 _ rfl;cases rv with
  |p rv=>
  cases rv;cases fR with
  |p fR=>
  cases q2r fR;exact⟨nm,p,_,t,rfl,by rw[b.length];exact hn,ht,lk p A a7 _ H1 aR M1 D E w1 b (r.le l1) q1⟩,r.ct⟩ q⟩
def uAs(i j k:Nat)(c:Str)(q:Option Int):US:=λE ρ M=>∃n,q=some n/\n<1000000/\E.nx (((ρ.set j (some (.p (.str c)))).set k (some (.p (.int n)))).set i none) M
theorem q7v{i j k:Nat}{c:Str}{q:Option Int}:ZS (tAs i j k c q) (uAs i j k c q):=⟨λA ι σ H ρ M D E w e r h=>by
 obtain⟨m,hq,pZ,h⟩:=h;refine⟨m,hq,pZ,r.nx ι _ H _ M (Le.refl _ _) w ?_ h⟩;exact Paired.put (λw z=>by cases z) i (EnvR.put (EnvR.put e j (.p (.str c))) k (.p (.int m)))⟩
end
section
variable {P:Program}{w:World}{K:PySem.W.Frag}{mg:Str->Option Value}{base:Heap}
def endX(n:Nat)(Qu:UK)(Xu:UX):q01:={ nx:=λ_ M'=>Qu (.p .non) M',rt:=Qu,bk:=λτ M'=>∃nm p ρ,τ=tagU nm p ρ/\ρ.length=n/\Xu nm p M' }
theorem Fun.zX{x ac:Str}{st:Stmt}{f:Addr}{fd:FuncData}{N ps:List Str}{k:Nat}{G:List U->MM->UK->UX->Prop}(F:Fun K x ac st f fd)(S:q00 N ps (qd st))(len:∀us M Qu Xu,G us M Qu Xu->us.length=ps.length)(aA:∀(ae:Value)(A:Around)(outer:List Env)(s:Shared)(H:Hp)(E:XK),Room k (A.deeper (envOfC ac (qd st) s.heap.objs.size f ae)) ->
   ∃t,QXs True (cxOf (CXe P w) P w K mg base N ac (qd st) f ae A outer s H E) (vi st) t/\∃u,ZS t u/\∀us M Qu Xu,G us M Qu Xu->u (endX N.length Qu Xu) (zI N us) M):FnOk P w K mg base (CXe P w) (k+1) f fd ps (spX mg G):=by
 refine F.okX S (λvs H Q E h=>?_) (λae A outer s H vs Q E hr h=>?_)
 ·obtain⟨A,ι,M,us,Qu,Xu,w1,r,g,_⟩:=h
  rw[r.len];exact len us M Qu Xu g
 ·obtain⟨B,ι,M,us,Qu,Xu,w1,r,g,kk,kx⟩:=h
  obtain⟨t,ht,u,hu,hb⟩:=aA ae A outer s H E hr;refine⟨t,ht,hu.h B ι _ H _ M _ (endX N.length Qu Xu) w1 (xN r) ⟨λa7 cA H1 dB M1 l1 w1 e1 q1=>kk _ M1 a7 _ H1 l1 w1 (.p .non) q1,λa7 v H1 z M1 l1 w1 r1 q1=>kk z M1 a7 v H1 l1 w1 r1 q1,λa7 cA H1 dB M1 l1 w1 e1 q1=>?_,λ_ _ _ _ _ _ _ _ q=>q.elim⟩ (hb us M Qu Xu g)⟩;obtain⟨nm,p,ρ,rfl,hn,q1⟩:=q1;cases e1 with
  |cons a b=>
  cases b with
  |cons a2 b=>
  obtain⟨v,rfl,rv⟩:=a _ rfl;obtain⟨v2,rfl,fR⟩:=a2 _ rfl;cases rv with
  |p rv=>
  cases rv;cases fR with
  |p fR=>
  cases q2r fR;exact⟨nm,p,_,rfl,by rw[b.length];exact hn,λC d hm hp=>kx nm p C d M1 a7 H1 hm hp l1 w1 q1⟩
end
theorem q2q{X:Cx}{hs:List ExceptHandler}:∀nm t C,([]:List (Str×(Option Int->TS))).lookup nm=some t->X.mg nm=some C->∀p,QH X hs C p (t p):=λnm t C e _=>by simp at e
theorem Vs{X:Cx}{hs:List ExceptHandler}{x:Str}{C:Value}{t:Option Int->TS}{l:List (Str×(Option Int->TS))}(hb:X.mg x=some C)(h:∀p,QH X hs C p (t p))(hr:∀nm t C,l.lookup nm=some t->X.mg nm=some C->∀p,QH X hs C p (t p)):
  ∀nm t' C',((x,t)::l).lookup nm=some t'->X.mg nm=some C'->∀p,QH X hs C' p (t' p):=λnm t' C' e hm=>by
 rw[U0]at e;cases hx:(nm==x) with
 |true=>
  rw[hx]at e;cases e;rw[eq_of_beq hx,hb]at hm;cases hm;exact h
 |false=>rw[hx]at e;exact hr nm t' C' e hm
theorem Paired.app{α β:Type}{F:α->β->Prop}:∀{a c:List α}{b d:List β},Paired F a b->Paired F c d->Paired F (a++c) (b++d)
 |_,_,_,_,.nil,h=>h
 |_,_,_,_,.cons x y,h=>.cons x (Paired.app y h)
end L2
namespace PySem
open Sem (wp)
open Builtin
section
variable {prog:Program}{w:World}{A:Around}{E:Value->Shared->Prop}{h:Heap}{g:Array GenState}{d:Drawn}{t:Nat}{os:OsState}{C x dx:Addr}
theorem xM{b:Value}{Q:Option Value->Shared->Prop}(X:h.CmpInst x C [.type "object"])(hs:isSame (.ref x) b=pure false)(hq:Q none ⟨h,g,d,t,os⟩):wpAny (model prog w) A (tryCompare (.ref x) "__eq__" b) Q E ⟨h,g,d,t,os⟩:=by
 obtain⟨o,nm,q,N,bs,hdct,sn,sub,ab,col,dd,k0,k1,k2,k3,k5,bd,mN,hx,hc,hC,hn,he,_⟩:=id X;have FB:=F.cmp_object;simp only[tryCompare];refine GD (wpAny_callSpecialIfBound?_inst hx hc hC hn he FB.mro FB.eq (GZ (GO FB.eq.plain F.cmpEntry_eq
  (wpAny_check_slot_inst F.cmpKind_eq F.cmpSplit_eq (F.cmpArgs_eq _ _) FB.hasObject hx hc hC ?_))))
 unfold Builtin.«object.__eq__»
 repeat (first|rw[hs]|wp_step)
 exact hq
theorem VT{n:Int}{u:Tok}{Q:Option Value->Shared->Prop}(X:h.CmpInst x C [.type "object"])(ho:h.get? x=some (W.instObj C dx))(hq:Q none ⟨h,g,d,t,os⟩):wpAny (model prog w) A (tryCompare (.int n u) "__eq__" (.ref x)) Q E ⟨h,g,d,t,os⟩:=by
 obtain⟨o,nm,q,N,bs,hdct,sn,sub,ab,col,dd,k0,k1,k2,k3,k5,bd,mN,hx,hc,hC,hn,he,_⟩:=id X;cases Option.some.inj (hx.symm.trans ho);have FS:Slot "int" "__eq__" "int.__eq__" := F.slot_int_eq;have dO:(Value.ref C::[Value.type "object"]).contains (.type "int")=false:=by simp
 refine G0 (T := "int") rfl FS (GZ (GO FS.plain F.entry_int_eq (FS.check _ _ _ _ _ _ _ _ rfl (F.args_int_eq_2 _ _) ?_)));unfold Builtin.«int.__eq__»
 repeat (first|(with_reducible refine GG hx ?_;rw[hc])|(with_reducible refine GN hC ?_;rw[dO])|wp_step)
 exact⟨rfl,hq⟩
theorem XR{n:Int}{u:Tok}{Q:Value->Shared->Prop}(X:h.CmpInst x C [.type "object"])(ho:h.get? x=some (W.instObj C dx))(hu:A.units<cLine)(hq:Q (.bool false) ⟨h,g,d,t,os⟩):wpAny (model prog w) A (compareOp .Eq (.ref x) (.int n u)) Q E ⟨h,g,d,t,os⟩:=by
 obtain⟨o,nm,q,N,bs,hdct,sn,sub,ab,col,dd,k0,k1,k2,k3,k5,bd,mN,hx,hc,hC,hn,he,_⟩:=id X;have hs:isSame (.ref x) (.int n u)=pure false:=by rfl
 have dP:isSubtype (.type "int") (.ref C)=pure false:=by rw[Uo];rfl
 show wpAny _ _ (richCompare .Eq _ _) _ _ _;simp only[richCompare,Ug]
 repeat (first|with_reducible refine G1 hu ?_|(with_reducible refine GG hx ?_;rw[hc])|rw[dP]|with_reducible refine xM X hs ?_|with_reducible refine VT X ho ?_|rw[hs]|wp_step)
 exact hq
theorem XN{n:Int}{u:Tok}{Q:Value->Shared->Prop}(X:h.CmpInst x C [.type "object"])(ho:h.get? x=some (W.instObj C dx))(hu:A.units<cLine)(hq:Q (.bool false) ⟨h,g,d,t,os⟩):wpAny (model prog w) A (compareOp .Eq (.int n u) (.ref x)) Q E ⟨h,g,d,t,os⟩:=by
 obtain⟨o,nm,q,N,bs,hdct,sn,sub,ab,col,dd,k0,k1,k2,k3,k5,bd,mN,hx,hc,hC,hn,he,_⟩:=id X;have hs:isSame (.int n u) (.ref x)=pure false:=by rfl
 have eO:isSame (.ref x) (.int n u)=pure false:=by rfl
 have dO:(Value.ref C::[Value.type "object"]).contains (.type "int")=false:=by simp
 show wpAny _ _ (richCompare .Eq _ _) _ _ _;simp only[richCompare,Ug]
 repeat (first|with_reducible refine G1 hu ?_|(with_reducible refine GG hx ?_;rw[hc])|(with_reducible refine GN hC ?_;rw[dO])|with_reducible refine xM X eO ?_|with_reducible refine VT X ho ?_|rw[hs]|wp_step)
 exact hq
theorem VS{n:Str}{u:Tok}{Q:Option Value->Shared->Prop}(X:h.CmpInst x C [.type "object"])(ho:h.get? x=some (W.instObj C dx))(hq:Q none ⟨h,g,d,t,os⟩):wpAny (model prog w) A (tryCompare (.str n u) "__eq__" (.ref x)) Q E ⟨h,g,d,t,os⟩:=by
 obtain⟨o,nm,q,N,bs,hdct,sn,sub,ab,col,dd,k0,k1,k2,k3,k5,bd,mN,hx,hc,hC,hn,he,_⟩:=id X;cases Option.some.inj (hx.symm.trans ho);have FS:Slot "str" "__eq__" "str.__eq__" := F.slot_str_eq;have dO:(Value.ref C::[Value.type "object"]).contains (.type "str")=false:=by simp
 refine G0 (T := "str") rfl FS (GZ (GO FS.plain F.entry_str_eq (FS.check _ _ _ _ _ _ _ _ rfl (F.args_str_eq_2 _ _) ?_)));unfold Builtin.«str.__eq__»
 repeat (first|(with_reducible refine GG hx ?_;rw[hc])|(with_reducible refine GN hC ?_;rw[dO])|wp_step)
 exact⟨rfl,hq⟩
theorem XQ{n:Str}{u:Tok}{Q:Value->Shared->Prop}(X:h.CmpInst x C [.type "object"])(ho:h.get? x=some (W.instObj C dx))(hu:A.units<cLine)(hq:Q (.bool false) ⟨h,g,d,t,os⟩):wpAny (model prog w) A (compareOp .Eq (.ref x) (.str n u)) Q E ⟨h,g,d,t,os⟩:=by
 obtain⟨o,nm,q,N,bs,hdct,sn,sub,ab,col,dd,k0,k1,k2,k3,k5,bd,mN,hx,hc,hC,hn,he,_⟩:=id X;have hs:isSame (.ref x) (.str n u)=pure false:=by rfl
 have dP:isSubtype (.type "str") (.ref C)=pure false:=by rw[Uo];rfl
 show wpAny _ _ (richCompare .Eq _ _) _ _ _;simp only[richCompare,Ug]
 repeat (first|with_reducible refine G1 hu ?_|(with_reducible refine GG hx ?_;rw[hc])|rw[dP]|with_reducible refine xM X hs ?_|with_reducible refine VS X ho ?_|rw[hs]|wp_step)
 exact hq
theorem XM{n:Str}{u:Tok}{Q:Value->Shared->Prop}(X:h.CmpInst x C [.type "object"])(ho:h.get? x=some (W.instObj C dx))(hu:A.units<cLine)(hq:Q (.bool false) ⟨h,g,d,t,os⟩):wpAny (model prog w) A (compareOp .Eq (.str n u) (.ref x)) Q E ⟨h,g,d,t,os⟩:=by
 obtain⟨o,nm,q,N,bs,hdct,sn,sub,ab,col,dd,k0,k1,k2,k3,k5,bd,mN,hx,hc,hC,hn,he,_⟩:=id X;have hs:isSame (.str n u) (.ref x)=pure false:=by rfl
 have eO:isSame (.ref x) (.str n u)=pure false:=by rfl
 have dO:(Value.ref C::[Value.type "object"]).contains (.type "str")=false:=by simp
 show wpAny _ _ (richCompare .Eq _ _) _ _ _;simp only[richCompare,Ug]
 repeat (first|with_reducible refine G1 hu ?_|(with_reducible refine GG hx ?_;rw[hc])|(with_reducible refine GN hC ?_;rw[dO])|with_reducible refine xM X eO ?_|with_reducible refine VS X ho ?_|rw[hs]|wp_step)
 exact hq
theorem Qh{y:Addr}{oy:Obj}{Q:Option Value->Shared->Prop}(X:h.CmpInst x C [.type "object"])(eW:x≠y)(hy:h.get? y=some oy)(hq:Q none ⟨h,g,d,t,os⟩):wpAny (model prog w) A (tryCompare (.ref x) "__eq__" (.ref y)) Q E ⟨h,g,d,t,os⟩:=tryCompare_eq_other F.cmp_object X hy eW hq
theorem VR{y:Addr}{its:Array Value}{Q:Option Value->Shared->Prop}(X:h.CmpInst x C [.type "object"])(ho:h.get? x=some (W.instObj C dx))(Y:PyProof.Rows.IsTup h y its)(hq:Q none ⟨h,g,d,t,os⟩):wpAny (model prog w) A (tryCompare (.ref y) "__eq__" (.ref x)) Q E ⟨h,g,d,t,os⟩:=by
 obtain⟨o,nm,q,N,bs,hdct,sn,sub,ab,col,dd,k0,k1,k2,k3,k5,bd,mN,hx,hc,hC,hn,he,_⟩:=id X;cases Option.some.inj (hx.symm.trans ho);obtain⟨oy,hy,e8,ny,hV⟩:=Y;have FS:Slot "tuple" "__eq__" "tuple.__eq__" := F.slot_tuple_eq;have dO:(Value.ref C::[Value.type "object"]).contains (.type "tuple")=false:=by simp
 have hT:(⟨h,g,d,t,os⟩:Shared).TypeIs (.ref y) "tuple" := ⟨_,hy,e8⟩;refine G0 (T := "tuple") hT FS (GZ (GO FS.plain F.entry_tuple_eq (FS.check _ _ _ _ _ _ _ _ hT (F.args_tuple_eq_2 _ _) ?_)));unfold Builtin.«tuple.__eq__»
 repeat (first|(with_reducible refine GG hx ?_;rw[hc])|(with_reducible refine GG hy ?_;rw[e8,hV])|(with_reducible refine GG hy ?_;rw[hV])  | (with_reducible refine GG hy ?_;rw[e8])|(with_reducible refine GN hC ?_;rw[dO])|wp_step)
 exact⟨rfl,hq⟩
theorem XO{y:Addr}{its:Array Value}{Q:Value->Shared->Prop}(X:h.CmpInst x C [.type "object"])(ho:h.get? x=some (W.instObj C dx))(Y:PyProof.Rows.IsTup h y its)(hu:A.units<cLine)(hq:Q (.bool false) ⟨h,g,d,t,os⟩):wpAny (model prog w) A (compareOp .Eq (.ref x) (.ref y)) Q E ⟨h,g,d,t,os⟩:=by
 obtain⟨o,nm,q,N,bs,hdct,sn,sub,ab,col,dd,k0,k1,k2,k3,k5,bd,mN,hx,hc,hC,hn,he,_⟩:=id X;cases Option.some.inj (hx.symm.trans ho);obtain⟨oy,hy,e8,ny,hV⟩:=id Y;have eW:x≠y:=λz=>by subst z;rw[ho]at hy;cases hy;cases e8
 have m3:(W.instObj C dx).cls ≠ .type "tuple" := by intro z;cases z
 have dP:isSubtype (.type "tuple") (.ref C)=pure false:=by rw[Uo];rfl
 show wpAny _ _ (richCompare .Eq _ _) _ _ _;simp only[richCompare,Ug,oneThing_ref]
 repeat (first|with_reducible refine G1 hu ?_|(with_reducible refine GG hx ?_;rw[hc])|(with_reducible refine GG hy ?_;rw[e8])|rw[dP]|with_reducible refine Qh X eW hy ?_|with_reducible refine VR X ho Y ?_|with_reducible refine wpAny_isSame_ref_other eW hx hy m3 ?_|wp_step)
 exact hq
theorem XJ{y:Addr}{its:Array Value}{Q:Value->Shared->Prop}(X:h.CmpInst x C [.type "object"])(ho:h.get? x=some (W.instObj C dx))(Y:PyProof.Rows.IsTup h y its)(hu:A.units<cLine)(hq:Q (.bool false) ⟨h,g,d,t,os⟩):wpAny (model prog w) A (compareOp .Eq (.ref y) (.ref x)) Q E ⟨h,g,d,t,os⟩:=by
 obtain⟨o,nm,q,N,bs,hdct,sn,sub,ab,col,dd,k0,k1,k2,k3,k5,bd,mN,hx,hc,hC,hn,he,_⟩:=id X;cases Option.some.inj (hx.symm.trans ho);obtain⟨oy,hy,e8,ny,hV⟩:=id Y;have eW:x≠y:=λz=>by subst z;rw[ho]at hy;cases hy;cases e8
 have m3:(W.instObj C dx).cls ≠ .type "tuple" := by intro z;cases z
 have dO:(Value.ref C::[Value.type "object"]).contains (.type "tuple")=false:=by simp
 show wpAny _ _ (richCompare .Eq _ _) _ _ _;simp only[richCompare,Ug,oneThing_ref]
 repeat (first|with_reducible refine G1 hu ?_|(with_reducible refine GG hx ?_;rw[hc])|(with_reducible refine GG hy ?_;rw[e8])|(with_reducible refine GN hC ?_;rw[dO])|with_reducible refine Qh X eW hy ?_|with_reducible refine VR X ho Y ?_|with_reducible refine wpAny_isSame_ref_other' eW.symm hy hx m3 ?_|wp_step)
 rw[GH (by simpa using eW.symm)];refine GD (wpAny_load hy (GD (wpAny_load hx ?_)));rw[e8,hV];exact GE (GE hq)
end
end PySem
namespace L2
open PySem PySem.Spec PyProof.Rows
def KD(K:PySem.W.Frag)(C:Addr):Bool:=match K.lookup C with
 |some ⟨.type "type", _,.cls cd,sl⟩=>(match cd.mro,sl.toList with
  | [.ref C',.type "object"], [_,_,_,_,some (.builtin n),_]=>C'==C && !cd.hasDel&&W.nsOkIn K cd.ns&&W.nsIn K cd.ns "__eq__" == some none&&W.nsIn K cd.ns "__ne__" == some none
  |_,_=>false)
 |_=>false
theorem xZ{K:PySem.W.Frag}{h:Heap}{C x dx:Addr}(X:K.In h)(q:KD K C=true)(hx:h.get? x=some (W.instObj C dx)):h.CmpInst x C [.type "object"]:=by
 unfold KD at q;split at q
 ·rename_i dd cd sl ho
  split at q
  ·rename_i C' k0 k1 k2 k3 n k5 hm hs
   obtain⟨nm,bs,mro,ns,qn,hd,sn,sub,ab,col,nF⟩:=cd;simp only[Df,beq_iff_eq,DT]at q hm;obtain⟨⟨⟨⟨z1,z3⟩,z5⟩,z6⟩,z7⟩:=q;subst z1;subst hm;subst z3;obtain⟨l⟩:=sl;have hs:l=_:=hs;subst hs;exact⟨_,nm,qn,ns,bs,hd,sn,sub,ab,col,dd,k0,k1,k2,k3,k5,n,_,hx,rfl,X _ _ ho,.of_isNs (RO X z5),DH X z5 z6,DH X z5 z7⟩
  ·cases q
 ·cases q
abbrev KH(H:Hp)(C a:Addr):Prop:=∃dx fs,H a=some (.ins C dx fs)
def rEqI(K:PySem.W.Frag)(C:Addr):R2:=λx y H Q=>
 (∃a b,x=.ref a/\y=.ref b/\KH H C a/\KH H C b/\Q (.bl (a==b)) H) \/
 (∃a,x=.ref a/\KH H C a/\(Qv y=true\/∃b xs,y=.ref b/\SqT K H b xs)/\Q (.bl false) H) \/
 (∃a,y=.ref a/\KH H C a/\(Qv x=true\/∃b xs,x=.ref b/\SqT K H b xs)/\Q (.bl false) H)
theorem q5i{X:Cx}{K:PySem.W.Frag}{C:Addr}(hK:X.K=K)(hc:KD K C=true)(hu:X.A.units+64<cLine):OpR X (compareOp .Eq) (rEqI K C):=by
 subst hK;intro a5 s σ H x y v u Q I rx ry h;have ins:∀a,KH H C a->∃dx,s.heap.get? a=some (W.instObj C dx):=λa zz=>by
  obtain⟨dx,fs,e⟩:=zz;obtain⟨_,_,_,e,_⟩:=I.hok a _ e;exact⟨dx,e⟩
 obtain⟨hp,g,d,t,os⟩:=s;rcases h with⟨a,b,rfl,rfl,ia,ib,q⟩|⟨a,rfl,ia,hy,q⟩|⟨a,rfl,ia,hx,q⟩
 ·obtain rfl:v=Value.ref a:=rx
  obtain rfl:u=Value.ref b:=ry;obtain⟨da,ea⟩:=ins a ia;obtain⟨db,eb⟩:=ins b ib;by_cases z:a=b
  ·subst z
   rw[G3]at q;exact compareOp_eq_same F.cmp_object (xZ I.kIn hc ea) (by lia) ⟨.bl true,H,I,rfl,q⟩
  ·rw[beq_eq_false_iff_ne.mpr z]at q
   exact compareOp_eq_other F.cmp_object F.cmp_object (xZ I.kIn hc ea) (xZ I.kIn hc eb) z (by lia) ⟨.bl false,H,I,rfl,q⟩
 ·obtain rfl:v=Value.ref a:=rx
  obtain⟨da,ea⟩:=ins a ia;rcases hy with hf|⟨b,xs,rfl,hb⟩
  ·cases y with
   |int i=>obtain⟨t',rfl⟩:=ry;exact XR (xZ I.kIn hc ea) ea (by lia) ⟨.bl false,H,I,rfl,q⟩
   |str i=>obtain⟨t',rfl⟩:=ry;exact XQ (xZ I.kIn hc ea) ea (by lia) ⟨.bl false,H,I,rfl,q⟩
   |_=>exact absurd (show false=true from hf) UH
  ·obtain rfl:u=Value.ref b:=ry
   obtain⟨its,r1,p1,_⟩:=I.tuple hb;exact XO (xZ I.kIn hc ea) ea p1 (by lia) ⟨.bl false,H,I,rfl,q⟩
 ·obtain rfl:u=Value.ref a:=ry
  obtain⟨da,ea⟩:=ins a ia;rcases hx with hf|⟨b,xs,rfl,hb⟩
  ·cases x with
   |int i=>obtain⟨t',rfl⟩:=rx;exact XN (xZ I.kIn hc ea) ea (by lia) ⟨.bl false,H,I,rfl,q⟩
   |str i=>obtain⟨t',rfl⟩:=rx;exact XM (xZ I.kIn hc ea) ea (by lia) ⟨.bl false,H,I,rfl,q⟩
   |_=>exact absurd (show false=true from hf) UH
  ·obtain rfl:v=Value.ref b:=rx
   obtain⟨its,r1,p1,_⟩:=I.tuple hb;exact XJ (xZ I.kIn hc ea) ea p1 (by lia) ⟨.bl false,H,I,rfl,q⟩
abbrev rEqU(K:PySem.W.Frag)(C:Addr):R2:=λx y H Q=>(rEq x y H Q\/rEqT K x y H Q\/q0Z K x y H Q\/q11 K x y H Q)\/rEqI K C x y H Q
theorem q6c{X:Cx}{K:PySem.W.Frag}{C:Addr}(hK:X.K=K)(hc:KD K C=true)(hu:X.A.units+64<cLine):OpR X (compareOp .Eq) (rEqU K C):=λa5 s σ H x y v u Q I rx ry h=>by
 rcases h with h|h
 ·exact q2a hK hu a5 s σ H x y v u Q I rx ry h
 ·exact q5i hK hc hu a5 s σ H x y v u Q I rx ry h
def kM(C:Addr)(M:MM)(k:Nat):Prop:=∃fs,M[k]?=some (.ins C fs)
def WO:T->Bool
 |.int _=>true
 |.str _=>true
 |.tup _=>true
 |_=>false
def EqUS(C:Addr)(M:MM)(x y:U)(Q:UK):Prop :=
 (∃a b,sn M x=some a/\sn M y=some b/\sEqW a b λt=>Q (.p t) M) \/
 (∃i j,x=.m i/\y=.m j/\kM C M i/\kM C M j/\Q (.p (.bl (i==j))) M) \/
 (∃i b,x=.m i/\y=.p b/\kM C M i/\WO b=true/\Q (.p (.bl false)) M) \/
 (∃i a,x=.p a/\y=.m i/\kM C M i/\WO a=true/\Q (.p (.bl false)) M)
def uEqU(C:Addr)(ua ub:UE):UE:=λρ M Q=>ua ρ M λx M1=>ub ρ M1 λy M2=>EqUS C M2 x y Q
section
variable {K:PySem.W.Frag}{C:Addr}{ta tb:TE}{ua ub:UE}
theorem Zr{A:Addr->Prop}{H:Hp}{v:V}{t:T}(h:WO t=true)(r:RepT A H v t):Qv v=true\/∃b xs,v=.ref b/\SqT K H b xs:=by
 cases t with
 |int i=>cases r;exact .inl rfl
 |str i=>cases r;exact .inl rfl
 |tup xs=>
  obtain⟨p,vs,rfl,_,h1,_⟩:=r.tup_inv;exact .inr ⟨p,vs,rfl,SqT.of h1⟩
 |_=>cases h
theorem Jw{A:Addr->Prop}{ι:List Addr}{H:Hp}{M:MM}{k:Nat}{a:Addr}(w:Wd A ι H M)(e:ι[k]?=some a)(h:kM C M k):KH H C a:=by
 obtain⟨fs,h⟩:=h;obtain⟨dx,gs,h1,_⟩:=w.obj k a _ e h;exact⟨dx,gs,h1⟩
theorem q5a(ha:ZE ta ua)(hb:ZE tb ub):ZE (tOp (rEqU K C) ta tb) (uEqU C ua ub):=⟨λA ι σ H ρ M Qu Q w e q k=>
 ha.h A ι σ H ρ M _ _ w e q λx M1 a7 v H1 l1 w1 r1 q1=>hb.h A a7 σ H1 ρ M1 _ _ w1 (e.le l1) q1 λy M2 af v2 H2 l2 w2 r2 h=>by
  have r1:=r1.le l2;rcases h with⟨a,b,sa,sb,h⟩|⟨i,j,rfl,rfl,hi,hj,h⟩|⟨i,b,rfl,rfl,hi,hf,h⟩|⟨i,a,rfl,rfl,hi,hf,h⟩
  ·exact .inl (YK A af H2 M2 v v2 a b _ Q w2 (r1.sn w2 sa) (r2.sn w2 sb) h λt cW z H3 l3 w3 r3 q3=>k _ M2 cW z H3 ((l1.trans l2).trans l3) w3 (.p r3) q3)
  ·cases r1 with
   |m ei=>
   cases r2 with
   |m ej=>
   rename_i p q;refine .inr (.inl ⟨p,q,rfl,rfl,Jw w2 ei hi,Jw w2 ej hj,?_⟩);have eb:(p==q)=(i==j):=by
    by_cases z:i=j
    ·subst z
     rw[ei]at ej;cases ej;rw[G3,G3]
    ·rw[beq_eq_false_iff_ne.mpr z]
     refine beq_eq_false_iff_ne.mpr λzz=>z ?_;subst zz;obtain⟨h1,e1⟩:=Us.mp ei;obtain⟨h2,e2⟩:=Us.mp ej;exact(Rp w2.nd).mp (e1.trans e2.symm)
   rw[eb];exact k _ _ _ _ _ (l1.trans l2) w2 (.p (.bl _)) h
  ·cases r1 with
   |m ei=>
   cases r2 with
   |p r2=>
   exact .inr (.inr (.inl ⟨_,rfl,Jw w2 ei hi,Zr hf r2,k _ _ _ _ _ (l1.trans l2) w2 (.p (.bl _)) h⟩))
  ·cases r2 with
   |m ei=>
   cases r1 with
   |p r1=>
   exact .inr (.inr (.inr ⟨_,rfl,Jw w2 ei hi,Zr hf r1,k _ _ _ _ _ (l1.trans l2) w2 (.p (.bl _)) h⟩))⟩
theorem zR{ρ:UEnv}{M:MM}{Q:UK}:uEqU C ua ub ρ M Q=ua ρ M λx M1=>ub ρ M1 λy M2=>EqUS C M2 x y Q:=rfl
theorem q6C{M:MM}{a b:T}{Q:UK}(h:sEqW a b λt=>Q (.p t) M)(sa:sn M (.p a)=some a:=by rfl)(sb:sn M (.p b)=some b:=by rfl):EqUS C M (.p a) (.p b) Q:=.inl ⟨a,b,sa,sb,h⟩
theorem q4W{M:MM}{i j:Nat}{Q:UK}(hi:kM C M i)(hj:kM C M j)(h:Q (.p (.bl (i==j))) M):EqUS C M (.m i) (.m j) Q:=.inr (.inl ⟨i,j,rfl,rfl,hi,hj,h⟩)
theorem q5Z{M:MM}{i:Nat}{b:T}{Q:UK}(hi:kM C M i)(hf:WO b=true)(h:Q (.p (.bl false)) M):EqUS C M (.m i) (.p b) Q:=.inr (.inr (.inl ⟨i,b,rfl,rfl,hi,hf,h⟩))
theorem q5E{M:MM}{i:Nat}{a:T}{Q:UK}(hi:kM C M i)(hf:WO a=true)(h:Q (.p (.bl false)) M):EqUS C M (.p a) (.m i) Q:=.inr (.inr (.inr ⟨i,a,rfl,rfl,hi,hf,h⟩))
end
structure q0G(K:PySem.W.Frag)(C:Addr):Prop where
 cls:Cls K C
 ha:W.findIn K (.ref C) "__class__" = some (some (.builtin "object.__class__"))
 hn:W.specialIn K (.builtin "object.__class__") "__get__" = some (some (.builtin "getset_descriptor.__get__"))
 htk:W.takesIn K (.builtin "object.__class__")=some true
 hm:W.mroIn K C (.type "object")=some true
 no:∀c:TyC,W.kitOne K (.ref C) (.type c.name)=some false
abbrev q7t(K:PySem.W.Frag):List V->Hp->VK->Prop:=λxs H Q=>∃x n t b,xs=[x,.ty n]/\TyOf K H x t/\W.kitOne K t (.type n)=some b/\Q (.bl b) H
def isV(C:Addr)(M:MM):U->TyC->Option Bool
 |.p t,c=>some (isT t c)
 |.m k,c=>match M[k]? with
  |some (.lst _)=>some (isT (.lst []) c)
  |some (.tup _)=>some (isT (.tup []) c)
  |some (.ins C' _)=>if C'=C then some false else none
  |_=>none
 |.x _ _ _,_=>none
section
variable {K:PySem.W.Frag}{C:Addr}{ta:TE}{ua:UE}{A:Addr->Prop}{ι:List Addr}{H:Hp}{M:MM}{v:V}{u:U}
theorem q3W(I:q0G K C){c:TyC}{b:Bool}(w:Wd A ι H M)(r:RepU A ι H v u)(e:isV C M u c=some b):∃t,TyOf K H v t/\W.kitOne K t (.type c.name)=some b:=by
 by_cases h:isU M u c=some b
 ·obtain⟨t,h1,h2⟩:=Wz (K:=K) w r h
  exact⟨_,h1,h2⟩
 ·cases r with
  |p r=>exact absurd e h
  |x h=>simp[isV]at e
  |m q=>
   obtain⟨o,h1,h2⟩:=w.al q;simp only[isV,h1]at e;simp only[isU,h1]at h;cases o with
   |lst us=>exact absurd e h
   |tup us=>exact absurd e h
   |dK=>simp at e
   |dF=>simp at e
   |tab=>simp at e
   |ins C' fs=>
    dsimp only at e;split at e
    ·rename_i z
     subst z;cases e;obtain⟨dx,gs,h3,_⟩:=h2;exact⟨_,.ins h3 I.cls I.ha I.hn I.htk I.hm,I.no c⟩
    ·cases e
def uIsV(C:Addr)(c:TyC)(ua:UE):UE:=λρ M Q=>ua ρ M λx M1=>∃b,isV C M1 x c=some b/\Q (.p (.bl b)) M1
theorem Gi(I:q0G K C)(c:TyC)(ha:ZE ta ua):ZE (tCB (q7t K) (vH ta (vH (tC (.ty c.name)) tNil))) (uIsV C c ua):=⟨λA ι σ H ρ M Qu Q w e q k=>
 ha.h A ι σ H ρ M _ _ w e q λx M1 a7 v1 H1 l1 w1 r1 zz=>by
  obtain⟨b,eb,q1⟩:=zz;obtain⟨t,h1,h2⟩:=q3W I w1 r1 eb;exact⟨v1,c.name,t,b,rfl,h1,h2,k _ M1 a7 _ H1 l1 w1 (.p (.bl _)) q1⟩⟩
theorem xO{c:TyC}{ρ:UEnv}{Q:UK}:uIsV C c ua ρ M Q=ua ρ M λx M1=>∃b,isV C M1 x c=some b/\Q (.p (.bl b)) M1:=rfl
end
section
variable {r:Prop}{X:Cx}{e tg:Expr}{tx:TX}{g:TG}{f:Str}{pos:Pos}
def q4V(K:PySem.W.Frag)(tx:TX)(f:Str):TX:=λσ H Q E=>tx σ H (λx H1=>∃a C dx fs v,x=.ref a/\H1 a=some (.ins C dx fs)/\Cls K C/\NoAttr K C f/\fs.lookup f=some v/\Q v H1) E
theorem q2p(he:QXe X e tx)(hb:attributeBase e f X.env (eval e X.env)=eval e X.env:=by rfl):QXe X (.Attribute e f pos) (q4V X.K tx f):=⟨λa5 s σ H Q E c I h=>by
 refine VL hb (thn (he.h a5 s σ H _ E c I h) λu s1 zz=>?_);obtain⟨x,H1,I1,rx,a,C,dx,fs,v,ex,ea,c',n,l,q⟩:=zz;subst ex;obtain rfl:u=Value.ref a:=rx;exact Qn I1 ea c' n l λu' s2 I2 ru=>⟨v,H1,I2,ru,q⟩⟩
def q63(tx:TX)(g:TG)(mg:Str->Option Value):TS:=λD σ H=>tx σ H (λx H1=>g x σ H1 D.nx) (EX mg D σ)
theorem q28(he:QXe X e tx)(hg:QG X.nox tg g)(hs:swapsWithSole [tg] e pos.line X.env=pure false:=by rfl)(hw:swappedStores [tg] e X.env=pure none:=by rfl)(h1:(assignEach [tg] X.env).map (·.2)=[assign tg X.env]:=by rfl):
  QX r X (.Assign [tg] e pos) (q63 tx g X.mg):=⟨λa5 s σ H D k I h=>by
 refine wpAny_Assign_stores (thn (he.h a5 s σ H _ _ (k.1 σ) I h) λv s1 ⟨x,H1,I1,r1,q1⟩=>?_) hs hw;rw[h1];refine GF (hg.h a5 s1 σ H1 x v _ (I1.wish _) r1 q1) (λ_ s2 ⟨ah,H',I2,q⟩=>⟨ah,H',I2.unwish,q⟩) λ_ _ z=>False.elim z⟩
end
section
variable {K:PySem.W.Frag}{mg:Str->Option Value}{tx:TX}{ux:UXe}{g:TG}{ug:UG}{f:Str}
def jI(K:PySem.W.Frag)(ux:UXe)(f:Str):UXe:=λρ M Q X=>ux ρ M (λx M1=>FldS K f x M1 Q) X
theorem q2b(h:ZXe mg tx ux):ZXe mg (q4V K tx f) (jI K ux f):=⟨λA ι σ H ρ M Qu Xu Q E w e q k kx=>
 h.h A ι σ H ρ M _ Xu _ E w e q (λx M1 a7 v H1 l1 w1 r1 zz=>by
  obtain⟨kk,C,fs,u,ex,em,c,na,lk,q1⟩:=zz;subst ex;cases r1 with
  |m ek=>
  obtain⟨dx,gs,h1,h2,h3,h4⟩:=w1.obj kk _ _ ek em;obtain⟨v',hv,rv⟩:=Js h4 lk;exact⟨_,C,dx,gs,v',rfl,h1,c,na,hv,k _ M1 a7 v' H1 l1 w1 rv q1⟩) kx⟩
def jJ(ux:UXe)(ug:UG):US:=λE ρ M=>ux ρ M (λx M1=>ug x ρ M1 E.nx) λnm p M1=>E.bk (tagU nm p ρ) M1
theorem Ga(h:ZXe mg tx ux)(hg:ZG g ug):ZS (q63 tx g mg) (jJ ux ug):=⟨λA ι σ H ρ M D E w e r q=>
 h.h A ι σ H ρ M _ _ _ _ w e q (λx M1 a7 v H1 l1 w1 r1 q1=>hg.h A a7 σ H1 ρ M1 v x _ _ w1 (e.le l1) r1 q1 λaI M2 af cK H2 l2 w2 e2 q2=>r.nx af cK H2 aI M2 (l1.trans l2) w2 e2 q2) λnm p C d M1 a7 H1 hm hp l1 w1 q1=>⟨nm,p,hm,hp,r.bk a7 _ H1 _ M1 l1 w1 (je (e.le l1)) q1⟩⟩
end
section
variable {K:PySem.W.Frag}{ta:TE}{ua:UE}
theorem Jn{X:Cx}(h:X.K=K):OpR X (binaryOp .Add) (q3h K):=h▸q3k
theorem QR{X:Cx}(h:X.K=K):SlR X (rSlT K):=h▸q6e
def q7a:T->T->(T->Prop)->Prop:=λa b Q=>∃xs ys,a=.tup xs/\b=.tup ys/\xs≠[]/\ys≠[]/\xs.length+ys.length<=sizeLine/\Q (.tup (xs++ys))
theorem Jj:OpL (q3h K) q7a:=λA ι H M x y a b Qs Q w r1 r2 ⟨xs,ys,ea,eb,nx,ny,hz,q⟩ k=>by
 subst ea eb;obtain⟨p,vs,rfl,h1,q1⟩:=r1.tup_inv;obtain⟨p2,ci,rfl,h2,q2⟩:=r2.tup_inv;have l1:=q1.len;have l2:=q2.len;refine⟨p,p2,vs,ci,rfl,rfl,SqT.of h1,SqT.of h2,λz=>nx (DN.mp (by rw[<-l1,z];rfl)),by rw[l1,l2];exact hz,λz=>absurd (DN.mp (by rw[<-l2,z];rfl)) ny,λ_ p hp=>k _ ι _ _ (.fresh hp) (w.fresh hp) (xX w hp (q1.app q2)) q⟩
def SlTS(M:MM)(x:U)(l h:Option Int)(Q:UK):Prop:=∃ts,sn M x=some (.tup ts)/\¬(HT.sIx ts.length 0 l=0/\HT.sIx ts.length ts.length h=ts.length)/\Q (.p (.tup (cutT ts l h))) M
def uSlT(ua:UE)(ul uh:UO):UE:=λρ M Q=>ua ρ M λx M1=>ul ρ M1 λl M2=>uh ρ M2 λh M3=>SlTS M3 x l h Q
theorem q6u{t1 t2:TO}{u1 u2:UO}(ha:ZE ta ua)(h1:ZO t1 u1)(h2:ZO t2 u2):ZE (tSl (rSlT K) ta t1 t2) (uSlT ua u1 u2):=⟨λA ι σ H ρ M Qu Q w e q k=>
 ha.h A ι σ H ρ M _ _ w e q λx M1 a7 v H1 l1 w1 r1 q1=>h1.h A a7 σ H1 ρ M1 _ _ w1 (e.le l1) q1 λl M2 af H2 l2 w2 q2=>h2.h A af σ H2 ρ M2 _ _ w2 ((e.le l1).le l2) q2 λh M3 cW H3 l3 w3 zz=>by
  obtain⟨ts,es,nw,q3⟩:=zz;obtain⟨p,vs,rfl,hv,hr⟩:=(((r1.le l2).le l3).sn w3 es).tup_inv;have lv:=hr.len;refine⟨p,vs,rfl,SqT.of hv,by rw[lv];exact nw,λa hp=>?_⟩;exact k _ M3 cW _ _ (((l1.trans l2).trans l3).trans (.fresh hp)) (w3.fresh hp) (.p (xX w3 hp (W5 hr))) q3⟩
theorem xo{u1 u2:UO}{ρ:UEnv}{M:MM}{Q:UK}:uSlT ua u1 u2 ρ M Q=ua ρ M λx M1=>u1 ρ M1 λl M2=>u2 ρ M2 λh M3=>SlTS M3 x l h Q:=rfl
end
abbrev Cx.named(X:Cx)(a:Addr)(oe:Obj):Cx:={ X.caught a with pn:=X.pn++[(a,oe)] }
structure q55(C:Addr)(d:Option Addr)(oe:Obj):Prop where
 c:oe.cls=.ref C
 d:oe.dict=d
 v:∃vs,oe.data=.fields vs/\vs[2]?=some .none
def tAsG(i:Nat)(tb:Addr->Option Addr->TS)(q:Option Int):TS:=λD σ H=>∀a d,PartIs d H q->tb a d { D with nx:=λah H'=>D.nx (ah.set i none) H',bk:=λ_ _=>False,ct:=λah H'=>D.ct (ah.set i none) H' } (σ.set i (some (.ref a))) H
section
variable {X:Cx}{outer:List Env}{C:Addr}{cX:Value}{x e:Str}{p pos:Pos}{hs:List ExceptHandler}{i:Nat}
theorem q6p{b0:Stmt}{c4:List Stmt}{tb:Addr->Option Addr->TS}{q:Option Int}(Y:Body X outer)(hm:X.mg x=some cX)(he:W.exmOne X.K (.ref C) cX=some true)(hN:X.N.Nodup)(hi:X.N[i]?=some e)(e7:X.env.scope.names.lookup e=some .local)(hb:∀a d oe,q55 C d oe->QSs (X.named a oe) (b0::c4) (tb a d))(hg:Gl X x:=by rfl)(bf:(x==("__debug__" : Str))=false:=by decide):
  QH X (.ExceptHandler (some (.Name x p)) (some e) (b0::c4) pos::hs) (.ref C) q (tAsG i tb q):=⟨λa5 σ H1 s1 d H' s a D I F hq h=>by
 have J:=F.inv I;refine G4 (GY (vU (X:=X.caught a) (J.caught a) hg hm ?_ bf)) (by intro q;cases q);refine D9 J.kIn F.ty he _ _ _ s (λ_ _ z=>z) ?_;show codeAny _ _ _ _ s;refine Ue ?_;obtain⟨B,a0,fl,st⟩:=F.step;refine GF (DK.any (vV _ _) (lands_againW fl (Q:=λ_ s2=>(Heap.FlyingW B X.stack a (.ref C) a0 s2.heap/\s.heap.UpToSlots s2.heap)/\∃h',s2={ s with heap:=h' }) (E:=λ_ _=>False) λh' x1 x4=>⟨⟨x1,x4⟩,h',rfl⟩)) (λ_ s2 z=>?_) λ_ _ q=>q.1.elim;obtain⟨⟨⟨fD,up⟩,h',rfl⟩,kd⟩:=z;have F2:=st h' fD up kd;obtain⟨n1,n2,oe,vs,lR,gl,lS,fF,h2⟩:=F2.new;have J2:=F2.pinned Y I lR fF;refine GF (E:=λ_ _=>False) (vE J2 hN hi (.inl e7) (v:=.ref a) (u:=.ref a) rfl (Q:=λ_ s3=>Inv X (a5++[(a,oe)]) (σ.set i (some (.ref a))) H' s3) (λs3 I3=>I3) (.inr e7)) (λ_ s3 I3=>?_) λ_ _ z=>z.elim;have I4:=I3.caught a;have I5:Inv (X.named a oe) a5 (σ.set i (some (.ref a))) H' s3:=⟨⟨I4.ok.mod,I4.ok.kind,I4.ok.glob,I4.ok.blt,I4.ok.above,I4.ok.inj,I4.ok.has,I4.ok.cab,I4.ok.hd,I4.ok.frames,I4.ok.stk,I4.ok.exf,I4.ok.bs,I4.ok.bsz,I4.ok.noex,I4.ok.exfs,I4.ok.funs,I4.ok.frf⟩,I4.os,I4.bare,I4.base,I4.loc,I4.cell,I4.free,I4.freeC,λp hp=>I4.pin p (by
  rcases UD.mp hp with z|z
  ·rcases UD.mp z with z|z
   ·exact UV _ z
   ·exact UR _ (UR _ z)
  ·exact UR _ (UV _ z)),I4.hok,I4.len⟩
 have back:∀{ah H2 s4},Inv (X.named a oe) a5 ah H2 s4->Inv X a5 ah H2 s4:=λI6=>⟨I.ok,I6.os,I6.bare,I6.base,I6.loc,I6.cell,I6.free,I6.freeC,λp hp=>I6.pin p (by
  rcases UD.mp hp with z|z
  ·exact UV _ (UV _ z)
  ·exact UR _ z),I6.hok,I6.len⟩
 refine GF ((hb a d oe ⟨gl,lS,vs,fF,h2⟩).h a5 s3 _ H' _ I5 (h a d hq)) (λf s4 z=>?_) λ_ _ z=>z.elim;cases f with
 |next=>
  obtain⟨ah,H2,I6,q⟩:=z;show wpAny _ _ _ _ _ _;exact xT (back I6) hN hi e7 λs9 I9=>⟨_,H2,I9,q⟩
 |cont=>
  obtain⟨ah,H2,I6,q⟩:=z;show wpAny _ _ _ _ _ _;exact xT (back I6) hN hi e7 λs9 I9=>⟨_,H2,I9,q⟩
 |brk=>
  obtain⟨ah,H2,I6,q⟩:=z;exact q.elim
 |ret u=>
  obtain⟨v,ah,H2,I6,r,q⟩:=z;show wpAny _ _ _ _ _ _;exact xT (back I6) hN hi e7 λs9 I9=>⟨v,_,H2,I9,r,q⟩⟩
end
def q2t(a:Addr)(d:Option Addr)(ta:TE):TE:=λσ H Q=>ta σ H λv H1=>v=.ref a/\∃n x0,d=some x0/\H1 x0=some (.xd [("part",.int n)])/\Q (.int n) H1
theorem q4n{X:Cx}{C g a:Addr}{d:Option Addr}{oe:Obj}{o:Expr}{ta:TE}{pos:Pos}(ck:ExcK X.K C g)(na:NoAttr X.K C "part")(ob:q55 C d oe)(hp:(a,oe)∈X.pn)(ho:QE X o ta)(fE:attributeBase o "part" X.env (eval o X.env)=eval o X.env:=by rfl):QE X (.Attribute o "part" pos) (q2t a d ta):=⟨λa5 s σ H Q I h=>by
 refine VL fE (thn (ho.h a5 s σ H _ I h) λu s1 zz=>?_);obtain⟨v,H1,I1,r,ev,n,x0,ed,gU,q⟩:=zz;subst ev;obtain rfl:u=Value.ref a:=r;obtain⟨mA,cR,fG⟩:=I1.hok x0 _ gU;obtain⟨od,h8,lT⟩:=kH cR;have fH:=(I1.pin (a,oe) (UV _ hp)).1;have hv:∃t,mA "part" = some (.int n t):=by
  have:=fG "part";obtain⟨u,hu,t,rfl⟩:=RelO.some_of (v:=.int n) (o:=mA "part") (by simpa using this);exact⟨t,hu⟩
 obtain⟨tn,hv⟩:=hv;obtain⟨vs,fF,_⟩:=ob.v;refine W.getX_value (v:=.int n tn) (C:=C) (od:=some od) I1.kIn ⟨fH,ob.c,by unfold W.notCls;rw[fF],by rw[ob.d,ed];exact h8⟩ ck.ga ck.gt ck.mr ?_ rfl ?_
 ·exact D5 ck.hd na rfl (by rw[lT,hv])
 ·exact⟨.int n,H1,I1.tok _,⟨_,rfl⟩,q⟩⟩
section
variable {A:Addr->Prop}{ι:List Addr}{H:Hp}{M:MM}{ta:TE}{ua:UE}{a:Addr}{d:Option Addr}{i:Nat}
theorem Wd.not_xd(w:Wd A ι H M){a:Addr}{fs:List (Str×V)}(h:a∈ι):H a≠some (.xd fs):=λz=>by
 obtain⟨k,e⟩:=D0 h;obtain⟨o,_,r⟩:=w.al e;cases o with
 |lst=>obtain⟨vs,e,_⟩:=r;rw[z]at e;cases e
 |tup=>obtain⟨vs,e,_⟩:=r;rw[z]at e;cases e
 |ins=>obtain⟨_,_,e,_⟩:=r;rw[z]at e;cases e
 |dK=>obtain⟨_,e,_⟩:=r;rw[z]at e;cases e
 |dF=>obtain⟨e,_⟩:=r;rw[z]at e;cases e
 |tab=>obtain⟨_,e,_⟩:=r;rw[z]at e;cases e
theorem PartIs.x(w:Wd A ι H M){q:Option Int}(h:PartIs d H q):PartX ι H d q:=by
 cases q with
 |none=>exact h
 |some n=>
  obtain⟨x0,e,hx⟩:=h;exact⟨x0,e,λz=>w.not_xd z hx,hx⟩
def q1V(a:Addr)(d:Option Addr)(ua:UE):UE:=λρ M Q=>ua ρ M λx M1=>∃n,x=.x a d (some n)/\n<1000000/\Q (.p (.int n)) M1
theorem q2P(ha:ZE ta ua):ZE (q2t a d ta) (q1V a d ua):=⟨λA ι σ H ρ M Qu Q w e q k=>
 ha.h A ι σ H ρ M _ _ w e q λx M1 a7 v H1 l1 w1 r1 zz=>by
  obtain⟨n,ex,lQ,q1⟩:=zz;subst ex;cases r1 with
  |x h=>
   obtain⟨x0,ed,ni,hx⟩:=h;rw[QF lQ]at hx;exact⟨rfl,n,x0,ed,hx,k _ M1 a7 _ H1 l1 w1 (.p (.int _)) q1⟩⟩
theorem q0U{ρ:UEnv}{Q:UK}:q1V a d ua ρ M Q=ua ρ M λx M1=>∃n,x=.x a d (some n)/\n<1000000/\Q (.p (.int n)) M1:=rfl
def uAsG(i:Nat)(ub:Addr->Option Addr->US)(q:Option Int):US:=λE ρ M=>∀a d,ub a d { E with nx:=λaR M'=>E.nx (aR.set i none) M',bk:=λ_ _=>False,ct:=λaR M'=>E.ct (aR.set i none) M' } (ρ.set i (some (.x a d q))) M
theorem q5m{tb:Addr->Option Addr->TS}{ub:Addr->Option Addr->US}{q:Option Int}(h:∀a d,ZS (tb a d) (ub a d)):ZS (tAsG i tb q) (uAsG i ub q):=⟨λA ι σ H ρ M D E w e r z a d hp=>by
 have hX:∀{a7:List Addr}{cA:St}{H1:Hp}{dB:UEnv},EnvR A a7 H1 cA dB->EnvR A a7 H1 (cA.set i none) (dB.set i none):=λe1=>Paired.put (λw z=>by cases z) i e1;exact(h a d).h A ι _ H _ M _ { E with nx:=λaR M'=>E.nx (aR.set i none) M',bk:=λ_ _=>False,ct:=λaR M'=>E.ct (aR.set i none) M' } w (EnvR.put e i (.x (hp.x w))) ⟨λa7 cA H1 dB M1 l1 w1 e1 q1=>r.nx a7 _ H1 _ M1 l1 w1 (hX e1) q1,r.rt,λ_ _ _ _ _ _ _ _ q=>q.elim,λa7 cA H1 dB M1 l1 w1 e1 q1=>r.ct a7 _ H1 _ M1 l1 w1 (hX e1) q1⟩ (z a d)⟩
end
section
variable {A:Addr->Prop}{ι:List Addr}{H H':Hp}{M:MM}{ua ub:UE}
theorem Wd.ext(w:Wd A ι H M)(h:∀x o,H x=some o->H' x=some o):Wd A ι H' M:=by
 have l:Le ι H ι H':=⟨⟨[],by simp,by simp⟩,λx o e _=>h x o e,λx e=>by
  cases q:H x with
  |none=>exact absurd q e
  |some o=>rw[h x o q];simp⟩
 refine⟨w.nd,w.len,λx hx=>l.al x (w.dom x hx),w.na,λk a o e1 e2=>?_⟩;have r:=w.obj k a o e1 e2;obtain⟨q,hq⟩:=r.some;exact r.le' l (by rw[h a q hq,hq]) λx hx=>by rw[h x _ hx,hx]
def q7F(neg:Bool)(ua ub:UE):UE:=λρ M Q=>ua ρ M λx M1=>ub ρ M1 λy M2=>∃a b,frzN 5 M2 x=some a/\frzN 5 M2 y=some b/\sEqL neg a b λt=>Q (.p t) M2
theorem Xg{neg:Bool}{ρ:UEnv}{Q:UK}:q7F neg ua ub ρ M Q=ua ρ M λx M1=>ub ρ M1 λy M2=>∃a b,frzN 5 M2 x=some a/\frzN 5 M2 y=some b/\sEqL neg a b λt=>Q (.p t) M2:=rfl
end
theorem q67{X:Cx}{a:Addr}{oe:Obj}:(a,oe)∈(X.named a oe).pn:=UR _ (UJ.mpr rfl)
section
variable {X:Cx}{ua uo:UE}{ul:UA}
def SlXS(M:MM)(x:U)(l h:Option Int)(Q:UK):Prop:=∃z,x=.p (.str z)/\z.length<=sizeLine/\Q (.p (.str (Txt.slice z l h))) M
def uSlX(ua:UE)(ul uh:UO):UE:=λρ M Q=>ua ρ M λx M1=>ul ρ M1 λl M2=>uh ρ M2 λh M3=>SlXS M3 x l h Q
theorem Yq{u1 u2:UO}{ρ:UEnv}{M:MM}{Q:UK}:uSlX ua u1 u2 ρ M Q=ua ρ M λx M1=>u1 ρ M1 λl M2=>u2 ρ M2 λh M3=>SlXS M3 x l h Q:=rfl
def rInX(neg:Bool):R2:=λx y H Q=>∃c j,x=.str ⟨#[c]⟩/\y=.str j/\Q (.bl (if neg then !decide (c∈j.cps.toList) else decide (c∈j.cps.toList))) H
theorem q5D:OpR X (compareOp .In) (rInX false):=λa5 s σ H x y v u Q I rx ry ⟨c,j,ex,ey,q⟩=>
 YN a5 s σ H x y v u Q I rx ry ⟨_,j,ex,ey,by rw[StrLaws.found_one];exact q⟩
def sInX(neg:Bool):T->T->(T->Prop)->Prop:=λa b Q=>∃c j,a=.str ⟨#[c]⟩/\b=.str j/\Q (.bl (if neg then !decide (c∈j.cps.toList) else decide (c∈j.cps.toList)))
theorem q3R{neg:Bool}:OpL (rInX neg) (sInX neg):=λA ι H M x y a b Qs Q w r1 r2 ⟨c,j,ea,eb,q⟩ k=>by
 subst ea eb;cases r1.str_inv;cases r2.str_inv;exact⟨c,j,rfl,rfl,k _ ι _ H (.refl _ _) w (.bl _) q⟩
def q7g:List T->(T->Prop)->Prop:=λts Q=>∃z,ts=[.str z]/\z.length<=sizeLine/\Q (.int z.length)
def ZQ(xs:List Str):List V:=xs.map V.str
def BmS(s:Str->List T->(T->Prop)->Prop)(ul:UA)(ρ:UEnv)(M:MM)(x:U)(Q:UK):Prop:=∃y,x=.p (.str y)/\ul ρ M λus M2=>∃ts,sns M2 us=some ts/\s y ts λt=>Q (.p t) M2
def uBm(s:Str->List T->(T->Prop)->Prop)(uo:UE)(ul:UA):UE:=λρ M Q=>uo ρ M λx M1=>BmS s ul ρ M1 x Q
theorem q7A{s:Str->List T->(T->Prop)->Prop}{ρ:UEnv}{M:MM}{Q:UK}:uBm s uo ul ρ M Q=uo ρ M λx M1=>BmS s ul ρ M1 x Q:=rfl
def q3p:Str->List T->(T->Prop)->Prop:=λy ts Q=>∃z,ts=[.str z]/\Q (.bl (Txt.startswith y z))
theorem Yv{neg:Bool}{c:Nat}{j:Str}{Q:T->Prop}:sInX neg (.str ⟨#[c]⟩) (.str j) Q=Q (.bl (if neg then !decide (c∈j.cps.toList) else decide (c∈j.cps.toList))):=propext ⟨λzz=>by obtain⟨_,_,e,e2,h⟩:=zz;cases e;cases e2;exact h,λh=>⟨c,j,rfl,rfl,h⟩⟩
theorem Xf{z:Str}{Q:T->Prop}:q7g [.str z] Q=(z.length<=sizeLine/\Q (.int z.length)):=propext ⟨λzz=>by obtain⟨_,e,h⟩:=zz;cases e;exact h,λh=>⟨z,rfl,h⟩⟩
theorem km{y z:Str}{Q:T->Prop}:q3p y [.str z] Q=Q (.bl (Txt.startswith y z)):=propext ⟨λzz=>by obtain⟨_,e,h⟩:=zz;cases e;exact h,λh=>⟨z,rfl,h⟩⟩
theorem Yx{s:Str->List T->(T->Prop)->Prop}{ρ:UEnv}{M:MM}{Q:UK}{y:Str}:BmS s ul ρ M (.p (.str y)) Q=ul ρ M λus M2=>SnsS M2 us λts=>s y ts λt=>Q (.p t) M2:=propext ⟨λzz=>by obtain⟨_,e,h⟩:=zz;cases e;exact h,λh=>⟨y,rfl,h⟩⟩
theorem Xe{M:MM}{z:Str}{l h:Option Int}{Q:UK}:SlXS M (.p (.str z)) l h Q=(z.length<=sizeLine/\Q (.p (.str (Txt.slice z l h))) M):=propext ⟨λzz=>by obtain⟨_,e,h⟩:=zz;cases e;exact h,λh=>⟨z,rfl,h⟩⟩
end
section
variable {X:Cx}{K:PySem.W.Frag}{ta:TE}{ua:UE}{tg:Expr}
def Its(x:Str):It:=⟨λi _=>i<x.cps.size,λi H v H'=>H'=H/\∃c,x.cps.toList[i]?=some c/\v=.str ⟨#[c]⟩,λi _=>x.cps.size<=i⟩
theorem q1r{P:Program}{w:World}{x:Str}{t:Tok}{it:Addr}{ty:String}(gi:ty = "str_ascii_iterator" \/ ty = "str_iterator"):Turn P w K tg (Its x) [it] it (λi h=>h.IsStrIter it ty x t i) where
 mem:=by simp
 obj:=λi h st b hb=>by
  have e:b=it:=by simpa using hb
  subst e;obtain⟨o,e,c,d⟩:=st;exact⟨o,e,λv z=>by rw[d]at z;cases z⟩
 keep:=λi h h' st k=>by
  obtain⟨o,e,c,d⟩:=st;exact⟨o,k it (by simp) o e,c,d⟩
 item:=by
  intro X hP hw hK hc i a5 s σ H E I hf st hg;subst hP hw hK;have hi:i<x.cps.size:=hg;have hx:x.cps[i]?=some x.cps[i]:=by simp[hi]
  obtain⟨f0,f1,f2,f3,f4,f5⟩:=hf it (by simp);have fin:∀h',h'.IsStrIter it ty x t (i+1)->Heap.SameBut it s.heap h'->∃u,some (Value.str ⟨#[x.cps[i]]⟩ s.toks)=some u/\wpAny (model X.prog X.w) X.A (letOwnedTupleGo tg (.ref it) u) (λ_ s2=>∃y H',Inv X a5 σ H' s2/\RelV y u/\(Its x).yld i H y H'/\s2.heap.IsStrIter it ty x t (i+1)/\∀b∈[it],H' b=none) E { s with heap:=h',toks:=s.toks+1 }:=λh' cO sb=>by
   have I1:Inv X a5 σ H { s with heap:=h',toks:=s.toks+1 }:=I.turned (t':=s.toks+1) (λb o hb e=>(sb.2 b hb).trans e) f0 f1 f3 f4 f5;obtain⟨o,e,c,d⟩:=id cO;exact⟨_,rfl,q40 (s:={ s with heap:=h',toks:=s.toks+1 }) e c d (by rcases gi with rfl|rfl<;>decide) ⟨.str ⟨#[x.cps[i]]⟩,H,I1,⟨_,rfl⟩,⟨rfl,_,by simp[hi],rfl⟩,cO,λb hb=>(hf b hb).1⟩⟩
  rcases gi with rfl|rfl
  ·exact wpAny_pyNext_ascii_item st hx fin
  ·exact wpAny_pyNext_wide_item st hx fin
 done:=by
  intro X hP hw hK hc i a5 s σ H E I hf st hg;subst hP hw hK;have hi:x.cps.size<=i:=hg;have hx:x.cps[i]?=none:=by simp[hi]
  obtain⟨f0,f1,f2,f3,f4,f5⟩:=hf it (by simp);rcases gi with rfl|rfl
  ·exact wpAny_pyNext_ascii_end (I.ok.hd hc) st hx λh' eb=>⟨rfl,I.turned (t':=s.toks) (λb o hb e=>eb b o hb e) f0 f1 f3 f4 f5⟩
  ·exact wpAny_pyNext_wide_end (I.ok.hd hc) st hx λh' eb=>⟨rfl,I.turned (t':=s.toks) (λb o hb e=>eb b o hb e) f0 f1 f3 f4 f5⟩
 self:=λ_ _ _ _ _ st h=>by
  rcases gi with rfl|rfl
  ·exact wpAny_pyIter_striter_ascii st h
  ·exact wpAny_pyIter_striter_wide st h
def iStr(tl:TE):TI:=λσ H R=>tl σ H λx H1=>∃z,x=.str z/\R (Its z) H1
theorem q5N{l:Expr}{tl:TE}(hl:QE X l tl):QI X tg l (iStr tl):=⟨by
 intro a5 s σ H R I h;refine thn (hl.h a5 s σ H _ I h) λv s1 zz=>?_;obtain⟨x,H1,I1,r1,q1⟩:=zz;obtain⟨z,e,q⟩:=q1;subst e;obtain⟨t,rfl⟩:=r1;refine wpAny_pyIter_strU ?_;refine⟨s1.heap.objs.size, [s1.heap.objs.size],_,_,H1,rfl,I1.kept (t':=s1.toks) λb o e=>Heap.get?_push_of_some _ e,q1r (x:=z) (t:=t) (ty:=strIterType z) (by unfold strIterType;split<;>simp),⟨_,Heap.get?_push_size _ rfl,rfl,rfl⟩,λb hb=>?_,q⟩;have e:b=s1.heap.objs.size:=by simpa using hb
 subst e;exact I1.fpOk (Ux _) (I1.hok.fresh (Ux _))⟩
def itX(z:Str):UIt:=⟨z.cps.size,λ_=>True,λi u=>∃c,z.cps.toList[i]?=some c/\u=.p (.str ⟨#[c]⟩)⟩
def ItXS(x:U)(M:MM)(Q:UIt->MM->Prop):Prop:=∃z,x=.p (.str z)/\Q (itX z) M
def KW(ua:UE):UI:=λρ M Q=>ua ρ M λx M1=>ItXS x M1 Q
theorem q4P(ha:ZE ta ua):ZI (iStr ta) (KW ua):=⟨λA ι σ H ρ M Qu R w e q k=>
 ha.h A ι σ H ρ M _ _ w e q λx M1 a7 v H1 l1 w1 r1 zz=>by
  obtain⟨z,ex,q1⟩:=zz;subst ex;cases r1 with
  |p r=>
  cases r;refine⟨z,rfl,k _ M1 a7 _ H1 l1 w1 ?_ q1⟩;intro A' af H2 M2 i l w2 _;refine⟨λhi=>⟨hi,λx H' y=>?_⟩,λhi=>Rc hi.symm⟩;obtain⟨rfl,c,hc,rfl⟩:=y;exact⟨_,⟨c,hc,rfl⟩,.refl _ _,w2,.p (.str _)⟩⟩
theorem Vc{ρ:UEnv}{M:MM}{Q:UIt->MM->Prop}:KW ua ρ M Q=ua ρ M λx M1=>ItXS x M1 Q:=rfl
theorem Yu{z:Str}{M:MM}{Q:UIt->MM->Prop}:ItXS (.p (.str z)) M Q=Q (itX z) M:=propext ⟨λzz=>by obtain⟨_,e,h⟩:=zz;cases e;exact h,λh=>⟨z,rfl,h⟩⟩
theorem KK{z:Str}{M:MM}{ug:UG}{ut:UT}{ue:UE}{Q:UK}{dA:UEnv}(hz:z.cps.size<=sizeLine)(Iv:Nat->List T->MM->Prop)(h0:Iv 0 [] M)(hs:∀(i c:Nat) a9 M2,z.cps.toList[i]?=some c->a9.length<=i->Iv i a9 M2->ug (.p (.str ⟨#[c]⟩)) dA M2 λcc M4=>ut cc M4 λb M5=>if b=true then ue cc M5 λz M6=>∃t,z=.p t/\Iv (i+1) (a9++[t]) M6 else Iv (i+1) a9 M5)(hd:∀a9 M2,Iv z.cps.size a9 M2->Q (.p (.lst a9)) M2):q14 (itX z) ug ut ue dA M Q :=
 ⟨hz,Iv,h0,λi a9 M2 hi ha h=>⟨trivial,λu hu=>by
  obtain⟨c,hc,rfl⟩:=hu;exact hs i c a9 M2 hc ha h⟩,λa9 M2 h=>⟨trivial,hd a9 M2 h⟩⟩
end
mutual
def toD:T->PyData
 |.non=>.none
 |.bl b=>.bool b
 |.int i=>.int i
 |.str x=>.str x
 |.tup xs=>.tuple (toDs xs)
 |.lst xs=>.list (toDs xs)
def toDs:List T->List PyData
 | []=>[]
 |x::xs=>toD x::toDs xs
end
mutual
theorem noD:∀t:T,(toD t).hasDict=false
 |.non=>rfl
 |.bl _=>rfl
 |.int _=>rfl
 |.str _=>rfl
 |.tup xs=>noDs xs
 |.lst xs=>noDs xs
theorem noDs:∀ts:List T,PyData.hasDictAll (toDs ts)=false
 | []=>rfl
 |x::xs=>by show((toD x).hasDict||PyData.hasDictAll (toDs xs))=false;rw[noD x,noDs xs];rfl
end
section
variable {X:Cx}{a5:List (Addr×Obj)}{σ:St}{H:Hp}{s:Shared}
theorem zQ{h:Heap}:∀{vs:List V}{ts:List T}{us:List Value},Vals vs us->vs.length=ts.length->(∀(i:Nat) v t,vs[i]?=some v->ts[i]?=some t->∀u,RelV v u->∃as,Reads h u (toD t) as)->∃as,ReadsAll h us (toDs ts) as
 | [], [],_,.nil,_,_=>⟨_,.nil⟩
 |v::vs,t::ts,_,.cons r q,hl,ih=>by
  obtain⟨as,h1⟩:=ih 0 v t rfl rfl _ r;obtain⟨bs,h2⟩:=zQ q (by simpa using hl) λi v t e1 e2=>ih (i+1) v t (by simpa using e1) (by simpa using e2);exact⟨_,.cons h1 h2⟩
structure q7G(t:T):Prop where
 sh:(toD t).showable=true
 dp:(toD t).depth<=60
 sz:(toD t).shown.length<=sizeLine
end
section
variable {A:Addr->Prop}{H H':Hp}{ι ai:List Addr}{M:MM}{n:Nat}{K:PySem.W.Frag}{tl:TA}{ul:UA}{ua ub:UE}
theorem Le.pushed{p:Addr}(l:Le ι H ai H')(h:H p=none)(_:p∉ai):Le ι H (ai++[p]) H':=by
 obtain⟨m,rfl,hm⟩:=l.ext;refine⟨⟨m++[p],by rw[UN],λx hx=>?_⟩,l.fr,l.al⟩;rcases UD.mp hx with z|z
 ·exact hm x z
 ·rw[UJ.mp z];exact h
def LiN(us:List U)(M:MM)(Q:UK):Prop:=∃x ys,us=[x]/\(qI M x=some ys\/vB M x=some ys)/\Q (.m M.length) (M++[.lst ys])
def xK(ul:UA):UE:=λρ M Q=>ul ρ M λus M1=>LiN us M1 Q
theorem JS(ha:ZA n tl ul):ZE (tCB (λxs H Q=>∃p ys,xs=[.ref p]/\(SqL K H p ys\/SqT K H p ys)/\∀l,H l=none->Q (.ref l) (upd H l (.lst ys))) tl) (xK ul):=⟨λA ι σ H ρ M Qu Q w e q k=>
 ha.h A ι σ H ρ M _ _ w e q λus M1 a7 vs H1 l1 w1 hn r1 zz=>by
  obtain⟨x,ys,eu,hy,q1⟩:=zz;subst eu;cases r1 with
  |cons r q'=>
  cases q';rcases hy with hy|hy
  ·obtain⟨p,zs,rfl,h1,h2⟩:=zl w1 r hy
   exact⟨p,zs,rfl,.inl (SqL.of h1),λl hl=>k _ _ _ _ _ (l1.trans (.push hl)) (xE w1 hl h2).1 (xE w1 hl h2).2 q1⟩
  ·obtain⟨p,zs,rfl,h1,h2⟩:=zk w1 r hy
   exact⟨p,zs,rfl,.inr (SqT.of h1),λl hl=>k _ _ _ _ _ (l1.trans (.push hl)) (xE w1 hl h2).1 (xE w1 hl h2).2 q1⟩⟩
def xL(G:List T->(T->Prop)->Prop)(ul:UA):UE:=λρ M Q=>ul ρ M λus M1=>∃ts,frzs (frzN 6 M1) us=some ts/\G ts λt=>(∃x,vt t=some x)/\Q (.p t) M1
theorem JU{G:List T->(T->Prop)->Prop}{E:XK}(ha:ZA n tl ul):ZE (zC (spP G) [] E tl) (xL G ul):=⟨λA ι σ H ρ M Qu Q w e q k=>
 ha.h A ι σ H ρ M _ _ w e q λus M1 a7 vs H1 l1 w1 hn r1 zz=>by
  obtain⟨ts,et,q1⟩:=zz;rw[U2];refine⟨A,ts,_,w1.dom,Vw r1 (λv u t r e=>Vx w1 r e) et,q1,λt v H2 s r2 ⟨⟨x,hx⟩,q2⟩=>k _ M1 a7 v H2 (l1.trans s.le) (w1.same s) (.p ?_) q2⟩;cases(RepV.of r2).sc (y:=.non) hx;exact(j2 hx).rep⟩
def Me0S(s:List U->List U->(U->List U->Prop)->Prop)(o:U)(M:MM)(Q:UK):Prop:=∃k us,o=.m k/\M[k]?=some (.lst us)/\s us [] λz cb=>Q z (M.set k (.lst cb))
def uMe0(s:List U->List U->(U->List U->Prop)->Prop)(uo:UE):UE:=λρ M Q=>uo ρ M λo M1=>Me0S s o M1 Q
def q6W(neg:Bool)(ua ub:UE):UE:=λρ M Q=>ua ρ M λx M1=>ub ρ M1 λy M2=>∃a b,frzN 6 M2 x=some a/\frzN 6 M2 y=some b/\q3B neg a b λt=>Q (.p t) M2
end
theorem VZ{A:Addr->Prop}{H:Hp}:∀zs:List Str,RepTs A H (ZQ zs) (zs.map T.str)
 | []=>.nil
 |z::zs=>.cons (.str z) (VZ zs)
section
variable {P:Program}{w:World}{K:PySem.W.Frag}{mg:Str->Option Value}{base:Heap}{k:Nat}{f:Addr}{fd:FuncData}{ps:List Str}
theorem FnOk.calm{G:List U->MM->UK->UX->Prop}{G':List T->(T->Prop)->Prop}(F:FnOk P w K mg base (CXe P w) k f fd ps (spX mg G))(h:∀ts Qt,G' ts Qt->G (ts.map U.p) [] (λu _=>∃t,u=.p t/\Qt t) λ_ _ _=>False):FnOk P w K mg base CX0 k f fd ps (spP G'):=by
 have key:∀vs H Q E,spP G' vs H Q E->spX mg G vs H Q E0:=λvs H Q E zz=>by
  obtain⟨A,ts,Qt,hd,r,g,kk⟩:=zz;have w0:Wd A [] H []:=⟨List.nodup_nil,rfl,hd,λx hx=>by simp at hx,λk a o e _=>by simp at e⟩;have r0:RepUs A [] H vs (ts.map U.p):=RepTs.ups (Paired.mapP r λ_ _ q=>q.mono λx o hx ex=>⟨ex,λz=>z.elim hx (by simp)⟩);refine⟨A, [], [],_,_,_,w0,r0,h ts Qt g,λu M' ai v H' l w' r' ⟨t,eu,q⟩=>?_,λ_ _ _ _ _ _ _ _ _ _ _ z=>z⟩;subst eu;cases r' with
  |p r'=>exact kk t v H' (λb o e=>l.fr b o e (by simp)) (r'.mono λx o hx ex=>⟨ex,λz=>hx (.inl z)⟩) q
 exact⟨λvs H Q E z=>F.len vs H Q E0 (key vs H Q E z),λA outer s H args us vs Q E hr he hb hv hs=>G5 (F.run A outer s H args us vs Q E0 hr he hb hv (key vs H Q E hs)) λr s' q=>by
  cases r with
  |error e=>obtain⟨_,_,_,_,_,_,z⟩:=(show CXe P w outer H s E0 e s' from q);exact z.elim
  |ok fl=>cases fl<;>exact q⟩
end
def ItB(b:Bool)(h:Heap)(it a:Addr)(i:Nat):Prop:=match b with
 |true=>h.IsListIter it a i
 |false=>h.IsTupleIter it a i
theorem ItB.ex{b:Bool}{h:Heap}{it a:Addr}{i:Nat}(x:ItB b h it a i):∃o vs,h.get? it=some o/\o.data=.fields vs:=by
 cases b
 ·obtain⟨o,e,_,d⟩:=(show h.IsTupleIter it a i from x);exact⟨o,_,e,d⟩
 ·obtain⟨o,e,_,d⟩:=(show h.IsListIter it a i from x);exact⟨o,_,e,d⟩
theorem ItB.at{b:Bool}{h h':Heap}{it a:Addr}{i:Nat}(x:ItB b h it a i)(k:∀o,h.get? it=some o->h'.get? it=some o):ItB b h' it a i:=by
 cases b
 ·obtain⟨o,e,r⟩:=(show h.IsTupleIter it a i from x);exact⟨o,k o e,r⟩
 ·obtain⟨o,e,r⟩:=(show h.IsListIter it a i from x);exact⟨o,k o e,r⟩
section
variable {M:MM}
def q1T(b:Bool)(M:MM)(x:U):Option (List U):=match b with
 |true=>qI M x
 |false=>vB M x
end
section
variable {K:PySem.W.Frag}{w:World}{ua ub uy:UE}
def KU(ks:List (Str×List Str))(uy:UE):UE:=λρ M Q=>uy ρ M λy M1=>∃k ss,y=.p (.str k)/\ks.lookup k=some ss/\Q (.p (.int ss.length)) M1
def q7D(b:Bool)(ss:List Str)(x:U)(M:MM)(Q:UIt->MM->Prop):Prop:=∃ts:List T,q1T b M x=some (ts.map U.p)/\Q ⟨min ss.length ts.length,λM=>q1T b M x=some (ts.map U.p),λi z=>∃s t,ss[i]?=some s/\ts[i]?=some t/\z=.p (.tup [.str s,t])⟩ M
def KL(b:Bool)(ks:List (Str×List Str))(uy ub:UE):UI:=λρ M Q=>uy ρ M λy M1=>∃k ss,y=.p (.str k)/\ks.lookup k=some ss/\ub ρ M1 λx M2=>q7D b ss x M2 Q
def uInD(ks:List Str)(ua:UE):UE:=λρ M Q=>ua ρ M λx M1=>∃k,x=.p (.str k)/\Q (.p (.bl (ks.contains k))) M1
def q68:List T->(T->Prop)->Prop:=λts Q=>∃xs,ts=[.lst xs]/\Q (.tup xs)
theorem Gm:CbL (λxs H Q=>∃p ys,xs=[.ref p]/\((SqL K H p ys/\∀l,H l=none->Q (.ref l) (upd H l (.tup ys)))\/(SqT K H p ys/\Q (.ref p) H))) q68:=λA ι H M vs ts Qs Q w r ⟨xs,e,q⟩ k=>by
 subst e;obtain⟨v,ev,r1⟩:=pv1 r;subst ev;obtain⟨p,zs,rfl,h1,h2⟩:=r1.lst_inv;exact⟨p,zs,rfl,.inl ⟨SqL.of h1,λl hl=>k _ ι _ _ (.fresh hl) (w.fresh hl) (xX w hl h2) q⟩⟩
def DG1S(M:MM)(x:U)(ρ:UEnv)(uy:UE)(Q:UK):Prop:=∃k m4,x=.m k/\M[k]?=some (.dK m4)/\uy ρ M λy M2=>∃kvs key,M2[k]?=some (.dK kvs)/\y=keyU key/\Q ((valU kvs key).getD (.p .non)) M2
def KZ(ud uy:UE):UE:=λρ M Q=>ud ρ M λx M1=>DG1S M1 x ρ uy Q
end
section
variable {X:Cx}{tl:TA}{ul:UA}{n:Nat}
def q1K:List V->Hp->VK->Prop:=λxs H Q=>∃(a:Addr)(kvs:List (Key×V))(ks:List Str),xs=[.ref a]/\H a=some (.dK kvs)/\kvs.map (·.1)=ks.map Key.inr/\∀l,H l=none->Q (.ref l) (upd H l (.lst (ZQ ks)))
theorem J1{P:Program}{w:World}{k:Str}{v:Value}(h:(qV P w).is (.inr k) v=true):∃t,v=.str k t:=Value.isStrOf_shape h
theorem KF(hc:X.calm=true):zF X (.type "list") q1K:=by
 intro a5 s σ H xs us Q I r h;obtain⟨a,kvs,ks,rfl,ha,hk,q⟩:=h;obtain⟨u,rfl,rx⟩:=QJ r;cases rx;obtain⟨z,lo,vs,dz,dd⟩:=q1D I.hok (.inl ha);obtain⟨ep,fM⟩:=dd.dictAt;have aw:vs.length=kvs.length:=(KV.length dz).symm;refine PySem.W.kdl_call (PySem.W.kdl_dict (knd:=qV X.prog X.w) (kvs:=vs) (ep:=ep) lo) (I.ok.hd hc) fM (by lia) λh' tk a9 c r9 hD aS=>?_;have nL:vs.map (·.1)=ks.map Key.inr:=by rw[<-KV.keys dz];exact hk
 have eB:ks.length=vs.length:=by have:=GM List.length nL;simpa using this.symm
 have hv:Vals (ZQ ks) a9.toList:=by
  refine Paired.of_get ?_ λj x u hx hu=>?_
  ·unfold ZQ
   have:=aS.1;rw[Uw,eB, <-this];simp
  ·obtain⟨k,y,e1,e2⟩:=aS.2 j u (by rw[<-Array.getElem?_toList];exact hu)
   have e3:(ks.map (Key.inr:Str->Key))[j]?=some k:=by rw[<-nL,UW,e1];rfl
   unfold ZQ at hx;rw[UW]at hx e3;cases e4:ks[j]? with
   |none=>rw[e4]at hx;cases hx
   |some z=>
    rw[e4]at hx e3;cases hx;cases e3;exact J1 e2
 refine⟨.ref s.heap.objs.size,_,I.laid (t':=tk) r9 (Ux _) (show ObjOk X.prog X.w _ h' _ (.lst (ZQ ks)) from⟨?_,a9.toList,c,hv,by simpa using hD⟩),rfl,q _ (I.hok.fresh (Ux _))⟩;unfold ZQ;rw[Uw];lia
def LsDS(us:List U)(M:MM)(Q:UK):Prop:=∃(k:Nat)(kvs:List (Key×U))(ks:List Str),us=[.m k]/\M[k]?=some (.dK kvs)/\kvs.map (·.1)=ks.map Key.inr/\Q (.p (.lst (ks.map T.str))) M
def X8(ul:UA):UE:=λρ M Q=>ul ρ M λus M1=>LsDS us M1 Q
theorem q05(ha:ZA n tl ul):ZE (tCB q1K tl) (X8 ul):=⟨λA ι σ H ρ M Qu Q w e q k=>
 ha.h A ι σ H ρ M _ _ w e q λus M1 a7 vs H1 l1 w1 hn r1 zz=>by
  obtain⟨kk,kvs,ks,eu,em,hk,q1⟩:=zz;subst eu;cases r1 with
  |cons r q'=>
  cases q';cases r with
  |m ek=>
  obtain⟨gs,h1,h2⟩:=w1.obj kk _ _ ek em;have hg:gs.map (·.1)=kvs.map (·.1):=by
   clear h1 em hk
   induction h2 with
   |nil=>rfl
   |cons a _ ih=>rw[UZ,UZ,a.1,ih]
  exact⟨_,gs,ks,rfl,h1,hg.trans hk,λl hl=>k _ M1 a7 _ _ (l1.trans (.fresh hl)) (w1.fresh hl) (.p (zm w1 hl (VZ ks))) q1⟩⟩
end
section
variable {P:Program}{w:World}{A:Around}{E:Value->Shared->Prop}{s:Shared}{κ:Type} [DecidableEq κ]
def q5O(P:Program)(w:World)(t:Sem Value)(x:Str):Prop:=∀(A:Around)(E:Value->Shared->Prop)(s:Shared)(Q:Value->Shared->Prop),(∀tk t',Q (.str x t') { s with toks:=tk })->wpAny (model P w) A t Q E s
inductive TextPs(P:Program)(w:World):List (Sem Value×Sem Value)->List (Str×Str)->Prop
 |nil:TextPs P w [] []
 |cons {k v:Sem Value}{x y:Str}{ps:List (Sem Value×Sem Value)}{zs:List (Str×Str)} (hk:q5O P w k x) (hv:q5O P w v y) (r:TextPs P w ps zs):TextPs P w ((k,v)::ps) ((x,y)::zs)
theorem TextPs.len{ps:List (Sem Value×Sem Value)}{zs:List (Str×Str)}(h:TextPs P w ps zs):ps.length=zs.length:=by
 induction h with
 |nil=>rfl
 |cons _ _ _ ih=>rw[UL,UL,ih]
inductive TextV:List (Key×Value)->List (Str×Str)->Prop
 |nil:TextV [] []
 |cons {x y:Str}{t:Tok}{l:List (Key×Value)}{zs:List (Str×Str)} (r:TextV l zs):TextV ((.inr x,.str y t)::l) ((x,y)::zs)
theorem TextV.keys{l:List (Key×Value)}{zs:List (Str×Str)}(h:TextV l zs):l.map (·.1)=zs.map λz=>Key.inr z.1:=by
 induction h with
 |nil=>rfl
 |cons _ ih=>rw[UZ,UZ,ih]
theorem TextV.snoc{l:List (Key×Value)}{zs:List (Str×Str)}{x y:Str}{t:Tok}(h:TextV l zs):TextV (l++[(.inr x,.str y t)]) (zs++[(x,y)]):=by
 induction h with
 |nil=>exact .cons .nil
 |cons _ ih=>exact .cons ih
theorem TextV.len{l:List (Key×Value)}{zs:List (Str×Str)}(h:TextV l zs):l.length=zs.length:=by
 have:=GM List.length h.keys;simpa using this
theorem J3{l:List (κ×Value)}{k:κ}{v:Value}(h:k∉l.map (·.1)):stored l k v=l++[(k,v)]:=by
 unfold stored;rw[GH];intro z;obtain⟨x,hx,e⟩:=List.any_eq_true.mp z;exact h (Dy.mpr ⟨x,hx,Uh e⟩)
theorem Wm{d:Addr}:∀{ps:List (Sem Value×Sem Value)}{zs:List (Str×Str)}{l:List (Key×Value)}{ys:List (Str×Str)}{s:Shared}{Q:PUnit->Shared->Prop},TextPs P w ps zs->TextV l ys->s.heap.DictOf (qV P w) d l->((ys++zs).map (·.1)).Nodup->ys.length+zs.length<=1000 ->
  (∀h' tk l',TextV l' (ys++zs)->h'.DictOf (qV P w) d l'->Heap.SameBut d s.heap h'->Q PUnit.unit { s with heap:=h',toks:=tk }) ->
  wpAny (model P w) A (forIn ps PUnit.unit λ(x:Sem Value×Sem Value) (_:PUnit)=>(do let kv <-x.1;let vv <-holding [kv] x.2;holding [kv,vv] (dictSet d kv vv);pure (ForInStep.yield PUnit.unit):Sem (ForInStep PUnit))) Q E s:=by
 intro ps zs l ys s Q h
 induction h generalizing l ys s with
 |nil=>
  intro hl hd _ _ q;rw[List.forIn_nil];exact GE (by simpa using q s.heap s.toks l (by simpa using hl) hd (Heap.SameBut.refl _ _))
 | @cons k v x y ps zs hk hv r ih=>
  intro hl hd hn hz q;rw[D8];have cB:(Key.inr x:Key)∉l.map (·.1):=by
   rw[hl.keys];intro z;obtain⟨a,ha,e⟩:=Dy.mp z;rw[U7,Dl]at hn;exact hn.2.2 a.1 (Dy.mpr ⟨a,ha,rfl⟩) x (by simp) (Key.inr.inj e)
  have e:ys++(x,y)::zs=(ys++[(x,y)])++zs:=by simp
  rw[UL]at hz;have hll:=hl.len;refine GD (GD (hk _ _ _ _ λtk t=>GD (GK (hv _ _ _ _ λiM t2=>GD (GK (wpAny_dictSet_pairs (hsz:=U1 (qF (by lia))) (xF P w x t) hd λh1 iH s1=>GE ?_))))));rw[J3 cB]at iH;refine ih (ys:=ys++[(x,y)]) hl.snoc iH (by rw[<-e];exact hn) (by simp;lia) λh' re l' a b c=>?_;exact q h' re l' (by rw[e];exact a) b (s1.trans c)
theorem q13{ps:List (Sem Value×Sem Value)}{zs:List (Str×Str)}{Q:Addr->Shared->Prop}(h:TextPs P w ps zs)(iG:15<ps.length)(hn:(zs.map (·.1)).Nodup)(hz:zs.length<=1000)(q:∀h' tk l',TextV l' zs->h'.DictOf (qV P w) s.heap.objs.size l'->(∀c o,s.heap.get? c=some o->h'.get? c=some o)->h'.objs.size=s.heap.objs.size+1->Q s.heap.objs.size { s with heap:=h',toks:=tk }):wpAny (model P w) A (subDict ps) Q E s:=by
 unfold subDict;refine GD (wpAny_alloc (GD (GK ?_)));rw[GH (by lia)];refine GD (Uq ?_);refine GD (Wm (ys:=[]) (l:=[]) h .nil (Heap.DictOf.new _) (by simpa using hn) (by simpa using hz) λh' tk l' a b c=>GE (GE ?_));have a':TextV l' zs:=by simpa using a
 refine q h' tk l' a' b (λx o e=>c.extBut _ _ (UU (Heap.lt_size e)) (Heap.get?_push_of_some _ e)) ?_;rw[c.1,Heap.size_push]
end
section
variable {P:Program}{w:World}{A:Around}{E:Value->Shared->Prop}{s:Shared}{κ:Type} [DecidableEq κ] {knd:KeyKind P w κ}
theorem q3N{d:Addr}{l:List (κ×Value)}{k:κ}{key v:Value}{Q:Unit->Shared->Prop}(hkey:knd.is k key=true)(hm:s.heap.DictOf knd d l)(cB:k∉l.map (·.1))(hz:l.length<=sizeLine)(q:∀h',h'.DictOf knd d (l++[(k,v)])->Heap.SameBut d s.heap h'->Q () { s with heap:=h' }):wpAny (model P w) A (dictPut d (knd.hash k) key v) Q E s:=by
 obtain⟨o,es,ep,ho,hc,hd,hk,hp,hn⟩:=hm;have aw:es.size=l.length:=by have:=hp.length;simpa using this
 have hf:(es.findIdx? λe=>knd.is k e.key)=none:=by
  have h1:(es.findIdx? λe=>knd.is k e.key)=l.findIdx? λkv=>decide (kv.1=k):=by
   rw[<-hp.findIdx k];obtain⟨a⟩:=es;simp
  rw[h1,List.findIdx?_eq_none_iff];intro x hx;exact GI λe=>cB (Dy.mpr ⟨x,hx,e⟩)
 unfold dictPut;refine GD (wpAny_dictFind_of hkey ho hd hk ?_);rw[hf];refine wpAny_updateDictKeys (hz:=by lia) ho hd (q _ ⟨_,_,ep+1,Heap.get?_update_self _ ho (Obj.isFreed_of_dict (Obj.data_mapDictKeys hd _)),hc.mapDictKeys _,Obj.data_mapDictKeys hd _,hk.push hkey _,?_,?_⟩ (Heap.SameBut.update ..))
 ·have z:=hp.append hkey (knd.hash k) v
  obtain⟨a⟩:=es;simpa using z
 ·rw[U7,Dl]
  refine⟨hn,by simp,λa ha b hb e=>?_⟩;simp only[UZ,DG,UJ]at hb;exact cB (by rw[<-hb, <-e];exact ha)
theorem Wi{d o:Addr}{l m:List (κ×Value)}{Q:Unit->Shared->Prop}(ne:d≠o)(m5:(o==sysModules)=false)(hd:s.heap.DictOf knd d l)(ho:s.heap.DictOf knd o m)(h0:l≠[])(hn:((l++m).map (·.1)).Nodup)(hz:l.length+m.length<=sizeLine)(q:∀h',h'.DictOf knd d (l++m)->Heap.SameBut d s.heap h'->Q () { s with heap:=h' }):wpAny (model P w) A (mergeMapping d (.ref o) false) Q E s:=by
 obtain⟨od,nM,epd,h8,di,hZ,e9,rf,nE⟩:=id hd;obtain⟨oo,cr,epo,m6,hco,iN,rg,nN,iA⟩:=id ho;have aw:m.length=cr.size:=by rw[<-nN.length];simp
 have i3:l.length=nM.size:=by rw[<-rf.length];simp
 unfold mergeMapping;refine GD (wpAny_isInstance ho.typeIs isSubtype_dict_dict ?_);dsimp only;rw[GL rfl];refine GD (Ud (name:=Str.ofString "__iter__") ho.typeIs PySem.F.slot_dict_iter.lookup ?_);show wpAny (model P w) A (if(o==sysModules)=true then _ else _) Q E s;rw[GH (by rw[m5];exact UH)];refine GD (Ui h8 hZ ?_);have he:¬nM.isEmpty=true:=λz=>h0 (DN.mp (by rw[i3,Array.isEmpty_iff.mp z];rfl));rw[GH he];refine GD (Ui m6 iN (GD (wpAny_dictEpoch m6 iN (GD ?_))));rw[List.range_eq_range'];refine wpAny_forIn_list _ (λrest _ s'=>∃h' i,s'={ s with heap:=h' }/\rest=List.range' i (cr.size-i)/\i<=cr.size/\h'.DictOf knd d (l++m.take i)/\h'.get? o=some oo/\Heap.SameBut d s.heap h') _ ?_ ?_ _ _ ⟨s.heap,0,rfl,by simp,Db _,by simpa using hd,m6,Heap.SameBut.refl _ _⟩
 ·rintro x rest b s' ⟨h',i,rfl,hr,hi,dv,fS,i4⟩
  have bS:i<cr.size:=by
   rcases Rz i cr.size with h|h
   ·exact h
   ·rw[Nat.sub_eq_zero_of_le h]at hr;simp at hr
  obtain⟨rfl,cg⟩:x=i/\rest=List.range' (i+1) (cr.size-(i+1)):=by
   rw[show cr.size-i=(cr.size-(i+1))+1 by lia,List.range'_succ]at hr;injection hr with h1 h2
   exact⟨h1,h2⟩
  refine GD (Ui fS iN ?_);rw[Array.getElem?_eq_getElem bS];obtain⟨⟨k,v⟩,nO⟩:∃kv,m[x]?=some kv:=⟨m[x]'(by lia),Ut _⟩;obtain⟨hkey,m7⟩:=nN.get? (e:=cr[x]) (by simp[bS]) nO;obtain⟨k',i5,i6⟩:=rg cr[x] (Array.getElem_mem bS);obtain rfl:k'=k:=knd.inj _ _ _ i5 hkey;have htk:m.take (x+1)=m.take x++[(k',v)]:=by rw[DU,nO];rfl
  have cB:k'∉(l++m.take x).map (·.1):=by
   have h1:((l++m.take (x+1)).map (·.1)).Nodup:=hn.sublist (List.Sublist.map _ (List.Sublist.append_left (List.take_sublist _ _) _));rw[htk, <-UN,U7,Dl]at h1;exact λz=>h1.2.2 k' z k' (by simp) rfl
  have rh:(l++m.take x).length<=sizeLine:=by rw[Uu,Dj];lia
  show wpAny (model P w) A ((holding [cr[x].key,cr[x].val] (dictPut d cr[x].hash cr[x].key cr[x].val)) >>= _) _ E _;rw[i6,m7];refine GD (GK (q3N hkey dv cB rh λgT m8 i7=>?_));have eX:gT.get? o=some oo:=(i7.2 o (Ne.symm ne)).trans fS;refine GD (wpAny_dictEpoch eX iN ?_);rw[GH (by simp)];exact GE ⟨gT,x+1,rfl,cg,bS,by rw[htk, <-UN];exact m8,eX,i4.trans i7⟩
 ·rintro b s' ⟨h',i,rfl,hr,hi,dv,fS,i4⟩
  have eT:i=cr.size:=by
   rcases Rz i cr.size with h|h
   ·rw[show cr.size-i=(cr.size-(i+1))+1 by lia,List.range'_succ]at hr;exact nomatch hr
   ·exact Nat.le_antisymm hi h
  rw[eT, <-aw,DY]at dv;exact GE (q h' dv i4)
end
section
variable {P:Program}{w:World}{A:Around}{E:Value->Shared->Prop}{s:Shared}
theorem kO{mn:Option Addr}{f:(Option (Sem Value)×Sem Value)->(Option Addr×List (Sem Value×Sem Value))->Sem (ForInStep (Option Addr×List (Sem Value×Sem Value)))}(hf:∀(p:Sem Value×Sem Value)(run:List (Sem Value×Sem Value)),run.length+1<17->f (some p.1,p.2) (mn,run)=pure (.yield (mn,run++[p]))){rest:List (Option (Sem Value)×Sem Value)} :
  ∀(items run:List (Sem Value×Sem Value)),run.length+items.length<17->forIn ((items.map λp=>(some p.1,p.2))++rest) (mn,run) f=forIn rest (mn,run++items) f
 | [],run,_=>by simp
 |p::items,run,h=>by
  rw[UL]at h;rw[UZ,DD,D8,hf p run (by lia),pure_bind];have:=kO hf (rest:=rest) items (run++[p]) (by simp;lia);simpa using this
theorem Kh:∀{ps:List (Sem Value×Sem Value)}{zs:List (Str×Str)}{s:Shared}{Q:List (Value×Value)->Shared->Prop},TextPs P w ps zs->(∀tk vs kvs,Carries (qV P w) vs kvs->TextV kvs zs->Q vs { s with toks:=tk })->wpAny (model P w) A (evalPairs ps) Q E s:=by
 intro ps zs s Q h
 induction h generalizing s Q with
 |nil=>exact λq=>evalPairs_nil (q s.toks [] [] trivial .nil)
 | @cons k v x y ps zs hk hv r ih=>
  exact λq=>evalPairs_cons (hk _ _ _ _ λtk t=>hv _ _ _ _ λiM t2=>ih λrj vs kvs c e=>q rj _ ((Key.inr x,.str y t2)::kvs) ⟨xF P w x t,rfl,c⟩ (.cons e))
theorem K7{ps:List (Sem Value×Sem Value)}{zs:List (Str×Str)}{Q:Addr->Shared->Prop}(h:TextPs P w ps zs)(iG:ps.length<=15)(hn:(zs.map (·.1)).Nodup)(q:∀h' tk l',TextV l' zs->h'.DictOf (qV P w) s.heap.objs.size l'->(∀c o,s.heap.get? c=some o->h'.get? c=some o)->Q s.heap.objs.size { s with heap:=h',toks:=tk }):wpAny (model P w) A (subDict ps) Q E s:=by
 refine wpAny_subDict (knd:=qV P w) iG (Kh h λtk vs kvs c e=>⟨kvs,c,Heap.DictOf.new _,λh' hd hs=>?_⟩);have hk:(kvs.map (·.1)).Nodup:=by
  rw[e.keys];have:(zs.map λz=>(Key.inr z.1:Key))=(zs.map (·.1)).map Key.inr:=by rw[List.map_map];rfl
  rw[this];exact List.Pairwise.map _ (λa b fE z=>fE (Key.inr.inj z)) hn
 rw[merged_nil_of_nodup kvs hk]at hd;exact q h' _ kvs e hd λc o z=>hs.extBut _ _ (UU (Heap.lt_size z)) (Heap.get?_push_of_some _ z)
theorem TextV.app{l m:List (Key×Value)}{ys zs:List (Str×Str)}(h:TextV l ys)(h':TextV m zs):TextV (l++m) (ys++zs):=by
 induction h with
 |nil=>exact h'
 |cons _ ih=>exact .cons ih
theorem WU{fT b:List (Sem Value×Sem Value)}{p:Sem Value×Sem Value}{za zb:List (Str×Str)}{Q:Value->Shared->Prop}(ha:TextPs P w (fT++[p]) za)(hb:TextPs P w b zb)(rl:fT.length=16)(b0:b≠[])(rm:b.length<=15)(hn:((za++zb).map (·.1)).Nodup)(hs:sysModules<s.heap.objs.size)(q:∀h' tk l',TextV l' (za++zb)->h'.DictOf (qV P w) s.heap.objs.size l'->(∀c o,s.heap.get? c=some o->h'.get? c=some o)->Q (.ref s.heap.objs.size) { s with heap:=h',toks:=tk }):
  wpAny (model P w) A (dictDisplay ((fT++p::b).map λp=>(some p.1,p.2))) Q E s:=by
 have rn:=ha.len;have hlb:=hb.len;rw[Uu,U6]at rn;have fJ:(za.map (·.1)).Nodup:=hn.sublist (List.Sublist.map _ (List.sublist_append_left _ _));have rp:(zb.map (·.1)).Nodup:=hn.sublist (List.Sublist.map _ (List.sublist_append_right _ _));unfold dictDisplay;dsimp only;rw[U7,UZ];rw[kO (λp run h=>by
  have cJ:((run++[(p.1,p.2)]).length==17)=false:=by simp;lia
  simp only[cJ,U9,G2]) fT [] (by simp;lia)]
 rw[D8,Dr];have rq:((fT++[(p.1,p.2)]).length==17)=true:=by simp[rl]
 have i8:(fT++[(p.1,p.2)]).isEmpty=false:=by simp
 simp only[rq,i8,Uc,U9,G2];refine GD (GD (GD (GD (q13 (ps:=fT++[(p.1,p.2)]) ha (by simp;lia) fJ (by lia) λh1 rA l1 e1 d1 k1 z1=>GE (GE ?_)))));dsimp only;rw[<-U2 (List.map (λp:Sem Value×Sem Value=>(some p.1,p.2)) b)];rw[kO (λp run h=>by
  have cJ:((run++[(p.1,p.2)]).length==17)=false:=by simp;lia
  simp only[cJ,U9,G2]) b [] (by simp;lia)]
 rw[List.forIn_nil,Dr];refine GE ?_;dsimp only;have eg:b.isEmpty=false:=by cases b<;>first|exact absurd rfl b0|rfl
 simp only[eg,U9,G2];have cJ:s.heap.objs.size≠h1.objs.size:=by rw[z1];exact UU (Rq _)
 refine GD (GD (GK (K7 (s:={ s with heap:=h1,toks:=rA }) hb rm rp λh2 iM l2 e2 d2 k2=>?_)));have rB:h2.DictOf (qV P w) s.heap.objs.size l1:=by
  obtain⟨o,es,ep,ho,r⟩:=d1;exact⟨o,es,ep,k2 _ o ho,r⟩
 have eN:((l1++l2).map (·.1)).Nodup:=by
  rw[(e1.app e2).keys];have:((za++zb).map λz=>(Key.inr z.1:Key))=((za++zb).map (·.1)).map Key.inr:=by rw[List.map_map];rfl
  rw[this];exact List.Pairwise.map _ (λa b fE z=>fE (Key.inr.inj z)) hn
 have y1:=e1.len;have y2:=e2.len;have m5:(h1.objs.size==sysModules)=false:=beq_eq_false_iff_ne.mpr (by rw[z1];exact Ne.symm (UU (Rh hs)));refine GD (wpAny_onRaise (GK (Wi (s:={ s with heap:=h2,toks:=iM }) cJ m5 rB d2 (λz=>by rw[z]at y1;simp at y1;lia) eN (U1 (qF (by lia))) λh3 d3 s3=>GE (GE ?_))));exact q h3 iM _ (e1.app e2) d3 λc o e=>s3.extBut _ _ (UU (Heap.lt_size e)) (k2 _ _ (k1 _ _ e))
end
section
variable {P:Program}{w:World}{A:Around}{E:Value->Shared->Prop}{s:Shared}
theorem TextPs.cut:∀(n:Nat){ps:List (Sem Value×Sem Value)}{zs:List (Str×Str)},TextPs P w ps zs->TextPs P w (ps.take n) (zs.take n)/\TextPs P w (ps.drop n) (zs.drop n)
 |0,_,_,h=>⟨by simpa using .nil,by simpa using h⟩
 |n+1,_,_,.nil=>⟨by simpa using .nil,by simpa using .nil⟩
 |n+1,_,_,.cons hk hv r=>⟨.cons hk hv (r.cut n).1,(r.cut n).2⟩
theorem KB{ps:List (Sem Value×Sem Value)}{zs:List (Str×Str)}{Q:Value->Shared->Prop}(h:TextPs P w ps zs)(h1:17<zs.length)(h2:zs.length<=32)(hn:(zs.map (·.1)).Nodup)(hs:sysModules<s.heap.objs.size)(q:∀h' tk l',TextV l' zs->h'.DictOf (qV P w) s.heap.objs.size l'->(∀c o,s.heap.get? c=some o->h'.get? c=some o)->Q (.ref s.heap.objs.size) { s with heap:=h',toks:=tk }):
  wpAny (model P w) A (dictDisplay (ps.map λp=>(some p.1,p.2))) Q E s:=by
 have hl:=h.len;have rC:16<ps.length:=by lia
 have nP:ps.take 17=ps.take 16++[ps[16]]:=by rw[List.take_succ,Ut rC];rfl
 have e0:ps=ps.take 16++ps[16]::ps.drop 17:=by
  conv=>lhs;rw[<-RA 17 ps,nP,UN]
  rfl
 have c:=h.cut 17;rw[nP]at c;rw[e0];have ez:zs.take 17++zs.drop 17=zs:=RA _ _;exact WU c.1 c.2 (by rw[Dj];lia) (λz=>by have:=GM List.length z;rw[DC,Dg]at this;lia) (by rw[DC];lia) (by rw[ez];exact hn) hs λh' tk l' a b c=>q h' tk l' (by rw[ez]at a;exact a) b c
inductive ConstPs:List (Option Expr)->List Expr->List (Str×Str)->Prop
 |nil:ConstPs [] [] []
 |cons {x y:Str}{j j':Nat}{p p':Pos}{ks:List (Option Expr)}{vs:List Expr}{zs:List (Str×Str)} (r:ConstPs ks vs zs):ConstPs (some (.Constant (.str x) j p)::ks) (.Constant (.str y) j' p'::vs) ((x,y)::zs)
theorem ConstPs.all{ks:List (Option Expr)}{vs:List Expr}{zs:List (Str×Str)}(h:ConstPs ks vs zs):ks.all (·.isSome)=true/\ks.length=vs.length:=by
 induction h with
 |nil=>exact⟨rfl,rfl⟩
 |cons _ ih=>exact⟨by rw[Rm,ih.1];rfl,by rw[UL,UL,ih.2]⟩
theorem ConstPs.text{ks:List (Option Expr)}{vs:List Expr}{zs:List (Str×Str)}{env:Env}{pos:Pos}(h:ConstPs ks vs zs):TextPs P w (pairTrees ks vs env pos) zs:=by
 induction h with
 |nil=>exact .nil
 | @cons x y j j' p p' ks vs zs r ih=>
  exact .cons (λA E s Q q=>Calls.Constant_str (q _ _)) (λA E s Q q=>GD (Calls.Constant_str (GD (GQ (GE (q _ _)))))) ih
theorem TextV.kv{l:List (Key×Value)}{zs:List (Str×Str)}(h:TextV l zs):KV (zs.map λz=>((.inr z.1:Key),V.str z.2)) l:=by
 induction h with
 |nil=>exact .nil
 |cons _ ih=>exact .cons ⟨rfl,_,rfl⟩ ih
end
def K6(zs:List (Str×Str)):TE:=λ_ H Q=>∀p,H p=none->Q (.ref p) (upd H p (.dK (zs.map λz=>((.inr z.1:Key),V.str z.2))))
theorem q0M{X:Cx}{pos:Pos}{keys:List (Option Expr)}{aX:List Expr}{zs:List (Str×Str)}(c:ConstPs keys aX zs)(h1:17<zs.length)(h2:zs.length<=32)(hn:(zs.map (·.1)).Nodup):QE X (.Dict keys aX pos) (K6 zs):=⟨λa5 s σ H Q I q=>by
 rw[arm_eval_Dict,zip_pairTrees keys aX X.env pos c.all.1 c.all.2];refine GD (GQ (KB c.text h1 h2 hn I.big λh' tk l' a b k=>?_));refine⟨.ref s.heap.objs.size,_,I.laid (t':=tk) k (Ux _) (show ObjOk X.prog X.w _ h' _ (.dK _) from⟨?_,beq_eq_false_iff_ne.mpr (Ne.symm (UU I.big)),l',a.kv,b⟩),rfl,q _ (I.hok.fresh (Ux _))⟩;rw[Uw];exact U1 (qF (by lia))⟩
def q5k(zs:List (Str×Str)):UE:=λ_ M Q=>Q (.m M.length) (M++[.dK (zs.map λz=>((.inr z.1:Key),U.p (.str z.2)))])
theorem Zv{A:Addr->Prop}{ι:List Addr}{H:Hp}:∀(zs:List (Str×Str)),Paired (λ(g:Key×V) (f:Key×U)=>g.1=f.1/\RepU A ι H g.2 f.2) (zs.map λz=>((.inr z.1:Key),V.str z.2)) (zs.map λz=>((.inr z.1:Key),U.p (.str z.2)))
 | []=>.nil
 |_::zs=>.cons ⟨rfl,.p (.str _)⟩ (Zv zs)
theorem q0V{zs:List (Str×Str)}:ZE (K6 zs) (q5k zs):=⟨λA ι σ H ρ M Qu Q w e q k p hp=>
 k _ _ (ι++[p]) _ _ (.push hp) (w.push (mo:=.dK _) hp ⟨_,upd_same,Zv zs⟩) (.m (by rw[<-w.len];exact qK)) q⟩
def q6Y(x y:U)(M:MM)(Q:UK):Prop:=∃xs ys,x=.p (.tup xs)/\y=.p (.tup ys)/\xs.length+ys.length<=sizeLine/\Q (.p (.tup (xs++ys))) M
def q7u(ua ub:UE):UE:=λρ M Q=>ua ρ M λx M1=>ub ρ M1 λy M2=>q6Y x y M2 Q
section
variable {uo:UE}
def KM(uo:UE):UE:=λρ M Q=>uo ρ M λx M1=>∃y,x=.p (.str y)/\y.length<=5000000/\Q (.p (.str (Txt.upper y))) M1
end
def jH(ua:UE):UE:=λρ M Q=>ua ρ M λx M1=>∃ts,x=.p (.tup ts)/\Q (.p (.int ts.length)) M1
theorem q4s{K:PySem.W.Frag}{ta:TE}{ua:UE}(ha:ZE ta ua):ZE (tCB (q60 K) (vH ta tNil)) (jH ua):=⟨λA ι σ H ρ M Qu Q w e q k=>
 ha.h A ι σ H ρ M _ _ w e q λx M1 a7 v H1 l1 w1 r1 zz=>by
  obtain⟨ts,ex,q1⟩:=zz;subst ex;cases r1 with
  |p r=>
  obtain⟨p,vs,rfl,_,h1,g1⟩:=r.tup_inv;refine⟨p,vs,rfl,.inr (SqT.of h1),?_⟩;rw[g1.len];exact k _ M1 a7 _ H1 l1 w1 (.p (.int _)) q1⟩
section
variable {te:TE}
def tX0(te:TE):TX:=λσ H Q _=>te σ H Q
end
section
variable {mg:Str->Option Value}{te:TE}{ue:UE}
def uX0(ue:UE):UXe:=λρ M Q _=>ue ρ M Q
theorem cx_0(h:ZE te ue):ZXe mg (tX0 te) (uX0 ue):=⟨λA ι σ H ρ M Qu Xu Q E w e q k _=>h.h A ι σ H ρ M Qu Q w e q k⟩
end
theorem DGet.f{H:Hp}{a:Addr}{o:Obj}{kvs:List (Key×V)}{k:Key}(e:H a=some (.frz o (.dK kvs))):DGet H a (kV k) (valV kvs k):=.inl ⟨kvs,k,.inr ⟨o,e⟩,rfl,rfl⟩
section
variable {r:Prop}{X:Cx}{e:Expr}{te:TE}
theorem Jg(he:QE X.nox e te):QXe X e (tX0 te):=⟨λa5 s σ H Q E k I h=>GF (he.h a5 s σ H Q (I.wish _) h) (λ_ _ ⟨v,H',I',r,q⟩=>⟨v,H',I'.unwish,r,q⟩) λ_ _ z=>z.elim⟩
end
section
variable {X:Cx}{a b c d:Expr}{ta tb tc td:TE}
theorem qa1(ha:QE X a ta)(h1:zi a=true:=by rfl):QA X [a] (vH ta tNil):=qa_c ha vD h1
theorem qa2(ha:QE X a ta)(hb:QE X b tb)(h1:zi a=true:=by rfl)(h2:zi b=true:=by rfl):QA X [a,b] (vH ta (vH tb tNil)):=qa_c ha (qa1 hb h2) h1
theorem qa3(ha:QE X a ta)(hb:QE X b tb)(hc:QE X c tc)(h1:zi a=true:=by rfl)(h2:zi b=true:=by rfl)(h3:zi c=true:=by rfl):QA X [a,b,c] (vH ta (vH tb (vH tc tNil))):=qa_c ha (qa2 hb hc h2 h3) h1
theorem qa4(ha:QE X a ta)(hb:QE X b tb)(hc:QE X c tc)(hd:QE X d td)(h1:zi a=true:=by rfl)(h2:zi b=true:=by rfl)(h3:zi c=true:=by rfl)(h4:zi d=true:=by rfl):QA X [a,b,c,d] (vH ta (vH tb (vH tc (vH td tNil)))):=qa_c ha (qa3 hb hc hd h2 h3 h4) h1
def qv0:=@qv X 0
def qv1:=@qv X 1
def qv2:=@qv X 2
def qv3:=@qv X 3
def qv4:=@qv X 4
def qv5:=@qv X 5
def qv6:=@qv X 6
def qv7:=@qv X 7
def qv11:=@qv X 11
end
def q6r(tc ta tb:TX):TX:=λσ H Q E=>tc σ H (λx H1=>∃c,x=.bl c/\if c=true then ta σ H1 Q E else tb σ H1 Q E) E
theorem q3x{X:Cx}{c a b:Expr}{tc ta tb:TX}{pos:Pos}(hc:QXe X c tc)(ha:QXe X a ta)(hb:QXe X b tb)(he:∀c3,isTrue c X.env c3=(do let v <-c3;standAt c.pos;holding [v] (truthy v)):=by intro _;rfl):QXe X (.IfExp c a b pos) (q6r tc ta tb):=⟨λa5 s σ H Q E k I h=>by
 refine wpAny_IfExp (isTrue_plain (thn (hc.h a5 s σ H _ E k I h) λv s1 zz=>?_) (he _));obtain⟨x,H1,I1,r1,d,rfl,q1⟩:=zz;cases r1;refine GU ?_;cases d with
 |true=>exact ha.h a5 s1 σ H1 Q E k I1 q1
 |false=>exact hb.h a5 s1 σ H1 Q E k I1 q1⟩
def QK(uc ua ub:UXe):UXe:=λρ M Q X=>uc ρ M (λx M1=>∃c,x=.p (.bl c)/\if c=true then ua ρ M1 Q X else ub ρ M1 Q X) X
theorem q6h{mg:Str->Option Value}{tc tx ty:TX}{uc ux uy:UXe}(hc:ZXe mg tc uc)(ha:ZXe mg tx ux)(hb:ZXe mg ty uy):ZXe mg (q6r tc tx ty) (QK uc ux uy):=⟨λA ι σ H ρ M Qu Xu Q E w e q k kx=>
 hc.h A ι σ H ρ M _ Xu _ E w e q (λx M1 a7 v H1 l1 w1 r1 zz=>by
  obtain⟨c,rfl,q1⟩:=zz;have nQ:∀nm p C d M' ai H',mg nm=some C->PartIs d H' p->Le a7 H1 ai H'->Wd A ai H' M'->Xu nm p M'->E C d H':=λnm p C d M' ai H' hm hp l' w' x'=>kx nm p C d M' ai H' hm hp (l1.trans l') w' x';cases r1 with
  |p r=>
   cases r;refine⟨c,rfl,?_⟩;cases c with
   |true=>exact ha.h A a7 σ H1 ρ M1 _ Xu _ E w1 (e.le l1) q1 (λb M2 af v2 H2 l2 w2 r2 q2=>k b M2 af v2 H2 (l1.trans l2) w2 r2 q2) nQ
   |false=>exact hb.h A a7 σ H1 ρ M1 _ Xu _ E w1 (e.le l1) q1 (λb M2 af v2 H2 l2 w2 r2 q2=>k b M2 af v2 H2 (l1.trans l2) w2 r2 q2) nQ) kx⟩
section
variable {A:Addr->Prop}{H H':Hp}{ι ai:List Addr}{M:MM}{te:TE}{tt:TT}{ue:UE}{ut:UT}{n:Nat}
theorem Wd.takeU{p:Addr}{ys:List V}{us:List U}(w:Wd (λx=>A x\/x=p) ι H M)(ha:¬A p)(hp:H p=some (.lst ys))(r:RepUs (λx=>A x\/x=p) ι H ys us):Wd A (ι++[p]) H (M++[.lst us])/\p∉ι:=by
 have np:p∉ι:=λz=>w.na p z (.inr rfl);have hl:Lea (λx=>A x\/x=p) ι H A (ι++[p]) H:=⟨⟨[p],rfl⟩,λx o hx e=>⟨e,λz=>hx (z.elim (λz=>.inl (.inl z)) λz=>(UD.mp z).elim .inr λz=>.inl (.inr (UJ.mp z)))⟩,λx fs hx e=>⟨λz=>(UD.mp z).elim hx λz=>(by rw[UJ.mp z,hp]at e;cases e),e⟩⟩;refine⟨⟨Dl.mpr ⟨w.nd,by simp,λa ha b hb=>by rw[UJ.mp hb];exact λz=>np (by rw[<-z];exact ha)⟩,by simp[w.len],λx hx=>w.dom x (.inl hx),λx hx z=>?_,λk a ob e1 e2=>?_⟩,np⟩
 ·rcases UD.mp hx with h|h
  ·exact w.na x h (.inl z)
  ·rw[UJ.mp h]at z;exact ha z
 ·by_cases hk:k<ι.length
  ·rw[Uz hk]at e1
   rw[Uz (by rw[<-w.len];exact hk)]at e2;have q:=w.obj k a ob e1 e2;cases ob with
   |lst=>obtain⟨vs,e,q⟩:=q;exact⟨vs,e,Paired.mapP q λ_ _ q=>q.lea hl⟩
   |tup=>obtain⟨vs,e,q⟩:=q;exact⟨vs,e,Paired.mapP q λ_ _ q=>q.lea hl⟩
   |ins=>
    obtain⟨dx,gs,e,ed,nd,q⟩:=q;refine⟨dx,gs,e,ed,λz=>?_,Paired.mapP q λ_ _ q=>⟨q.1,q.2.lea hl⟩⟩;rcases UD.mp z with z|z
    ·exact nd z
    ·rw[UJ.mp z,hp]at ed;cases ed
   |dK=>obtain⟨gs,e,q⟩:=q;exact⟨gs,e,Paired.mapP q λ_ _ q=>⟨q.1,q.2.lea hl⟩⟩
   |dF=>obtain⟨e,q⟩:=q;exact⟨e,Paired.mapP q λ_ _ q=>⟨q.1,q.2.lea hl⟩⟩
   |tab=>
    obtain⟨ps,e,t,z⟩:=q;refine⟨ps,e,t,z.imp id λ⟨c,h1,h2,h3⟩=>⟨c,h1,h2,λy=>?_⟩⟩;rcases UD.mp y with y|y
    ·exact h3 y
    ·rw[UJ.mp y,hp]at h2;cases h2
  ·have h9:=(Us.mp e1).1
   rw[Uu,U6]at h9;have:k=ι.length:=by lia
   subst this;rw[UM (Ux _),Dh]at e1;rw[w.len,UM (Ux _),Dh]at e2;simp at e1 e2;subst e1 e2;exact⟨ys,hp,Paired.mapP r λ_ _ q=>q.lea hl⟩
def q4Y(it:UIt)(ug:UG)(ut:UT)(ue:UE)(dA:UEnv)(M1:MM)(Q:UK):Prop:=it.n<=sizeLine/\∃Iv:Nat->List U->MM->Prop,Iv 0 [] M1 /\
 (∀i a9 M2,i<it.n->a9.length<=i->Iv i a9 M2->it.ok M2/\∀u,it.item i u->ug u dA M2 λcc M4=>ut cc M4 λb M5=>if b=true then ue cc M5 λz M6=>Iv (i+1) (a9++[z]) M6 else Iv (i+1) a9 M5) /\
 (∀a9 M2,Iv it.n a9 M2->it.ok M2/\Q (.m M2.length) (M2++[.lst a9]))
def K0(ui:UI)(bs:List Bool)(n:Nat)(ug:UG)(ut:UT)(ue:UE):UE:=λρ M Q=>ui ρ M λit M1=>ρ.length=bs.length/\q4Y it ug ut ue (Ks bs n ρ) M1 Q
theorem q1H{wi:TI}{ui:UI}{bs:List Bool}{g:TG}{ug:UG}(hi:ZI wi ui)(hg:ZX bs n g ug)(ht:ZT tt ut)(he:ZE te ue):ZE (xu wi bs n g tt te) (K0 ui bs n ug ut ue):=⟨by
 intro A ι σ H ρ M Qu Q w e q k;refine hi.h A ι σ H ρ M _ _ w e q λit M1 a7 J H1 l1 w1 hJ q1 a9 aS=>?_;obtain⟨aw,hsz,Iv,I0,It,Id⟩:=q1;have lU:σ.length=bs.length:=by rw[<-aw];exact e.len
 have e1:=e.le l1;have na:¬Av A a7 a9:=w1.nA aS;have key:∀af H2,Le a7 H1 af H2->(∀x∈af,¬(A x\/x=a9))->Lea A a7 H1 (λx=>A x\/x=a9) af H2:=λaf H2 l h=>by
  refine⟨let⟨n,e,_⟩:=l.ext;⟨n,e⟩,λx o hx ex=>?_,l.xd⟩;obtain⟨a1,a2⟩:=l.av hx ex;refine⟨a1,λz=>?_⟩;rcases z with(z|z)|z
  ·exact a2 (.inl z)
  ·rw[z,aS]at ex;cases ex
  ·exact a2 (.inr z)
 refine⟨λi m H2=>m=it.n-i/\i<=it.n/\∃af M2 bK ys,Le a7 H1 af H2/\Wd (λx=>A x\/x=a9) af H2 M2/\H2 a9=some (.lst ys)/\RepUs (λx=>A x\/x=a9) af H2 ys bK/\bK.length<=i/\Iv i bK M2,
  ⟨it.n,by simp,Db _,a7,M1, [], [],.fresh aS,w1.addA aS,upd_same,.nil,Ux _,I0⟩,?_⟩
 rintro i m H2 ⟨rfl,eT,af,M2,bK,ys,l2,w2,fA,fL,fM,I2⟩;have lea:=key af H2 l2 w2.na;by_cases bS:i<it.n
 ·obtain⟨ok,step⟩:=It i bK M2 bS fM I2
  obtain⟨hG,jy⟩:=(hJ _ af H2 M2 i lea w2 ok).1 bS;refine .inr ⟨hG,λH'=>∃af M2 bK ys,Le a7 H1 af H'/\Wd (λx=>A x\/x=a9) af H' M2/\H' a9=some (.lst ys)/\RepUs (λx=>A x\/x=a9) af H' ys bK/\bK.length<=i+1/\Iv (i+1) bK M2,λH' h=>⟨it.n-(i+1),by lia,rfl,bS,h⟩,λx H3 y=>?_⟩;obtain⟨u,hu,l3,w3,r3⟩:=jy x H3 y;have fN:=l2.trans l3;have cY:∀{ai:List Addr}{H':Hp}{M':MM},Wd (λx=>A x\/x=a9) ai H' M'->a9∉ai:=λw z=>w.na a9 z (.inr rfl);have lV:H3 a9=some (.lst ys):=l3.fr _ _ fA (cY w2);have fO:EnvR (λx=>A x\/x=a9) af H3 (zg bs n σ) (Ks bs n ρ):=(e1.mask).lea (key af H3 fN w3.na);refine hg.h _ af σ H3 _ M2 x u _ _ lU w3 fO r3 (step u hu) λcc ca e4 x4 fP q4=>⟨⟨x4,fP⟩,?_⟩;refine ht.h _ af ca H3 cc M2 _ _ w3 e4 q4 λb M5 dM H5 l5 w5 q5=>?_;have hR:H5 a9=some (.lst ys):=l5.fr _ _ lV (cY w3);have dN:RepUs (λx=>A x\/x=a9) dM H5 ys bK:=Paired.mapP fL λ_ _ q=>(q.le l3).le l5;cases b with
  |false=>exact⟨dM,M5,bK,ys,fN.trans l5,w5,hR,dN,Nat.le_succ_of_le fM,q5⟩
  |true=>
   refine he.h _ dM ca H5 cc M5 _ _ w5 (e4.le l5) q5 λz M6 lW zv H6 l6 w6 r6 q6=>?_;have fQ:H6 a9=some (.lst ys):=l6.fr _ _ hR (cY w5);refine⟨ys,fQ,?_,lW,M6,bK++[z],ys++[zv],((fN.trans l5).trans l6).updF aS,(w6.updA (.inr rfl) fQ).2,upd_same,?_,by rw[Uu,U6];lia,q6⟩
   ·rw[fL.len];lia
   ·have hl:=(w6.updA (o:=.lst (ys++[zv])) (.inr rfl) fQ).1
    exact Paired.app (Paired.mapP dN λ_ _ q=>(q.le l6).lea hl) (.cons (r6.lea hl) .nil)
 ·have ei:i=it.n:=by lia
  subst ei;obtain⟨ok,fin⟩:=Id bK M2 I2;obtain⟨w3,l3⟩:=w2.takeU (λz=>na (.inl z)) fA fL;exact .inl ⟨(hJ _ af H2 M2 _ lea w2 ok).2 rfl,k _ _ (af++[a9]) _ H2 (l1.trans (l2.pushed aS l3)) w3 (.m (by rw[<-w2.len];exact qK)) fin⟩⟩
end
end L2
set_option maxHeartbeats 4000000
namespace Mw
open PySem L2 PyProof.Rows
theorem YH{k j:Nat}{A:Around}(r:Room k A)(h:j<=k:=by first|decide|exact Ux _):Room j A:=r.mono h
theorem YJ{i:Int}:ZE (tC (.int i)) (uC (.int i)):=ce_c (.int i)
theorem Wo{i:Str}:ZE (tC (.str i)) (uC (.str i)):=ce_c (.str i)
theorem Gx{α:Type}{a:α}{b:Prop}:a=a\/b:=Or.inl rfl
local macro_rules|`(tactic|walk_at "hp")=>`(tactic|first|assumption|exact upd_same|(refine zG (by assumption) ?_; walk_at "hp")|(refine jR (by first|assumption|(apply Ne.symm; assumption)) ?_; walk_at "hp"))
local macro_rules|`(tactic|walk_at "go")=>`(tactic|repeat (first|(simp only[L2.start,tSeq,QN,tAsg,tOp,tUn,tVar,tC,qT,gSub,tRet,q1G,tIfS,VW,tLM,tTru,zC,tBM,tBM0,tRev,Jc,xu,Jf,jU,jT,Vd,jV,q0r,tSl,zH,VU,rd_I,q0Y,rd_U,Vb,q1F,tCB,vH,tNil,tTup,tLst,tYes,tAnd,tOr,tNot,tB,tIf,VX,tOrV,q0A,QM,q1b,q0l,q0i,List.getElem?_cons_zero,List.getElem?_cons_succ,Option.some.injEq,exists_eq_left',List.set_cons_zero,List.set_cons_succ,zg,List.zip_cons_cons,List.zip_nil_left,List.zip_nil_right,List.map_cons,List.map_nil,List.length_cons,List.length_nil,List.replicate,List.append_nil,List.nil_append,List.cons_append,Bool.false_eq_true,if_true,if_false,decide_eq_true_eq,Nat.zero_add,xl,xk])|refine Wx (by walk_at "hp") rfl ?_|refine q5q (by walk_at "hp") rfl ?_|refine Wx (by walk_at "hp") at0 ?_|refine q2T (by walk_at "hp") rfl ?_|refine q6l (by walk_at "hp") ?_|refine JA (by walk_at "hp") ?_|refine Jz (by walk_at "hp") ?_|refine q7o (by walk_at "hp") ?_|refine q6L (by walk_at "hp") ?_|refine WR rfl ?_|refine q6T rfl ?_))
section
variable {P:Program}{w:World}{K:PySem.W.Frag}{mg:Str->Option Value}{base:Heap}
abbrev sBag:Stmt:=top 69
theorem scBag:q00 ["script","stir","cell"] ["script"] (qd sBag):=by ac_rfl
abbrev q0t:Stmt:=top 70
theorem scDraw:q00 ["bag","many","found"] ["bag","many"] (qd q0t):=by ac_rfl
structure BagAt(H:Hp)(b:Addr):Prop where
 ex:∃(c:Addr)(ns:List Int)(i a st n:Int),H b=some (.lst [.ref c,.int i,.int a,.int st,.int n])/\H c=some (.lst (ns.map V.int))/\0<=i/\i<=ns.length/\ns.length<=63/\(∀x∈ns,0<=x)/\0<=a/\0<=st/\st<2147483647
def q3A(K:PySem.W.Frag):Sp:=λvs H Q _=>∃(a:Addr)(ns:List Int),vs=[.ref a]/\SqL K H a (ns.map V.int)/\ns.length<=63/\∀(b:Addr)(H':Hp),H b=none->Same H H'->BagAt H' b->Q (.ref b) H'
theorem q6q(ns:List Int)(h:ns.length<=63):cutV (ns.map V.int) none (some 63)=ns.map V.int:=by
 unfold cutV;have e1:HT.sIx (ns.map V.int).length 0 none=0:=rfl;have e2:HT.sIx (ns.map V.int).length (ns.map V.int).length (some 63)=min 63 (ns.map V.int).length:=HT.sIx_nat _ _ 63;rw[e1,e2];simp only[List.drop_zero,Uw];rw[Ru];simp;lia
theorem Jy{ns:List Int}{i:Nat}{y:V}(h:(ns.map V.int)[i]?=some y):∃z,y=V.int z/\ns[i]?=some z:=by
 rw[UW]at h;cases e:ns[i]? with
 |none=>rw[e]at h;cases h
 |some z=>rw[e]at h;exact⟨z,(Option.some.inj h).symm,rfl⟩
theorem q5h{f:Addr}{fd:FuncData}(F:Fun K "_law_bag" "_law_bag" sBag f fd)(N:Nms mg):FnOk P w K mg base CX0 1 f fd ["script"] (q3A K):=by
 refine F.okQ scBag (λvs H Q E h=>?_) (λae A outer s H vs Q E hr h=>?_)
 ·obtain⟨a,ns,rfl,_⟩:=h
  rfl
 ·obtain⟨a,ns,rfl,hS,aw,k⟩:=h
  refine⟨_,(qb (qB (i:=1) scBag.nd rfl Gx qa) (qb (xp PassesOwn.never rfl (v8 (K:=K) rfl (zr (QU (K:=K) rfl) qv0 xD (xC qa))) (vb (i:=2) scBag.nd rfl Gx) (qe (qB (i:=1) scBag.nd rfl Gx (qC xq (qC vq (qC vq (qC ku qv1 qa) (qC xq qv2 qa)) qa) qa)))) (qe (qt (qG (qa_c (Ke [false,false,false] [] (v8 (K:=K) rfl (zr (QU (K:=K) rfl) qv0 xD (xC qa))) (λ_ _ _=>(vb (i:=2) scBag.nd rfl Gx)) (λ_ _ _=>zq) (λ_ _ _=>(qC xq (qH JV (by rfl) N.abs q6A (qa1 qv2)) (qC Jl qa qa)))) (qa4 qa qa qv1 qa))))))),?_⟩;refine⟨_,rfl,_,rfl,a,_,rfl,hS,λp hp=>?_⟩;rw[q6q ns aw];refine⟨p,rfl,⟨_,SqL.of upd_same⟩,q0q (K:=K) (a:=p) (xs:=ns.map V.int) (λi σ H2=>∃(st:Int)(v:Option V),σ=[some (.ref a),some (.int st),v]/\0<=st/\st<2147483647/\H2=upd H p (.lst (ns.map V.int)))
   ⟨17,none,rfl,by decide,by decide,rfl⟩ (λi σ H2 _ zz=>by obtain⟨_,_,_,_,_,e⟩:=zz;rw[e];exact SqL.of upd_same) ?_ ?_⟩
  ·rintro i y σ H2 hi ⟨st,v,rfl,h0,h1,rfl⟩
   obtain⟨z,rfl,_⟩:=Jy hi
   (simp only[L2.start,tSeq,QN,tAsg,tOp,tUn,tVar,tC,qT,gSub,tRet,q1G,tIfS,VW,tLM,tTru,zC,tBM,tBM0,tRev,Jc,xu,Jf,jU,jT,Vd,jV,q0r,tSl,zH,VU,rd_I,q0Y,rd_U,Vb,q1F,tCB,vH,tNil,tTup,tLst,tYes,tAnd,tOr,tNot,tB,tIf,VX,tOrV,q0A,QM,q1b,q0l,q0i,Du,DO,Option.some.injEq,exists_eq_left',DP,DQ,zg,Re,Rk,Rf,UZ,DG,UL,Dg,List.replicate,U2,Dr,DD,U9,Uc,G2,Uj,DW,xl,xk]);refine⟨.inr ⟨by decide,by decide⟩,by decide,by decide,_,_,rfl,Dt _ (by decide),Do _ (by decide),trivial⟩
  ·rintro σ H2 ⟨st,v,rfl,h0,h1,rfl⟩
   have rD:SqL K (upd H p (.lst (ns.map V.int))) a (ns.map V.int):=((Same.refl H).upd hp).seq hS;refine⟨_,rfl,_,rfl,a,_,rfl,rD,λp2 gN=>?_⟩;rw[q6q ns aw];obtain⟨f2,n2⟩:=Vz gN;refine⟨p2,rfl,⟨_,SqL.of upd_same⟩,λa9 aS=>?_⟩;obtain⟨g1,n3⟩:=Vz aS;obtain⟨g2,n4⟩:=Vz g1;refine Gb (xs:=ns.map V.int) (λi H3=>∃ys:List Int,H3 a9=some (.lst (ys.map V.int))/\ys.length=i/\(∀y∈ys,0<=y)/\H3 p2=some (.lst (ns.map V.int))/\Same H H3) ?_ ?_ ?_ ?_
   ·exact⟨[],upd_same,rfl,(λ_ h=>nomatch h),zG aS upd_same,(((Same.refl H).upd hp).upd f2).upd g2⟩
   ·rintro i H3 _ ⟨ys,_,_,_,e,_⟩
    exact SqL.of e
   ·rintro i y H3 hi ⟨ys,e1,e2,e3,e4,e5⟩
    obtain⟨z,rfl,hz⟩:=Jy hi;have ec:i<ns.length:=(Us.mp hz).1
    (simp only[L2.start,tSeq,QN,tAsg,tOp,tUn,tVar,tC,qT,gSub,tRet,q1G,tIfS,VW,tLM,tTru,zC,tBM,tBM0,tRev,Jc,xu,Jf,jU,jT,Vd,jV,q0r,tSl,zH,VU,rd_I,q0Y,rd_U,Vb,q1F,tCB,vH,tNil,tTup,tLst,tYes,tAnd,tOr,tNot,tB,tIf,VX,tOrV,q0A,QM,q1b,q0l,q0i,Du,DO,Option.some.injEq,exists_eq_left',DP,DQ,zg,Re,Rk,Rf,UZ,DG,UL,Dg,List.replicate,U2,Dr,DD,U9,Uc,G2,Uj,DW,xl,xk]);refine⟨⟨by(repeat (first|exact ExtS.nl|refine ExtS.sm ?_|refine ExtS.no ?_)),trivial⟩,⟨by decide,by decide,by decide⟩,by decide,ys.map V.int,e1,qF (by simp;lia),ys++[(if z<0 then -z else z) % 10^(60:Int).toNat],?_,by simp[e2],?_,jR n3.symm e4,e5.upd g2⟩
    ·rw[upd_same,U7];rfl
    ·intro y hy
     rcases UD.mp hy with h|h
     ·exact e3 y h
     ·rw[UJ.mp h];exact Dt _ (by decide)
   ·rintro H3 ⟨ys,e1,e2,e3,e4,e5⟩
    rw[Uw]at e2
    (simp only[L2.start,tSeq,QN,tAsg,tOp,tUn,tVar,tC,qT,gSub,tRet,q1G,tIfS,VW,tLM,tTru,zC,tBM,tBM0,tRev,Jc,xu,Jf,jU,jT,Vd,jV,q0r,tSl,zH,VU,rd_I,q0Y,rd_U,Vb,q1F,tCB,vH,tNil,tTup,tLst,tYes,tAnd,tOr,tNot,tB,tIf,VX,tOrV,q0A,QM,q1b,q0l,q0i,Du,DO,Option.some.injEq,exists_eq_left',DP,DQ,zg,Re,Rk,Rf,UZ,DG,UL,Dg,List.replicate,U2,Dr,DD,U9,Uc,G2,Uj,DW,xl,xk]);refine⟨by decide,λb hb=>?_⟩;refine k b _ (e5.free hb) (e5.upd (e5.free hb)) ⟨a9,ys,0,0,st,0,upd_same,zG hb e1,by decide,by lia,by lia,e3,by decide,h0,h1⟩
theorem Gq{H:Hp}{b c:Addr}{ns:List Int}{i a st n:Int}(hb:H b=some (.lst [.ref c,.int i,.int a,.int st,.int n]))(hc:H c=some (.lst (ns.map V.int))):c≠b:=by
 intro e;subst e;rw[hb]at hc;injection hc with hc
 injection hc with hc
 cases ns with
 |nil=>cases hc
 |cons z r=>cases hc
def xW(H:Hp)(b c:Addr):Prop:=∃r,H b=some (.lst (.ref c::r))
theorem Zh{H H':Hp}{b c:Addr}{r r':List V}(h:H b=some (.lst (.ref c::r)))(h':H' b=some (.lst (.ref c::r'))):∀c',xW H b c'->xW H' b c':=λc' zz=>by
 obtain⟨q,e⟩:=zz;rw[h]at e;injection e with e
 injection e with e
 injection e with e _
 injection e with e
 subst e;exact⟨r',h'⟩
theorem q1g{H:Hp}{b c c':Addr}(h:xW H b c)(h':xW H b c'):c=c':=by
 obtain⟨q,e⟩:=h;obtain⟨q',e'⟩:=h';rw[e]at e';injection e' with e'
 injection e' with e'
 injection e' with e' _
 injection e'
def q3t:Sp:=λvs H Q _=>∃(b:Addr)(a6:Int),vs=[.ref b,.int a6]/\BagAt H b/\0<a6/\a6.natAbs.log2<9000/\∀(aK:Int)(H':Hp),0<=aK->aK<a6->BagAt H' b->(∀x,x≠b->H' x=H x)->(∀c,xW H b c->xW H' b c)->Q (.int aK) H'
theorem BagAt.put{H:Hp}{b p c0:Addr}{o:HO}(h:BagAt H b)(hh:xW H b c0)(n1:p≠b)(n2:p≠c0):BagAt (L2.upd H p o) b:=by
 obtain⟨c,ns,i,a,st,n,hb,hc,r⟩:=h.ex;have e:c0=c:=by
  obtain⟨q,e⟩:=hh;rw[hb]at e;injection e with e
  injection e with e
  injection e with e _
  injection e with e
  exact e.symm
 subst e;exact⟨c0,ns,i,a,st,n,jR n1.symm hb,jR n2.symm hc,r⟩
theorem q1u{f:Addr}{fd:FuncData}(F:Fun K "_law_draw" "_law_draw" q0t f fd)(N:Nms mg):FnOk P w K mg base CX0 1 f fd ["bag","many"] q3t:=by
 refine F.okQ scDraw (λvs H Q E h=>?_) (λae A outer s H vs Q E hr h=>?_)
 ·obtain⟨b,m,rfl,_⟩:=h
  rfl
 ·obtain⟨b,a6,rfl,⟨c,ns,i,a,st,n,hb,hc,i0,i1,hl,cR,a0,s0,s1⟩,m0,mb,k⟩:=h
  have rE:=Gq hb hc;refine⟨_,(qb (qP (Xi (V4 (qi op_eq (qj (qf (K:=K) rfl) qv0 qa (λ_ _=>rfl)) qa (qm _)) (Ve (qi Ki (qj (qf (K:=K) rfl) qv0 qa (λ_ _=>rfl)) (qH zn (by rfl) N.len Qe (qa1 (qj (qf (K:=K) rfl) qv0 qa (λ_ _=>rfl)))) (qm _))))) (qb (vh (qj (qf (K:=K) rfl) (qj (qf (K:=K) rfl) qv0 qa (λ_ _=>rfl)) (qj (qf (K:=K) rfl) qv0 qa (λ_ _=>rfl)) (λ_ _=>rfl)) (vp qv0 qa qQ)) (qe (vh (qC vq (qj (qf (K:=K) rfl) qv0 qa (λ_ _=>rfl)) qa) (vp qv0 qa qQ)))) (qe (qP (qi op_eq (qj (qf (K:=K) rfl) qv0 qa (λ_ _=>rfl)) qa (qm _)) (qb (vh (qC vq (qj (qf (K:=K) rfl) qv0 qa (λ_ _=>rfl)) qa) (vp qv0 qa qQ)) (qb (vh (qC xq (qC vq (qC vq (qC vq (qC Jl (qj (qf (K:=K) rfl) qv0 qa (λ_ _=>rfl)) qa) (qC ku qa (qj (qf (K:=K) rfl) qv0 qa (λ_ _=>rfl)))) (qC ku qa (qj (qf (K:=K) rfl) qv0 qa (λ_ _=>rfl)))) qa) qa) (vp qv0 qa qQ)) (qe (qt (qC xq (qC Vh (qj (qf (K:=K) rfl) qv0 qa (λ_ _=>rfl)) qa) qv1))))) qx))) (qb (qB (i:=2) scDraw.nd rfl Gx (qC xq (qj (qf (K:=K) rfl) qv0 qa (λ_ _=>rfl)) qv1)) (qb (vh (qC Vh (qj (qf (K:=K) rfl) qv0 qa (λ_ _=>rfl)) qv1) (vp qv0 qa qQ)) (qe (qt qv2))))),?_⟩;rfl';have fin:∀(z:Int)(H':Hp)(i' a' cO n':Int),0<=z->H' b=some (.lst [.ref c,.int i',.int (z / a6),.int cO,.int n'])->(∀x,x≠b->H' x=H x)->0<=i'->i'<=ns.length->0<=cO->cO<2147483647->Q (.int (z % a6)) H':=λz H' i' a' cO n' hz e1 e2 e3 e4 e5 e6=>
   k _ _ (Dt _ (by lia)) (Do _ m0) ⟨c,ns,i',z / a6,cO,n',e1,by rw[e2 c rE];exact hc,e3,e4,hl,cR,Int.ediv_nonneg hz (by lia),e5,e6⟩ e2 (Zh hb e1)
  refine ite2 (λha=>?_) (λha=>?_)
  ·rfl'
   refine ite2 (λhi=>?_) (λhi=>?_)
   ·rw[Uw]at hi
    obtain⟨j,rfl⟩:∃j:Nat,i=(j:Int):=⟨i.toNat,by lia⟩;have hj:j<ns.length:=by lia
    rfl';refine Wx hc (zd (v:=.int ns[j]) (by rw[UW,Ut hj];rfl)) ?_;rfl';refine⟨m0,?_⟩;rfl';refine⟨⟨m0,mb⟩,?_⟩;rfl';exact fin _ _ (j+1) 0 st n (cR _ (Rr hj)) upd_same (λx hx=>by rw[upd_ne hx,upd_ne hx,upd_ne hx]) (by lia) (by lia) s0 s1
   ·rfl'
    rw[GL ha];rfl';refine⟨⟨by decide,by decide,by lia⟩,?_⟩;rfl';refine⟨.inl ⟨by decide,by decide⟩,?_⟩;rfl';refine⟨.inl ⟨by decide,by decide⟩,by decide,?_⟩;rfl';refine⟨⟨by decide,by decide⟩,m0,?_⟩;refine k _ _ (Dt _ (by lia)) (Do _ m0) ⟨c,ns,i,a,_,n+1,upd_same,?_,i0,i1,hl,cR,a0,Dt _ (by decide),Do _ (by decide)⟩ (λx hx=>by rw[upd_ne hx,upd_ne hx]) (Zh hb upd_same);walk_at "hp"
  ·rfl'
   rw[GH ha];rfl';refine⟨m0,?_⟩;rfl';refine⟨⟨m0,mb⟩,?_⟩;rfl';exact fin _ _ i 0 st n a0 upd_same (λx hx=>by rw[upd_ne hx]) i0 i1 s0 s1
def MB(M:MM)(k:Nat)(o:MO)(L:List MO):MM:=M.set k o++L
theorem q2h{M:MM}{k:Nat}{o:MO}{L:List MO}:(MB M k o L).length=M.length+L.length:=by unfold MB;rw[Uu,UB]
theorem q2m{M:MM}{k:Nat}{o x:MO}{L:List MO}:MB M k o L++[x]=MB M k o (L++[x]):=by unfold MB;rw[UN]
theorem MB_get{M:MM}{k i:Nat}{o:MO}{L:List MO}:(MB M k o L)[M.length+i]?=L[i]?:=by
 unfold MB;rw[UM (by rw[UB];lia),UB,Rn]
theorem ju{M:MM}{k i:Nat}{o x:MO}{L:List MO}(h:L[i]?=some x:=by rfl):(MB M k o L)[M.length+i]?=some x:=MB_get.trans h
theorem q6k{M:MM}{k i:Nat}{o x:MO}{L:List MO}:(MB M k o L).set (M.length+i) x=MB M k o (L.set i x):=by
 unfold MB;rw[Dp _ _ (by rw[UB];lia),UB,Rn]
theorem ZF{M:MM}{k:Nat}{o:MO}{L:List MO}(h:k<M.length):(MB M k o L)[k]?=some o:=by
 unfold MB;rw[Uz (by rw[UB];exact h),UC h]
theorem xb{M:MM}{k:Nat}{o o':MO}{L:List MO}(h:k<M.length):(MB M k o L).set k o'=MB M k o' L:=by
 unfold MB;rw[List.set_append_left _ _ (by rw[UB];exact h),Dx]
theorem jt{M:MM}{k:Nat}{o:MO}{L:List MO}:(MB M k o L).take M.length=M.set k o:=by
 unfold MB;rw[List.take_left' (by rw[UB])]
theorem xn{M:MM}{k:Nat}{o:MO}(h:M[k]?=some o):k<M.length/\M=MB M k o []:=by
 refine⟨(Us.mp h).1,?_⟩;unfold MB;rw[U2];obtain⟨hk,rfl⟩:=Us.mp h;rw[List.set_getElem_self]
theorem js{M:MM}{k:Nat}{o:MO}{L:List MO}(h:PurO o):zo M (MB M k o L):=λi x hi e=>by
 unfold MB at e;rw[Uz (by rw[UB];exact hi)]at e;by_cases hk:k=i
 ·subst hk
  rw[UC hi]at e;cases e;exact .inr h
 ·rw[Uv hk]at e
  exact .inl e
structure BagO(o:MO):Prop where
 ex:∃(ns:List Int)(i a st n:Int),o=.lst [.p (q1a ns),.p (.int i),.p (.int a),.p (.int st),.p (.int n)]/\0<=i/\i<=ns.length/\ns.length<=63/\(∀x∈ns,0<=x)/\0<=a/\0<=st/\st<2147483647
theorem BagO.pur{o:MO}(h:BagO o):PurO o:=by
 obtain⟨ns,i,a,st,n,rfl,_⟩:=h.ex;exact⟨[q1a ns,.int i,.int a,.int st,.int n],rfl⟩
def jN:List U->MM->UK->Prop:=λus M Q=>∃(k:Nat)(o:MO)(a6:Int),us=[.m k,.p (.int a6)]/\M[k]?=some o/\BagO o/\0<a6/\a6.natAbs.log2<9000/\∀(aK:Int)(o':MO),0<=aK->aK<a6->BagO o'->Q (.p (.int aK)) (M.set k o')
theorem qE{M:MM}{k:Nat}{o:MO}{L:List MO}{a6:Int}{Q:UK}(hk:k<M.length)(B:BagO o)(h0:0<a6)(h1:a6.natAbs.log2<9000)(q:∀(aK:Int)(o':MO),0<=aK->aK<a6->BagO o'->Q (.p (.int aK)) (MB M k o' L)):jN [.m k,.p (.int a6)] (MB M k o L) Q :=
 ⟨k,o,a6,rfl,ZF hk,B,h0,h1,λf o' f0 f1 B'=>by rw[xb hk];exact q f o' f0 f1 B'⟩
theorem q0R{A:Addr->Prop}{H:Hp}{v:V}{ns:List Int}(r:RepT A H v (q1a ns)):∃p,v=.ref p/\¬A p/\H p=some (.lst (ns.map V.int)):=by
 obtain⟨p,vs,rfl,na,h,q⟩:=r.lst_inv;refine⟨p,rfl,na,?_⟩;have:vs=ns.map V.int:=by
  clear h r na
  induction ns generalizing vs with
  |nil=>cases q;rfl
  |cons n ns ih=>
   cases q with
   |cons a b=>cases a;rw[ih _ b];rfl
 rw[h,this]
theorem Jv{A:Addr->Prop}{H:Hp}{p:Addr}{ns:List Int}(na:¬A p)(h:H p=some (.lst (ns.map V.int))):RepT A H (.ref p) (q1a ns):=by
 refine .lstP na h ?_
 induction ns with
 |nil=>exact .nil
 |cons n ns ih=>exact .cons (.int n) (by
   clear h ih
   induction ns with
   |nil=>exact .nil
   |cons n ns ih=>exact .cons (.int n) ih)
theorem q35{A:Addr->Prop}{ι:List Addr}{H:Hp}{b:Addr}{o:MO}(hb:BagO o)(r:ObjR A ι H b o):BagAt H b/\∃c,xW H b c/\¬Av A ι c/\∃ns:List Int,H c=some (.lst (ns.map V.int)):=by
 obtain⟨ns,i,a,st,n,rfl,k⟩:=hb.ex;obtain⟨vs,h,q⟩:=r;cases q with
 |cons q1 q=>
 cases q with
 |cons q2 q=>
 cases q with
 |cons q3 q=>
 cases q with
 |cons q4 q=>
 cases q with
 |cons q5 q=>
 cases q;cases q1 with
 |p q1=>
 obtain⟨c,rfl,nc,hc⟩:=q0R q1;cases q2 with
 |p q2=>
 cases q3 with
 |p q3=>
 cases q4 with
 |p q4=>
 cases q5 with
 |p q5=>
 cases q2;cases q3;cases q4;cases q5;exact⟨⟨c,ns,i,a,st,n,h,hc,k⟩,c,⟨_,h⟩,nc,ns,hc⟩
theorem JX{A:Addr->Prop}{ι:List Addr}{H:Hp}{b c:Addr}(B:BagAt H b)(hd:xW H b c)(nc:¬Av A ι c):∃o,BagO o/\ObjR A ι H b o/\∃x,H b=some x/\∀H',H' b=some x->(∀y z,H y=some z->y≠b->H' y=some z)->ObjR A ι H' b o:=by
 obtain⟨c',ns,i,a,st,n,h,hc,k⟩:=B.ex;have:c=c':=q1g hd ⟨_,h⟩;subst this;have m9:c≠b:=Gq h hc;refine⟨_,⟨ns,i,a,st,n,rfl,k⟩,⟨_,h,.cons (.p (Jv nc hc)) (.cons (.p (.int _)) (.cons (.p (.int _)) (.cons (.p (.int _)) (.cons (.p (.int _)) .nil))))⟩,_,h,λH' e f=>⟨_,e,.cons (.p (Jv nc (f _ _ hc m9))) (.cons (.p (.int _)) (.cons (.p (.int _)) (.cons (.p (.int _)) (.cons (.p (.int _)) .nil))))⟩⟩
theorem q1i{f:Addr}{fd:FuncData}(F:Fun K "_law_draw" "_law_draw" q0t f fd)(N:Nms mg):FnOk P w K mg base CX0 1 f fd ["bag","many"] (spU jN):=by
 refine(q1u F N).imp λvs H Q E h=>?_;obtain⟨A,ι,M,us,Qu,w1,r,⟨k,o,a6,rfl,em,hb,h0,h1,q⟩,kk⟩:=h;cases r with
 |cons r1 r=>
 cases r with
 |cons r2 r=>
 cases r;cases r2 with
 |p r2=>
 cases r2;cases r1 with
 |m ek=>
 rename_i b;have ro:=w1.obj k b o ek em;obtain⟨B,c,hd,nc,ns,lg⟩:=q35 hb ro;refine⟨b,a6,rfl,B,h0,h1,λaK H' f0 f1 B' fr rF=>?_⟩;have dv:=rF c hd;have cE:=Uy ek;obtain⟨o',ma,rG,x,hx,_⟩:=JX (A:=A) (ι:=ι) B' dv nc;have eH:H'=L2.upd H b x:=by
  funext y;by_cases z:y=b
  ·subst z;rw[L2.upd_same];exact hx
  ·rw[L2.upd_ne z];exact fr y z
 subst eH;exact kk _ _ ι _ _ (.put cE) (w1.put ek rG) (.p (.int _)) (q aK o' f0 f1 ma)
theorem up1{a:T}{R:T->Prop}:(∃t,U.p a=.p t/\R t)=R a:=propext ⟨λzz=>by obtain⟨_,e,h⟩:=zz;cases e;exact h,λh=>⟨a,rfl,h⟩⟩
theorem q6y{M:MM}{u a b:U}{R:U->U->Prop}(h:vB M u=some [a,b])(q:R a b):T2S M u R:=⟨a,b,h,q⟩
theorem q57{M:MM}{u a b c:U}{R:U->U->U->Prop}(h:vB M u=some [a,b,c])(q:R a b c):T3S M u R:=⟨a,b,c,h,q⟩
theorem useq{a b:US}{E:q01}{ρ:UEnv}{M:MM}(h:a { E with nx:=b E } ρ M):uSeq a b E ρ M:=h
local macro_rules|`(tactic|walk_at "us")=>`(tactic|first|walk_at "vs" |simp only[uSeq])
local macro_rules|`(tactic|walk_at "u")=>`(tactic|repeat (first|walk_at "us" |refine qX rfl ?_|refine qX at0 ?_|refine qX at1 ?_|refine vc rfl ?_|refine q6y rfl ?_|refine q57 rfl ?_|refine Vq rfl ?_|refine kJ rfl ?_|refine Vq ju ?_|refine kJ ju ?_))
local macro_rules|`(tactic|walk_at "vs")=>`(tactic|simp only[zI,q3a,uAsg,KQ,q1n,q19,q4Q,q4A,uC,q6g,uNil,q6Q,q50,q7m,q6m,q5j,q5F,q5p,q4Z,q56,q5g,uIsN,XF,q4z,q5f,q64,q3l,rd_b,q2X,q5t,q3I,uAnd,uOr,uNot,uIf,q0S,q4N,q6S,q2N,q3r,Ys,q5U,q6j,uNew,q5w,q7z,q4v,q3S,q6N,q2F,q3H,q4e,q3L,q3Z,q4K,q36,q7C,q4T,q3v,Yt,q5y,q5J,q4r,q06,q3j,uFor,q5S,Ks,q7y,q70,q0k,q0x,q1w,q7B,q4U,q5X,uRet,q71,uIfS,uYes,ss,uIsi,q6O,isU,isT,uIxK,uInK,vt,q72,q5I,q4i,q4c,q1k,q6b,q4X,q3X,q7b,q6Z,q1m,q7E,q5A,Yw,q3K,q4o,Yr,Bool.or_true,Bool.true_or,Bool.or_false,Bool.false_or,uIfC,q0B,q04,q6z,q33,up1,frzB_p,frzN_p,MO.lst.injEq,q39,X7,q2m,q2h,MB_get,q6k,Option.some.injEq,List.map_cons,List.map_nil,List.length_cons,List.length_nil,List.replicate,List.append_nil,List.nil_append,List.cons_append,List.getElem?_cons_zero,List.getElem?_cons_succ,List.set_cons_zero,List.set_cons_succ,List.zip_cons_cons,List.zip_nil_left,List.zip_nil_right,Bool.false_eq_true,if_true,if_false,decide_eq_true_eq,decide_true,decide_false,Bool.not_true,Bool.not_false,true_and,and_true,Nat.reduceAdd,Nat.reduceSub,Nat.zero_add,exists_eq_left'])
local macro_rules|`(tactic|walk_at "v")=>`(tactic|repeat (first|with_reducible refine useq ?_|walk_at "vs"|((with_reducible refine gdIx ?_); first|refine qX rfl ?_|refine qX at0 ?_|refine qX at1 ?_|refine vc rfl ?_)|((with_reducible refine gdT2 ?_); refine q6y rfl ?_)|((with_reducible refine gdT3 ?_); refine q57 rfl ?_)|((with_reducible refine gdMe ?_); first|refine Vq rfl ?_|refine Vq ju ?_)|((with_reducible refine q75 ?_); first|refine kJ rfl ?_|refine kJ ju ?_)))
local macro_rules|`(tactic|walk_at "lk")=>`(tactic|repeat' first|(with_reducible first|exact qr _|apply ql|exact qJ|exact ce_c (.int _)|apply qy|exact ce_c (.str _)|apply vQ|exact ve _|apply v7|apply jo|apply q2J|apply vW|apply jD|apply ja|exact Jk λ_ _=>.int _|exact Ql|exact q7p λ_ _=>.int _|apply Qz|apply q15|apply jC|apply q2o|apply vz|apply zc|exact vj|apply X0|apply VG|apply q45|apply q1S|apply XY|apply q65|apply q6u|apply q2y|apply XX|apply Gf|apply Gc|apply VF|apply q1y|apply q26|apply kS|apply q1E|apply W8|apply W7|apply XW|apply JL|apply ct_b|apply W6|exact q2Z|exact q0m|exact ce_c (.bl _)|exact ce_c .non|exact q0W _ _|exact q07 _ _ _|exact Gd|exact Zw|exact Qm|exact Jk λ_ _=>.bl _|exact YL|exact YK|exact q2v|exact q5B|apply Gk|apply q4M)|apply XV|apply VE|exact x9 _|decide)
abbrev Mk3:=Str×Int×Int
def Wd(ms:List Mk3):Prop:=∀m∈ms,0<=m.2.1/\m.2.1<=1000
theorem K2(k:Nat):(0:Int)<2^k:=Int.pow_pos (by decide)
theorem QL{α:Type}{l:List α}{i:Nat}{x:α}(h:l[i]?=some x):l.take (i+1)=l.take i++[x]:=by
 obtain⟨hi,e⟩:=Us.mp h;rw[List.take_succ_eq_append_getElem hi,e]
def OfKind(ms:List Mk3)(kind:Str)(m:Mk3):Prop:=∃rest,ms.filter (λm=>decide (m.1=kind))=m::rest
def q3w:List Str:=["small","far","pair","sign","one"]
abbrev Nd:=Int×Int
def Disj(a b:Nd):Prop:=∀x:Int,¬(x % 2^a.1.toNat=a.2/\x % 2^b.1.toNat=b.2)
theorem Disj.symm{a b:Nd}(h:Disj a b):Disj b a:=λx ⟨p,q⟩=>h x ⟨q,p⟩
def NdOk(a:Nd):Prop:=0<=a.1/\a.1<=60/\0<=a.2/\a.2<2^a.1.toNat
theorem Kr{x:Int}{a b:Nat}(h:a<=b):x % 2^b % 2^a=x % 2^a:=by
 refine Int.emod_emod_of_dvd x ?_;obtain⟨c,rfl⟩:=Nat.exists_eq_add_of_le h;exact⟨2^c,Int.pow_add ..⟩
def xa(a:Nd)(s:Int):Nd:=(a.1+1,a.2+s*2^a.1.toNat)
theorem Gh{a:Nd}{s x:Int}(ha:NdOk a)(h:x % 2^(xa a s).1.toNat=(xa a s).2):x % 2^a.1.toNat=a.2:=by
 have e:(xa a s).1.toNat=a.1.toNat+1:=by show(a.1+1).toNat=_;have:=ha.1;lia
 rw[e]at h;rw[<-Kr (RE a.1.toNat),h];show(a.2+s*2^a.1.toNat) % 2^a.1.toNat=a.2;rw[Int.mul_comm,Int.add_mul_emod_self_left];exact Int.emod_eq_of_lt ha.2.2.1 ha.2.2.2
theorem Qy{a b:Nd}{s:Int}(ha:NdOk a)(h:Disj a b):Disj (xa a s) b:=λx ⟨p,q⟩=>h x ⟨Gh ha p,q⟩
theorem Gg{a:Nd}{s t:Int}(hs:s≠t):Disj (xa a s) (xa a t):=λx zz=>by
 obtain⟨p,q⟩:=zz;rw[show(xa a t).1=(xa a s).1 from rfl,p]at q;have:(a.2+s*2^a.1.toNat)=a.2+t*2^a.1.toNat:=q;have h2:s*2^a.1.toNat=t*2^a.1.toNat:=by lia
 exact hs (Int.eq_of_mul_eq_mul_right (Int.ne_of_gt (K2 _)) h2)
theorem JQ{a:Nd}{s:Int}(ha:NdOk a)(md:a.1<=59)(hs:s=0\/s=1):NdOk (xa a s):=by
 obtain⟨h1,h2,h3,h4⟩:=ha;have e:(a.1+1).toNat=a.1.toNat+1:=by lia
 refine⟨by show 0<=a.1+1;lia,by show a.1+1<=60;lia,?_,?_⟩
 ·show 0<=a.2+s*2^a.1.toNat
  have:=K2 a.1.toNat;rcases hs with rfl|rfl<;>lia
 ·show a.2+s*2^a.1.toNat<2^(a.1+1).toNat
  rw[e,Int.pow_succ];rcases hs with rfl|rfl<;>lia
def need(kind:Str):Int:=if kind = "sign" then 7 else if kind = "small" then 2 else if kind = "one" then 2 else 3
structure Right(bits:Int)(ms:List Mk3):Prop where
 b:8<=bits/\bits<=32
 n:ms.length=5
 k:(ms.map (·.1)).Perm q3w
 w:∀m∈ms,1<=m.2.1/\m.2.1<=bits-need m.1
 p:∀m∈ms,0<=m.2.2/\m.2.2<2^m.2.1.toNat
 d:ms.Pairwise λm m'=>Disj m.2 m'.2
theorem q2H(k:Str):2<=need k:=by unfold need;split<;>(try split)<;>(try split)<;>decide
theorem Right.wd{bits:Int}{ms:List Mk3}(r:Right bits ms):Wd ms:=λm hm=>by
 have:=r.w m hm;have h2:=q2H m.1;have:=r.b;lia
theorem Right.kind{bits:Int}{ms:List Mk3}(r:Right bits ms){kind:Str}(h:kind∈q3w):∃m,OfKind ms kind m:=by
 have:kind∈ms.map (·.1):=r.k.mem_iff.mpr h;obtain⟨m,hm,e⟩:=Dy.mp this;cases q:ms.filter (λm=>decide (m.1=kind)) with
 |nil=>
  have:m∈ms.filter (λm=>decide (m.1=kind)):=D1.mpr ⟨hm,by simp[e]⟩;rw[q]at this;cases this
 |cons m0 rest=>exact⟨m0,rest,q⟩
theorem log2_lt{n:Int}(h0:0<n)(h1:n<2^62):n.natAbs.log2<9000:=by
 have:n.natAbs.log2<62:=(Nat.log2_lt (by lia)).mpr (by lia);lia
def cnt(bits:Int)(t:List Nd):Nat:=(t.filter λn=>decide (n.1<=bits-7)).length
structure LInv(bits:Int)(KS:List Str)(i:Nat)(ns:List Nd)(ms:List Mk3):Prop where
 ok:∀n∈ns,NdOk n
 low:∃n∈ns,n.1<=i
 len:ns.length<=1+31*i
 kinds:ms.map (·.1)=KS.take i
 w:∀m∈ms,1<=m.2.1/\m.2.1<=bits-need m.1
 p:∀m∈ms,NdOk m.2
 d:(ns++ms.map (·.2)).Pairwise Disj
structure WInv(i:Nat)(w0:Int)(c:Nd)(ns:List Nd)(ms:List Mk3):Prop where
 cok:NdOk c
 w:w0<=c.1
 ok:∀n∈ns,NdOk n
 low:(∃n∈ns,n.1<=i+1)\/(c.1=w0/\w0<=i)
 len:(ns.length:Int)<=31*i+c.1
 d:(c::(ns++ms.map (·.2))).Pairwise Disj
theorem WInv.step{i:Nat}{w0:Int}{c:Nd}{ns:List Nd}{ms:List Mk3}{s:Int}(h:WInv i w0 c ns ms)(hs:s=0\/s=1)(md:c.1<=59):WInv i w0 (xa c s) (ns++[xa c (1-s)]) ms:=by
 have i4:1-s=0\/1-s=1:=by lia
 obtain⟨dc,dr⟩:=Rg.mp h.d;have cw:(xa c s).1=c.1+1:=rfl;refine⟨JQ h.cok md hs,by rw[cw];have:=h.w;lia,λn hn=>?_,?_,?_,?_⟩
 ·rcases UD.mp hn with z|z
  ·exact h.ok n z
  ·rw[UJ.mp z];exact JQ h.cok md i4
 ·rcases h.low with⟨n,hn,hw⟩|⟨e,hw⟩
  ·exact .inl ⟨n,UV _ hn,hw⟩
  ·exact .inl ⟨xa c (1-s),UR _ (UJ.mpr rfl),by show c.1+1<=_;lia⟩
 ·have:=h.len
  rw[cw,Uu,U6];push_cast;lia
 ·have p1:(xa c s::(ns++[xa c (1-s)]++ms.map (·.2))).Perm (xa c s::xa c (1-s)::(ns++ms.map (·.2))):=by
   refine List.Perm.cons _ ?_;rw[UN];exact List.perm_middle
  refine(p1.pairwise_iff λh=>h.symm).mpr ?_;refine Rg.mpr ⟨λn hn=>?_,Rg.mpr ⟨λn hn=>Qy h.cok (dc n hn),dr⟩⟩;rcases UQ.mp hn with rfl|z
  ·exact Gg (by lia)
  ·exact Qy h.cok (dc n z)
theorem WInv.fin{bits w0 dQ:Int}{KS:List Str}{kind:Str}{i:Nat}{c:Nd}{ns rH:List Nd}{ms:List Mk3}(h:WInv i w0 c ns ms)(h0:LInv bits KS i rH ms)(hk:KS[i]?=some kind)(hg:c.1=dQ)(hw:w0<dQ)(h1:1<=dQ)(h2:dQ<=bits-need kind)(h31:dQ<=31):
  LInv bits KS (i+1) ns (ms++[(kind,c)]):=by
 have hl:=h.len;refine⟨h.ok,?_,?_,?_,λm hm=>?_,λm hm=>?_,?_⟩
 ·rcases h.low with⟨n,hn,fU⟩|⟨e,_⟩
  ·exact⟨n,hn,by push_cast;exact fU⟩
  ·lia
 ·lia
 ·rw[U7,h0.kinds,QL hk];rfl
 ·rcases UD.mp hm with z|z
  ·exact h0.w m z
  ·rw[UJ.mp z];exact⟨by show 1<=c.1;lia,by show c.1<=bits-need kind;lia⟩
 ·rcases UD.mp hm with z|z
  ·exact h0.p m z
  ·rw[UJ.mp z];exact h.cok
 ·rw[U7, <-UN]
  have p1:(ns++ms.map (·.2)++[c]).Perm (c::(ns++ms.map (·.2))):=List.perm_append_comm;exact(p1.pairwise_iff λh=>h.symm).mpr h.d
theorem LInv.right{bits:Int}{KS:List Str}{ns:List Nd}{ms:List Mk3}(h:LInv bits KS 5 ns ms)(hK:KS.Perm q3w)(hb:8<=bits/\bits<=32):Right bits ms:=by
 have hl:KS.length=5:=hK.length_eq;have hk:ms.map (·.1)=KS:=by rw[h.kinds,Ru (by lia)]
 refine⟨hb,?_,by rw[hk];exact hK,h.w,λm hm=>⟨(h.p m hm).2.2.1,(h.p m hm).2.2.2⟩,?_⟩
 ·have:=GM List.length hk
  rw[Uw,hl]at this;exact this
 ·have:=(List.pairwise_append.mp h.d).2.1
  rw[List.pairwise_map]at this;exact this
theorem OfKind.is{ms:List Mk3}{kind:Str}{m:Mk3}(h:OfKind ms kind m):m.1=kind:=by
 obtain⟨rest,e⟩:=h;have:m∈ms.filter (λm=>decide (m.1=kind)):=by rw[e];exact Di
 exact Uh (D1.mp this).2
abbrev V3:Stmt:=top 74
theorem Yi:q00 ["found","due"] ["found","due"] (qd V3):=by ac_rfl
theorem q0H:(["found","due","k"]:List Str).Nodup:=by decide+kernel
def q6w:V->Bool
 |.non=>true
 |.bl _=>true
 |.int _=>true
 |.str _=>true
 |_=>false
def AL(H:Hp):Nat->V->V->Prop
 |0,_,_=>False
 |n+1,x,y=>(x=y/\q6w x=true)\/∃(p q:Addr)(xs ys:List V),x=.ref p/\y=.ref q/\((H p=some (.lst xs)/\H q=some (.lst ys))\/(H p=some (.tup xs)/\H q=some (.tup ys)))/\xs.length=ys.length/\xs.length<=10000000/\∀(j:Nat)(x y:V),xs[j]?=some x->ys[j]?=some y->AL H n x y
theorem AL.same{H H':Hp}(s:Same H H'):∀{n:Nat}{x y:V},AL H n x y->AL H' n x y
 |0,_,_,h=>h
 |n+1,_,_,h=>by
  rcases h with h|⟨p,q,xs,ys,e1,e2,h,l1,l2,k⟩
  ·exact .inl h
  ·refine .inr ⟨p,q,xs,ys,e1,e2,?_,l1,l2,λj x y a b=>(k j x y a b).same s⟩
   rcases h with⟨h1,h2⟩|⟨h1,h2⟩
   ·exact .inl ⟨s _ _ h1,s _ _ h2⟩
   ·exact .inr ⟨s _ _ h1,s _ _ h2⟩
def QP(n:Nat):Sp:=λvs H Q _=>∃x y:V,vs=[x,y]/\AL H n x y/\∀H',Same H H'->Q (.bl true) H'
theorem q4w{K:PySem.W.Frag}{H:Hp}{v:V}(h:q6w v=true):∃t,TyOf K H v (.type t)/\W.kitAny K (.type t) [.type "list",.type "tuple"]=some false/\∃b i s,W.kitOne K (.type t) (.type "bool")=some b/\W.kitOne K (.type t) (.type "int")=some i/\W.kitOne K (.type t) (.type "str")=some s:=by
 cases v with
 |non=>exact⟨_,TyOf.non,rfl,_,_,_,rfl,rfl,rfl⟩
 |bl b=>exact⟨_,TyOf.bl b,rfl,_,_,_,rfl,rfl,rfl⟩
 |int i=>exact⟨_,TyOf.int i,rfl,_,_,_,rfl,rfl,rfl⟩
 |str s=>exact⟨_,TyOf.str s,rfl,_,_,_,rfl,rfl,rfl⟩
 |_=>cases h
theorem q2e{H:Hp}{p:Addr}{xs:List V}{i:Int}{v:V}{Q:VK}(h:SqL K H p xs\/SqT K H p xs)(e:atI xs i=some v)(q:Q v H):rIxA K (.ref p) (.int i) H Q :=
 h.elim (λh=>.inl ⟨p,xs,i,v,rfl,rfl,h,e,q⟩) λh=>.inr ⟨p,xs,i,v,rfl,rfl,h,e,q⟩
theorem xR{n:Nat}{f:Addr}{fd:FuncData}(F:Fun K "_law_alike" "_law_alike" V3 f fd)(N:Nms mg)(aL:Def P w K mg base "_law_alike" (n+1) ["found","due"] (QP n)):FnOk P w K mg base CX0 (n+2) f fd ["found","due"] (QP (n+1)):=by
 refine F.okQ Yi (λvs H Q E h=>?_) (λae A outer s H vs Q E hr h=>?_)
 ·obtain⟨_,_,rfl,_⟩:=h
  rfl
 ·obtain⟨x,y,rfl,hA,k⟩:=h
  refine⟨_,(qb (qP (vJ (qH (Zy (K:=K) rfl) (by rfl) N.isinstance qD (qa2 qv1 (qu (qa2 (vn (v:=.ty "list") (by rfl) N.list jb rfl) (vn (v:=.ty "tuple") (by rfl) N.tuple VI rfl)))))) (qb (qP (Xi (q49 (Qj (vJ (qH (Zy (K:=K) rfl) (by rfl) N.isinstance qD (qa2 qv0 (qu (qa2 (vn (v:=.ty "list") (by rfl) N.list jb rfl) (vn (v:=.ty "tuple") (by rfl) N.tuple VI rfl))))))) (Yz (qi jL (qH (vo (K:=K) rfl) (by rfl) N.isinstance qD (qa2 qv0 (vn (v:=.ty "list") (by rfl) N.list jb rfl))) (qH (vo (K:=K) rfl) (by rfl) N.isinstance qD (qa2 qv1 (vn (v:=.ty "list") (by rfl) N.list jb rfl))) (qm _))))) (qe (qt Vf)) qx) (qb (qP (qi jL (qH (xm (K:=K) rfl) (by rfl) N.len Qe (qa1 qv0)) (qH (xm (K:=K) rfl) (by rfl) N.len Qe (qa1 qv1)) (qm _)) (qe (qt Vf)) qx) (qe (qt (qH (q1o rfl) (by rfl) N.all q7n (qa1 (Ke [true,true] ["k"] (vK rfl N.range (qa1 (qH (xm (K:=K) rfl) (by rfl) N.len Qe (qa1 qv1)))) (λ_ _ _=>(vb (i:=2) q0H rfl Gx)) (λ_ _ _=>zq) (λ_ _ _=>(qo aL (YH hr) (qa2 (qj (Wv (K:=K) rfl) qv0 qv2 (λ_ _=>rfl)) (qj (Wv (K:=K) rfl) qv1 qv2 (λ_ _=>rfl)))))))))))) qx) (qb (qP (Xi (q49 (qi jL (qH (vo (K:=K) rfl) (by rfl) N.isinstance qD (qa2 qv0 (vn (v:=.ty "bool") (by rfl) N.bool q1Y rfl))) (qH (vo (K:=K) rfl) (by rfl) N.isinstance qD (qa2 qv1 (vn (v:=.ty "bool") (by rfl) N.bool q1Y rfl))) (qm _)) (Yz (qi jL (qH (vo (K:=K) rfl) (by rfl) N.isinstance qD (qa2 qv0 (vn (v:=.ty "int") (by rfl) N.int VJ rfl))) (qH (vo (K:=K) rfl) (by rfl) N.isinstance qD (qa2 qv1 (vn (v:=.ty "int") (by rfl) N.int VJ rfl))) (qm _))))) (qe (qt Vf)) qx) (qe (qt (Ji (vF op_eq (qH (vo (K:=K) rfl) (by rfl) N.isinstance qD (qa2 qv0 (vn (v:=.ty "str") (by rfl) N.str q0N rfl))) (qH (vo (K:=K) rfl) (by rfl) N.isinstance qD (qa2 qv1 (vn (v:=.ty "str") (by rfl) N.str q0N rfl))) (qm _)) (V5 (vF op_eq qv0 qv1 (qm _)))))))),?_⟩;rfl';refine⟨by decide,λp1 rJ=>?_⟩;rfl';have s1:Same H (upd H p1 (.tup [.ty "list",.ty "tuple"])):=(Same.refl H).upd rJ;rcases hA with⟨rfl,hf⟩|⟨p,q,xs,ys,rfl,rfl,h,l1,l2,kk⟩
  ·obtain⟨t,ty,e1,b,i,st,e2,e3,e4⟩:=q4w (K:=K) (H:=upd H p1 (.tup [.ty "list",.ty "tuple"])) hf
   refine⟨x,p1, ["list","tuple"],t,false,rfl,upd_same,ty,e1,?_⟩;rfl';refine jB ty e2 ?_;refine jB ty e2 ?_;rfl';refine ite2 (λhh=>absurd hh (by simp)) (λ_=>?_);refine jB ty e3 ?_;refine jB ty e3 ?_;rfl';refine ite2 (λhh=>absurd hh (by simp)) (λ_=>?_);refine jB ty e4 ?_;refine jB ty e4 ?_;rfl';have hq:=k _ s1;cases x with
   |non=>exact WR rfl (by simpa[eqV]using hq)
   |bl b=>exact WR rfl (by simpa[eqV]using hq)
   |int b=>exact WR rfl (by simpa[eqV]using hq)
   |str b=>exact WR rfl (by simpa[eqV]using hq)
   |_=>cases hf
  ·obtain⟨t,bl,eC,e1,e2⟩:∃(t:String)(bl:Bool),(∀H',Same H H'->TyOf K H' (.ref p) (.type t)/\TyOf K H' (.ref q) (.type t)/\(SqL K H' p xs\/SqT K H' p xs)/\(SqL K H' q ys\/SqT K H' q ys))/\W.kitAny K (.type t) [.type "list",.type "tuple"]=some true/\W.kitOne K (.type t) (.type "list")=some bl:=by
    rcases h with⟨h1,h2⟩|⟨h1,h2⟩
    ·exact⟨"list", true,(λH' s=>⟨TyOf.lst (s _ _ h1),TyOf.lst (s _ _ h2),.inl (SqL.of (s _ _ h1)),.inl (SqL.of (s _ _ h2))⟩),rfl,rfl⟩
    ·exact⟨"tuple", false,(λH' s=>⟨TyOf.tup (s _ _ h1),TyOf.tup (s _ _ h2),.inr (SqT.of (s _ _ h1)),.inr (SqT.of (s _ _ h2))⟩),rfl,rfl⟩
   refine⟨_,p1, ["list","tuple"],t,true,rfl,upd_same,(eC _ s1).2.1,e1,?_⟩;rfl';refine⟨by decide,λp2 gN=>?_⟩;rfl';have s2:=s1.trans ((Same.refl _).upd (o:=.tup [.ty "list",.ty "tuple"]) gN);refine⟨_,p2, ["list","tuple"],t,true,rfl,upd_same,(eC _ s2).1,e1,?_⟩;rfl';refine ite2 (λhh=>absurd hh (by decide)) (λ_=>?_);refine jB (eC _ s2).1 e2 ?_;refine jB (eC _ s2).2.1 e2 ?_;rfl';refine ite2 (λhh=>absurd hh (by simp)) (λ_=>?_);refine⟨p,xs,rfl,(eC _ s2).2.2.1,?_⟩;refine⟨q,ys,rfl,(eC _ s2).2.2.2,?_⟩;rfl';refine ite2 (λhh=>absurd hh (by simp[l1])) (λ_=>?_);refine⟨q,ys,rfl,(eC _ s2).2.2.2,?_⟩;refine q77 (by lia) (by lia) ?_;intro a9 aS;generalize upd (upd H p1 (.tup [.ty "list",.ty "tuple"])) p2 (.tup [.ty "list",.ty "tuple"])=Hc at s2 aS ⊢;refine KC (λi H3=>Same Hc H3/\H3 a9=some (.lst ((List.replicate i true).map V.bl))) ?_ ?_ ?_
   ·exact⟨(Same.refl Hc).upd aS,upd_same⟩
   ·rintro i H3 hi ⟨s3,e3⟩
    rfl';have rK:i<ys.length:=by lia
    have rL:i<xs.length:=by lia
    have g1:xs[i]?=some xs[i]:=Ut rL;have g2:ys[i]?=some ys[i]:=Ut rK;have me:=s2.trans s3;rw[Int.zero_add];refine⟨⟨by(repeat (first|exact ExtS.nl|refine ExtS.sm ?_|refine ExtS.no ?_)),trivial⟩,q2e (eC _ me).2.2.1 (zd g1) (q2e (eC _ me).2.2.2 (zd g2) ?_)⟩;refine⟨_,_,rfl,(kk i _ _ g1 g2).same me,λH6 s6=>?_⟩;refine⟨_,s6 _ _ e3,?_,(s3.trans s6).upd aS,?_⟩
    ·rw[Uw,Rx]
     have:10000000<sizeLine:=by decide
     lia
    ·rw[upd_same]
     have:(V.bl true::List.map V.bl (List.replicate i true))=List.map V.bl (List.replicate i true)++[V.bl true]:=by
      rw[List.map_replicate, <-Dc,List.replicate_succ']
     rw[this]
   ·rintro H3 ⟨s3,e3⟩
    refine⟨a9,List.replicate (Int.toNat ys.length) true,rfl,e3,?_⟩;have:(List.replicate (Int.toNat ys.length) true).all id=true:=by simp
    rw[this];exact k H3 (s2.trans s3)
theorem Wa{f:Addr}{fd:FuncData}(F:Fun K "_law_alike" "_law_alike" V3 f fd):FnOk P w K mg base CX0 1 f fd ["found","due"] (QP 0):=by
 refine F.okQ Yi (λvs H Q E h=>?_) (λae A outer s H vs Q E hr h=>?_)
 ·obtain⟨_,_,_,h,_⟩:=h
  exact h.elim
 ·obtain⟨_,_,_,h,_⟩:=h
  exact h.elim
def depT:Nat->T->Prop
 |0,_=>False
 |n+1,.tup xs=>xs.length<=10000000/\∀x∈xs,depT n x
 |n+1,.lst xs=>xs.length<=10000000/\∀x∈xs,depT n x
 |_+1,_=>True
def JI(n:Nat):List T->(T->Prop)->Prop:=λts Q=>∃t,ts=[t,t]/\depT n t/\Q (.bl true)
theorem q2K{A:Addr->Prop}{H:Hp}:∀{n:Nat}{t:T}{x y:V},depT n t->RepT A H x t->RepT A H y t->AL H n x y
 |0,_,_,_,h,_,_=>h.elim
 |n+1,.non,_,_,_,.non,.non=>.inl ⟨rfl,rfl⟩
 |n+1,.bl b,_,_,_,.bl _,.bl _=>.inl ⟨rfl,rfl⟩
 |n+1,.int b,_,_,_,.int _,.int _=>.inl ⟨rfl,rfl⟩
 |n+1,.str b,_,_,_,.str _,.str _=>.inl ⟨rfl,rfl⟩
 |n+1,.tup xs,x,y,h,r1,r2=>by
  obtain⟨p,vs,rfl,_,h1,q1⟩:=r1.tup_inv;obtain⟨p2,ci,rfl,_,h2,q2⟩:=r2.tup_inv;refine .inr ⟨p,p2,vs,ci,rfl,rfl,.inr ⟨h1,h2⟩,by rw[q1.len,q2.len],by rw[q1.len];exact h.1,λj a b ha hb=>?_⟩;obtain⟨t,ht,rt⟩:=Paired.getL q1 ha;obtain⟨t',dC,mf⟩:=Paired.getL q2 hb;rw[ht]at dC;cases dC;exact q2K (h.2 t (Uy ht)) rt mf
 |n+1,.lst xs,x,y,h,r1,r2=>by
  obtain⟨p,vs,rfl,_,h1,q1⟩:=r1.lst_inv;obtain⟨p2,ci,rfl,_,h2,q2⟩:=r2.lst_inv;refine .inr ⟨p,p2,vs,ci,rfl,rfl,.inl ⟨h1,h2⟩,by rw[q1.len,q2.len],by rw[q1.len];exact h.1,λj a b ha hb=>?_⟩;obtain⟨t,ht,rt⟩:=Paired.getL q1 ha;obtain⟨t',dC,mf⟩:=Paired.getL q2 hb;rw[ht]at dC;cases dC;exact q2K (h.2 t (Uy ht)) rt mf
--@XI
abbrev ZV:Stmt:=qk (top 2) 0
theorem q1c:q00 ["self","part"] ["self","part"] (qd ZV):=by ac_rfl
theorem q1t{C B f:Addr}{fd:FuncData}(F:Fun K "__init__" "WrongKind.__init__" ZV f fd)(ck:ExcK K C f)(na:NoAttr K C "part")(ib:q3s K mg "WordError" B):FnOk P w K mg base CX0 1 f fd ["self","part"] (spI C):=by
 refine F.okQ q1c (λvs H Q E h=>?_) (λae A outer s H vs Q E hr h=>?_)
 ·obtain⟨_,_,rfl,_⟩:=h
  rfl
 refine⟨_,(qb (q0h ck ib (qa_c (qv 0) (qa_c (q4S (by decide) (by decide) (qv 1)) vD)))
  (qe (q43 ck na (qv 0) (qv 1)))),?_⟩
 obtain⟨a,n,rfl,hn,ha,q⟩:=h;refine⟨.ref a,rfl,.int n,rfl,n,rfl,hn.1,hn.2.1,a,none,_,rfl,ha,by show 1<=1000;decide,?_⟩;refine⟨.int n,rfl,.ref a,rfl,a,rfl,ha,λd hd=>q d hd⟩
theorem Kp{f:Addr}{fd:FuncData}(F:Fun K "_law_alike" "_law_alike" V3 f fd)(N:Nms mg)(hm:mg "_law_alike" = some (.ref f))(hk:W.keepIn K (.ref f)=true)(hb:Binds K fd ["found","due"] []):FnOk P w K mg base CX0 6 f fd ["found","due"] (spP (JI 5)):=by
 refine(xR F N ⟨f,fd,hm,hk,hb,xR F N ⟨f,fd,hm,hk,hb,xR F N ⟨f,fd,hm,hk,hb,xR F N ⟨f,fd,hm,hk,hb,xR F N ⟨f,fd,hm,hk,hb,Wa F⟩⟩⟩⟩⟩:FnOk P w K mg base CX0 6 f fd ["found","due"] (QP 5)).imp λvs H Q E h=>?_;obtain⟨A,ts,Qt,hd,r,⟨t,rfl,mh,q⟩,k⟩:=h;cases r with
 |cons r1 r=>
 cases r with
 |cons r2 r=>
 cases r;exact⟨_,_,rfl,q2K mh r1 r2,λH' s=>k _ _ H' s (.bl true) q⟩
--@PK
abbrev Z9:Stmt:=top 25
theorem q0C:q00 ["worth"] ["worth"] (qd Z9):=by ac_rfl
def q6f:U->Str
 |.p (.int _)=> "number"
 |.p (.tup _)=> "sign"
 |.p (.str _)=> "one"
 |_=> "pair"
def okU(C:Addr)(M:MM):U->Prop
 |.p (.int _)=>True
 |.p (.tup _)=>True
 |.p (.str _)=>True
 |.m k=>kM C M k
 |_=>False
def WJ(C:Addr):List U->MM->UK->Prop:=λus M Q=>∃u,us=[u]/\okU C M u/\Q (.p (.str (q6f u))) M
theorem XE{C:Addr}{M:MM}{k:Nat}{c:TyC}(h:kM C M k):isV C M (.m k) c=some false:=by
 obtain⟨fs,e⟩:=h;simp only[isV,e,Uc]
theorem q0X{CQ f:Addr}{fd:FuncData}(F:Fun K "kind_of" "kind_of" Z9 f fd)(N:Nms mg)(c5:q0G K CQ):FnOk P w K mg base CX0 1 f fd ["worth"] (spU (WJ CQ)):=by
 refine F.zU q0C (by rintro _ _ _ ⟨_,rfl,_⟩;rfl) (λae A outer s H E hr=>?_);refine⟨_,(qb (qP (vJ (qH (kX K rfl) (by rfl) N.isinstance qD (qa2 qv0 (vn (v:=.ty "int") (by rfl) N.int VJ rfl)))) (qe (qt qc)) qx) (qb (qP (vJ (qH (kX K rfl) (by rfl) N.isinstance qD (qa2 qv0 (vn (v:=.ty "tuple") (by rfl) N.tuple VI rfl)))) (qe (qt qc)) qx) (qb (qP (vJ (qH (kX K rfl) (by rfl) N.isinstance qD (qa2 qv0 (vn (v:=.ty "str") (by rfl) N.str q0N rfl)))) (qe (qt qc)) qx) (qe (qt qc))))),_,(qy (zc (ct_b (Gi c5 .int (qr 0))) (by right) vj) (qy (zc (ct_b (Gi c5 .tuple (qr 0))) (by right) vj) (qy (zc (ct_b (Gi c5 .str (qr 0))) (by right) vj) (by right)))),λus M Qu h=>?_⟩;obtain⟨u,rfl,ok,q⟩:=h;cases u with
 |p t=>
  cases t with
  |int i=>symm;rw[xO];symm;refine⟨true,rfl,?_⟩;symm;exact q
  |tup xs=>symm;rw[xO];symm;refine⟨false,rfl,?_⟩;symm;rw[xO];symm;refine⟨true,rfl,?_⟩;symm;exact q
  |str x=>symm;rw[xO];symm;refine⟨false,rfl,?_⟩;symm;rw[xO];symm;refine⟨false,rfl,?_⟩;symm;rw[xO];symm;refine⟨true,rfl,?_⟩;symm;exact q
  |_=>exact ok.elim
 |x a d q=>exact ok.elim
 |m k=>symm;rw[xO];symm;refine⟨false,XE ok,?_⟩;symm;rw[xO];symm;refine⟨false,XE ok,?_⟩;symm;rw[xO];symm;refine⟨false,XE ok,?_⟩;symm;exact q
inductive Wt where
 |num (n:Int)|one (t:Str)|sgn (k:Int)|pr (i:Nat)
 deriving DecidableEq
abbrev Nm:=Nat->Nat
abbrev WW:=List (Wt×Wt)
def uS(s:Nm):Wt->U
 |.num n=>.p (.int n)
 |.one t=>.p (.str t)
 |.sgn k=>.p (.tup [.str "sign",.int k])
 |.pr i=>.m (s (i+2))
def tO:Wt->T
 |.num n=>.int n
 |.one t=>.str t
 |.sgn k=>.tup [.str "sign",.int k]
 |.pr i=>.tup [.str "pair",.int (i:Int)]
def tT:Wt->T
 |.num n=>.int n
 |.one t=>.str t
 |.sgn k=>.tup [.str "sign",.int k]
 |.pr _=>.str "pair"
def vf:Wt->Str
 |.num _=> "number"
 |.one _=> "one"
 |.sgn _=> "sign"
 |.pr _=> "pair"
def okW(n:Nat):Wt->Prop
 |.pr i=>i<n
 |_=>True
theorem okW.mono{n m:Nat}{x:Wt}(h:okW n x)(hm:n<=m):okW m x:=by cases x<;>first|exact h|exact UP h hm
def hl(s:Nm)(ws:List Wt):MO:=.lst (ws.map (uS s))
def po(D:Addr)(s:Nm)(x:Wt×Wt):MO:=.ins D [("left", uS s x.1),("right", uS s x.2)]
structure TxP(K:PySem.W.Frag)(C:Addr):Prop where
 c:Cls K C
 na:NoAttr K C "held"
structure TxQ(K:PySem.W.Frag)(D:Addr):Prop where
 c:Cls K D
 nl:NoAttr K D "left"
 nr:NoAttr K D "right"
structure Sto(C D:Addr)(M:MM)(s:Nm)(ws:List Wt)(ps:WW):Prop where
 s0:M[s 0]?=some (.ins C [("held",.m (s 1))])
 h:M[s 1]?=some (hl s ws)
 p:∀(i:Nat) x,ps[i]?=some x->M[s (i+2)]?=some (po D s x)
 n:ws.length=8
 inj:∀i j,i<ps.length+2->j<ps.length+2->s i=s j->i=j
 ww:∀x∈ws,okW ps.length x
 wp:∀x∈ps,okW ps.length x.1/\okW ps.length x.2
structure Go(M M':MM)(s s':Nm)(n n':Nat):Prop where
 len:M.length<=M'.length
 fr:∀k,k<M.length->(∀i,i<n->k≠s i)->M'[k]?=M[k]?
 nw:∀i,i<n'->(∃j,j<n/\s' i=s j)\/M.length<=s' i
 z:s' 0=s 0
section
variable {C D:Addr}{M:MM}{s:Nm}{ws:List Wt}{ps:WW}{x y:Wt}{r q p i n:Nat}{Q:UK}
theorem Go.refl:Go M M s s n n:=⟨Ux _,λ_ _ _=>rfl,λi hi=>.inl ⟨i,hi,rfl⟩,rfl⟩
theorem Go.set{o:MO}(hi:i<n):Go M (M.set (s i) o) s s n n:=⟨by rw[UB];exact Ux _,λk _ h=>Uv (Ne.symm (h i hi)),λi hi=>.inl ⟨i,hi,rfl⟩,rfl⟩
theorem v3{α:Type}{l:List α}{r:Nat}{x:α}{R:α->Prop}(h:∀y∈l,R y)(hx:R x):∀y∈l.set r x,R y:=λy hy=>(List.mem_or_eq_of_mem_set hy).elim (h y) λe=>e▸hx
theorem Sto.wq(S:Sto C D M s ws ps)(h:ws[q]?=some x):okW ps.length x:=S.ww x (Uy h)
theorem Sto.wi(S:Sto C D M s ws ps){x:Wt×Wt}(h:ps[i]?=some x):okW ps.length x.1/\okW ps.length x.2:=S.wp x (Uy h)
theorem Sto.pi(S:Sto C D M s ws ps)(h:ws[q]?=some (.pr i)):∃x,ps[i]?=some x:=⟨_,Ut (S.wq h)⟩
theorem Sto.ok(S:Sto C D M s ws ps)(h:okW ps.length x):okU D M (uS s x):=by
 cases x with
 |pr i=>exact⟨_,S.p i _ (Ut h)⟩
 |_=>trivial
theorem Wq:q6f (uS s x)=vf x:=by cases x<;>rfl
theorem Sto.put(S:Sto C D M s ws ps)(hx:okW ps.length x):Sto C D (M.set (s 1) (hl s (ws.set r x))) s (ws.set r x) ps :=
 ⟨by rw[Uv λz=>by have:=S.inj 1 0 (by lia) (by lia) z;lia];exact S.s0,
   UC (Us.mp S.h).1,
   λi x hi=>by
  have:=(Us.mp hi).1;rw[Uv λz=>by have:=S.inj 1 (i+2) (by lia) (by lia) z;lia];exact S.p i x hi,
   by rw[UB];exact S.n,S.inj,v3 S.ww hx,S.wp⟩
theorem Sto.setp(S:Sto C D M s ws ps){x:Wt×Wt}(hi:i<ps.length)(hx:okW ps.length x.1/\okW ps.length x.2):Sto C D (M.set (s (i+2)) (po D s x)) s ws (ps.set i x):=by
 have hm:=(Us.mp (S.p i _ (Ut hi))).1;refine⟨?_,?_,λj y hj=>?_,S.n,by rw[UB];exact S.inj,by rw[UB];exact S.ww,by rw[UB];exact v3 S.wp hx⟩
 ·rw[Uv λz=>by have:=S.inj (i+2) 0 (by lia) (by lia) z;lia];exact S.s0
 ·rw[Uv λz=>by have:=S.inj (i+2) 1 (by lia) (by lia) z;lia];exact S.h
 ·have eD:=(Us.mp hj).1
  rw[UB]at eD;by_cases e:i=j
  ·subst e
   rw[UC eD]at hj;cases hj;exact UC hm
  ·rw[Uv e]at hj
   rw[Uv λz=>by have:=S.inj (i+2) (j+2) (by lia) (by lia) z;lia];exact S.p j y hj
def vZ(s:Nm)(n k:Nat):Nm:=λi=>if i=n then k else s i
theorem xr{k:Nat}:vZ s n k n=k:=GL rfl
theorem vM{k:Nat}(h:i≠n):vZ s n k i=s i:=GH h
theorem VQ{k:Nat}(h:okW n x):uS (vZ s (n+2) k) x=uS s x:=by
 cases x with
 |pr i=>
  have h:i<n:=h;show U.m _=U.m _;rw[vM (by lia)]
 |_=>rfl
theorem q4x{k:Nat}(h:∀x∈ws,okW n x):ws.map (uS (vZ s (n+2) k))=ws.map (uS s):=RH λx hx=>VQ (h x hx)
theorem Sto.lt(S:Sto C D M s ws ps)(hi:i<ps.length+2):s i<M.length:=by
 match i,hi with
 |0,_=>exact(Us.mp S.s0).1
 |1,_=>exact(Us.mp S.h).1
 |i+2,hi=>exact(Us.mp (S.p i _ (Ut (show i<ps.length by lia)))).1
theorem ze{k:Nat}{o:MO}(h:k<M.length):(M++[o])[k]?=M[k]?:=Uz h
theorem Sto.new(S:Sto C D M s ws ps){x:Wt×Wt}(hx:okW ps.length x.1/\okW ps.length x.2):
  Sto C D ((M++[po D s x]).set (s 1) (.lst ((ws.map (uS s)).set r (.m M.length)))) (vZ s (ps.length+2) M.length) (ws.set r (.pr ps.length)) (ps++[x]) /\
  Go M ((M++[po D s x]).set (s 1) (.lst ((ws.map (uS s)).set r (.m M.length)))) s (vZ s (ps.length+2) M.length) (ps.length+2) ((ps++[x]).length+2):=by
 have h0:=S.lt (i:=0) (by lia);have h1:=S.lt (i:=1) (by lia);have e0:vZ s (ps.length+2) M.length 0=s 0:=vM (by lia);have e1:vZ s (ps.length+2) M.length 1=s 1:=vM (by lia);have el:(ps++[x]).length=ps.length+1:=by rw[Uu];rfl
 refine⟨⟨?_,?_,λj y hj=>?_,by rw[UB];exact S.n,λi j hi hj z=>?_,?_,?_⟩,⟨?_,λk hk h=>?_,λi hi=>?_,e0⟩⟩
 ·rw[e0,e1,Uv λz=>by have:=S.inj 1 0 (by lia) (by lia) z;lia,ze h0];exact S.s0
 ·rw[e1,UC (by rw[Uu];lia)]
  show _=some (MO.lst _);rw[RQ,q4x S.ww];show _=some (MO.lst ((ws.map (uS s)).set r (U.m (vZ s (ps.length+2) M.length (ps.length+2)))));rw[xr]
 ·by_cases eD:j<ps.length
  ·rw[Uz eD]at hj
   rw[vM (by lia),Uv λz=>by have:=S.inj 1 (j+2) (by lia) (by lia) z;lia,ze (S.lt (by lia)),S.p j y hj];have:=S.wi hj;unfold po;rw[VQ this.1,VQ this.2]
  ·have rM:=(Us.mp hj).1
   have:j=ps.length:=by lia
   subst this;rw[qK]at hj;cases hj;rw[xr,Uv (by lia),qK];unfold po;rw[VQ hx.1,VQ hx.2]
 ·rw[el]at hi hj
  by_cases a:i=ps.length+2<;>by_cases b:j=ps.length+2
  ·lia
  ·subst a
   rw[xr,vM b]at z;have:=S.lt (i:=j) (by lia);lia
  ·subst b
   rw[xr,vM a]at z;have:=S.lt (i:=i) (by lia);lia
  ·rw[vM a,vM b]at z
   exact S.inj i j (by lia) (by lia) z
 ·rw[el]
  exact v3 (λy hy=>(S.ww y hy).mono (by lia)) (show ps.length<ps.length+1 by lia)
 ·rw[el]
  intro y hy;rcases UD.mp hy with hy|hy
  ·have:=S.wp y hy
   exact⟨this.1.mono (by lia),this.2.mono (by lia)⟩
  ·cases UJ.mp hy
   exact⟨hx.1.mono (by lia),hx.2.mono (by lia)⟩
 ·rw[UB,Uu];lia
 ·rw[Uv (Ne.symm (h 1 (by lia))),ze hk]
 ·rw[el]at hi
  by_cases a:i=ps.length+2
  ·subst a
   exact .inr (by rw[xr];exact Ux _)
  ·exact .inl ⟨i,by lia,vM a⟩
theorem qN(TP:TxP K C)(S:Sto C D M s ws ps)(q:Q (.m (s 1)) M):FldS K "held" (.m (s 0)) M Q:=xH TP.c TP.na S.s0 (by simp[List.lookup]) q
theorem q0L{k:Nat}(h:M[k]?=some (hl s ws)):qI M (.m k)=some (ws.map (uS s)):=by simp[qI,h,hl]
theorem vA{k:Nat}(h:M[k]?=some (hl s ws))(hq:ws[q]?=some x)(qq:Q (uS s x) M):IxS qI M (.m k) (.p (.int (q:Int))) Q :=
 xG (q0L h) (zd (by rw[UW,hq];rfl)) qq
theorem VY{k r:Nat}{us:List U}{u:U}{R:MM->Prop}(h:M[k]?=some (.lst us))(hr:r<us.length)(q:R (M.set k (.lst (us.set r u)))):SubS M (.m k) (.p (.int (r:Int))) u R:=by
 refine⟨k,us,r,r,rfl,h,rfl,?_,q⟩;unfold ixN;simp[hr]
theorem v9{k:Nat}{R:MM->Prop}(h:M[k]?=some (hl s ws))(hr:r<ws.length)(q:R (M.set k (hl s (ws.set r x)))):SubS M (.m k) (.p (.int (r:Int))) (uS s x) R:=by
 refine VY h (by rw[Uw];exact hr) ?_;rw[<-RQ];exact q
theorem mS{m:Str}{R:Prop}(S:Sto C D M s ws ps)(hm:(m==("held" : Str))=false)(q:R):Gw C m (.m (s 0)) M R:=Xz S.s0 (by rw[U0,hm];rfl) q
end
theorem qL{p:Prop}[Decidable p]{a b:Prop}(h:¬p)(q:b):if p then a else b:=by rw[GH h];exact q
theorem qO{p:Prop}[Decidable p]{a b:Prop}(h:p)(q:a):if p then a else b:=by rw[GL h];exact q
theorem q2j{a b:Wt}{Q:T->Prop}(q:Q (.bl (decide (a=b)))):sEqW (tO a) (tO b) Q:=by
 have two:∀{x y:Str}{k l:Int}{Q:T->Prop},Q (.bl (decide (x=y/\k=l)))->sEqW (.tup [.str x,.int k]) (.tup [.str y,.int l]) Q:=λ{x y k l Q} q=>by
  refine .inr (.inl ⟨_,_,λj=>if j=0 then decide (x=y) else decide (k=l),rfl,rfl,λj u v hx hy=>?_,?_⟩)
  ·match j with
   |0=>
    simp at hx hy;subst hx hy;have:=EqT.flat (n:=20) (a:=.str x) (b:=.str y) rfl rfl;have e:eqV (.str x) (.str y)=decide (x=y):=by
     by_cases h:x=y
     ·subst h;simp[eqV]
     ·simp[eqV,h]
    rw[e]at this;simpa using this
   |1=>
    simp at hx hy;subst hx hy;have:=EqT.flat (n:=20) (a:=.int k) (b:=.int l) rfl rfl;have e:eqV (.int k) (.int l)=decide (k=l):=by
     by_cases h:k=l
     ·subst h;simp[eqV]
     ·simp[eqV,h]
    rw[e]at this;simpa using this
   |j+2=>simp at hx
  ·have e:((List.range (min [T.str x,T.int k].length [T.str y,T.int l].length)).all (λj=>if j=0 then decide (x=y) else decide (k=l))&&[T.str x,T.int k].length==[T.str y,T.int l].length)=decide (x=y/\k=l):=by
    by_cases h:x=y<;>by_cases h2:k=l<;>simp[h,h2,RB]
   simp only[U9,G2];rw[e];exact q
 cases a with
 |num n=>cases b<;>first|exact .inl ⟨_,_,rfl,rfl,rfl,by simpa using q⟩|exact .inr (.inr (.inl ⟨_,rfl,rfl,by simpa using q⟩))
 |one s=>cases b<;>first|exact .inl ⟨_,_,rfl,rfl,rfl,by simpa using q⟩|exact .inr (.inr (.inl ⟨_,rfl,rfl,by simpa using q⟩))
 |sgn k=>
  cases b with
  |num m=>exact .inr (.inr (.inr ⟨_,rfl,rfl,by simpa using q⟩))
  |one t=>exact .inr (.inr (.inr ⟨_,rfl,rfl,by simpa using q⟩))
  |sgn l=>exact two (by simpa using q)
  |pr l=>exact two (by rw[GI (λz=>absurd z.1 (by decide))];simpa using q)
 |pr k=>
  cases b with
  |num m=>exact .inr (.inr (.inr ⟨_,rfl,rfl,by simpa using q⟩))
  |one t=>exact .inr (.inr (.inr ⟨_,rfl,rfl,by simpa using q⟩))
  |sgn l=>exact two (by rw[GI (λz=>absurd z.1 (by decide))];simpa using q)
  |pr l=>exact two (by simpa[Int.ofNat_inj]using q)
theorem q6a{C D:Addr}{M:MM}{s:Nm}{ws:List Wt}{ps:WW}{a b:Wt}{Q:UK}(S:Sto C D M s ws ps)(ha:okW ps.length a)(hb:okW ps.length b)(q:Q (.p (.bl (decide (a=b)))) M):EqUS D M (uS s a) (uS s b) Q:=by
 have la:=S.ok ha;have lb:=S.ok hb;have rN:=q2j (a:=a) (b:=b) (Q:=λt=>Q (.p t) M) q;cases a with
 |pr i=>
  cases b with
  |pr j=>
   refine q4W la lb ?_;have e:(s (i+2)==s (j+2))=decide (Wt.pr i=Wt.pr j):=by
    by_cases h:i=j
    ·subst h;simp
    ·have ha:i<ps.length:=ha
     have hb:j<ps.length:=hb;rw[beq_eq_false_iff_ne.mpr λz=>h (by have:=S.inj _ _ (by lia) (by lia) z;lia)];simp[h]
   rw[e];exact q
  |_=>exact q5Z la rfl (by simpa using q)
 |_=>
  cases b with
  |pr j=>exact q5E lb rfl (by simpa using q)
  |_=>exact q6C rN
local macro_rules|`(tactic|walk_at "vx")=>`(tactic|simp only[zx,jG,jF,zu,vX,uTry,zy,zw,jI,jJ,endX,zR])
local macro_rules|`(tactic|walk_at "pk")=>`(tactic|(walk_at "v"; repeat ((first|walk_at "vx" |refine qL (by decide) ?_|refine qO rfl ?_); walk_at "v")))
abbrev MD(P:Program)(w:World)(K:PySem.W.Frag)(mg:Str->Option Value)(base:Heap)(CP:Addr)(m:Str)(k:Nat)(ps:List Str)(G:List U->MM->UK->Prop):Prop:=MDef P w K mg base CP m k ("self" :: ps) (spU G)
abbrev MX(P:Program)(w:World)(K:PySem.W.Frag)(mg:Str->Option Value)(base:Heap)(CP:Addr)(m:Str)(k:Nat)(ps:List Str)(G:List U->MM->UK->UX->Prop):Prop:=q3U P w K mg base CP m k ("self" :: ps) (spX mg G)
theorem Jm{X:Cx}:OpR X (binaryOp .FloorDiv) (rI (λi j=>j≠0/\Builtin.divisionGoesByPylong i j=false) λi j=>.int (i.fdiv j)):=opI λ_ _ _ _ _ _ _ hc q=>floordiv_int hc.1 q (.inl hc.2)
theorem Xn{X:Cx}:OpR X (binaryOp .Mult) (rI IntMulOk λi j=>.int (i*j)):=opI λ_ _ _ _ _ _ _ hc q=>mul_int q hc
abbrev Z6:Stmt:=qk (top 26) 0
theorem q0a:q00 ["self"] ["self"] (qd Z6):=by ac_rfl
def Zm(C:Addr):List U->MM->UK->Prop:=λus M Q=>∃(ks:Nat),us=[.m ks]/\M[ks]?=some (.ins C [])/\Q (.p .non) ((M++[hl id (List.replicate 8 (.one "none"))]).set ks (.ins C [("held",.m M.length)]))
theorem Y1{C:Addr}{f:Addr}{fd:FuncData}(F:Fun K "__init__" "PlainStore.__init__" Z6 f fd)(TP:TxP K C)(fV:GInt mg "REGISTERS" 8):FnOk P w K mg base CX0 1 f fd ["self"] (spU (Zm C)):=by
 refine F.zU q0a (by rintro _ _ _ ⟨_,rfl,_⟩;rfl) (λae A outer s H E hr=>?_);refine⟨_,(qe (xP qv0 (qC q1L (qG (qa1 qc)) (q3O fV rfl)) rfl)),_,(q26 (qr 0) (Zx (by right) (by right))),λus M Qu h=>?_⟩;obtain⟨ks,rfl,em,q⟩:=h;symm;refine Yp (by decide) (by decide) (by decide) ?_;refine vO TP.c TP.na (fs:=[]) ?_ (by decide) q;rw[Uz (Us.mp em).1];exact em
abbrev kg:Stmt:=qk (top 24) 0
theorem Ka:q00 ["self","left","right"] ["self","left","right"] (qd kg):=by ac_rfl
def WF(D:Addr):List U->MM->UK->Prop:=λus M Q=>∃(k:Nat)(l r:U),us=[.m k,l,r]/\M[k]?=some (.ins D [])/\Q (.p .non) (M.set k (.ins D [("left", l),("right", r)]))
theorem YR{D:Addr}{f:Addr}{fd:FuncData}(F:Fun K "__init__" "Pair.__init__" kg f fd)(TQ:TxQ K D):FnOk P w K mg base CX0 1 f fd ["self","left","right"] (spU (WF D)):=by
 refine F.zU Ka (by rintro _ _ _ ⟨_,_,_,rfl,_⟩;rfl) (λae A outer s H E hr=>?_);refine⟨_,(qb (xP qv0 qv1 rfl) (qe (xP qv0 qv2 rfl))),_,(by right),λus M Qu h=>?_⟩;obtain⟨k,l,r,rfl,em,q⟩:=h;symm;refine vO TQ.c TQ.nl em (by decide) ?_;symm;refine vO TQ.c TQ.nr (UC (Us.mp em).1) (by show 1<1000;decide) ?_;rw[Dx];exact q
def Zl(C D:Addr):List U->MM->UK->Prop:=λus M Q=>∃(s:Nm)(ws:List Wt)(ps:WW)(r:Nat)(x:Wt),us=[.m (s 0),.p (.int (r:Int)),uS s x]/\Sto C D M s ws ps/\r<8/\Q (.p .non) (M.set (s 1) (hl s (ws.set r x)))
def JD(C D:Addr):List U->MM->UK->Prop:=λus M Q=>∃(s:Nm)(ws:List Wt)(ps:WW)(r:Nat)(k:Int),us=[.m (s 0),.p (.int (r:Int)),.p (.int k)]/\Sto C D M s ws ps/\r<8/\Q (.p .non) (M.set (s 1) (hl s (ws.set r (.sgn k))))
def JG(C D:Addr):List U->MM->UK->Prop:=λus M Q=>∃(s:Nm)(ws:List Wt)(ps:WW)(r q:Nat)(x:Wt),us=[.m (s 0),.p (.int (r:Int)),.p (.int (q:Int))]/\Sto C D M s ws ps/\r<8/\ws[q]?=some x/\Q (.p .non) (M.set (s 1) (hl s (ws.set r x)))
def JF(C D:Addr):List U->MM->UK->Prop:=λus M Q=>∃(s:Nm)(ws:List Wt)(ps:WW)(r q p:Nat)(x y:Wt),us=[.m (s 0),.p (.int (r:Int)),.p (.int (q:Int)),.p (.int (p:Int))]/\Sto C D M s ws ps/\r<8/\ws[q]?=some x/\ws[p]?=some y/\Q (.p .non) ((M++[po D s (x,y)]).set (s 1) (.lst ((ws.map (uS s)).set r (.m M.length))))
def JE(C D:Addr):List U->MM->UK->Prop:=λus M Q=>∃(s:Nm)(ws:List Wt)(ps:WW)(q p:Nat)(x y:Wt),us=[.m (s 0),.p (.int (q:Int)),.p (.int (p:Int))]/\Sto C D M s ws ps/\ws[q]?=some x/\ws[p]?=some y/\Q (.p (.bl (decide (x=y)))) M
def Qp(C D:Addr):List U->MM->UK->Prop:=λus M Q=>∃(s:Nm)(ws:List Wt)(ps:WW)(q:Nat)(x:Wt),us=[.m (s 0),.p (.int (q:Int))]/\Sto C D M s ws ps/\ws[q]?=some x/\Q (.p (.str (vf x))) M
def Zk(C D:Addr):List U->MM->UK->Prop:=λus M Q=>∃(s:Nm)(ws:List Wt)(ps:WW)(q:Nat)(x:Wt),us=[.m (s 0),.p (.int (q:Int))]/\Sto C D M s ws ps/\ws[q]?=some x/\Q (.p (tT x)) M
abbrev j9:Stmt:=qk (top 26) 2
theorem J8:q00 ["self","r","n"] ["self","r","n"] (qd j9):=by ac_rfl
theorem Xp{C D:Addr}{f:Addr}{fd:FuncData}(F:Fun K "number" "PlainStore.number" j9 f fd)(N:Nms mg)(TP:TxP K C):FnOk P w K mg base CX0 1 f fd ["self","r","n"] (spU (Zl C D)):=by
 refine F.zU J8 (by rintro _ _ _ ⟨_,_,_,_,_,rfl,_⟩;rfl) (λae A outer s H E hr=>?_);refine⟨_,(qe (vh qv2 (vp (qS qv0 rfl) qv1 qQ))),_,(by right),λus M Qu h=>?_⟩;obtain⟨s,ws,ps,r,x,rfl,S,aY,q⟩:=h;symm;refine qN TP S ?_;symm;exact v9 S.h (by rw[S.n];exact aY) q
abbrev Yj:Stmt:=qk (top 26) 4
theorem q2U:q00 ["self","r","text"] ["self","r","text"] (qd Yj):=by ac_rfl
theorem q0v{C D:Addr}{f:Addr}{fd:FuncData}(F:Fun K "one" "PlainStore.one" Yj f fd)(N:Nms mg)(TP:TxP K C):FnOk P w K mg base CX0 1 f fd ["self","r","text"] (spU (Zl C D)):=by
 refine F.zU q2U (by rintro _ _ _ ⟨_,_,_,_,_,rfl,_⟩;rfl) (λae A outer s H E hr=>?_);refine⟨_,(qe (vh qv2 (vp (qS qv0 rfl) qv1 qQ))),_,(by right),λus M Qu h=>?_⟩;obtain⟨s,ws,ps,r,x,rfl,S,aY,q⟩:=h;symm;refine qN TP S ?_;symm;exact v9 S.h (by rw[S.n];exact aY) q
abbrev ZY:Stmt:=qk (top 26) 3
theorem q0g:q00 ["self","r","k"] ["self","r","k"] (qd ZY):=by ac_rfl
theorem YT{C D:Addr}{f:Addr}{fd:FuncData}(F:Fun K "sign" "PlainStore.sign" ZY f fd)(N:Nms mg)(TP:TxP K C):FnOk P w K mg base CX0 1 f fd ["self","r","k"] (spU (JD C D)):=by
 refine F.zU q0g (by rintro _ _ _ ⟨_,_,_,_,_,rfl,_⟩;rfl) (λae A outer s H E hr=>?_);refine⟨_,(qe (vh (qu (qa2 qc qv2)) (vp (qS qv0 rfl) qv1 qQ))),_,(by right),λus M Qu h=>?_⟩;obtain⟨s,ws,ps,r,k,rfl,S,aY,q⟩:=h;symm;refine qN TP S ?_;symm;exact v9 (x:=.sgn k) S.h (by rw[S.n];exact aY) q
abbrev Z7:Stmt:=qk (top 26) 5
theorem q1J:q00 ["self","r","q"] ["self","r","q"] (qd Z7):=by ac_rfl
theorem Y2{C D:Addr}{f:Addr}{fd:FuncData}(F:Fun K "copy" "PlainStore.copy" Z7 f fd)(N:Nms mg)(TP:TxP K C):FnOk P w K mg base CX0 1 f fd ["self","r","q"] (spU (JG C D)):=by
 refine F.zU q1J (by rintro _ _ _ ⟨_,_,_,_,_,_,rfl,_⟩;rfl) (λae A outer s H E hr=>?_);refine⟨_,(qe (vh (qj (qf (K:=K) rfl) (qS qv0 rfl) qv2 (λ_ _=>rfl)) (vp (qS qv0 rfl) qv1 qQ))),_,(by right),λus M Qu h=>?_⟩;obtain⟨s,ws,ps,r,q,x,rfl,S,aY,hx,qq⟩:=h;symm;refine qN TP S ?_;symm;refine vA S.h hx ?_;symm;refine qN TP S ?_;symm;exact v9 S.h (by rw[S.n];exact aY) qq
theorem jS{α:Type}{l:List α}{x y:α}:(l++[x]).set l.length y=l++[y]:=by
 rw[Dp _ _ (Ux _),Dh];rfl
abbrev Z2:Stmt:=qk (top 26) 11
theorem q09:q00 ["self","r","q","p"] ["self","r","q","p"] (qd Z2):=by ac_rfl
theorem YX{C D:Addr}{f:Addr}{fd:FuncData}(F:Fun K "pair" "PlainStore.pair" Z2 f fd)(N:Nms mg)(TP:TxP K C)(dR:q03 P w K mg base D "Pair" 1 ["self","left","right"] (spU (WF D))):FnOk P w K mg base CX0 3 f fd ["self","r","q","p"] (spU (JF C D)):=by
 refine F.zU q09 (by rintro _ _ _ ⟨_,_,_,_,_,_,_,_,rfl,_⟩;rfl) (λae A outer s H E hr=>?_);refine⟨_,(qe (vh (q6s dR (YH hr) rfl (qa2 (qj (qf (K:=K) rfl) (qS qv0 rfl) qv2 (λ_ _=>rfl)) (qj (qf (K:=K) rfl) (qS qv0 rfl) qv3 (λ_ _=>rfl)))) (vp (qS qv0 rfl) qv1 qQ))),_,(vQ (kW (by right)) (by right)),λus M Qu h=>?_⟩;obtain⟨s,ws,ps,r,q,p,x,y,rfl,S,aY,hx,hy,qq⟩:=h;have h0:=S.lt (i:=0) (by lia);have h1:=S.lt (i:=1) (by lia);symm;refine qN TP S ?_;symm;refine vA S.h hx ?_;refine qN TP S ?_;symm;refine vA S.h hy ?_;symm;refine⟨M.length,_,_,rfl,qK,rfl,?_⟩;rw[jS];refine xH (u:=.m (s 1)) TP.c TP.na ((ze h0).trans S.s0) (by simp[List.lookup]) ?_;symm;refine VY ((ze h1).trans S.h) (by rw[Uw,S.n];exact aY) ?_;exact qq
abbrev ZZ:Stmt:=qk (top 26) 17
theorem q1B:q00 ["self","q","p"] ["self","q","p"] (qd ZZ):=by ac_rfl
theorem YU{C D:Addr}{f:Addr}{fd:FuncData}(F:Fun K "same" "PlainStore.same" ZZ f fd)(N:Nms mg)(TP:TxP K C)(cu:KD K D=true):FnOk P w K mg base CX0 1 f fd ["self","q","p"] (spU (JE C D)):=by
 refine F.zU q1B (by rintro _ _ _ ⟨_,_,_,_,_,_,_,rfl,_⟩;rfl) (λae A outer s H E hr=>?_);refine⟨_,(qe (qt (vF (q6c (K:=K) rfl cu hr.units) (qj (qf (K:=K) rfl) (qS qv0 rfl) qv1 (λ_ _=>rfl)) (qj (qf (K:=K) rfl) (qS qv0 rfl) qv2 (λ_ _=>rfl)) (qm _)))),_,(v7 (q5a (vW (Qz (qr 0)) (qr 1)) (vW (Qz (qr 0)) (qr 2)))),λus M Qu h=>?_⟩;obtain⟨s,ws,ps,q,p,x,y,rfl,S,hx,hy,qq⟩:=h;left;refine qN TP S ?_;left;refine vA S.h hx ?_;left;refine qN TP S ?_;left;refine vA S.h hy ?_;left;refine q6a S (S.wq hx) (S.wq hy) ?_;left;exact qq
abbrev Z5:Stmt:=qk (top 26) 18
theorem q0J:q00 ["self","q"] ["self","q"] (qd Z5):=by ac_rfl
theorem Y0{C D:Addr}{f:Addr}{fd:FuncData}(F:Fun K "kind" "PlainStore.kind" Z5 f fd)(N:Nms mg)(TP:TxP K C)(bo:Def P w K mg base "kind_of" 1 ["worth"] (spU (WJ D))):FnOk P w K mg base CX0 2 f fd ["self","q"] (spU (Qp C D)):=by
 refine F.zU q0J (by rintro _ _ _ ⟨_,_,_,_,_,rfl,_⟩;rfl) (λae A outer s H E hr=>?_);refine⟨_,(qe (qt (qo bo (YH hr) (qa1 (qj (qf (K:=K) rfl) (qS qv0 rfl) qv1 (λ_ _=>rfl)))))),_,(by right),λus M Qu h=>?_⟩;obtain⟨s,ws,ps,q,x,rfl,S,hx,qq⟩:=h;symm;refine qN TP S ?_;symm;refine vA S.h hx ?_;symm;refine⟨_,rfl,S.ok (S.wq hx),?_⟩;rw[Wq];symm;exact qq
abbrev ZW:Stmt:=qk (top 26) 19
theorem scPsTold:q00 ["self","q","worth"] ["self","q"] (qd ZW):=by ac_rfl
theorem YS{C D:Addr}{f:Addr}{fd:FuncData}(F:Fun K "told" "PlainStore.told" ZW f fd)(N:Nms mg)(TP:TxP K C)(bo:Def P w K mg base "kind_of" 1 ["worth"] (spU (WJ D))):FnOk P w K mg base CX0 2 f fd ["self","q"] (spU (Zk C D)):=by
 refine F.zU scPsTold (by rintro _ _ _ ⟨_,_,_,_,_,rfl,_⟩;rfl) (λae A outer s H E hr=>?_);refine⟨_,(qb (qB (i:=2) scPsTold.nd rfl Gx (qj (qf (K:=K) rfl) (qS qv0 rfl) qv1 (λ_ _=>rfl))) (qe (qt (vm (qi op_eq (qo bo (YH hr) (qa1 qv2)) qc (qm _)) qc qv2)))),_,(by right),λus M Qu h=>?_⟩;obtain⟨s,ws,ps,q,x,rfl,S,hx,qq⟩:=h;symm;refine qN TP S ?_;symm;refine vA S.h hx ?_;symm;refine⟨_,rfl,S.ok (S.wq hx),?_⟩;rw[Wq];cases x with
 |pr i=>
  symm;refine qO rfl ?_;symm;exact qq
 |_=>
  symm;refine qL (by dsimp only[vf];decide) ?_;symm;exact qq
def NeedN(x y:Wt)(Q:Int->Int->Prop)(X:Str->Option Int->Prop):Prop:=match x,y with
 |.num a,.num b=>Q a b
 |.num _,_=>X "WrongKind" (some 2)
 |_,_=>X "WrongKind" (some 1)
def NeedD(x y:Wt)(Q:Int->Int->Prop)(X:Str->Option Int->Prop):Prop:=NeedN x y (λa b=>(b=0->X "Nought" none)/\(b≠0->Q a b)) X
def NeedP(x:Wt)(Q:Nat->Prop)(X:Str->Option Int->Prop):Prop:=match x with
 |.pr i=>Q i
 |_=>X "WrongKind" (some 1)
theorem NeedN.imp{x y:Wt}{Q Q':Int->Int->Prop}{X X':Str->Option Int->Prop}(h:NeedN x y Q X)(hq:∀a b,x=.num a->y=.num b->Q a b->Q' a b)(hx:∀nm p,X nm p->X' nm p):NeedN x y Q' X':=by
 cases x<;>cases y<;>first|exact hq _ _ rfl rfl h|exact hx _ _ h
theorem NeedD.imp{x y:Wt}{Q Q':Int->Int->Prop}{X X':Str->Option Int->Prop}(h:NeedD x y Q X)(hq:∀a b,x=.num a->y=.num b->b≠0->Q a b->Q' a b)(hx:∀nm p,X nm p->X' nm p):NeedD x y Q' X' :=
 NeedN.imp h (λa b e1 e2 h=>⟨λz=>hx _ _ (h.1 z),λz=>hq a b e1 e2 z (h.2 z)⟩) hx
theorem NeedP.imp{x:Wt}{Q Q':Nat->Prop}{X X':Str->Option Int->Prop}(h:NeedP x Q X)(hq:∀i,x=.pr i->Q i->Q' i)(hx:∀nm p,X nm p->X' nm p):NeedP x Q' X':=by
 cases x<;>first|exact hq _ rfl h|exact hx _ _ h
def Qr(C D:Addr):List U->MM->UK->UX->Prop:=λus M Q X=>∃(s:Nm)(ws:List Wt)(ps:WW)(q p:Nat)(x y:Wt),us=[.m (s 0),.p (.int (q:Int)),.p (.int (p:Int))]/\Sto C D M s ws ps/\ws[q]?=some x/\ws[p]?=some y/\NeedN x y (λ_ _=>Q (.p .non) M) λnm p=>X nm p M
def WH(C D:Addr):List U->MM->UK->UX->Prop:=λus M Q X=>∃(s:Nm)(ws:List Wt)(ps:WW)(q p:Nat)(x y:Wt),us=[.m (s 0),.p (.int (q:Int)),.p (.int (p:Int))]/\Sto C D M s ws ps/\ws[q]?=some x/\ws[p]?=some y/\NeedD x y (λ_ _=>Q (.p .non) M) λnm p=>X nm p M
def q22(C D:Addr):List U->MM->UK->UX->Prop:=λus M Q X=>∃(s:Nm)(ws:List Wt)(ps:WW)(q:Nat)(x:Wt),us=[.m (s 0),.p (.int (q:Int))]/\Sto C D M s ws ps/\ws[q]?=some x/\NeedP x (λ_=>Q (.p .non) M) λnm p=>X nm p M
theorem q21:j5 1:=by unfold j5;decide
theorem q5v:j5 2:=by unfold j5;decide
abbrev zK:Stmt:=top 19
theorem QV:q00 ["store","q","p"] ["store","q","p"] (qd zK):=by ac_rfl
theorem Y5{C D CW:Addr}{f:Addr}{fd:FuncData}(F:Fun K "need_numbers" "need_numbers" zK f fd)(N:Nms mg)(aB:Cls K C)(fW:ExcD P w K mg base "WrongKind" CW 1)(aC:MD P w K mg base C "kind" 2 ["q"] (Qp C D)):FnOk P w K mg base (CXe P w) 3 f fd ["store","q","p"] (spX mg (Qr C D)):=by
 refine F.zX QV (by rintro _ _ _ _ ⟨_,_,_,_,_,_,_,rfl,_⟩;rfl) (λae A outer s H E hr=>?_);refine⟨_,(qA (vR (qi jL (vd aC aB qv0 (YH hr) (qa1 qv1)) qc (qm _)) (qw (ko rfl rfl fW (YH hr) (qa1 qa))) vC) (qw (vR (qi jL (vd aC aB qv0 (YH hr) (qa1 qv2)) qc (qm _)) (qw (ko rfl rfl fW (YH hr) (qa1 qa))) vC))),_,(by right),λus M Qu Xu h=>?_⟩;obtain⟨s,ws,ps,q,p,x,y,rfl,S,hx,hy,k⟩:=h;left;refine mS S (by decide) ?_;left;refine⟨s,ws,ps,q,_,rfl,S,hx,?_⟩;cases x with
 |num a=>
  simp only[vf];left;refine mS S (by decide) ?_;left;refine⟨s,ws,ps,p,_,rfl,S,hy,?_⟩;cases y with
  |num b=>
   simp only[vf];left;exact k
  |_=>
   simp only[vf];left;exact⟨2,rfl,q5v,_,_,_,rfl,rfl,k⟩
 |_=>
  simp only[vf];left;exact⟨1,rfl,q21,_,_,_,rfl,rfl,k⟩
abbrev zL:Stmt:=top 20
theorem QY:q00 ["store","q","p"] ["store","q","p"] (qd zL):=by ac_rfl
theorem Y6{C D CN:Addr}{f:Addr}{fd:FuncData}(F:Fun K "need_divisor" "need_divisor" zL f fd)(N:Nms mg)(aB:Cls K C)(aM:ExcC K mg "Nought" CN)(aa:DefX P w K mg base "need_numbers" 3 ["store","q","p"] (spX mg (Qr C D)))(aN:MD P w K mg base C "told" 2 ["q"] (Zk C D)):FnOk P w K mg base (CXe P w) 4 f fd ["store","q","p"] (spX mg (WH C D)):=by
 refine F.zX QY (by rintro _ _ _ _ ⟨_,_,_,_,_,_,_,rfl,_⟩;rfl) (λae A outer s H E hr=>?_);refine⟨_,(qA (vg (vI aa (YH hr) (qa3 qv0 qv1 qv2))) (qw (vR (qi op_eq (vd aN aB qv0 (YH hr) (qa1 qv2)) qa (qm _)) (qw (q10 rfl rfl aM (qa1 qc))) vC))),_,(by right),λus M Qu Xu h=>?_⟩;obtain⟨s,ws,ps,q,p,x,y,rfl,S,hx,hy,k⟩:=h;left;refine⟨s,ws,ps,q,p,x,y,rfl,S,hx,hy,?_⟩;refine NeedN.imp k (λa b ex ey k=>?_) λnm p k=>⟨_,_,_,rfl,rfl,k⟩;subst ex ey;left;refine mS S (by decide) ?_;left;refine⟨s,ws,ps,p,_,rfl,S,hy,?_⟩;simp only[tT];left;by_cases hb:b=0
 ·subst hb
  refine qO rfl ?_;left;exact⟨by decide,_,_,_,rfl,rfl,k.1 rfl⟩
 ·refine qL (by simpa using hb) ?_
  left;exact k.2 hb
abbrev kh:Stmt:=top 21
theorem Kb:q00 ["store","q"] ["store","q"] (qd kh):=by ac_rfl
theorem Y4{C D CW:Addr}{f:Addr}{fd:FuncData}(F:Fun K "need_pair" "need_pair" kh f fd)(N:Nms mg)(aB:Cls K C)(fW:ExcD P w K mg base "WrongKind" CW 1)(aC:MD P w K mg base C "kind" 2 ["q"] (Qp C D)):FnOk P w K mg base (CXe P w) 3 f fd ["store","q"] (spX mg (q22 C D)):=by
 refine F.zX Kb (by rintro _ _ _ _ ⟨_,_,_,_,_,rfl,_⟩;rfl) (λae A outer s H E hr=>?_);refine⟨_,(qw (vR (qi jL (vd aC aB qv0 (YH hr) (qa1 qv1)) qc (qm _)) (qw (ko rfl rfl fW (YH hr) (qa1 qa))) vC)),_,(by right),λus M Qu Xu h=>?_⟩;obtain⟨s,ws,ps,q,x,rfl,S,hx,k⟩:=h;left;refine mS S (by decide) ?_;left;refine⟨s,ws,ps,q,_,rfl,S,hx,?_⟩;cases x with
 |pr i=>
  simp only[vf];left;exact k
 |_=>
  simp only[vf];left;exact⟨1,rfl,q21,_,_,_,rfl,rfl,k⟩
abbrev j8:Stmt:=qk (top 26) 1
theorem J7:q00 ["self","q"] ["self","q"] (qd j8):=by ac_rfl
def kQ(C D:Addr):List U->MM->UK->UX->Prop:=λus M Q X=>∃(s:Nm)(ws:List Wt)(ps:WW)(q:Nat)(x:Wt),us=[.m (s 0),.p (.int (q:Int))]/\Sto C D M s ws ps/\ws[q]?=some x/\NeedP x (λi=>Q (.m (s (i+2))) M) λnm p=>X nm p M
theorem Km{C D:Addr}{f:Addr}{fd:FuncData}(F:Fun K "pair_in" "PlainStore.pair_in" j8 f fd)(N:Nms mg)(TP:TxP K C)(bL:DefX P w K mg base "need_pair" 3 ["store","q"] (spX mg (q22 C D))):FnOk P w K mg base (CXe P w) 4 f fd ["self","q"] (spX mg (kQ C D)):=by
 refine F.zX J7 (by rintro _ _ _ _ ⟨_,_,_,_,_,rfl,_⟩;rfl) (λae A outer s H E hr=>?_);refine⟨_,(qA (vg (vI bL (YH hr) (qa2 qv0 qv1))) (qw (vS (qt (qj (qf (K:=K) rfl) (qS qv0 rfl) qv1 (λ_ _=>rfl)))))),_,(by right),λus M Qu Xu h=>?_⟩;obtain⟨s,ws,ps,q,x,rfl,S,hx,k⟩:=h;left;refine⟨s,ws,ps,q,x,rfl,S,hx,?_⟩;refine NeedP.imp k (λi ex k=>?_) λnm p k=>⟨_,_,_,rfl,rfl,k⟩;subst ex;left;refine qN TP S ?_;left;refine vA S.h hx ?_;left;exact k
def gP3(C D:Addr)(op:Int->Int->(Int->Prop)->Prop):List U->MM->UK->UX->Prop:=λus M Q X=>∃(s:Nm)(ws:List Wt)(ps:WW)(r q p:Nat)(x y:Wt),us=[.m (s 0),.p (.int (r:Int)),.p (.int (q:Int)),.p (.int (p:Int))]/\Sto C D M s ws ps/\r<8/\ws[q]?=some x/\ws[p]?=some y /\
 NeedN x y (λa b=>op a b λn=>Q (.p .non) (M.set (s 1) (hl s (ws.set r (.num n))))) λnm p=>X nm p M
def gP3D(C D:Addr)(op:Int->Int->(Int->Prop)->Prop):List U->MM->UK->UX->Prop:=λus M Q X=>∃(s:Nm)(ws:List Wt)(ps:WW)(r q p:Nat)(x y:Wt),us=[.m (s 0),.p (.int (r:Int)),.p (.int (q:Int)),.p (.int (p:Int))]/\Sto C D M s ws ps/\r<8/\ws[q]?=some x/\ws[p]?=some y /\
 NeedD x y (λa b=>op a b λn=>Q (.p .non) (M.set (s 1) (hl s (ws.set r (.num n))))) λnm p=>X nm p M
def q1q(a b:Int)(Q:Int->Prop):Prop:=Q (a+b)
def q0p(a b:Int)(Q:Int->Prop):Prop:=Q (a-b)
def Jo(a b:Int)(Q:Int->Prop):Prop:=IntMulOk a b/\Q (a*b)
def q0F(a b:Int)(Q:Int->Prop):Prop:=Builtin.divisionGoesByPylong a b=false/\Q (a.fdiv b)
def q0I(a b:Int)(Q:Int->Prop):Prop:=Q (a.fmod b)
abbrev Z1:Stmt:=qk (top 26) 6
theorem q1v:q00 ["self","r","q","p"] ["self","r","q","p"] (qd Z1):=by ac_rfl
theorem YW{C D:Addr}{f:Addr}{fd:FuncData}(F:Fun K "plus" "PlainStore.plus" Z1 f fd)(N:Nms mg)(TP:TxP K C)(aa:DefX P w K mg base "need_numbers" 3 ["store","q","p"] (spX mg (Qr C D))):FnOk P w K mg base (CXe P w) 5 f fd ["self","r","q","p"] (spX mg (gP3 C D q1q)):=by
 refine F.zX q1v (by rintro _ _ _ _ ⟨_,_,_,_,_,_,_,_,rfl,_⟩;rfl) (λae A outer s H E hr=>?_);refine⟨_,(qA (vg (vI aa (YH hr) (qa3 qv0 qv2 qv3))) (qw (vS (vh (qC vq (qj (qf (K:=K) rfl) (qS qv0 rfl) qv2 (λ_ _=>rfl)) (qj (qf (K:=K) rfl) (qS qv0 rfl) qv3 (λ_ _=>rfl))) (vp (qS qv0 rfl) qv1 qQ))))),_,(by right),λus M Qu Xu h=>?_⟩;obtain⟨s,ws,ps,r,q,p,x,y,rfl,S,aY,hx,hy,k⟩:=h;left;refine⟨s,ws,ps,q,p,x,y,rfl,S,hx,hy,?_⟩;refine NeedN.imp k (λa b ex ey k=>?_) λnm p k=>⟨_,_,_,rfl,rfl,k⟩;subst ex ey;left;refine qN TP S ?_;left;refine vA S.h hx ?_;refine qN TP S ?_;left;refine vA S.h hy ?_;simp only[uS];left;refine qN TP S ?_;left;exact v9 (x:=.num _) S.h (by rw[S.n];exact aY) k
abbrev Z4:Stmt:=qk (top 26) 7
theorem q1z:q00 ["self","r","q","p"] ["self","r","q","p"] (qd Z4):=by ac_rfl
theorem YZ{C D:Addr}{f:Addr}{fd:FuncData}(F:Fun K "less" "PlainStore.less" Z4 f fd)(N:Nms mg)(TP:TxP K C)(aa:DefX P w K mg base "need_numbers" 3 ["store","q","p"] (spX mg (Qr C D))):FnOk P w K mg base (CXe P w) 5 f fd ["self","r","q","p"] (spX mg (gP3 C D q0p)):=by
 refine F.zX q1z (by rintro _ _ _ _ ⟨_,_,_,_,_,_,_,_,rfl,_⟩;rfl) (λae A outer s H E hr=>?_);refine⟨_,(qA (vg (vI aa (YH hr) (qa3 qv0 qv2 qv3))) (qw (vS (vh (qC jz (qj (qf (K:=K) rfl) (qS qv0 rfl) qv2 (λ_ _=>rfl)) (qj (qf (K:=K) rfl) (qS qv0 rfl) qv3 (λ_ _=>rfl))) (vp (qS qv0 rfl) qv1 qQ))))),_,(by right),λus M Qu Xu h=>?_⟩;obtain⟨s,ws,ps,r,q,p,x,y,rfl,S,aY,hx,hy,k⟩:=h;left;refine⟨s,ws,ps,q,p,x,y,rfl,S,hx,hy,?_⟩;refine NeedN.imp k (λa b ex ey k=>?_) λnm p k=>⟨_,_,_,rfl,rfl,k⟩;subst ex ey;left;refine qN TP S ?_;left;refine vA S.h hx ?_;refine qN TP S ?_;left;refine vA S.h hy ?_;simp only[uS];left;refine qN TP S ?_;left;exact v9 (x:=.num _) S.h (by rw[S.n];exact aY) k
abbrev Q3:Stmt:=qk (top 26) 8
theorem Yc:q00 ["self","r","q","p"] ["self","r","q","p"] (qd Q3):=by ac_rfl
theorem Kj{C D:Addr}{f:Addr}{fd:FuncData}(F:Fun K "times" "PlainStore.times" Q3 f fd)(N:Nms mg)(TP:TxP K C)(aa:DefX P w K mg base "need_numbers" 3 ["store","q","p"] (spX mg (Qr C D))):FnOk P w K mg base (CXe P w) 5 f fd ["self","r","q","p"] (spX mg (gP3 C D Jo)):=by
 refine F.zX Yc (by rintro _ _ _ _ ⟨_,_,_,_,_,_,_,_,rfl,_⟩;rfl) (λae A outer s H E hr=>?_);refine⟨_,(qA (vg (vI aa (YH hr) (qa3 qv0 qv2 qv3))) (qw (vS (vh (qC Xn (qj (qf (K:=K) rfl) (qS qv0 rfl) qv2 (λ_ _=>rfl)) (qj (qf (K:=K) rfl) (qS qv0 rfl) qv3 (λ_ _=>rfl))) (vp (qS qv0 rfl) qv1 qQ))))),_,(by right),λus M Qu Xu h=>?_⟩;obtain⟨s,ws,ps,r,q,p,x,y,rfl,S,aY,hx,hy,k⟩:=h;left;refine⟨s,ws,ps,q,p,x,y,rfl,S,hx,hy,?_⟩;refine NeedN.imp k (λa b ex ey k=>?_) λnm p k=>⟨_,_,_,rfl,rfl,k⟩;subst ex ey;left;refine qN TP S ?_;left;refine vA S.h hx ?_;refine qN TP S ?_;left;refine vA S.h hy ?_;simp only[uS];left;refine⟨k.1,?_⟩;left;refine qN TP S ?_;left;exact v9 (x:=.num _) S.h (by rw[S.n];exact aY) k.2
abbrev Z3:Stmt:=qk (top 26) 9
theorem q0b:q00 ["self","r","q","p"] ["self","r","q","p"] (qd Z3):=by ac_rfl
theorem YY{C D:Addr}{f:Addr}{fd:FuncData}(F:Fun K "over" "PlainStore.over" Z3 f fd)(N:Nms mg)(TP:TxP K C)(aD:DefX P w K mg base "need_divisor" 4 ["store","q","p"] (spX mg (WH C D))):FnOk P w K mg base (CXe P w) 5 f fd ["self","r","q","p"] (spX mg (gP3D C D q0F)):=by
 refine F.zX q0b (by rintro _ _ _ _ ⟨_,_,_,_,_,_,_,_,rfl,_⟩;rfl) (λae A outer s H E hr=>?_);refine⟨_,(qA (vg (vI aD (YH hr) (qa3 qv0 qv2 qv3))) (qw (vS (vh (qC Jm (qj (qf (K:=K) rfl) (qS qv0 rfl) qv2 (λ_ _=>rfl)) (qj (qf (K:=K) rfl) (qS qv0 rfl) qv3 (λ_ _=>rfl))) (vp (qS qv0 rfl) qv1 qQ))))),_,(by right),λus M Qu Xu h=>?_⟩;obtain⟨s,ws,ps,r,q,p,x,y,rfl,S,aY,hx,hy,k⟩:=h;left;refine⟨s,ws,ps,q,p,x,y,rfl,S,hx,hy,?_⟩;refine NeedD.imp k (λa b ex ey hb k2=>?_) λnm p k=>⟨_,_,_,rfl,rfl,k⟩;subst ex ey;left;refine qN TP S ?_;left;refine vA S.h hx ?_;refine qN TP S ?_;left;refine vA S.h hy ?_;simp only[uS];left;refine⟨⟨hb,k2.1⟩,?_⟩;left;refine qN TP S ?_;left;exact v9 (x:=.num _) S.h (by rw[S.n];exact aY) k2.2
abbrev Z0:Stmt:=qk (top 26) 10
theorem q18:q00 ["self","r","q","p"] ["self","r","q","p"] (qd Z0):=by ac_rfl
theorem YV{C D:Addr}{f:Addr}{fd:FuncData}(F:Fun K "rest" "PlainStore.rest" Z0 f fd)(N:Nms mg)(TP:TxP K C)(aD:DefX P w K mg base "need_divisor" 4 ["store","q","p"] (spX mg (WH C D))):FnOk P w K mg base (CXe P w) 5 f fd ["self","r","q","p"] (spX mg (gP3D C D q0I)):=by
 refine F.zX q18 (by rintro _ _ _ _ ⟨_,_,_,_,_,_,_,_,rfl,_⟩;rfl) (λae A outer s H E hr=>?_);refine⟨_,(qA (vg (vI aD (YH hr) (qa3 qv0 qv2 qv3))) (qw (vS (vh (qC YM (qj (qf (K:=K) rfl) (qS qv0 rfl) qv2 (λ_ _=>rfl)) (qj (qf (K:=K) rfl) (qS qv0 rfl) qv3 (λ_ _=>rfl))) (vp (qS qv0 rfl) qv1 qQ))))),_,(by right),λus M Qu Xu h=>?_⟩;obtain⟨s,ws,ps,r,q,p,x,y,rfl,S,aY,hx,hy,k⟩:=h;left;refine⟨s,ws,ps,q,p,x,y,rfl,S,hx,hy,?_⟩;refine NeedD.imp k (λa b ex ey hb k2=>?_) λnm p k=>⟨_,_,_,rfl,rfl,k⟩;subst ex ey;left;refine qN TP S ?_;left;refine vA S.h hx ?_;refine qN TP S ?_;left;refine vA S.h hy ?_;simp only[uS];left;refine⟨hb,?_⟩;left;refine qN TP S ?_;left;exact v9 (x:=.num _) S.h (by rw[S.n];exact aY) k2
abbrev Q5:Stmt:=qk (top 26) 16
theorem Ye:q00 ["self","q","p"] ["self","q","p"] (qd Q5):=by ac_rfl
def gPBelow(C D:Addr):List U->MM->UK->UX->Prop:=λus M Q X=>∃(s:Nm)(ws:List Wt)(ps:WW)(q p:Nat)(x y:Wt),us=[.m (s 0),.p (.int (q:Int)),.p (.int (p:Int))]/\Sto C D M s ws ps/\ws[q]?=some x/\ws[p]?=some y/\NeedN x y (λa b=>Q (.p (.bl (decide (a<b)))) M) λnm p=>X nm p M
theorem Kl{C D:Addr}{f:Addr}{fd:FuncData}(F:Fun K "below" "PlainStore.below" Q5 f fd)(N:Nms mg)(TP:TxP K C)(aa:DefX P w K mg base "need_numbers" 3 ["store","q","p"] (spX mg (Qr C D))):FnOk P w K mg base (CXe P w) 5 f fd ["self","q","p"] (spX mg (gPBelow C D)):=by
 refine F.zX Ye (by rintro _ _ _ _ ⟨_,_,_,_,_,_,_,rfl,_⟩;rfl) (λae A outer s H E hr=>?_);refine⟨_,(qA (vg (vI aa (YH hr) (qa3 qv0 qv1 qv2))) (qw (vS (qt (vF Ki (qj (qf (K:=K) rfl) (qS qv0 rfl) qv1 (λ_ _=>rfl)) (qj (qf (K:=K) rfl) (qS qv0 rfl) qv2 (λ_ _=>rfl)) (qm _)))))),_,(by right),λus M Qu Xu h=>?_⟩;obtain⟨s,ws,ps,q,p,x,y,rfl,S,hx,hy,k⟩:=h;left;refine⟨s,ws,ps,q,p,x,y,rfl,S,hx,hy,?_⟩;refine NeedN.imp k (λa b ex ey k=>?_) λnm p k=>⟨_,_,_,rfl,rfl,k⟩;subst ex ey;left;refine qN TP S ?_;left;refine vA S.h hx ?_;refine qN TP S ?_;left;refine vA S.h hy ?_;simp only[uS];left;exact k
def gPGet(C D:Addr)(mi:Wt×Wt->Wt):List U->MM->UK->UX->Prop:=λus M Q X=>∃(s:Nm)(ws:List Wt)(ps:WW)(r q:Nat)(x:Wt),us=[.m (s 0),.p (.int (r:Int)),.p (.int (q:Int))]/\Sto C D M s ws ps/\r<8/\ws[q]?=some x/\NeedP x (λi=>∀z,ps[i]?=some z->Q (.p .non) (M.set (s 1) (hl s (ws.set r (mi z))))) λnm p=>X nm p M
def gPSet(C D:Addr)(put:Wt×Wt->Wt->Wt×Wt):List U->MM->UK->UX->Prop:=λus M Q X=>∃(s:Nm)(ws:List Wt)(ps:WW)(q p:Nat)(x y:Wt),us=[.m (s 0),.p (.int (q:Int)),.p (.int (p:Int))]/\Sto C D M s ws ps/\ws[q]?=some x/\ws[p]?=some y/\NeedP x (λi=>∀z,ps[i]?=some z->Q (.p .non) (M.set (s (i+2)) (po D s (put z y)))) λnm p=>X nm p M
def putL(z:Wt×Wt)(y:Wt):Wt×Wt:=(y,z.2)
def putR(z:Wt×Wt)(y:Wt):Wt×Wt:=(z.1,y)
abbrev Q4:Stmt:=qk (top 26) 12
theorem Yd:q00 ["self","r","q"] ["self","r","q"] (qd Q4):=by ac_rfl
theorem Kk{C D:Addr}{f:Addr}{fd:FuncData}(F:Fun K "first" "PlainStore.first" Q4 f fd)(N:Nms mg)(TP:TxP K C)(TQ:TxQ K D)(aB:Cls K C)(am:MX P w K mg base C "pair_in" 4 ["q"] (kQ C D)):FnOk P w K mg base (CXe P w) 5 f fd ["self","r","q"] (spX mg (gPGet C D Prod.fst)):=by
 refine F.zX Yd (by rintro _ _ _ _ ⟨_,_,_,_,_,_,rfl,_⟩;rfl) (λae A outer s H E hr=>?_);refine⟨_,(qw (q28 (q2p (qY qv0 aB am (YH hr) (qa1 qv2))) (vp (qS qv0 rfl) qv1 qQ))),_,(Ga (q2b (XV (qr 0) (ql (qr 2) qJ))) (by right)),λus M Qu Xu h=>?_⟩;obtain⟨s,ws,ps,r,q,x,rfl,S,aY,hx,k⟩:=h;left;refine mS S (by decide) ?_;left;refine⟨s,ws,ps,q,x,rfl,S,hx,?_⟩;refine NeedP.imp k (λi ex k=>?_) λnm p k=>⟨_,_,_,rfl,rfl,k⟩;subst ex;obtain⟨z,hz⟩:=S.pi hx;refine xH (u:=uS s (Prod.fst z)) TQ.c TQ.nl (S.p i z hz) rfl ?_;left;refine qN TP S ?_;left;exact v9 (x:=Prod.fst z) S.h (by rw[S.n];exact aY) (k z hz)
abbrev j7:Stmt:=qk (top 26) 13
theorem J6:q00 ["self","r","q"] ["self","r","q"] (qd j7):=by ac_rfl
theorem Xo{C D:Addr}{f:Addr}{fd:FuncData}(F:Fun K "second" "PlainStore.second" j7 f fd)(N:Nms mg)(TP:TxP K C)(TQ:TxQ K D)(aB:Cls K C)(am:MX P w K mg base C "pair_in" 4 ["q"] (kQ C D)):FnOk P w K mg base (CXe P w) 5 f fd ["self","r","q"] (spX mg (gPGet C D Prod.snd)):=by
 refine F.zX J6 (by rintro _ _ _ _ ⟨_,_,_,_,_,_,rfl,_⟩;rfl) (λae A outer s H E hr=>?_);refine⟨_,(qw (q28 (q2p (qY qv0 aB am (YH hr) (qa1 qv2))) (vp (qS qv0 rfl) qv1 qQ))),_,(Ga (q2b (XV (qr 0) (ql (qr 2) qJ))) (by right)),λus M Qu Xu h=>?_⟩;obtain⟨s,ws,ps,r,q,x,rfl,S,aY,hx,k⟩:=h;left;refine mS S (by decide) ?_;left;refine⟨s,ws,ps,q,x,rfl,S,hx,?_⟩;refine NeedP.imp k (λi ex k=>?_) λnm p k=>⟨_,_,_,rfl,rfl,k⟩;subst ex;obtain⟨z,hz⟩:=S.pi hx;refine xH (u:=uS s (Prod.snd z)) TQ.c TQ.nr (S.p i z hz) rfl ?_;left;refine qN TP S ?_;left;exact v9 (x:=Prod.snd z) S.h (by rw[S.n];exact aY) (k z hz)
abbrev xx:Stmt:=qk (top 26) 14
theorem scPsSetFirst:q00 ["self","q","p","changed"] ["self","q","p"] (qd xx):=by ac_rfl
theorem Qa{C D:Addr}{f:Addr}{fd:FuncData}(F:Fun K "set_first" "PlainStore.set_first" xx f fd)(N:Nms mg)(TP:TxP K C)(TQ:TxQ K D)(aB:Cls K C)(am:MX P w K mg base C "pair_in" 4 ["q"] (kQ C D)):FnOk P w K mg base (CXe P w) 5 f fd ["self","q","p"] (spX mg (gPSet C D putL)):=by
 refine F.zX scPsSetFirst (by rintro _ _ _ _ ⟨_,_,_,_,_,_,_,rfl,_⟩;rfl) (λae A outer s H E hr=>?_);refine⟨_,(qA (Jh (i:=3) scPsSetFirst.nd rfl (.inl rfl) (qY qv0 aB am (YH hr) (qa1 qv1))) (qw (vS (xP qv3 (qj (qf (K:=K) rfl) (qS qv0 rfl) qv2 (λ_ _=>rfl)) rfl)))),_,(by right),λus M Qu Xu h=>?_⟩;obtain⟨s,ws,ps,q,p,x,y,rfl,S,hx,hy,k⟩:=h;left;refine mS S (by decide) ?_;left;refine⟨s,ws,ps,q,x,rfl,S,hx,?_⟩;refine NeedP.imp k (λi ex k=>?_) λnm p k=>⟨_,_,_,rfl,rfl,k⟩;subst ex;obtain⟨z,hz⟩:=S.pi hx;left;refine qN TP S ?_;left;refine vA S.h hy ?_;left;exact vO TQ.c TQ.nl (S.p i z hz) (by show 2<1000;decide) (k z hz)
abbrev zJ:Stmt:=qk (top 26) 15
theorem scPsSetSecond:q00 ["self","q","p","changed"] ["self","q","p"] (qd zJ):=by ac_rfl
theorem kz{C D:Addr}{f:Addr}{fd:FuncData}(F:Fun K "set_second" "PlainStore.set_second" zJ f fd)(N:Nms mg)(TP:TxP K C)(TQ:TxQ K D)(aB:Cls K C)(am:MX P w K mg base C "pair_in" 4 ["q"] (kQ C D)):FnOk P w K mg base (CXe P w) 5 f fd ["self","q","p"] (spX mg (gPSet C D putR)):=by
 refine F.zX scPsSetSecond (by rintro _ _ _ _ ⟨_,_,_,_,_,_,_,rfl,_⟩;rfl) (λae A outer s H E hr=>?_);refine⟨_,(qA (Jh (i:=3) scPsSetSecond.nd rfl (.inl rfl) (qY qv0 aB am (YH hr) (qa1 qv1))) (qw (vS (xP qv3 (qj (qf (K:=K) rfl) (qS qv0 rfl) qv2 (λ_ _=>rfl)) rfl)))),_,(by right),λus M Qu Xu h=>?_⟩;obtain⟨s,ws,ps,q,p,x,y,rfl,S,hx,hy,k⟩:=h;left;refine mS S (by decide) ?_;left;refine⟨s,ws,ps,q,x,rfl,S,hx,?_⟩;refine NeedP.imp k (λi ex k=>?_) λnm p k=>⟨_,_,_,rfl,rfl,k⟩;subst ex;obtain⟨z,hz⟩:=S.pi hx;left;refine qN TP S ?_;left;refine vA S.h hy ?_;left;exact vO TQ.c TQ.nr (S.p i z hz) (by show 2<1000;decide) (k z hz)
inductive DeedDo(ws:List Wt)(ps:WW):List T->List Wt->WW->Prop
 |num (r:Nat) (n:Int) (hr:r<8):DeedDo ws ps [.str "number",.int (r:Int),.int n] (ws.set r (.num n)) ps
 |sgn (r:Nat) (k:Int) (hr:r<8):DeedDo ws ps [.str "sign",.int (r:Int),.int k] (ws.set r (.sgn k)) ps
 |one (r:Nat) (t:Str) (hr:r<8):DeedDo ws ps [.str "one",.int (r:Int),.str t] (ws.set r (.one t)) ps
 |copy (r q:Nat) (x:Wt) (hr:r<8) (hq:ws[q]?=some x):DeedDo ws ps [.str "copy",.int (r:Int),.int (q:Int)] (ws.set r x) ps
 |plus (r q p:Nat) (a b:Int) (hr:r<8) (hq:ws[q]?=some (.num a)) (hp:ws[p]?=some (.num b)):DeedDo ws ps [.str "plus",.int (r:Int),.int (q:Int),.int (p:Int)] (ws.set r (.num (a+b))) ps
 |less (r q p:Nat) (a b:Int) (hr:r<8) (hq:ws[q]?=some (.num a)) (hp:ws[p]?=some (.num b)):DeedDo ws ps [.str "less",.int (r:Int),.int (q:Int),.int (p:Int)] (ws.set r (.num (a-b))) ps
 |times (r q p:Nat) (a b:Int) (hr:r<8) (hq:ws[q]?=some (.num a)) (hp:ws[p]?=some (.num b)) (hm:IntMulOk a b):DeedDo ws ps [.str "times",.int (r:Int),.int (q:Int),.int (p:Int)] (ws.set r (.num (a*b))) ps
 |over (r q p:Nat) (a b:Int) (hr:r<8) (hq:ws[q]?=some (.num a)) (hp:ws[p]?=some (.num b)) (hb:b≠0) (hd:Builtin.divisionGoesByPylong a b=false):DeedDo ws ps [.str "over",.int (r:Int),.int (q:Int),.int (p:Int)] (ws.set r (.num (a.fdiv b))) ps
 |rest (r q p:Nat) (a b:Int) (hr:r<8) (hq:ws[q]?=some (.num a)) (hp:ws[p]?=some (.num b)) (hb:b≠0):DeedDo ws ps [.str "rest",.int (r:Int),.int (q:Int),.int (p:Int)] (ws.set r (.num (a.fmod b))) ps
 |pair (r q p:Nat) (x y:Wt) (hr:r<8) (hq:ws[q]?=some x) (hp:ws[p]?=some y):DeedDo ws ps [.str "pair",.int (r:Int),.int (q:Int),.int (p:Int)] (ws.set r (.pr ps.length)) (ps++[(x,y)])
 |first (r q i:Nat) (z:Wt×Wt) (hr:r<8) (hq:ws[q]?=some (.pr i)) (hi:ps[i]?=some z):DeedDo ws ps [.str "first",.int (r:Int),.int (q:Int)] (ws.set r z.1) ps
 |second (r q i:Nat) (z:Wt×Wt) (hr:r<8) (hq:ws[q]?=some (.pr i)) (hi:ps[i]?=some z):DeedDo ws ps [.str "second",.int (r:Int),.int (q:Int)] (ws.set r z.2) ps
 |setL (q p i:Nat) (z:Wt×Wt) (y:Wt) (hq:ws[q]?=some (.pr i)) (hi:ps[i]?=some z) (hp:ws[p]?=some y):DeedDo ws ps [.str "set_first",.int (q:Int),.int (p:Int)] ws (ps.set i (y,z.2))
 |setR (q p i:Nat) (z:Wt×Wt) (y:Wt) (hq:ws[q]?=some (.pr i)) (hi:ps[i]?=some z) (hp:ws[p]?=some y):DeedDo ws ps [.str "set_second",.int (q:Int),.int (p:Int)] ws (ps.set i (z.1,y))
inductive DeedAsk(ws:List Wt):List T->T->Prop
 |kind (q:Nat) (x:Wt) (hq:ws[q]?=some x):DeedAsk ws [.str "kind",.int (q:Int)] (.str (vf x))
 |told (q:Nat) (x:Wt) (hq:ws[q]?=some x):DeedAsk ws [.str "told",.int (q:Int)] (tT x)
 |same (q p:Nat) (x y:Wt) (hq:ws[q]?=some x) (hp:ws[p]?=some y):DeedAsk ws [.str "same",.int (q:Int),.int (p:Int)] (.bl (decide (x=y)))
 |below (q p:Nat) (a b:Int) (hq:ws[q]?=some (.num a)) (hp:ws[p]?=some (.num b)):DeedAsk ws [.str "below",.int (q:Int),.int (p:Int)] (.bl (decide (a<b)))
def five(w:Str):Prop:=w = "plus" \/ w = "less" \/ w = "times" \/ w = "over" \/ w = "rest"
inductive DeedNo(ws:List Wt):List T->Str->Option Int->Prop
 |n1 (w:Str) (hw:five w) (r q p:Nat) (x y:Wt) (hr:r<8) (hq:ws[q]?=some x) (hx:vf x ≠ "number") (hp:ws[p]?=some y):DeedNo ws [.str w,.int (r:Int),.int (q:Int),.int (p:Int)] "WrongKind" (some 1)
 |n2 (w:Str) (hw:five w) (r q p:Nat) (a:Int) (y:Wt) (hr:r<8) (hq:ws[q]?=some (.num a)) (hp:ws[p]?=some y) (hy:vf y ≠ "number"):DeedNo ws [.str w,.int (r:Int),.int (q:Int),.int (p:Int)] "WrongKind" (some 2)
 |nz (w:Str) (hw:w = "over" \/ w = "rest") (r q p:Nat) (a:Int) (hr:r<8) (hq:ws[q]?=some (.num a)) (hp:ws[p]?=some (.num 0)):DeedNo ws [.str w,.int (r:Int),.int (q:Int),.int (p:Int)] "Nought" none
 |p1 (w:Str) (hw:w = "first" \/ w = "second") (r q:Nat) (x:Wt) (hr:r<8) (hq:ws[q]?=some x) (hx:vf x ≠ "pair"):DeedNo ws [.str w,.int (r:Int),.int (q:Int)] "WrongKind" (some 1)
 |p2 (w:Str) (hw:w = "set_first" \/ w = "set_second") (q p:Nat) (x y:Wt) (hq:ws[q]?=some x) (hx:vf x ≠ "pair") (hp:ws[p]?=some y):DeedNo ws [.str w,.int (q:Int),.int (p:Int)] "WrongKind" (some 1)
inductive AskNo(ws:List Wt):List T->Int->Prop
 |b1 (q p:Nat) (x y:Wt) (hq:ws[q]?=some x) (hx:vf x ≠ "number") (hp:ws[p]?=some y):AskNo ws [.str "below",.int (q:Int),.int (p:Int)] 1
 |b2 (q p:Nat) (a:Int) (y:Wt) (hq:ws[q]?=some (.num a)) (hp:ws[p]?=some y) (hy:vf y ≠ "number"):AskNo ws [.str "below",.int (q:Int),.int (p:Int)] 2
theorem zY{x y:Wt}{Q:Int->Int->Prop}{X:Str->Option Int->Prop}(h:vf x ≠ "number")(k:X "WrongKind" (some 1)):NeedN x y Q X:=by cases x<;>first|exact absurd rfl h|exact k
theorem zW{a:Int}{y:Wt}{Q:Int->Int->Prop}{X:Str->Option Int->Prop}(h:vf y ≠ "number")(k:X "WrongKind" (some 2)):NeedN (.num a) y Q X:=by cases y<;>first|exact absurd rfl h|exact k
theorem Vl{x:Wt}{Q:Nat->Prop}{X:Str->Option Int->Prop}(h:vf x ≠ "pair")(k:X "WrongKind" (some 1)):NeedP x Q X:=by cases x<;>first|exact absurd rfl h|exact k
theorem Wf{a:Int}{Q:Int->Int->Prop}{X:Str->Option Int->Prop}(k:X "Nought" none):NeedD (.num a) (.num 0) Q X:=⟨λ_=>k,λh=>absurd rfl h⟩
theorem Jr{a b:Int}{Q:Int->Int->Prop}{X:Str->Option Int->Prop}(h:b≠0)(k:Q a b):NeedD (.num a) (.num b) Q X:=⟨λz=>absurd z h,λ_=>k⟩
def Out(C D:Addr)(ds:List T)(k:Nat)(M:MM)(Q:UK)(X:UX):Prop:=∃(s:Nm)(ws:List Wt)(ps:WW),k=s 0/\Sto C D M s ws ps /\
 ((∃ay aj,DeedDo ws ps ds ay aj/\∀M' s',Sto C D M' s' ay aj->Go M M' s s' (ps.length+2) (aj.length+2)->Q (.p .non) M')\/(∃bU,DeedAsk ws ds bU/\Q (.p bU) M)\/(∃nm p,DeedNo ws ds nm p/\X nm p M)\/∃p,AskNo ws ds p/\X "WrongKind" (some p) M)
inductive Call(C D:Addr)(k:Nat)(M:MM)(Q:UK)(X:UX):List T->Prop
 |number (a b:T) (h:Zl C D [.m k,.p a,.p b] M Q):Call C D k M Q X [.str "number", a,b]
 |sign (a b:T) (h:JD C D [.m k,.p a,.p b] M Q):Call C D k M Q X [.str "sign", a,b]
 |one (a b:T) (h:Zl C D [.m k,.p a,.p b] M Q):Call C D k M Q X [.str "one", a,b]
 |copy (a b:T) (h:JG C D [.m k,.p a,.p b] M Q):Call C D k M Q X [.str "copy", a,b]
 |pair (a b c:T) (h:JF C D [.m k,.p a,.p b,.p c] M Q):Call C D k M Q X [.str "pair", a,b,c]
 |same (a b:T) (h:JE C D [.m k,.p a,.p b] M Q):Call C D k M Q X [.str "same", a,b]
 |kind (a:T) (h:Qp C D [.m k,.p a] M Q):Call C D k M Q X [.str "kind", a]
 |told (a:T) (h:Zk C D [.m k,.p a] M Q):Call C D k M Q X [.str "told", a]
 |plus (a b c:T) (h:gP3 C D q1q [.m k,.p a,.p b,.p c] M Q X):Call C D k M Q X [.str "plus", a,b,c]
 |less (a b c:T) (h:gP3 C D q0p [.m k,.p a,.p b,.p c] M Q X):Call C D k M Q X [.str "less", a,b,c]
 |times (a b c:T) (h:gP3 C D Jo [.m k,.p a,.p b,.p c] M Q X):Call C D k M Q X [.str "times", a,b,c]
 |over (a b c:T) (h:gP3D C D q0F [.m k,.p a,.p b,.p c] M Q X):Call C D k M Q X [.str "over", a,b,c]
 |rest (a b c:T) (h:gP3D C D q0I [.m k,.p a,.p b,.p c] M Q X):Call C D k M Q X [.str "rest", a,b,c]
 |first (a b:T) (h:gPGet C D Prod.fst [.m k,.p a,.p b] M Q X):Call C D k M Q X [.str "first", a,b]
 |second (a b:T) (h:gPGet C D Prod.snd [.m k,.p a,.p b] M Q X):Call C D k M Q X [.str "second", a,b]
 |setL (a b:T) (h:gPSet C D putL [.m k,.p a,.p b] M Q X):Call C D k M Q X [.str "set_first", a,b]
 |setR (a b:T) (h:gPSet C D putR [.m k,.p a,.p b] M Q X):Call C D k M Q X [.str "set_second", a,b]
 |below (a b:T) (h:gPBelow C D [.m k,.p a,.p b] M Q X):Call C D k M Q X [.str "below", a,b]
theorem Out.call{C D:Addr}{ds:List T}{k:Nat}{M:MM}{Q:UK}{X:UX}(h:Out C D ds k M Q X):Call C D k M Q X ds:=by
 obtain⟨s,ws,ps,rfl,S,h⟩:=h;rcases h with⟨ay,aj,hd,q⟩|⟨bU,hd,q⟩|⟨nm,pp,hd,q⟩|⟨pp,hd,q⟩
 ·cases hd with
  |num r n hr=>exact .number _ _ ⟨s,ws,ps,r,.num n,rfl,S,hr,q _ s (S.put trivial) (.set (by lia))⟩
  |sgn r n hr=>exact .sign _ _ ⟨s,ws,ps,r,n,rfl,S,hr,q _ s (S.put trivial) (.set (by lia))⟩
  |one r n hr=>exact .one _ _ ⟨s,ws,ps,r,.one n,rfl,S,hr,q _ s (S.put trivial) (.set (by lia))⟩
  |copy r qq x hr hq=>exact .copy _ _ ⟨s,ws,ps,r,qq,x,rfl,S,hr,hq,q _ s (S.put (S.wq hq)) (.set (by lia))⟩
  |plus r qq p a b hr hq hp=>exact .plus _ _ _ ⟨s,ws,ps,r,qq,p,_,_,rfl,S,hr,hq,hp,q _ s (S.put trivial) (.set (by lia))⟩
  |less r qq p a b hr hq hp=>exact .less _ _ _ ⟨s,ws,ps,r,qq,p,_,_,rfl,S,hr,hq,hp,q _ s (S.put trivial) (.set (by lia))⟩
  |times r qq p a b hr hq hp hm=>exact .times _ _ _ ⟨s,ws,ps,r,qq,p,_,_,rfl,S,hr,hq,hp,hm,q _ s (S.put trivial) (.set (by lia))⟩
  |over r qq p a b hr hq hp hb hZ=>exact .over _ _ _ ⟨s,ws,ps,r,qq,p,_,_,rfl,S,hr,hq,hp,Jr hb ⟨hZ,q _ s (S.put trivial) (.set (by lia))⟩⟩
  |rest r qq p a b hr hq hp hb=>exact .rest _ _ _ ⟨s,ws,ps,r,qq,p,_,_,rfl,S,hr,hq,hp,Jr hb (q _ s (S.put trivial) (.set (by lia)))⟩
  |pair r qq p x y hr hq hp=>
   have nw:=S.new (r:=r) (x:=(x,y)) ⟨S.wq hq,S.wq hp⟩;exact .pair _ _ _ ⟨s,ws,ps,r,qq,p,_,_,rfl,S,hr,hq,hp,q _ _ nw.1 nw.2⟩
  |first r qq i z hr hq hi=>
   refine .first _ _ ⟨s,ws,ps,r,qq,_,rfl,S,hr,hq,λz' hz=>?_⟩;rw[hi]at hz;cases hz;exact q _ s (S.put (S.wi hi).1) (.set (by lia))
  |second r qq i z hr hq hi=>
   refine .second _ _ ⟨s,ws,ps,r,qq,_,rfl,S,hr,hq,λz' hz=>?_⟩;rw[hi]at hz;cases hz;exact q _ s (S.put (S.wi hi).2) (.set (by lia))
  |setL qq p i z y hq hi hp=>
   have hl:i<ps.length:=S.wq hq;rw[UB]at q;refine .setL _ _ ⟨s,ws,ps,qq,p,_,_,rfl,S,hq,hp,λz' hz=>?_⟩;rw[hi]at hz;cases hz;exact q _ s (S.setp hl ⟨S.wq hp,(S.wi hi).2⟩) (.set (by lia))
  |setR qq p i z y hq hi hp=>
   have hl:i<ps.length:=S.wq hq;rw[UB]at q;refine .setR _ _ ⟨s,ws,ps,qq,p,_,_,rfl,S,hq,hp,λz' hz=>?_⟩;rw[hi]at hz;cases hz;exact q _ s (S.setp hl ⟨(S.wi hi).1,S.wq hp⟩) (.set (by lia))
 ·cases hd with
  |kind qq x hq=>exact .kind _ ⟨s,ws,ps,qq,x,rfl,S,hq,q⟩
  |told qq x hq=>exact .told _ ⟨s,ws,ps,qq,x,rfl,S,hq,q⟩
  |same qq p x y hq hp=>exact .same _ _ ⟨s,ws,ps,qq,p,x,y,rfl,S,hq,hp,q⟩
  |below qq p a b hq hp=>exact .below _ _ ⟨s,ws,ps,qq,p,_,_,rfl,S,hq,hp,q⟩
 ·cases hd with
  |n1 ww hw r qq p x y hr hq hx hp=>
   rcases hw with rfl|rfl|rfl|rfl|rfl
   ·exact .plus _ _ _ ⟨s,ws,ps,r,qq,p,x,y,rfl,S,hr,hq,hp,zY hx q⟩
   ·exact .less _ _ _ ⟨s,ws,ps,r,qq,p,x,y,rfl,S,hr,hq,hp,zY hx q⟩
   ·exact .times _ _ _ ⟨s,ws,ps,r,qq,p,x,y,rfl,S,hr,hq,hp,zY hx q⟩
   ·exact .over _ _ _ ⟨s,ws,ps,r,qq,p,x,y,rfl,S,hr,hq,hp,zY hx q⟩
   ·exact .rest _ _ _ ⟨s,ws,ps,r,qq,p,x,y,rfl,S,hr,hq,hp,zY hx q⟩
  |n2 ww hw r qq p a y hr hq hp hy=>
   rcases hw with rfl|rfl|rfl|rfl|rfl
   ·exact .plus _ _ _ ⟨s,ws,ps,r,qq,p,_,y,rfl,S,hr,hq,hp,zW hy q⟩
   ·exact .less _ _ _ ⟨s,ws,ps,r,qq,p,_,y,rfl,S,hr,hq,hp,zW hy q⟩
   ·exact .times _ _ _ ⟨s,ws,ps,r,qq,p,_,y,rfl,S,hr,hq,hp,zW hy q⟩
   ·exact .over _ _ _ ⟨s,ws,ps,r,qq,p,_,y,rfl,S,hr,hq,hp,zW hy q⟩
   ·exact .rest _ _ _ ⟨s,ws,ps,r,qq,p,_,y,rfl,S,hr,hq,hp,zW hy q⟩
  |nz ww hw r qq p a hr hq hp=>
   rcases hw with rfl|rfl
   ·exact .over _ _ _ ⟨s,ws,ps,r,qq,p,_,_,rfl,S,hr,hq,hp,Wf q⟩
   ·exact .rest _ _ _ ⟨s,ws,ps,r,qq,p,_,_,rfl,S,hr,hq,hp,Wf q⟩
  |p1 ww hw r qq x hr hq hx=>
   rcases hw with rfl|rfl
   ·exact .first _ _ ⟨s,ws,ps,r,qq,x,rfl,S,hr,hq,Vl hx q⟩
   ·exact .second _ _ ⟨s,ws,ps,r,qq,x,rfl,S,hr,hq,Vl hx q⟩
  |p2 ww hw qq p x y hq hx hp=>
   rcases hw with rfl|rfl
   ·exact .setL _ _ ⟨s,ws,ps,qq,p,x,y,rfl,S,hq,hp,Vl hx q⟩
   ·exact .setR _ _ ⟨s,ws,ps,qq,p,x,y,rfl,S,hq,hp,Vl hx q⟩
 ·cases hd with
  |b1 qq p x y hq hx hp=>exact .below _ _ ⟨s,ws,ps,qq,p,x,y,rfl,S,hq,hp,zY hx q⟩
  |b2 qq p a y hq hp hy=>exact .below _ _ ⟨s,ws,ps,qq,p,_,y,rfl,S,hq,hp,zW hy q⟩
section
variable {C D:Addr}{us:List U}{M:MM}{Q:UK}{X X':UX}
theorem gP3.imp{op:Int->Int->(Int->Prop)->Prop}(h:gP3 C D op us M Q X)(hx:∀nm p M',X nm p M'->X' nm p M'):gP3 C D op us M Q X':=by
 obtain⟨s,ws,ps,r,q,p,x,y,e,S,hr,hq,hp,k⟩:=h;exact⟨s,ws,ps,r,q,p,x,y,e,S,hr,hq,hp,NeedN.imp k (λ_ _ _ _ z=>z) λnm p z=>hx nm p M z⟩
theorem gP3D.imp{op:Int->Int->(Int->Prop)->Prop}(h:gP3D C D op us M Q X)(hx:∀nm p M',X nm p M'->X' nm p M'):gP3D C D op us M Q X':=by
 obtain⟨s,ws,ps,r,q,p,x,y,e,S,hr,hq,hp,k⟩:=h;exact⟨s,ws,ps,r,q,p,x,y,e,S,hr,hq,hp,NeedD.imp k (λ_ _ _ _ _ z=>z) λnm p z=>hx nm p M z⟩
theorem gPBelow.imp(h:gPBelow C D us M Q X)(hx:∀nm p M',X nm p M'->X' nm p M'):gPBelow C D us M Q X':=by
 obtain⟨s,ws,ps,q,p,x,y,e,S,hq,hp,k⟩:=h;exact⟨s,ws,ps,q,p,x,y,e,S,hq,hp,NeedN.imp k (λ_ _ _ _ z=>z) λnm p z=>hx nm p M z⟩
theorem gPGet.imp{f:Wt×Wt->Wt}(h:gPGet C D f us M Q X)(hx:∀nm p M',X nm p M'->X' nm p M'):gPGet C D f us M Q X':=by
 obtain⟨s,ws,ps,r,q,x,e,S,hr,hq,k⟩:=h;exact⟨s,ws,ps,r,q,x,e,S,hr,hq,NeedP.imp k (λ_ _ z=>z) λnm p z=>hx nm p M z⟩
theorem gPSet.imp{f:Wt×Wt->Wt->Wt×Wt}(h:gPSet C D f us M Q X)(hx:∀nm p M',X nm p M'->X' nm p M'):gPSet C D f us M Q X':=by
 obtain⟨s,ws,ps,q,p,x,y,e,S,hq,hp,k⟩:=h;exact⟨s,ws,ps,q,p,x,y,e,S,hq,hp,NeedP.imp k (λ_ _ z=>z) λnm p z=>hx nm p M z⟩
end
abbrev ki:Stmt:=top 72
theorem scDeedDone:q00 ["store","deed","word"] ["store","deed"] (qd ki):=by ac_rfl
def Zo(C D:Addr):List U->MM->UK->UX->Prop:=λus M Q X=>∃(k:Nat)(ds:List T),us=[.m k,.p (.tup ds)]/\Out C D ds k M Q X
theorem Vj{C D:Addr}{f:Addr}{fd:FuncData}(F:Fun K "_law_deed_done" "_law_deed_done" ki f fd)(N:Nms mg)(aB:Cls K C)(aO:MD P w K mg base C "number" 1 ["r","n"] (Zl C D))(bp:MD P w K mg base C "sign" 1 ["r","k"] (JD C D))(bM:MD P w K mg base C "one" 1 ["r","text"] (Zl C D))(bq:MD P w K mg base C "copy" 1 ["r","q"] (JG C D))(br:MX P w K mg base C "plus" 5 ["r","q","p"] (gP3 C D q1q))(bt:MX P w K mg base C "less" 5 ["r","q","p"] (gP3 C D q0p))(aT:MX P w K mg base C "times" 5 ["r","q","p"] (gP3 C D Jo))(bu:MX P w K mg base C "over" 5 ["r","q","p"] (gP3D C D q0F))(bv:MX P w K mg base C "rest" 5 ["r","q","p"] (gP3D C D q0I))(bw:MD P w K mg base C "pair" 3 ["r","q","p"] (JF C D))(aU:MX P w K mg base C "first" 5 ["r","q"] (gPGet C D Prod.fst))(aP:MX P w K mg base C "second" 5 ["r","q"] (gPGet C D Prod.snd))(aH:MX P w K mg base C "set_first" 5 ["q","p"] (gPSet C D putL))(aE:MX P w K mg base C "set_second" 5 ["q","p"] (gPSet C D putR))(aV:MX P w K mg base C "below" 5 ["q","p"] (gPBelow C D))(bx:MD P w K mg base C "same" 1 ["q","p"] (JE C D))(aC:MD P w K mg base C "kind" 2 ["q"] (Qp C D))(aN:MD P w K mg base C "told" 2 ["q"] (Zk C D)):FnOk P w K mg base (CXe P w) 6 f fd ["store","deed"] (spX mg (Zo C D)):=by
 refine F.zX scDeedDone (by rintro _ _ _ _ ⟨_,_,rfl,_⟩;rfl) (λae A outer s H E hr=>?_);refine⟨_,(qA (vS (qB (i:=2) scDeedDone.nd rfl Gx (qj (qh (K:=K) rfl) qv1 qa (λ_ _=>rfl)))) (qA (vS (qP (qi op_eq qv2 qc (qm _)) (qe (qt (vd aO aB qv0 (YH hr) (qa2 (qj (qh (K:=K) rfl) qv1 qa (λ_ _=>rfl)) (qj (qh (K:=K) rfl) qv1 qa (λ_ _=>rfl)))))) qx)) (qA (vS (qP (qi op_eq qv2 qc (qm _)) (qe (qt (vd bp aB qv0 (YH hr) (qa2 (qj (qh (K:=K) rfl) qv1 qa (λ_ _=>rfl)) (qj (qh (K:=K) rfl) qv1 qa (λ_ _=>rfl)))))) qx)) (qA (vS (qP (qi op_eq qv2 qc (qm _)) (qe (qt (vd bM aB qv0 (YH hr) (qa2 (qj (qh (K:=K) rfl) qv1 qa (λ_ _=>rfl)) (qj (qh (K:=K) rfl) qv1 qa (λ_ _=>rfl)))))) qx)) (qA (vS (qP (qi op_eq qv2 qc (qm _)) (qe (qt (vd bq aB qv0 (YH hr) (qa2 (qj (qh (K:=K) rfl) qv1 qa (λ_ _=>rfl)) (qj (qh (K:=K) rfl) qv1 qa (λ_ _=>rfl)))))) qx)) (qA (vR (qi op_eq qv2 qc (qm _)) (qw (zA (qY qv0 aB br (YH hr) (qa3 (qj (qh (K:=K) rfl) qv1 qa (λ_ _=>rfl)) (qj (qh (K:=K) rfl) qv1 qa (λ_ _=>rfl)) (qj (qh (K:=K) rfl) qv1 qa (λ_ _=>rfl)))))) vC) (qA (vR (qi op_eq qv2 qc (qm _)) (qw (zA (qY qv0 aB bt (YH hr) (qa3 (qj (qh (K:=K) rfl) qv1 qa (λ_ _=>rfl)) (qj (qh (K:=K) rfl) qv1 qa (λ_ _=>rfl)) (qj (qh (K:=K) rfl) qv1 qa (λ_ _=>rfl)))))) vC) (qA (vR (qi op_eq qv2 qc (qm _)) (qw (zA (qY qv0 aB aT (YH hr) (qa3 (qj (qh (K:=K) rfl) qv1 qa (λ_ _=>rfl)) (qj (qh (K:=K) rfl) qv1 qa (λ_ _=>rfl)) (qj (qh (K:=K) rfl) qv1 qa (λ_ _=>rfl)))))) vC) (qA (vR (qi op_eq qv2 qc (qm _)) (qw (zA (qY qv0 aB bu (YH hr) (qa3 (qj (qh (K:=K) rfl) qv1 qa (λ_ _=>rfl)) (qj (qh (K:=K) rfl) qv1 qa (λ_ _=>rfl)) (qj (qh (K:=K) rfl) qv1 qa (λ_ _=>rfl)))))) vC) (qA (vR (qi op_eq qv2 qc (qm _)) (qw (zA (qY qv0 aB bv (YH hr) (qa3 (qj (qh (K:=K) rfl) qv1 qa (λ_ _=>rfl)) (qj (qh (K:=K) rfl) qv1 qa (λ_ _=>rfl)) (qj (qh (K:=K) rfl) qv1 qa (λ_ _=>rfl)))))) vC) (qA (vS (qP (qi op_eq qv2 qc (qm _)) (qe (qt (vd bw aB qv0 (YH hr) (qa3 (qj (qh (K:=K) rfl) qv1 qa (λ_ _=>rfl)) (qj (qh (K:=K) rfl) qv1 qa (λ_ _=>rfl)) (qj (qh (K:=K) rfl) qv1 qa (λ_ _=>rfl)))))) qx)) (qA (vR (qi op_eq qv2 qc (qm _)) (qw (zA (qY qv0 aB aU (YH hr) (qa2 (qj (qh (K:=K) rfl) qv1 qa (λ_ _=>rfl)) (qj (qh (K:=K) rfl) qv1 qa (λ_ _=>rfl)))))) vC) (qA (vR (qi op_eq qv2 qc (qm _)) (qw (zA (qY qv0 aB aP (YH hr) (qa2 (qj (qh (K:=K) rfl) qv1 qa (λ_ _=>rfl)) (qj (qh (K:=K) rfl) qv1 qa (λ_ _=>rfl)))))) vC) (qA (vR (qi op_eq qv2 qc (qm _)) (qw (zA (qY qv0 aB aH (YH hr) (qa2 (qj (qh (K:=K) rfl) qv1 qa (λ_ _=>rfl)) (qj (qh (K:=K) rfl) qv1 qa (λ_ _=>rfl)))))) vC) (qA (vR (qi op_eq qv2 qc (qm _)) (qw (zA (qY qv0 aB aE (YH hr) (qa2 (qj (qh (K:=K) rfl) qv1 qa (λ_ _=>rfl)) (qj (qh (K:=K) rfl) qv1 qa (λ_ _=>rfl)))))) vC) (qA (vR (qi op_eq qv2 qc (qm _)) (qw (zA (qY qv0 aB aV (YH hr) (qa2 (qj (qh (K:=K) rfl) qv1 qa (λ_ _=>rfl)) (qj (qh (K:=K) rfl) qv1 qa (λ_ _=>rfl)))))) vC) (qA (vS (qP (qi op_eq qv2 qc (qm _)) (qe (qt (vd bx aB qv0 (YH hr) (qa2 (qj (qh (K:=K) rfl) qv1 qa (λ_ _=>rfl)) (qj (qh (K:=K) rfl) qv1 qa (λ_ _=>rfl)))))) qx)) (qw (vS (qt (vm (qi op_eq qv2 qc (qm _)) (vd aC aB qv0 (YH hr) (qa1 (qj (qh (K:=K) rfl) qv1 qa (λ_ _=>rfl)))) (vd aN aB qv0 (YH hr) (qa1 (qj (qh (K:=K) rfl) qv1 qa (λ_ _=>rfl))))))))))))))))))))))))),_,(by right),λus M Qu Xu h=>?_⟩;obtain⟨k,ds,rfl,h⟩:=h;have hS:∃(s:Nm)(ws:List Wt)(ps:WW),k=s 0/\Sto C D M s ws ps:=by
  obtain⟨s,ws,ps,e,S,_⟩:=h;exact⟨s,ws,ps,e,S⟩
 have hc:=h.call;clear h;obtain⟨s,ws,ps,rfl,S⟩:=hS;cases hc with
 |number a b h=>
  left;refine mS S (by decide) ?_;left;exact h
 |sign a b h=>
  left;refine mS S (by decide) ?_;left;exact h
 |one a b h=>
  left;refine mS S (by decide) ?_;left;exact h
 |copy a b h=>
  left;refine mS S (by decide) ?_;left;exact h
 |pair a b c h=>
  left;refine mS S (by decide) ?_;left;exact h
 |same a b h=>
  left;refine mS S (by decide) ?_;left;exact h
 |kind a h=>
  left;refine mS S (by decide) ?_;left;exact h
 |told a h=>
  left;refine mS S (by decide) ?_;left;exact h
 |plus a b c h=>
  left;refine mS S (by decide) ?_;left;exact h.imp λnm p M' q=>⟨_,_,_,rfl,rfl,q⟩
 |less a b c h=>
  left;refine mS S (by decide) ?_;left;exact h.imp λnm p M' q=>⟨_,_,_,rfl,rfl,q⟩
 |times a b c h=>
  left;refine mS S (by decide) ?_;left;exact h.imp λnm p M' q=>⟨_,_,_,rfl,rfl,q⟩
 |over a b c h=>
  left;refine mS S (by decide) ?_;left;exact h.imp λnm p M' q=>⟨_,_,_,rfl,rfl,q⟩
 |rest a b c h=>
  left;refine mS S (by decide) ?_;left;exact h.imp λnm p M' q=>⟨_,_,_,rfl,rfl,q⟩
 |first a b h=>
  left;refine mS S (by decide) ?_;left;exact h.imp λnm p M' q=>⟨_,_,_,rfl,rfl,q⟩
 |second a b h=>
  left;refine mS S (by decide) ?_;left;exact h.imp λnm p M' q=>⟨_,_,_,rfl,rfl,q⟩
 |setL a b h=>
  left;refine mS S (by decide) ?_;left;exact h.imp λnm p M' q=>⟨_,_,_,rfl,rfl,q⟩
 |setR a b h=>
  left;refine mS S (by decide) ?_;left;exact h.imp λnm p M' q=>⟨_,_,_,rfl,rfl,q⟩
 |below a b h=>
  left;refine mS S (by decide) ?_;left;exact h.imp λnm p M' q=>⟨_,_,_,rfl,rfl,q⟩
abbrev q4b:Stmt:=top 73
theorem scDone:q00 ["store","deed","word","value","e"] ["store","deed"] (qd q4b):=by ac_rfl
def q4D(C D:Addr):List U->MM->UK->Prop:=λus M Q=>∃(k:Nat)(ds:List T),us=[.m k,.p (.tup ds)]/\Out C D ds k M (λu M'=>∃t,u=.p t/\Q (.p (.tup [.str "", t])) M') λnm p M'=>Q (.p (.tup [.str nm,pT p])) M'
theorem Out.imp{C D:Addr}{ds:List T}{k:Nat}{M:MM}{Q Q':UK}{X X':UX}(h:Out C D ds k M Q X)(hq:∀u M',Q u M'->Q' u M')(hx:∀p M',p<1000000->X "WrongKind" (some p) M'->X' "WrongKind" (some p) M')(hn:∀M',X "Nought" none M'->X' "Nought" none M'):Out C D ds k M Q' X':=by
 obtain⟨s,ws,ps,e,S,h⟩:=h;refine⟨s,ws,ps,e,S,?_⟩;rcases h with⟨ay,aj,hd,q⟩|⟨bU,hd,q⟩|⟨nm,pp,hd,q⟩|⟨pp,hd,q⟩
 ·exact .inl ⟨ay,aj,hd,λM' s' a b=>hq _ _ (q M' s' a b)⟩
 ·exact .inr (.inl ⟨bU,hd,hq _ _ q⟩)
 ·refine .inr (.inr (.inl ⟨nm,pp,hd,?_⟩))
  cases hd<;>first|exact hx _ _ (by decide) q|exact hn _ q
 ·refine .inr (.inr (.inr ⟨pp,hd,hx _ _ ?_ q⟩))
  cases hd<;>decide
theorem q0w{C D CN CW g:Addr}{f:Addr}{fd:FuncData}(F:Fun K "_law_done" "_law_done" q4b f fd)(N:Nms mg)(aM:ExcC K mg "Nought" CN)(CWk:ExcK K CW g)(fX:NoAttr K CW "part")(ee:mg "WrongKind" = some (.ref CW))(bz:mg "Nought" = some (.ref CN))(EWk_Wk:W.exmOne K (.ref CW) (.ref CW)=some true)(ENought_Wk:W.exmOne K (.ref CN) (.ref CW)=some false)(ENought_Nought:W.exmOne K (.ref CN) (.ref CN)=some true)(bN:DefX P w K mg base "_law_deed_done" 6 ["store","deed"] (spX mg (Zo C D))):FnOk P w K mg base CX0 7 f fd ["store","deed"] (spU (q4D C D)):=by
 refine F.zU scDone (by rintro _ _ _ ⟨_,_,rfl,_⟩;rfl) (λae A outer s H E hr=>?_);refine⟨_,(qb (qB (i:=2) scDone.nd rfl Gx qc)
  (qb (qB (i:=3) scDone.nd rfl Gx jw)
  (qb (q2n (l:=[("WrongKind", _),("Nought", _)]) ⟨rfl,rfl,rfl,rfl⟩ (λ_ _=>
   (qw (Jh (i:=3) scDone.nd rfl (.inl rfl) (vI bN (YH hr) (qa_c (qv 0) (qa_c (qv 1) vD))))))
   (Vs ee (λ_=>(q7i (i:=4) (j:=2) (k:=3) ⟨rfl,rfl,rfl,rfl⟩ CWk fX ee EWk_Wk scDone.nd rfl rfl rfl (by decide) (by decide) rfl rfl rfl)) (Vs bz (λ_=>(YC ee ENought_Wk (q2A aM.b ENought_Nought (λ_=>(qe (qB (i:=2) scDone.nd rfl Gx qc)))))) q2q)))
  (qe (qt (qu (qa_c (qv 2) (qa_c (qv 3) vD)))))))),_,(qy (vQ Wo (ve 2))
   (qy (vQ (ce_c .non) (ve 3))
   (qy (q2x (XW (VE (ql (qr 0) (ql (qr 1) qJ)))) (QD (λ_=>q7v) (QD (λ_=>(vQ Wo (ve 2))) q1N)))
   (v7 (jC (ql (qr 2) (ql (qr 3) qJ))))))),λus M Qu h=>?_⟩
 obtain⟨k,ds,rfl,h⟩:=h;left;refine⟨k,ds,rfl,h.imp (λu M' ⟨t,e,q⟩=>?_) (λp M' hp q=>?_) λM' q=>?_⟩
 ·subst e
  left;exact q
 ·refine⟨_,_,_,_,rfl,rfl,rfl,_,rfl,?_⟩
  left;exact⟨hp,q⟩
 ·refine⟨_,_,_,_,rfl,rfl,rfl,?_⟩
  left;exact q
theorem qR{a b:T}{x:V}{ts:List T}{ys:List V}{Q:T->Prop}(b0:Bool)(h1:vt a=some x)(h2:seqT b=some ts)(h3:vts ts=some ys)(h4:inV x ys=b0)(q:Q (.bl b0)):sIn false a b Q:=⟨x,ts,ys,h1,h2,h3,by rw[h4];exact q⟩
local macro_rules|`(tactic|walk_at "pk")=>`(tactic|(walk_at "v"; repeat ((first|refine qL (by decide) ?_|refine qO rfl ?_|refine qR false rfl rfl rfl (by decide) ?_|refine qR true rfl rfl rfl (by decide) ?_); walk_at "v")))
def ol(ws:List Wt):MO:=.lst (ws.map λx=>U.p (tO x))
def pl(x:Wt×Wt):MO:=.lst [.p (tO x.1),.p (tO x.2)]
def cl(o:Nm)(n:Nat):MO:=.lst ((List.range n).map λi=>U.m (o (i+3)))
structure Own(M:MM)(o:Nm)(ws:List Wt)(ps:WW):Prop where
 o0:M[o 0]?=some (.lst [.m (o 1),.m (o 2)])
 b:M[o 1]?=some (ol ws)
 c:M[o 2]?=some (cl o ps.length)
 p:∀(i:Nat) x,ps[i]?=some x->M[o (i+3)]?=some (pl x)
 n:ws.length=8
 inj:∀i j,i<ps.length+3->j<ps.length+3->o i=o j->i=j
 ww:∀x∈ws,okW ps.length x
 wp:∀x∈ps,okW ps.length x.1/\okW ps.length x.2
section
variable {M:MM}{o:Nm}{ws:List Wt}{ps:WW}{x y:Wt}{r q p i n:Nat}{Q:UK}
theorem Own.wq(S:Own M o ws ps)(h:ws[q]?=some x):okW ps.length x:=S.ww x (Uy h)
theorem Own.wi(S:Own M o ws ps){x:Wt×Wt}(h:ps[i]?=some x):okW ps.length x.1/\okW ps.length x.2:=S.wp x (Uy h)
theorem Own.put(S:Own M o ws ps)(hx:okW ps.length x):Own (M.set (o 1) (ol (ws.set r x))) o (ws.set r x) ps :=
 ⟨by rw[Uv λz=>by have:=S.inj 1 0 (by lia) (by lia) z;lia];exact S.o0,
   UC (Us.mp S.b).1,
   by rw[Uv λz=>by have:=S.inj 1 2 (by lia) (by lia) z;lia];exact S.c,
   λi x hi=>by
  have:=(Us.mp hi).1;rw[Uv λz=>by have:=S.inj 1 (i+3) (by lia) (by lia) z;lia];exact S.p i x hi,
   by rw[UB];exact S.n,S.inj,v3 S.ww hx,S.wp⟩
theorem Own.setp(S:Own M o ws ps){x:Wt×Wt}(hi:i<ps.length)(hx:okW ps.length x.1/\okW ps.length x.2):Own (M.set (o (i+3)) (pl x)) o ws (ps.set i x):=by
 have hm:=(Us.mp (S.p i _ (Ut hi))).1;refine⟨?_,?_,?_,λj y hj=>?_,S.n,by rw[UB];exact S.inj,by rw[UB];exact S.ww,by rw[UB];exact v3 S.wp hx⟩
 ·rw[Uv λz=>by have:=S.inj (i+3) 0 (by lia) (by lia) z;lia];exact S.o0
 ·rw[Uv λz=>by have:=S.inj (i+3) 1 (by lia) (by lia) z;lia];exact S.b
 ·rw[UB,Uv λz=>by have:=S.inj (i+3) 2 (by lia) (by lia) z;lia];exact S.c
 ·have eD:=(Us.mp hj).1
  rw[UB]at eD;by_cases e:i=j
  ·subst e
   rw[UC eD]at hj;cases hj;exact UC hm
  ·rw[Uv e]at hj
   rw[Uv λz=>by have:=S.inj (i+3) (j+3) (by lia) (by lia) z;lia];exact S.p j y hj
theorem Own.lt(S:Own M o ws ps)(hi:i<ps.length+3):o i<M.length:=by
 match i,hi with
 |0,_=>exact(Us.mp S.o0).1
 |1,_=>exact(Us.mp S.b).1
 |2,_=>exact(Us.mp S.c).1
 |i+3,hi=>exact(Us.mp (S.p i _ (Ut (show i<ps.length by lia)))).1
theorem q69{k:Nat}:cl (vZ o (n+3) k) (n+1)=.lst (((List.range n).map λi=>U.m (o (i+3)))++[.m k]):=by
 unfold cl;rw[RB,U7];have e:(List.range n).map (λi=>U.m (vZ o (n+3) k (i+3)))=(List.range n).map λi=>U.m (o (i+3)):=RH λi hi=>by
  have:=DV.mp hi;rw[vM (by lia)]
 rw[e];show MO.lst (_++[U.m (vZ o (n+3) k (n+3))])=_;rw[xr]
theorem Own.new(S:Own M o ws ps){x:Wt×Wt}(hx:okW ps.length x.1/\okW ps.length x.2):
  Own (((M++[pl x]).set (o 2) (cl (vZ o (ps.length+3) M.length) (ps.length+1))).set (o 1) (ol (ws.set r (.pr ps.length)))) (vZ o (ps.length+3) M.length) (ws.set r (.pr ps.length)) (ps++[x]) /\
  Go M (((M++[pl x]).set (o 2) (cl (vZ o (ps.length+3) M.length) (ps.length+1))).set (o 1) (ol (ws.set r (.pr ps.length)))) o (vZ o (ps.length+3) M.length) (ps.length+3) ((ps++[x]).length+3):=by
 have h0:=S.lt (i:=0) (by lia);have h1:=S.lt (i:=1) (by lia);have h2:=S.lt (i:=2) (by lia);have e0:vZ o (ps.length+3) M.length 0=o 0:=vM (by lia);have e1:vZ o (ps.length+3) M.length 1=o 1:=vM (by lia);have e2:vZ o (ps.length+3) M.length 2=o 2:=vM (by lia);have el:(ps++[x]).length=ps.length+1:=by rw[Uu];rfl
 have ne:∀i j,i≠j->i<ps.length+3->j<ps.length+3->o i≠o j:=λi j a b c z=>a (S.inj i j b c z);refine⟨⟨?_,?_,?_,λj y hj=>?_,by rw[UB];exact S.n,λi j hi hj z=>?_,?_,?_⟩,⟨?_,λk hk h=>?_,λi hi=>?_,e0⟩⟩
 ·rw[e0,e1,e2,Uv (ne 1 0 (by lia) (by lia) (by lia)),Uv (ne 2 0 (by lia) (by lia) (by lia)),ze h0];exact S.o0
 ·rw[e1,UC (by rw[UB,Uu];lia)]
 ·rw[e2,el,Uv (ne 1 2 (by lia) (by lia) (by lia)),UC (by rw[Uu];lia)]
 ·by_cases eD:j<ps.length
  ·rw[Uz eD]at hj
   rw[vM (by lia),Uv (ne 1 (j+3) (by lia) (by lia) (by lia)),Uv (ne 2 (j+3) (by lia) (by lia) (by lia)),ze (S.lt (by lia)),S.p j y hj]
  ·have rM:=(Us.mp hj).1
   have:j=ps.length:=by lia
   subst this;rw[qK]at hj;cases hj;rw[xr,Uv (by lia),Uv (by lia),qK]
 ·rw[el]at hi hj
  by_cases a:i=ps.length+3<;>by_cases b:j=ps.length+3
  ·lia
  ·subst a
   rw[xr,vM b]at z;have:=S.lt (i:=j) (by lia);lia
  ·subst b
   rw[xr,vM a]at z;have:=S.lt (i:=i) (by lia);lia
  ·rw[vM a,vM b]at z
   exact S.inj i j (by lia) (by lia) z
 ·rw[el]
  exact v3 (λy hy=>(S.ww y hy).mono (by lia)) (show ps.length<ps.length+1 by lia)
 ·rw[el]
  intro y hy;rcases UD.mp hy with hy|hy
  ·have:=S.wp y hy
   exact⟨this.1.mono (by lia),this.2.mono (by lia)⟩
  ·cases UJ.mp hy
   exact⟨hx.1.mono (by lia),hx.2.mono (by lia)⟩
 ·rw[UB,UB,Uu];lia
 ·rw[Uv (Ne.symm (h 1 (by lia))),Uv (Ne.symm (h 2 (by lia))),ze hk]
 ·rw[el]at hi
  by_cases a:i=ps.length+3
  ·subst a
   exact .inr (by rw[xr];exact Ux _)
  ·exact .inl ⟨i,by lia,vM a⟩
theorem qM(O:Own M o ws ps)(q:Q (.m (o 1)) M):IxS qI M (.m (o 0)) (.p (.int 0)) Q:=xG (us:=[.m (o 1),.m (o 2)]) (by simp[qI,O.o0]) rfl q
theorem kr(O:Own M o ws ps)(q:Q (.m (o 2)) M):IxS qI M (.m (o 0)) (.p (.int 1)) Q:=xG (us:=[.m (o 1),.m (o 2)]) (by simp[qI,O.o0]) rfl q
theorem qW{k:Nat}(h:M[k]?=some (ol ws))(hq:ws[q]?=some x)(qq:Q (.p (tO x)) M):IxS qI M (.m k) (.p (.int (q:Int))) Q :=
 xG (us:=ws.map λx=>U.p (tO x)) (by simp[qI,h,ol]) (zd (by rw[UW,hq];rfl)) qq
theorem JP{k:Nat}(h:M[k]?=some (cl o n))(hi:i<n)(qq:Q (.m (o (i+3))) M):IxS qI M (.m k) (.p (.int (i:Int))) Q :=
 xG (us:=(List.range n).map λi=>U.m (o (i+3))) (by simp[qI,h,cl]) (zd (by rw[UW,RI hi];rfl)) qq
theorem zS{k:Nat}{R:MM->Prop}(h:M[k]?=some (ol ws))(hr:r<ws.length)(q:R (M.set k (ol (ws.set r x)))):SubS M (.m k) (.p (.int (r:Int))) (.p (tO x)) R:=by
 refine VY h (by rw[Uw];exact hr) ?_;have e:(ws.map λx=>U.p (tO x)).set r (.p (tO x))=(ws.set r x).map λx=>U.p (tO x):=by rw[RQ]
 rw[e];exact q
end
abbrev Q6:Stmt:=top 82
theorem Yg:q00 ["worth"] ["worth"] (qd Q6):=by ac_rfl
def JH:List T->(T->Prop)->Prop:=λts Q=>∃x:Wt,ts=[tO x]/\Q (.str (vf x))
theorem Za{f:Addr}{fd:FuncData}(F:Fun K "_law_own_kind" "_law_own_kind" Q6 f fd)(N:Nms mg):FnOk P w K mg base CX0 1 f fd ["worth"] (spP JH):=by
 refine F.zP Yg (by rintro _ _ ⟨_,rfl,_⟩;rfl) (λae A outer s H E hr=>?_);refine⟨_,(qb (qP (vJ (qH (vo (K:=K) rfl) (by rfl) N.isinstance qD (qa2 qv0 (vn (v:=.ty "int") (by rfl) N.int VJ rfl)))) (qe (qt qc)) qx) (qb (qP (vJ (qH (vo (K:=K) rfl) (by rfl) N.isinstance qD (qa2 qv0 (vn (v:=.ty "str") (by rfl) N.str q0N rfl)))) (qe (qt qc)) qx) (qe (qt (qj (qh (K:=K) rfl) qv0 qa (λ_ _=>rfl)))))),_,(qy (zc (ct_b (JT .int (qr 0))) (by right) vj) (qy (zc (ct_b (JT .str (qr 0))) (by right) vj) (by right))),λts Qt h=>?_⟩;obtain⟨x,rfl,q⟩:=h;cases x<;>(symm;simp only[tO];symm;exact q)
abbrev j6:Stmt:=top 71
theorem J5:q00 ["word","a","b"] ["word","a","b"] (qd j6):=by ac_rfl
def gReck:List T->(T->Prop)->Prop:=λts Q=>∃(w:Str)(a b:Int),ts=[.str w,.int a,.int b]/\((w = "plus" /\ Q (.int (a+b)))\/(w = "less" /\ Q (.int (a-b)))\/(w = "times" /\ IntMulOk a b/\Q (.int (a*b)))\/(w = "over" /\ b≠0/\Builtin.divisionGoesByPylong a b=false/\Q (.int (a.fdiv b)))\/(w = "rest" /\ b≠0/\Q (.int (a.fmod b))))
theorem q1I{f:Addr}{fd:FuncData}(F:Fun K "_law_reckoned" "_law_reckoned" j6 f fd)(N:Nms mg):FnOk P w K mg base CX0 1 f fd ["word","a","b"] (spP gReck):=by
 refine F.zP J5 (by rintro _ _ ⟨_,_,_,rfl,_⟩;rfl) (λae A outer s H E hr=>?_);refine⟨_,(qb (qP (qi op_eq qv0 qc (qm _)) (qe (qt (qC vq qv1 qv2))) qx) (qb (qP (qi op_eq qv0 qc (qm _)) (qe (qt (qC jz qv1 qv2))) qx) (qb (qP (qi op_eq qv0 qc (qm _)) (qe (qt (qC Xn qv1 qv2))) qx) (qe (qt (vm (qi op_eq qv0 qc (qm _)) (qC Jm qv1 qv2) (qC YM qv1 qv2))))))),_,(by right),λts Qt h=>?_⟩;obtain⟨w,a,b,rfl,h⟩:=h;rcases h with⟨rfl,q⟩|⟨rfl,q⟩|⟨rfl,hm,q⟩|⟨rfl,hb,hd,q⟩|⟨rfl,hb,q⟩
 ·left;exact q
 ·left;exact q
 ·left;exact⟨hm,q⟩
 ·left;exact⟨⟨hb,hd⟩,q⟩
 ·left;exact⟨hb,q⟩
theorem gReck.imp{ts:List T}{Q Q':T->Prop}(h:gReck ts Q)(hq:∀t,Q t->Q' t):gReck ts Q':=by
 obtain⟨w,a,b,e,h⟩:=h;refine⟨w,a,b,e,?_⟩;rcases h with⟨e,k⟩|⟨e,k⟩|⟨e,hm,k⟩|⟨e,hb,hd,k⟩|⟨e,hb,k⟩
 ·exact .inl ⟨e,hq _ k⟩
 ·exact .inr (.inl ⟨e,hq _ k⟩)
 ·exact .inr (.inr (.inl ⟨e,hm,hq _ k⟩))
 ·exact .inr (.inr (.inr (.inl ⟨e,hb,hd,hq _ k⟩)))
 ·exact .inr (.inr (.inr (.inr ⟨e,hb,hq _ k⟩)))
abbrev xy:Stmt:=top 83
theorem scOwnNumbers:q00 ["own","deed","word","r","q","p","part","at","a","b"] ["own","deed"] (qd xy):=by ac_rfl
def JY(w:Str)(a b:Int)(Z:Prop)(R:Int->Prop):Prop:=((w = "over" \/ w = "rest")/\b=0/\Z)\/(five w/\((w = "over" \/ w = "rest")->b≠0)/\gReck [.str w,.int a,.int b] λt=>∃n,t=.int n/\R n)
def WG:List U->MM->UK->Prop:=λus M Q=>∃(o:Nm)(ws:List Wt)(ps:WW)(w:Str)(r q p:Nat)(x y:Wt),us=[.m (o 0),.p (.tup [.str w,.int (r:Int),.int (q:Int),.int (p:Int)])]/\five w/\Own M o ws ps/\r<8/\ws[q]?=some x/\ws[p]?=some y /\
 NeedN x y (λa b=>JY w a b (Q (.p (.tup [.str "Nought",.non])) M) λn=>Q (.p (.tup [.str "",.non])) (M.set (o 1) (ol (ws.set r (.num n))))) λnm pp=>Q (.p (.tup [.str nm,pT pp])) M
theorem Xq{f:Addr}{fd:FuncData}(F:Fun K "_law_own_numbers" "_law_own_numbers" xy f fd)(N:Nms mg)(ao:Def P w K mg base "_law_own_kind" 1 ["worth"] (spP JH))(bO:Def P w K mg base "_law_reckoned" 1 ["word","a","b"] (spP gReck)):FnOk P w K mg base CX0 2 f fd ["own","deed"] (spU WG):=by
 refine F.zU scOwnNumbers (by rintro _ _ _ ⟨_,_,_,_,_,_,_,_,_,rfl,_⟩;rfl) (λae A outer s H E hr=>?_);refine⟨_,(qb (vh qv1 (q5x rfl (jW (vb (i:=2) scOwnNumbers.nd rfl Gx) (jW (vb (i:=3) scOwnNumbers.nd rfl Gx) (jW (vb (i:=4) scOwnNumbers.nd rfl Gx) (jW (vb (i:=5) scOwnNumbers.nd rfl Gx) q3b)))))) (qb (xp PassesOwn.never rfl (v8 (K:=K) rfl (qG (qa2 (qu (qa2 qa qv4)) (qu (qa2 qa qv5))))) (YD (K:=K) (i:=6) (j:=7) rfl scOwnNumbers.nd rfl rfl rfl Gx Gx Gx Gx) (qe (qP (qi jL (qo ao (YH hr) (qa1 (qj (qf (K:=K) rfl) (qj (qf (K:=K) rfl) qv0 qa (λ_ _=>rfl)) qv7 (λ_ _=>rfl)))) qc (qm _)) (qe (qt (qu (qa2 qc qv6)))) qx))) (qb (q2w (i:=8) (j:=9) rfl scOwnNumbers.nd rfl rfl (by decide) rfl rfl (qa2 (qj (qf (K:=K) rfl) (qj (qf (K:=K) rfl) qv0 qa (λ_ _=>rfl)) qv4 (λ_ _=>rfl)) (qj (qf (K:=K) rfl) (qj (qf (K:=K) rfl) qv0 qa (λ_ _=>rfl)) qv5 (λ_ _=>rfl))) rfl) (qb (qP (Xi (V4 (qi (zT (K:=K) rfl) qv2 (qG (qa2 qc qc)) (by with_unfolding_all rfl)) (Ve (qi op_eq (qv 9) qa (qm _))))) (qe (qt (qu (qa2 qc jw)))) qx) (qb (vh (qo bO (YH hr) (qa3 qv2 (qv 8) (qv 9))) (vp (qj (qf (K:=K) rfl) qv0 qa (λ_ _=>rfl)) qv3 qQ)) (qe (qt (qu (qa2 qc jw))))))))),_,(qy (vQ (qr 1) (q1l 2 3 4 5)) (qy (by right) (qy (q2s (ql (vW (vW (qr 0) YJ) (qr 4)) (ql (vW (vW (qr 0) YJ) (qr 5)) qJ))) (by right)))),λus M Qu h=>?_⟩;obtain⟨o,ws,ps,w,r,q,p,x,y,rfl,hw,O,aY,hx,hy,k⟩:=h;symm;refine j3 (λj ρ M'=>M'=M/\(∃x6 x7,ρ=[some (.m (o 0)),some (.p (.tup [.str w,.int (r:Int),.int (q:Int),.int (p:Int)])),some (.p (.str w)),some (.p (.int (r:Int))),some (.p (.int (q:Int))),some (.p (.int (p:Int))),x6,x7,none,none])/\(1<=j->∃a,x=.num a)/\(2<=j->∃b,y=.num b)) ⟨rfl,⟨_,_,rfl⟩,λh=>by lia,λh=>by lia⟩ ?_ ?_
 ·rintro j t ρ M' ht ⟨rfl,⟨x6,x7,rfl⟩,h1,h2⟩
  match j,ht,h1 with
  |0,ht,_=>
   cases ht;symm;refine qM O ?_;symm;refine qW O.b hx ?_;symm;refine⟨x,rfl,?_⟩;cases x with
   |num a=>
    simp only[vf];left;exact⟨⟨_,_,rfl⟩,λ_=>⟨a,rfl⟩,λh=>by lia⟩
   |_=>
    simp only[vf];left;exact k
  |1,ht,h1=>
   obtain⟨a,rfl⟩:=h1 (by lia);cases ht;symm;refine qM O ?_;symm;refine qW O.b hy ?_;symm;refine⟨y,rfl,?_⟩;cases y with
   |num b=>
    simp only[vf];left;exact⟨⟨_,_,rfl⟩,λ_=>⟨a,rfl⟩,λ_=>⟨b,rfl⟩⟩
   |_=>
    simp only[vf];left;exact k
  |j+2,ht,_=>simp at ht
 ·rintro ρ M' ⟨rfl,⟨x6,x7,rfl⟩,h1,h2⟩
  obtain⟨a,rfl⟩:=h1 (by show 1<=2;lia);obtain⟨b,rfl⟩:=h2 (by show 2<=2;lia);have k2:JY w a b _ _:=k;clear k;symm;refine qM O ?_;symm;refine qW O.b hx ?_;refine qM O ?_;symm;refine qW O.b hy ?_;simp only[tO];symm;rcases k2 with⟨hz,rfl,k⟩|⟨_,rO,k⟩
  ·rcases hz with rfl|rfl <;>
   ·refine qR true rfl rfl rfl (by decide) ?_
    left;exact k
  ·have fin:∀t,(∃n,t=T.int n/\Qu (.p (.tup [.str "",.non])) (M'.set (o 1) (ol (ws.set r (.num n)))))->SubS M' (.m (o 1)) (.p (.int (r:Int))) (.p t) λM3=>Qu (.p (.tup [.str "",.non])) M3:=λt zz=>by
    obtain⟨n,e,k⟩:=zz;subst e;exact zS (x:=.num n) O.b (by rw[O.n];exact aY) k
   rcases hw with rfl|rfl|rfl|rfl|rfl
   iterate 3
    ·refine qR false rfl rfl rfl (by decide) ?_
     left;refine gReck.imp k λt h=>?_;left;refine qM O ?_;left;exact fin t h
   iterate 2
    ·have hb:b≠0:=rO (by decide)
     refine qR true rfl rfl rfl (by decide) ?_;symm;refine qL (by simpa using hb) ?_;symm;refine gReck.imp k λt h=>?_;left;refine qM O ?_;left;exact fin t h
abbrev Yk:Stmt:=top 84
theorem scOwnDo:q00 ["own","deed","word","some","q","thing"] ["own","deed"] (qd Yk):=by ac_rfl
def Qq:List U->MM->UK->Prop:=λus M Q=>∃(o:Nm)(ws:List Wt)(ps:WW)(ds:List T),us=[.m (o 0),.p (.tup ds)]/\Own M o ws ps/\ps.length<1000 /\
 ((∃ay aj,DeedDo ws ps ds ay aj/\∀M' o',Own M' o' ay aj->Go M M' o o' (ps.length+3) (aj.length+3)->Q (.p (.tup [.str "",.non])) M')\/(∃nm p,DeedNo ws ds nm p/\Q (.p (.tup [.str nm,pT p])) M))
theorem Kn{f:Addr}{fd:FuncData}(F:Fun K "_law_own_do" "_law_own_do" Yk f fd)(N:Nms mg)(ao:Def P w K mg base "_law_own_kind" 1 ["worth"] (spP JH))(bg:Def P w K mg base "_law_own_numbers" 2 ["own","deed"] (spU WG)):FnOk P w K mg base CX0 3 f fd ["own","deed"] (spU Qq):=by
 refine F.zU scOwnDo (by rintro _ _ _ ⟨_,_,_,_,rfl,_⟩;rfl) (λae A outer s H E hr=>?_);refine⟨_,(qb (qB (i:=2) scOwnDo.nd rfl Gx (qj (qh (K:=K) rfl) qv1 qa (λ_ _=>rfl))) (qb (qB (i:=3) scOwnDo.nd rfl Gx (qj (qf (K:=K) rfl) qv0 qa (λ_ _=>rfl))) (qb (qP (qi (zT (K:=K) rfl) qv2 (qG (qa_c qc (qa4 qc qc qc qc))) (by with_unfolding_all rfl)) (qe (qt (qo bg (YH hr) (qa2 qv0 qv1)))) qx) (qb (qP (qi (zT (K:=K) rfl) qv2 (qG (qa2 qc qc)) (by with_unfolding_all rfl)) (qe (vh (qj (qh (K:=K) rfl) qv1 qa (λ_ _=>rfl)) (vp qv3 (qj (qh (K:=K) rfl) qv1 qa (λ_ _=>rfl)) qQ))) qx) (qb (qP (qi op_eq qv2 qc (qm _)) (qe (vh (qu (qa2 qc (qj (qh (K:=K) rfl) qv1 qa (λ_ _=>rfl)))) (vp qv3 (qj (qh (K:=K) rfl) qv1 qa (λ_ _=>rfl)) qQ))) qx) (qb (qP (qi op_eq qv2 qc (qm _)) (qe (vh (qj (qf (K:=K) rfl) qv3 (qj (qh (K:=K) rfl) qv1 qa (λ_ _=>rfl)) (λ_ _=>rfl)) (vp qv3 (qj (qh (K:=K) rfl) qv1 qa (λ_ _=>rfl)) qQ))) qx) (qb (qP (qi op_eq qv2 qc (qm _)) (qb (vY (q0K PySem.F.slot_list_append PySem.F.type_list_append zZ (qj (qf (K:=K) rfl) qv0 qa (λ_ _=>rfl)) (qa1 (qG (qa2 (qj (qf (K:=K) rfl) qv3 (qj (qh (K:=K) rfl) qv1 qa (λ_ _=>rfl)) (λ_ _=>rfl)) (qj (qf (K:=K) rfl) qv3 (qj (qh (K:=K) rfl) qv1 qa (λ_ _=>rfl)) (λ_ _=>rfl))))))) (qe (vh (qu (qa2 qc (qC jz (qH zn (by rfl) N.len Qe (qa1 (qj (qf (K:=K) rfl) qv0 qa (λ_ _=>rfl)))) qa))) (vp qv3 (qj (qh (K:=K) rfl) qv1 qa (λ_ _=>rfl)) qQ)))) qx) (qb (qP (qi (zT (K:=K) rfl) qv2 (qG (qa4 qc qc qc qc)) (by with_unfolding_all rfl)) (qb (qB (i:=4) scOwnDo.nd rfl Gx (vm (qi (zT (K:=K) rfl) qv2 (qG (qa2 qc qc)) (by with_unfolding_all rfl)) (qj (qh (K:=K) rfl) qv1 qa (λ_ _=>rfl)) (qj (qh (K:=K) rfl) qv1 qa (λ_ _=>rfl)))) (qb (qP (qi jL (qo ao (YH hr) (qa1 (qj (qf (K:=K) rfl) qv3 qv4 (λ_ _=>rfl)))) qc (qm _)) (qe (qt (qu (qa2 qc qa)))) qx) (qb (qB (i:=5) scOwnDo.nd rfl Gx (qj (qf (K:=K) rfl) (qj (qf (K:=K) rfl) qv0 qa (λ_ _=>rfl)) (qj (qh (K:=K) rfl) (qj (qf (K:=K) rfl) qv3 qv4 (λ_ _=>rfl)) qa (λ_ _=>rfl)) (λ_ _=>rfl))) (qe (qP (qi (zT (K:=K) rfl) qv2 (qG (qa2 qc qc)) (by with_unfolding_all rfl)) (qe (vh (qj (qf (K:=K) rfl) qv5 (vL kY (by rfl) N.int VJ (qa1 (vF op_eq qv2 qc (qm _)))) (λ_ _=>rfl)) (vp qv3 (qj (qh (K:=K) rfl) qv1 qa (λ_ _=>rfl)) qQ))) (qe (vh (qj (qf (K:=K) rfl) qv3 (qj (qh (K:=K) rfl) qv1 qa (λ_ _=>rfl)) (λ_ _=>rfl)) (vp qv5 (vL kY (by rfl) N.int VJ (qa1 (vF op_eq qv2 qc (qm _)))) qQ)))))))) qx) (qe (qt (qu (qa2 qc jw)))))))))))),_,(qy (by right) (qy (by right) (qy (by right) (qy (by right) (qy (by right) (qy (by right) (qy (zc (by right) (qy (VF (q4M Qm (by right) (ql (kU (by right)) qJ))) (by right)) vj) (qy (zc (by right) (qy (by right) (qy (by right) (qy (by right) (zc (by right) (vQ (vW (qr 5) (Gk X1 (by right))) (by right)) (vQ (by right) (q2y (qr 5) (Gk X1 (by right)))))))) vj) (by right))))))))),λus M Qu h=>?_⟩;obtain⟨o,ws,ps,ds,rfl,O,hsz,h⟩:=h;have hl:=O.n;by_cases hfv:∃(w:Str)(r q p:Nat)(x y:Wt),ds=[.str w,.int (r:Int),.int (q:Int),.int (p:Int)]/\five w/\r<8/\ws[q]?=some x/\ws[p]?=some y/\NeedN x y (λa b=>JY w a b (Qu (.p (.tup [.str "Nought",.non])) M) λn=>Qu (.p (.tup [.str "",.non])) (M.set (o 1) (ol (ws.set r (.num n))))) (λnm pp=>Qu (.p (.tup [.str nm,pT pp])) M)
 ·obtain⟨w,r,q,p,x,y,rfl,hw,hr,hq,hp,k⟩:=hfv
  have eT:inV (.str w) [.str "plus",.str "less",.str "times",.str "over",.str "rest"]=true:=by rcases hw with rfl|rfl|rfl|rfl|rfl<;>decide
  symm;refine qM O ?_;symm;refine qR true rfl rfl rfl eT ?_;symm;exact⟨o,ws,ps,w,r,q,p,_,_,rfl,hw,O,hr,hq,hp,k⟩
 have cF:∀(w:Str)(r q p:Nat)(x y:Wt),ds=[.str w,.int (r:Int),.int (q:Int),.int (p:Int)]->five w->r<8->ws[q]?=some x->ws[p]?=some y->NeedN x y (λa b=>JY w a b (Qu (.p (.tup [.str "Nought",.non])) M) λn=>Qu (.p (.tup [.str "",.non])) (M.set (o 1) (ol (ws.set r (.num n))))) (λnm pp=>Qu (.p (.tup [.str nm,pT pp])) M)->False:=λw r q p x y e hw hr hq hp k=>hfv ⟨w,r,q,p,x,y,e,hw,hr,hq,hp,k⟩;clear hfv;rcases h with⟨ay,aj,hd,k⟩|⟨nm,pp,hd,k⟩
 ·cases hd with
  |num r n hr=>
   left;refine qM O ?_;left;refine zS (x:=.num n) O.b (by lia) ?_;left;exact k _ o (O.put trivial) (.set (by lia))
  |sgn r n hr=>
   left;refine qM O ?_;left;refine zS (x:=.sgn n) O.b (by lia) ?_;left;exact k _ o (O.put trivial) (.set (by lia))
  |one r n hr=>
   left;refine qM O ?_;left;refine zS (x:=.one n) O.b (by lia) ?_;left;exact k _ o (O.put trivial) (.set (by lia))
  |copy r q x hr hq=>
   left;refine qM O ?_;left;refine qW O.b hq ?_;left;refine zS (x:=x) O.b (by lia) ?_;left;exact k _ o (O.put (O.wq hq)) (.set (by lia))
  |pair r q p x y hr hq hp=>
   have nw:=O.new (r:=r) (x:=(x,y)) ⟨O.wq hq,O.wq hp⟩;have h0:=O.lt (i:=0) (by lia);have h1:=O.lt (i:=1) (by lia);have h2:=O.lt (i:=2) (by lia);left;refine qM O ?_;left;refine kr O ?_;refine Vq O.c ?_;left;refine qW O.b hq ?_;left;refine qW O.b hp ?_;left;refine⟨_,(ze h2).trans O.c,by rw[Uw,Dz];exact UP hsz (by show 1000<=sizeLine;decide),?_⟩;rw[<-q69 (o:=o)];have g0:((M++[pl (x,y)]).set (o 2) (cl (vZ o (ps.length+3) M.length) (ps.length+1)))[o 0]?=some (.lst [.m (o 1),.m (o 2)]):=by
    rw[Uv λz=>by have:=O.inj 2 0 (by lia) (by lia) z;lia,ze h0];exact O.o0
   have g1:((M++[pl (x,y)]).set (o 2) (cl (vZ o (ps.length+3) M.length) (ps.length+1)))[o 1]?=some (ol ws):=by
    rw[Uv λz=>by have:=O.inj 2 1 (by lia) (by lia) z;lia,ze h1];exact O.b
   have g2:((M++[pl (x,y)]).set (o 2) (cl (vZ o (ps.length+3) M.length) (ps.length+1)))[o 2]?=some (cl (vZ o (ps.length+3) M.length) (ps.length+1)):=UC (by rw[Uu];lia);have kk:=k _ _ nw.1 nw.2;show IxS qI ((M++[pl (x,y)]).set (o 2) (cl (vZ o (ps.length+3) M.length) (ps.length+1))) (.m (o 0)) (.p (.int 1)) _;generalize(M++[pl (x,y)]).set (o 2) (cl (vZ o (ps.length+3) M.length) (ps.length+1))=M2 at g0 g1 g2 kk ⊢;refine xG (us:=[.m (o 1),.m (o 2)]) (by simp[qI,g0]) rfl ?_;refine kJ g2 ?_;rw[Uw,Dz];left;rw[show((ps.length+1:Nat):Int)-1=(ps.length:Int) by lia];refine zS (x:=.pr ps.length) g1 (by lia) ?_;left;exact kk
  |first r q i z hr hq hi=>
   have ec:i<ps.length:=O.wq hq;left;refine qM O ?_;left;refine qW O.b hq ?_;left;refine⟨_,rfl,?_⟩;simp only[vf];left;refine kr O ?_;left;refine qW O.b hq ?_;simp only[tO];left;refine JP O.c ec ?_;left;rw[GH (by decide)];refine xG (us:=[.p (tO z.1),.p (tO z.2)]) (by simp[qI,O.p i z hi,pl]) rfl ?_;left;refine zS (x:=z.1) O.b (by lia) ?_;left;exact k _ o (O.put (O.wi hi).1) (.set (by lia))
  |second r q i z hr hq hi=>
   have ec:i<ps.length:=O.wq hq;left;refine qM O ?_;left;refine qW O.b hq ?_;left;refine⟨_,rfl,?_⟩;simp only[vf];left;refine kr O ?_;left;refine qW O.b hq ?_;simp only[tO];left;refine JP O.c ec ?_;left;refine xG (us:=[.p (tO z.1),.p (tO z.2)]) (by simp[qI,O.p i z hi,pl]) rfl ?_;left;refine zS (x:=z.2) O.b (by lia) ?_;left;exact k _ o (O.put (O.wi hi).2) (.set (by lia))
  |setL q p i z y hq hi hp=>
   have ec:i<ps.length:=O.wq hq;rw[UB]at k;left;refine qM O ?_;left;refine qW O.b hq ?_;left;refine⟨_,rfl,?_⟩;simp only[vf];left;refine kr O ?_;left;refine qW O.b hq ?_;simp only[tO];left;refine JP O.c ec ?_;left;refine qW O.b hp ?_;left;rw[GH (by decide)];refine VY (r:=0) (O.p i z hi) (by show 0<2;lia) ?_;left;exact k _ o (O.setp (x:=(y,z.2)) ec ⟨O.wq hp,(O.wi hi).2⟩) (.set (by lia))
  |setR q p i z y hq hi hp=>
   have ec:i<ps.length:=O.wq hq;rw[UB]at k;left;refine qM O ?_;left;refine qW O.b hq ?_;left;refine⟨_,rfl,?_⟩;simp only[vf];left;refine kr O ?_;left;refine qW O.b hq ?_;simp only[tO];left;refine JP O.c ec ?_;left;refine qW O.b hp ?_;left;refine VY (r:=1) (O.p i z hi) (by show 1<2;lia) ?_;left;exact k _ o (O.setp (x:=(z.1,y)) ec ⟨(O.wi hi).1,O.wq hp⟩) (.set (by lia))
  |plus r q p a b hr hq hp=>
   have kk:=λh=>k _ o (O.put (r:=r) (x:=.num _) trivial) (.set h);have kk:=kk (by lia);exact(cF _ r q p _ _ rfl (.inl rfl) hr hq hp (.inr ⟨.inl rfl,λh=>absurd h (by decide),_,_,_,rfl,.inl ⟨rfl,_,rfl,kk⟩⟩)).elim
  |less r q p a b hr hq hp=>
   have kk:=λh=>k _ o (O.put (r:=r) (x:=.num _) trivial) (.set h);have kk:=kk (by lia);exact(cF _ r q p _ _ rfl (.inr (.inl rfl)) hr hq hp (.inr ⟨.inr (.inl rfl),λh=>absurd h (by decide),_,_,_,rfl,.inr (.inl ⟨rfl,_,rfl,kk⟩)⟩)).elim
  |times r q p a b hr hq hp hm=>
   have kk:=λh=>k _ o (O.put (r:=r) (x:=.num _) trivial) (.set h);have kk:=kk (by lia);exact(cF _ r q p _ _ rfl (.inr (.inr (.inl rfl))) hr hq hp (.inr ⟨.inr (.inr (.inl rfl)),λh=>absurd h (by decide),_,_,_,rfl,.inr (.inr (.inl ⟨rfl,hm,_,rfl,kk⟩))⟩)).elim
  |over r q p a b hr hq hp hb hZ=>
   have kk:=λh=>k _ o (O.put (r:=r) (x:=.num _) trivial) (.set h);have kk:=kk (by lia);exact(cF _ r q p _ _ rfl (.inr (.inr (.inr (.inl rfl)))) hr hq hp (.inr ⟨.inr (.inr (.inr (.inl rfl))),λ_=>hb,_,_,_,rfl,.inr (.inr (.inr (.inl ⟨rfl,hb,hZ,_,rfl,kk⟩)))⟩)).elim
  |rest r q p a b hr hq hp hb=>
   have kk:=λh=>k _ o (O.put (r:=r) (x:=.num _) trivial) (.set h);have kk:=kk (by lia);exact(cF _ r q p _ _ rfl (.inr (.inr (.inr (.inr rfl)))) hr hq hp (.inr ⟨.inr (.inr (.inr (.inr rfl))),λ_=>hb,_,_,_,rfl,.inr (.inr (.inr (.inr ⟨rfl,hb,_,rfl,kk⟩)))⟩)).elim
 ·cases hd with
  |n1 ww hw r q p x y hr hq hx hp=>exact(cF _ r q p _ _ rfl hw hr hq hp (zY hx k)).elim
  |n2 ww hw r q p a y hr hq hp hy=>exact(cF _ r q p _ _ rfl hw hr hq hp (zW hy k)).elim
  |nz ww hw r q p a hr hq hp=>
   have hf:five ww:=hw.elim (λh=>.inr (.inr (.inr (.inl h)))) λh=>.inr (.inr (.inr (.inr h)));exact(cF _ r q p (.num a) (.num 0) rfl hf hr hq hp (.inl ⟨hw,rfl,k⟩)).elim
  |p1 ww hw r q x hr hq hx=>
   rcases hw with rfl|rfl <;>
   ·left
    refine qM O ?_;left;refine qW O.b hq ?_;left;refine⟨_,rfl,?_⟩;symm;refine qO (by simpa using hx) ?_;left;exact k
  |p2 ww hw q p x y hq hx hp=>
   rcases hw with rfl|rfl <;>
   ·left
    refine qM O ?_;left;refine qW O.b hq ?_;left;refine⟨_,rfl,?_⟩;symm;refine qO (by simpa using hx) ?_;left;exact k
abbrev Z8:Stmt:=top 85
theorem scOwnAsk:q00 ["own","deed","word","one","other"] ["own","deed"] (qd Z8):=by ac_rfl
def Vu:List U->MM->UK->Prop:=λus M Q=>∃(o:Nm)(ws:List Wt)(ps:WW)(ds:List T),us=[.m (o 0),.p (.tup ds)]/\Own M o ws ps/\((∃bU,DeedAsk ws ds bU/\Q (.p (.tup [.str "", bU])) M)\/∃p,AskNo ws ds p/\Q (.p (.tup [.str "WrongKind",.int p])) M)
theorem Xr{f:Addr}{fd:FuncData}(F:Fun K "_law_own_ask" "_law_own_ask" Z8 f fd)(N:Nms mg)(ao:Def P w K mg base "_law_own_kind" 1 ["worth"] (spP JH)):FnOk P w K mg base CX0 2 f fd ["own","deed"] (spU Vu):=by
 refine F.zU scOwnAsk (by rintro _ _ _ ⟨_,_,_,_,rfl,_⟩;rfl) (λae A outer s H E hr=>?_);refine⟨_,(qb (qB (i:=2) scOwnAsk.nd rfl Gx (qj (qh (K:=K) rfl) qv1 qa (λ_ _=>rfl))) (qb (qB (i:=3) scOwnAsk.nd rfl Gx (qj (qf (K:=K) rfl) (qj (qf (K:=K) rfl) qv0 qa (λ_ _=>rfl)) (qj (qh (K:=K) rfl) qv1 qa (λ_ _=>rfl)) (λ_ _=>rfl))) (qb (qP (qi op_eq qv2 qc (qm _)) (qe (qt (qu (qa2 qc (qo ao (YH hr) (qa1 qv3)))))) qx) (qb (qP (qi op_eq qv2 qc (qm _)) (qe (qt (qu (qa2 qc (vm (qi op_eq (qo ao (YH hr) (qa1 qv3)) qc (qm _)) qc qv3))))) qx) (qb (qB (i:=4) scOwnAsk.nd rfl Gx (qj (qf (K:=K) rfl) (qj (qf (K:=K) rfl) qv0 qa (λ_ _=>rfl)) (qj (qh (K:=K) rfl) qv1 qa (λ_ _=>rfl)) (λ_ _=>rfl))) (qb (qP (qi op_eq qv2 qc (qm _)) (qe (qt (qu (qa2 qc (Ji (vF op_eq (qo ao (YH hr) (qa1 qv3)) (qo ao (YH hr) (qa1 qv4)) (qm _)) (V5 (vF (q2a (K:=K) rfl hr.units) qv3 qv4 (qm _)))))))) qx) (qb (qP (qi jL (qo ao (YH hr) (qa1 qv3)) qc (qm _)) (qe (qt (qu (qa2 qc qa)))) qx) (qe (qt (vm (qi jL (qo ao (YH hr) (qa1 qv4)) qc (qm _)) (qu (qa2 qc qa)) (qu (qa2 qc (vF Ki qv3 qv4 (qm _)))))))))))))),_,(by right),λus M Qu h=>?_⟩;obtain⟨o,ws,ps,ds,rfl,O,h⟩:=h;rcases h with⟨bU,hd,q⟩|⟨pp,hd,q⟩
 ·cases hd with
  |kind qq x hq=>
   left;refine qM O ?_;left;refine qW O.b hq ?_;left;refine⟨x,rfl,?_⟩;left;exact q
  |told qq x hq=>
   left;refine qM O ?_;left;refine qW O.b hq ?_;left;refine⟨x,rfl,?_⟩;cases x with
   |pr i=>
    simp only[vf];left;exact q
   |_=>
    simp only[vf];left;exact q
  |same qq p x y hq hp=>
   left;refine qM O ?_;left;refine qW O.b hq ?_;left;refine qM O ?_;left;refine qW O.b hp ?_;left;refine⟨x,rfl,?_⟩;left;refine⟨y,rfl,?_⟩;left;refine ite2 (λhk=>q2j q) (λhk=>?_);have:decide (x=y)=false:=GI λz=>hk (by rw[z]);rw[this]at q;exact q
  |below qq p a b hq hp=>
   left;refine qM O ?_;left;refine qW O.b hq ?_;left;refine qM O ?_;left;refine qW O.b hp ?_;left;refine⟨_,rfl,?_⟩;simp only[vf];left;refine⟨_,rfl,?_⟩;simp only[vf,tO];left;exact q
 ·cases hd with
  |b1 qq p x y hq hx hp=>
   left;refine qM O ?_;left;refine qW O.b hq ?_;left;refine qM O ?_;left;refine qW O.b hp ?_;left;refine⟨_,rfl,?_⟩;symm;refine qO (by simpa using hx) ?_;left;exact q
  |b2 qq p a y hq hp hy=>
   left;refine qM O ?_;left;refine qW O.b hq ?_;left;refine qM O ?_;left;refine qW O.b hp ?_;left;refine⟨_,rfl,?_⟩;simp only[vf];left;refine⟨_,rfl,?_⟩;symm;refine qO (by simpa using hy) ?_;left;exact q
theorem JK(x:Wt):depT 2 (tT x):=by
 cases x with
 |sgn k=>
  refine⟨by show 2<=10000000;decide,λy hy=>?_⟩;simp only[UQ,UY,GS]at hy;rcases hy with rfl|rfl<;>trivial
 |_=>trivial
theorem DeedAsk.dep{ws:List Wt}{ds:List T}{bU:T}(h:DeedAsk ws ds bU):depT 2 bU:=by
 cases h with
 |told=>exact JK _
 |_=>trivial
theorem VD{a b:T}(ha:depT 2 a)(hb:depT 2 b):depT 3 (.tup [a,b]):=by
 refine⟨by show 2<=10000000;decide,λy hy=>?_⟩;simp only[UQ,UY,GS]at hy;rcases hy with rfl|rfl
 ·exact ha
 ·exact hb
theorem q4I{p:Option Int}:depT 2 (pT p):=by cases p<;>trivial
structure Two(C D:Addr)(M:MM)(s o:Nm)(ws:List Wt)(ps:WW):Prop where
 S:Sto C D M s ws ps
 O:Own M o ws ps
 d:∀i j,i<ps.length+2->j<ps.length+3->s i≠o j
theorem Sto.go{C D:Addr}{M M':MM}{s:Nm}{ws:List Wt}{ps:WW}(S:Sto C D M s ws ps)(h:∀i,i<ps.length+2->M'[s i]?=M[s i]?):Sto C D M' s ws ps :=
 ⟨(h 0 (by lia)).trans S.s0,(h 1 (by lia)).trans S.h,λi x hi=>(h _ (by have:=(Us.mp hi).1;lia)).trans (S.p i x hi),S.n,S.inj,S.ww,S.wp⟩
theorem Own.go{M M':MM}{o:Nm}{ws:List Wt}{ps:WW}(S:Own M o ws ps)(h:∀i,i<ps.length+3->M'[o i]?=M[o i]?):Own M' o ws ps :=
 ⟨(h 0 (by lia)).trans S.o0,(h 1 (by lia)).trans S.b,(h 2 (by lia)).trans S.c,λi x hi=>(h _ (by have:=(Us.mp hi).1;lia)).trans (S.p i x hi),S.n,S.inj,S.ww,S.wp⟩
structure Go2(M M':MM)(s o s' o':Nm)(n n':Nat):Prop where
 len:M.length<=M'.length
 fr:∀k,k<M.length->(∀i,i<n+2->k≠s i)->(∀i,i<n+3->k≠o i)->M'[k]?=M[k]?
 ns:∀i,i<n'+2->(∃j,j<n+2/\s' i=s j)\/M.length<=s' i
 no:∀i,i<n'+3->(∃j,j<n+3/\o' i=o j)\/M.length<=o' i
 z:s' 0=s 0
 y:o' 0=o 0
theorem Two.step{C D:Addr}{M M1 M2:MM}{s o s' o':Nm}{ws ay:List Wt}{ps aj:WW}(W:Two C D M s o ws ps)(S1:Sto C D M1 s' ay aj)(g1:Go M M1 s s' (ps.length+2) (aj.length+2))(O2:Own M2 o' ay aj)(g2:Go M1 M2 o o' (ps.length+3) (aj.length+3)):Two C D M2 s' o' ay aj/\Go2 M M2 s o s' o' ps.length aj.length:=by
 have lt:∀j,j<ps.length+3->o j<M.length:=λj hj=>W.O.lt hj;have ne:∀i j,i<aj.length+2->j<ps.length+3->s' i≠o j:=λi j hi hj z=>by
  rcases g1.nw i hi with⟨l,hl,e⟩|e
  ·exact W.d l j hl hj (e.symm.trans z)
  ·have:=lt j hj
   lia
 refine⟨⟨S1.go λi hi=>g2.fr _ (S1.lt hi) λj hj=>ne i j hi hj,O2,λi j hi hj z=>?_⟩,⟨U3 g1.len g2.len,λk hk h1 h2=>?_,g1.nw,λi hi=>?_,g1.z,g2.z⟩⟩
 ·rcases g2.nw j hj with⟨l,hl,e⟩|e
  ·exact ne i l hi hl (z.trans e)
  ·have:=S1.lt hi
   lia
 ·have:=g1.len
  rw[g2.fr k (by lia) h2,g1.fr k hk h1]
 ·have:=g1.len
  rcases g2.nw i hi with h|h
  ·exact .inl h
  ·exact .inr (by lia)
theorem Two.mid{C D:Addr}{M M1:MM}{s o s':Nm}{ws:List Wt}{ps:WW}{n':Nat}(W:Two C D M s o ws ps)(g1:Go M M1 s s' (ps.length+2) n'):Own M1 o ws ps:=W.O.go λi hi=>g1.fr _ (W.O.lt hi) λj hj z=>W.d j i hj hi z.symm
def askW(w:Str)(b:Bool):Prop:=inV (.str w) [.str "kind",.str "told",.str "same",.str "below"]=b
theorem DeedDo.word{ws ay:List Wt}{ps aj:WW}{ds:List T}(h:DeedDo ws ps ds ay aj):∃w r,ds=.str w::r/\askW w false:=by cases h<;>exact⟨_,_,rfl,by unfold askW;decide⟩
theorem DeedAsk.word{ws:List Wt}{ds:List T}{bU:T}(h:DeedAsk ws ds bU):∃w r,ds=.str w::r/\askW w true:=by cases h<;>exact⟨_,_,rfl,by unfold askW;decide⟩
theorem AskNo.word{ws:List Wt}{ds:List T}{p:Int}(h:AskNo ws ds p):∃w r,ds=.str w::r/\askW w true:=by cases h<;>exact⟨_,_,rfl,by unfold askW;decide⟩
theorem DeedNo.word{ws:List Wt}{ds:List T}{nm:Str}{p:Option Int}(h:DeedNo ws ds nm p):∃w r,ds=.str w::r/\askW w false:=by
 cases h with
 |n1 w hw=>exact⟨_,_,rfl,by unfold askW;rcases hw with rfl|rfl|rfl|rfl|rfl<;>decide⟩
 |n2 w hw=>exact⟨_,_,rfl,by unfold askW;rcases hw with rfl|rfl|rfl|rfl|rfl<;>decide⟩
 |nz w hw=>exact⟨_,_,rfl,by unfold askW;rcases hw with rfl|rfl<;>decide⟩
 |p1 w hw=>exact⟨_,_,rfl,by unfold askW;rcases hw with rfl|rfl<;>decide⟩
 |p2 w hw=>exact⟨_,_,rfl,by unfold askW;rcases hw with rfl|rfl<;>decide⟩
theorem zp{ws:List Wt}(h:ws.length=8){q:Nat}(hq:q<8):∃x,ws[q]?=some x:=⟨ws[q]'(by lia),Ut _⟩
abbrev jk:Stmt:=top 75
theorem scAnyNumber:q00 ["bag","kind","sign"] ["bag"] (qd jk):=by ac_rfl
def vG:List U->MM->UK->Prop:=λus M Q=>∃(k:Nat)(o:MO),us=[.m k]/\M[k]?=some o/\BagO o/\∀(n:Int)(o':MO),BagO o'->Bt 300 n->Q (.p (.int n)) (M.set k o')
theorem Qc{f:Addr}{fd:FuncData}(F:Fun K "_law_any_number" "_law_any_number" jk f fd)(N:Nms mg)(a8:Def P w K mg base "_law_draw" 1 ["bag","many"] (spU jN)):FnOk P w K mg base CX0 2 f fd ["bag"] (spU vG):=by
 refine F.zV scAnyNumber (by rintro _ _ _ ⟨_,_,rfl,_⟩;rfl) (λae A outer s H E hr=>?_);refine⟨_,(qb (qB (i:=1) scAnyNumber.nd rfl Gx (qo a8 (YH hr) (qa2 qv0 qa))) (qb (qB (i:=2) scAnyNumber.nd rfl Gx (qC jz (qC ku (qo a8 (YH hr) (qa2 qv0 qa)) qa) qa)) (qb (qP (qi Ki qv1 qa (qm _)) (qe (qt (qC jz (qo a8 (YH hr) (qa2 qv0 qa)) qa))) qx) (qb (qP (qi Ki qv1 qa (qm _)) (qe (qt (qC ku qv2 (qC jz (qC vq (qC q2k qa (qo a8 (YH hr) (qa2 qv0 qa))) (qo a8 (YH hr) (qa2 qv0 qa))) qa)))) qx) (qe (qt (qC ku qv2 (qo a8 (YH hr) (qa2 qv0 (qj (qf (K:=K) rfl) (qG (qa2 (qC Jl qa qa) (qC Jl qa qa))) (qC jz qv1 qa) (λ_ _=>rfl))))))))))),_,(by right),λus M M1 Qu e1 h=>?_⟩;obtain⟨k,o,rfl,em,hB,post⟩:=h;obtain⟨eB,eM⟩:=xn em;rw[e1.trans eM];have fin:∀(z:Int)(o':MO),BagO o'->Bt 300 z->zo M (MB M k o' [])/\Qu (.p (.int z)) (List.take (List.length M) (MB M k o' [])):=λz o' B h1=>⟨js B.pur,by rw[jt];exact post z o' B h1⟩;symm;refine qE eB hB (by decide) (by decide) λkd o1 w0 w1 B1=>?_;symm;refine qE eB B1 (by decide) (by decide) λd2 o3 iO mj B3=>?_;symm;have ml:d2*2-1=1\/d2*2-1 = -1:=by lia
 refine⟨.inl ⟨by lia,by lia⟩,?_⟩;symm;refine ite2 (λh1=>?_) (λh1=>?_)
 ·refine qE eB B3 (by decide) (by decide) λd o2 d0 d1 B2=>?_
  symm;exact fin _ _ B2 (Bt.small (by lia) (by lia) (by decide))
 symm;refine ite2 (λh2=>?_) (λh2=>?_)
 ·refine qE eB B3 (by decide) (by decide) λx o4 x0 x1 B4=>?_
  symm;refine⟨⟨by lia,by lia,by decide⟩,?_⟩;refine qE eB B4 (by decide) (by decide) λd5 o5 mm mq B5=>?_;symm;refine⟨.inl ⟨by lia,by lia⟩,?_⟩;refine fin _ _ B5 ?_;have e2:=(Bt.pow x.toNat).add (Bt.small (i:=d5-2) (n:=62) (by lia) (by lia) (by decide));have e3:=(e2.sign ml).mono (m:=300) (by lia);rw[show(1:Int)*2^x.toNat+d5-2=1*2^x.toNat+(d5-2) by lia];exact e3
 ·symm
  refine⟨⟨by decide,by decide,by decide⟩,⟨by decide,by decide,by decide⟩,?_⟩;have rP:Bt 300 ((10:Int)^Int.toNat 60):=by unfold Bt;decide+kernel
  have rQ:Bt 300 ((10:Int)^Int.toNat 20):=by unfold Bt;decide+kernel
  rcases(show kd=4\/kd=5 by lia)with rfl|rfl
  ·refine qX rfl ?_
   refine qE eB B3 (by decide) (by decide+kernel) λx o4 x0 x1 B4=>?_;symm;refine⟨.inl ⟨by lia,by lia⟩,?_⟩;symm;exact fin _ _ B4 ((rP.nonneg_le x0 (Int.le_of_lt x1)).sign ml)
  ·refine qX rfl ?_
   refine qE eB B3 (by decide) (by decide+kernel) λx o4 x0 x1 B4=>?_;symm;refine⟨.inl ⟨by lia,by lia⟩,?_⟩;symm;exact fin _ _ B4 ((rQ.nonneg_le x0 (Int.le_of_lt x1)).sign ml)
theorem q34{M:MM}{k:Nat}{o:MO}{L:List MO}{Q:UK}(hk:k<M.length)(B:BagO o)(q:∀(n:Int)(o':MO),BagO o'->Bt 300 n->Q (.p (.int n)) (MB M k o' L)):vG [.m k] (MB M k o L) Q :=
 ⟨k,o,rfl,ZF hk,B,λx o' B' x0=>by rw[xb hk];exact q x o' B' x0⟩
def szW(m:Nat):Wt->Prop
 |.num n=>Bt m n
 |_=>True
def szL(m:Nat)(ws:List Wt)(ps:WW):Prop:=(∀x∈ws,szW m x)/\∀x∈ps,szW m x.1/\szW m x.2
theorem szW.mono{m n:Nat}{x:Wt}(h:szW m x)(hm:m<=n):szW n x:=by
 cases x with
 |num a=>exact Bt.mono h hm
 |_=>trivial
theorem szL.mono{m n:Nat}{ws:List Wt}{ps:WW}(h:szL m ws ps)(hm:m<=n):szL n ws ps:=⟨λx hx=>(h.1 x hx).mono hm,λx hx=>⟨(h.2 x hx).1.mono hm,(h.2 x hx).2.mono hm⟩⟩
theorem szL.put{m r:Nat}{ws:List Wt}{ps:WW}{x:Wt}(h:szL m ws ps)(hx:szW (m+1) x):szL (m+1) (ws.set r x) ps:=⟨v3 (λy hy=>(h.1 y hy).mono (by lia)) hx,λy hy=>⟨(h.2 y hy).1.mono (by lia),(h.2 y hy).2.mono (by lia)⟩⟩
theorem szL.at{m q:Nat}{ws:List Wt}{ps:WW}{x:Wt}(h:szL m ws ps)(hq:ws[q]?=some x):szW m x:=h.1 x (Uy hq)
theorem szL.pi{m q:Nat}{ws:List Wt}{ps:WW}{x:Wt×Wt}(h:szL m ws ps)(hq:ps[q]?=some x):szW m x.1/\szW m x.2:=h.2 x (Uy hq)
theorem noPy{x y:Int}(h:Bt 13400 x):Builtin.divisionGoesByPylong x y=false:=by
 have key:(if x==0 then 0 else x.natAbs.log2 / 30+1)<=447:=by
  by_cases hx:(x==0)=true
  ·rw[GL hx];exact Db _
  ·rw[GH hx]
   have h0:x.natAbs≠0:=λz=>hx (by rw[Int.natAbs_eq_zero.mp z];rfl);have:=(Nat.log2_lt h0).mpr h;lia
 show(decide ((if y==0 then 0 else y.natAbs.log2 / 30+1)>300)&&decide ((if x==0 then 0 else x.natAbs.log2 / 30+1)>(if y==0 then 0 else y.natAbs.log2 / 30+1)+150))=false;generalize(if y==0 then 0 else y.natAbs.log2 / 30+1)=dy;generalize(if x==0 then 0 else x.natAbs.log2 / 30+1)=dx at key ⊢;by_cases hy:dy>300
 ·rw[GI (p:=dx>dy+150) (by lia),Bool.and_false]
 ·rw[GI hy,Bool.false_and]
theorem q3q{n:Nat}{a b:Int}(ha:Bt n a)(hb:b≠0):Bt (n+1) (a.fdiv b):=by
 unfold Bt at ha ⊢;have key:∀{x y:Int},0<y->x.natAbs<2^n->(x.fdiv y).natAbs<2^(n+1):=λ{x y} hy hx=>by
  rw[Ra x (by lia)];have h1:=Int.natAbs_ediv_le_natAbs x y;rw[Nat.pow_succ];lia
 rcases RP hb with h|h
 ·rw[<-Int.neg_fdiv_neg]
  exact key (by lia) (by rwa [RD])
 ·exact key h ha
theorem q2Q{n:Nat}{a b:Int}(ma:Bt n b)(hb:b≠0):Bt n (a.fmod b):=by
 unfold Bt at ma ⊢;rcases RP hb with h|h
 ·have e:a.fmod b = -((-a).fmod (-b)):=by rw[Int.neg_fmod_neg];lia
  rw[e,RD,DA _ (by lia)];have h1:=Dt (-a) (show -b≠0 by lia);have h2:=Do (-a) (show 0 < -b by lia);lia
 ·rw[DA _ (by lia)]
  have h1:=Dt a hb;have h2:=Do a h;lia
inductive Formed:List T->Prop
 |num (r:Nat) (n:Int) (hr:r<8) (hb:Bt 300 n):Formed [.str "number",.int (r:Int),.int n]
 |sgn (r:Nat) (n:Int) (hr:r<8):Formed [.str "sign",.int (r:Int),.int n]
 |one (r:Nat) (n:Str) (hr:r<8):Formed [.str "one",.int (r:Int),.str n]
 |copy (r q:Nat) (hr:r<8) (hq:q<8):Formed [.str "copy",.int (r:Int),.int (q:Int)]
 |five (w:Str) (hw:five w) (r q p:Nat) (hr:r<8) (hq:q<8) (hp:p<8):Formed [.str w,.int (r:Int),.int (q:Int),.int (p:Int)]
 |pair (r q p:Nat) (hr:r<8) (hq:q<8) (hp:p<8):Formed [.str "pair",.int (r:Int),.int (q:Int),.int (p:Int)]
 |get (w:Str) (hw:w = "first" \/ w = "second") (r q:Nat) (hr:r<8) (hq:q<8):Formed [.str w,.int (r:Int),.int (q:Int)]
 |set (w:Str) (hw:w = "set_first" \/ w = "set_second") (q p:Nat) (hq:q<8) (hp:p<8):Formed [.str w,.int (q:Int),.int (p:Int)]
 |below (q p:Nat) (hq:q<8) (hp:p<8):Formed [.str "below",.int (q:Int),.int (p:Int)]
def Tame(ws:List Wt)(ds:List T):Prop:=∀(r q p:Nat)(a b:Int),ds=[.str "times",.int (r:Int),.int (q:Int),.int (p:Int)]->ws[q]?=some (.num a)->ws[p]?=some (.num b)->Bt 12000 (a*b)
theorem q5e{x:Wt}:(∃i,x=.pr i)\/vf x ≠ "pair" := by
 cases x with
 |pr i=>exact .inl ⟨i,rfl⟩
 |_=>exact .inr (by dsimp only[vf];decide)
theorem jA{x:Wt}:(∃a,x=.num a)\/vf x ≠ "number" := by
 cases x with
 |num i=>exact .inl ⟨i,rfl⟩
 |_=>exact .inr (by dsimp only[vf];decide)
def Comes(m:Nat)(ws:List Wt)(ps:WW)(ds:List T):Prop:=(∃ay aj,DeedDo ws ps ds ay aj/\aj.length<=ps.length+1/\szL (m+1) ay aj)\/(∃bU,DeedAsk ws ds bU)\/(∃nm p,DeedNo ws ds nm p)\/∃p,AskNo ws ds p
theorem Formed.comes{m:Nat}{ws:List Wt}{ps:WW}{ds:List T}(h:Formed ds)(ht:Tame ws ds)(hn:ws.length=8)(hk:∀x∈ws,okW ps.length x)(hz:szL m ws ps)(m0:12000<=m)(m1:m<=13000):Comes m ws ps ds:=by
 cases h with
 |num r n hr hb=>exact .inl ⟨_,_,.num r n hr,by lia,hz.put (hb.mono (by lia))⟩
 |sgn r n hr=>exact .inl ⟨_,_,.sgn r n hr,by lia,hz.put trivial⟩
 |one r n hr=>exact .inl ⟨_,_,.one r n hr,by lia,hz.put trivial⟩
 |copy r q hr hq=>
  obtain⟨x,hx⟩:=zp hn hq;exact .inl ⟨_,_,.copy r q x hr hx,by lia,hz.put ((hz.at hx).mono (by lia))⟩
 |five w hw r q p hr hq hp=>
  obtain⟨x,hx⟩:=zp hn hq;obtain⟨y,hy⟩:=zp hn hp;rcases jA (x:=x) with⟨a,rfl⟩|hxk
  ·rcases jA (x:=y) with⟨b,rfl⟩|hyk
   ·have ha:Bt m a:=hz.at hx
    have hb:Bt m b:=hz.at hy;rcases hw with rfl|rfl|rfl|rfl|rfl
    ·exact .inl ⟨_,_,.plus r q p a b hr hx hy,by lia,hz.put ((ha.add hb).mono (by lia))⟩
    ·exact .inl ⟨_,_,.less r q p a b hr hx hy,by lia,hz.put ((ha.sub hb).mono (by lia))⟩
    ·exact .inl ⟨_,_,.times r q p a b hr hx hy (.of_bits (U3 ha.bits (by lia)) (U3 hb.bits (by lia))),by lia,hz.put ((ht r q p a b rfl hx hy).mono (by lia))⟩
    ·by_cases h0:b=0
     ·subst h0
      exact .inr (.inr (.inl ⟨_,_,.nz _ (.inl rfl) r q p a hr hx hy⟩))
     ·exact .inl ⟨_,_,.over r q p a b hr hx hy h0 (noPy (ha.mono (by lia))),by lia,hz.put (q3q ha h0)⟩
    ·by_cases h0:b=0
     ·subst h0
      exact .inr (.inr (.inl ⟨_,_,.nz _ (.inr rfl) r q p a hr hx hy⟩))
     ·exact .inl ⟨_,_,.rest r q p a b hr hx hy h0,by lia,hz.put ((q2Q hb h0).mono (by lia))⟩
   ·exact .inr (.inr (.inl ⟨_,_,.n2 w hw r q p a y hr hx hy hyk⟩))
  ·exact .inr (.inr (.inl ⟨_,_,.n1 w hw r q p x y hr hx hxk hy⟩))
 |pair r q p hr hq hp=>
  obtain⟨x,hx⟩:=zp hn hq;obtain⟨y,hy⟩:=zp hn hp;refine .inl ⟨_,_,.pair r q p x y hr hx hy,by rw[Uu];exact Ux _,(hz.put (r:=r) (x:=.pr ps.length) trivial).1,λz rR=>?_⟩;rcases UD.mp rR with h|h
  ·exact⟨(hz.2 z h).1.mono (by lia),(hz.2 z h).2.mono (by lia)⟩
  ·cases UJ.mp h
   exact⟨(hz.at hx).mono (by lia),(hz.at hy).mono (by lia)⟩
 |get w hw r q hr hq=>
  obtain⟨x,hx⟩:=zp hn hq;rcases q5e (x:=x) with⟨i,rfl⟩|hxk
  ·have hi:i<ps.length:=hk _ (Uy hx)
   have eE:=Ut hi;rcases hw with rfl|rfl
   ·exact .inl ⟨_,_,.first r q i _ hr hx eE,by lia,hz.put ((hz.pi eE).1.mono (by lia))⟩
   ·exact .inl ⟨_,_,.second r q i _ hr hx eE,by lia,hz.put ((hz.pi eE).2.mono (by lia))⟩
  ·exact .inr (.inr (.inl ⟨_,_,.p1 w hw r q x hr hx hxk⟩))
 |set w hw q p hq hp=>
  obtain⟨x,hx⟩:=zp hn hq;obtain⟨y,hy⟩:=zp hn hp;rcases q5e (x:=x) with⟨i,rfl⟩|hxk
  ·have hi:i<ps.length:=hk _ (Uy hx)
   have eE:=Ut hi;have sy:=(hz.at hy).mono (n:=m+1) (by lia);have s1:=(hz.pi eE).1.mono (n:=m+1) (by lia);have s2:=(hz.pi eE).2.mono (n:=m+1) (by lia);have z1:=hz.mono (n:=m+1) (by lia);rcases hw with rfl|rfl
   ·exact .inl ⟨_,_,.setL q p i _ y hx eE hy,by rw[UB];lia,z1.1,v3 z1.2 ⟨sy,s2⟩⟩
   ·exact .inl ⟨_,_,.setR q p i _ y hx eE hy,by rw[UB];lia,z1.1,v3 z1.2 ⟨s1,sy⟩⟩
  ·exact .inr (.inr (.inl ⟨_,_,.p2 w hw q p x y hx hxk hy⟩))
 |below q p hq hp=>
  obtain⟨x,hx⟩:=zp hn hq;obtain⟨y,hy⟩:=zp hn hp;rcases jA (x:=x) with⟨a,rfl⟩|hxk
  ·rcases jA (x:=y) with⟨b,rfl⟩|hyk
   ·exact .inr (.inl ⟨_,.below q p a b hx hy⟩)
   ·exact .inr (.inr (.inr ⟨_,.b2 q p a y hx hy hyk⟩))
  ·exact .inr (.inr (.inr ⟨_,.b1 q p x y hx hxk hy⟩))
inductive RowI(n:Nat):List T->Prop
 |deed (w:Str) (r:List T) (h:Formed (.str w::r)) (hw:w ≠ "below"):RowI n (.str w::r)
 |below (q p t:Nat) (hq:q<8) (hp:p<8) (ht:t<n):RowI n [.str "below",.int (q:Int),.int (p:Int),.int (t:Int)]
 |same (q p t:Nat) (hq:q<8) (hp:p<8) (ht:t<n):RowI n [.str "same",.int (q:Int),.int (p:Int),.int (t:Int)]
 |kind (q t:Nat) (kd:Str) (hq:q<8) (ht:t<n):RowI n [.str "kind",.int (q:Int),.str kd,.int (t:Int)]
 |tell (q:Nat) (hq:q<8):RowI n [.str "tell",.int (q:Int)]
 |jump (t:Nat) (ht:t<n):RowI n [.str "jump",.int (t:Int)]
 |endd:RowI n [.str "end"]
inductive Res where
 |go (ws:List Wt) (ps:WW) (a:Nat) (nw:List T)|no (nm:Str) (p:Option Int)
inductive Step(ws:List Wt)(ps:WW)(a:Nat):List T->Res->Prop
 |jump (t:Nat):Step ws ps a [.str "jump",.int (t:Int)] (.go ws ps t [])
 |tell (q:Nat) (x:Wt) (hq:ws[q]?=some x):Step ws ps a [.str "tell",.int (q:Int)] (.go ws ps (a+1) [tT x])
 |ask (w:Str) (hw:w = "below" \/ w = "same") (q p t:Nat) (b:Bool) (h:DeedAsk ws [.str w,.int (q:Int),.int (p:Int)] (.bl b)):Step ws ps a [.str w,.int (q:Int),.int (p:Int),.int (t:Int)] (.go ws ps (if b=true then t else a+1) [])
 |kind (q t:Nat) (x:Wt) (kd:Str) (hq:ws[q]?=some x):Step ws ps a [.str "kind",.int (q:Int),.str kd,.int (t:Int)] (.go ws ps (if decide (vf x=kd)=true then t else a+1) [])
 |askno (q p t:Nat) (pp:Int) (h:AskNo ws [.str "below",.int (q:Int),.int (p:Int)] pp):Step ws ps a [.str "below",.int (q:Int),.int (p:Int),.int (t:Int)] (.no "WrongKind" (some pp))
 |deed (ds:List T) (ay:List Wt) (aj:WW) (h:DeedDo ws ps ds ay aj) (ht:Tame ws ds) (hl:ps.length<1000):Step ws ps a ds (.go ay aj (a+1) [])
 |no (ds:List T) (nm:Str) (p:Option Int) (h:DeedNo ws ds nm p):Step ws ps a ds (.no nm p)
def Ky(p:Option Int)(a:Nat):T:=match p with|some k=>.tup [.str "kind",.int (a:Int),.int k]|none=>.tup [.str "nought",.int (a:Int)]
inductive Walk(rows:List (List T))(g:Prop):Nat->List Wt->WW->Nat->T->List T->List Wt->WW->Prop
 |far (ws:List Wt) (ps:WW) (a:Nat):Walk rows g 0 ws ps a (.tup [.str "far",.int (a:Int)]) [] ws ps
 |endd (n:Nat) (ws:List Wt) (ps:WW) (a:Nat) (h:rows[a]?=some [.str "end"]):Walk rows g (n+1) ws ps a (.tup [.str "end"]) [] ws ps
 |no (n:Nat) (ws:List Wt) (ps:WW) (a:Nat) (ds:List T) (nm:Str) (p:Option Int) (h:rows[a]?=some ds) (s:Step ws ps a ds (.no nm p)):Walk rows g (n+1) ws ps a (Ky p a) [] ws ps
 |go (n:Nat) (ws:List Wt) (ps:WW) (a:Nat) (ds:List T) (aQ:List Wt) (aq:WW) (a1:Nat) (nw:List T) (e:T) (ns:List T) (az:List Wt) (ar:WW) (h:rows[a]?=some ds) (s:Step ws ps a ds (.go aQ aq a1 nw)) (r:Walk rows g n aQ aq a1 e ns az ar):Walk rows g (n+1) ws ps a e (nw++ns) az ar
 |great (n:Nat) (ws:List Wt) (ps:WW) (a r q p:Nat) (x y:Int) (hg:g) (h:rows[a]?=some [.str "times",.int (r:Int),.int (q:Int),.int (p:Int)]) (hq:ws[q]?=some (.num x)) (hp:ws[p]?=some (.num y)) (hm:IntMulOk x y) (hb:¬Bt 12000 (x*y)):Walk rows g (n+1) ws ps a (.tup [.str "great",.int (a:Int)]) [] ws ps
structure WOk(ws:List Wt)(ps:WW):Prop where
 n:ws.length=8
 ww:∀x∈ws,okW ps.length x
 wp:∀x∈ps,okW ps.length x.1/\okW ps.length x.2
theorem WOk.set{ws:List Wt}{ps:WW}{r:Nat}{x:Wt}(h:WOk ws ps)(hx:okW ps.length x):WOk (ws.set r x) ps:=⟨by rw[UB];exact h.n,v3 h.ww hx,h.wp⟩
theorem WOk.setp{ws:List Wt}{ps:WW}{i:Nat}{x:Wt×Wt}(h:WOk ws ps)(hx:okW ps.length x.1/\okW ps.length x.2):WOk ws (ps.set i x):=⟨h.n,by rw[UB];exact h.ww,by rw[UB];exact v3 h.wp hx⟩
theorem WOk.at{ws:List Wt}{ps:WW}{q:Nat}{x:Wt}(h:WOk ws ps)(e:ws[q]?=some x):okW ps.length x:=h.ww x (Uy e)
theorem WOk.pi{ws:List Wt}{ps:WW}{q:Nat}{x:Wt×Wt}(h:WOk ws ps)(e:ps[q]?=some x):okW ps.length x.1/\okW ps.length x.2:=h.wp x (Uy e)
theorem DeedDo.ok{ws ay:List Wt}{ps aj:WW}{ds:List T}(h:DeedDo ws ps ds ay aj)(k:WOk ws ps):WOk ay aj:=by
 cases h with
 |copy r q x hr hq=>exact k.set (k.at hq)
 |pair r q p x y hr hq hp=>
  have el:(ps++[(x,y)]).length=ps.length+1:=by rw[Uu];rfl
  refine⟨by rw[UB];exact k.n,?_,?_⟩
  ·rw[el]
   exact v3 (λy hy=>(k.ww y hy).mono (by lia)) (show ps.length<ps.length+1 by lia)
  ·rw[el]
   intro z hz;rcases UD.mp hz with hz|hz
   ·exact⟨(k.wp z hz).1.mono (by lia),(k.wp z hz).2.mono (by lia)⟩
   ·cases UJ.mp hz
    exact⟨(k.at hq).mono (by lia),(k.at hp).mono (by lia)⟩
 |first r q i z hr hq hi=>exact k.set (k.pi hi).1
 |second r q i z hr hq hi=>exact k.set (k.pi hi).2
 |setL q p i z y hq hi hp=>exact k.setp ⟨k.at hp,(k.pi hi).2⟩
 |setR q p i z y hq hi hp=>exact k.setp ⟨(k.pi hi).1,k.at hp⟩
 |_=>exact k.set trivial
structure ScrI(rows:List (List T)):Prop where
 r:∀ds∈rows,RowI rows.length ds
 l:∀ds,rows[rows.length-1]?=some ds->ds=[.str "end"]\/∃t:Nat,ds=[.str "jump",.int (t:Int)]
 n0:1<=rows.length
 n1:rows.length<=60
theorem ScrI.next{rows:List (List T)}{a:Nat}{ds:List T}(S:ScrI rows)(h:rows[a]?=some ds)(h1:ds≠[.str "end"])(h2:∀t:Nat,ds≠[.str "jump",.int (t:Int)]):a+1<rows.length:=by
 have ha:=(Us.mp h).1;rcases Rz (a+1) rows.length with z|z
 ·exact z
 ·have e:rows.length-1=a:=by lia
  rcases S.l ds (by rw[e];exact h)with e|⟨t,e⟩
  ·exact absurd e h1
  ·exact absurd e (h2 t)
theorem WV{ws:List Wt}{w:Str}{r:List T}(hw:w ≠ "times"):Tame ws (.str w::r):=λr q p a b e=>by
 cases e;exact absurd rfl hw
theorem Qd{u v:Str}{r r':List T}(h:u≠v):T.str u::r≠T.str v::r':=λe=>h (T.str.inj (List.cons.inj e).1)
theorem Formed.noask{w:Str}{r:List T}(h:Formed (.str w::r))(hb:w ≠ "below"):askW w false:=by
 cases h with
 |five _ hw=>rcases hw with rfl|rfl|rfl|rfl|rfl<;>(unfold askW;decide)
 |get _ hw=>rcases hw with rfl|rfl<;>(unfold askW;decide)
 |set _ hw=>rcases hw with rfl|rfl<;>(unfold askW;decide)
 |below=>exact absurd rfl hb
 |_=>unfold askW;decide
theorem VM{w:Str}{r ds:List T}{p:Prop}(h:askW w false)(k:∃w' r',ds=.str w'::r'/\askW w' true)(e:ds=.str w::r):p:=by
 obtain⟨w',r',e',k⟩:=k;have:w'=w:=T.str.inj (List.cons.inj (e'.symm.trans e)).1;subst this;unfold askW at h k;rw[h]at k;cases k
theorem jd{rows:List (List T)}(S:ScrI rows){g:Prop}(hg:g\/∀ds∈rows,∀r,ds ≠ .str "times" :: r):∀(n:Nat)(ws:List Wt)(ps:WW)(a m:Nat),a<rows.length->WOk ws ps->szL m ws ps->12000<=m->m+n<=13000->ps.length+n<=1000 ->
  ∃e ns az ar,Walk rows g n ws ps a e ns az ar/\WOk az ar/\szL (m+n) az ar/\ar.length<=ps.length+n
 |0,ws,ps,a,m,_,k,z,_,_,_=>⟨_,_,_,_,.far ws ps a,k,z,Ux _⟩
 |n+1,ws,ps,a,m,ha,k,z,m0,m1,hl=>by
  have hd:rows[a]?=some (rows[a]'ha):=Ut ha;have hr:=S.r _ (Rr ha);generalize rows[a]'ha=ds at hd hr;have stay:∀a1 nw,a1<rows.length->Step ws ps a ds (.go ws ps a1 nw)->∃e ns az ar,Walk rows g (n+1) ws ps a e ns az ar/\WOk az ar/\szL (m+(n+1)) az ar/\ar.length<=ps.length+(n+1):=λa1 nw h1 s=>by
   obtain⟨e,ns,az,ar,w,k2,z2,l2⟩:=jd S hg n ws ps a1 m h1 k z m0 (by lia) (by lia);exact⟨_,_,_,_,.go n ws ps a ds _ _ a1 nw e ns az ar hd s w,k2,z2.mono (by lia),by lia⟩
  have stop:∀nm p,Step ws ps a ds (.no nm p)->∃e ns az ar,Walk rows g (n+1) ws ps a e ns az ar/\WOk az ar/\szL (m+(n+1)) az ar/\ar.length<=ps.length+(n+1):=λnm p s=>⟨_,_,_,_,.no n ws ps a ds nm p hd s,k,z.mono (by lia),by lia⟩;cases hr with
  |endd=>exact⟨_,_,_,_,.endd n ws ps a hd,k,z.mono (by lia),by lia⟩
  |jump t ht=>exact stay _ _ ht (.jump t)
  |tell q hq=>
   obtain⟨x,hx⟩:=zp k.n hq;exact stay _ _ (S.next hd (Qd (by decide)) λ_=>Qd (by decide)) (.tell q x hx)
  |kind q t kd hq ht=>
   obtain⟨x,hx⟩:=zp k.n hq;have hn:=S.next hd (Qd (by decide)) λ_=>Qd (by decide);exact stay _ _ (by split<;>assumption) (.kind q t x kd hx)
  |same q p t hq hp ht=>
   obtain⟨x,hx⟩:=zp k.n hq;obtain⟨y,hy⟩:=zp k.n hp;have hn:=S.next hd (Qd (by decide)) λ_=>Qd (by decide);exact stay _ _ (by split<;>assumption) (.ask "same" (.inr rfl) q p t _ (.same q p x y hx hy))
  |below q p t hq hp ht=>
   obtain⟨x,hx⟩:=zp k.n hq;obtain⟨y,hy⟩:=zp k.n hp;have hn:=S.next hd (Qd (by decide)) λ_=>Qd (by decide);rcases jA (x:=x) with⟨u,rfl⟩|hxk
   ·rcases jA (x:=y) with⟨v,rfl⟩|hyk
    ·exact stay _ _ (by split<;>assumption) (.ask "below" (.inl rfl) q p t _ (.below q p u v hx hy))
    ·exact stop _ _ (.askno q p t _ (.b2 q p u y hx hy hyk))
   ·exact stop _ _ (.askno q p t _ (.b1 q p x y hx hxk hy))
  |deed w r hf hw=>
   have hn:a+1<rows.length:=S.next hd (λe=>by cases e;cases hf) (λt e=>by cases e;cases hf);by_cases ht:Tame ws (.str w::r)
   ·rcases hf.comes (m:=m) (ps:=ps) ht k.n k.ww z m0 (by lia) with⟨ay,aj,cP,oN,hz⟩|⟨bU,cP⟩|⟨nm,p,cP⟩|⟨p,cP⟩
    ·obtain⟨e,ns,az,ar,w2,k2,z2,l2⟩:=jd S hg n ay aj (a+1) (m+1) hn (cP.ok k) hz (by lia) (by lia) (by lia)
     exact⟨_,_,_,_,.go n ws ps a _ _ _ _ _ e ns az ar hd (.deed _ _ _ cP ht (by lia)) w2,k2,by rw[show m+(n+1)=m+1+n by lia];exact z2,by lia⟩
    ·exact VM (hf.noask hw) cP.word rfl
    ·exact stop _ _ (.no _ _ _ cP)
    ·exact VM (hf.noask hw) cP.word rfl
   ·have hx:∃(r' q p:Nat)(x y:Int),r=[.int (r':Int),.int (q:Int),.int (p:Int)]/\w = "times" /\ ws[q]?=some (.num x)/\ws[p]?=some (.num y)/\¬Bt 12000 (x*y):=by
     apply Classical.byContradiction;intro iA;apply ht;intro r' q p x y e hq hp;apply Classical.byContradiction;intro hb;cases e;exact iA ⟨r',q,p,x,y,rfl,rfl,hq,hp,hb⟩
    obtain⟨r',q,p,x,y,rfl,rfl,hq,hp,hb⟩:=hx;have hx:Bt m x:=z.at hq;have hy:Bt m y:=z.at hp;rcases hg with hg|hg
    ·exact⟨_,_,_,_,.great n ws ps a r' q p x y hg hd hq hp (.of_bits (U3 hx.bits (by lia)) (U3 hy.bits (by lia))) hb,k,z.mono (by lia),by lia⟩
    ·exact absurd rfl (hg _ (Uy hd) _)
theorem Walk.less{rows:List (List T)}{g:Prop}{n:Nat}{ws az:List Wt}{ps ar:WW}{a:Nat}{e:T}{ns:List T}(h:Walk rows g n ws ps a e ns az ar):∀f,f<=n->∃e ns az ar,Walk rows g f ws ps a e ns az ar:=by
 induction h with
 |far ws ps a=>exact λf hf=>by cases Nat.le_zero.mp hf;exact⟨_,_,_,_,.far ws ps a⟩
 |endd n ws ps a h=>exact λf hf=>match f with|0=>⟨_,_,_,_,.far ws ps a⟩|f+1=>⟨_,_,_,_,.endd f ws ps a h⟩
 |no n ws ps a ds nm p h s=>exact λf hf=>match f with|0=>⟨_,_,_,_,.far ws ps a⟩|f+1=>⟨_,_,_,_,.no f ws ps a ds nm p h s⟩
 |great n ws ps a r q p x y hg h hq hp hm hb=>exact λf hf=>match f with|0=>⟨_,_,_,_,.far ws ps a⟩|f+1=>⟨_,_,_,_,.great f ws ps a r q p x y hg h hq hp hm hb⟩
 |go n ws ps a ds aQ aq a1 nw e ns az ar h s r ih=>exact λf hf=>match f with
  |0=>⟨_,_,_,_,.far ws ps a⟩
  |f+1=>by
   obtain⟨e',iP,ay,aj,w⟩:=ih f (by lia);exact⟨_,_,_,_,.go f ws ps a ds aQ aq a1 nw e' iP ay aj h s w⟩
theorem Step.two{ws:List Wt}{ps:WW}{a:Nat}{ds:List T}{nm:Str}{p:Option Int}(h:Step ws ps a ds (.no nm p)):(nm = "WrongKind" /\ ∃k,p=some k)\/(nm = "Nought" /\ p=none):=by
 cases h with
 |askno q p t pp h=>exact .inl ⟨rfl,_,rfl⟩
 |no _ _ _ h=>cases h<;>first|exact .inl ⟨rfl,_,rfl⟩|exact .inr ⟨rfl,rfl⟩
theorem Walk.word{rows:List (List T)}{n:Nat}{ws az:List Wt}{ps ar:WW}{a:Nat}{e:T}{ns:List T}(h:Walk rows True n ws ps a e ns az ar):∃(w:Str)(r:List T),e=.tup (.str w::r)/\(w ≠ "great" -> Walk rows False n ws ps a e ns az ar):=by
 induction h with
 |far ws ps a=>exact⟨_,_,rfl,λ_=>.far ws ps a⟩
 |endd n ws ps a h=>exact⟨_,_,rfl,λ_=>.endd n ws ps a h⟩
 |no n ws ps a ds nm p h s=>
  cases p with
  |none=>exact⟨_,_,rfl,λ_=>.no n ws ps a ds nm none h s⟩
  |some p=>exact⟨_,_,rfl,λ_=>.no n ws ps a ds nm (some p) h s⟩
 |great=>exact⟨_,_,rfl,λz=>absurd rfl z⟩
 |go n ws ps a ds aQ aq a1 nw e ns az ar h s r ih=>
  obtain⟨w,r,e1,k⟩:=ih;exact⟨w,r,e1,λz=>.go n ws ps a ds aQ aq a1 nw e ns az ar h s (k z)⟩
theorem Walk.up{rows:List (List T)}{n:Nat}{ws az:List Wt}{ps ar:WW}{a:Nat}{e:T}{ns:List T}(h:Walk rows False n ws ps a e ns az ar):Walk rows True n ws ps a e ns az ar:=by
 induction h with
 |far ws ps a=>exact .far ws ps a
 |endd n ws ps a h=>exact .endd n ws ps a h
 |no n ws ps a ds nm p h s=>exact .no n ws ps a ds nm p h s
 |great _ _ _ _ _ _ _ _ _ hg=>exact hg.elim
 |go n ws ps a ds aQ aq a1 nw e ns az ar h s r ih=>exact .go n ws ps a ds aQ aq a1 nw e ns az ar h s ih
theorem Walk.dep{rows:List (List T)}{g:Prop}{n:Nat}{ws az:List Wt}{ps ar:WW}{a:Nat}{e:T}{ns:List T}(h:Walk rows g n ws ps a e ns az ar):ns.length<=n/\∀t∈ns,∃x,t=tT x:=by
 induction h with
 |go n ws ps a ds aQ aq a1 nw e ns az ar h s r ih=>
  have hn:nw.length<=1/\∀t∈nw,∃x,t=tT x:=by
   cases s with
   |tell q x hq=>exact⟨Ux _,λt ht=>⟨x,UJ.mp ht⟩⟩
   |_=>exact⟨Db _,λt ht=>by simp at ht⟩
  refine⟨by rw[Uu];lia,λt ht=>?_⟩;rcases UD.mp ht with z|z
  ·exact hn.2 t z
  ·exact ih.2 t z
 |_=>exact⟨by simp,λt ht=>by simp at ht⟩
structure GoX(M M':MM)(s s':Nm)(n n' k0:Nat):Prop where
 len:M.length<=M'.length
 fr:∀k,k<M.length->(∀i,i<n->k≠s i)->k≠k0->M'[k]?=M[k]?
 nw:∀i,i<n'->(∃j,j<n/\s' i=s j)\/M.length<=s' i
 z:s' 0=s 0
theorem Go.x{M M':MM}{s s':Nm}{n n' k0:Nat}(g:Go M M' s s' n n'):GoX M M' s s' n n' k0:=⟨g.len,λk h1 h2 _=>g.fr k h1 h2,g.nw,g.z⟩
theorem Go.thenX{M0 M M':MM}{s s1 s2:Nm}{n n1 n2 k0:Nat}(g:Go M0 M s s1 n n1)(h:GoX M M' s1 s2 n1 n2 k0)(hk:M0.length<=k0):Go M0 M' s s2 n n2:=by
 have l:=g.len;refine⟨U3 g.len h.len,λk h1 h2=>?_,λi hi=>?_,h.z.trans g.z⟩
 ·rw[h.fr k (by lia) (λi hi e=>?_) (by lia),g.fr k h1 h2]
  rcases g.nw i hi with⟨j,hj,z⟩|z
  ·exact h2 j hj (e.trans z)
  ·lia
 ·rcases h.nw i hi with⟨j,hj,z⟩|z
  ·rw[z];exact g.nw j hj
  ·exact .inr (by lia)
theorem Go.trans{M0 M M':MM}{s s1 s2:Nm}{n n1 n2:Nat}(g:Go M0 M s s1 n n1)(h:Go M M' s1 s2 n1 n2):Go M0 M' s s2 n n2:=g.thenX h.x (Ux _)
theorem Go.ap{M:MM}{s:Nm}{n:Nat}{L:List MO}:Go M (M++L) s s n n:=⟨by rw[Uu];lia,λk h _=>Uz h,λi hi=>.inl ⟨i,hi,rfl⟩,rfl⟩
theorem GoX.out{M M':MM}{s s':Nm}{n n' k0 k:Nat}(g:GoX M M' s s' n n' k0)(hk:k<M.length)(h:∀i,i<n->s i≠k):∀i,i<n'->s' i≠k:=λi hi e=>by
 rcases g.nw i hi with⟨j,hj,z⟩|z
 ·exact h j hj (z.symm.trans e)
 ·lia
local macro_rules|`(tactic|walk_at "vx")=>`(tactic|simp only[xo])
local macro_rules|`(tactic|walk_at "pk")=>`(tactic|(walk_at "v"; repeat ((first|walk_at "vx" |refine qL (by decide) ?_|refine qO rfl ?_|refine qR false rfl rfl rfl (by decide) ?_|refine qR true rfl rfl rfl (by decide) ?_); walk_at "v")))
inductive DeedOf:List T->List T->Prop
 |tell (q:T):DeedOf [.str "tell", q] [.str "told", q]
 |two (w:Str) (hw:w = "below" \/ w = "same") (q p t:T):DeedOf [.str w,q,p,t] [.str w,q,p]
 |kind (q kd t:T):DeedOf [.str "kind", q,kd,t] [.str "kind", q]
 |other (w:Str) (r:List T) (h1:w ≠ "tell") (h2:inV (.str w) [.str "below",.str "same"]=false) (h4:w ≠ "kind"):DeedOf (.str w::r) (.str w::r)
abbrev Xb:Stmt:=top 87
theorem q1p:q00 ["row"] ["row"] (qd Xb):=by ac_rfl
def WL:List T->(T->Prop)->Prop:=λts Q=>∃ds mv:List T,ts=[.tup ds]/\DeedOf ds mv/\Q (.tup mv)
theorem Xv{f:Addr}{fd:FuncData}(F:Fun K "_law_deed_of" "_law_deed_of" Xb f fd)(N:Nms mg):FnOk P w K mg base CX0 1 f fd ["row"] (spP WL):=by
 refine F.zP q1p (by rintro _ _ ⟨_,_,rfl,_⟩;rfl) (λae A outer s H E hr=>?_);refine⟨_,(qb (qP (qi op_eq (qj (qh (K:=K) rfl) qv0 qa (λ_ _=>rfl)) qc (qm _)) (qe (qt (qu (qa2 qc (qj (qh (K:=K) rfl) qv0 qa (λ_ _=>rfl)))))) qx) (qb (qP (qi (zT (K:=K) rfl) (qj (qh (K:=K) rfl) qv0 qa (λ_ _=>rfl)) (qG (qa2 qc qc)) (by with_unfolding_all rfl)) (qe (qt (zr (QR (K:=K) rfl) qv0 xD (xC qa)))) qx) (qe (qt (vm (qi op_eq (qj (qh (K:=K) rfl) qv0 qa (λ_ _=>rfl)) qc (qm _)) (zr (QR (K:=K) rfl) qv0 xD (xC qa)) qv0))))),_,(by right),λts Qt h=>?_⟩;obtain⟨ds,mv,rfl,hd,q⟩:=h;cases hd with
 |tell a=>
  left;exact q
 |two w hw a b t=>
  rcases hw with rfl|rfl <;>
  ·left
   exact⟨_,rfl,by show ¬(HT.sIx 4 0 none=0/\HT.sIx 4 4 (some 3)=4);decide,_,rfl,q⟩
 |kind a b t=>
  left;exact⟨_,rfl,by show ¬(HT.sIx 4 0 none=0/\HT.sIx 4 4 (some 2)=4);decide,_,rfl,q⟩
 |other w r h1 h2 h4=>
  symm;refine vc at0 ?_;symm;refine qL (λe=>h1 e) ?_;symm;refine vc at0 ?_;symm;refine qR false rfl rfl rfl h2 ?_;symm;refine vc at0 ?_;symm;refine qL (λe=>h4 e) ?_;exact q
abbrev Q2:Stmt:=top 86
theorem scRowDone:q00 ["own","deed","a","b"] ["own","deed"] (qd Q2):=by ac_rfl
def JC:List U->MM->UK->Prop:=λus M Q=>∃(o:Nm)(ws:List Wt)(ps:WW)(ds:List T),us=[.m (o 0),.p (.tup ds)]/\Own M o ws ps/\ps.length<1000 /\
 ((∃ay aj,DeedDo ws ps ds ay aj/\Tame ws ds/\∀M' o',Own M' o' ay aj->Go M M' o o' (ps.length+3) (aj.length+3)->Q (.p (.tup [.str "",.non])) M')\/(∃nm p,DeedNo ws ds nm p/\Q (.p (.tup [.str nm,pT p])) M)\/(∃bU,DeedAsk ws ds bU/\Q (.p (.tup [.str "", bU])) M)\/(∃p,AskNo ws ds p/\Q (.p (.tup [.str "WrongKind",.int p])) M) \/
  ∃(r q p:Nat)(x y:Int),ds=[.str "times",.int (r:Int),.int (q:Int),.int (p:Int)]/\ws[q]?=some (.num x)/\ws[p]?=some (.num y)/\IntMulOk x y/\¬Bt 12000 (x*y)/\Q (.p (.tup [.str "Great",.non])) M)
theorem V9{f:Addr}{fd:FuncData}(F:Fun K "_law_row_done" "_law_row_done" Q2 f fd)(N:Nms mg)(bA:Def P w K mg base "_law_own_ask" 2 ["own","deed"] (spU Vu))(bP:Def P w K mg base "_law_own_do" 3 ["own","deed"] (spU Qq)):FnOk P w K mg base CX0 4 f fd ["own","deed"] (spU JC):=by
 refine F.zU scRowDone (by rintro _ _ _ ⟨_,_,_,_,rfl,_⟩;rfl) (λae A outer s H E hr=>?_);refine⟨_,(qb (qP (qi (zT (K:=K) rfl) (qj (qh (K:=K) rfl) qv1 qa (λ_ _=>rfl)) (qG (qa4 qc qc qc qc)) (by with_unfolding_all rfl)) (qe (qt (qo bA (YH hr) (qa2 qv0 qv1)))) qx) (qb (qP (qi op_eq (qj (qh (K:=K) rfl) qv1 qa (λ_ _=>rfl)) qc (qm _)) (qb (q2w (i:=2) (j:=3) rfl scRowDone.nd rfl rfl (by decide) rfl rfl (qa2 (qj (qf (K:=K) rfl) (qj (qf (K:=K) rfl) qv0 qa (λ_ _=>rfl)) (qj (qh (K:=K) rfl) qv1 qa (λ_ _=>rfl)) (λ_ _=>rfl)) (qj (qf (K:=K) rfl) (qj (qf (K:=K) rfl) qv0 qa (λ_ _=>rfl)) (qj (qh (K:=K) rfl) qv1 qa (λ_ _=>rfl)) (λ_ _=>rfl))) rfl) (qe (qP (Xi (V4 (vJ (qH (vo (K:=K) rfl) (by rfl) N.isinstance qD (qa2 qv2 (vn (v:=.ty "int") (by rfl) N.int VJ rfl)))) (V4 (vJ (qH (vo (K:=K) rfl) (by rfl) N.isinstance qD (qa2 qv3 (vn (v:=.ty "int") (by rfl) N.int VJ rfl)))) (Ve (qi q7s (qH JV (by rfl) N.abs q6A (qa1 (qC Xn qv2 qv3))) (qC q2k qa qa) (qm _)))))) (qe (qt (qu (qa2 qc jw)))) qx))) qx) (qe (qt (qo bP (YH hr) (qa2 qv0 qv1)))))),_,(qy (by right) (qy (zc (by right) (qy (q2s (ql (vW (vW (qr 0) YJ) (jD (qr 1) YJ)) (ql (vW (vW (qr 0) YJ) (jD (qr 1) YJ)) qJ))) (zc (JL (ct_b (JT .int (qr 2))) (JL (ct_b (JT .int (qr 3))) (by right))) (by right) vj)) vj) (by right))),λus M Qu h=>?_⟩;obtain⟨o,ws,ps,ds,rfl,O,hsz,h⟩:=h;have nR:((2^12000:Nat):Int)=(2:Int)^12000:=by simp
 have h2:(∃w r,ds=.str w::r/\askW w true/\Vu [.m (o 0),.p (.tup ds)] M Qu)\/(∃w r,ds=.str w::r/\askW w false/\Qq [.m (o 0),.p (.tup ds)] M Qu/\(w = "times" -> ∃(r' q p:Nat)(x y:Wt),r=[.int (r':Int),.int (q:Int),.int (p:Int)]/\ws[q]?=some x/\ws[p]?=some y/\∀a b,x=.num a->y=.num b->IntMulOk a b/\Bt 12000 (a*b))) \/
   ∃(r q p:Nat)(x y:Int),ds=[.str "times",.int (r:Int),.int (q:Int),.int (p:Int)]/\ws[q]?=some (.num x)/\ws[p]?=some (.num y)/\IntMulOk x y/\¬Bt 12000 (x*y)/\Qu (.p (.tup [.str "Great",.non])) M:=by
  rcases h with⟨ay,aj,hd,ht,q⟩|⟨nm,p,hd,q⟩|⟨bU,hd,q⟩|⟨p,hd,q⟩|h
  ·have ok:Qq [.m (o 0),.p (.tup ds)] M Qu:=⟨o,ws,ps,ds,rfl,O,hsz,.inl ⟨ay,aj,hd,q⟩⟩
   refine .inr (.inl ?_);cases hd with
   |times r qq p a b hr hq hp hm=>
    refine⟨_,_,rfl,by unfold askW;decide,ok,λ_=>⟨r,qq,p,_,_,rfl,hq,hp,λa' b' ea eb=>?_⟩⟩;cases ea;cases eb;exact⟨hm,ht r qq p a b rfl hq hp⟩
   |_=>exact⟨_,_,rfl,by unfold askW;decide,ok,λe=>absurd e (by decide)⟩
  ·have ok:Qq [.m (o 0),.p (.tup ds)] M Qu:=⟨o,ws,ps,ds,rfl,O,hsz,.inr ⟨nm,p,hd,q⟩⟩
   refine .inr (.inl ?_);obtain⟨w',r',e,fU⟩:=hd.word;refine⟨w',r',e,fU,ok,λet=>?_⟩;subst et;cases hd with
   |n1 w hw r qq p x y hr hq hx hp=>
    cases e;exact⟨r,qq,p,x,y,rfl,hq,hp,λa b ea _=>absurd (by rw[ea];rfl) hx⟩
   |n2 w hw r qq p a y hr hq hp hy=>
    cases e;exact⟨r,qq,p,_,y,rfl,hq,hp,λa b _ eb=>absurd (by rw[eb];rfl) hy⟩
   |nz w hw=>cases e;rcases hw with z|z<;>exact absurd z (by decide)
   |p1 w hw=>cases e;rcases hw with z|z<;>exact absurd z (by decide)
   |p2 w hw=>cases e;rcases hw with z|z<;>exact absurd z (by decide)
  ·obtain⟨w',r',e,fU⟩:=hd.word
   exact .inl ⟨w',r',e,fU,o,ws,ps,ds,rfl,O,.inl ⟨bU,hd,q⟩⟩
  ·obtain⟨w',r',e,fU⟩:=hd.word
   exact .inl ⟨w',r',e,fU,o,ws,ps,ds,rfl,O,.inr ⟨p,hd,q⟩⟩
  ·exact .inr (.inr h)
 clear h;rcases h2 with⟨w,r,rfl,hw,q⟩|⟨w,r,rfl,hw,q,mw⟩|⟨r,qq,p,a,b,rfl,hx,hy,hm,hb,q⟩
 ·symm
  refine vc at0 ?_;symm;refine qR true rfl rfl rfl hw ?_;symm;exact q
 ·by_cases ht:w = "times"
  ·subst ht
   obtain⟨r',qq,p,x,y,rfl,hx,hy,hm⟩:=mw rfl;left;refine qM O ?_;left;refine qW O.b hx ?_;refine qM O ?_;left;refine qW O.b hy ?_;rcases jA (x:=x) with⟨a,rfl⟩|hxk
   ·rcases jA (x:=y) with⟨b,rfl⟩|hyk
    ·obtain⟨hm,hb⟩:=hm a b rfl rfl
     simp only[tO];symm;refine⟨hm,⟨by decide,by decide,by decide⟩,?_⟩;refine ite2 (λeF=>?_) (λiQ=>q);exfalso;have hb:(a*b).natAbs<2^12000:=hb;rw[RF,show Int.toNat 12000=12000 from rfl, <-nR]at eF;generalize 2^12000=z at hb eF;split at eF<;>lia
    ·simp only[tO]
     cases y with
     |num b=>exact absurd rfl hyk
     |_=>
      simp only[tO];symm;exact q
   ·cases x with
    |num b=>exact absurd rfl hxk
    |_=>
     simp only[tO];symm;exact q
  ·symm
   refine vc at0 ?_;symm;refine qR false rfl rfl rfl hw ?_;symm;refine vc at0 ?_;symm;refine qL ht ?_;symm;exact q
 ·left
  refine qM O ?_;left;refine qW O.b hx ?_;refine qM O ?_;left;refine qW O.b hy ?_;simp only[tO];symm;refine⟨hm,⟨by decide,by decide,by decide⟩,?_⟩;refine ite2 (λeF=>q) (λiQ=>?_);exfalso;have hb:¬(a*b).natAbs<2^12000:=hb;rw[RF,show Int.toNat 12000=12000 from rfl, <-nR]at iQ;generalize 2^12000=z at hb iQ;split at iQ<;>lia
theorem Own.skip{M:MM}{o:Nm}{ws:List Wt}{ps:WW}{nk:Nat}{x:MO}(O:Own M o ws ps)(h:∀i,i<ps.length+3->o i≠nk):Own (M.set nk x) o ws ps:=O.go λi hi=>Uv (Ne.symm (h i hi))
theorem Sto.skip{C D:Addr}{M:MM}{o:Nm}{ws:List Wt}{ps:WW}{nk:Nat}{x:MO}(O:Sto C D M o ws ps)(h:∀i,i<ps.length+2->o i≠nk):Sto C D (M.set nk x) o ws ps:=O.go λi hi=>Uv (Ne.symm (h i hi))
theorem GoX.put{M:MM}{s:Nm}{n nk:Nat}{x:MO}:GoX M (M.set nk x) s s n n nk:=⟨by rw[UB];exact Ux _,λk _ _ h=>Uv (Ne.symm h),λi hi=>.inl ⟨i,hi,rfl⟩,rfl⟩
def jx(w:Str):Prop:=w ≠ "end" /\ w ≠ "jump" /\ w ≠ "tell" /\ w ≠ "kind" /\ inV (.str w) [.str "below",.str "same"]=false
theorem DeedDo.plain{ws ay:List Wt}{ps aj:WW}{ds:List T}(h:DeedDo ws ps ds ay aj):∃w r,ds=.str w::r/\jx w:=by cases h<;>exact⟨_,_,rfl,by unfold jx;decide⟩
theorem DeedNo.plain{ws:List Wt}{ds:List T}{nm:Str}{p:Option Int}(h:DeedNo ws ds nm p):∃w r,ds=.str w::r/\jx w:=by
 cases h with
 |n1 w hw=>exact⟨_,_,rfl,by unfold jx;rcases hw with rfl|rfl|rfl|rfl|rfl<;>decide⟩
 |n2 w hw=>exact⟨_,_,rfl,by unfold jx;rcases hw with rfl|rfl|rfl|rfl|rfl<;>decide⟩
 |nz w hw=>exact⟨_,_,rfl,by unfold jx;rcases hw with rfl|rfl<;>decide⟩
 |p1 w hw=>exact⟨_,_,rfl,by unfold jx;rcases hw with rfl|rfl<;>decide⟩
 |p2 w hw=>exact⟨_,_,rfl,by unfold jx;rcases hw with rfl|rfl<;>decide⟩
abbrev Q1:Stmt:=top 88
theorem scRowGone:q00 ["own","row","at","news","word","value","leads"] ["own","row","at","news"] (qd Q1):=by ac_rfl
def JB:List U->MM->UK->Prop:=λus M Q=>∃(o:Nm)(ws:List Wt)(ps:WW)(ds:List T)(a nk:Nat)(ls:List U),us=[.m (o 0),.p (.tup ds),.p (.int (a:Int)),.m nk]/\Own M o ws ps/\ps.length<1000/\M[nk]?=some (.lst ls)/\ls.length<1000/\(∀i,i<ps.length+3->o i≠nk) /\
 ((ds=[.str "end"]/\Q (.p (.tup [.tup [.str "end"],.int (a:Int)])) M) \/
  (∃(r q p:Nat)(x y:Int),ds=[.str "times",.int (r:Int),.int (q:Int),.int (p:Int)]/\ws[q]?=some (.num x)/\ws[p]?=some (.num y)/\IntMulOk x y/\¬Bt 12000 (x*y)/\∀L,Q (.p (.tup [.tup [.str "great",.int (a:Int)],.int (a:Int)])) (M++L)) \/
  ∃res,Step ws ps a ds res/\(∀nm p,res=.no nm p->∀L,Q (.p (.tup [Ky p a,.int (a:Int)])) (M++L)) /\
   ∀ay aj a' nw,res=.go ay aj a' nw->∀M' o',Own M' o' ay aj->GoX M M' o o' (ps.length+3) (aj.length+3) nk->M'[nk]?=some (.lst (ls++nw.map U.p))->Q (.p (.tup [.non,.int (a':Int)])) M')
theorem V8{f:Addr}{fd:FuncData}(F:Fun K "_law_row_gone" "_law_row_gone" Q1 f fd)(N:Nms mg)(cv:Def P w K mg base "_law_deed_of" 1 ["row"] (spP WL))(c6:Def P w K mg base "_law_row_done" 4 ["own","deed"] (spU JC)):FnOk P w K mg base CX0 5 f fd ["own","row","at","news"] (spU JB):=by
 refine F.zU scRowGone (by rintro _ _ _ ⟨_,_,_,_,_,_,_,rfl,_⟩;rfl) (λae A outer s H E hr=>?_);refine⟨_,(qb (qP (qi op_eq (qj (qh (K:=K) rfl) qv1 qa (λ_ _=>rfl)) qc (qm _)) (qe (qt (qu (qa2 (qu (qa1 qc)) qv2)))) qx) (qb (qP (qi op_eq (qj (qh (K:=K) rfl) qv1 qa (λ_ _=>rfl)) qc (qm _)) (qe (qt (qu (qa2 jw (qj (qh (K:=K) rfl) qv1 qa (λ_ _=>rfl)))))) qx) (qb (vh (qo c6 (YH hr) (qa2 qv0 (qo cv (YH hr) (qa1 qv1)))) (YD (K:=K) (i:=4) (j:=5) rfl scRowGone.nd rfl rfl rfl Gx Gx Gx Gx)) (qb (qP (qi op_eq qv4 qc (qm _)) (qe (qt (qu (qa2 (qu (qa3 qc qv2 qv5)) qv2)))) qx) (qb (qP (qi jL qv4 qc (qm _)) (qe (qt (qu (qa2 (qu (qa2 (Xj (q4a hr) (YF (xf qc qc (xf qc qc (xf qc qc YB))) rfl rfl (λz=>nomatch z) (by decide)) qv4 (λ_ _=>rfl)) qv2)) qv2)))) qx) (qb (qP (qi op_eq (qj (qh (K:=K) rfl) qv1 qa (λ_ _=>rfl)) qc (qm _)) (qe (vY (q0K PySem.F.slot_list_append PySem.F.type_list_append zZ qv3 (qa1 qv5)))) qx) (qb (qB (i:=6) scRowGone.nd rfl Gx (q78 (Ji (vF (zT (K:=K) rfl) (qj (qh (K:=K) rfl) qv1 qa (λ_ _=>rfl)) (qG (qa2 qc qc)) (by with_unfolding_all rfl)) (V5 qv5)) (V5 (Ji (vF op_eq (qj (qh (K:=K) rfl) qv1 qa (λ_ _=>rfl)) qc (qm _)) (V5 (vF op_eq qv5 (qj (qh (K:=K) rfl) qv1 qa (λ_ _=>rfl)) (qm _))))))) (qe (qt (qu (qa2 jw (vm (vJ qv6) (qj (qh (K:=K) rfl) qv1 (q6K q5o qa) (λ_ _=>rfl)) (qC vq qv2 qa))))))))))))),_,(qy (by right) (qy (by right) (qy (by right) (qy (by right) (qy (zc (by right) (v7 (jC (ql (jC (ql (XZ (Gj (jp Wo Wo (jp Wo Wo (jp Wo Wo q1Z)))) (qr 4)) (by right))) (by right)))) vj) (qy (by right) (qy (vQ (q51 (X0 (ja q2v (jD (qr 1) YJ) (q2o (ql Wo (ql Wo qJ)))) (qr 5)) (X0 (ja Ql (jD (qr 1) YJ) Wo) (ja Ql (qr 5) (jD (qr 1) YJ)))) (ve 6)) (by right)))))))),λus M Qu h=>?_⟩;obtain⟨o,ws,ps,ds,a,nk,ls,rfl,O,hsz,hk,eG,c7,h⟩:=h;have bC:GoX M M o o (ps.length+3) (ps.length+3) nk:=(Go.refl (M:=M) (s:=o) (n:=ps.length+3)).x;rcases h with⟨rfl,q⟩|⟨r,qq,p,x,y,rfl,hx,hy,hm,hb,q⟩|⟨res,hs,qn,qg⟩
 ·left
  exact q
 ·left
  refine⟨_,_,rfl,.other _ _ (by decide) (by decide) (by decide),?_⟩;left;refine⟨o,ws,ps,_,rfl,O,hsz,.inr (.inr (.inr (.inr ⟨r,qq,p,x,y,rfl,hx,hy,hm,hb,?_⟩)))⟩;left;simp only[KY];left;refine⟨qK, [(.inr "Nought",.p (.str "nought")),(.inr "NoRoom",.p (.str "room")),(.inr "Great",.p (.str "great"))],rfl,by show 3<=15;decide,?_⟩;rw[jS];refine jZ (k:=M.length) qK rfl ?_;left;exact q [_]
 ·cases hs with
  |jump t=>
   left;exact qg _ _ _ _ rfl _ _ O bC (by simpa using hk)
  |tell q x hq=>
   left;refine⟨_,_,rfl,.tell _,?_⟩;left;refine⟨o,ws,ps,_,rfl,O,hsz,.inr (.inr (.inl ⟨_,.told q x hq,?_⟩))⟩;left;refine Vq hk ?_;left;refine⟨_,hk,qF (by lia),?_⟩;left;exact qg _ _ _ _ rfl _ _ (O.skip c7) GoX.put (UC (Us.mp hk).1)
  |ask w hw q p t b hd=>
   rcases hw with rfl|rfl
   ·left
    refine⟨_,_,rfl,.two _ (.inl rfl) _ _ _,?_⟩;left;refine⟨o,ws,ps,_,rfl,O,hsz,.inr (.inr (.inl ⟨_,hd,?_⟩))⟩;left;cases b with
    |true=>
     refine qO rfl ?_;refine vc (t:=.int (t:Int)) rfl ?_;left;exact qg _ _ _ _ rfl _ _ O bC (by simpa using hk)
    |false=>
     refine qL (by decide) ?_;refine vc at0 ?_;left;exact qg _ _ _ _ rfl _ _ O bC (by simpa using hk)
   ·left
    refine⟨_,_,rfl,.two _ (.inr rfl) _ _ _,?_⟩;left;refine⟨o,ws,ps,_,rfl,O,hsz,.inr (.inr (.inl ⟨_,hd,?_⟩))⟩;left;cases b with
    |true=>
     refine qO rfl ?_;refine vc (t:=.int (t:Int)) rfl ?_;left;exact qg _ _ _ _ rfl _ _ O bC (by simpa using hk)
    |false=>
     refine qL (by decide) ?_;refine vc at0 ?_;left;exact qg _ _ _ _ rfl _ _ O bC (by simpa using hk)
  |kind q t x kd hq=>
   left;refine⟨_,_,rfl,.kind _ _ _,?_⟩;left;refine⟨o,ws,ps,_,rfl,O,hsz,.inr (.inr (.inl ⟨_,.kind q x hq,?_⟩))⟩;left;have qq:=qg _ _ _ _ rfl _ _ O bC (by simpa using hk);by_cases e9:vf x=kd
   ·refine qO e9 ?_
    refine vc (t:=.int (t:Int)) rfl ?_;left;rw[GL (Ul e9)]at qq;exact qq
   ·refine qL e9 ?_
    rw[GH (by rw[GI e9];decide)]at qq;exact qq
  |askno q p t pp hd=>
   left;refine⟨_,_,rfl,.two _ (.inl rfl) _ _ _,?_⟩;left;refine⟨o,ws,ps,_,rfl,O,hsz,.inr (.inr (.inr (.inl ⟨_,hd,?_⟩)))⟩;left;have:=qn _ _ rfl [];rw[U2]at this;exact this
  |deed _ ay aj hd ht hl=>
   obtain⟨w,r,rfl,p1,p2,p3,p4,p5⟩:=hd.plain;symm;refine vc at0 ?_;symm;refine qL p1 ?_;symm;refine vc at0 ?_;symm;refine qL p2 ?_;symm;refine⟨_,_,rfl,.other _ _ p3 p5 p4,?_⟩;symm;refine⟨o,ws,ps,_,rfl,O,hsz,.inl ⟨ay,aj,hd,ht,λM' o' O' g=>?_⟩⟩;left;refine vc at0 ?_;symm;refine qL p3 ?_;symm;refine vc at0 ?_;symm;refine qR false rfl rfl rfl p5 ?_;symm;refine vc at0 ?_;symm;refine qL p4 ?_;exact qg _ _ _ _ rfl _ _ O' g.x (by rw[g.fr _ (Us.mp hk).1 λi hi e=>c7 i hi e.symm];simpa using hk)
  |no _ nm p hd=>
   have two:=(Step.no (ps:=ps) (a:=a) ds nm p hd).two;have rS:=hd;obtain⟨w,r,rfl,p1,p2,p3,p4,p5⟩:=hd.plain;symm;refine vc at0 ?_;symm;refine qL p1 ?_;symm;refine vc at0 ?_;symm;refine qL p2 ?_;symm;refine⟨_,_,rfl,.other _ _ p3 p5 p4,?_⟩;symm;refine⟨o,ws,ps,_,rfl,O,hsz,.inr (.inl ⟨nm,p,rS,?_⟩)⟩;rcases two with⟨rfl,v,rfl⟩|⟨rfl,rfl⟩
   ·left
    have:=qn _ _ rfl [];rw[U2]at this;exact this
   ·left
    simp only[KY];left;refine⟨qK, [(.inr "Nought",.p (.str "nought")),(.inr "NoRoom",.p (.str "room")),(.inr "Great",.p (.str "great"))],rfl,by show 3<=15;decide,?_⟩;rw[jS];refine jZ (k:=M.length) qK rfl ?_;left;exact qn _ _ rfl [_]
def wsN:List Wt:=List.replicate 8 (.one "none")
theorem wok_new:WOk wsN []:=⟨rfl,λx hx=>by rw[Rl hx];trivial,λx hx=>by simp at hx⟩
theorem ZN{m:Nat}:szL m wsN []:=⟨λx hx=>by rw[Rl hx];trivial,λx hx=>by simp at hx⟩
def oF(n:Nat):Nm:=λi=>if i=0 then n+2 else n+i-1
theorem DeedDo.grow{ws ay:List Wt}{ps aj:WW}{ds:List T}(h:DeedDo ws ps ds ay aj):aj.length<=ps.length+1:=by
 cases h with
 |pair=>rw[Uu];exact Ux _
 |setL|setR=>rw[UB];lia
 |_=>lia
theorem Step.more{ws ay:List Wt}{ps aj:WW}{a a':Nat}{ds nw:List T}(h:Step ws ps a ds (.go ay aj a' nw)):nw.length<=1/\aj.length<=ps.length+1:=by
 cases h with
 |deed _ _ _ h=>exact⟨Db _,h.grow⟩
 |_=>exact⟨by simp,by lia⟩
abbrev Ym:Stmt:=top 90
theorem q4C:q00 [] [] (qd Ym):=by ac_rfl
def Zn:List U->MM->UK->Prop:=λus M Q=>us=[]/\Q (.m (M.length+2)) (M++[ol wsN,.lst [],.lst [.m M.length,.m (M.length+1)]])
theorem Xm{M:MM}:Own (M++[ol wsN,.lst [],.lst [.m M.length,.m (M.length+1)]]) (oF M.length) wsN []:=by
 have g:∀{k:Nat}{L:List MO},(M++L)[M.length+k]?=L[k]?:=λ{k L}=>by rw[UM (by lia)];congr 1;lia
 refine⟨?_,?_,?_,λi x h=>by simp at h,rfl,λi j hi hj z=>?_,wok_new.ww,wok_new.wp⟩
 ·exact g
 ·show(M++_)[M.length+1-1]?=_
  exact g (k:=0)
 ·show(M++_)[M.length+2-1]?=_
  exact g (k:=1)
 ·unfold oF at z
  have hi:i<3:=hi;have hj:j<3:=hj;split at z<;>split at z<;>lia
theorem Y9{f:Addr}{fd:FuncData}(F:Fun K "_law_fresh" "_law_fresh" Ym f fd)(N:Nms mg):FnOk P w K mg base CX0 1 f fd [] (spU Zn):=by
 refine F.zU q4C (λus M Qu h=>?_) (λae A outer s H E hr=>?_)
 ·rw[h.1];rfl
 refine⟨_,(qe (qt (qG (qa2 (qC q1L (qG (qa1 qc)) qa) (qG vD))))),_,(v7 (kU (ql (Zx (by right) (by right)) (ql (kU qJ) qJ)))),λus M Qu h=>?_⟩;obtain⟨rfl,q⟩:=h;symm;refine Yp (by decide) (by decide) (by decide) ?_;symm;have q2:Qu (.m (M.length+2)) (M++[ol wsN]++[MO.lst []]++[MO.lst [.m M.length,.m (M.length+1)]]):=by simpa using q
 show Qu (.m (M++[ol wsN]++[MO.lst []]).length) (M++[ol wsN]++[MO.lst []]++[MO.lst [.m M.length,.m (M++[ol wsN]).length]]);rw[Uu,Uu];exact q2
abbrev q2I:Stmt:=top 89
theorem scWalk:q00 ["own","script","most","at","news","gone","end"] ["own","script","most"] (qd q2I):=by ac_rfl
theorem zD{M L:MM}{k:Nat}(h:k<M.length):(M++L)[k]?=M[k]?:=Uz h
def q53(M:MM)(o:Nm)(n0:Nat)(e:T)(ns:List T)(az:List Wt)(ar:WW)(Q:UK):Prop:=∀M' o' k nk,Own M' o' az ar->Go M M' o o' n0 (ar.length+3)->M.length<=k->M.length<=nk->M'[k]?=some (.tup [.p e,.m nk])->M'[nk]?=some (.lst (ns.map U.p))->Q (.m k) M'
theorem jQ{M M':MM}{o o1:Nm}{n0:Nat}{e:T}{bQ:List T}{aQ:List Wt}{aq:WW}{Q:UK}(q:q53 M o n0 e (bQ++[]) aQ aq Q)(O1:Own M' o1 aQ aq)(g1:Go M M' o o1 n0 (aq.length+3))(hk:M'[M.length]?=some (.lst (bQ.map U.p)))(L:List MO):Q (.m (M'++L).length) (M'++L++[.tup [.p e,.m M.length]]):=by
 rw[U2]at q;have l:=g1.len;refine q _ o1 _ M.length (O1.go λi hi=>?_) (g1.trans ?_) (by rw[Uu];lia) (Ux _) qK ?_
 ·rw[UN];exact zD (O1.lt hi)
 ·rw[UN];exact Go.ap
 ·rw[UN,zD (Us.mp hk).1];exact hk
def q0f:List U->MM->UK->Prop:=λus M Q=>∃(o:Nm)(ws:List Wt)(ps:WW)(rows:List (List T))(n:Nat)(e:T)(ns:List T)(az:List Wt)(ar:WW),us=[.m (o 0),.p (.lst (rows.map T.tup)),.p (.int (n:Int))]/\Own M o ws ps/\n<=400/\ps.length+n<=1000/\Walk rows True n ws ps 0 e ns az ar/\q53 M o (ps.length+3) e ns az ar Q
theorem q0c{f:Addr}{fd:FuncData}(F:Fun K "_law_walk" "_law_walk" q2I f fd)(N:Nms mg)(c8:Def P w K mg base "_law_row_gone" 5 ["own","row","at","news"] (spU JB)):FnOk P w K mg base CX0 6 f fd ["own","script","most"] (spU q0f):=by
 refine F.zU scWalk (by rintro _ _ _ ⟨_,_,_,_,_,_,_,_,_,rfl,_⟩;rfl) (λae A outer s H E hr=>?_);refine⟨_,(qb (qB (i:=3) scWalk.nd rfl Gx qa) (qb (qB (i:=4) scWalk.nd rfl Gx (qG vD)) (qb (xp PassesOwn.never rfl (vK rfl N.range (qa1 qv2)) (vb (i:=5) scWalk.nd rfl Gx) (qb (vh (qo c8 (YH hr) (qa4 qv0 (qj (qf (K:=K) rfl) qv1 qv3 (λ_ _=>rfl)) qv3 qv4)) (YD (K:=K) (i:=6) (j:=3) rfl scWalk.nd rfl rfl rfl Gx Gx Gx Gx)) (qe (qP (qi q3Y qv6 jw (qm _)) (qe (qt (qu (qa2 qv6 qv4)))) qx)))) (qe (qt (qu (qa2 (qu (qa2 qc qv3)) qv4))))))),_,(qy (by right) (qy (vQ (kU qJ) (ve 4)) (qy (kS (by right) (ve 5) (qy (by right) (zc (by right) (v7 (jr (by right))) vj))) (v7 (jr (by right)))))),λus M Qu h=>?_⟩;obtain⟨o,ws,ps,rows,n,e,ns,az,ar,rfl,O,hn,hl,W,q⟩:=h;symm;refine jv (by lia) (by lia) ?_;refine xJ (λi ρ M'=>∃o1 aQ aq a bQ dS x5 x6,ρ=[some (.m (o 0)),some (.p (.lst (rows.map T.tup))),some (.p (.int (n:Int))),some (.p (.int ((a:Nat):Int))),some (.m M.length),x5,x6]/\Own M' o1 aQ aq/\Go M M' o o1 (ps.length+3) (aq.length+3)/\M'[M.length]?=some (.lst (bQ.map U.p))/\(∀j,j<aq.length+3->o1 j≠M.length)/\bQ.length<=i/\aq.length<=ps.length+i/\ns=bQ++dS/\Walk rows True (n-i) aQ aq a e dS az ar)
  ⟨o,ws,ps,0, [],ns,_,_,rfl,O.go λi hi=>ze (O.lt hi),Go.ap,qK,λj hj e=>by have:=O.lt hj;lia,Ux _,by lia,rfl,W⟩ ?_ ?_
 ·rintro i ρ M' hi ⟨o1,aQ,aq,a,bQ,dS,x5,x6,rfl,O1,g1,hk,c7,cR,mx,rfl,W1⟩
  have hi:i<n:=by simpa using hi
  obtain⟨m,hm⟩:∃m,n-i=m+1:=⟨n-i-1,by lia⟩;rw[hm]at W1;symm;have row:∀{ds:List T},rows[a]?=some ds->atI (rows.map T.tup) (a:Int)=some (.tup ds):=λh=>zd (by rw[UW,h];rfl);have dU:aq.length<1000:=by lia
  have eG:(bQ.map U.p).length<1000:=by rw[Uw];lia
  cases W1 with
  |endd _ _ _ _ h=>
   refine qX (row h) ?_;symm;refine⟨o1,_,_,_,a,M.length,bQ.map U.p,by rw[g1.z],O1,dU,hk,eG,c7,.inl ⟨rfl,?_⟩⟩;symm;have:=jQ q O1 g1 hk [];rwa [U2]at this
  |great _ _ _ _ r qq p x y _ h hx hy hm hb=>
   refine qX (row h) ?_;symm;refine⟨o1,_,_,_,a,M.length,bQ.map U.p,by rw[g1.z],O1,dU,hk,eG,c7,.inr (.inl ⟨r,qq,p,x,y,rfl,hx,hy,hm,hb,λL=>?_⟩)⟩;symm;exact jQ q O1 g1 hk L
  |no _ _ _ _ ds nm p h s=>
   refine qX (row h) ?_;symm;refine⟨o1,_,_,_,a,M.length,bQ.map U.p,by rw[g1.z],O1,dU,hk,eG,c7,.inr (.inr ⟨_,s,λgZ p' e L=>?_,λ_ _ _ _ e=>by cases e⟩)⟩;cases e;have f:=jQ q O1 g1 hk L;rcases s.two with⟨_,v,rfl⟩|⟨_,rfl⟩
   ·simp only[Ky]at f ⊢
    symm;exact f
   ·simp only[Ky]at f ⊢
    symm;exact f
  |go _ _ _ _ ds gq gr a3 nw _ ns3 _ _ h s r=>
   refine qX (row h) ?_;symm;refine⟨o1,_,_,_,a,M.length,bQ.map U.p,by rw[g1.z],O1,dU,hk,eG,c7,.inr (.inr ⟨_,s,(λgZ p' e L=>by cases e),λay aj a' rT e M3 o3 O3 g3 my=>?_⟩)⟩;cases e;symm;have h1:=s.more;refine⟨o3,gq,gr,a3,bQ++nw,ns3,_,_,rfl,O3,g1.thenX g3 (Ux _),by rw[my,U7],g3.out (Us.mp hk).1 c7,by rw[Uu];lia,by lia,by rw[UN],by rw[show n-(i+1)=m by lia];exact r⟩
 ·rintro ρ M' ⟨o1,aQ,aq,a,bQ,dS,x5,x6,rfl,O1,g1,hk,c7,cR,mx,rfl,W1⟩
  have W1:Walk rows True (n-n) aQ aq a e dS az ar:=W1;rw[Dh]at W1;symm;cases W1;have:=jQ q O1 g1 hk [];rwa [U2]at this
local macro_rules|`(tactic|walk_at "vx")=>`(tactic|simp only[zx,jG,jF,zu,vX,uTry,zy,zw,jI,jJ,endX,zR,QK,uX0,jH])
abbrev zN:Stmt:=top 59
theorem QZ:q00 ["store","word","r","worth"] ["store","word","r","worth"] (qd zN):=by ac_rfl
def Zi(C D:Addr)(n:Nat)(rV:List Str):List U->MM->UK->UX->Prop:=λus M Q X=>∃(s:Nm)(ws:List Wt)(ps:WW)(w:Str)(r:List T),us=.m (s 0):: .p (.str w)::r.map U.p/\r.length=n/\Sto C D M s ws ps/\w∈rV/\Call C D (s 0) M (λ_ M'=>Q (.p .non) M') X (.str w::r)
def VO:List Str:=["number","sign","one"]
def twoW:List Str:=["copy","first","second","set_first","set_second"]
def K4:List Str:=["plus","less","times","over","rest","pair"]
theorem k7{C D:Addr}{f:Addr}{fd:FuncData}(F:Fun K "do_with_worth" "do_with_worth" zN f fd)(N:Nms mg)(aB:Cls K C)(aO:MD P w K mg base C "number" 1 ["r","n"] (Zl C D))(bp:MD P w K mg base C "sign" 1 ["r","k"] (JD C D))(bM:MD P w K mg base C "one" 1 ["r","text"] (Zl C D)):FnOk P w K mg base CX0 2 f fd ["store","word","r","worth"] (spU λus M Q=>Zi C D 2 VO us M Q λ_ _ _=>False):=by
 refine F.zU QZ (λus M Qu h=>?_) (λae A outer s H E hr=>?_)
 ·obtain⟨_,_,_,_,r,rfl,hn,_⟩:=h
  rw[UL,UL,Uw,hn];rfl
 refine⟨_,(qe (qP (qi op_eq qv1 qc (qm _)) (qe (vY (vd aO aB qv0 (YH hr) (qa2 qv2 qv3)))) (qe (qP (qi op_eq qv1 qc (qm _)) (qe (vY (vd bp aB qv0 (YH hr) (qa2 qv2 qv3)))) (qe (vY (vd bM aB qv0 (YH hr) (qa2 qv2 qv3)))))))),_,(by right),λus M Qu h=>?_⟩;obtain⟨s,ws,ps,w,r,rfl,hn,S,hw,hc⟩:=h
 match r,hn with
 | [a,b],_=>
 simp only[VO,UQ,UY,GS]at hw;rcases hw with rfl|rfl|rfl
 ·cases hc with
  |number a b h=>
   left;refine mS S (by decide) ?_;left;exact h
 ·cases hc with
  |sign a b h=>
   left;refine mS S (by decide) ?_;left;exact h
 ·cases hc with
  |one a b h=>
   left;refine mS S (by decide) ?_;left;exact h
abbrev ji:Stmt:=top 60
theorem ZU:q00 ["store","word","one","other"] ["store","word","one","other"] (qd ji):=by ac_rfl
theorem V7{C D:Addr}{f:Addr}{fd:FuncData}(F:Fun K "do_with_two" "do_with_two" ji f fd)(N:Nms mg)(aB:Cls K C)(bq:MD P w K mg base C "copy" 1 ["r","q"] (JG C D))(aU:MX P w K mg base C "first" 5 ["r","q"] (gPGet C D Prod.fst))(aP:MX P w K mg base C "second" 5 ["r","q"] (gPGet C D Prod.snd))(aH:MX P w K mg base C "set_first" 5 ["q","p"] (gPSet C D putL))(aE:MX P w K mg base C "set_second" 5 ["q","p"] (gPSet C D putR)):FnOk P w K mg base (CXe P w) 6 f fd ["store","word","one","other"] (spX mg (Zi C D 2 twoW)):=by
 refine F.zX ZU (λus M Qu Xu h=>?_) (λae A outer s H E hr=>?_)
 ·obtain⟨_,_,_,_,r,rfl,hn,_⟩:=h
  rw[UL,UL,Uw,hn];rfl
 refine⟨_,(qw (vR (qi op_eq qv1 qc (qm _)) (qw (vS (vY (vd bq aB qv0 (YH hr) (qa2 qv2 qv3))))) (qw (vR (qi op_eq qv1 qc (qm _)) (qw (vg (qY qv0 aB aU (YH hr) (qa2 qv2 qv3)))) (qw (vR (qi op_eq qv1 qc (qm _)) (qw (vg (qY qv0 aB aP (YH hr) (qa2 qv2 qv3)))) (qw (vR (qi op_eq qv1 qc (qm _)) (qw (vg (qY qv0 aB aH (YH hr) (qa2 qv2 qv3)))) (qw (vg (qY qv0 aB aE (YH hr) (qa2 qv2 qv3)))))))))))),_,(by right),λus M Qu Xu h=>?_⟩;obtain⟨s,ws,ps,w,r,rfl,hn,S,hw,hc⟩:=h
 match r,hn with
 | [a,b],_=>
 cases hc with
 |copy a b h=>
  left;refine mS S (by decide) ?_;left;exact h
 |first a b h=>
  left;refine mS S (by decide) ?_;left;exact h.imp λnm p M' q=>⟨_,_,_,rfl,rfl,q⟩
 |second a b h=>
  left;refine mS S (by decide) ?_;left;exact h.imp λnm p M' q=>⟨_,_,_,rfl,rfl,q⟩
 |setL a b h=>
  left;refine mS S (by decide) ?_;left;exact h.imp λnm p M' q=>⟨_,_,_,rfl,rfl,q⟩
 |setR a b h=>
  left;refine mS S (by decide) ?_;left;exact h.imp λnm p M' q=>⟨_,_,_,rfl,rfl,q⟩
 |_=>exact absurd hw (by decide)
abbrev zO:Stmt:=top 61
theorem Q0:q00 ["store","word","r","q","p"] ["store","word","r","q","p"] (qd zO):=by ac_rfl
theorem k8{C D:Addr}{f:Addr}{fd:FuncData}(F:Fun K "do_with_three" "do_with_three" zO f fd)(N:Nms mg)(aB:Cls K C)(br:MX P w K mg base C "plus" 5 ["r","q","p"] (gP3 C D q1q))(bt:MX P w K mg base C "less" 5 ["r","q","p"] (gP3 C D q0p))(aT:MX P w K mg base C "times" 5 ["r","q","p"] (gP3 C D Jo))(bu:MX P w K mg base C "over" 5 ["r","q","p"] (gP3D C D q0F))(bv:MX P w K mg base C "rest" 5 ["r","q","p"] (gP3D C D q0I))(bw:MD P w K mg base C "pair" 3 ["r","q","p"] (JF C D)):FnOk P w K mg base (CXe P w) 6 f fd ["store","word","r","q","p"] (spX mg (Zi C D 3 K4)):=by
 refine F.zX Q0 (λus M Qu Xu h=>?_) (λae A outer s H E hr=>?_)
 ·obtain⟨_,_,_,_,r,rfl,hn,_⟩:=h
  rw[UL,UL,Uw,hn];rfl
 refine⟨_,(qw (vR (qi op_eq qv1 qc (qm _)) (qw (vg (qY qv0 aB br (YH hr) (qa3 qv2 qv3 qv4)))) (qw (vR (qi op_eq qv1 qc (qm _)) (qw (vg (qY qv0 aB bt (YH hr) (qa3 qv2 qv3 qv4)))) (qw (vR (qi op_eq qv1 qc (qm _)) (qw (vg (qY qv0 aB aT (YH hr) (qa3 qv2 qv3 qv4)))) (qw (vR (qi op_eq qv1 qc (qm _)) (qw (vg (qY qv0 aB bu (YH hr) (qa3 qv2 qv3 qv4)))) (qw (vR (qi op_eq qv1 qc (qm _)) (qw (vg (qY qv0 aB bv (YH hr) (qa3 qv2 qv3 qv4)))) (qw (vS (vY (vd bw aB qv0 (YH hr) (qa3 qv2 qv3 qv4))))))))))))))),_,(by right),λus M Qu Xu h=>?_⟩;obtain⟨s,ws,ps,w,r,rfl,hn,S,hw,hc⟩:=h
 match r,hn with
 | [a,b,c],_=>
 cases hc with
 |pair a b c h=>
  left;refine mS S (by decide) ?_;left;exact h
 |plus a b c h=>
  left;refine mS S (by decide) ?_;left;exact h.imp λnm p M' q=>⟨_,_,_,rfl,rfl,q⟩
 |less a b c h=>
  left;refine mS S (by decide) ?_;left;exact h.imp λnm p M' q=>⟨_,_,_,rfl,rfl,q⟩
 |times a b c h=>
  left;refine mS S (by decide) ?_;left;exact h.imp λnm p M' q=>⟨_,_,_,rfl,rfl,q⟩
 |over a b c h=>
  left;refine mS S (by decide) ?_;left;exact h.imp λnm p M' q=>⟨_,_,_,rfl,rfl,q⟩
 |rest a b c h=>
  left;refine mS S (by decide) ?_;left;exact h.imp λnm p M' q=>⟨_,_,_,rfl,rfl,q⟩
theorem Call.imp{C D:Addr}{k:Nat}{M:MM}{Q:UK}{X X':UX}{ds:List T}(h:Call C D k M Q X ds)(hx:∀nm p M',X nm p M'->X' nm p M'):Call C D k M Q X' ds:=by
 cases h with
 |number a b h=>exact .number a b h
 |sign a b h=>exact .sign a b h
 |one a b h=>exact .one a b h
 |copy a b h=>exact .copy a b h
 |pair a b c h=>exact .pair a b c h
 |same a b h=>exact .same a b h
 |kind a h=>exact .kind a h
 |told a h=>exact .told a h
 |plus a b c h=>exact .plus a b c (h.imp hx)
 |less a b c h=>exact .less a b c (h.imp hx)
 |times a b c h=>exact .times a b c (h.imp hx)
 |over a b c h=>exact .over a b c (h.imp hx)
 |rest a b c h=>exact .rest a b c (h.imp hx)
 |first a b h=>exact .first a b (h.imp hx)
 |second a b h=>exact .second a b (h.imp hx)
 |setL a b h=>exact .setL a b (h.imp hx)
 |setR a b h=>exact .setR a b (h.imp hx)
 |below a b h=>exact .below a b (h.imp hx)
abbrev Xa:Stmt:=top 62
theorem scDoDeed:q00 ["store","row","word"] ["store","row"] (qd Xa):=by ac_rfl
def WK(C D:Addr):List U->MM->UK->UX->Prop:=λus M Q X=>∃(s:Nm)(ws:List Wt)(ps:WW)(ds:List T),us=[.m (s 0),.p (.tup ds)]/\Sto C D M s ws ps/\Call C D (s 0) M (λ_ M'=>Q (.p .non) M') X ds/\∃w r,ds=.str w::r/\askW w false
theorem Xs{C D:Addr}{f:Addr}{fd:FuncData}(F:Fun K "do_deed" "do_deed" Xa f fd)(N:Nms mg)(aZ:Def P w K mg base "do_with_worth" 2 ["store","word","r","worth"] (spU λus M Q=>Zi C D 2 VO us M Q λ_ _ _=>False))(bE:DefX P w K mg base "do_with_two" 6 ["store","word","one","other"] (spX mg (Zi C D 2 twoW)))(b5:DefX P w K mg base "do_with_three" 6 ["store","word","r","q","p"] (spX mg (Zi C D 3 K4))):FnOk P w K mg base (CXe P w) 7 f fd ["store","row"] (spX mg (WK C D)):=by
 refine F.zX scDoDeed (by rintro _ _ _ _ ⟨_,_,_,_,rfl,_⟩;rfl) (λae A outer s H E hr=>?_);refine⟨_,(qA (vS (qB (i:=2) scDoDeed.nd rfl Gx (qj (qh (K:=K) rfl) qv1 qa (λ_ _=>rfl)))) (qw (vR (qi (zT (K:=K) rfl) qv2 (qu (qa3 qc qc qc)) (by with_unfolding_all rfl)) (qw (vS (vY (qo aZ (YH hr) (qa4 qv0 qv2 (qj (qh (K:=K) rfl) qv1 qa (λ_ _=>rfl)) (qj (qh (K:=K) rfl) qv1 qa (λ_ _=>rfl))))))) (qw (vR (qi op_eq (qH (xm (K:=K) rfl) (by rfl) N.len Qe (qa1 qv1)) qa (qm _)) (qw (vg (vI bE (YH hr) (qa4 qv0 qv2 (qj (qh (K:=K) rfl) qv1 qa (λ_ _=>rfl)) (qj (qh (K:=K) rfl) qv1 qa (λ_ _=>rfl)))))) (qw (vg (vI b5 (YH hr) (qa_c qv0 (qa4 qv2 (qj (qh (K:=K) rfl) qv1 qa (λ_ _=>rfl)) (qj (qh (K:=K) rfl) qv1 qa (λ_ _=>rfl)) (qj (qh (K:=K) rfl) qv1 qa (λ_ _=>rfl)))))))))))),_,(qy (by right) (zc (by right) (by right) (zc (jo (ja Ql (q4s (qr 1)) (by right))) (by right) (by right)))),λus M Qu Xu h=>?_⟩;obtain⟨s,ws,ps,ds,rfl,S,hc,w,r,e,hw⟩:=h;have mz:∀{w:Str}{r:List T},ds=.str w::r->r.length=2->w∈VO->Call C D (s 0) M (λ_ M'=>Qu (.p .non) M') (λ_ _ _=>False) ds->Zi C D 2 VO (.m (s 0):: .p (.str w)::r.map U.p) M (λ_ M'=>Qu (.p .non) M') λ_ _ _=>False:=λ{w r} e hn hw h=>⟨s,ws,ps,w,r,rfl,hn,S,hw,by rw[<-e];exact h⟩;have nS:∀{w:Str}{r:List T}{n:Nat}{l:List Str}{X:UX},ds=.str w::r->r.length=n->w∈l->(∀nm p M',Xu nm p M'->X nm p M')->Zi C D n l (.m (s 0):: .p (.str w)::r.map U.p) M (λ_ M'=>Qu (.p .non) M') X:=λ{w r n l X} e hn hw hx=>⟨s,ws,ps,w,r,rfl,hn,S,hw,by rw[<-e];exact hc.imp hx⟩;have gf:=hc;cases gf with
 |number a b h=>
  left;exact mz rfl rfl (by decide) (.number _ _ h)
 |sign a b h=>
  left;exact mz rfl rfl (by decide) (.sign _ _ h)
 |one a b h=>
  left;exact mz rfl rfl (by decide) (.one _ _ h)
 |copy|first|second|setL|setR=>
  left;refine⟨_,rfl,?_⟩;left;refine nS (l:=twoW) rfl rfl (by decide) ?_;exact λnm p M' q=>⟨_,_,_,rfl,rfl,q⟩
 |plus|less|times|over|rest|pair=>
  left;refine⟨_,rfl,?_⟩;left;refine nS (l:=K4) rfl rfl (by decide) ?_;exact λnm p M' q=>⟨_,_,_,rfl,rfl,q⟩
 |same|kind|told|below=>
  cases e;exact absurd hw (by unfold askW;decide)
abbrev Yl:Stmt:=top 63
theorem q4d:q00 ["store","row"] ["store","row"] (qd Yl):=by ac_rfl
def q2d(C D:Addr):List U->MM->UK->UX->Prop:=λus M Q X=>∃(s:Nm)(ws:List Wt)(ps:WW)(ds:List T),us=[.m (s 0),.p (.tup ds)]/\Sto C D M s ws ps /\
 ((∃(w:Str)(q p t:Nat)(b:Bool),(w = "below" \/ w = "same")/\ds=[.str w,.int (q:Int),.int (p:Int),.int (t:Int)]/\DeedAsk ws [.str w,.int (q:Int),.int (p:Int)] (.bl b)/\Q (.p (.bl b)) M) \/
  (∃(q:Nat)(t:T)(x:Wt)(kd:Str),ds=[.str "kind",.int (q:Int),.str kd,t]/\ws[q]?=some x/\Q (.p (.bl (decide (vf x=kd)))) M) \/
  ∃(q p:Nat)(t:T)(pp:Int),ds=[.str "below",.int (q:Int),.int (p:Int),t]/\AskNo ws [.str "below",.int (q:Int),.int (p:Int)] pp/\X "WrongKind" (some pp) M)
theorem Y8{C D:Addr}{f:Addr}{fd:FuncData}(F:Fun K "holds" "holds" Yl f fd)(N:Nms mg)(aB:Cls K C)(aV:MX P w K mg base C "below" 5 ["q","p"] (gPBelow C D))(bx:MD P w K mg base C "same" 1 ["q","p"] (JE C D))(aC:MD P w K mg base C "kind" 2 ["q"] (Qp C D)):FnOk P w K mg base (CXe P w) 6 f fd ["store","row"] (spX mg (q2d C D)):=by
 refine F.zX q4d (by rintro _ _ _ _ ⟨_,_,_,_,rfl,_⟩;rfl) (λae A outer s H E hr=>?_);refine⟨_,(qA (vR (qi op_eq (qj (qh (K:=K) rfl) qv1 qa (λ_ _=>rfl)) qc (qm _)) (qw (zA (qY qv0 aB aV (YH hr) (qa2 (qj (qh (K:=K) rfl) qv1 qa (λ_ _=>rfl)) (qj (qh (K:=K) rfl) qv1 qa (λ_ _=>rfl)))))) vC) (qA (vS (qP (qi op_eq (qj (qh (K:=K) rfl) qv1 qa (λ_ _=>rfl)) qc (qm _)) (qe (qt (vd bx aB qv0 (YH hr) (qa2 (qj (qh (K:=K) rfl) qv1 qa (λ_ _=>rfl)) (qj (qh (K:=K) rfl) qv1 qa (λ_ _=>rfl)))))) qx)) (qw (vS (qt (vF op_eq (vd aC aB qv0 (YH hr) (qa1 (qj (qh (K:=K) rfl) qv1 qa (λ_ _=>rfl)))) (qj (qh (K:=K) rfl) qv1 qa (λ_ _=>rfl)) (qm _))))))),_,(by right),λus M Qu Xu h=>?_⟩;obtain⟨s,ws,ps,ds,rfl,S,h⟩:=h;rcases h with⟨w,q,p,t,b,hw,rfl,hd,k⟩|⟨q,t,x,kd,rfl,hx,k⟩|⟨q,p,t,pp,rfl,hd,k⟩
 ·rcases hw with rfl|rfl
  ·left
   refine mS S (by decide) ?_;left;cases hd with
   |below _ _ a b hq hp=>exact⟨s,ws,ps,q,p,_,_,rfl,S,hq,hp,k⟩
  ·left
   refine mS S (by decide) ?_;left;cases hd with
   |same _ _ x y hq hp=>exact⟨s,ws,ps,q,p,_,_,rfl,S,hq,hp,k⟩
 ·left
  refine mS S (by decide) ?_;left;refine⟨s,ws,ps,q,_,rfl,S,hx,?_⟩;left;exact k
 ·left
  refine mS S (by decide) ?_;left;refine gPBelow.imp ?_ λnm p M' q=>⟨_,_,_,rfl,rfl,q⟩;cases hd with
  |b1 _ _ x y hq hx hp=>exact⟨s,ws,ps,q,p,_,_,rfl,S,hq,hp,zY hx k⟩
  |b2 _ _ a y hq hp hy=>exact⟨s,ws,ps,q,p,_,_,rfl,S,hq,hp,zW hy k⟩
theorem DeedDo.three{ws ay:List Wt}{ps aj:WW}{w:Str}{r:List T}(h:DeedDo ws ps (.str w::r) ay aj):inV (.str w) [.str "below",.str "same",.str "kind"]=false:=by cases h<;>decide
theorem DeedNo.three{ws:List Wt}{w:Str}{r:List T}{nm:Str}{p:Option Int}(h:DeedNo ws (.str w::r) nm p):inV (.str w) [.str "below",.str "same",.str "kind"]=false:=by
 cases h with
 |n1 w hw=>rcases hw with rfl|rfl|rfl|rfl|rfl<;>decide
 |n2 w hw=>rcases hw with rfl|rfl|rfl|rfl|rfl<;>decide
 |nz w hw=>rcases hw with rfl|rfl<;>decide
 |p1 w hw=>rcases hw with rfl|rfl<;>decide
 |p2 w hw=>rcases hw with rfl|rfl<;>decide
abbrev jg:Stmt:=top 64
theorem scRowBehind:q00 ["store","row","at","news","word"] ["store","row","at","news"] (qd jg):=by ac_rfl
def WN(C D:Addr):List U->MM->UK->UX->Prop:=λus M Q X=>∃(s:Nm)(ws:List Wt)(ps:WW)(ds:List T)(a nk:Nat)(ls:List U)(res:Res),us=[.m (s 0),.p (.tup ds),.p (.int (a:Int)),.m nk]/\Sto C D M s ws ps/\M[nk]?=some (.lst ls)/\ls.length<1000/\(∀i,i<ps.length+2->s i≠nk)/\Step ws ps a ds res/\(∀nm p,res=.no nm p->X nm p M) /\
   ∀ay aj a' nw,res=.go ay aj a' nw->∀M' s',Sto C D M' s' ay aj->GoX M M' s s' (ps.length+2) (aj.length+2) nk->M'[nk]?=some (.lst (ls++nw.map U.p))->Q (.p (.int (a':Int))) M'
theorem Ko{C D:Addr}{f:Addr}{fd:FuncData}(F:Fun K "row_behind" "row_behind" jg f fd)(N:Nms mg)(aB:Cls K C)(cZ:DefX P w K mg base "holds" 6 ["store","row"] (spX mg (q2d C D)))(aN:MD P w K mg base C "told" 2 ["q"] (Zk C D))(cx:DefX P w K mg base "do_deed" 7 ["store","row"] (spX mg (WK C D))):FnOk P w K mg base (CXe P w) 8 f fd ["store","row","at","news"] (spX mg (WN C D)):=by
 refine F.zX scRowBehind (by rintro _ _ _ _ ⟨_,_,_,_,_,_,_,_,rfl,_⟩;rfl) (λae A outer s H E hr=>?_);refine⟨_,(qA (vS (qB (i:=4) scRowBehind.nd rfl Gx (qj (qh (K:=K) rfl) qv1 qa (λ_ _=>rfl)))) (qA (vS (qP (qi op_eq qv4 qc (qm _)) (qe (qt (qj (qh (K:=K) rfl) qv1 qa (λ_ _=>rfl)))) qx)) (qA (vR (qi (zT (K:=K) rfl) qv4 (qu (qa3 qc qc qc)) (by with_unfolding_all rfl)) (qw (zA (q3x (vI cZ (YH hr) (qa2 qv0 qv1)) (Jg (qj (qh (K:=K) rfl) qv1 qa (λ_ _=>rfl))) (Jg (qC vq qv2 qa))))) vC) (qA (vR (qi op_eq qv4 qc (qm _)) (qw (vS (vY (q0K PySem.F.slot_list_append PySem.F.type_list_append zZ qv3 (qa1 (vd aN aB qv0 (YH hr) (qa1 (qj (qh (K:=K) rfl) qv1 qa (λ_ _=>rfl))))))))) (qw (vg (vI cx (YH hr) (qa2 qv0 qv1))))) (qw (vS (qt (qC vq qv2 qa)))))))),_,(qy (by right) (qy (by right) (qy (zc (by right) (W7 (q6h (VE (ql (qr 0) (ql (qr 1) qJ))) (cx_0 (jD (qr 1) YJ)) (cx_0 (ja (Jk λ_ _=>.int _) (qr 2) YJ)))) vj) (by right)))),λus M Qu Xu h=>?_⟩;obtain⟨s,ws,ps,ds,a,nk,ls,res,rfl,S,hk,eG,c7,hs,qn,qg⟩:=h;have bC:GoX M M s s (ps.length+2) (ps.length+2) nk:=(Go.refl (M:=M) (s:=s) (n:=ps.length+2)).x;cases hs with
 |jump t=>
  left;exact qg _ _ _ _ rfl _ _ S bC (by simpa using hk)
 |tell q x hq=>
  left;refine Vq hk ?_;left;refine mS S (by decide) ?_;left;refine⟨s,ws,ps,q,x,rfl,S,hq,?_⟩;left;refine⟨_,hk,qF (by lia),?_⟩;left;exact qg _ _ _ _ rfl _ _ (S.skip c7) GoX.put (UC (Us.mp hk).1)
 |ask w hw q p t b hd=>
  have wh:Qu (.p (.int ((if b=true then t else a+1:Nat):Int))) M:=qg _ _ _ _ rfl _ _ S bC (by simpa using hk);rcases hw with rfl|rfl
  ·left
   refine⟨s,ws,ps,_,rfl,S,.inl ⟨_,q,p,t,b,.inl rfl,rfl,hd,?_⟩⟩;left;refine⟨_,rfl,?_⟩;cases b with
   |true=>
    refine qO rfl ?_;exact vc (t:=.int (t:Int)) rfl wh
   |false=>
    refine qL (by decide) ?_;exact wh
  ·left
   refine⟨s,ws,ps,_,rfl,S,.inl ⟨_,q,p,t,b,.inr rfl,rfl,hd,?_⟩⟩;left;refine⟨_,rfl,?_⟩;cases b with
   |true=>
    refine qO rfl ?_;exact vc (t:=.int (t:Int)) rfl wh
   |false=>
    refine qL (by decide) ?_;exact wh
 |kind q t x kd hq=>
  have wh:Qu (.p (.int ((if decide (vf x=kd)=true then t else a+1:Nat):Int))) M:=qg _ _ _ _ rfl _ _ S bC (by simpa using hk);left;refine⟨s,ws,ps,_,rfl,S,.inr (.inl ⟨q,_,x,kd,rfl,hq,?_⟩)⟩;left;refine⟨_,rfl,?_⟩;by_cases e9:vf x=kd
  ·rw[Ul e9]at wh ⊢
   refine qO rfl ?_;exact vc (t:=.int (t:Int)) rfl wh
  ·rw[GI e9]at wh ⊢
   refine qL (by decide) ?_;exact wh
 |askno q p t pp hd=>
  left;refine⟨s,ws,ps,_,rfl,S,.inr (.inr ⟨q,p,_,pp,rfl,hd,?_⟩)⟩;exact⟨_,_,_,rfl,rfl,qn _ _ rfl⟩
 |deed _ ay aj hd ht hl=>
  obtain⟨w,r,rfl,p1,p2,p3,p4,p5⟩:=hd.plain;obtain⟨w0,r0,e0,hw⟩:=hd.word;cases e0;symm;refine qL p2 ?_;symm;refine qR false rfl rfl rfl hd.three ?_;symm;refine qL p3 ?_;left;refine⟨s,ws,ps,_,rfl,S,Out.call ⟨s,ws,ps,rfl,S,.inl ⟨ay,aj,hd,λM' s' S' g=>?_⟩⟩,_,_,rfl,hw⟩;left;exact qg _ _ _ _ rfl _ _ S' g.x (by rw[g.fr _ (Us.mp hk).1 λi hi e=>c7 i hi e.symm];simpa using hk)
 |no _ nm p hd=>
  obtain⟨w,r,rfl,p1,p2,p3,p4,p5⟩:=hd.plain;obtain⟨w0,r0,e0,hw⟩:=hd.word;cases e0;symm;refine qL p2 ?_;symm;refine qR false rfl rfl rfl hd.three ?_;symm;refine qL p3 ?_;left;refine⟨s,ws,ps,_,rfl,S,Out.call ⟨s,ws,ps,rfl,S,.inr (.inr (.inl ⟨nm,p,hd,?_⟩))⟩,_,_,rfl,hw⟩;exact⟨_,_,_,rfl,rfl,qn _ _ rfl⟩
local macro_rules|`(tactic|walk_at "vx")=>`(tactic|simp only[zx,jG,jF,zu,vX,uTry,zy,zw,jI,jJ,endX,zR,QK,uX0,jH,uAsG])
theorem q0s{X:Cx}{pl:Sem Bool}{C:Addr}{m:Str}{k:Nat}{ps:List Str}{sp:Sp}{o:Expr}{ta:TE}{aF pos:Pos}(D:MDef X.prog X.w X.K X.mg X.base C m k ps sp)(c:Cls X.K C)(he:QE X o ta)(hr:Room k X.A)(ht:eval (.Call (.Attribute o m aF) [] [] pos) X.env=(do
   let ov <-eval o X.env
   standAt aF.atName;let(f,first) <-holding [ov] (getMethod ov m pl)
   callWith pos f first (backTo pos (starEach [] X.env)) (backToKw pos (keywordEach [] X.env))):=by rfl):QE X (.Call (.Attribute o m aF) [] [] pos) (ZM C m sp [] E0 ta tNil):=by
 obtain⟨f,fd,h1,h2,h3⟩:=D.ex;exact⟨q17 he.h c h1 h3 hr h2 .nil Kg ht⟩
theorem xg{f g:Str}{x y:U}{r:List (Str×U)}(h:g≠f):Vg f y ((g,x)::r)=(g,x)::Vg f y r:=by
 show(if g=f then _ else _)=_;rw[GH h]
theorem xQ{f:Str}{y:U}:Vg f y []=[(f,y)]:=rfl
structure TxM(K:PySem.W.Frag)(E:Addr):Prop where
 c:Cls K E
 n1:NoAttr K E "store"
 n2:NoAttr K E "layings"
 n3:NoAttr K E "when"
 n4:NoAttr K E "turn"
def mvO(CM:Addr)(k:Nat):MO:=.ins CM [("store",.m k),("layings",.p (.lst [])),("when",.p (.lst [])),("turn",.p (.int 1))]
abbrev jh:Stmt:=qk (top 58) 0
theorem ZR:q00 ["self","store","layings","when"] ["self","store","layings","when"] (qd jh):=by ac_rfl
def WI(CM:Addr):List U->MM->UK->Prop:=λus M Q=>∃(k s0:Nat),us=[.m k,.m s0,.p (.lst []),.p (.lst [])]/\M[k]?=some (.ins CM [])/\Q (.p .non) (M.set k (mvO CM s0))
theorem Y7{CM:Addr}{f:Addr}{fd:FuncData}(F:Fun K "__init__" "Moves.__init__" jh f fd)(TM:TxM K CM):FnOk P w K mg base CX0 1 f fd ["self","store","layings","when"] (spU (WI CM)):=by
 refine F.zU ZR (by rintro _ _ _ ⟨_,_,rfl,_⟩;rfl) (λae A outer s H E hr=>?_);refine⟨_,(qb (xP qv0 qv1 rfl) (qb (xP qv0 qv2 rfl) (qb (xP qv0 qv3 rfl) (qe (xP qv0 qa rfl))))),_,(by right),λus M Qu h=>?_⟩;obtain⟨k,s0,rfl,em,q⟩:=h;have hk:=(Us.mp em).1;symm;refine vO TM.c TM.n1 em (by decide) ?_;rw[xQ];symm;refine vO TM.c TM.n2 (UC hk) (by show 1<1000;decide) ?_;rw[Dx,xg (by decide),xQ];symm;refine vO TM.c TM.n3 (UC hk) (by show 2<1000;decide) ?_;rw[Dx,xg (by decide),xg (by decide),xQ];symm;refine vO TM.c TM.n4 (UC hk) (by show 3<1000;decide) ?_;rw[Dx,xg (by decide),xg (by decide),xg (by decide),xQ];symm;exact q
abbrev xz:Stmt:=qk (top 58) 2
theorem V2:q00 ["self","gone"] ["self","gone"] (qd xz):=by ac_rfl
def q1U(CM:Addr):List U->MM->UK->Prop:=λus M Q=>∃(k s0 g:Nat),us=[.m k,.p (.int (g:Int))]/\M[k]?=some (mvO CM s0)/\Q (.p .non) M
theorem Wb{CM:Addr}{f:Addr}{fd:FuncData}(F:Fun K "ahead" "Moves.ahead" xz f fd)(N:Nms mg)(TM:TxM K CM)(b8:Cls K CM)(bF:MD P w K mg base CM "move" 1 [] gNo):FnOk P w K mg base CX0 2 f fd ["self","gone"] (spU (q1U CM)):=by
 refine F.zU V2 (by rintro _ _ _ ⟨_,_,_,rfl,_⟩;rfl) (λae A outer s H E hr=>?_);refine⟨_,(qe (qP (Xi (V4 (qi Ki (qv 1) (qH zn (by rfl) N.len Qe (qa_c (qS (qv 0) rfl) vD)) (qm _)) (Ve (vJ (qj (qf (K:=K) rfl) (qS (qv 0) rfl) (qv 1) (λ_ _=>rfl))))))
   (qe (vY (q0s bF b8 (qv 0) (YH hr))))
   qx)),_,(zc (JL (jo (ja (Jk λ_ _=>.bl _) (qr 1) (q1S (ql (Qz (qr 0)) qJ)))) (ct_b (vW (Qz (qr 0)) (qr 1))))
   (VF (XY (qr 0) qJ))
   vj),λus M Qu h=>?_⟩
 obtain⟨k,s0,g,rfl,em,q⟩:=h;symm;refine xH TM.c TM.n3 em rfl ?_;symm;refine qL (by lia) ?_;exact q
local macro_rules|`(tactic|walk_at "vx")=>`(tactic|simp only[zx,jG,jF,zu,vX,uTry,zy,zw,jI,jJ,endX,zR,QK,uX0,jH,uAsG,q0U])
abbrev zM:Stmt:=top 65
theorem scGoneThrough:q00 ["script","moves","most","news","at","gone","refusal"] ["script","moves","most"] (qd zM):=by ac_rfl
def RunQ(C D:Addr)(M:MM)(s:Nm)(n0:Nat)(e:T)(ns:List T)(az:List Wt)(ar:WW)(Q:UK):Prop:=∀M' s' k nk,Sto C D M' s' az ar->Go M M' s s' n0 (ar.length+2)->M.length<=k->M.length<=nk->M'[k]?=some (.tup [.p e,.m nk])->M'[nk]?=some (.lst (ns.map U.p))->Q (.m k) M'
theorem Xd{C D:Addr}{M M':MM}{o o1:Nm}{n0:Nat}{e:T}{bQ:List T}{aQ:List Wt}{aq:WW}{Q:UK}(q:RunQ C D M o n0 e (bQ++[]) aQ aq Q)(O1:Sto C D M' o1 aQ aq)(g1:Go M M' o o1 n0 (aq.length+2))(hk:M'[M.length]?=some (.lst (bQ.map U.p))):Q (.m M'.length) (M'++[.tup [.p e,.m M.length]]):=by
 rw[U2]at q;refine q _ o1 _ M.length (O1.go λi hi=>zD (O1.lt hi)) (g1.trans Go.ap) g1.len (Ux _) qK ?_;rw[zD (Us.mp hk).1];exact hk
theorem Step.head{ws:List Wt}{ps:WW}{a:Nat}{ds:List T}{res:Res}(h:Step ws ps a ds res):∃w r,ds=.str w::r/\w ≠ "end" := by
 cases h with
 |ask w hw=>exact⟨_,_,rfl,by rcases hw with rfl|rfl<;>decide⟩
 |deed _ _ _ h=>obtain⟨w,r,e,p1,_⟩:=h.plain;exact⟨w,r,e,p1⟩
 |no _ _ _ h=>obtain⟨w,r,e,p1,_⟩:=h.plain;exact⟨w,r,e,p1⟩
 |_=>exact⟨_,_,rfl,by decide⟩
theorem Step.small{ws:List Wt}{ps:WW}{a:Nat}{ds:List T}{nm:Str}{v:Int}(h:Step ws ps a ds (.no nm (some v))):v<1000000:=by
 cases h with
 |askno _ _ _ _ h=>cases h<;>decide
 |no _ _ _ h=>cases h<;>decide
def q62(C D CM:Addr):List U->MM->UK->Prop:=λus M Q=>∃(s:Nm)(ws:List Wt)(ps:WW)(rows:List (List T))(mk n:Nat)(e:T)(ns:List T)(az:List Wt)(ar:WW),us=[.p (.lst (rows.map T.tup)),.m mk,.p (.int (n:Int))]/\M[mk]?=some (mvO CM (s 0))/\Sto C D M s ws ps/\(∀i,i<ps.length+2->s i≠mk)/\n<=400/\ps.length+n<=1000/\Walk rows False n ws ps 0 e ns az ar/\RunQ C D M s (ps.length+2) e ns az ar Q
theorem q0o{C D CM CN CW g:Addr}{f:Addr}{fd:FuncData}(F:Fun K "gone_through" "gone_through" zM f fd)(N:Nms mg)(TM:TxM K CM)(b8:Cls K CM)(aM:ExcC K mg "Nought" CN)(CWk:ExcK K CW g)(fX:NoAttr K CW "part")(ee:mg "WrongKind" = some (.ref CW))(bz:mg "Nought" = some (.ref CN))(EWk_Wk:W.exmOne K (.ref CW) (.ref CW)=some true)(ENought_Wk:W.exmOne K (.ref CN) (.ref CW)=some false)(ENought_Nought:W.exmOne K (.ref CN) (.ref CN)=some true)(bh:MD P w K mg base CM "ahead" 2 ["gone"] (q1U CM))(bG:DefX P w K mg base "row_behind" 8 ["store","row","at","news"] (spX mg (WN C D))):FnOk P w K mg base CX0 9 f fd ["script","moves","most"] (spU (q62 C D CM)):=by
 refine F.zU scGoneThrough (by rintro _ _ _ ⟨_,_,_,_,_,_,_,_,_,_,rfl,_⟩;rfl) (λae A outer s H E hr=>?_);refine⟨_,(qb (qB (i:=3) scGoneThrough.nd rfl Gx (qG vD))
  (qb (qB (i:=4) scGoneThrough.nd rfl Gx qa)
  (qb (xp PassesOwn.never rfl (vK rfl N.range (qa_c (qv 2) vD)) (vb (i:=5) scGoneThrough.nd rfl Gx)
   (qb (qP (qi op_eq (qj (qh (K:=K) rfl) (qj (qf (K:=K) rfl) (qv 0) (qv 4) (λ_ _=>rfl)) qa (λ_ _=>rfl)) qc (qm _))
    (qe (qt (qu (qa_c (qu (qa_c qc vD)) (qa_c (qv 3) vD)))))
    qx)
   (qb (vY (vd bh b8 (qv 1) (YH hr) (qa_c (qv 5) vD)))
   (qe (q2n (l:=[("WrongKind", _),("Nought", _)]) ⟨rfl,rfl,rfl,rfl⟩ (λ_ _=>
    (qw (Jh (i:=4) scGoneThrough.nd rfl (.inl rfl) (vI bG (YH hr) (qa_c (qS (qv 1) rfl) (qa_c (qj (qf (K:=K) rfl) (qv 0) (qv 4) (λ_ _=>rfl)) (qa_c (qv 4) (qa_c (qv 3) vD))))))))
    (Vs ee (λ_=>(q6p (i:=6) ⟨rfl,rfl,rfl,rfl⟩ ee EWk_Wk scGoneThrough.nd rfl rfl (λ_ _ _ ob=>(qe (qt (qu (qa_c (qu (qa_c qc (qa_c (qv 4) (qa_c (q4n CWk fX ob q67 (qv 6)) vD)))) (qa_c (qv 3) vD)))))))) (Vs bz (λ_=>(YC ee ENought_Wk (q2A aM.b ENought_Nought (λ_=>(qe (qt (qu (qa_c (qu (qa_c qc (qa_c (qv 4) vD))) (qa_c (qv 3) vD))))))))) q2q)))))))
  (qe (qt (qu (qa_c (qu (qa_c qc (qa_c (qv 4) vD))) (qa_c (qv 3) vD)))))))),_,(qy (vQ (kU qJ) (ve 3))
   (qy (vQ YJ (ve 4))
   (qy (kS (Gf (ql (qr 2) qJ)) (ve 5)
   (qy (zc (jo (ja Ql (jD (vW (qr 0) (qr 4)) YJ) Wo))
   (v7 (jr (ql (jC (ql Wo qJ)) (ql (qr 3) qJ))))
   vj)
   (qy (VF (XY (qr 1) (ql (qr 5) qJ)))
   (q2x (XW (VE (ql (Qz (qr 1)) (ql (vW (qr 0) (qr 4)) (ql (qr 4) (ql (qr 3) qJ)))))) (QD (λ_=>(q5m (λ_ _=>(v7 (jr (ql (jC (ql Wo (ql (qr 4) (ql (q2P (qr 6)) qJ)))) (ql (qr 3) qJ))))))) (QD (λ_=>(v7 (jr (ql (jC (ql Wo (ql (qr 4) qJ))) (ql (qr 3) qJ))))) q1N))))))
   (v7 (jr (ql (jC (ql Wo (ql (qr 4) qJ))) (ql (qr 3) qJ))))))),λus M Qu h=>?_⟩
 obtain⟨s,ws,ps,rows,mk,n,e,ns,az,ar,rfl,em,S,rW,hn,hl,W,q⟩:=h;have mB:=(Us.mp em).1;symm;refine jv (by lia) (by lia) ?_;refine xJ (λi ρ M'=>∃s1 aQ aq a bQ dS x5 x6,ρ=[some (.p (.lst (rows.map T.tup))),some (.m mk),some (.p (.int (n:Int))),some (.m M.length),some (.p (.int ((a:Nat):Int))),x5,x6]/\Sto C D M' s1 aQ aq/\Go M M' s s1 (ps.length+2) (aq.length+2)/\M'[M.length]?=some (.lst (bQ.map U.p))/\M'[mk]?=some (mvO CM (s 0))/\(∀j,j<aq.length+2->s1 j≠M.length)/\(∀j,j<aq.length+2->s1 j≠mk)/\bQ.length<=i/\aq.length<=ps.length+i/\ns=bQ++dS/\Walk rows False (n-i) aQ aq a e dS az ar)
  ⟨s,ws,ps,0, [],ns,_,_,rfl,S.go λi hi=>ze (S.lt hi),Go.ap,qK,(ze mB).trans em,λj hj e=>by have:=S.lt hj;lia,rW,Ux _,by lia,rfl,W⟩ ?_ ?_
 ·rintro i ρ M' hi ⟨s1,aQ,aq,a,bQ,dS,x5,x6,rfl,S1,g1,hk,eI,c7,fY,cR,mx,rfl,W1⟩
  have hi:i<n:=by simpa using hi
  obtain⟨m,hm⟩:∃m,n-i=m+1:=⟨n-i-1,by lia⟩;rw[hm]at W1;symm;have row:∀{ds:List T},rows[a]?=some ds->atI (rows.map T.tup) (a:Int)=some (.tup ds):=λh=>zd (by rw[UW,h];rfl);have dU:aq.length<1000:=by lia
  have eG:(bQ.map U.p).length<1000:=by rw[Uw];lia
  cases W1 with
  |endd _ _ _ _ h=>
   refine qX (row h) ?_;left;exact Xd q S1 g1 hk
  |great _ _ _ _ r qq p x y hg=>exact hg.elim
  |no _ _ _ _ ds nm p h eY=>
   obtain⟨w,r0,rfl,hw⟩:=eY.head;refine qX (row h) ?_;symm;refine vc at0 ?_;symm;refine qL hw ?_;symm;refine Xz eI rfl ?_;symm;refine⟨mk,_,i,rfl,eI,?_⟩;left;refine xH b8 TM.n1 eI rfl ?_;left;refine qX (row h) ?_;left;refine⟨s1,_,_,_,a,M.length,bQ.map U.p,_,by rw[g1.z],S1,hk,eG,c7,eY,λgZ p' e=>?_,(λ_ _ _ _ e=>by cases e)⟩;cases e;have f:=Xd q S1 g1 hk;rcases eY.two with⟨rfl,v,rfl⟩|⟨rfl,rfl⟩
   ·simp only[Ky]at f
    refine⟨_,_,_,_,rfl,rfl,rfl,λax dx=>?_⟩;left;refine⟨_,rfl,eY.small,?_⟩;left;exact f
   ·simp only[Ky]at f
    refine⟨_,_,_,_,rfl,rfl,rfl,?_⟩;left;exact f
  |go _ _ _ _ ds gq gr a3 nw _ ns3 _ _ h eY r=>
   obtain⟨w,r0,rfl,hw⟩:=eY.head;refine qX (row h) ?_;symm;refine vc at0 ?_;symm;refine qL hw ?_;symm;refine Xz eI rfl ?_;symm;refine⟨mk,_,i,rfl,eI,?_⟩;left;refine xH b8 TM.n1 eI rfl ?_;left;refine qX (row h) ?_;left;refine⟨s1,_,_,_,a,M.length,bQ.map U.p,_,by rw[g1.z],S1,hk,eG,c7,eY,(λgZ p' e=>by cases e),λay aj a' rT e M3 s3 S3 g3 my=>?_⟩;cases e;left;have h1:=eY.more;have i9:=(Us.mp eI).1;exact⟨s3,_,_,a3,bQ++nw,ns3,_,_,rfl,S3,g1.thenX g3 (Ux _),by rw[my,U7],(g3.fr mk i9 (λi hi e=>fY i hi e.symm) (by lia)).trans eI,g3.out (Us.mp hk).1 c7,g3.out i9 fY,by rw[Uu];lia,by lia,by rw[UN],by rw[show n-(i+1)=m by lia];exact r⟩
 ·rintro ρ M' ⟨s1,aQ,aq,a,bQ,dS,x5,x6,rfl,S1,g1,hk,eI,c7,fY,cR,mx,rfl,W1⟩
  have W1:Walk rows False (n-n) aQ aq a e dS az ar:=W1;rw[Dh]at W1;symm;cases W1;exact Xd q S1 g1 hk
abbrev sGo:Stmt:=top 66
theorem scGo:q00 ["script","store","most"] ["script","store","most"] (qd sGo):=by ac_rfl
def gGo(C D:Addr):List U->MM->UK->Prop:=λus M Q=>∃(s:Nm)(ws:List Wt)(ps:WW)(rows:List (List T))(n:Nat)(e:T)(ns:List T)(az:List Wt)(ar:WW),us=[.p (.lst (rows.map T.tup)),.m (s 0),.p (.int (n:Int))]/\Sto C D M s ws ps/\n<=400/\ps.length+n<=1000/\Walk rows False n ws ps 0 e ns az ar/\RunQ C D M s (ps.length+2) e ns az ar Q
theorem q5c{C D CM:Addr}{f:Addr}{fd:FuncData}(F:Fun K "go" "go" sGo f fd)(N:Nms mg)(df:q03 P w K mg base CM "Moves" 1 ["self","store","layings","when"] (spU (WI CM)))(ba:Def P w K mg base "gone_through" 9 ["script","moves","most"] (spU (q62 C D CM))):FnOk P w K mg base CX0 10 f fd ["script","store","most"] (spU (gGo C D)):=by
 refine F.zU scGo (by rintro _ _ _ ⟨_,_,_,_,_,_,_,_,_,rfl,_⟩;rfl) (λae A outer s H E hr=>?_);refine⟨_,(qe (qt (qo ba (YH hr) (qa3 qv0 (q6s df (YH hr) rfl (qa3 qv1 (qG vD) (qG vD))) qv2)))),_,(v7 (vz (ql (qr 0) (ql (kW (by right)) (by right))))),λus M Qu h=>?_⟩;obtain⟨s,ws,ps,rows,n,e,ns,az,ar,rfl,S,hn,hl,W,q⟩:=h;symm;refine⟨M.length,_,rfl,qK,?_⟩;rw[jS];have S1:Sto C D (M++[mvO CM (s 0)]) s ws ps:=S.go λi hi=>ze (S.lt hi);have l1:(M++[mvO CM (s 0)]).length=M.length+1:=by rw[Uu];rfl
 symm;refine⟨s,ws,ps,rows,M.length,n,e,ns,az,ar,rfl,qK,S1,λi hi e=>by have:=S.lt hi;lia,hn,hl,W,λM' s' k nk S' g hk c7 e1 e2=>q M' s' k nk S' ?_ (by lia) (by lia) e1 e2⟩;exact Go.trans Go.ap g
abbrev ke:Stmt:=top 67
theorem J9:q00 ["script","most"] ["script","most"] (qd ke):=by ac_rfl
def Zj:List U->MM->UK->Prop:=λus M Q=>∃(rows:List (List T))(n:Nat)(e:T)(ns:List T)(az:List Wt)(ar:WW),us=[.p (.lst (rows.map T.tup)),.p (.int (n:Int))]/\n<=400/\Walk rows False n wsN [] 0 e ns az ar/\∀M' k nk,M.length<=M'.length->(∀i,i<M.length->M'[i]?=M[i]?)->M.length<=k->M.length<=nk->M'[k]?=some (.tup [.p e,.m nk])->M'[nk]?=some (.lst (ns.map U.p))->Q (.m k) M'
theorem sto_new{C D:Addr}{M:MM}:Sto C D (M++[.ins C [("held",.m (M.length+1))],hl id wsN]) (λi=>i+M.length) wsN []:=by
 have g:∀{k:Nat}{L:List MO},(M++L)[k+M.length]?=L[k]?:=λ{k L}=>by rw[UM (by lia)];congr 1;lia
 refine⟨?_,?_,λi x h=>by simp at h,rfl,λi j hi hj z=>by lia,wok_new.ww,wok_new.wp⟩
 ·show(M++_)[0+M.length]?=some (MO.ins C [("held",.m (1+M.length))])
  rw[g,Nat.add_comm 1];rfl
 ·show(M++_)[1+M.length]?=_
  rw[g];rfl
theorem Vi{C D:Addr}{f:Addr}{fd:FuncData}(F:Fun K "plain_run" "plain_run" ke f fd)(N:Nms mg)(eJ:q03 P w K mg base C "PlainStore" 1 ["self"] (spU (Zm C)))(eK:Def P w K mg base "go" 10 ["script","store","most"] (spU (gGo C D))):FnOk P w K mg base CX0 11 f fd ["script","most"] (spU Zj):=by
 refine F.zU J9 (by rintro _ _ _ ⟨_,_,_,_,_,_,rfl,_⟩;rfl) (λae A outer s H E hr=>?_);refine⟨_,(qe (qt (qo eK (YH hr) (qa3 qv0 (YE eJ (YH hr) rfl) qv1)))),_,(v7 (vz (ql (qr 0) (ql (kW qJ) (by right))))),λus M Qu h=>?_⟩;obtain⟨rows,n,e,ns,az,ar,rfl,hn,W,q⟩:=h;symm;refine⟨M.length,rfl,qK,?_⟩;symm;have e0:(M++[MO.ins C []]++[hl id wsN]).set M.length (.ins C [("held",.m (M.length+1))])=M++[.ins C [("held",.m (M.length+1))],hl id wsN]:=by
  rw[UN,Dp _ _ (Ux _),Dh];rfl
 have e1:(M++[MO.ins C []]).length=M.length+1:=by rw[Uu];rfl
 rw[e1];show gGo C D _ ((M++[MO.ins C []]++[hl id wsN]).set M.length (.ins C [("held",.m (M.length+1))])) Qu;rw[e0];refine⟨λi=>i+M.length,wsN, [],rows,n,e,ns,az,ar,by show _=[_,U.m (0+M.length),_];rw[DW],sto_new,hn,by show 0+n<=1000;lia,W,λM' s' k nk S' g hk c7 a1 a2=>?_⟩;have l:=g.len;rw[Uu]at l hk c7;refine q M' k nk (by lia) (λi hi=>?_) (by lia) (by lia) a1 a2;rw[g.fr i (by rw[Uu];lia) λj _=>by lia];exact zD hi
local macro_rules|`(tactic|walk_at "vx")=>`(tactic|simp only[Yq,q7A,Yx,Xe,Vc,Yu,Yv,Xf,km,xK,xL,q6W,uMe0,Xg,KL,KU,uInD,X8,uInK,q7u,jH,xo,KZ,KM])
local macro_rules|`(tactic|walk_at "pk")=>`(tactic|(walk_at "v"; repeat ((first|walk_at "vx" |refine qL (by decide) ?_|refine qO rfl ?_); walk_at "v")))
theorem X2{xs:List T}{j:Int}(h0:0<=j)(h1:j<xs.length):∃t,atI xs j=some t/\t∈xs:=by
 obtain⟨k,rfl⟩:∃k:Nat,j=(k:Int):=⟨j.toNat,by lia⟩;have hk:k<xs.length:=by exact_mod_cast h1
 exact⟨xs[k],zd (Ut hk),Rr hk⟩
def lettersL:List (Str×Str):=[("number","rn"),("sign","rk"),("one","ro"),("copy","rr"),("plus","rrr"),("less","rrr"),("times","rrr"),("over","rrr"),("rest","rrr"),("pair","rrr"),("first","rr"),("second","rr"),("set_first","rr"),("set_second","rr"),("below","rrt"),("same","rrt"),("kind","rwt"),("tell","r"),("jump","t"),("end","")]
def okC(c:Nat):Bool:=decide (c∈[114,110,107,111,119,116])
theorem q2L{w l:Str}(h:lettersL.lookup w=some l):(∀c∈l.cps.toList,okC c=true)/\l.cps.toList.length<=3:=by
 have key:∀x∈lettersL,(∀c∈x.2.cps.toList,okC c=true)/\x.2.cps.toList.length<=3:=by decide+kernel
 have hm:(w,l)∈lettersL:=by
  generalize lettersL=L at h
  induction L with
  |nil=>cases h
  |cons a L ih=>
   obtain⟨a1,a2⟩:=a;rw[U0]at h;cases e:w==a1 with
   |true=>rw[e]at h;cases h;rw[eq_of_beq e];exact .head _
   |false=>rw[e]at h;exact .tail _ (ih h)
 exact key _ hm
abbrev Q7:Stmt:=top 76
theorem Yh:q00 [] [] (qd Q7):=by ac_rfl
def zj:List (Key×U):=lettersL.map λx=>(.inr x.1,.p (.str x.2))
def z0:List U->MM->UK->Prop:=λus M Q=>us=[]/\Q (.m M.length) (M++[.dK zj])
theorem jM{f:Addr}{fd:FuncData}(F:Fun K "_law_letters" "_law_letters" Q7 f fd):FnOk P w K mg base CX0 1 f fd [] (spU z0):=by
 refine F.zU Yh (λus M Qu h=>?_) (λae A outer s H E hr=>?_)
 ·rw[h.1];rfl
 refine⟨_,(qe (qt (q0M (.cons (.cons (.cons (.cons (.cons (.cons (.cons (.cons (.cons (.cons (.cons (.cons (.cons (.cons (.cons (.cons (.cons (.cons (.cons (.cons .nil)))))))))))))))))))) (by decide) (by decide) (by decide+kernel)))),_,(v7 q0V),λus M Qu h=>?_⟩;obtain⟨rfl,q⟩:=h;exact q
theorem q12{w:Str}:valU zj (.inr w)=(lettersL.lookup w).map λl=>U.p (.str l):=by
 have key:∀{L:List (Str×Str)},valU (L.map λx=>((.inr x.1:Key),U.p (.str x.2))) (.inr w)=(L.lookup w).map λl=>U.p (.str l):=λ{L}=>by
  induction L with
  |nil=>rfl
  |cons a L ih=>
   obtain⟨a1,a2⟩:=a;unfold valU at ih ⊢;rw[U0,UZ];cases e:w==a1 with
   |true=>
    rw[List.find?_cons_of_pos (by simp[eq_of_beq e])];rfl
   |false=>
    rw[List.find?_cons_of_neg (by simp;exact λz=>by rw[z]at e;simp at e)];exact ih
 exact key
theorem VN{M:MM}{k:Nat}{o:MO}{L:List MO}{Q:UK}(hk:k<M.length)(B:BagO o)(q:∀(n:Int)(o':MO),Bt 300 n->BagO o'->Q (.p (.int n)) (MB M k o' L)):vG [.m k] (MB M k o L) Q:=q34 hk B λn o' B' h=>q n o' h B'
def bndN(c:Nat)(a6:Nat):Int:=if c=114 then 8 else if c=107 then 128 else(a6:Int)
def zE(c a6:Nat):T->Prop
 |.str _=>c=111\/c=119
 |.int i=>c≠111/\c≠119/\(c=110->Bt 300 i)/\(c≠110->0<=i/\i<bndN c a6)
 |_=>False
def Qf(a6:Nat):List Nat->List T->Prop
 | [], []=>True
 |c::cs,t::ts=>zE c a6 t/\Qf a6 cs ts
 |_,_=>False
theorem WQ{a6:Nat}:∀{cs:List Nat}{ts:List T},ts.length=cs.length->(∀(j:Nat) c t,cs[j]?=some c->ts[j]?=some t->zE c a6 t)->Qf a6 cs ts
 | [], [],_,_=>trivial
 | [],_::_,h,_=>by simp at h
 |_::_, [],h,_=>by simp at h
 |c::cs,t::ts,h,k=>⟨k 0 c t rfl rfl,WQ (by simpa using h) λj c t a b=>k (j+1) c t (by simpa using a) (by simpa using b)⟩
theorem jP{a6:Nat}{t:T}(h:zE 114 a6 t):∃r:Nat,r<8/\t=.int (r:Int):=by
 cases t with
 |int i=>
  have h2:=h.2.2.2 (by decide);have h3:i<8:=h2.2;exact⟨i.toNat,by lia,by rw[Dd h2.1]⟩
 |str z=>exact absurd h (by show ¬(114=111\/114=119);decide)
 |_=>exact h.elim
theorem q4l{a6:Nat}{t:T}(h:zE 116 a6 t):∃r:Nat,r<a6/\t=.int (r:Int):=by
 cases t with
 |int i=>
  have h2:=h.2.2.2 (by decide);have h3:i<(a6:Int):=h2.2;exact⟨i.toNat,by lia,by rw[Dd h2.1]⟩
 |str z=>exact absurd h (by show ¬(116=111\/116=119);decide)
 |_=>exact h.elim
theorem q76{a6:Nat}{t:T}(h:zE 107 a6 t):∃i:Int,t=.int i:=by
 cases t with
 |int i=>exact⟨i,rfl⟩
 |str z=>exact absurd h (by show ¬(107=111\/107=119);decide)
 |_=>exact h.elim
theorem q7d{a6:Nat}{t:T}(h:zE 110 a6 t):∃i:Int,Bt 300 i/\t=.int i:=by
 cases t with
 |int i=>exact⟨i,h.2.2.1 rfl,rfl⟩
 |str z=>exact absurd h (by show ¬(110=111\/110=119);decide)
 |_=>exact h.elim
theorem q59{a6 c:Nat}{t:T}(hc:c=111\/c=119)(h:zE c a6 t):∃z:Str,t=.str z:=by
 cases t with
 |str z=>exact⟨z,rfl⟩
 |int i=>exact(hc.elim (λe=>absurd e h.1) λe=>absurd e h.2.1)
 |_=>exact h.elim
theorem q79{a6:Nat}{ts:List T}(h:Qf a6 [] ts):ts=[]:=by cases ts<;>first|rfl|exact h.elim
theorem q5W{a6 a:Nat}{ts:List T}(h:Qf a6 [a] ts):∃x,ts=[x]/\zE a a6 x:=by
 match ts,h with
 | [x],h=>exact⟨x,rfl,h.1⟩
theorem q1s{a6 a b:Nat}{ts:List T}(h:Qf a6 [a,b] ts):∃x y,ts=[x,y]/\zE a a6 x/\zE b a6 y:=by
 match ts,h with
 | [x,y],h=>exact⟨x,y,rfl,h.1,h.2.1⟩
theorem q4u{a6 a b c:Nat}{ts:List T}(h:Qf a6 [a,b,c] ts):∃x y z,ts=[x,y,z]/\zE a a6 x/\zE b a6 y/\zE c a6 z:=by
 match ts,h with
 | [x,y,z],h=>exact⟨x,y,z,rfl,h.1,h.2.1,h.2.2.1⟩
theorem q16{a6:Nat}{w l:Str}(h:lettersL.lookup w=some l){ts:List T}(hf:Qf a6 l.cps.toList ts):RowI a6 (.str w::ts):=by
 have hm:(w,l)∈lettersL:=by
  generalize lettersL=L at h
  induction L with
  |nil=>cases h
  |cons a L ih=>
   obtain⟨a1,a2⟩:=a;rw[U0]at h;cases e:w==a1 with
   |true=>rw[e]at h;cases h;rw[eq_of_beq e];exact .head _
   |false=>rw[e]at h;exact .tail _ (ih h)
 have rX:("rr" : Str).cps.toList=[114,114]:=by decide+kernel
 have mC:("rrr" : Str).cps.toList=[114,114,114]:=by decide+kernel
 have mD:("rrt" : Str).cps.toList=[114,114,116]:=by decide+kernel
 have rr:Qf a6 ("rr" : Str).cps.toList ts->∃r q:Nat,ts=[.int (r:Int),.int (q:Int)]/\r<8/\q<8:=λhf=>by
  rw[rX]at hf;obtain⟨x,y,rfl,h1,h2⟩:=q1s hf;obtain⟨r,hr,rfl⟩:=jP h1;obtain⟨q,hq,rfl⟩:=jP h2;exact⟨r,q,rfl,hr,hq⟩
 have gu:Qf a6 ("rrr" : Str).cps.toList ts->∃r q p:Nat,ts=[.int (r:Int),.int (q:Int),.int (p:Int)]/\r<8/\q<8/\p<8:=λhf=>by
  rw[mC]at hf;obtain⟨x,y,z,rfl,h1,h2,h3⟩:=q4u hf;obtain⟨r,hr,rfl⟩:=jP h1;obtain⟨q,hq,rfl⟩:=jP h2;obtain⟨p,hp,rfl⟩:=jP h3;exact⟨r,q,p,rfl,hr,hq,hp⟩
 have nT:Qf a6 ("rrt" : Str).cps.toList ts->∃r q p:Nat,ts=[.int (r:Int),.int (q:Int),.int (p:Int)]/\r<8/\q<8/\p<a6:=λhf=>by
  rw[mD]at hf;obtain⟨x,y,z,rfl,h1,h2,h3⟩:=q4u hf;obtain⟨r,hr,rfl⟩:=jP h1;obtain⟨q,hq,rfl⟩:=jP h2;obtain⟨p,hp,rfl⟩:=q4l h3;exact⟨r,q,p,rfl,hr,hq,hp⟩
 simp only[lettersL,UQ,Prod.mk.injEq,UY,GS]at hm;rcases hm with⟨rfl,rfl⟩|⟨rfl,rfl⟩|⟨rfl,rfl⟩|⟨rfl,rfl⟩|⟨rfl,rfl⟩|⟨rfl,rfl⟩|⟨rfl,rfl⟩|⟨rfl,rfl⟩|⟨rfl,rfl⟩|⟨rfl,rfl⟩|⟨rfl,rfl⟩|⟨rfl,rfl⟩|⟨rfl,rfl⟩|⟨rfl,rfl⟩|⟨rfl,rfl⟩|⟨rfl,rfl⟩|⟨rfl,rfl⟩|⟨rfl,rfl⟩|⟨rfl,rfl⟩|⟨rfl,rfl⟩
 ·rw[show("rn" : Str).cps.toList=[114,110] by decide+kernel]at hf
  obtain⟨x,y,rfl,h1,h2⟩:=q1s hf;obtain⟨r,hr,rfl⟩:=jP h1;obtain⟨n,hn,rfl⟩:=q7d h2;exact .deed _ _ (.num r n hr hn) (by decide)
 ·rw[show("rk" : Str).cps.toList=[114,107] by decide+kernel]at hf
  obtain⟨x,y,rfl,h1,h2⟩:=q1s hf;obtain⟨r,hr,rfl⟩:=jP h1;obtain⟨n,rfl⟩:=q76 h2;exact .deed _ _ (.sgn r n hr) (by decide)
 ·rw[show("ro" : Str).cps.toList=[114,111] by decide+kernel]at hf
  obtain⟨x,y,rfl,h1,h2⟩:=q1s hf;obtain⟨r,hr,rfl⟩:=jP h1;obtain⟨n,rfl⟩:=q59 (.inl rfl) h2;exact .deed _ _ (.one r n hr) (by decide)
 ·obtain⟨r,q,rfl,hr,hq⟩:=rr hf
  exact .deed _ _ (.copy r q hr hq) (by decide)
 ·obtain⟨r,q,p,rfl,hr,hq,hp⟩:=gu hf
  exact .deed _ _ (.five _ (.inl rfl) r q p hr hq hp) (by decide)
 ·obtain⟨r,q,p,rfl,hr,hq,hp⟩:=gu hf
  exact .deed _ _ (.five _ (.inr (.inl rfl)) r q p hr hq hp) (by decide)
 ·obtain⟨r,q,p,rfl,hr,hq,hp⟩:=gu hf
  exact .deed _ _ (.five _ (.inr (.inr (.inl rfl))) r q p hr hq hp) (by decide)
 ·obtain⟨r,q,p,rfl,hr,hq,hp⟩:=gu hf
  exact .deed _ _ (.five _ (.inr (.inr (.inr (.inl rfl)))) r q p hr hq hp) (by decide)
 ·obtain⟨r,q,p,rfl,hr,hq,hp⟩:=gu hf
  exact .deed _ _ (.five _ (.inr (.inr (.inr (.inr rfl)))) r q p hr hq hp) (by decide)
 ·obtain⟨r,q,p,rfl,hr,hq,hp⟩:=gu hf
  exact .deed _ _ (.pair r q p hr hq hp) (by decide)
 ·obtain⟨r,q,rfl,hr,hq⟩:=rr hf
  exact .deed _ _ (.get _ (.inl rfl) r q hr hq) (by decide)
 ·obtain⟨r,q,rfl,hr,hq⟩:=rr hf
  exact .deed _ _ (.get _ (.inr rfl) r q hr hq) (by decide)
 ·obtain⟨r,q,rfl,hr,hq⟩:=rr hf
  exact .deed _ _ (.set _ (.inl rfl) r q hr hq) (by decide)
 ·obtain⟨r,q,rfl,hr,hq⟩:=rr hf
  exact .deed _ _ (.set _ (.inr rfl) r q hr hq) (by decide)
 ·obtain⟨r,q,p,rfl,hr,hq,hp⟩:=nT hf
  exact .below r q p hr hq hp
 ·obtain⟨r,q,p,rfl,hr,hq,hp⟩:=nT hf
  exact .same r q p hr hq hp
 ·rw[show("rwt" : Str).cps.toList=[114,119,116] by decide+kernel]at hf
  obtain⟨x,y,z,rfl,h1,h2,h3⟩:=q4u hf;obtain⟨r,hr,rfl⟩:=jP h1;obtain⟨n,rfl⟩:=q59 (.inr rfl) h2;obtain⟨t,ht,rfl⟩:=q4l h3;exact .kind r t n hr ht
 ·rw[show("r" : Str).cps.toList=[114] by decide+kernel]at hf
  obtain⟨x,rfl,h1⟩:=q5W hf;obtain⟨r,hr,rfl⟩:=jP h1;exact .tell r hr
 ·rw[show("t" : Str).cps.toList=[116] by decide+kernel]at hf
  obtain⟨x,rfl,h1⟩:=q5W hf;obtain⟨t,ht,rfl⟩:=q4l h1;exact .jump t ht
 ·rw[show("" : Str).cps.toList=[] by decide+kernel]at hf
  rw[q79 hf];exact .endd
abbrev q3C:Stmt:=top 77
theorem scPart:q00 ["bag","letter","many","some"] ["bag","letter","many"] (qd q3C):=by ac_rfl
def q4B:List U->MM->UK->Prop:=λus M Q=>∃(k:Nat)(o:MO)(c a6:Nat),us=[.m k,.p (.str ⟨#[c]⟩),.p (.int (a6:Int))]/\M[k]?=some o/\BagO o/\okC c=true/\1<=a6/\a6<=60/\∀(t:T)(o':MO),zE c a6 t->BagO o'->Q (.p t) (M.set k o')
theorem Y3{f:Addr}{fd:FuncData}(F:Fun K "_law_part" "_law_part" q3C f fd)(N:Nms mg)(a8:Def P w K mg base "_law_draw" 1 ["bag","many"] (spU jN))(ak:Def P w K mg base "_law_any_number" 2 ["bag"] (spU vG)):FnOk P w K mg base CX0 3 f fd ["bag","letter","many"] (spU q4B):=by
 refine F.zV scPart (by rintro _ _ _ ⟨_,_,_,_,rfl,_⟩;rfl) (λae A outer s H E hr=>?_);refine⟨_,(qb (qP (qi q5D qv1 qc (by with_unfolding_all rfl)) (qe (qt (qo a8 (YH hr) (qa2 qv0 (Xj (q4a hr) (YF (xf qc qa (xf qc qv2 (xf qc qa YB))) rfl rfl (λz=>nomatch z) (by decide)) qv1 (λ_ _=>rfl)))))) qx) (qb (qP (qi op_eq qv1 qc (qm _)) (qe (qt (qo ak (YH hr) (qa1 qv0)))) qx) (qb (qB (i:=3) scPart.nd rfl Gx (vm (qi op_eq qv1 qc (qm _)) (qG (qa3 qc qc qc)) (qG (qa4 qc qc qc qc)))) (qe (qt (qj (qf (K:=K) rfl) qv3 (qo a8 (YH hr) (qa2 qv0 (qH zn (by rfl) N.len Qe (qa1 qv3)))) (λ_ _=>rfl))))))),_,(qy (zc (jo (ja q3R (qr 1) (by right))) (v7 (vz (ql (qr 0) (ql (XZ (Gj (jp Wo YJ (jp Wo (qr 2) (jp Wo YJ q1Z)))) (qr 1)) qJ)))) vj) (by right)),λus M M1 Qu e1 h=>?_⟩;obtain⟨k,o,c,a6,rfl,em,B,oc,m1,m2,q⟩:=h;obtain⟨hk,eM⟩:=xn em;rw[eM]at e1;subst e1;left;have fin:∀(z:T)(o':MO)(L:List MO),BagO o'->zE c a6 z->zo M (MB M k o' L)/\Qu (.p z) (List.take (List.length M) (MB M k o' L)):=λz o' L B h1=>⟨js B.pur,by rw[jt];exact q z o' h1 B⟩;have e3:("rtk" : Str).cps.toList=[114,116,107]:=by decide+kernel
 have sk:∀{a b:Nat},(⟨#[a]⟩:Str)=⟨#[b]⟩->a=b:=λh=>by injection h with h;injection h with h;injection h
 split
 ·rename_i hc
  rw[e3]at hc;have hi:∀i:Int,0<=i->i<bndN c a6->zE c a6 (.int i):=λi h0 h1=>⟨by rintro rfl;simp at hc,by rintro rfl;simp at hc,by rintro rfl;simp at hc,λ_=>⟨h0,h1⟩⟩;simp only[KY];left;refine⟨[(.inr "r",.p (.int 8)),(.inr "t",.p (.int (a6:Int))),(.inr "k",.p (.int 128))],rfl,by show 3<=15;decide,?_⟩;have r1:(⟨#[114]⟩:Str) = "r" := by decide+kernel
  have r2:(⟨#[116]⟩:Str) = "t" := by decide+kernel
  have r3:(⟨#[107]⟩:Str) = "k" := by decide+kernel
  have hv:∃n:Int,n=bndN c a6/\1<=n/\n<1000/\valU (Zd [] [(.inr "r",.p (.int 8)),(.inr "t",.p (.int (a6:Int))),(.inr "k",.p (.int 128))]) (.inr (⟨#[c]⟩:Str))=some (U.p (.int n)):=by
   simp only[UQ,UY,GS]at hc;rcases hc with rfl|rfl|rfl
   ·exact⟨8,rfl,by decide,by decide,by rw[r1];rfl⟩
   ·exact⟨(a6:Int),rfl,by lia,by lia,by rw[r2];rfl⟩
   ·exact⟨128,rfl,by decide,by decide,by rw[r3];rfl⟩
  obtain⟨n,n0,n1,n2,hv⟩:=hv;refine jZ (ju rfl) hv ?_;left;refine qE hk B (by lia) (by have:=Nat.lt_log2_self (n:=n.natAbs);exact U5 (Dk _) (by lia)) λd o1 d0 d1 B1=>?_;left;exact fin _ _ _ B1 (hi _ d0 (by lia))
 rename_i hc;rw[e3]at hc;have en:("n" : Str)=⟨#[110]⟩:=by decide+kernel
 have oc':c=114\/c=110\/c=107\/c=111\/c=119\/c=116:=by simpa[okC]using oc
 have cN:c≠114/\c≠116/\c≠107:=by simpa using hc
 left;rw[en];split
 ·rename_i hn
  have hn:=sk hn;refine VN hk B λn o1 mE B1=>?_;left;exact fin _ _ _ B1 ⟨by lia,by lia,λ_=>mE,λz=>absurd hn z⟩
 rename_i hn;have hn:c≠110:=λz=>hn (by rw[z]);left;split
 ·left
  refine qE hk B (by decide) (by decide) λd o1 d0 d1 B1=>?_;left;obtain⟨t,ht,hm⟩:=X2 (xs:=([.str "none",.str "no",.str "yes"]:List T)) d0 (by simpa using d1);refine qX ht ?_;left;simp only[UQ,UY,GS]at hm;have iR:c=111:=by
   rename_i hh;exact sk (hh.trans (by decide+kernel:("o" : Str)=⟨#[111]⟩))
  rcases hm with rfl|rfl|rfl<;>exact fin _ _ _ B1 (.inl iR)
 ·left
  refine qE hk B (by decide) (by decide) λd o1 d0 d1 B1=>?_;left;obtain⟨t,ht,hm⟩:=X2 (xs:=([.str "number",.str "sign",.str "one",.str "pair"]:List T)) d0 (by simpa using d1);refine qX ht ?_;left;simp only[UQ,UY,GS]at hm;have iR:c≠111:=by
   rename_i hh;rintro rfl;exact hh (by decide+kernel)
  rcases hm with rfl|rfl|rfl|rfl<;>exact fin _ _ _ B1 (.inr (by lia))
theorem q3i{M:MM}{k:Nat}{o:MO}{L:List MO}{c a6:Nat}{Q:UK}(hk:k<M.length)(B:BagO o)(oc:okC c=true)(m1:1<=a6)(m2:a6<=60)(q:∀(t:T)(o':MO),zE c a6 t->BagO o'->Q (.p t) (MB M k o' L)):q4B [.m k,.p (.str ⟨#[c]⟩),.p (.int (a6:Int))] (MB M k o L) Q :=
 ⟨k,o,c,a6,rfl,ZF hk,B,oc,m1,m2,λn o' hn B'=>by rw[xb hk];exact q n o' hn B'⟩
theorem Wn{M:MM}{k:Nat}{o:MO}{L:List MO}{Q:UK}(q:Q (.m (M.length+L.length)) (MB M k o (L++[.dK zj]))):z0 [] (MB M k o L) Q:=⟨rfl,by rw[q2h,q2m];exact q⟩
abbrev Xc:Stmt:=top 78
theorem q0D:q00 ["bag","word","many"] ["bag","word","many"] (qd Xc):=by ac_rfl
theorem Wg:(["bag","word","many","letter"]:List Str).Nodup:=by decide+kernel
def XG:List U->MM->UK->Prop:=λus M Q=>∃(k:Nat)(o:MO)(w l:Str)(a6:Nat),us=[.m k,.p (.str w),.p (.int (a6:Int))]/\M[k]?=some o/\BagO o/\lettersL.lookup w=some l/\1<=a6/\a6<=60/\∀(r:List T)(o':MO),RowI a6 (.str w::r)->BagO o'->Q (.p (.tup (.str w::r))) (M.set k o')
theorem Xx{f:Addr}{fd:FuncData}(F:Fun K "_law_any_row" "_law_any_row" Xc f fd)(N:Nms mg)(aW:Def P w K mg base "_law_letters" 1 [] (spU z0))(dW:Def P w K mg base "_law_part" 3 ["bag","letter","many"] (spU q4B)):FnOk P w K mg base CX0 4 f fd ["bag","word","many"] (spU XG):=by
 refine F.zV q0D (by rintro _ _ _ ⟨_,_,_,_,_,rfl,_⟩;rfl) (λae A outer s H E hr=>?_);refine⟨_,(qe (qt (vL VH (by rfl) N.tuple VI (qa1 (qC zB (qG (qa1 qv1)) (Ke [true,false,true] ["letter"] (q5N (Xj (q4a hr) (kq aW (YH hr)) qv1 (λ_ _=>rfl))) (λ_ _ _=>(vb (i:=3) Wg rfl Gx)) (λ_ _ _=>zq) (λ_ _ _=>(qo dW (YH hr) (qa3 qv0 qv3 qv2))))))))),_,(v7 (Gk Gm (ql (ja YL (by right) (VG (q4P (XZ (vz qJ) (qr 1))) (x9 3) Zw (by right))) qJ))),λus M M1 Qu e1 h=>?_⟩;obtain⟨k,o,w,l,a6,rfl,em,B,el,m1,m2,q⟩:=h;obtain⟨hk,eM⟩:=xn em;rw[eM]at e1;subst e1;have hf:=q2L el;left;refine Wn ?_;left;refine jZ (ju rfl) (by rw[q12,el];rfl) ?_;left;refine KK (U1 (qF (by have:=hf.2;rw[Dm]at this;lia))) (λi a9 M2=>∃o',BagO o'/\M2=MB M k o' [MO.dK zj]/\a9.length=i/\∀(j:Nat) c t,l.cps.toList[j]?=some c->a9[j]?=some t->zE c a6 t) ⟨o,B,rfl,rfl,λj c t _ h=>by simp at h⟩ (λi c a9 M2 hc _ h=>?_) (λa9 M2 h=>?_)
 ·obtain⟨o1,B1,rfl,hl,hp⟩:=h
  left;refine q3i hk B1 (hf.1 c (Uy hc)) m1 m2 λt o2 ht B2=>?_;left;refine⟨o2,B2,rfl,by simp[hl],λj c' t' cN dC=>?_⟩;rcases Rz j a9.length with h|h
  ·rw[Uz h]at dC
   exact hp j c' t' cN dC
  ·rw[UM h]at dC
   have:j=i:=by
    have:=(Us.mp dC).1;simp at this;lia
   subst this;rw[hc]at cN;cases cN;rw[hl,Dh]at dC;cases dC;exact ht
 ·obtain⟨o1,B1,rfl,hl,hp⟩:=h
  left;have eZ:=hf.2;rw[Dm]at eZ;refine⟨U1 (qF (by lia)),_,rfl,js B1.pur,?_⟩;rw[jt];exact q a9 o1 (q16 el (WQ (by rw[Dm];exact hl) hp)) B1
theorem q1Q{rs:List (List T)}{x:List T}(h:∀ds∈rs++[x],RowI (rs++[x]).length ds)(hx:x=[.str "end"]\/∃t:Nat,x=[.str "jump",.int (t:Int)])(h0:1<=(rs++[x]).length)(h1:(rs++[x]).length<=60):ScrI (rs++[x]):=
 ⟨h,λds hd=>by
  rw[show(rs++[x]).length-1=rs.length by simp,qK]at hd;cases hd;exact hx,h0,h1⟩
theorem q1P{M:MM}{k:Nat}{o:MO}{L:List MO}{w l:Str}{a6:Nat}{Q:UK}(hk:k<M.length)(B:BagO o)(el:lettersL.lookup w=some l)(m1:1<=a6)(m2:a6<=60)(q:∀(r:List T)(o':MO),RowI a6 (.str w::r)->BagO o'->Q (.p (.tup (.str w::r))) (MB M k o' L)):XG [.m k,.p (.str w),.p (.int (a6:Int))] (MB M k o L) Q :=
 ⟨k,o,w,l,a6,rfl,ZF hk,B,el,m1,m2,λn o' hn B'=>by rw[xb hk];exact q n o' hn B'⟩
def wordsL:List Str:=lettersL.map (·.1)
theorem q0n{d:Int}(h0:0<=d)(h1:d<20):∃w l,atI (wordsL.map T.str) d=some (.str w)/\lettersL.lookup w=some l:=by
 obtain⟨t,ht,hm⟩:=X2 (xs:=wordsL.map T.str) h0 h1;obtain⟨w,hw,rfl⟩:=Dy.mp hm;have key:∀w∈wordsL,(lettersL.lookup w).isSome=true:=by decide+kernel
 obtain⟨l,hl⟩:=Ri.mp (key w hw);exact⟨w,l,ht,hl⟩
theorem q5T{M:MM}{k i:Nat}{o:MO}{L:List MO}{Q:UK}(h:L[i]?=some (.dK zj))(q:Q (.p (.lst (wordsL.map T.str))) (MB M k o L)):LsDS [.m (M.length+i)] (MB M k o L) Q :=
 ⟨_,_,wordsL,rfl,MB_get.trans h,by decide+kernel,q⟩
abbrev jj:Stmt:=top 79
theorem scAnyScript:q00 ["bag","many","words","rows"] ["bag"] (qd jj):=by ac_rfl
theorem Zc:(["bag","many","words","rows","k"]:List Str).Nodup:=by decide+kernel
def Vt:List U->MM->UK->Prop:=λus M Q=>∃(k:Nat)(o:MO),us=[.m k]/\M[k]?=some o/\BagO o/\∀(rows:List (List T))(o':MO),ScrI rows->BagO o'->Q (.p (.lst (rows.map T.tup))) (M.set k o')
theorem Qb{f:Addr}{fd:FuncData}(F:Fun K "_law_any_script" "_law_any_script" jj f fd)(N:Nms mg)(a8:Def P w K mg base "_law_draw" 1 ["bag","many"] (spU jN))(aW:Def P w K mg base "_law_letters" 1 [] (spU z0))(bY:Def P w K mg base "_law_any_row" 4 ["bag","word","many"] (spU XG)):FnOk P w K mg base CX0 5 f fd ["bag"] (spU Vt):=by
 refine F.zV scAnyScript (by rintro _ _ _ ⟨_,_,rfl,_⟩;rfl) (λae A outer s H E hr=>?_);refine⟨_,(qb (qB (i:=1) scAnyScript.nd rfl (Or.inr rfl) (qj (qf (K:=K) rfl) (qG (qa3 (qC vq qa (qo a8 (YH hr) (qa2 qv0 qa))) (qC vq qa (qo a8 (YH hr) (qa2 qv0 qa))) qa)) (qo a8 (YH hr) (qa2 qv0 qa)) (λ_ _=>rfl))) (qb (qB (i:=2) scAnyScript.nd rfl (Or.inr rfl) (vL (KF rfl) (by rfl) N.list jb (qa1 (kq aW (YH hr))))) (qb (q4p (i:=3) [true,true,true,false] ["k"] scAnyScript.nd rfl rfl (vK rfl N.range (qa1 (qC jz qv1 qa))) (λ_ _ _=>(vb (i:=4) Zc rfl Gx)) (λ_ _ _=>zq) (λ_ _ _=>(qo bY (YH hr) (qa3 qv0 (qj (qf (K:=K) rfl) qv2 (qo a8 (YH hr) (qa2 qv0 qa)) (λ_ _=>rfl)) qv1)))) (qe (qt (qC zB qv3 (qG (qa1 (qo bY (YH hr) (qa3 qv0 (qj (qf (K:=K) rfl) (qG (qa2 qc qc)) (qo a8 (YH hr) (qa2 qv0 qa)) (λ_ _=>rfl)) qv1)))))))))),_,(qy (by right) (qy (vQ (q05 (ql (vz qJ) qJ)) (ve 2)) (by right))),λus M M1 Qu e1 h=>?_⟩;obtain⟨k,o,rfl,em,B,q⟩:=h;obtain⟨hk,eM⟩:=xn em;rw[eM]at e1;subst e1;left;refine qE hk B (by decide) (by decide) λd1 o1 iS mF B1=>?_;left;refine qE hk B1 (by decide) (by decide) λd2 o2 iO mj B2=>?_;left;refine qE hk B2 (by decide) (by decide) λd3 o3 mG mH B3=>?_;left;obtain⟨t,ht,hm⟩:=X2 (xs:=[T.int (1+d1),T.int (1+d2),T.int 60]) mG (by simpa using mH);refine qX ht ?_;obtain⟨a6,rfl,m1,m2⟩:∃n:Nat,t=.int (n:Int)/\1<=n/\n<=60:=by
  simp only[UQ,UY,GS]at hm;rcases hm with rfl|rfl|rfl
  ·exact⟨(1+d1).toNat,by rw[Dd (by lia)],by lia,by lia⟩
  ·exact⟨(1+d2).toNat,by rw[Dd (by lia)],by lia,by lia⟩
  ·exact⟨60,rfl,by lia,by lia⟩
 left;refine Wn ?_;left;refine q5T (i:=0) rfl ?_;left;refine jv (by lia) (by lia) ?_;refine j4 (U1 (qF (by lia))) (λi a9 M2=>∃o' rs,BagO o'/\M2=MB M k o' [MO.dK zj]/\rs.length=i/\(∀r∈rs,RowI a6 r)/\a9=rs.map T.tup) ⟨o3, [],B3,rfl,rfl,λr h=>by simp at h,rfl⟩ ?_ ?_
 ·rintro i a9 M2 hi _ ⟨o4,rs,B4,rfl,hl,dX,rfl⟩
  left;refine qE hk B4 (by decide) (by decide) λd o5 d0 d1 B5=>?_;left;obtain⟨w,l,hw,el⟩:=q0n d0 d1;refine qX hw ?_;left;refine q1P hk B5 el m1 m2 λr o6 hr B6=>?_;left;refine⟨o6,rs++[.str w::r],B6,rfl,by simp[hl],λx hx=>?_,by simp⟩;rcases UD.mp hx with z|z
  ·exact dX x z
  ·rw[UJ.mp z];exact hr
 rintro a9 M2 ⟨o4,rs,B4,rfl,hl,dX,rfl⟩;left;refine qE hk B4 (by decide) (by decide) λd o5 d0 d1 B5=>?_;left;obtain⟨t,ht,hm⟩:=X2 (xs:=([.str "end",.str "jump"]:List T)) d0 (by simpa using d1);refine qX ht ?_;obtain⟨w,l,rfl,el,iT⟩:∃w l:Str,t=.str w/\lettersL.lookup w=some l/\(w = "end" \/ w = "jump"):=by
  simp only[UQ,UY,GS]at hm;rcases hm with rfl|rfl
  ·exact⟨_,"", rfl,by decide+kernel,.inl rfl⟩
  ·exact⟨_,"t", rfl,by decide+kernel,.inr rfl⟩
 left;refine q1P hk B5 el m1 m2 λr o6 hr B6=>?_;left;refine⟨U1 (qF (by simp;lia)),js B6.pur,?_⟩;rw[jt];have aw:(rs++[T.str w::r]).length=a6:=by simp;lia
 have ic:(T.str w::r)=[.str "end"]\/∃t:Nat,(T.str w::r)=[.str "jump",.int (t:Int)]:=by
  cases hr with
  |endd=>exact .inl rfl
  |jump t ht=>exact .inr ⟨t,rfl⟩
  |deed _ _ h hb=>rcases iT with rfl|rfl<;>cases h<;>(rename_i hw;rcases hw with e|e|e|e|e<;>exact absurd e (by decide))
  |_=>rcases iT with e|e<;>exact absurd e (by decide)
 have cQ:∀ds∈rs++[T.str w::r],RowI (rs++[T.str w::r]).length ds:=λds hd=>by
  rw[aw];rcases UD.mp hd with z|z
  ·exact dX ds z
  ·rw[UJ.mp z];exact hr
 have:=q (rs++[.str w::r]) o6 (q1Q cQ ic (by lia) (by lia)) B6;simpa using this
theorem xc{a b:US}{E:q01}{ρ:UEnv}{M:MM}(I:UEnv->MM->Prop)(h1:∀nx:UEnv->MM->Prop,(∀aR M',I aR M'->nx aR M')->a { E with nx:=nx } ρ M)(h2:∀aR M',I aR M'->b E aR M'):uSeq a b E ρ M:=h1 _ h2
abbrev Q8:Stmt:=top 80
theorem scBodyRow:q00 ["bag","low","many","calm","wide","r","q","p","t","n","a","b","c","d","e","kind","some"] ["bag","low","many","calm"] (qd Q8):=by ac_rfl
def Vv:List U->MM->UK->Prop:=λus M Q=>∃(k:Nat)(o:MO)(low a6:Nat)(calm:Bool),us=[.m k,.p (.int (low:Int)),.p (.int (a6:Int)),.p (.bl calm)]/\M[k]?=some o/\BagO o/\low<=10/\1<=a6/\a6<=49/\∀(ds:List T)(o':MO),RowI (low+a6+4) ds->BagO o'->Q (.p (.tup ds)) (M.set k o')
theorem Zb{f:Addr}{fd:FuncData}(F:Fun K "_law_body_row" "_law_body_row" Q8 f fd)(N:Nms mg)(a8:Def P w K mg base "_law_draw" 1 ["bag","many"] (spU jN))(ak:Def P w K mg base "_law_any_number" 2 ["bag"] (spU vG)):FnOk P w K mg base CX0 3 f fd ["bag","low","many","calm"] (spU Vv):=by
 refine F.zV scBodyRow (by rintro _ _ _ ⟨_,_,_,_,_,rfl,_⟩;rfl) (λae A outer s H E hr=>?_);refine⟨_,(qb (qB (i:=4) scBodyRow.nd rfl Gx (vm (vJ qv3) qa qa)) (qb (YA (i:=5) (j:=6) (k:=7) rfl scBodyRow.nd rfl rfl rfl (by decide) (by decide) (by decide) rfl rfl rfl (qa3 (qo a8 (YH hr) (qa2 qv0 qv4)) (qo a8 (YH hr) (qa2 qv0 qv4)) (qo a8 (YH hr) (qa2 qv0 qv4))) rfl) (qb (qB (i:=8) scBodyRow.nd rfl Gx (qC vq qv1 (qo a8 (YH hr) (qa2 qv0 (qC vq qv2 qa))))) (qb (qP (qi op_eq (qo a8 (YH hr) (qa2 qv0 qa)) qa (qm _)) (qe (qB (i:=8) scBodyRow.nd rfl Gx (qo a8 (YH hr) (qa2 qv0 (qC vq (qC vq qv1 qv2) qa))))) qx) (qb (vh (vm (vJ qv3) (qu (qa3 (qC xq qv5 qa) (qC xq qv6 qa) (qC xq qv7 qa))) (qu (qa3 qv5 qv6 qv7))) (q1O (K:=K) (i:=9) (j:=10) (k:=11) rfl scBodyRow.nd rfl rfl rfl rfl Gx Gx Gx Gx Gx Gx)) (qb (vh (vm (vJ qv3) (qu (qa3 qa qa qv5)) (qu (qa3 qv6 qv5 qv6))) (q1O (K:=K) (i:=12) (j:=13) (k:=14) rfl scBodyRow.nd rfl rfl rfl rfl Gx Gx Gx Gx Gx Gx)) (qb (qB (i:=15) scBodyRow.nd rfl Gx (qj (qf (K:=K) rfl) (qG (qa4 qc qc qc qc)) (qo a8 (YH hr) (qa2 qv0 qa)) (λ_ _=>rfl))) (qb (qB (i:=16) scBodyRow.nd rfl Gx (qG (qa2 (qu (qa4 (qj (qf (K:=K) rfl) (qG (qa4 qc qc qc qc)) (qo a8 (YH hr) (qa2 qv0 qa)) (λ_ _=>rfl)) (qv 9) (qv 10) qv11)) (qu (qa3 qc (qv 9) (qo ak (YH hr) (qa1 qv0))))))) (qb (qB (i:=16) scBodyRow.nd rfl Gx (qC zB (qv 16) (qG (qa_c (qu (qa4 qc (qv 12) qv5 qv6)) (qa4 (qu (qa3 qc (qv 12) qv5)) (qu (qa3 qc (qv 12) qv7)) (qu (qa3 qc (qv 13) (qv 12))) (qu (qa3 qc (qv 13) (qv 12)))))))) (qb (qB (i:=16) scBodyRow.nd rfl Gx (qC zB (qv 16) (qG (qa_c (qu (qa3 qc (qv 13) (qv 14))) (qa4 (qu (qa2 qc qv5)) (qu (qa4 qc (qv 10) qv11 (qv 8))) (qu (qa4 qc qv5 qv7 (qv 8))) (qu (qa4 qc (qv 13) (qv 15) (qv 8)))))))) (qb (qB (i:=16) scBodyRow.nd rfl Gx (qC zB (qv 16) (qG (qa2 (qu (qa3 qc (qv 13) (qo a8 (YH hr) (qa2 qv0 qa)))) (qu (qa3 qc (qv 13) (qj (qf (K:=K) rfl) (qG (qa3 qc qc qc)) (qo a8 (YH hr) (qa2 qv0 qa)) (λ_ _=>rfl)))))))) (qb (qB (i:=16) scBodyRow.nd rfl Gx (qC zB (qv 16) (qG (qa2 (qu (qa4 (qj (qf (K:=K) rfl) (qG (qa2 qc qc)) (qo a8 (YH hr) (qa2 qv0 qa)) (λ_ _=>rfl)) (qv 9) (qv 10) qv11)) (qu (qa2 qc (qv 8))))))) (qb (qP (qi op_eq (qo a8 (YH hr) (qa2 qv0 qa)) qa (qm _)) (qe (qt (qu (qa1 qc)))) qx) (qe (qt (qj (qf (K:=K) rfl) (qv 16) (qj (qf (K:=K) rfl) (qG (qa_c qa (qa_c qa (qa_c qa (qa_c qa (qa_c qa (qa_c qa (qa_c qa (qa_c qa (qa_c qa (qa_c qa (qa_c qa (qa_c qa (qa_c qa (qa_c qa (qa_c qa (qa_c qa (qa_c qa (qa_c qa (qa_c qa (qa_c qa (qa4 qa qa qa qa)))))))))))))))))))))) (qo a8 (YH hr) (qa2 qv0 qa)) (λ_ _=>rfl)) (λ_ _=>rfl))))))))))))))))),_,(qy (vQ (q5d (ct_b (qr 3)) (.int _) (.int _)) (ve 4)) (qy (W9 (ql (vz (ql (qr 0) (ql (qr 4) qJ))) (ql (vz (ql (qr 0) (ql (qr 4) qJ))) (ql (vz (ql (qr 0) (ql (qr 4) qJ))) qJ)))) (by right))),λus M M1 Qu e1 h=>?_⟩;obtain⟨k,o,low,a6,calm,rfl,em,B,hlow,m1,m2,q⟩:=h;obtain⟨hk,eM⟩:=xn em;rw[eM]at e1;subst e1;have fin:∀(z:List T)(o':MO)(L:List MO),BagO o'->RowI (low+a6+4) z->zo M (MB M k o' L)/\Qu (.p (.tup z)) (List.take (List.length M) (MB M k o' L)):=λz o' L B h1=>⟨js B.pur,by rw[jt];exact q z o' h1 B⟩;left;obtain⟨wd,iT,w0,w8⟩:∃wd:Int,(if calm=true then 5 else 8)=wd/\0<wd/\wd<=8:=by cases calm<;>exact⟨_,rfl,by decide,by decide⟩
 have wl:wd.natAbs.log2<9000:=U5 (Dk _) (by lia);rw[iT];refine qE hk B w0 wl λr o1 r0 r1 B1=>?_;obtain⟨r,rfl⟩:∃j:Nat,r=(j:Int):=⟨r.toNat,by lia⟩;refine qE hk B1 w0 wl λqq o2 q0 q1 B2=>?_;obtain⟨qq,rfl⟩:∃j:Nat,qq=(j:Int):=⟨qq.toNat,by lia⟩;refine qE hk B2 w0 wl λp o3 p0 p1 B3=>?_;obtain⟨p,rfl⟩:∃j:Nat,p=(j:Int):=⟨p.toNat,by lia⟩;have aY:r<8:=by lia
 have ef:qq<8:=by lia
 have fZ:p<8:=by lia
 refine useq ?_;walk_at "vs";refine qE hk B3 (by lia) (U5 (Dk _) (by lia)) λtd o4 t0 t1 B4=>?_;walk_at "vs";refine xc (λaR M'=>∃(tt:Nat)(o':MO),tt<low+a6+1/\BagO o'/\M'=MB M k o' []/\aR=[some (.m k),some (.p (.int (low:Int))),some (.p (.int (a6:Int))),some (.p (.bl calm)),some (.p (.int wd)),some (.p (.int (r:Int))),some (.p (.int (qq:Int))),some (.p (.int (p:Int))),some (.p (.int (tt:Int))),none,none,none,none,none,none,none,none]) (λnx cM=>?_) (λaR M' hI=>?_)
 ·symm
  refine qE hk B4 (by decide) (by decide) λd5 o5 mm mq B5=>?_;symm;refine ite2 (λh5=>?_) (λh5=>?_)
  ·refine qE hk B5 (by lia) (U5 (Dk _) (by lia)) λd6 o6 ie iU B6=>?_
   symm;exact cM _ _ ⟨d6.toNat,o6,by lia,B6,rfl,by rw[Dd ie]⟩
  ·symm
   exact cM _ _ ⟨(low+td).toNat,o5,by lia,B5,rfl,by rw[Dd (by lia)]⟩
 obtain⟨tt,o5,htt,B5,rfl,rfl⟩:=hI;refine xc (λaR M'=>∃(n a b:Nat),n<8/\a<8/\b<8/\M'=MB M k o5 []/\aR=[some (.m k),some (.p (.int (low:Int))),some (.p (.int (a6:Int))),some (.p (.bl calm)),some (.p (.int wd)),some (.p (.int (r:Int))),some (.p (.int (qq:Int))),some (.p (.int (p:Int))),some (.p (.int (tt:Int))),some (.p (.int (n:Int))),some (.p (.int (a:Int))),some (.p (.int (b:Int))),none,none,none,none,none]) (λnx cM=>?_) (λaR M' hI=>?_)
 ·cases calm with
  |true=>
   left;exact⟨by decide,by decide,by decide,cM _ _ ⟨r % 3,qq % 3,p % 3,by lia,by lia,by lia,rfl,rfl⟩⟩
  |false=>
   left;exact cM _ _ ⟨r,qq,p,aY,ef,fZ,rfl,rfl⟩
 obtain⟨n,a,b,mI,mJ,mK,rfl,rfl⟩:=hI;refine xc (λaR M'=>∃(c d e:Nat),c<8/\d<8/\e<8/\M'=MB M k o5 []/\aR=[some (.m k),some (.p (.int (low:Int))),some (.p (.int (a6:Int))),some (.p (.bl calm)),some (.p (.int wd)),some (.p (.int (r:Int))),some (.p (.int (qq:Int))),some (.p (.int (p:Int))),some (.p (.int (tt:Int))),some (.p (.int (n:Int))),some (.p (.int (a:Int))),some (.p (.int (b:Int))),some (.p (.int (c:Int))),some (.p (.int (d:Int))),some (.p (.int (e:Int))),none,none]) (λnx cM=>?_) (λaR M' hI=>?_)
 ·cases calm with
  |true=>
   left;exact cM _ _ ⟨3,4,r,by decide,by decide,aY,rfl,rfl⟩
  |false=>
   left;exact cM _ _ ⟨qq,r,qq,ef,aY,ef,rfl,rfl⟩
 obtain⟨c,d,e,ig,gw,rY,rfl,rfl⟩:=hI;symm;refine qE hk B5 (by decide) (by decide) λd6 o6 ie iU B6=>?_;obtain⟨kd,e9⟩:∃kd:Str,atI [T.str "number", T.str "sign", T.str "one", T.str "pair"] d6=some (.str kd):=by
  rcases(show d6=0\/d6=1\/d6=2\/d6=3 by lia)with rfl|rfl|rfl|rfl<;>exact⟨_,rfl⟩
 refine qX e9 ?_;symm;refine qE hk B6 (by decide) (by decide) λd7 o7 rZ sd B7=>?_;obtain⟨w1,se,ii⟩:∃w1:Str,atI [T.str "plus", T.str "less", T.str "times", T.str "less"] d7=some (.str w1)/\five w1:=by
  rcases(show d7=0\/d7=1\/d7=2\/d7=3 by lia)with rfl|rfl|rfl|rfl
  ·exact⟨_,rfl,.inl rfl⟩
  ·exact⟨_,rfl,.inr (.inl rfl)⟩
  ·exact⟨_,rfl,.inr (.inr (.inl rfl))⟩
  ·exact⟨_,rfl,.inr (.inl rfl)⟩
 refine qX se ?_;symm;refine VN hk B7 λz o8 hz B8=>?_;symm;refine⟨by show 2+5<=sizeLine;decide,?_⟩;symm;refine⟨by show 7+5<=sizeLine;decide,?_⟩;symm;refine qE hk B8 (by decide) (by decide) λd9 o9 sf sg B9=>?_;symm;refine qE hk B9 (by decide) (by decide) λda oa da0 da1 Ba=>?_;obtain⟨w3,si⟩:∃w3:Str,atI [T.str "none", T.str "no", T.str "yes"] da=some (.str w3):=by
  rcases(show da=0\/da=1\/da=2 by lia)with rfl|rfl|rfl<;>exact⟨_,rfl⟩
 refine qX si ?_;symm;refine⟨by show 12+2<=sizeLine;decide,?_⟩;symm;refine qE hk Ba (by decide) (by decide) λdb ob db0 db1 Bb=>?_;obtain⟨w2,sj,eZ⟩:∃w2:Str,atI [T.str "over", T.str "rest"] db=some (.str w2)/\five w2:=by
  rcases(show db=0\/db=1 by lia)with rfl|rfl
  ·exact⟨_,rfl,.inr (.inr (.inr (.inl rfl)))⟩
  ·exact⟨_,rfl,.inr (.inr (.inr (.inr rfl)))⟩
 refine qX sj ?_;symm;refine⟨by show 14+2<=sizeLine;decide,?_⟩;symm;refine qE hk Bb (by decide) (by decide) λdc oc dc0 dc1 Bc=>?_;symm;refine ite2 (λfv=>?_) (λfv=>?_)
 ·symm
  exact fin _ _ _ Bc .endd
 symm;refine qE hk Bc (by decide) (by decide) λdd od so sq Bd=>?_;have sr:w1 ≠ "below" := by rcases ii with rfl|rfl|rfl|rfl|rfl<;>decide
 have lA:w2 ≠ "below" := by rcases eZ with rfl|rfl|rfl|rfl|rfl<;>decide
 obtain⟨t1,mL,nU⟩:=X2 (xs:=[T.int 0,T.int 0,T.int 0,T.int 0,T.int 1,T.int 1,T.int 2,T.int 2,T.int 2,T.int 3,T.int 4,T.int 5,T.int 6,T.int 7,T.int 8,T.int 8,T.int 8,T.int 9,T.int 10,T.int 11,T.int 12,T.int 13,T.int 14,T.int 15]) so (by simpa using sq);refine qX mL ?_;obtain⟨ix,rfl,i0,su⟩:∃ix:Int,t1=.int ix/\0<=ix/\ix<16:=by
  simp only[UQ,UY,GS]at nU;rcases nU with rfl|rfl|rfl|rfl|rfl|rfl|rfl|rfl|rfl|rfl|rfl|rfl|rfl|rfl|rfl|rfl|rfl|rfl|rfl|rfl|rfl|rfl|rfl|rfl<;>exact⟨_,rfl,by decide,by decide⟩
 obtain⟨t2,iV,iF⟩:=X2 (xs:=[T.tup [T.str w1,T.int (n:Int),T.int (a:Int),T.int (b:Int)],T.tup [T.str "number", T.int (n:Int),T.int z],T.tup [T.str "pair", T.int (c:Int),T.int (r:Int),T.int (qq:Int)],T.tup [T.str "set_first", T.int (c:Int),T.int (r:Int)],T.tup [T.str "set_second", T.int (c:Int),T.int (p:Int)],T.tup [T.str "first", T.int (d:Int),T.int (c:Int)],T.tup [T.str "second", T.int (d:Int),T.int (c:Int)],T.tup [T.str "copy", T.int (d:Int),T.int (e:Int)],T.tup [T.str "tell", T.int (r:Int)],T.tup [T.str "below", T.int (a:Int),T.int (b:Int),T.int (tt:Int)],T.tup [T.str "same", T.int (r:Int),T.int (p:Int),T.int (tt:Int)],T.tup [T.str "kind", T.int (d:Int),T.str kd,T.int (tt:Int)],T.tup [T.str "sign", T.int (d:Int),T.int d9],T.tup [T.str "one", T.int (d:Int),T.str w3],T.tup [T.str w2,T.int (n:Int),T.int (a:Int),T.int (b:Int)],T.tup [T.str "jump", T.int (tt:Int)]]) i0 (by simpa using su);refine qX iV ?_;obtain⟨ds,rfl,dZ⟩:∃ds:List T,t2=.tup ds/\RowI (low+a6+4) ds:=by
  simp only[UQ,UY,GS]at iF;rcases iF with rfl|rfl|rfl|rfl|rfl|rfl|rfl|rfl|rfl|rfl|rfl|rfl|rfl|rfl|rfl|rfl
  ·exact⟨_,rfl,.deed _ _ (.five _ ii n a b mI mJ mK) sr⟩
  ·exact⟨_,rfl,.deed _ _ (.num n z mI hz) (by decide)⟩
  ·exact⟨_,rfl,.deed _ _ (.pair c r qq ig aY ef) (by decide)⟩
  ·exact⟨_,rfl,.deed _ _ (.set _ (.inl rfl) c r ig aY) (by decide)⟩
  ·exact⟨_,rfl,.deed _ _ (.set _ (.inr rfl) c p ig fZ) (by decide)⟩
  ·exact⟨_,rfl,.deed _ _ (.get _ (.inl rfl) d c gw ig) (by decide)⟩
  ·exact⟨_,rfl,.deed _ _ (.get _ (.inr rfl) d c gw ig) (by decide)⟩
  ·exact⟨_,rfl,.deed _ _ (.copy d e gw rY) (by decide)⟩
  ·exact⟨_,rfl,.tell r aY⟩
  ·exact⟨_,rfl,.below a b tt mJ mK (by lia)⟩
  ·exact⟨_,rfl,.same r p tt aY fZ (by lia)⟩
  ·exact⟨_,rfl,.kind d tt kd gw (by lia)⟩
  ·exact⟨_,rfl,.deed _ _ (.sgn d d9 gw) (by decide)⟩
  ·exact⟨_,rfl,.deed _ _ (.one d w3 gw) (by decide)⟩
  ·exact⟨_,rfl,.deed _ _ (.five _ eZ n a b mI mJ mK) lA⟩
  ·exact⟨_,rfl,.jump tt (by lia)⟩
 symm;exact fin _ _ _ Bd dZ
theorem q37{M:MM}{k:Nat}{o:MO}{L:List MO}{low a6:Nat}{calm:Bool}{Q:UK}(hk:k<M.length)(B:BagO o)(h1:low<=10)(m1:1<=a6)(m2:a6<=49)(q:∀(r:List T)(o':MO),RowI (low+a6+4) r->BagO o'->Q (.p (.tup r)) (MB M k o' L)):Vv [.m k,.p (.int (low:Int)),.p (.int (a6:Int)),.p (.bl calm)] (MB M k o L) Q :=
 ⟨k,o,low,a6,calm,rfl,ZF hk,B,h1,m1,m2,λn o' hn B'=>by rw[xb hk];exact q n o' hn B'⟩
theorem q3T{rows:List (List T)}{lo hi:Option Int}:∃cG:List (List T),cutT (rows.map T.tup) lo hi=cG.map T.tup/\cG.length<=rows.length/\∀ds∈cG,ds∈rows :=
 ⟨_,by unfold cutT;rw[<-List.map_drop, <-List.map_take],by simp only[Dj,DC];lia,λds h=>List.mem_of_mem_drop (List.mem_of_mem_take h)⟩
abbrev xA:Stmt:=top 81
theorem scLongScript:q00 ["bag","count","rows","low","many","calm"] ["bag"] (qd xA):=by ac_rfl
theorem xS:(["bag","count","rows","low","many","calm","k"]:List Str).Nodup:=by decide+kernel
theorem kA{f:Addr}{fd:FuncData}(F:Fun K "_law_long_script" "_law_long_script" xA f fd)(N:Nms mg)(a8:Def P w K mg base "_law_draw" 1 ["bag","many"] (spU jN))(ak:Def P w K mg base "_law_any_number" 2 ["bag"] (spU vG))(c9:Def P w K mg base "_law_body_row" 3 ["bag","low","many","calm"] (spU Vv)):FnOk P w K mg base CX0 4 f fd ["bag"] (spU Vt):=by
 refine F.zV scLongScript (by rintro _ _ _ ⟨_,_,rfl,_⟩;rfl) (λae A outer s H E hr=>?_);refine⟨_,(qb (qB (i:=1) scLongScript.nd rfl Gx (qC vq qa (qo a8 (YH hr) (qa2 qv0 (qj (qf (K:=K) rfl) (qG (qa2 qa qa)) (qo a8 (YH hr) (qa2 qv0 qa)) (λ_ _=>rfl)))))) (qb (qB (i:=2) scLongScript.nd rfl Gx (qG (qa3 (qu (qa3 qc qa qv1)) (qu (qa3 qc qa qa)) (qu (qa3 qc qa qa))))) (qb (qB (i:=2) scLongScript.nd rfl Gx (qC zB (qC zB qv2 (Ke [true,false,false,false,false,false] ["k"] (vK rfl N.range (qa1 qa)) (λ_ _ _=>(vb (i:=6) xS rfl Gx)) (λ_ _ _=>zq) (λ_ _ _=>(qu (qa3 qc qv6 (qo ak (YH hr) (qa1 qv0))))))) (qG (qa1 (qu (qa4 qc qa qa (qo a8 (YH hr) (qa2 qv0 qa)))))))) (qb (qB (i:=2) scLongScript.nd rfl Gx (zr (QU (K:=K) rfl) qv2 (xC (qC ku (qo a8 (YH hr) (qa2 qv0 qa)) (vL kY (by rfl) N.int VJ (qa1 (vF op_eq (qo a8 (YH hr) (qa2 qv0 qa)) qa (qm _)))))) xD)) (qb (qB (i:=3) scLongScript.nd rfl (Or.inr rfl) (qH zn (by rfl) N.len Qe (qa1 qv2))) (qb (qB (i:=4) scLongScript.nd rfl (Or.inr rfl) (qC vq qa (qo a8 (YH hr) (qa2 qv0 (qj (qf (K:=K) rfl) (qG (qa2 qa qa)) (qC Vh (qo a8 (YH hr) (qa2 qv0 qa)) qa) (λ_ _=>rfl)))))) (qb (qB (i:=5) scLongScript.nd rfl (Or.inr rfl) (vF q6V (qo a8 (YH hr) (qa2 qv0 qa)) qa (qm _))) (qb (qB (i:=2) scLongScript.nd rfl Gx (qC zB qv2 (Ke [true,false,false,true,true,true] ["k"] (vK rfl N.range (qa1 qv4)) (λ_ _ _=>(vb (i:=6) xS rfl Gx)) (λ_ _ _=>zq) (λ_ _ _=>(qo c9 (YH hr) (qa4 qv0 qv3 qv4 qv5)))))) (qb (qB (i:=2) scLongScript.nd rfl Gx (qC zB qv2 (qG (qa3 (qu (qa4 qc qa qa qa)) (qu (qa4 qc qa qa qv3)) (qu (qa2 qc (qo a8 (YH hr) (qa2 qv0 qa)))))))) (qe (qt (qC zB qv2 (qG (qa1 (qj (qf (K:=K) rfl) (qG (qa3 (qu (qa1 qc)) (qu (qa1 qc)) (qu (qa2 qc (qo a8 (YH hr) (qa2 qv0 (qC vq (qH zn (by rfl) N.len Qe (qa1 qv2)) qa))))))) (qo a8 (YH hr) (qa2 qv0 qa)) (λ_ _=>rfl)))))))))))))))),_,(qy (by right) (qy (by right) (qy (by right) (qy (vQ (q7q (qr 2) (Gc (ja (by right) (by right) (Gk X1 (by right)))) Gd) (ve 2)) (by right))))),λus M M1 Qu e1 h=>?_⟩;obtain⟨k,o,rfl,em,B,q⟩:=h;obtain⟨hk,eM⟩:=xn em;rw[eM]at e1;subst e1;left;refine qE hk B (by decide) (by decide) λd1 o1 iS mF B1=>?_;left;obtain⟨c1,iR,sv,c11⟩:∃c1:Int,atI [T.int 3,T.int 40] d1=some (.int c1)/\0<c1/\c1<=40:=by
  rcases(show d1=0\/d1=1 by lia)with rfl|rfl<;>exact⟨_,rfl,by decide,by decide⟩
 refine qX iR ?_;left;refine qE hk B1 sv (U5 (Dk _) (by lia)) λct o2 ct0 ct1 B2=>?_;left;refine jv (by decide) (by decide) ?_;refine j4 (m:=3) (by decide) (λi a9 M2=>∃o' rs,BagO o'/\M2=MB M k o' []/\rs.length=i/\(∀ds∈rs,∀N,RowI N ds)/\a9=rs.map T.tup) ⟨o2, [],B2,rfl,rfl,λds h=>by simp at h,rfl⟩ ?_ ?_
 ·rintro i a9 M2 hi _ ⟨o3,rs,B3,rfl,hl,dX,rfl⟩
  have hi:i<3:=hi;left;refine VN hk B3 λz o4 hz B4=>?_;left;refine⟨o4,rs++[[.str "number",.int (i:Int),.int z]],B4,rfl,by simp[hl],λds hd N=>?_,by simp⟩;rcases UD.mp hd with h|h
  ·exact dX ds h N
  ·rw[UJ.mp h];exact .deed _ _ (.num i z (by lia) hz) (by decide)
 rintro a9 M2 ⟨o3,rs,B3,rfl,hl,dX,rfl⟩;left;refine⟨U1 (qF (by rw[Uw];lia)),?_⟩;refine qE hk B3 (by decide) (by decide) λpp o4 pp0 pp1 B4=>?_;obtain⟨pp,rfl⟩:∃j:Nat,pp=(j:Int):=⟨pp.toNat,by lia⟩;left;refine⟨U1 (qF (by rw[Uw];lia)),?_⟩;have mM:∀z:Int,0<=z->z<=1000->Bt 300 z:=λz h0 h1=>Bt.small (by lia) (by lia) (by decide);obtain⟨cH,sw,sx,hl0⟩:∃cH:List (List T),T.tup [.str "number",.int 7,.int (1+ct)]::T.tup [.str "number",.int 6,.int 1]::T.tup [.str "number",.int 5,.int 0]::(rs.map T.tup++[T.tup [.str "pair",.int 3,.int 0,.int (pp:Int)]])=cH.map T.tup/\(∀ds∈cH,∀N,RowI N ds)/\cH.length=7:=by
  refine⟨[[.str "number",.int 7,.int (1+ct)], [.str "number",.int 6,.int 1], [.str "number",.int 5,.int 0]]++rs++[[.str "pair",.int 3,.int 0,.int (pp:Int)]],by simp,λds hd N=>?_,by simp[hl]⟩;rcases UD.mp hd with hd|hd
  ·rcases UD.mp hd with hd|hd
   ·simp only[UQ,UY,GS]at hd
    rcases hd with rfl|rfl|rfl
    ·exact .deed _ _ (.num 7 _ (by decide) (mM _ (by lia) (by lia))) (by decide)
    ·exact .deed _ _ (.num 6 _ (by decide) (mM _ (by decide) (by decide))) (by decide)
    ·exact .deed _ _ (.num 5 _ (by decide) (mM _ (by decide) (by decide))) (by decide)
   ·exact dX ds hd N
  ·rw[UJ.mp hd]
   exact .deed _ _ (.pair 3 0 pp (by decide) (by decide) (by lia)) (by decide)
 refine xc (λaR M'=>∃(o':MO)(rows:List (List T)),BagO o'/\M'=MB M k o' []/\rows.length<=7/\(∀ds∈rows,∀N,RowI N ds)/\aR=[some (.m k),some (.p (.int (1+ct))),some (.p (.lst (rows.map T.tup))),none,none,none]) (λnx cM=>?_) (λaR M' hI=>?_)
 ·symm
  rw[sw];refine qE hk B4 (by decide) (by decide) λd5 o5 mm mq B5=>?_;refine qE hk B5 (by decide) (by decide) λd6 o6 ie iU B6=>?_;symm;refine⟨.inl ⟨by lia,by lia⟩,?_⟩;symm;obtain⟨cG,er,mX,lK⟩:=q3T (rows:=cH) (lo:=some (d5*if d6=5 then 1 else 0)) (hi:=none);rw[er];exact cM _ _ ⟨o6,cG,B6,rfl,by lia,λds hd N=>sx ds (lK ds hd) N,rfl⟩
 obtain⟨o5,rows,B5,rfl,hrl,sA,rfl⟩:=hI;symm;refine qE hk B5 (by decide) (by decide) λd6 o6 ie iU B6=>?_;symm;refine⟨⟨by decide,by decide⟩,?_⟩;obtain⟨c2,gf,sB,c21⟩:∃c2:Int,atI [T.int 24,T.int 49] (d6 / 2)=some (.int c2)/\0<c2/\c2<=49:=by
  rcases(show d6 / 2=0\/d6 / 2=1 by lia)with e|e<;>rw[e]<;>exact⟨_,rfl,by decide,by decide⟩
 refine qX gf ?_;refine qE hk B6 sB (U5 (Dk _) (by lia)) λd7 o7 rZ sd B7=>?_;symm;refine qE hk B7 (by decide) (by decide) λd8 o8 d80 d81 B8=>?_;symm;rw[Uw];obtain⟨a6,ij⟩:∃a6:Nat,1+d7=(a6:Int):=⟨(1+d7).toNat,by lia⟩;rw[ij];refine jv (by lia) (by lia) ?_;refine j4 (m:=a6) (U1 (qF (by lia))) (λi a9 M2=>∃o' rs,BagO o'/\M2=MB M k o' []/\rs.length=i/\(∀ds∈rs,RowI (rows.length+a6+4) ds)/\a9=rs.map T.tup) ⟨o8, [],B8,rfl,rfl,λds h=>by simp at h,rfl⟩ ?_ ?_
 ·rintro i a9 M2 hi _ ⟨o9,rs,B9,rfl,hl,dX,rfl⟩
  symm;refine q37 hk B9 (by lia) (by lia) (by lia) λds oa dZ Ba=>?_;symm;refine⟨oa,rs++[ds],Ba,rfl,by simp[hl],λx hx=>?_,by simp⟩;rcases UD.mp hx with h|h
  ·exact dX x h
  ·rw[UJ.mp h];exact dZ
 rintro a9 M2 ⟨o9,rs,B9,rfl,hl,dX,rfl⟩;have hl:rs.length=a6:=hl;symm;refine⟨U1 (qF (by rw[Uw,Uw];lia)),?_⟩;symm;refine qE hk B9 (by decide) (by decide) λq8 oa q80 q81 Ba=>?_;obtain⟨q8,rfl⟩:∃j:Nat,q8=(j:Int):=⟨q8.toNat,by lia⟩;symm;refine⟨U1 (qF (by simp only[Uu,Uw,UL,Dg];lia)),?_⟩;symm;obtain⟨cj,hA,nV,sC⟩:∃cj:List (List T),rows.map T.tup++rs.map T.tup++[T.tup [.str "less",.int 7,.int 7,.int 6],T.tup [.str "below",.int 5,.int 7,.int (rows.length:Int)],T.tup [.str "tell",.int (q8:Int)]]=cj.map T.tup/\cj.length=rows.length+a6+3/\∀ds∈cj,RowI (rows.length+a6+4) ds:=by
  refine⟨rows++rs++[[.str "less",.int 7,.int 7,.int 6], [.str "below",.int 5,.int 7,.int (rows.length:Int)], [.str "tell",.int (q8:Int)]],by simp,by simp[hl];lia,λds hd=>?_⟩;rcases UD.mp hd with hd|hd
  ·rcases UD.mp hd with hd|hd
   ·exact sA ds hd _
   ·exact dX ds hd
  ·simp only[UQ,UY,GS]at hd
   rcases hd with rfl|rfl|rfl
   ·exact .deed _ _ (.five _ (.inr (.inl rfl)) 7 7 6 (by decide) (by decide) (by decide)) (by decide)
   ·exact .below 5 7 rows.length (by decide) (by decide) (by lia)
   ·exact .tell q8 (by lia)
 rw[hA,Uw,nV];refine qE hk Ba (by lia) (U5 (Dk _) (by lia)) λtj ob tj0 tj1 Bb=>?_;obtain⟨tj,rfl⟩:∃j:Nat,tj=(j:Int):=⟨tj.toNat,by lia⟩;symm;refine qE hk Bb (by decide) (by decide) λd9 oc sf sg Bc=>?_;obtain⟨x,hx,sD,sE⟩:∃x:List T,atI [T.tup [T.str "end"],T.tup [T.str "end"],T.tup [T.str "jump", T.int (tj:Int)]] d9=some (.tup x)/\(x=[.str "end"]\/∃t:Nat,x=[.str "jump",.int (t:Int)])/\RowI (rows.length+a6+4) x:=by
  rcases(show d9=0\/d9=1\/d9=2 by lia)with rfl|rfl|rfl
  ·exact⟨_,rfl,.inl rfl,.endd⟩
  ·exact⟨_,rfl,.inl rfl,.endd⟩
  ·exact⟨_,rfl,.inr ⟨tj,rfl⟩,.jump tj (by lia)⟩
 refine qX hx ?_;symm;refine⟨U1 (qF (by lia)),js Bc.pur,?_⟩;rw[jt];have aw:(cj++[x]).length=rows.length+a6+4:=by rw[Uu,nV];rfl
 have:=q (cj++[x]) oc (q1Q (λds hd=>by
  rw[aw];rcases UD.mp hd with z|z
  ·exact sC ds z
  ·rw[UJ.mp z];exact sE) sD (by lia) (by lia)) Bc
 simpa using this
local macro_rules|`(tactic|walk_at "vx")=>`(tactic|simp only[zx,jG,jF,zu,vX,uTry,zy,zw,jI,jJ,endX,zR,QK,uX0,jH,xL,xK,xo])
local macro_rules|`(tactic|walk_at "pk")=>`(tactic|(walk_at "v"; repeat ((first|walk_at "vx" |refine qL (by decide) ?_|refine qO rfl ?_|refine qR false rfl rfl rfl (by decide) ?_|refine qR true rfl rfl rfl (by decide) ?_); walk_at "v")))
def repl(ds:List T):List T:=match ds with
 |.str w::r=>if w = "times" then .str "plus" :: r else ds
 |_=>ds
theorem kj{w:Str}{r:List T}(h:w ≠ "times"):repl (.str w::r)=.str w::r:=GH h
theorem Q9{r:List T}:repl (.str "times" :: r)=.str "plus" :: r:=by
 show(if("times" : Str) = "times" then T.str "plus" :: r else T.str "times" :: r)=_;rw[GL rfl]
theorem RowI.head{n:Nat}{ds:List T}(h:RowI n ds):∃w r,ds=.str w::r/\(w = "times" -> ∃r' q p:Nat,r'<8/\q<8/\p<8/\r=[.int (r':Int),.int (q:Int),.int (p:Int)]):=by
 cases h with
 |deed w r h hw=>
  refine⟨w,r,rfl,λe=>?_⟩;subst e;cases h with
  |five _ hw r' q p h1 h2 h3=>exact⟨r',q,p,h1,h2,h3,rfl⟩
  |get _ hw=>exact absurd hw (by decide)
  |set _ hw=>exact absurd hw (by decide)
 |_=>exact⟨_,_,rfl,λe=>absurd e (by decide)⟩
theorem RowI.repl{n:Nat}{ds:List T}(h:RowI n ds):RowI n (repl ds)/\∀r,repl ds ≠ .str "times" :: r:=by
 obtain⟨w,r,rfl,ht⟩:=h.head;by_cases hw:w = "times"
 ·subst hw
  obtain⟨r',q,p,h1,h2,h3,rfl⟩:=ht rfl;rw[Q9];exact⟨.deed _ _ (.five _ (.inl rfl) r' q p h1 h2 h3) (by decide),λr=>Qd (by decide)⟩
 ·rw[kj hw]
  exact⟨h,λr=>Qd hw⟩
theorem ScrI.repl{rows:List (List T)}(S:ScrI rows):ScrI (rows.map repl)/\∀ds∈rows.map Mw.repl,∀r,ds ≠ .str "times" :: r:=by
 refine⟨⟨λds hd=>?_,λds hd=>?_,by rw[Uw];exact S.n0,by rw[Uw];exact S.n1⟩,λds hd r=>?_⟩
 ·obtain⟨x,hx,rfl⟩:=Dy.mp hd
  rw[Uw];exact(S.r x hx).repl.1
 ·rw[Uw,UW]at hd
  cases hx:rows[rows.length-1]? with
  |none=>rw[hx]at hd;cases hd
  |some x=>
   rw[hx]at hd;cases hd;rcases S.l x hx with rfl|⟨t,rfl⟩
   ·exact .inl (kj (by decide))
   ·exact .inr ⟨t,kj (by decide)⟩
 ·obtain⟨x,hx,rfl⟩:=Dy.mp hd
  exact(S.r x hx).repl.2 r
abbrev xw:Stmt:=top 91
theorem scSomeScript:q00 ["bag","most","some"] ["bag","most"] (qd xw):=by ac_rfl
theorem Vm:(["bag","most","some","row"]:List Str).Nodup:=by decide+kernel
def kP:List U->MM->UK->Prop:=λus M Q=>∃(k:Nat)(o:MO)(n:Nat),us=[.m k,.p (.int (n:Int))]/\M[k]?=some o/\BagO o/\n<=400/\∀(rows:List (List T))(M':MM)(o':MO),BagO o'->M'[k]?=some o'->(∀i,i<M.length->i≠k->M'[i]?=M[i]?)->M.length<=M'.length->ScrI rows->(∃e ns az ar,Walk rows False n wsN [] 0 e ns az ar)->Q (.p (.lst (rows.map T.tup))) M'
theorem ky{f:Addr}{fd:FuncData}(F:Fun K "_law_some_script" "_law_some_script" xw f fd)(N:Nms mg)(a8:Def P w K mg base "_law_draw" 1 ["bag","many"] (spU jN))(bH:Def P w K mg base "_law_any_script" 5 ["bag"] (spU Vt))(bi:Def P w K mg base "_law_long_script" 4 ["bag"] (spU Vt))(bb:Def P w K mg base "_law_fresh" 1 [] (spU Zn))(bD:Def P w K mg base "_law_walk" 6 ["own","script","most"] (spU q0f)):FnOk P w K mg base CX0 7 f fd ["bag","most"] (spU kP):=by
 refine F.zU scSomeScript (by rintro _ _ _ ⟨_,_,_,rfl,_⟩;rfl) (λae A outer s H E hr=>?_);refine⟨_,(qb (qB (i:=2) scSomeScript.nd rfl Gx (vm (qi op_eq (qo a8 (YH hr) (qa2 qv0 qa)) qa (qm _)) (qo bH (YH hr) (qa1 qv0)) (qo bi (YH hr) (qa1 qv0)))) (qb (qP (qi op_eq (qj (qh (K:=K) rfl) (qj (qh (K:=K) rfl) (qo bD (YH hr) (qa3 (kq bb (YH hr)) qv2 qv1)) qa (λ_ _=>rfl)) qa (λ_ _=>rfl)) qc (qm _)) (qe (q4p (i:=2) [false,false,false] ["row"] scSomeScript.nd rfl rfl (v8 (K:=K) rfl qv2) (λ_ _ _=>(vb (i:=3) Vm rfl Gx)) (λ_ _ _=>zq) (λ_ _ _=>(vm (qi op_eq (qj (qh (K:=K) rfl) qv3 qa (λ_ _=>rfl)) qc (qm _)) (qC (Jn (K:=K) rfl) (qu (qa1 qc)) (zr (QR (K:=K) rfl) qv3 (xC qa) xD)) qv3)))) qx) (qe (qt qv2)))),_,(qy (by right) (qy (zc (by right) (vQ (VG (by right) (x9 3) Zw (q45 (by right) (ja Jj (by right) (by right)) (qr 3))) (ve 2)) vj) (by right))),λus M Qu h=>?_⟩;obtain⟨k,o,n,rfl,em,B,hn,q⟩:=h;refine xc (λaR M'=>∃(o':MO)(rows:List (List T)),BagO o'/\M'=M.set k o'/\ScrI rows/\aR=[some (.m k),some (.p (.int (n:Int))),some (.p (.lst (rows.map T.tup)))]) (λnx cM=>?_) (λaR M' hI=>?_)
 ·have hk:=(Us.mp em).1
  symm;refine⟨k,o,6,rfl,em,B,by decide,by decide,λd o1 d0 d1 B1=>?_⟩;symm;refine ite2 (λh5=>?_) (λh5=>?_)
  ·refine⟨k,o1,rfl,UC hk,B1,λrows o2 S B2=>?_⟩
   rw[Dx];exact cM _ _ ⟨o2,rows,B2,rfl,S,rfl⟩
  ·refine⟨k,o1,rfl,UC hk,B1,λrows o2 S B2=>?_⟩
   rw[Dx];exact cM _ _ ⟨o2,rows,B2,rfl,S,rfl⟩
 obtain⟨o2,rows,B2,rfl,S,rfl⟩:=hI;have hk:=(Us.mp em).1;obtain⟨e,ns,az,ar,W,_⟩:=jd S (g:=True) (.inl trivial) n wsN [] 0 12000 (by have:=S.n0;lia) wok_new ZN (Ux _) (by lia) (by show 0+n<=1000;lia);have hl:(M.set k o2).length=M.length:=UB;have base:∀M1:MM,(∀i,i<(M.set k o2).length->M1[i]?=(M.set k o2)[i]?)->(M.set k o2).length<=M1.length->M1[k]?=some o2/\(∀i,i<M.length->i≠k->M1[i]?=M[i]?)/\M.length<=M1.length:=λM1 h1 h2=>⟨(h1 k (by lia)).trans (UC hk),λi hi cJ=>(h1 i (by lia)).trans (Uv (Ne.symm cJ)),by lia⟩;symm;refine⟨rfl,?_⟩;symm;refine⟨oF (M.set k o2).length,wsN, [],rows,n,e,ns,az,ar,rfl,Xm,hn,by show 0+n<=1000;lia,W,λM1 o' k1 nk O' g nW c7 e1 e2=>?_⟩;have g1:(∀i,i<(M.set k o2).length->M1[i]?=(M.set k o2)[i]?)/\(M.set k o2).length<=M1.length:=by
  have l:=g.len;rw[Uu]at l;refine⟨λi hi=>?_,by lia⟩;rw[g.fr i (by rw[Uu];lia) λj _ e=>by unfold oF at e;split at e<;>lia];exact zD hi
 obtain⟨w,r,rfl,hW⟩:=W.word;refine xG (us:=[.p (.tup (.str w::r)),.m nk]) (by simp[vB,e1]) rfl ?_;symm;refine vc at0 ?_;symm;have hb:=base M1 g1.1 g1.2;refine ite2 (λik=>?_) (λik=>?_)
 ·symm
  refine Qg (ts:=rows.map T.tup) (by rw[Uw];exact U1 (qF (by have:=S.n1;lia))) (λi a9 M'=>M'=M1/\a9=((rows.take i).map repl).map T.tup) ⟨rfl,rfl⟩ ?_ ?_
  ·rintro i x a9 M' hx _ ⟨rfl,rfl⟩
   rw[UW]at hx;cases hd:rows[i]? with
   |none=>rw[hd]at hx;cases hx
   |some ds=>
   rw[hd]at hx;cases hx;have il:((rows.take (i+1)).map repl).map T.tup=((rows.take i).map repl).map T.tup++[T.tup (repl ds)]:=by rw[DU,hd];simp
   obtain⟨w',r',rfl,ht⟩:=(S.r ds (Uy hd)).head;symm;refine vc at0 ?_;symm;refine ite2 (λhw=>?_) (λhw=>?_)
   ·subst hw
    obtain⟨r1,q1,p1,_,_,_,rfl⟩:=ht rfl;left;refine⟨_,rfl,by show ¬(HT.sIx 4 0 (some 1)=0/\HT.sIx 4 4 none=4);decide,?_⟩;refine⟨_,.tup [.int (r1:Int),.int (q1:Int),.int (p1:Int)],rfl,rfl,?_⟩;refine⟨_,_,rfl,rfl,DZ _ _,DZ _ _,by show 1+3<=sizeLine;decide,?_⟩;exact⟨_,rfl,rfl,by rw[il,Q9];rfl⟩
   ·rw[il,kj hw]
  ·rintro a9 M' ⟨rfl,rfl⟩
   have im:(rows.map T.tup).length=rows.length:=Uw _;rw[im,DY];obtain⟨e',iP,gq,gr,W',_⟩:=jd S.repl.1 (g:=False) (.inr S.repl.2) n wsN [] 0 12000 (by have:=S.n0;rw[Uw];lia) wok_new ZN (Ux _) (by lia) (by show 0+n<=1000;lia);symm;exact q _ M' o2 B2 hb.1 hb.2.1 hb.2.2 S.repl.1 ⟨_,_,_,_,W'⟩
 ·symm
  exact q rows M1 o2 B2 hb.1 hb.2.1 hb.2.2 S ⟨_,_,_,_,hW ik⟩
structure Bes(C D:Addr)(M:MM)(b:Nat)(ob:MO)(s o:Nm)(ws:List Wt)(ps:WW):Prop where
 W:Two C D M s o ws ps
 hb:M[b]?=some ob
 B:BagO ob
 ns:∀i,i<ps.length+2->s i≠b
 no:∀i,i<ps.length+3->o i≠b
theorem vP:∀{n:Nat}{t:T},depT n t->depT (n+1) t
 |0,_,h=>h.elim
 |n+1,.tup xs,h=>⟨h.1,λx hx=>vP (h.2 x hx)⟩
 |n+1,.lst xs,h=>⟨h.1,λx hx=>vP (h.2 x hx)⟩
 |n+1,.non,_=>trivial
 |n+1,.bl _,_=>trivial
 |n+1,.int _,_=>trivial
 |n+1,.str _,_=>trivial
section
variable {C D:Addr}{M M' M1 M2:MM}{b:Nat}{ob cy:MO}{s o s' o':Nm}{ws ay:List Wt}{ps aj:WW}{a6:Int}{Q:UK}{m:Nat}
theorem Bes.put(R:Bes C D M b ob s o ws ps)(B':BagO cy):Bes C D (M.set b cy) b cy s o ws ps:=⟨⟨R.W.S.skip R.ns,R.W.O.skip R.no,R.W.d⟩,UC (Us.mp R.hb).1,B',R.ns,R.no⟩
theorem Bes.drawS(R:Bes C D M b ob s o ws ps)(h0:0<a6)(h1:a6.natAbs.log2<9000)(q:∀(M':MM)(f:Int)(cy:MO),0<=f->f<a6->Bes C D M' b cy s o ws ps->Q (.p (.int f)) M'):jN [.m b,.p (.int a6)] M Q:=⟨b,ob,a6,rfl,R.hb,R.B,h0,h1,λf o' f0 f1 B'=>q _ f o' f0 f1 (R.put B')⟩
theorem Bes.anyS(R:Bes C D M b ob s o ws ps)(q:∀(M':MM)(n:Int)(cy:MO),Bt 300 n->Bes C D M' b cy s o ws ps->Q (.p (.int n)) M'):vG [.m b] M Q:=⟨b,ob,rfl,R.hb,R.B,λn o' B' hn=>q _ n o' hn (R.put B')⟩
theorem Bes.step(R:Bes C D M b ob s o ws ps)(S1:Sto C D M1 s' ay aj)(g1:Go M M1 s s' (ps.length+2) (aj.length+2))(O2:Own M2 o' ay aj)(g2:Go M1 M2 o o' (ps.length+3) (aj.length+3)):Bes C D M2 b ob s' o' ay aj/\s' 0=s 0/\o' 0=o 0:=by
 have st:=R.W.step S1 g1 O2 g2;have hb:=(Us.mp R.hb).1;refine⟨⟨st.1,(st.2.fr b hb (λi hi e=>R.ns i hi e.symm) λi hi e=>R.no i hi e.symm).trans R.hb,R.B,λi hi e=>?_,λi hi e=>?_⟩,st.2.z,st.2.y⟩
 ·rcases st.2.ns i hi with⟨j,hj,z⟩|z
  ·exact R.ns j hj (z.symm.trans e)
  ·lia
 ·rcases st.2.no i hi with⟨j,hj,z⟩|z
  ·exact R.no j hj (z.symm.trans e)
  ·lia
end
abbrev jf:Stmt:=top 92
theorem scSomeDeeds:q00 ["bag","store","own","k","r","q","p","some","deed"] ["bag","store","own"] (qd jf):=by ac_rfl
def Qo(C D:Addr):List U->MM->UK->Prop:=λus M Q=>∃(b:Nat)(ob:MO)(s o:Nm)(ws:List Wt)(ps:WW)(m:Nat),us=[.m b,.m (s 0),.m (o 0)]/\Bes C D M b ob s o ws ps/\WOk ws ps/\szL m ws ps/\12000<=m/\m+10<=13000/\ps.length+10<=999 /\
 ∀M' cy s' o' ay aj,Bes C D M' b cy s' o' ay aj->WOk ay aj->szL (m+10) ay aj->aj.length<=ps.length+10->s' 0=s 0->o' 0=o 0->Q (.p (.bl true)) M'
theorem k9{C D:Addr}{f:Addr}{fd:FuncData}(F:Fun K "_law_some_deeds" "_law_some_deeds" jf f fd)(N:Nms mg)(a8:Def P w K mg base "_law_draw" 1 ["bag","many"] (spU jN))(ak:Def P w K mg base "_law_any_number" 2 ["bag"] (spU vG))(dm:Def P w K mg base "_law_done" 7 ["store","deed"] (spU (q4D C D)))(bP:Def P w K mg base "_law_own_do" 3 ["own","deed"] (spU Qq))(bA:Def P w K mg base "_law_own_ask" 2 ["own","deed"] (spU Vu))(aL:Def P w K mg base "_law_alike" 6 ["found","due"] (spP (JI 5))):FnOk P w K mg base CX0 8 f fd ["bag","store","own"] (spU (Qo C D)):=by
 refine F.zU scSomeDeeds (by rintro _ _ _ ⟨_,_,_,_,_,_,_,rfl,_⟩;rfl) (λae A outer s H E hr=>?_);refine⟨_,(qb (xp PassesOwn.never rfl (vK rfl N.range (qa1 (qo a8 (YH hr) (qa2 qv0 qa)))) (vb (i:=3) scSomeDeeds.nd rfl Gx) (qb (YA (i:=4) (j:=5) (k:=6) rfl scSomeDeeds.nd rfl rfl rfl (by decide) (by decide) (by decide) rfl rfl rfl (qa3 (qo a8 (YH hr) (qa2 qv0 qa)) (qo a8 (YH hr) (qa2 qv0 qa)) (qo a8 (YH hr) (qa2 qv0 qa))) rfl) (qb (qB (i:=7) scSomeDeeds.nd rfl Gx (qG (qa4 (qu (qa3 qc qv4 (qo ak (YH hr) (qa1 qv0)))) (qu (qa4 qc qv4 qv5 qv6)) (qu (qa3 qc qv4 qv5)) (qu (qa4 qc qv4 qv5 qv6))))) (qb (qB (i:=8) scSomeDeeds.nd rfl Gx (qj (qf (K:=K) rfl) (qC zB qv7 (qG (qa2 (qu (qa3 qc qv4 qv5)) (qu (qa3 qc qv5 qv6))))) (qo a8 (YH hr) (qa2 qv0 qa)) (λ_ _=>rfl))) (qe (qP (Qj (vJ (qo aL (YH hr) (qa2 (qo dm (YH hr) (qa2 qv1 (qv 8))) (qo bP (YH hr) (qa2 qv2 (qv 8))))))) (qe (qt Vf)) qx)))))) (qb (xp PassesOwn.never rfl (vK rfl N.range (qa1 qa)) (vb (i:=5) scSomeDeeds.nd rfl Gx) (qe (xp PassesOwn.never rfl (v8 (K:=K) rfl (qG (qa4 (qu (qa2 qc qv5)) (qu (qa2 qc qv5)) (qu (qa3 qc qv5 qa)) (qu (qa3 qc qv5 (qC xq (qC vq qv5 qa) qa)))))) (vb (i:=8) scSomeDeeds.nd rfl Gx) (qe (qP (Qj (vJ (qo aL (YH hr) (qa2 (qo dm (YH hr) (qa2 qv1 (qv 8))) (qo bA (YH hr) (qa2 qv2 (qv 8))))))) (qe (qt Vf)) qx))))) (qe (qt Vf)))),_,(qy (kS (by right) (ve 3) (qy (W9 (ql (vz (ql (qr 0) (ql YJ qJ))) (ql (vz (ql (qr 0) (ql YJ qJ))) (ql (vz (ql (qr 0) (ql YJ qJ))) qJ)))) (by right))) (by right)),λus M Qu h=>?_⟩;obtain⟨b,ob,s,o,ws,ps,m,rfl,R,k,z,m0,m1,hl,q⟩:=h;symm;refine R.drawS (by decide) (by decide) λM1 cnt g6 c0 c1 R1=>?_;refine jv (by lia) (by lia) ?_;refine xJ (λi ρ M'=>∃cy s' o' ay aj x3 x4 x5 x6 x7 x8,ρ=[some (.m b),some (.m (s 0)),some (.m (o 0)),x3,x4,x5,x6,x7,x8]/\Bes C D M' b cy s' o' ay aj/\WOk ay aj/\szL (m+i) ay aj/\aj.length<=ps.length+i/\s' 0=s 0/\o' 0=o 0) ⟨g6,s,o,ws,ps,_,_,_,_,_,_,rfl,R1,k,z,Ux _,rfl,rfl⟩ ?_ ?_
 ·rintro i ρ M' hi ⟨cy,s',o',ay,aj,x3,x4,x5,x6,x7,x8,rfl,R2,k2,z2,l2,es,eo⟩
  have hi:i<cnt.toNat:=hi;symm;refine R2.drawS (by decide) (by decide) λM2 r ob2 r0 r1 R3=>?_;obtain⟨r,rfl⟩:∃j:Nat,r=(j:Int):=⟨r.toNat,by lia⟩;refine R3.drawS (by decide) (by decide) λM3 qq ob3 q0 q1 R4=>?_;obtain⟨qq,rfl⟩:∃j:Nat,qq=(j:Int):=⟨qq.toNat,by lia⟩;refine R4.drawS (by decide) (by decide) λM4 p ob4 p0 p1 R5=>?_;obtain⟨p,rfl⟩:∃j:Nat,p=(j:Int):=⟨p.toNat,by lia⟩;have aY:r<8:=by lia
  have ef:qq<8:=by lia
  have fZ:p<8:=by lia
  symm;refine R5.anyS λM5 n ob5 hn R6=>?_;symm;refine⟨by show 4+2<=sizeLine;decide,?_⟩;symm;refine R6.drawS (by decide) (by decide) λM6 dx ob6 dx0 dx1 R7=>?_;obtain⟨ds,dZ,hf,mw⟩:∃ds:List T,atI [T.tup [T.str "number", T.int (r:Int),T.int n],T.tup [T.str "pair", T.int (r:Int),T.int (qq:Int),T.int (p:Int)],T.tup [T.str "copy", T.int (r:Int),T.int (qq:Int)],T.tup [T.str "less", T.int (r:Int),T.int (qq:Int),T.int (p:Int)],T.tup [T.str "first", T.int (r:Int),T.int (qq:Int)],T.tup [T.str "set_second", T.int (qq:Int),T.int (p:Int)]] dx=some (.tup ds)/\Formed ds/\∃w r,ds=.str w::r/\w ≠ "times" /\ w ≠ "below" := by
   rcases(show dx=0\/dx=1\/dx=2\/dx=3\/dx=4\/dx=5 by lia)with rfl|rfl|rfl|rfl|rfl|rfl
   ·exact⟨_,rfl,.num r n aY hn,_,_,rfl,by decide,by decide⟩
   ·exact⟨_,rfl,.pair r qq p aY ef fZ,_,_,rfl,by decide,by decide⟩
   ·exact⟨_,rfl,.copy r qq aY ef,_,_,rfl,by decide,by decide⟩
   ·exact⟨_,rfl,.five _ (.inr (.inl rfl)) r qq p aY ef fZ,_,_,rfl,by decide,by decide⟩
   ·exact⟨_,rfl,.get _ (.inl rfl) r qq aY ef,_,_,rfl,by decide,by decide⟩
   ·exact⟨_,rfl,.set _ (.inr rfl) qq p ef fZ,_,_,rfl,by decide,by decide⟩
  refine qX dZ ?_;obtain⟨w,rr,rfl,mL,iV⟩:=mw;symm;have hsz:aj.length<1000:=by lia
  rcases hf.comes (m:=m+i) (ps:=aj) (WV mL) k2.n k2.ww z2 (by lia) (by lia) with⟨gq,gr,hd,hl3,z3⟩|⟨bU,hd⟩|⟨nm,pp,hd⟩|⟨pp,hd⟩
  ·refine⟨_,_,rfl,s',ay,aj,es.symm,R7.W.S,.inl ⟨_,_,hd,λMa s3 S3 g1=>⟨.non,rfl,?_⟩⟩⟩
   symm;refine⟨o',ay,aj,_,by rw[eo],R7.W.mid g1,hsz,.inl ⟨_,_,hd,λMb o3 O3 g2=>?_⟩⟩;symm;refine⟨_,rfl,vP (vP (VD trivial trivial)),?_⟩;symm;obtain⟨R8,e1,e2⟩:=R7.step S3 g1 O3 g2;exact⟨_,s3,o3,gq,gr,_,_,_,_,_,_,rfl,R8,hd.ok k2,z3,by lia,e1.trans es,e2.trans eo⟩
  ·exact VM (hf.noask iV) hd.word rfl
  ·refine⟨_,_,rfl,s',ay,aj,es.symm,R7.W.S,.inr (.inr (.inl ⟨_,_,hd,?_⟩))⟩
   symm;refine⟨o',ay,aj,_,by rw[eo],R7.W.O,hsz,.inr ⟨_,_,hd,?_⟩⟩;symm;refine⟨_,rfl,vP (vP (VD trivial q4I)),?_⟩;symm;exact⟨_,s',o',ay,aj,_,_,_,_,_,_,rfl,R7,k2,z2.mono (by lia),by lia,es,eo⟩
  ·exact VM (hf.noask iV) hd.word rfl
 ·rintro ρ M' ⟨cy,s',o',ay,aj,x3,x4,x5,x6,x7,x8,rfl,R2,k2,z2,l2,es,eo⟩
  have hc:cnt.toNat<=10:=by lia
  have z2:szL (m+cnt.toNat) ay aj:=z2;have l2:aj.length<=ps.length+cnt.toNat:=l2;symm;refine jv (by decide) (by decide) ?_;refine xJ (λi ρ M3=>∃y5 y8,ρ=[some (.m b),some (.m (s 0)),some (.m (o 0)),x3,x4,y5,x6,x7,y8]/\M3=M') ⟨_,_,rfl,rfl⟩ ?_ ?_
  ·rintro i ρ M3 hi ⟨y5,y8,rfl,rfl⟩
   have sF:i<8:=hi;symm;have cQ:∀t∈[T.tup [T.str "kind", T.int (i:Int)],T.tup [T.str "told", T.int (i:Int)],T.tup [T.str "same", T.int (i:Int),T.int 0],T.tup [T.str "same", T.int (i:Int),T.int (((i:Int)+3) % 8)]],∃ds bU,t=.tup ds/\DeedAsk ay ds bU:=by
    obtain⟨x,hx⟩:=zp k2.n sF;obtain⟨y,hy⟩:=zp k2.n (q:=(i+3) % 8) (Nat.mod_lt _ (by decide));obtain⟨zz,hz⟩:=zp k2.n (q:=0) (by decide);rw[show((i:Int)+3) % 8=(((i+3) % 8:Nat):Int) by lia];intro t ht;simp only[UQ,UY,GS]at ht;rcases ht with rfl|rfl|rfl|rfl
    ·exact⟨_,_,rfl,.kind i x hx⟩
    ·exact⟨_,_,rfl,.told i x hx⟩
    ·exact⟨_,_,rfl,.same i 0 x zz hx hz⟩
    ·exact⟨_,_,rfl,.same i _ x y hx hy⟩
   refine⟨by decide,?_⟩;refine j3 (λj ρ M4=>∃y8,ρ=[some (.m b),some (.m (s 0)),some (.m (o 0)),x3,x4,some (.p (.int (i:Int))),x6,x7,y8]/\M4=M3) ⟨_,rfl,rfl⟩ ?_ ?_
   ·rintro j t ρ M4 ht ⟨y8,rfl,rfl⟩
    obtain⟨ds,bU,rfl,hd⟩:=cQ t (Uy ht);symm;refine⟨_,_,rfl,s',ay,aj,es.symm,R2.W.S,.inr (.inl ⟨_,hd,_,rfl,?_⟩)⟩;symm;refine⟨o',ay,aj,_,by rw[eo],R2.W.O,.inl ⟨_,hd,?_⟩⟩;symm;refine⟨_,rfl,vP (vP (VD trivial hd.dep)),?_⟩;symm;exact⟨_,rfl⟩
   ·rintro ρ M4 ⟨y8,rfl,rfl⟩
    exact⟨_,_,rfl,rfl⟩
  ·rintro ρ M3 ⟨y5,y8,rfl,rfl⟩
   symm;exact q _ _ _ _ _ _ R2 k2 (z2.mono (by lia)) (by lia) es eo
local macro_rules|`(tactic|walk_at "vx")=>`(tactic|simp only[zx,jG,jF,zu,vX,uTry,zy,zw,jI,jJ,endX,zR,QK,uX0,jH,xL,xK,xo,K0])
theorem gapp{M L:MM}{k:Nat}:(M++L)[M.length+k]?=L[k]?:=by rw[UM (by lia)];congr 1;lia
theorem q02{n:Nat}{M:MM}:∀{ns:List T},frzs (frzN n M) (ns.map U.p)=some ns
 | []=>rfl
 |t::ns=>by
  have h:frzN n M (.p t)=some t:=by cases n<;>rfl
  simp only[UZ,frzs,h,q02]
theorem jn{M:MM}{k nk:Nat}{e:T}{ns:List T}(h1:M[k]?=some (.tup [.p e,.m nk]))(h2:M[nk]?=some (.lst (ns.map U.p))):frzN 6 M (.m k)=some (.tup [e,.lst ns]):=by
 have a:frzN 5 M (.p e)=some e:=rfl;have b:frzN 5 M (.m nk)=some (.lst ns):=by simp only[frzN,h2,q02];rfl
 rw[frzN,h1];simp only[frzs,a,b];rfl
theorem Walk.deep{rows:List (List T)}{g:Prop}{n:Nat}{ws az:List Wt}{ps ar:WW}{a:Nat}{e:T}{ns:List T}(h:Walk rows g n ws ps a e ns az ar)(hn:n<=400):depT 5 (.tup [e,.lst ns]):=by
 have hd:=h.dep;have he:depT 4 e:=by
  clear hn hd
  induction h with
  |go _ _ _ _ _ _ _ _ _ _ _ _ _ _ _ _ ih=>exact ih
  |no _ _ _ _ _ _ p=>
   cases p with
   |none=>
    refine⟨by show 2<=10000000;decide,λx hx=>?_⟩;simp only[UQ,UY,GS]at hx;rcases hx with rfl|rfl<;>trivial
   |some p=>
    refine⟨by show 3<=10000000;decide,λx hx=>?_⟩;simp only[UQ,UY,GS]at hx;rcases hx with rfl|rfl|rfl<;>trivial
  |endd=>
   refine⟨by show 1<=10000000;decide,λx hx=>?_⟩;simp only[UQ,UY,GS]at hx;cases hx;trivial
  |_=>
   refine⟨by show 2<=10000000;decide,λx hx=>?_⟩;simp only[UQ,UY,GS]at hx;rcases hx with rfl|rfl<;>trivial
 refine⟨by show 2<=10000000;decide,λx hx=>?_⟩;simp only[UQ,UY,GS]at hx;rcases hx with rfl|rfl
 ·exact he
 ·refine⟨by lia,λy hy=>?_⟩
  obtain⟨w,rfl⟩:=hd.2 y hy;exact vP (JK w)
def oK(n p:Nat):Nm:=λi=>if i=0 then n+1+p+1 else if i=1 then n else if i=2 then n+1+p else n+1+(i-3)
theorem q1A{M:MM}{ws:List Wt}{ps:WW}(k:WOk ws ps):Own (M++([ol ws]++ps.map pl++[.lst ((List.range ps.length).map λj=>U.m (M.length+1+j)),.lst [.m M.length,.m (M.length+1+ps.length)]])) (oK M.length ps.length) ws ps:=by
 have lp:(ps.map pl).length=ps.length:=Uw _;have h1:∀{k:Nat},(M++([ol ws]++ps.map pl++[MO.lst ((List.range ps.length).map λj=>U.m (M.length+1+j)),.lst [.m M.length,.m (M.length+1+ps.length)]]))[M.length+1+ps.length+k]?=[MO.lst ((List.range ps.length).map λj=>U.m (M.length+1+j)),.lst [.m M.length,.m (M.length+1+ps.length)]][k]?:=λ{k}=>by
  rw[show M.length+1+ps.length+k=M.length+(1+ps.length+k) by lia,gapp,UM (by rw[Uu,lp];show 1+_<=_;lia)]
  congr 1;rw[Uu,lp];show _-(1+_)=_;lia
 refine⟨?_,?_,?_,λi x hi=>?_,k.n,λi j hi hj z=>?_,k.ww,k.wp⟩
 ·exact h1 (k:=1)
 ·exact gapp (k:=0)
 ·show _=some (MO.lst _)
  have:(λi=>U.m (oK M.length ps.length (i+3)))=λj=>U.m (M.length+1+j):=by
   funext i;unfold oK;rw[GH (by lia),GH (by lia),GH (by lia)];rfl
  rw[this];exact h1 (k:=0)
 ·have hl:=(Us.mp hi).1
  have e:oK M.length ps.length (i+3)=M.length+(1+i):=by
   unfold oK;rw[GH (by lia),GH (by lia),GH (by lia)];lia
  rw[e,gapp,Uz (by rw[Uu,lp];show _<1+_;lia),UM (by show 1<=_;lia)];show(ps.map pl)[1+i-1]?=_;rw[show 1+i-1=i by lia,UW,hi];rfl
 ·unfold oK at z
  (repeat' split at z)<;>lia
theorem Bes.far{C D:Addr}{M M':MM}{b:Nat}{ob:MO}{s o:Nm}{ws:List Wt}{ps:WW}(R:Bes C D M b ob s o ws ps)(h:∀i,i<M.length->M'[i]?=M[i]?):Bes C D M' b ob s o ws ps :=
 ⟨⟨R.W.S.go λi hi=>h _ (R.W.S.lt hi),R.W.O.go λi hi=>h _ (R.W.O.lt hi),R.W.d⟩,(h b (Us.mp R.hb).1).trans R.hb,R.B,R.ns,R.no⟩
theorem q4t{C D:Addr}{M:MM}{b:Nat}{ob:MO}(hb:M[b]?=some ob)(B:BagO ob):Bes C D (M++[.ins C [("held",.m (M.length+1))],hl id wsN]++[ol wsN,.lst [],.lst [.m (M++[MO.ins C [("held",.m (M.length+1))],hl id wsN]).length,.m ((M++[MO.ins C [("held",.m (M.length+1))],hl id wsN]).length+1)]]) b ob (λi=>i+M.length) (oF (M++[MO.ins C [("held",.m (M.length+1))],hl id wsN]).length) wsN []:=by
 have l:(M++[MO.ins C [("held",.m (M.length+1))],hl id wsN]).length=M.length+2:=by rw[Uu];rfl
 have sG:=(Us.mp hb).1;refine⟨⟨sto_new.go λi hi=>zD (by rw[l];show i+_<_;have:i<2:=hi;lia),Xm,λi j hi hj z=>?_⟩,by rw[zD (by lia),zD sG];exact hb,B,λi hi z=>?_,λi hi z=>?_⟩
 ·have hi:i<2:=hi
  have z:i+M.length=_:=z;unfold oF at z;split at z<;>lia
 ·have z:i+M.length=b:=z
  lia
 ·unfold oF at z
  split at z<;>lia
abbrev xB:Stmt:=top 93
theorem scGoneByHand:q00 ["bag","script","most","store","own","turn","kept","some"] ["bag","script","most"] (qd xB):=by ac_rfl
theorem Vo:(["bag","script","most","store","own","turn","kept","some","one"]:List Str).Nodup:=by decide+kernel
theorem Vn:(["bag","script","most","store","own","turn","kept","some","row"]:List Str).Nodup:=by decide+kernel
def WM:List U->MM->UK->Prop:=λus M Q=>∃(b:Nat)(ob:MO)(rows:List (List T))(n:Nat),us=[.m b,.p (.lst (rows.map T.tup)),.p (.int (n:Int))]/\M[b]?=some ob/\BagO ob/\ScrI rows/\n<=400/\∀M',Q (.p (.bl true)) M'
theorem Xw{C D:Addr}{f:Addr}{fd:FuncData}(F:Fun K "_law_gone_by_hand" "_law_gone_by_hand" xB f fd)(N:Nms mg)(eJ:q03 P w K mg base C "PlainStore" 1 ["self"] (spU (Zm C)))(bb:Def P w K mg base "_law_fresh" 1 [] (spU Zn))(bc:Def P w K mg base "_law_some_deeds" 8 ["bag","store","own"] (spU (Qo C D)))(bD:Def P w K mg base "_law_walk" 6 ["own","script","most"] (spU q0f))(aL:Def P w K mg base "_law_alike" 6 ["found","due"] (spP (JI 5)))(eK:Def P w K mg base "go" 10 ["script","store","most"] (spU (gGo C D))):FnOk P w K mg base CX0 11 f fd ["bag","script","most"] (spU WM):=by
 refine F.zU scGoneByHand (by rintro _ _ _ ⟨_,_,_,_,rfl,_⟩;rfl) (λae A outer s H E hr=>?_);refine⟨_,(qb (qB (i:=3) scGoneByHand.nd rfl Gx (YE eJ (YH hr) rfl)) (qb (qB (i:=4) scGoneByHand.nd rfl Gx (kq bb (YH hr))) (qb (xp PassesOwn.never rfl (vK rfl N.range (qa1 qa)) (vb (i:=5) scGoneByHand.nd rfl Gx) (qb (qP (Qj (vJ (qo bc (YH hr) (qa3 qv0 qv3 qv4)))) (qe (qt Vf)) qx) (qb (qB (i:=6) scGoneByHand.nd rfl Gx (qG (qa2 (vL zf (by rfl) N.list jb (qa1 (qj (qf (K:=K) rfl) qv4 qa (λ_ _=>rfl)))) (Ke [false,false,false,false,false,false,false,false] ["one"] (v8 (K:=K) rfl (qj (qf (K:=K) rfl) qv4 qa (λ_ _=>rfl))) (λ_ _ _=>(vb (i:=8) Vo rfl Gx)) (λ_ _ _=>zq) (λ_ _ _=>(vL zf (by rfl) N.list jb (qa1 (qv 8)))))))) (qb (qB (i:=7) scGoneByHand.nd rfl Gx qv1) (qb (qP (qi op_eq (qj (qh (K:=K) rfl) (qj (qh (K:=K) rfl) (qo bD (YH hr) (qa3 qv6 qv7 qv2)) qa (λ_ _=>rfl)) qa (λ_ _=>rfl)) qc (qm _)) (qe (q4p (i:=7) [false,false,false,false,false,false,false,false] ["row"] scGoneByHand.nd rfl rfl (v8 (K:=K) rfl qv7) (λ_ _ _=>(vb (i:=8) Vn rfl Gx)) (λ_ _ _=>zq) (λ_ _ _=>(vm (qi op_eq (qj (qh (K:=K) rfl) (qv 8) qa (λ_ _=>rfl)) qc (qm _)) (qC (Jn (K:=K) rfl) (qu (qa1 qc)) (zr (QR (K:=K) rfl) (qv 8) (xC qa) xD)) (qv 8))))) qx) (qe (qP (Qj (vJ (qo aL (YH hr) (qa2 (qo eK (YH hr) (qa3 (vL zf (by rfl) N.list jb (qa1 qv7)) qv3 qv2)) (qo bD (YH hr) (qa3 qv4 qv7 qv2)))))) (qe (qt Vf)) qx))))))) (qe (qt (qo bc (YH hr) (qa3 qv0 qv3 qv4))))))),_,(qy (vQ (kW qJ) (ve 3)) (qy (by right) (qy (kS (by right) (ve 5) (qy (by right) (qy (vQ (kU (ql (JS (ql (vW (qr 4) YJ) qJ)) (ql (q1H (XX (vW (qr 4) YJ)) (x9 8) Zw (JS (ql (qr 8) qJ))) qJ))) (ve 6)) (qy (by right) (qy (zc (by right) (vQ (VG (by right) (x9 8) Zw (q45 (by right) (ja Jj (by right) (by right)) (qr 8))) (ve 7)) vj) (zc (W6 (ct_b (JU (by right)))) (by right) vj)))))) (by right)))),λus M Qu h=>?_⟩;obtain⟨b,ob,rows,n,rfl,hb,B,S,hn,q⟩:=h;symm;refine⟨M.length,rfl,qK,?_⟩;have e0:(M++[MO.ins C []]++[hl id wsN]).set M.length (.ins C [("held",.m (M.length+1))])=M++[.ins C [("held",.m (M.length+1))],hl id wsN]:=by
  rw[UN,Dp _ _ (Ux _),Dh];rfl
 have e1:(M++[MO.ins C []]).length=M.length+1:=by rw[Uu];rfl
 refine⟨rfl,?_⟩;rw[e1];rw[show hl id (List.replicate 8 (.one "none"))=hl id wsN from rfl,e0];symm;refine⟨rfl,?_⟩;have R0:=q4t (C:=C) (D:=D) hb B;generalize M++[MO.ins C [("held",.m (M.length+1))],hl id wsN]++[ol wsN,.lst [],.lst [.m (M++[MO.ins C [("held",.m (M.length+1))],hl id wsN]).length,.m ((M++[MO.ins C [("held",.m (M.length+1))],hl id wsN]).length+1)]]=M0 at R0 ⊢;symm;refine jv (by decide) (by decide) ?_;have sH:(0:Nat)+M.length=M.length:=DW _;refine xJ (λi ρ M'=>∃cy s' o' ay aj x5 x6 x7,ρ=[some (.m b),some (.p (.lst (rows.map T.tup))),some (.p (.int (n:Int))),some (.m (s' 0)),some (.m (o' 0)),x5,x6,x7]/\Bes C D M' b cy s' o' ay aj/\WOk ay aj/\szL (12000+410*i) ay aj/\aj.length<=410*i) ⟨ob,_,_,wsN, [],_,_,_,by rw[sH];rfl,R0,wok_new,ZN,Db _⟩ ?_ ?_
 ·rintro i ρ M' hi ⟨cy,s',o',ay,aj,x5,x6,x7,rfl,R,k,z,l⟩
  have hi:i<2:=hi;symm;refine⟨b,cy,s',o',ay,aj,12000+410*i,rfl,R,k,z,by lia,by lia,by lia,λM1 g6 s1 o1 aQ aq R1 k1 z1 l1 es eo=>?_⟩;rw[<-es, <-eo];left;refine qM R1.W.O ?_;left;refine⟨_,_,rfl,.inl (by simp[qI,R1.W.O.b,ol];rfl),?_⟩;left;have g0:∀{k:Nat}{L:List MO},k<M1.length->(M1++L)[k]?=M1[k]?:=λh=>zD h;refine xG (us:=[.m (o1 1),.m (o1 2)]) (by simp[qI,g0 (R1.W.O.lt (i:=0) (by lia)),R1.W.O.o0]) rfl ?_;refine Wy ((g0 (R1.W.O.lt (i:=2) (by lia))).trans R1.W.O.c) ?_;have nX:∀L:List MO,qI (M1++L) (.m (o1 2))=some ((List.range aq.length).map λi=>U.m (o1 (i+3))):=λL=>by simp[qI,g0 (L:=L) (R1.W.O.lt (i:=2) (by lia)),R1.W.O.c,cl]
  have bI:aq.length<1000:=by lia
  refine⟨by show((List.range aq.length).map _).length<=_;rw[Uw,Dz];exact U1 (qF (by lia)),λi a9 M2=>M2=M1++([ol aQ]++(aq.take i).map pl)/\a9=(List.range i).map λj=>U.m (M1.length+1+j),⟨by simp[ol],rfl⟩,?_,?_⟩
  ·rintro i a9 M2 hi _ ⟨rfl,rfl⟩
   have hi:i<aq.length:=by
    have:i<((List.range aq.length).map λi=>U.m (o1 (i+3))).length:=hi;rwa [Uw,Dz]at this
   refine⟨nX _,λu hu=>?_⟩;have hu:((List.range aq.length).map λi=>U.m (o1 (i+3)))[i]?=some u:=hu;rw[UW,RI hi]at hu;cases hu;have hp:=Ut hi;left;refine⟨_, [.p (tO aq[i].1),.p (tO aq[i].2)],rfl,.inl (by simp[qI,g0 (R1.W.O.lt (i:=i+3) (by lia)),R1.W.O.p i _ hp,pl]),?_⟩;have ll:(M1++ol aQ::(aq.take i).map pl).length=M1.length+1+i:=by
    simp only[Uu,Uw,Dj,UL];lia
   dsimp only;rw[ll];refine⟨?_,?_⟩
   ·rw[DU,hp,U7]
    simp[pl]
   ·rw[RB,U7]
    rfl
  rintro a9 M2 ⟨rfl,rfl⟩;have im:(itU (U.m (o1 2)) ((List.range aq.length).map λi=>U.m (o1 (i+3)))).n=aq.length:=by show((List.range aq.length).map _).length=_;rw[Uw,Dz]
  rw[im,DY];refine⟨nX _,?_⟩;have ll:(M1++([ol aQ]++aq.map pl)).length=M1.length+1+aq.length:=by
   simp only[Uu,Uw,U6];lia
  rw[ll];refine useq ?_;walk_at "vs";have R2:Bes C D (M1++ol aQ::List.map pl aq++[MO.lst (List.map (λj=>U.m (List.length M1+1+j)) (List.range (List.length aq)))]++[MO.lst [U.m (List.length M1),U.m (List.length M1+1+List.length aq)]]) b g6 s1 o1 aQ aq:=R1.far λi hi=>by rw[UN,UN];exact zD hi
  have OK:Own (M1++ol aQ::List.map pl aq++[MO.lst (List.map (λj=>U.m (List.length M1+1+j)) (List.range (List.length aq)))]++[MO.lst [U.m (List.length M1),U.m (List.length M1+1+List.length aq)]]) (oK M1.length aq.length) aQ aq:=by
   have:=q1A (M:=M1) k1;simpa using this
  have aw:(M1++ol aQ::List.map pl aq++[MO.lst (List.map (λj=>U.m (List.length M1+1+j)) (List.range (List.length aq)))]).length=oK M1.length aq.length 0:=by
   simp only[Uu,Uw,UL,Dg];show _=M1.length+1+aq.length+1;lia
  have sJ:∀j,j<aq.length+3->M1.length<=oK M1.length aq.length j:=λj _=>by unfold oK;(repeat' split)<;>lia
  rw[aw];have sK:M1.length<=(M1++ol aQ::List.map pl aq++[MO.lst (List.map (λj=>U.m (List.length M1+1+j)) (List.range (List.length aq)))]++[MO.lst [U.m (List.length M1),U.m (List.length M1+1+List.length aq)]]).length:=by rw[UN,UN,Uu];lia
  have nY:∀i,i<M1.length->(M1++ol aQ::List.map pl aq++[MO.lst (List.map (λj=>U.m (List.length M1+1+j)) (List.range (List.length aq)))]++[MO.lst [U.m (List.length M1),U.m (List.length M1+1+List.length aq)]])[i]?=M1[i]?:=λi hi=>by rw[UN,UN];exact zD hi
  generalize M1++ol aQ::List.map pl aq++[MO.lst (List.map (λj=>U.m (List.length M1+1+j)) (List.range (List.length aq)))]++[MO.lst [U.m (List.length M1),U.m (List.length M1+1+List.length aq)]]=M2 at R2 OK sK nY ⊢;obtain⟨e,ns,az,ar,W,k2,z2,l2⟩:=jd S (g:=True) (.inl trivial) n aQ aq 0 (12000+410*i+10) (by have:=S.n0;lia) k1 z1 (by lia) (by lia) (by lia);refine xc (λaR M'=>∃cn e ns az ar x6,ScrI cn/\Walk cn False n aQ aq 0 e ns az ar/\WOk az ar/\szL (12000+410*i+10+n) az ar/\ar.length<=aq.length+n/\Bes C D M' b g6 s1 o1 aQ aq/\aR=[some (.m b),some (.p (.lst (rows.map T.tup))),some (.p (.int (n:Int))),some (.m (s1 0)),some (.m (o1 0)),some (.p (.int (i:Int))),x6,some (.p (.lst (cn.map T.tup)))]) (λnx cM=>?_) (λaR M' hI=>?_)
  ·symm
   refine⟨oK M1.length aq.length,aQ,aq,rows,n,e,ns,az,ar,rfl,OK,hn,by lia,W,λM3 o' kk nk O' g nW c7 e1 e2=>?_⟩;have R3:Bes C D M3 b g6 s1 o1 aQ aq:=R1.far λj hj=>(g.fr j (by lia) λl hl=>by have:=sJ l hl;lia).trans (nY j hj);obtain⟨w,r,rfl,hW⟩:=W.word;refine xG (us:=[.p (.tup (.str w::r)),.m nk]) (by simp[vB,e1]) rfl ?_;symm;refine vc at0 ?_;symm;refine ite2 (λik=>?_) (λik=>?_)
   ·symm
    refine Qg (ts:=rows.map T.tup) (by rw[Uw];exact U1 (qF (by have:=S.n1;lia))) (λj a9 M'=>M'=M3/\a9=((rows.take j).map repl).map T.tup) ⟨rfl,rfl⟩ ?_ ?_
    ·rintro j x a9 M' hx _ ⟨rfl,rfl⟩
     rw[UW]at hx;cases hd:rows[j]? with
     |none=>rw[hd]at hx;cases hx
     |some ds=>
     rw[hd]at hx;cases hx;have il:((rows.take (j+1)).map repl).map T.tup=((rows.take j).map repl).map T.tup++[T.tup (repl ds)]:=by rw[DU,hd];simp
     obtain⟨w',r',rfl,ht⟩:=(S.r ds (Uy hd)).head;symm;refine vc at0 ?_;symm;refine ite2 (λhw=>?_) (λhw=>?_)
     ·subst hw
      obtain⟨r1,q1,p1,_,_,_,rfl⟩:=ht rfl;left;refine⟨_,rfl,by show ¬(HT.sIx 4 0 (some 1)=0/\HT.sIx 4 4 none=4);decide,?_⟩;refine⟨_,.tup [.int (r1:Int),.int (q1:Int),.int (p1:Int)],rfl,rfl,?_⟩;refine⟨_,_,rfl,rfl,DZ _ _,DZ _ _,by show 1+3<=sizeLine;decide,?_⟩;exact⟨_,rfl,rfl,by rw[il,Q9];rfl⟩
     ·rw[il,kj hw]
    ·rintro a9 M' ⟨rfl,rfl⟩
     have im:(rows.map T.tup).length=rows.length:=Uw _;rw[im,DY];obtain⟨e',iP,gq,gr,W',k3,z3,l3⟩:=jd S.repl.1 (g:=False) (.inr S.repl.2) n aQ aq 0 (12000+410*i+10) (by have:=S.n0;rw[Uw];lia) k1 z1 (by lia) (by lia) (by lia);exact cM _ _ ⟨_,_,_,_,_,_,S.repl.1,W',k3,z3,l3,R3,rfl⟩
   ·exact cM _ _ ⟨rows,_,_,_,_,_,S,hW ik,k2,z2,l2,R3,rfl⟩
  obtain⟨cn,e,ns,az,ar,x6,S2,W2,k2,z2,l2,R3,rfl⟩:=hI;left;refine⟨_,_,rfl,rfl,?_⟩;left;refine⟨s1,aQ,aq,cn,n,e,ns,az,ar,rfl,R3.W.S,hn,by lia,W2,λM3 s3 kk nk S3 g3 hk c7 e1 e2=>?_⟩;left;refine⟨o1,aQ,aq,cn,n,e,ns,az,ar,rfl,R3.W.mid g3,hn,by lia,W2.up,λM4 o4 k4 nk4 O4 g4 hk4 hnk4 a1 a2=>?_⟩;left;have iD:M4[kk]?=some (.tup [.p e,.m nk]):=by
   rw[g4.fr kk (Us.mp e1).1 λj hj z=>by have:=R3.W.O.lt hj;lia];exact e1
  have sL:M4[nk]?=some (.lst (ns.map U.p)):=by
   rw[g4.fr nk (Us.mp e2).1 λj hj z=>by have:=R3.W.O.lt hj;lia];exact e2
  refine⟨[_,_],by simp only[frzs,jn iD sL,jn a1 a2],_,rfl,W2.deep hn,?_⟩;symm;obtain⟨R4,sM,sN⟩:=R3.step S3 g3 O4 g4;exact⟨⟨_,rfl⟩,g6,s3,o4,az,ar,_,_,_,by rw[sM,sN],R4,k2,z2.mono (by lia),by lia⟩
 ·rintro ρ M' ⟨cy,s',o',ay,aj,x5,x6,x7,rfl,R,k,z,l⟩
  have z:szL (12000+410*2) ay aj:=z;have l:aj.length<=410*2:=l;symm;refine⟨b,cy,s',o',ay,aj,12000+410*2,rfl,R,k,z,by lia,by lia,by lia,λM1 g6 s1 o1 aQ aq R1 k1 z1 l1 es eo=>q M1⟩
def K9(K:PySem.W.Frag):Sp:=λvs H Q _=>∃(a:Addr)(ns:List Int),vs=[.ref a]/\SqL K H a (ns.map V.int)/\ns.length<=63/\∀H',Q (.bl true) H'
theorem q3F{st:Stmt}{f:Addr}{fd:FuncData}{N:List Str}{k:Nat}(F:Fun K "law" "law" st f fd)(S:q00 N ["script"] (qd st))(hN:2<=N.length)(aA:∀(ae:Value)(A:Around)(outer:List Env)(s:Shared)(H:Hp)(E:XK),Room k (A.deeper (envOfC "law" (qd st) s.heap.objs.size f ae)) ->
   ∃tR,QSs (cxOf CX0 P w K mg base N "law" (qd st) f ae A outer s H E).nox (vi st) (tSeq (tAsg (zC (q3A K) [] E0 (vH (tVar 0) tNil)) (qT 1)) tR)/\∃uR,ZS tR uR/\∀o,BagO o->uR { nx:=λ_ _=>False,rt:=λz _=>z=.p (.bl true) } (none::some (.m 0)::List.replicate (N.length-2) none) [o]):FnOk P w K mg base CX0 (k+1) f fd ["script"] (K9 K):=by
 refine F.okQ S (λvs H Q E h=>?_) (λae A outer s H vs Q E hr h=>?_)
 ·obtain⟨_,_,rfl,_⟩:=h
  rfl
 ·obtain⟨a,ns,rfl,hS,aw,k⟩:=h
  obtain⟨tR,hT,uR,hU,hq⟩:=aA ae A outer s H E hr;refine⟨_,hT,?_⟩;have sO:L2.start N [.ref a]=some (.ref a)::none::List.replicate (N.length-2) none:=by
   unfold L2.start;obtain⟨m,hm⟩:∃m,N.length=m+2:=⟨N.length-2,by lia⟩;rw[hm];rfl
  rw[sO];simp only[tSeq,tAsg,zC,vH,tNil,tVar,qT,Du,Option.some.injEq,exists_eq_left',U2,DP,DQ];refine⟨a,ns,rfl,hS,aw,λb H1 hb s1 B1=>?_⟩;obtain⟨c,iP,i,a',cO,n,iB,iu,r⟩:=id B1.ex;have m9:c≠b:=Gq iB iu;obtain⟨o,sP,ro,_⟩:=JX (A:=λ_=>False) (ι:=[b]) B1 ⟨_,iB⟩ (λz=>z.elim id λz=>m9 (by simpa using z));have w1:L2.Wd (λ_=>False) [b] H1 [o]:=⟨by simp,rfl,λx hx=>hx.elim,λx _ z=>z,λk a2 o2 e1 e2=>by
   match k,e1,e2 with
   |0,e1,e2=>cases e1;cases e2;exact ro
   |k+1,e1,_=>simp at e1⟩
  have env:EnvR (λ_=>False) [b] H1 (some (.ref a)::some (.ref b)::List.replicate (N.length-2) none) (none::some (.m 0)::List.replicate (N.length-2) none):=by
   refine .cons (λu e=>by cases e) (.cons (λu e=>by cases e;exact⟨_,rfl,.m rfl⟩) ?_);generalize N.length-2=m
   induction m with
   |zero=>exact .nil
   |succ m ih=>exact .cons (λu e=>by cases e) ih
  refine hU.h (λ_=>False) [b] _ H1 _ [o] _ { nx:=λ_ _=>False,rt:=λz _=>z=.p (.bl true) } w1 env ⟨λ_ _ _ _ _ _ _ _ q=>q.elim,λι v H2 u M _ _ ru q=>?_,λ_ _ _ _ _ _ _ _ q=>q.elim,λ_ _ _ _ _ _ _ _ q=>q.elim⟩ (hq o sP);have q:u=.p (.bl true):=q;subst q;cases ru with
  |p r=>cases r;exact k H2
theorem q1C{o:MO}{L:List MO}{a6:Int}{Q:UK}(B:BagO o)(h0:0<a6)(h1:a6.natAbs.log2<9000)(q:∀(aK:Int)(o':MO),0<=aK->aK<a6->BagO o'->Q (.p (.int aK)) (o'::L)):jN [.m 0,.p (.int a6)] (o::L) Q :=
 ⟨0,o,a6,rfl,rfl,B,h0,h1,λf o' f0 f1 B'=>q f o' f0 f1 B'⟩
local macro_rules|`(tactic|walk_at "vx")=>`(tactic|simp only[zx,jG,jF,zu,vX,uTry,zy,zw,jI,jJ,endX,zR,QK,uX0,jH,xL,xK,xo])
theorem q29{l:List Nat}:(l.all λ_=>true)=true:=DX.mpr λ_ _=>rfl
def IoS(t:T):Prop:=(∃i,t=.int i)\/∃z,t=.str z
theorem RowI.flat{n:Nat}{ds:List T}(h:RowI n ds):∀t∈ds,IoS t:=by
 have i:∀{z:Int},IoS (.int z):=.inl ⟨_,rfl⟩;have s:∀{z:Str},IoS (.str z):=.inr ⟨_,rfl⟩;have n0:∀t∈([]:List T),IoS t:=λt h=>by simp at h
 have c:∀{x:T}{xs:List T},IoS x->(∀t∈xs,IoS t)->∀t∈x::xs,IoS t:=λhx h t ht=>(UQ.mp ht).elim (λe=>e▸hx) (h t);cases h with
 |deed w r h=>cases h<;>first|exact c s (c i (c i n0))|exact c s (c i (c i (c i n0)))|exact c s (c i (c s n0))
 |_=>first|exact c s (c i (c i (c i n0)))|exact c s (c i (c s (c i n0)))|exact c s (c i n0)|exact c s n0
theorem q2V{n:Nat}{ds:List T}(h:∀t∈ds,IoS t):EqT (n+1) (.tup ds) (.tup ds) true:=by
 have:=EqT.tup (n:=n) (xs:=ds) (ys:=ds) (e:=λ_=>true) λj x y hx hy=>by
  rw[hx]at hy;cases hy;rcases h x (Uy hx) with⟨i,rfl⟩|⟨z,rfl⟩
  ·have:=EqT.flat (n:=n) (a:=.int i) (b:=.int i) rfl rfl
   simpa[eqV]using this
  ·have:=EqT.flat (n:=n) (a:=.str z) (b:=.str z) rfl rfl
   simpa[eqV]using this
 rw[q29]at this;simpa using this
abbrev sLaw:Stmt:=top 94
theorem scLaw:q00 ["script","bag","most","fewer","some","handed","allowed","due","found"] ["script"] (qd sLaw):=by ac_rfl
theorem q2S{C D:Addr}{f:Addr}{fd:FuncData}(F:Fun K "law" "law" sLaw f fd)(N:Nms mg)(eJ:q03 P w K mg base C "PlainStore" 1 ["self"] (spU (Zm C)))(g7:Def P w K mg base "_law_bag" 1 ["script"] (q3A K))(a8:Def P w K mg base "_law_draw" 1 ["bag","many"] (spU jN))(bj:Def P w K mg base "_law_some_script" 7 ["bag","most"] (spU kP))(bb:Def P w K mg base "_law_fresh" 1 [] (spU Zn))(bD:Def P w K mg base "_law_walk" 6 ["own","script","most"] (spU q0f))(bR:Def P w K mg base "plain_run" 11 ["script","most"] (spU Zj))(eK:Def P w K mg base "go" 10 ["script","store","most"] (spU (gGo C D)))(aL:Def P w K mg base "_law_alike" 6 ["found","due"] (spP (JI 5)))(bn:Def P w K mg base "_law_gone_by_hand" 11 ["bag","script","most"] (spU WM)):FnOk P w K mg base CX0 12 f fd ["script"] (K9 K):=by
 refine q3F F scLaw (by decide) (λae A outer s H E hr=>?_);refine⟨_,(qb (qB (i:=1) scLaw.nd rfl Gx (qo g7 (YH hr) (qa1 qv0))) (qb (qB (i:=2) scLaw.nd rfl Gx (qj (qf (K:=K) rfl) (qG (qa3 (qo a8 (YH hr) (qa2 qv1 qa)) qa (qo a8 (YH hr) (qa2 qv1 qa)))) (qo a8 (YH hr) (qa2 qv1 qa)) (λ_ _=>rfl))) (qb (qB (i:=3) scLaw.nd rfl Gx (qo a8 (YH hr) (qa2 qv1 (qC vq qv2 qa)))) (qb (qB (i:=4) scLaw.nd rfl Gx (qo bj (YH hr) (qa2 qv1 qv2))) (qb (qB (i:=5) scLaw.nd rfl Gx (vL zf (by rfl) N.list jb (qa1 qv4))) (qb (xp PassesOwn.never rfl (v8 (K:=K) rfl (qG (qa3 qv2 qv3 qv2))) (vb (i:=6) scLaw.nd rfl Gx) (qb (qB (i:=7) scLaw.nd rfl Gx (qo bD (YH hr) (qa3 (kq bb (YH hr)) qv4 qv6))) (qe (xp PassesOwn.never rfl (v8 (K:=K) rfl (qG (qa2 (qo bR (YH hr) (qa2 qv5 qv6)) (qo eK (YH hr) (qa3 qv5 (YE eJ (YH hr) rfl) qv6))))) (vb (i:=8) scLaw.nd rfl Gx) (qb (qP (Xi (q49 (Qj (vJ (qo aL (YH hr) (qa2 (qv 8) qv7)))) (Yz (qi (q3E (K:=K) rfl hr.units) qv5 qv4 (qm _))))) (qe (qt Vf)) qx) (qe (vY (q0K PySem.F.slot_list_append PySem.F.type_list_append zZ (qj (qh (K:=K) rfl) (qv 8) qa (λ_ _=>rfl)) (qa1 qc))))))))) (qe (qt (qo bn (YH hr) (qa3 qv1 qv4 qv3)))))))))),_,(qy (by right) (qy (by right) (qy (by right) (qy (by right) (qy (kS (by right) (ve 6) (qy (by right) (kS (XX (kU (ql (by right) (ql (vz (ql (qr 5) (ql (kW qJ) (by right)))) qJ)))) (ve 8) (qy (zc (q7k (W6 (ct_b (JU (by right)))) (jo (ja q2Y (qr 5) (qr 4)))) (by right) vj) (by right))))) (by right)))))),λo B=>?_⟩;symm;refine q1C B (by decide) (by decide) λd1 o1 iS mF B1=>?_;refine q1C B1 (by decide) (by decide) λd2 o2 iO mj B2=>?_;symm;refine q1C B2 (by decide) (by decide) λd3 o3 mG mH B3=>?_;obtain⟨n,mE,hn⟩:∃n:Nat,atI [T.int d1,T.int 400,T.int d2] d3=some (.int (n:Int))/\n<=400:=by
  rcases(show d3=0\/d3=1\/d3=2 by lia)with rfl|rfl|rfl
  ·exact⟨d1.toNat,by rw[Dd iS];rfl,by lia⟩
  ·exact⟨400,rfl,Ux _⟩
  ·exact⟨d2.toNat,by rw[Dd iO];rfl,by lia⟩
 refine qX mE ?_;symm;refine q1C B3 (by lia) (U5 (Dk _) (by lia)) λf4 o4 sQ nZ B4=>?_;obtain⟨f4,rfl⟩:∃j:Nat,f4=(j:Int):=⟨f4.toNat,by lia⟩;symm;refine⟨0,o4,n,rfl,rfl,B4,hn,λrows M1 o5 B5 sR _ _ S ⟨e,ns,az,ar,W⟩=>?_⟩;symm;refine⟨_,_,rfl,rfl,?_⟩;symm;have hf:f4<=n:=by lia
 have og:∀{Q:T->Prop},Q (.bl false)->sEqL true (.lst (rows.map T.tup)) (.lst (rows.map T.tup)) Q:=λq=>⟨_,_,rfl,rfl,.inr ⟨rfl,λ_=>true,λj x y hx hy=>by
  rw[hx]at hy;cases hy;rw[UW]at hx;cases hd:rows[j]? with
  |none=>rw[hd]at hx;cases hx
  |some ds=>
   rw[hd]at hx;cases hx;exact q2V (S.r ds (Uy hd)).flat,by rw[q29];exact q⟩⟩
 refine j3 (λi ρ M2=>∃x6 x7 x8 ob,ρ=[none,some (.m 0),some (.p (.int (n:Int))),some (.p (.int (f4:Int))),some (.p (.lst (rows.map T.tup))),some (.p (.lst (rows.map T.tup))),x6,x7,x8]/\BagO ob/\M2[0]?=some ob) ⟨_,_,_,o5,rfl,B5,sR⟩ ?_ ?_
 ·rintro i t ρ M2 ht ⟨x6,x7,x8,ob,rfl,Bo,hb⟩
  obtain⟨a,rfl,ha⟩:∃a:Nat,t=.int (a:Int)/\a<=n:=by
   match i,ht with
   |0,ht=>cases ht;exact⟨n,rfl,Ux _⟩
   |1,ht=>cases ht;exact⟨f4,rfl,hf⟩
   |2,ht=>cases ht;exact⟨n,rfl,Ux _⟩
   |i+3,ht=>simp at ht
  obtain⟨e,ns,az,ar,W⟩:=W.less a ha;symm;refine⟨rfl,?_⟩;symm;refine⟨oF M2.length,wsN, [],rows,a,e,ns,az,ar,rfl,Xm,by lia,by show 0+a<=1000;lia,W.up,λM3 o' k0 mO O' g sS mP a1 a2=>?_⟩;have l3:=g.len;rw[Uu]at l3 sS mP;have oh:M3[0]?=some ob:=by
   have:=(Us.mp hb).1;rw[g.fr 0 (by rw[Uu];lia) λj _ z=>by unfold oF at z;split at z<;>lia];exact(zD this).trans hb
  symm;refine⟨rows,a,e,ns,az,ar,rfl,by lia,W,λM4 k1 gx l4 sT nW hnk1 b1 b2=>?_⟩;symm;refine⟨M4.length,rfl,qK,?_⟩;have e0:(M4++[MO.ins C []]++[hl id wsN]).set M4.length (.ins C [("held",.m (M4.length+1))])=M4++[.ins C [("held",.m (M4.length+1))],hl id wsN]:=by
   rw[UN,Dp _ _ (Ux _),Dh];rfl
  have e1:(M4++[MO.ins C []]).length=M4.length+1:=by rw[Uu];rfl
  refine⟨rfl,?_⟩;rw[e1,show hl id (List.replicate 8 (.one "none"))=hl id wsN from rfl,e0];symm;refine⟨λi=>i+M4.length,wsN, [],rows,a,e,ns,az,ar,by show _=[_,U.m (0+M4.length),_];rw[DW],sto_new,by lia,by show 0+a<=1000;lia,W,λM5 s5 k2 io S5 g5 h9 mQ c1 c2=>?_⟩;have l5:=g5.len;rw[Uu]at l5 h9 mQ;have fm:∀j,j<M4.length->M5[j]?=M4[j]?:=λj hj=>by
   rw[g5.fr j (by rw[Uu];lia) λx _ z=>by have z:j=x+M4.length:=z;lia];exact zD hj
  symm;have sU:=(Us.mp a1).1;have sV:=(Us.mp a2).1;have sW:=(Us.mp b1).1;have sX:=(Us.mp b2).1;have sY:=(Us.mp c1).1;have sZ:=(Us.mp c2).1;have lb:=(Us.mp oh).1;have cR:ns.length<=400:=U3 W.dep.1 (by lia);have mR:∀j,j<M3.length->(M5++[MO.lst [U.m k1,U.m k2]])[j]?=M3[j]?:=λj hj=>by rw[zD (by lia),fm j (by lia),sT j hj]
  have oi:∀j,j<M4.length->(M5++[MO.lst [U.m k1,U.m k2]])[j]?=M4[j]?:=λj hj=>by rw[zD (by lia),fm j hj]
  refine Wy (k:=M5.length) qK ?_;refine q1e (λj ρ M7=>∃x8,ρ=[none,some (.m 0),some (.p (.int (n:Int))),some (.p (.int (f4:Int))),some (.p (.lst (rows.map T.tup))),some (.p (.lst (rows.map T.tup))),some (.p (.int (a:Int))),some (.m k0),x8]/\M7[M5.length]?=some (.lst [.m k1,.m k2])/\M7[0]?=some ob/\M7[k0]?=some (.tup [.p e,.m mO])/\M7[mO]?=some (.lst (ns.map U.p))/\(j=0->M7[k1]?=some (.tup [.p e,.m gx])/\M7[gx]?=some (.lst (ns.map U.p)))/\(j<=1->M7[k2]?=some (.tup [.p e,.m io])/\M7[io]?=some (.lst (ns.map U.p)))) ⟨_,rfl,qK,(mR 0 lb).trans oh,(mR k0 sU).trans a1,(mR mO sV).trans a2,λ_=>⟨(oi k1 sW).trans b1,(oi gx sX).trans b2⟩,λ_=>⟨(zD sY).trans c1,(zD sZ).trans c2⟩⟩ (λj ρ M7 ⟨_,_,h,_⟩=>h) ?_ ?_
  ·rintro j u ρ M7 hu ⟨x8,rfl,hl,iW,h1,h2,ii,eZ⟩
   match j,hu with
   |0,hu=>
    cases hu;obtain⟨f1,f2⟩:=ii rfl;obtain⟨g1,g2⟩:=eZ (by lia);left;refine⟨[_,_],by simp only[frzs,jn f1 f2,jn h1 h2],_,rfl,W.deep (by lia),?_⟩;left;refine⟨⟨_,rfl⟩,og ?_⟩;left;refine xG (us:=[.p e,.m gx]) (by simp[vB,f1]) rfl ?_;refine Vq f2 ?_;left;refine⟨_,f2,qF (by rw[Uw];lia),?_⟩;left;have ne:∀{x:Nat},x≠gx->∀o,(M7.set gx o)[x]?=M7[x]?:=λh o=>Uv (Ne.symm h);exact⟨_,rfl,(ne (by lia) _).trans hl,(ne (by lia) _).trans iW,(ne (by lia) _).trans h1,(ne (by lia) _).trans h2,λz=>absurd z (by lia),λ_=>⟨(ne (by lia) _).trans g1,(ne (by lia) _).trans g2⟩⟩
   |1,hu=>
    cases hu;obtain⟨f1,f2⟩:=eZ (by lia);left;refine⟨[_,_],by simp only[frzs,jn f1 f2,jn h1 h2],_,rfl,W.deep (by lia),?_⟩;left;refine⟨⟨_,rfl⟩,og ?_⟩;left;refine xG (us:=[.p e,.m io]) (by simp[vB,f1]) rfl ?_;refine Vq f2 ?_;left;refine⟨_,f2,qF (by rw[Uw];lia),?_⟩;left;have ne:∀{x:Nat},x≠io->∀o,(M7.set io o)[x]?=M7[x]?:=λh o=>Uv (Ne.symm h);exact⟨_,rfl,(ne (by lia) _).trans hl,(ne (by lia) _).trans iW,(ne (by lia) _).trans h1,(ne (by lia) _).trans h2,λz=>absurd z (by lia),λz=>absurd z (by lia)⟩
   |j+2,hu=>simp at hu
  ·rintro ρ M7 ⟨x8,rfl,hl,iW,h1,h2,ii,eZ⟩
   exact⟨_,_,_,ob,rfl,Bo,iW⟩
 ·rintro ρ M2 ⟨x6,x7,x8,ob,rfl,Bo,hb⟩
  symm;exact⟨0,ob,rows,f4,rfl,hb,Bo,S,by lia,λM'=>rfl⟩
abbrev Kc:Stmt:=qk (top 58) 1
abbrev TxPs:=@TxP
abbrev q4L:=@TxQ
abbrev q44:=@TxM
end
end Mw
local macro_rules|`(tactic|walk_at "fk")=>`(tactic|(refine' L2.fun_mk ?l ?c ?k; (case l=>k_is); (case c=>k_is); (case k=>k_is)))
local macro_rules|`(tactic|walk_at "fg")=>`(tactic|(refine' ⟨?n,?m⟩; (case n=>show _=_; k_is); (case m=>walk_at "fk")))
local macro_rules|`(tactic|walk_at "mg")=>`(tactic|(refine' ⟨?u,?n,?m⟩; (case u=>k_is); (case n=>k_is); (case m=>walk_at "fk")))
namespace Mw
open PySem L2
structure FG(K:PySem.W.Frag)(x:Str)(s:Stmt)(f:Addr)(d:FuncData):Prop where
 a:W.nsIn K mainGlobals x=some (some (.ref f))
 F:Fun K x x s f d
structure MG(K:PySem.W.Frag)(C:Addr)(x q:Str)(s:Stmt)(f:Addr)(d:FuncData):Prop where
 a:W.findIn K (.ref C) x=some (some (.ref f))
 n:W.isFn K (.ref f)=true
 F:Fun K x q s f d
structure GB(P:Program)(w:World)(K:PySem.W.Frag)(mg:Str->Option Value)(base h:Heap):Prop where
 X:K.In h
 G:h.Ns mainGlobals mg
theorem mk1{P:Program}{w:World}{K:PySem.W.Frag}{h base:Heap}{mg:Str->Option Value}{x:Str}{st:Stmt}{f:Addr}{d:FuncData}{k:Nat}{ps:List Str}{sp:Sp}(B:GB P w K mg base h)(A:FG K x st f d)(F:FnOk P w K mg base CX0 k f d ps sp)(b:∀(kV bJ pm:Value)(an:Option Addr)(ae ct:Value)(us:List Value),us.length=ps.length->bindArgs (W.fnOf x x (zt st) (vi st) (qd st) .none kV bJ pm an ae ct) ⟨us, []⟩=pure (ps.zip us)):Def P w K mg base x k ps sp:=⟨f,_,Ro B.X B.G A.a,A.F.kp,A.F.binds b,F⟩
theorem mk1X{P:Program}{w:World}{K:PySem.W.Frag}{h base:Heap}{mg:Str->Option Value}{x:Str}{st:Stmt}{f:Addr}{d:FuncData}{k:Nat}{ps:List Str}{sp:Sp}(B:GB P w K mg base h)(A:FG K x st f d)(F:FnOk P w K mg base (CXe P w) k f d ps sp)(b:∀(kV bJ pm:Value)(an:Option Addr)(ae ct:Value)(us:List Value),us.length=ps.length->bindArgs (W.fnOf x x (zt st) (vi st) (qd st) .none kV bJ pm an ae ct) ⟨us, []⟩=pure (ps.zip us)):DefX P w K mg base x k ps sp:=⟨f,_,Ro B.X B.G A.a,A.F.kp,A.F.binds b,F⟩
theorem mk2{C:Addr}{q:Str}{P:Program}{w:World}{K:PySem.W.Frag}{h base:Heap}{mg:Str->Option Value}{x:Str}{st:Stmt}{f:Addr}{d:FuncData}{k:Nat}{ps:List Str}{sp:Sp}(B:GB P w K mg base h)(A:MG K C x q st f d)(F:FnOk P w K mg base CX0 k f d ps sp)(b:∀(kV bJ pm:Value)(an:Option Addr)(ae ct:Value)(us:List Value),us.length=ps.length->bindArgs (W.fnOf x q (zt st) (vi st) (qd st) .none kV bJ pm an ae ct) ⟨us, []⟩=pure (ps.zip us)):MDef P w K mg base C x k ps sp:=⟨f,_,⟨A.a,A.n,A.F.kp⟩,A.F.binds b,F⟩
theorem mk2X{C:Addr}{q:Str}{P:Program}{w:World}{K:PySem.W.Frag}{h base:Heap}{mg:Str->Option Value}{x:Str}{st:Stmt}{f:Addr}{d:FuncData}{k:Nat}{ps:List Str}{sp:Sp}(B:GB P w K mg base h)(A:MG K C x q st f d)(F:FnOk P w K mg base (CXe P w) k f d ps sp)(b:∀(kV bJ pm:Value)(an:Option Addr)(ae ct:Value)(us:List Value),us.length=ps.length->bindArgs (W.fnOf x q (zt st) (vi st) (qd st) .none kV bJ pm an ae ct) ⟨us, []⟩=pure (ps.zip us)):q3U P w K mg base C x k ps sp:=⟨f,_,⟨A.a,A.n,A.F.kp⟩,A.F.binds b,F⟩
theorem ln1{α:Type}:∀{l:List α},l.length=1->∃a,l=[a]
 | [a],_=>⟨a,rfl⟩
theorem ln2{α:Type}:∀{l:List α},l.length=2->∃a b,l=[a,b]
 | [a,b],_=>⟨a,b,rfl⟩
theorem ln3{α:Type}:∀{l:List α},l.length=3->∃a b c,l=[a,b,c]
 | [a,b,c],_=>⟨a,b,c,rfl⟩
theorem ln4{α:Type}:∀{l:List α},l.length=4->∃a b c d,l=[a,b,c,d]
 | [a,b,c,d],_=>⟨a,b,c,d,rfl⟩
theorem ln5{α:Type}:∀{l:List α},l.length=5->∃a b c d e,l=[a,b,c,d,e]
 | [a,b,c,d,e],_=>⟨a,b,c,d,e,rfl⟩
set_option hygiene false
local macro_rules|`(tactic|walk_at "bn")=>`(tactic|(intro _ _ _ _ _ _ _ h; first|(obtain⟨_,rfl⟩:=ln1 h; rfl)|(obtain⟨_,_,rfl⟩:=ln2 h; rfl)|(obtain⟨_,_,_,rfl⟩:=ln3 h; rfl)|(obtain⟨_,_,_,_,rfl⟩:=ln4 h; rfl)|(obtain⟨_,_,_,_,_,rfl⟩:=ln5 h; rfl)))
set_option hygiene true
abbrev GA(K:PySem.W.Frag)(x:Str)(v:Value):=W.nsIn K mainGlobals x=some (some v)
abbrev GC(K:PySem.W.Frag)(x:Str):=W.nsIn K mainGlobals x=some none
theorem all_mk{l:PySem.W.OpenLaw}{w:World}{K:PySem.W.Frag}{h:Heap}{mg:Str->Option Value}(X:K.In h)(G:h.Ns mainGlobals mg)(t3:mg "law" = some (.ref fa))(ca1:GA K "PlainStore" (.ref C1))(cb1:W.plainGet K C1 Str.empty=true)(cc1:W.hasDictIn K C1=true)(cd1:W.plainOver K C1=true)(ce1:W.findIn K (.ref C1) "__setattr__" = some (some (.builtin "object.__setattr__")))(cf1:W.makesIn K C1=true)(cg1:W.keepIn K (.ref C1)=true)(ch1_1:W.findIn K (.ref C1) "held" = some none)(ca2:GA K "Pair" (.ref C2))(cb2:W.plainGet K C2 Str.empty=true)(cc2:W.hasDictIn K C2=true)(cd2:W.plainOver K C2=true)(ce2:W.findIn K (.ref C2) "__setattr__" = some (some (.builtin "object.__setattr__")))(cf2:W.makesIn K C2=true)(cg2:W.keepIn K (.ref C2)=true)(ch2_1:W.findIn K (.ref C2) "left" = some none)(ch2_2:W.findIn K (.ref C2) "right" = some none)(ca3:GA K "Moves" (.ref C3))(cb3:W.plainGet K C3 Str.empty=true)(cc3:W.hasDictIn K C3=true)(cd3:W.plainOver K C3=true)(ce3:W.findIn K (.ref C3) "__setattr__" = some (some (.builtin "object.__setattr__")))(cf3:W.makesIn K C3=true)(cg3:W.keepIn K (.ref C3)=true)(ch3_1:W.findIn K (.ref C3) "store" = some none)(ch3_2:W.findIn K (.ref C3) "layings" = some none)(ch3_3:W.findIn K (.ref C3) "when" = some none)(ch3_4:W.findIn K (.ref C3) "turn" = some none)(xaNought:GA K "Nought" (.ref CENought))(xoNought:W.excIn K CENought [.type "ValueError",.type "Exception",.type "BaseException",.type "object"] "ValueError.__new__" = true)(xaWk:GA K "WrongKind" (.ref CEWk))(xaWordError:GA K "WordError" (.ref CEWordError))(EWk_Wk:W.exmOne K (.ref CEWk) (.ref CEWk)=some true)(ENought_Wk:W.exmOne K (.ref CENought) (.ref CEWk)=some false)(ENought_Nought:W.exmOne K (.ref CENought) (.ref CENought)=some true)(A1:FG K "_law_bag" sBag f1 d1)(A2:FG K "_law_draw" q0t f2 d2)(A3:FG K "_law_alike" V3 f3 d3)(a4:W.findIn K (.ref CEWk) "__init__" = some (some (.ref f4)))(F4:Fun K "__init__" "WrongKind.__init__" ZV f4 d4)(A5:FG K "kind_of" Z9 f5 d5)(A6:MG K C1 "__init__" "PlainStore.__init__" Z6 f6 d6)(A7:MG K C2 "__init__" "Pair.__init__" kg f7 d7)(A8:MG K C1 "number" "PlainStore.number" j9 f8 d8)(A9:MG K C1 "one" "PlainStore.one" Yj f9 d9)(A10:MG K C1 "sign" "PlainStore.sign" ZY f10 iS)(A11:MG K C1 "copy" "PlainStore.copy" Z7 f11 mF)(A12:MG K C1 "pair" "PlainStore.pair" Z2 f12 d12)(A13:MG K C1 "same" "PlainStore.same" ZZ f13 d13)(A14:MG K C1 "kind" "PlainStore.kind" Z5 f14 d14)(A15:MG K C1 "told" "PlainStore.told" ZW f15 d15)(A16:FG K "need_numbers" zK f16 d16)(A17:FG K "need_divisor" zL f17 d17)(A18:FG K "need_pair" kh f18 d18)(A19:MG K C1 "pair_in" "PlainStore.pair_in" j8 f19 d19)(A20:MG K C1 "plus" "PlainStore.plus" Z1 f20 iO)(A21:MG K C1 "less" "PlainStore.less" Z4 f21 mj)(A22:MG K C1 "times" "PlainStore.times" Q3 f22 d22)(A23:MG K C1 "over" "PlainStore.over" Z3 f23 d23)(A24:MG K C1 "rest" "PlainStore.rest" Z0 f24 d24)(A25:MG K C1 "below" "PlainStore.below" Q5 f25 d25)(A26:MG K C1 "first" "PlainStore.first" Q4 f26 d26)(A27:MG K C1 "second" "PlainStore.second" j7 f27 d27)(A28:MG K C1 "set_first" "PlainStore.set_first" xx f28 d28)(A29:MG K C1 "set_second" "PlainStore.set_second" zJ f29 d29)(A30:FG K "_law_deed_done" ki f30 mG)(A31:FG K "_law_done" q4b f31 mH)(A32:FG K "_law_own_kind" Q6 f32 d32)(A33:FG K "_law_reckoned" j6 f33 d33)(A34:FG K "_law_own_numbers" xy f34 d34)(A35:FG K "_law_own_do" Yk f35 d35)(A36:FG K "_law_own_ask" Z8 f36 d36)(A37:FG K "_law_any_number" jk f37 d37)(A38:FG K "_law_deed_of" Xb f38 d38)(A39:FG K "_law_row_done" Q2 f39 d39)(A40:FG K "_law_row_gone" Q1 sQ d40)(A41:FG K "_law_fresh" Ym nZ d41)(A42:FG K "_law_walk" q2I f42 d42)(A43:FG K "do_with_worth" zN f43 d43)(A44:FG K "do_with_two" ji f44 d44)(A45:FG K "do_with_three" zO f45 d45)(A46:FG K "do_deed" Xa f46 d46)(A47:FG K "holds" Yl f47 d47)(A48:FG K "row_behind" jg f48 d48)(A49:MG K C3 "__init__" "Moves.__init__" jh f49 d49)(A50:MG K C3 "move" "Moves.move" Kc f50 mm)(A51:MG K C3 "ahead" "Moves.ahead" xz f51 mq)(A52:FG K "gone_through" zM f52 d52)(A53:FG K "go" sGo f53 d53)(A54:FG K "plain_run" ke f54 d54)(A55:FG K "_law_letters" Q7 f55 d55)(A56:FG K "_law_part" q3C f56 d56)(A57:FG K "_law_any_row" Xc f57 d57)(A58:FG K "_law_any_script" jj f58 d58)(A59:FG K "_law_body_row" Q8 f59 d59)(A60:FG K "_law_long_script" xA f60 ie)(A61:FG K "_law_some_script" xw f61 iU)(A62:FG K "_law_some_deeds" jf f62 d62)(A63:FG K "_law_gone_by_hand" xB f63 d63)(A64:FG K "law" sLaw f64 d64)(CWk:ExcK K CEWk f4)(xk8Wk:W.findIn K (.ref CEWk) "part" = some none)(xb1WordError:W.specialIn K (.ref CEWordError) "__getattribute__" = some (some (.builtin "type.__getattribute__")))(xb2WordError:W.readsIn K CEWordError (.type "type")=true)(xb3WordError:W.findCls K (.ref CEWordError) (.type "type") "__init__" = some (.val (.builtin "ValueError.__init__")))(xt1Pair:W.findIn K (.ref C2) "__class__" = some (some (.builtin "object.__class__")))(xt2Pair:W.specialIn K (.builtin "object.__class__") "__get__" = some (some (.builtin "getset_descriptor.__get__")))(xt3Pair:W.takesIn K (.builtin "object.__class__")=some true)(xt4Pair:W.mroIn K C2 (.type "object")=some true)(xtnPair:∀c:TyC,W.kitOne K (.ref C2) (.type c.name)=some false)(xt5Pair:KD K C2=true)(z1:GC K "abs")(z2:GC K "len")(z3:GC K "min")(z4:GC K "max")(z5:GC K "sum")(z6:GC K "sorted")(z7:GC K "all")(z8:GC K "any")(z9:GC K "isinstance")(z10:GC K "range")(z11:GC K "int")(z12:GC K "list")(z13:GC K "str")(z14:GC K "bool")(z15:GC K "tuple")(z16:GC K "zip")(z17:GC K "enumerate")(z18:GC K "dict")(g1:W.nsIn K mainGlobals "REGISTERS" = some (some (.int 8 gk1))):
  ∃fd:FuncData,(∀(s:Shared)(v:Value),BindsTo s fd ⟨[v], []⟩ [("script", v)])/\∀base:Heap,K.In base->base.Ns mainGlobals mg->FnOk l.prog w K mg base CX0 12 fa fd ["script"] (K9 K):=by
 have e:=t3.symm.trans (Ro X G A64.a);cases e;have mo:=λ{x:Str}{v:Value} (a:W.nsIn K mainGlobals x=some (some v))=>Ro X G a;have mn:=λ{x:Str} (a:W.nsIn K mainGlobals x=some none)=>W.mg_none_of X G a;have N:Nms mg:=⟨mn z1,mn z2,mn z3,mn z4,mn z5,mn z6,mn z7,mn z8,mn z9,mn z10,mn z11,mn z12,mn z13,mn z14,mn z15,mn z16,mn z17,mn z18⟩;have fV:GInt mg "REGISTERS" 8:=⟨_,mo g1⟩;have aB:Cls K C1:=⟨cb1,cc1,cd1,ce1⟩;have cp:TxPs K C1:=⟨aB,ch1_1⟩;have fb:Cls K C2:=⟨cb2,cc2,cd2,ce2⟩;have cI:q4L K C2:=⟨fb,ch2_1,ch2_2⟩;have b8:Cls K C3:=⟨cb3,cc3,cd3,ce3⟩;have dg:q44 K C3:=⟨b8,ch3_1,ch3_2,ch3_3,ch3_4⟩;have aM:ExcC K mg "Nought" CENought:=⟨mo xaNought,xoNought⟩;have fX:NoAttr K CEWk "part" := xk8Wk;have ee:=mo xaWk;have dh:q3s K mg "WordError" CEWordError:=⟨mo xaWordError,xb1WordError,xb2WordError,xb3WordError⟩;have bz:=mo xaNought;have c5:q0G K C2:=⟨fb,xt1Pair,xt2Pair,xt3Pair,xt4Pair,xtnPair⟩;have cu:=xt5Pair;have b3:=A3.F.binds (ps:=["found","due"]) λ_ _ _ _ _ _ _ h=>by obtain⟨_,_,rfl⟩:=ln2 h;rfl
 have b4:=F4.binds (ps:=["self","part"]) λ_ _ _ _ _ _ _ h=>by obtain⟨_,_,rfl⟩:=ln2 h;rfl
 have b6:=A6.F.binds (ps:=["self"]) λ_ _ _ _ _ _ _ h=>by obtain⟨_,rfl⟩:=ln1 h;rfl
 have b7:=A7.F.binds (ps:=["self","left","right"]) λ_ _ _ _ _ _ _ h=>by obtain⟨_,_,_,rfl⟩:=ln3 h;rfl
 have t4:=A41.F.binds (ps:=[]) λ_ _ _ _ _ _ us hl=>match us,hl with | [],_=>rfl
 have t5:=A49.F.binds (ps:=["self","store","layings","when"]) λ_ _ _ _ _ _ _ h=>by obtain⟨_,_,_,_,rfl⟩:=ln4 h;rfl
 have t6:=A50.F.binds (ps:=["self"]) λ_ _ _ _ _ _ _ h=>by obtain⟨_,rfl⟩:=ln1 h;rfl
 have t7:=A55.F.binds (ps:=[]) λ_ _ _ _ _ _ us hl=>match us,hl with | [],_=>rfl
 refine⟨d64,λs v=>?_,λbase _ _=>?_⟩
 ·obtain⟨_,_,_,_,_,_,_,_,_,rfl,_⟩:=A64.F.ex
  exact .of_eq rfl
 have B:GB l.prog w K mg base h:=⟨X,G⟩;have g7:=mk1 B A1 (q5h A1.F N) (by ac_nf);have a8:=mk1 B A2 (q1i A2.F N) (by ac_nf);have aL:=mk1 B A3 (Kp A3.F N (mo A3.a) A3.F.kp b3) (by ac_nf);have fW:ExcD l.prog w K mg base "WrongKind" CEWk 1:=⟨mo xaWk,f4,_,CWk,b4,q1t F4 CWk fX dh⟩;have bo:=mk1 B A5 (q0X A5.F N c5) (by ac_nf);have eJ:q03 l.prog w K mg base C1 "PlainStore" 1 ["self"] (spU (Zm C1)):=⟨f6,_,⟨cf1,A6.a,A6.n,cg1⟩,mo ca1,b6,Y1 A6.F cp fV⟩;have dR:q03 l.prog w K mg base C2 "Pair" 1 ["self","left","right"] (spU (WF C2)):=⟨f7,_,⟨cf2,A7.a,A7.n,cg2⟩,mo ca2,b7,YR A7.F cI⟩;have aO:=mk2 B A8 (Xp (D:=C2) A8.F N cp) (by ac_nf);have bM:=mk2 B A9 (q0v (D:=C2) A9.F N cp) (by ac_nf);have bp:=mk2 B A10 (YT (D:=C2) A10.F N cp) (by ac_nf);have bq:=mk2 B A11 (Y2 (D:=C2) A11.F N cp) (by ac_nf);have bw:=mk2 B A12 (YX A12.F N cp dR) (by ac_nf);have bx:=mk2 B A13 (YU A13.F N cp cu) (by ac_nf);have aC:=mk2 B A14 (Y0 A14.F N cp bo) (by ac_nf);have aN:=mk2 B A15 (YS A15.F N cp bo) (by ac_nf);have aa:=mk1X B A16 (Y5 A16.F N aB fW aC) (by ac_nf);have aD:=mk1X B A17 (Y6 A17.F N aB aM aa aN) (by ac_nf);have bL:=mk1X B A18 (Y4 A18.F N aB fW aC) (by ac_nf);have am:=mk2X B A19 (Km A19.F N cp bL) (by ac_nf);have br:=mk2X B A20 (YW A20.F N cp aa) (by ac_nf);have bt:=mk2X B A21 (YZ A21.F N cp aa) (by ac_nf);have aT:=mk2X B A22 (Kj A22.F N cp aa) (by ac_nf);have bu:=mk2X B A23 (YY A23.F N cp aD) (by ac_nf);have bv:=mk2X B A24 (YV A24.F N cp aD) (by ac_nf);have aV:=mk2X B A25 (Kl A25.F N cp aa) (by ac_nf);have aU:=mk2X B A26 (Kk A26.F N cp cI aB am) (by ac_nf);have aP:=mk2X B A27 (Xo A27.F N cp cI aB am) (by ac_nf);have aH:=mk2X B A28 (Qa A28.F N cp cI aB am) (by ac_nf);have aE:=mk2X B A29 (kz A29.F N cp cI aB am) (by ac_nf);have bN:=mk1X B A30 (Vj A30.F N aB aO bp bM bq br bt aT bu bv bw aU aP aH aE aV bx aC aN) (by ac_nf);have dm:=mk1 B A31 (q0w A31.F N aM CWk fX ee bz EWk_Wk ENought_Wk ENought_Nought bN) (by ac_nf);have ao:=mk1 B A32 (Za A32.F N) (by ac_nf);have bO:=mk1 B A33 (q1I A33.F N) (by ac_nf);have bg:=mk1 B A34 (Xq A34.F N ao bO) (by ac_nf);have bP:=mk1 B A35 (Kn A35.F N ao bg) (by ac_nf);have bA:=mk1 B A36 (Xr A36.F N ao) (by ac_nf);have ak:=mk1 B A37 (Qc A37.F N a8) (by ac_nf);have cv:=mk1 B A38 (Xv A38.F N) (by ac_nf);have c6:=mk1 B A39 (V9 A39.F N bA bP) (by ac_nf);have c8:=mk1 B A40 (V8 A40.F N cv c6) (by ac_nf);have bb:Def l.prog w K mg base "_law_fresh" 1 [] (spU Zn):=⟨nZ,_,mo A41.a,A41.F.kp,t4,Y9 A41.F N⟩;have bD:=mk1 B A42 (q0c A42.F N c8) (by ac_nf);have aZ:=mk1 B A43 (k7 A43.F N aB aO bp bM) (by ac_nf);have bE:=mk1X B A44 (V7 A44.F N aB bq aU aP aH aE) (by ac_nf);have b5:=mk1X B A45 (k8 A45.F N aB br bt aT bu bv bw) (by ac_nf);have cx:=mk1X B A46 (Xs A46.F N aZ bE b5) (by ac_nf);have cZ:=mk1X B A47 (Y8 A47.F N aB aV bx aC) (by ac_nf);have bG:=mk1X B A48 (Ko A48.F N aB cZ aN cx) (by ac_nf);have df:q03 l.prog w K mg base C3 "Moves" 1 ["self","store","layings","when"] (spU (WI C3)):=⟨f49,_,⟨cf3,A49.a,A49.n,cg3⟩,mo ca3,t5,Y7 A49.F dg⟩;have bF:MDef l.prog w K mg base C3 "move" 1 ["self"] (spU gNo):=⟨f50,_,⟨A50.a,A50.n,A50.F.kp⟩,t6,FnOk.no⟩;have bh:=mk2 B A51 (Wb A51.F N dg b8 bF) (by ac_nf);have ba:=mk1 B A52 (q0o A52.F N dg b8 aM CWk fX ee bz EWk_Wk ENought_Wk ENought_Nought bh bG) (by ac_nf);have eK:=mk1 B A53 (q5c A53.F N df ba) (by ac_nf);have bR:=mk1 B A54 (Vi A54.F N eJ eK) (by ac_nf);have aW:Def l.prog w K mg base "_law_letters" 1 [] (spU z0):=⟨f55,_,mo A55.a,A55.F.kp,t7,jM A55.F⟩;have dW:=mk1 B A56 (Y3 A56.F N a8 ak) (by ac_nf);have bY:=mk1 B A57 (Xx A57.F N aW dW) (by ac_nf);have bH:=mk1 B A58 (Qb A58.F N a8 aW bY) (by ac_nf);have c9:=mk1 B A59 (Zb A59.F N a8 ak) (by ac_nf);have bi:=mk1 B A60 (kA A60.F N a8 ak c9) (by ac_nf);have bj:=mk1 B A61 (ky A61.F N a8 bH bi bb bD) (by ac_nf);have bc:=mk1 B A62 (k9 A62.F N a8 ak dm bP bA aL) (by ac_nf);have bn:=mk1 B A63 (Xw A63.F N eJ bb bc bD aL eK) (by ac_nf);exact q2S A64.F N eJ g7 a8 bj bb bD bR eK aL bn
theorem walk{l:PySem.W.OpenLaw}{q:Program}{loose:List Str}{XP:(Str->Option Value)->Heap->Prop}{YP:World->Heap->Prop}{d:DefRec}{K:Params->PySem.W.Frag}(hn:l.most=some 63)(gK:d.params.defaults=[])(hY:∀(w:World)(h:Heap),YP w h->(K w.params).In h)(F:∀(w:World)(mg:Str->Option Value)(fa:Addr)(h:Heap),(K w.params).In h->h.Ns mainGlobals mg->mg d.name=some (.ref fa) ->
   ∃fd:FuncData,(∀(s:Shared)(u:Value),BindsTo s fd ⟨[u], []⟩ [("script", u)])/\∀base:Heap,(K w.params).In base->base.Ns mainGlobals mg->FnOk l.prog w (K w.params) mg base CX0 12 fa fd ["script"] (K9 (K w.params))):
  PySem.W.WalkO q loose XP YP l.row.toRowW d [] (λf vs=>PySem.call f vs):=
 L2.walk_of (n:=63) (k:=12) (x := "script") (CX:=λ_=>CX0) (sp:=λw=>K9 (K w.params)) hn (by decide) gK ⟨rfl,by decide,by decide,rfl⟩ hY F (λ_ _ a ns hl _ hS=>⟨a,ns,rfl,hS,hl,λ_=>rfl⟩) λ_ _ _ _ _ z=>z
end Mw
open PySem PySem.W PyProof.Rows
set_option maxRecDepth 100000 in
set_option maxHeartbeats 0 in
theorem PySem.Challenge.cw_markwords_k65_plain_runs_holds : PySem.Challenge.rw_markwords_k65_plain_runs.Holds := by
 w_on; o_law
 refine Hd.close (q:=Mx.vw) (loose:=Mx.ls) (lv:=Mx.lv) (H:=kHook Mx.K Mx.KA Mx.K_as) (N:=12424) Mx.hLf9 (by rfl) (by rfl) (by rfl) (by rfl) (by assumption) (by decide +kernel) ⟨rfl,rfl,rfl,rfl,rfl,by decide +kernel⟩ ?hw ?hc
 case hw=>w_witness2
 k_fill
 refine Mw.walk (l:=PySem.Challenge.rw_markwords_k65_plain_runs) rfl rfl (fun w h Y=>PySem.W.kIn_of Y) ?F
 case F =>
  intro w mg fa h KX G hmg
  refine' Mw.all_mk KX G hmg ?ca1 ?cb1 ?cc1 ?cd1 ?ce1 ?cf1 ?cg1 ?ch1_1 ?ca2 ?cb2 ?cc2 ?cd2 ?ce2 ?cf2 ?cg2 ?ch2_1 ?ch2_2 ?ca3 ?cb3 ?cc3 ?cd3 ?ce3 ?cf3 ?cg3 ?ch3_1 ?ch3_2 ?ch3_3 ?ch3_4 ?xaNought ?xoNought ?xaWk ?xaWordError ?EWk_Wk ?ENought_Wk ?ENought_Nought ?A1 ?A2 ?A3 ?a4 ?F4 ?A5 ?A6 ?A7 ?A8 ?A9 ?A10 ?A11 ?A12 ?A13 ?A14 ?A15 ?A16 ?A17 ?A18 ?A19 ?A20 ?A21 ?A22 ?A23 ?A24 ?A25 ?A26 ?A27 ?A28 ?A29 ?A30 ?A31 ?A32 ?A33 ?A34 ?A35 ?A36 ?A37 ?A38 ?A39 ?A40 ?A41 ?A42 ?A43 ?A44 ?A45 ?A46 ?A47 ?A48 ?A49 ?A50 ?A51 ?A52 ?A53 ?A54 ?A55 ?A56 ?A57 ?A58 ?A59 ?A60 ?A61 ?A62 ?A63 ?A64 ?CWk ?xk8Wk ?xb1WordError ?xb2WordError ?xb3WordError ?xt1Pair ?xt2Pair ?xt3Pair ?xt4Pair ?xtnPair ?xt5Pair ?z1 ?z2 ?z3 ?z4 ?z5 ?z6 ?z7 ?z8 ?z9 ?z10 ?z11 ?z12 ?z13 ?z14 ?z15 ?z16 ?z17 ?z18 ?g1
  (case ca1|cb1|cc1|cd1|ce1|cf1|cg1|ch1_1|ca2|cb2|cc2|cd2|ce2|cf2|cg2|ch2_1|ch2_2|ca3|cb3|cc3|cd3|ce3|cf3|cg3|ch3_1|ch3_2|ch3_3|ch3_4|xaNought|xaWk|xaWordError|a4|z1|z2|z3|z4|z5|z6|z7|z8|z9|z10|z11|z12|z13|z14|z15|z16|z17|z18|g1=>show _=_;k_is)
  (case xoNought|EWk_Wk|ENought_Wk|ENought_Nought|xk8Wk|xb1WordError|xb2WordError|xb3WordError|xt1Pair|xt2Pair|xt3Pair|xt4Pair|xt5Pair=>kernel_rfl)
  (case A1|A2|A3|A5|A16|A17|A18|A30|A31|A32|A33|A34|A35|A36|A37|A38|A39|A40|A41|A42|A43|A44|A45|A46|A47|A48|A52|A53|A54|A55|A56|A57|A58|A59|A60|A61|A62|A63|A64=>walk_at "fg")
  (case F4=>walk_at "fk")
  (case A6|A7|A8|A9|A10|A11|A12|A13|A14|A15|A19|A20|A21|A22|A23|A24|A25|A26|A27|A28|A29|A49|A50|A51=>walk_at "mg")
  (case CWk=>constructor<;>kernel_rfl)
  (case xtnPair=>intro c; cases c<;>kernel_rfl)
