import PyProof.Rows.All
import Wide.All
import OpenK.AllK
import Wide.FinOn
import Lean
import PyProof.EqAt
import PyProof.EqKinds
import PyProof.TupleCall
import PyProof.NeKinds
import PyProof.RulesTry
import PyProof.ExcArgsOwn
import PyProof.InstStoreFacts
import PyProof.ExcInit
import PyProof.ExcClass3
import KE.KTryMore
import PyProof.NsDelKeeps
import PyProof.RulesAs
import PyProof.InstEq
import PyProof.Rows.EqMixed
import PyProof.FactsAll.tuple_1
import PySem.Challenge.RW_markwords_k32_numbers_of_two
set_option Elab.async false
set_option linter.all false
set_option maxRecDepth 100000
set_option maxHeartbeats 8000000
set_option compiler.extract_closed false
local macro_rules | `(tactic| lia) => `(tactic| first | lia (config := {}) | omega)
local macro_rules | `(tactic| symm) => `(tactic| walk_at "v")
local macro_rules | `(tactic| nofun) => `(tactic| walk_at "u")
def Ue:=@List.getElem?_eq_some_iff
def Uf:=@List.getElem?_eq_getElem
def Ug:=@List.length_map
def Uh:=@List.mem_of_getElem?
def Ui:=@List.getElem?_append_left
def Uj:=@List.length_append
def Uk:=@Nat.le_refl
def Ul:=@List.length_cons
def Um:=@List.map_append
def Uo:=@List.size_toArray
def Up:=@List.mem_cons
def Uq:=@List.getElem?_append_right
def Ur:=@Bool.false_ne_true
def Us:=@List.mem_singleton
def Ut:=@List.length_set
def Uu:=@List.mem_append
def Uv:=@List.getElem?_map
def Uw:=@List.getElem?_set_self
def Ux:=@Nat.lt_of_lt_of_le
def Uy:=@List.map_cons
def Uz:=@List.getElem?_set_ne
def UB:=@List.mem_filter
def UC:=@Nat.le_trans
def UD:=@List.lookup_cons
def UF:=@Nat.ne_of_lt
def UH:=@List.mem_append_left
def UJ:=@List.mem_append_right
def UL:=@List.append_assoc
def UM:=@Int.one_mul
def UN:=@List.mem_cons_self
def UP:=@List.mem_cons_of_mem
def UQ:=@List.not_mem_nil
def UR:=@List.append_nil
def UU:=@Int.emod_lt_of_pos
def UV:=@Option.map_eq_some_iff
def UW:=@List.mem_map
def UY:=@Nat.zero_le
def UZ:=@List.length_take
def U0:=@Int.emod_nonneg
def U1:=@Nat.le_of_lt
def U2:=@List.take_length
def U3:=@List.mem_filterMap
def U4:=@List.pairwise_cons
def U5:=@PySem.W.kia_one
def U6:=@List.length_nil
def U7:=@Int.emod_eq_of_lt
def U8:=@Nat.add_sub_cancel_left
def U9:=@List.filter_append
def Da:=@Nat.pow_le_pow_right
def Db:=@List.replicate_succ
def Dc:=@List.nodup_cons
def Dd:=@List.length_singleton
def De:=@List.find?_cons
def Df:=@Bool.false_eq_true
def Dg:=@Nat.lt_irrefl
def Dh:=@List.getElem?_cons_zero
def Di:=@List.mem_range
def Dj:=@List.nil_append
def Dk:=@List.map_congr_left
def Dl:=@PySem.W.methodCall_KW
def Dm:=@List.getElem?_of_mem
def Dn:=@List.mem_of_mem_take
def Do:=@List.flatten_cons
def Dp:=@List.nodup_append
def Dq:=@Nat.min_eq_left
def Dr:=@List.any_cons
def Ds:=@List.getElem?_cons_succ
def Dt:=@List.mem_map_of_mem
def Du:=@List.flatMap_append
def Dv:=@List.length_drop
def Dw:=@Bool.and_eq_true
def Dx:=@PySem.W.callWith_K
def Dy:=@List.map_nil
def Dz:=@Nat.zero_add
def DA:=@List.length_filter_le
def DB:=@Int.fmod_eq_emod_of_nonneg
def DC:=@Int.fdiv_eq_ediv_of_nonneg
def DD:=@List.getD_eq_getElem?_getD
def DF:=@PySem.W.hideAll_none
def DG:=@List.pairwise_append
def DH:=@List.all_eq_true
def DI:=@List.cons_append
def DJ:=@PySem.W.hideAll_get
def DL:=@Nat.sub_self
def DM:=@List.map_map
def DN:=@Int.natCast_nonneg
def DO:=@Bool.eq_iff_iff
def DP:=@List.getElem?_replicate
def DQ:=@List.eraseIdx_cons_succ
def DR:=@List.set_cons_zero
def DS:=@List.set_cons_succ
def DT:=@List.take_of_length_le
def DU:=@List.length_pos_of_mem
def DV:=@Int.toNat_natCast
def DW:=@List.take_add_one
def DX:=@Bool.eq_false_iff
def DY:=@List.flatMap_def
def DZ:=@List.set_append_left
def D0:=@List.mem_of_mem_drop
def D1:=@Int.not_le
def D2:=@List.filterMap_cons
def D3:=@PySem.W.plainGet_of
def D4:=@List.length_pos_iff
def D5:=@List.filter_sublist
def D6:=@Array.append_assoc
def D7:=@Nat.le_of_eq
def D8:=@List.zip_cons_cons
def D9:=@List.zip_nil_right
def Ra:=@Int.ne_of_gt
def Rb:=@Int.natAbs_natCast
def Re:=@List.mem_or_eq_of_mem_set
def Rg:=@List.getElem?_take_of_lt
def Rh:=@Option.isSome_map
def Ri:=@PyProof.noPylong_of_log2
def Rj:=@Nat.le_succ_of_le
def Rk:=@Bool.not_eq_true'
def Rl:=@List.zip_nil_left
def Rm:=@List.pairwise_map
def Rn:=@List.length_range
def Ro:=@List.flatMap_cons
def Rp:=@List.all_cons
def Rq:=@Nat.pow_add
def Rr:=@List.sum_cons
def Rs:=@Nat.succ_le_succ
def Ru:=@List.filter_cons
def Rv:=@List.getElem_mem
def Rw:=@PySem.W.cellsFrom_some
def Rx:=@List.zipWith_cons_cons
def Ry:=@Nat.div_div_eq_div_mul
def Rz:=@Nat.eq_of_beq_eq_true
def RA:=@List.of_mem_zip
def RB:=@List.length_replicate
def RC:=@List.foldl_cons
def RD:=@Nat.add_comm
def RE:=@List.getElem?_eq_none
def RF:=@Int.ediv_nonneg
def RG:=@List.set_set
def RH:=@List.take_left'
def RJ:=@List.set_getElem_self
def RK:=@List.take_append_drop
def RL:=@List.perm_append_comm
def RM:=@Bool.beq_eq_decide_eq
def RN:=@List.range_succ
def RO:=@Int.le_of_lt
def RP:=@Nat.mul_succ
def RQ:=@List.dropLast_eq_take
def RS:=@List.drop_left'
def RT:=@List.map_set
def RU:=@Bool.and_eq_true_iff
def RV:=@List.length_dropLast
def RW:=@Nat.div_lt_of_lt_mul
def RX:=@Nat.mul_le_mul_right
def RY:=@Int.natAbs_neg
def RZ:=@List.nodup_nil
def R0:=@List.drop_zero
def R1:=@Int.mul_nonneg
def R3:=@Array.length_toList
def R4:=@Nat.le_succ
def R5:=@Array.getElem?_push
def R6:=@Int.pow_add
def R7:=@PySem.W.of_hideAll
def R8:=@Array.find?_toList
def R9:=@Nat.lt_of_le_of_lt
def Ba:=@List.contains_cons
def Bb:=@List.map_take
def Bc:=@List.map_drop
def Bd:=@List.append_of_mem
def Be:=@Int.lt_or_lt_of_ne
def Bf:=@Nat.not_lt
def Bg:=@Int.not_lt
def Bh:=@Nat.ne_of_gt
def Bi:=@Nat.min_self
def Bj:=@Int.zero_add
def Bk:=@Int.mul_comm
def Bl:=@Int.add_comm
def Bm:=@Nat.log2_lt
def Bn:=@Int.le_refl
namespace L2
open PySem PySem.Spec PyProof.Rows
def qE(s:Stmt)(j:Nat):Stmt:=match s with
 |.ClassDef _ _ _ body _ _ _ _ _ _ _=>body.getD j (.Pass ⟨0,0,0,0⟩)
 |_=>.Pass ⟨0,0,0,0⟩
def Qz(s:Stmt):Arguments:=match s with
 |.FunctionDef _ a _ _ _ _ _ _ _ _=>a
 |_=>{ posonlyargs:=[],args:=[],vararg:=none,kwonlyargs:=[],kw_defaults:=[],kwarg:=none,defaults:=[] }
def vQ(s:Stmt):List Stmt:=match s with
 |.FunctionDef _ _ b _ _ _ _ _ _ _=>b
 |_=>[]
def qg(s:Stmt):Scope:=match s with
 |.FunctionDef _ _ _ _ _ _ sc _ _ _=>sc
 |_=>{ kind:=.function,names:=[],isGenerator:=false,isCoroutine:=false }
end L2
namespace Hd
open PySem PySem.W PySem.Calls PyProof.Rows
def topT(tb:String->Option Builtin)(p:Program)(w:World)(m:Nat)(an:Option Value):Nat->SharedT->Thread->Option SharedT
 |0,_,_=>none
 |k+1,s,t=>match through t with
  |true=>some s
  |false=>match stepOk m an t with
   |false=>none
   |true=>match stepT (denote tb) p w s t with
    |some (s1,t1)=>topT tb p w m an k s1 t1
    |none=>none
theorem JS :
  ∀{k:Nat}{s r:SharedT}{t:Thread},topT tb p w m an k s t=some r->topRun tb p w m an k s.abs t=some r.abs
 |0,_,_,_,h=>by cases h
 |k+1,s,r,t,h=>by
  unfold topT at h;unfold topRun;cases ht:through t with
  |true=>rw[ht] at h; cases h; rfl
  |false =>
   rw[ht] at h;cases hk:stepOk m an t with
   |false=>rw[hk] at h; cases h
   |true =>
    rw[hk] at h;cases hs:stepT (denote tb) p w s t with
    |none=>rw[hs] at h; cases h
    |some x =>
     obtain⟨s1,t1⟩:=x;rw[hs] at h;rw[stepT_spec hs];exact JS h
noncomputable def bootT(P:Params):BT :=
 .node (boot_o_0 P) (.node (boot_o_1 P) (.node (boot_o_3 P) (.node (boot_o_7 P) .nil .nil) .nil) (.node (boot_o_5 P) (.node (boot_o_9 P) .nil .nil) .nil))
  (.node (boot_o_2 P) (.node (boot_o_4 P) (.node (boot_o_8 P) .nil .nil) .nil) (.node (boot_o_6 P) (.node (boot_o_10 P) .nil .nil) .nil))
abbrev bootL:Life:={}
theorem qal(P:Params):boot_heap P=absHeap (bootT P) 11 bootL:=by kernel_rfl
noncomputable def S0(w:World)(os:OsState):SharedT:=⟨bootT w.params,11,bootL, #[],boot_drawn,boot_toks,os⟩
noncomputable def Look(p q:Program)(loose:List Str)(Xt:Shared->Bool){α:Type}(Yf:Shared->α)(w:World)(s:Shared) :=
 ((staticsOk (importedModules p.main.body) (boot_heap w.params) s.heap&&namesBound p s.heap&&gensDone s&&laidKept (boot_heap w.params) s.heap),openSeen q loose (importedModules p.main.body) Xt true s,Yf s)
theorem left_of{p q:Program}{loose:List Str}{Xt:Shared->Bool}{α:Type}{Yf:Shared->α}{Ya:World->α}{N M:Nat}(e:opening p=plainProg p.main.scope.names)(hN:Nat.ble 600 N=true)(f:∀s,fenceModules? p s=some s)(le:Nat.ble M N=true)(run:∀w os,(topT treeTable p w 11 (some (.ref 6)) M (S0 w os) (topStub p)).map (λs=>Look p q loose Xt Yf w s.abs)=some (true,openGood q loose,Ya w))(hs:∀P:Params,((boot_heap P).isNs mainGlobals,(boot_heap P).nsMap mainGlobals "__annotations__")=(true,some (.ref 6))):LeftO p q loose Xt Yf Ya N:=λw=>by
 obtain⟨⟨h,gs,d,k,os⟩,e1,e2⟩:=UV.mp (boot_open e hN f w);obtain⟨rfl,rfl,rfl,rfl⟩:h=boot_heap w.params/\gs=Array.mk []/\d=boot_drawn/\k=boot_toks:=by simpa using e2
 obtain⟨z1,z3⟩:_/\_:=by simpa only[Prod.mk.injEq] using hs w.params
 obtain⟨r,r1,r2⟩:=UV.mp (run w os);obtain⟨l1,l2,l3⟩:_/\_/\_:=by simpa only[Look,Prod.mk.injEq] using r2
 have r3:=topRun_mono (N-M) _ _ _ _ (JS r1);rw[show M+(N-M)=N by have:=Nat.le_of_ble_eq_true le; lia] at r3;have a:(S0 w os).abs=⟨boot_heap w.params, #[],boot_drawn,boot_toks,os⟩:=by rw[qal]; rfl
 rw[a] at r3;have t:topFrom treeTable p w N ⟨boot_heap w.params, #[],boot_drawn,boot_toks,os⟩=some r.abs:=by
  unfold topFrom;dsimp only;rw[z1,z3,show(boot_heap w.params).objs.size=11 from rfl,r3];show(match staticsOk (importedModules p.main.body) (boot_heap w.params) r.abs.heap&&namesBound p r.abs.heap&&gensDone r.abs&&laidKept (boot_heap w.params) r.abs.heap with|true=>_|false=>_)=_;rw[l1]
 unfold openEnds;rw[e1];show(topFrom treeTable p w N _).map _=_;rw[t];exact congrArg some (Prod.ext l2 l3)
def fill(f:Nat->Obj):List Nat->Frag->List Obj
 | [],_=>[]
 |i::r, []=>f i::fill f r []
 |i::r,(a,o)::Ξ=>match Nat.beq a i with
  |true=>o::fill f r Ξ
  |false=>f i::fill f r ((a,o)::Ξ)
theorem V5:∀{r:List Nat}{Ξ:Frag},(∀p∈Ξ,f p.1=p.2)->fill f r Ξ=r.map f
 | [],_,_=>rfl
 |i::r, [],h=>congrArg (f i :: ·) (V5 h)
 |i::r,(a,o)::Ξ,h=>by
  unfold fill;cases e:Nat.beq a i with
  |true =>
   cases Rz e;exact(congrArg (· :: fill f r Ξ) (h (i,o) (.head _)).symm).trans (congrArg (f i :: ·) (V5 λp m=>h p (.tail _ m)))
  |false=>exact congrArg (f i :: ·) (V5 h)
noncomputable def BR(P:Params):Frag:=[(0,boot_o_0 P),(1,boot_o_1 P),(4,boot_o_4 P),(5,boot_o_5 P),(6,boot_o_6 P),(7,boot_o_7 P),(8,boot_o_8 P),(9,boot_o_9 P),(10,boot_o_10 P)]
def ins(x:Nat×Obj):Frag->Frag
 | []=>[x]
 |y::r=>match Nat.ble x.1 y.1 with
  |true=>x::y::r
  |false=>y::ins x r
def KX(Ξ R:Frag):Frag:=R.foldr ins Ξ
def E0:Obj:=⟨.none,none, .fields #[], #[]⟩
noncomputable def SE(Ξ R:Frag)(Q:List Nat)(n:Nat)(f:Nat->Obj)(l:Life)(d:Drawn)(k:Nat)(os:OsState):Shared:=⟨⟨(fill (λi=>match Q.any (Nat.beq i) with|true=>E0|false=>f i) (List.range n) (KX Ξ R)).toArray,l⟩, #[],d,k,os⟩
theorem SE_is{s:SharedT}(h:(s.n,s.gens,Q.map s.tree.get,(KX Ξ R).map λp=>s.tree.get p.1)=(n, #[],Q.map (λ_=>some E0),(KX Ξ R).map λp=>some p.2)):s.abs=SE Ξ R Q n (λi=>(s.tree.get i).getD default) s.life s.drawn s.toks s.os:=by
 obtain⟨T,m,l,g,d,k,os⟩:=s;obtain⟨rfl,rfl,h2,h3⟩:m=n/\g=#[]/\_/\_:=by simpa only[Prod.mk.injEq] using h
 show Shared.mk (absHeap T m l) _ _ _ _=Shared.mk _ _ _ _ _;have q:(λi=>match Q.any (Nat.beq i) with|true=>E0|false=>(T.get i).getD default)=λi=>(T.get i).getD default:=funext λi=>by
  cases e:Q.any (Nat.beq i) with
  |false=>rfl
  |true =>
   obtain⟨j,hj,x⟩:=List.any_eq_true.mp e;cases Rz x;show E0=(T.get i).getD default;rw[List.map_inj_left.mp h2 i hj]; rfl
 unfold absHeap BT.list;show _=Shared.mk ⟨(fill (λi=>match Q.any (Nat.beq i) with|true=>E0|false=>(T.get i).getD default) _ _).toArray,_⟩ _ _ _ _;rw[q,V5 λp m=>by show(T.get p.1).getD default=_; rw[List.map_inj_left.mp h3 p m]; rfl]
noncomputable def LkA(p q:Program)(w:World)(s:Shared):=((staticsOk (importedModules p.main.body) (boot_heap w.params) s.heap&&namesBound p s.heap&&gensDone s&&laidKept (boot_heap w.params) s.heap),seen ((recsOf q).map (·.name)) (ownsOf q) [] { s with gens:=#[] },s.heap.bltView)
noncomputable def GdA(q:Program):=(true,expectedOf q,bltViewBooted)
noncomputable def LkB(p q:Program)(loose:List Str)(Xt:Shared->Bool)(s:Shared):=(s.heap.keysOk (looseW q loose) ((recsOf q).map (·.name)) ((litsOf q).map (·.1)) ((clssOf q (looseW q loose)).map (·.name))&&s.heap.accountedOkI (importedModules p.main.body)&&s.heap.isNs mainGlobals&&s.heap.isNs builtinsNs&&tablesOk q s.heap&&Xt s&&(if true then s.gens.size==0 else !leftWithCleanup s.gens))
noncomputable def LkD(q:Program)(loose:List Str)(s:Shared):=(pinSeenD q (drecsOf q) s,plainSeenE q (looseW q loose) s,plainSeenD q loose s,wideSeen q s,clsSeenW q loose s)
noncomputable def GdD(q:Program)(loose:List Str):=(pinGoodD (drecsOf q),plainGoodE q (looseW q loose),plainGoodD q loose,wideGood q,clsGoodW q loose)
theorem look3{p q:Program}{loose:List Str}{Xt:Shared->Bool}{α:Type}{Yf:Shared->α}{w:World}{y:α}{s:Shared}(hA:LkA p q w s=GdA q)(hB:(LkB p q loose Xt s,tabsOk q s)=(true,true))(hD:LkD q loose s=GdD q loose)(hC:Yf s=y):Look p q loose Xt Yf w s=(true,openGood q loose,y) :=
 Prod.ext (congrArg (·.1) hA) (Prod.ext (Prod.ext (congrArg (·.2.1) hA) (Prod.ext (congrArg (·.2.2) hA) (Prod.ext (congrArg (·.1) hB) (Prod.ext (congrArg (·.2) hB) hD)))) hC)
theorem left_ofE{Ξ R:Params->Frag}{as:∀P,KA=(Ξ P).map (·.1)}(e:opening p=plainProg p.main.scope.names)(hN:Nat.ble 600 N=true)(f:∀s,fenceModules? p s=some s)(le:Nat.ble M N=true)(run:∀w os,(topT treeTable p w 11 (some (.ref 6)) M (S0 w os) (topStub p)).map (λs=>(s.n,s.gens,Q.map s.tree.get,(KX (Ξ w.params) (R w.params)).map λp=>s.tree.get p.1))=some (n, #[],Q.map (λ_=>some E0),(KX (Ξ w.params) (R w.params)).map λp=>some p.2))(look:∀w f l d k os,Look p q loose Xt (kHook Ξ KA as).obs w (SE (Ξ w.params) (R w.params) Q n f l d k os)=(true,openGood q loose,(kHook Ξ KA as).val w))(hs:∀P:Params,((boot_heap P).isNs mainGlobals,(boot_heap P).nsMap mainGlobals "__annotations__")=(true,some (.ref 6))):LeftO p q loose Xt (kHook Ξ KA as).obs (kHook Ξ KA as).val N :=
 left_of e hN f le (λw os=>by
  obtain⟨r,r1,r2⟩:=UV.mp (run w os);rw[r1];exact congrArg some ((congrArg _ (SE_is r2)).trans (look w _ _ _ _ _))) hs
theorem boot_main(P:Params):((boot_heap P).isNs mainGlobals,(boot_heap P).nsMap mainGlobals "__annotations__")=(true,some (.ref 6)):=by kernel_rfl
end Hd
namespace Hd
open PySem PySem.W PySem.Calls PyProof.Rows
theorem close{H:Hook}(left:LeftO r.prog q loose (λs=>xlAt q lv s&&recOk (RowW.records (OpenRow.toRowW r)) s) H.obs H.val N)(h1:defOf q r.name=some (d,kwd))(h2:r.prog.theDef r.name=some (d.params,d.body,d.scope))(h3:kwWritten? d.params.kwonlyargs d.params.kw_defaults=some kwd)(h4:(!r.writes||r.records.isEmpty)=true)(h5:r.wellSaid=true)(h6:(chainsOk q&&opensWell r.prog&&(frees r.toRowW&&r.within.isEmpty))=true)(h7:r.prog.bare)(hw:r.toRowW.promised)(hc:WalkO q loose (XL q lv) H.says r.toRowW d kwd λf vs=>PySem.call f vs):r.Holds :=
 holds_open left H.of H.keeps (λs z=>xl_of s (RU.mp z).1) XL.keeps h1 h2 h3 (λs z=>recFacts_of (RU.mp z).2) h4 h5 h6 h7 hw hc
end Hd
namespace Mw
open PySem L2
def top(i:Nat):Stmt:=PySem.Challenge.pw_markwords_k32_numbers_of_two.main.body.getD i (.Pass ⟨0,0,0,0⟩)
end Mw
theorem PySem.W.Fast.te13284508909471653622:True:=True.intro
def PySem.W.Fast.tw217949208097756954:PySem.Program:=PySem.Challenge.pw_markwords_k32_numbers_of_two
theorem PySem.W.Fast.te217949208097756954:PySem.Challenge.pw_markwords_k32_numbers_of_two=PySem.W.Fast.tw217949208097756954:=rfl
namespace Mx
open PySem PySem.W PySem.Calls PyProof.Rows L2 Mw
abbrev kC(n q:Str)(t l a:Nat)(x7:Int)(r8:Nat)(b9:Bool)(r11:Nat)(v12 v13 v14:Value)(r15 t16 t18:Nat):Obj:=⟨.type "code", none,(.fields #[.str n t, .str q (t+1), .str "/claim/cut.py" (t+2), .int l 0, .int a 0, .int 0 0, .int 0 0, .int x7 0, .ref r8, .bool b9, .int 181 0, .ref r11,v12,v13,v14, .ref r15, .int t16 0, .int l 0, .str "/claim/cut.py" t18]), #[]⟩
abbrev kF(n q:Str)(s:Stmt)(m:Value)(c:Nat):Obj:=⟨.type "function", none,(.func (W.fnOf n q (Qz s) (vQ s) (qg s) .none .none .none m none (.ref c) .none)), #[]⟩
abbrev kT(l:List Value):Obj:=⟨.type "tuple", none,(.seq l.toArray 0), #[]⟩
abbrev kD(n q:Str)(t l a:Nat)(x:Int)(r u:Nat):Obj:=kC n q t l a x r true (r+1) .none (.ref (r+2)) (.ref (r+3)) (r+4) u (u+1)
abbrev kd(n:Str):=kD n n
abbrev kn(n:Str)(t l a:Nat)(x:Int)(r u:Nat):Obj:=kC n n t l a x r true (r+1) .none .none .none (r+2) u (u+1)
abbrev kx:List Value:=[.type "ValueError", .type "Exception", .type "BaseException", .type "object"]
abbrev kK(n:Str)(b m:List Value)(s:Nat)(l:List Value)(c:Option Value)(t u:Nat)(w:String):Obj:=⟨.type "type", none,(.cls { name:=n,bases:=b,mro:=m,ns:=s,qualname:=n,hasDict:=true,slotNames:=[],subclasses:=l,abstract:=false,collection:=none,hasDel:=false }), #[c,none,some (.str n t),some (.str n u),some (.builtin w),some (.bool true)]⟩
abbrev kE(l:List DictEntry)(n:Nat):Obj:=⟨.type "dict", none,(.dict l.toArray n), #[]⟩
abbrev kf(n:Str):=kF n n
abbrev y0:Value:=.str "__main__" 164
abbrev y1:Value:=.str "markwords.errors" 194
abbrev y2:Value:=.str "markwords.layings" 271
abbrev y3:Value:=.str "markwords.limbs" 302
abbrev y4:Value:=.str "markwords.needs" 358
abbrev y5:Value:=.str "markwords.words" 388
abbrev y6:Value:=.str "markwords.things" 459
abbrev y7:Value:=.str "markwords.sweeping" 488
abbrev y8:Value:=.str "markwords.store" 535
abbrev y9:Value:=.str "law_markwords_k32_numbers_of_two" 847
abbrev oE(P:Params)(n:Str)(t:Nat)(v:Value):DictEntry:=⟨PyData.keyHash P n, .str n t,v⟩
abbrev o(P:Params)(n:Str)(t a:Nat):=oE P n t (.ref a)
noncomputable def K:Params->Frag:=λP =>
(nat_lit 2,⟨.none,none,(.dict #[] 0), #[]⟩) ::
(nat_lit 3,kE [oE P "__name__" 165 (.str "law_markwords_k32_numbers_of_two" 847),oE P "__doc__" 166 (.none),oE P "__package__" 167 (.none),oE P "__loader__" 168 (.builtin "__main__.__loader__#opaque"),oE P "__spec__" 169 (.none),o P "__annotations__" 170 6,o P "__builtins__" 171 4,oE P "__file__" 173 (.str "/claim/cut.py" 172),oE P "__cached__" 174 (.none),o P "_wall" 193 21,o P "WordError" 213 31,o P "WrongKind" 238 51,o P "Nought" 254 63,o P "NoRoom" 270 75,o P "kinds_on" 278 82,o P "mark_of" 287 89,o P "mark_for" 293 94,o P "load_bits" 301 101,oE P "PAIR_HEAD" 305 (.int (1) 304),oE P "PAIR_SIZE" 307 (.int (3) 306),o P "limb_count" 316 108,o P "rows_of" 329 115,o P "size_at" 338 122,o P "number_at" 349 129,o P "is_great" 357 136,o P "need_numbers" 368 143,o P "need_divisor" 377 150,o P "need_pair" 385 157,oE P "REGISTERS" 387 (.int (8) 386),o P "THREE" 393 158,oE P "SIGNS" 395 (.int (128) 394),o P "load_of" 404 165,o P "marked" 414 172,o P "small_of" 422 179,o P "worth_of" 432 186,o P "word_of" 440 193,o P "is_small" 449 200,o P "address_of" 458 207,o P "heads_in" 469 214,o P "pair_words_at" 477 221,o P "read_worth" 487 228,o P "reached_from" 501 235,o P "new_places" 512 242,o P "moved_word" 522 249,o P "moved_thing" 528 254,o P "swept" 534 259,o P "KINDS_BY_MARK" 552 260,o P "own_laying" 559 267,o P "most_outside" 567 274,o P "Store" 846 480,o P "_law_bag" 854 489,o P "_law_draw" 863 496,o P "_law_full_laying" 869 501,o P "_law_laying" 875 506,o P "_law_number" 886 513,o P "_law_mark" 892 518,o P "_law_load" 900 525,o P "_law_is_small" 909 532,o P "_law_limbs" 919 539,o P "_law_alike" 927 546,o P "_law_wide" 933 551,o P "_law_rows" 942 558,o P "_law_word" 956 565,o P "_law_pair_of" 966 572,o P "_law_tried" 978 579,o P "_law_due" 987 586,o P "_law_one_right" 1011 593,o P "law" 1027 600] 68) ::
(nat_lit 20,kd "_wall" 187 1 1 3 15 191) ::
(nat_lit 21,kf "_wall" (top 0) y0 20) ::
(nat_lit 22,kT [.type "ValueError"]) ::
(nat_lit 29,kT []) ::
(nat_lit 30,kE [oE P "__module__" 203 (.str "markwords.errors" 194),oE P "__firstlineno__" 207 (.int (5) 206),o P "__static_attributes__" 208 29,o P "__weakref__" 210 32,oE P "__doc__" 211 (.none)] 3) ::
(nat_lit 31,kK "WordError" [.type "ValueError"] (.ref 31::kx) 30 [.ref 51, .ref 63, .ref 75] (some (.ref 22)) 196 204 "ValueError.__new__") ::
(nat_lit 32,⟨.type "getset_descriptor", none,(.fields #[.str "__weakref__" 209, .ref 31, .builtin "ExceptionGroup.__weakref__", .none]), #[]⟩) ::
(nat_lit 35,kT [.ref 31]) ::
(nat_lit 47,kD "__init__" "WrongKind.__init__" 226 9 2 3 42 231) ::
(nat_lit 48,kF "__init__" "WrongKind.__init__" (qE (top 3) 0) y1 47) ::
(nat_lit 49,kT [.str "part" 234]) ::
(nat_lit 50,kE [oE P "__module__" 221 (.str "markwords.errors" 194),oE P "__firstlineno__" 225 (.int (7) 224),o P "__init__" 233 48,o P "__static_attributes__" 235 49,oE P "__doc__" 236 (.none)] 2) ::
(nat_lit 51,kK "WrongKind" [.ref 31] (.ref 51 :: .ref 31::kx) 50 [] (some (.ref 35)) 214 222 "ValueError.__new__") ::
(nat_lit 54,kT [.ref 31]) ::
(nat_lit 61,kT []) ::
(nat_lit 62,kE [oE P "__module__" 246 (.str "markwords.errors" 194),oE P "__firstlineno__" 250 (.int (12) 249),o P "__static_attributes__" 251 61,oE P "__doc__" 252 (.none)] 2) ::
(nat_lit 63,kK "Nought" [.ref 31] (.ref 63 :: .ref 31::kx) 62 [] (some (.ref 54)) 239 247 "ValueError.__new__") ::
(nat_lit 66,kT [.ref 31]) ::
(nat_lit 73,kT []) ::
(nat_lit 74,kE [oE P "__module__" 262 (.str "markwords.errors" 194),oE P "__firstlineno__" 266 (.int (14) 265),o P "__static_attributes__" 267 73,oE P "__doc__" 268 (.none)] 2) ::
(nat_lit 75,kK "NoRoom" [.ref 31] (.ref 75 :: .ref 31::kx) 74 [] (some (.ref 66)) 255 263 "ValueError.__new__") ::
(nat_lit 81,kn "kinds_on" 273 17 2 3 78 276) ::
(nat_lit 82,kf "kinds_on" (top 7) y2 81) ::
(nat_lit 88,kd "mark_of" 279 19 2 3 83 285) ::
(nat_lit 89,kf "mark_of" (top 8) y2 88) ::
(nat_lit 93,kn "mark_for" 288 22 2 3 90 291) ::
(nat_lit 94,kf "mark_for" (top 9) y2 93) ::
(nat_lit 100,kd "load_bits" 294 24 2 3 95 299) ::
(nat_lit 101,kf "load_bits" (top 10) y2 100) ::
(nat_lit 107,kd "limb_count" 308 29 2 3 102 314) ::
(nat_lit 108,kf "limb_count" (top 14) y3 107) ::
(nat_lit 114,kd "rows_of" 317 32 2 3 109 327) ::
(nat_lit 115,kf "rows_of" (top 15) y3 114) ::
(nat_lit 121,kd "size_at" 330 41 2 3 116 336) ::
(nat_lit 122,kf "size_at" (top 16) y3 121) ::
(nat_lit 128,kd "number_at" 339 44 3 3 123 347) ::
(nat_lit 129,kf "number_at" (top 17) y3 128) ::
(nat_lit 135,kd "is_great" 350 49 2 3 130 355) ::
(nat_lit 136,kf "is_great" (top 18) y3 135) ::
(nat_lit 142,kd "need_numbers" 360 52 3 3 137 366) ::
(nat_lit 143,kf "need_numbers" (top 20) y4 142) ::
(nat_lit 149,kd "need_divisor" 369 57 3 3 144 375) ::
(nat_lit 150,kf "need_divisor" (top 21) y4 149) ::
(nat_lit 156,kd "need_pair" 378 61 2 3 151 383) ::
(nat_lit 157,kf "need_pair" (top 22) y4 156) ::
(nat_lit 158,kT [.str "none" 390, .str "no" 391, .str "yes" 392]) ::
(nat_lit 164,kd "load_of" 396 68 3 3 159 402) ::
(nat_lit 165,kf "load_of" (top 27) y5 164) ::
(nat_lit 171,kd "marked" 405 70 3 3 166 412) ::
(nat_lit 172,kf "marked" (top 28) y5 171) ::
(nat_lit 178,kd "small_of" 415 73 2 3 173 420) ::
(nat_lit 179,kf "small_of" (top 29) y5 178) ::
(nat_lit 185,kd "worth_of" 423 75 2 3 180 430) ::
(nat_lit 186,kf "worth_of" (top 30) y5 185) ::
(nat_lit 192,kd "word_of" 433 87 2 3 187 438) ::
(nat_lit 193,kf "word_of" (top 31) y5 192) ::
(nat_lit 199,kd "is_small" 441 93 2 3 194 447) ::
(nat_lit 200,kf "is_small" (top 32) y5 199) ::
(nat_lit 206,kd "address_of" 450 96 2 3 201 456) ::
(nat_lit 207,kf "address_of" (top 33) y5 206) ::
(nat_lit 213,kd "heads_in" 461 100 1 3 208 467) ::
(nat_lit 214,kf "heads_in" (top 35) y6 213) ::
(nat_lit 220,kd "pair_words_at" 470 107 2 3 215 475) ::
(nat_lit 221,kf "pair_words_at" (top 36) y6 220) ::
(nat_lit 227,kd "read_worth" 478 109 3 3 222 485) ::
(nat_lit 228,kf "read_worth" (top 37) y6 227) ::
(nat_lit 234,kd "reached_from" 490 115 3 3 229 499) ::
(nat_lit 235,kf "reached_from" (top 39) y7 234) ::
(nat_lit 241,kd "new_places" 502 124 2 3 236 510) ::
(nat_lit 242,kf "new_places" (top 40) y7 241) ::
(nat_lit 248,kd "moved_word" 513 132 3 3 243 520) ::
(nat_lit 249,kf "moved_word" (top 41) y7 248) ::
(nat_lit 253,kn "moved_thing" 523 137 4 3 250 526) ::
(nat_lit 254,kf "moved_thing" (top 42) y7 253) ::
(nat_lit 258,kn "swept" 529 141 3 3 255 532) ::
(nat_lit 259,kf "swept" (top 43) y7 258) ::
(nat_lit 260,kE [oE P "small" 537 (.str "number" 538),oE P "far" 539 (.str "number" 540),oE P "pair" 541 (.str "pair" 542),oE P "sign" 543 (.str "sign" 544),oE P "one" 545 (.str "one" 546)] 5) ::
(nat_lit 266,kd "own_laying" 553 149 1 3 261 557) ::
(nat_lit 267,kf "own_laying" (top 46) y8 266) ::
(nat_lit 273,kd "most_outside" 560 151 2 3 268 565) ::
(nat_lit 274,kf "most_outside" (top 47) y8 273) ::
(nat_lit 287,kD "__init__" "Store.__init__" 580 155 3 3 282 586) ::
(nat_lit 288,kF "__init__" "Store.__init__" (qE (top 48) 0) y8 287) ::
(nat_lit 294,kD "words" "Store.words" 589 164 1 3 289 593) ::
(nat_lit 295,kF "words" "Store.words" (qE (top 48) 1) y8 294) ::
(nat_lit 301,kD "outside" "Store.outside" 596 167 1 3 296 600) ::
(nat_lit 302,kF "outside" "Store.outside" (qE (top 48) 2) y8 301) ::
(nat_lit 308,kD "sweep" "Store.sweep" 603 170 1 3 303 608) ::
(nat_lit 309,kF "sweep" "Store.sweep" (qE (top 48) 3) y8 308) ::
(nat_lit 315,kD "lacks" "Store.lacks" 611 176 2 3 310 616) ::
(nat_lit 316,kF "lacks" "Store.lacks" (qE (top 48) 4) y8 315) ::
(nat_lit 322,kD "make_room" "Store.make_room" 619 179 2 3 317 624) ::
(nat_lit 323,kF "make_room" "Store.make_room" (qE (top 48) 5) y8 322) ::
(nat_lit 329,kD "lay" "Store.lay" 627 185 4 3 324 634) ::
(nat_lit 330,kF "lay" "Store.lay" (qE (top 48) 6) y8 329) ::
(nat_lit 336,kD "number" "Store.number" 637 189 3 3 331 644) ::
(nat_lit 337,kF "number" "Store.number" (qE (top 48) 7) y8 336) ::
(nat_lit 343,kD "sign" "Store.sign" 647 199 3 3 338 653) ::
(nat_lit 344,kF "sign" "Store.sign" (qE (top 48) 8) y8 343) ::
(nat_lit 350,kD "one" "Store.one" 656 202 3 3 345 662) ::
(nat_lit 351,kF "one" "Store.one" (qE (top 48) 9) y8 350) ::
(nat_lit 357,kD "copy" "Store.copy" 665 205 3 3 352 671) ::
(nat_lit 358,kF "copy" "Store.copy" (qE (top 48) 10) y8 357) ::
(nat_lit 364,kD "in_word" "Store.in_word" 674 208 2 3 359 679) ::
(nat_lit 365,kF "in_word" "Store.in_word" (qE (top 48) 11) y8 364) ::
(nat_lit 371,kD "come_of_two" "Store.come_of_two" 682 211 5 3 366 691) ::
(nat_lit 372,kF "come_of_two" "Store.come_of_two" (qE (top 48) 12) y8 371) ::
(nat_lit 378,kD "plus" "Store.plus" 694 219 4 3 373 701) ::
(nat_lit 379,kF "plus" "Store.plus" (qE (top 48) 13) y8 378) ::
(nat_lit 385,kD "less" "Store.less" 704 223 4 3 380 711) ::
(nat_lit 386,kF "less" "Store.less" (qE (top 48) 14) y8 385) ::
(nat_lit 392,kD "times" "Store.times" 714 227 4 3 387 721) ::
(nat_lit 393,kF "times" "Store.times" (qE (top 48) 15) y8 392) ::
(nat_lit 399,kD "over" "Store.over" 724 231 4 3 394 731) ::
(nat_lit 400,kF "over" "Store.over" (qE (top 48) 16) y8 399) ::
(nat_lit 406,kD "rest" "Store.rest" 734 235 4 3 401 741) ::
(nat_lit 407,kF "rest" "Store.rest" (qE (top 48) 17) y8 406) ::
(nat_lit 413,kD "pair" "Store.pair" 744 239 4 3 408 751) ::
(nat_lit 414,kF "pair" "Store.pair" (qE (top 48) 18) y8 413) ::
(nat_lit 420,kD "pair_in" "Store.pair_in" 754 243 2 3 415 759) ::
(nat_lit 421,kF "pair_in" "Store.pair_in" (qE (top 48) 19) y8 420) ::
(nat_lit 427,kD "first" "Store.first" 762 247 3 3 422 768) ::
(nat_lit 428,kF "first" "Store.first" (qE (top 48) 20) y8 427) ::
(nat_lit 434,kD "second" "Store.second" 771 250 3 3 429 777) ::
(nat_lit 435,kF "second" "Store.second" (qE (top 48) 21) y8 434) ::
(nat_lit 441,kD "set_first" "Store.set_first" 780 253 3 3 436 786) ::
(nat_lit 442,kF "set_first" "Store.set_first" (qE (top 48) 22) y8 441) ::
(nat_lit 448,kD "set_second" "Store.set_second" 789 256 3 3 443 795) ::
(nat_lit 449,kF "set_second" "Store.set_second" (qE (top 48) 23) y8 448) ::
(nat_lit 455,kD "below" "Store.below" 798 259 3 3 450 804) ::
(nat_lit 456,kF "below" "Store.below" (qE (top 48) 24) y8 455) ::
(nat_lit 462,kD "same" "Store.same" 807 263 3 3 457 813) ::
(nat_lit 463,kF "same" "Store.same" (qE (top 48) 25) y8 462) ::
(nat_lit 469,kD "kind" "Store.kind" 816 268 2 3 464 821) ::
(nat_lit 470,kF "kind" "Store.kind" (qE (top 48) 26) y8 469) ::
(nat_lit 476,kD "told" "Store.told" 824 271 2 3 471 829) ::
(nat_lit 477,kF "told" "Store.told" (qE (top 48) 27) y8 476) ::
(nat_lit 478,kT [.str "held" 832, .str "kept" 833, .str "laying" 834, .str "quick" 835, .str "room" 836, .str "slow" 837, .str "sweeps" 838]) ::
(nat_lit 479,kE [oE P "__module__" 575 (.str "markwords.store" 535),oE P "__firstlineno__" 579 (.int (153) 578),o P "__init__" 588 288,o P "words" 595 295,o P "outside" 602 302,o P "sweep" 610 309,o P "lacks" 618 316,o P "make_room" 626 323,o P "lay" 636 330,o P "number" 646 337,o P "sign" 655 344,o P "one" 664 351,o P "copy" 673 358,o P "in_word" 681 365,o P "come_of_two" 693 372,o P "plus" 703 379,o P "less" 713 386,o P "times" 723 393,o P "over" 733 400,o P "rest" 743 407,o P "pair" 753 414,o P "pair_in" 761 421,o P "first" 770 428,o P "second" 779 435,o P "set_first" 788 442,o P "set_second" 797 449,o P "below" 806 456,o P "same" 815 463,o P "kind" 823 470,o P "told" 831 477,o P "__static_attributes__" 839 478,o P "__dict__" 841 481,o P "__weakref__" 843 482,oE P "__doc__" 844 (.none)] 4) ::
(nat_lit 480,kK "Store" [.type "object"] [.ref 480, .type "object"] 479 [] none 568 576 "object.__new__") ::
(nat_lit 481,⟨.type "getset_descriptor", none,(.fields #[.str "__dict__" 840, .ref 480, .builtin "function.__dict__", .builtin "function.__dict__#set"]), #[]⟩) ::
(nat_lit 482,⟨.type "getset_descriptor", none,(.fields #[.str "__weakref__" 842, .ref 480, .builtin "ExceptionGroup.__weakref__", .none]), #[]⟩) ::
(nat_lit 488,kn "_law_bag" 849 276 1 3 485 852) ::
(nat_lit 489,kf "_law_bag" (top 50) y9 488) ::
(nat_lit 495,kd "_law_draw" 855 281 2 3 490 861) ::
(nat_lit 496,kf "_law_draw" (top 51) y9 495) ::
(nat_lit 500,kn "_law_full_laying" 864 292 3 3 497 867) ::
(nat_lit 501,kf "_law_full_laying" (top 52) y9 500) ::
(nat_lit 505,kn "_law_laying" 870 300 1 3 502 873) ::
(nat_lit 506,kf "_law_laying" (top 53) y9 505) ::
(nat_lit 512,kd "_law_number" 876 322 2 3 507 884) ::
(nat_lit 513,kf "_law_number" (top 54) y9 512) ::
(nat_lit 517,kn "_law_mark" 887 333 2 3 514 890) ::
(nat_lit 518,kf "_law_mark" (top 55) y9 517) ::
(nat_lit 524,kd "_law_load" 893 335 2 3 519 898) ::
(nat_lit 525,kf "_law_load" (top 56) y9 524) ::
(nat_lit 531,kd "_law_is_small" 901 337 2 3 526 907) ::
(nat_lit 532,kf "_law_is_small" (top 57) y9 531) ::
(nat_lit 538,kd "_law_limbs" 910 340 2 3 533 917) ::
(nat_lit 539,kf "_law_limbs" (top 58) y9 538) ::
(nat_lit 545,kd "_law_alike" 920 347 2 3 540 925) ::
(nat_lit 546,kf "_law_alike" (top 59) y9 545) ::
(nat_lit 550,kn "_law_wide" 928 349 2 3 547 931) ::
(nat_lit 551,kf "_law_wide" (top 60) y9 550) ::
(nat_lit 557,kd "_law_rows" 934 354 2 3 552 940) ::
(nat_lit 558,kf "_law_rows" (top 61) y9 557) ::
(nat_lit 564,kd "_law_word" 943 359 3 3 559 954) ::
(nat_lit 565,kf "_law_word" (top 62) y9 564) ::
(nat_lit 571,kd "_law_pair_of" 957 364 2 3 566 964) ::
(nat_lit 572,kf "_law_pair_of" (top 63) y9 571) ::
(nat_lit 578,kd "_law_tried" 967 367 5 3 573 976) ::
(nat_lit 579,kf "_law_tried" (top 64) y9 578) ::
(nat_lit 585,kd "_law_due" 979 385 3 3 580 985) ::
(nat_lit 586,kf "_law_due" (top 65) y9 585) ::
(nat_lit 592,kd "_law_one_right" 988 395 6 3 587 1009) ::
(nat_lit 593,kf "_law_one_right" (top 66) y9 592) ::
(nat_lit 599,kd "law" 1012 418 1 3 594 1025) ::
(nat_lit 600,kf "law" (top 67) y9 599) ::
[]
def KA:List Addr:=[2,3,20,21,22,29,30,31,32,35,47,48,49,50,51,54,61,62,63,66,73,74,75,81,82,88,89,93,94,100,101,107,108,114,115,121,122,128,129,135,136,142,143,149,150,156,157,158,164,165,171,172,178,179,185,186,192,193,199,200,206,207,213,214,220,221,227,228,234,235,241,242,248,249,253,254,258,259,260,266,267,273,274,287,288,294,295,301,302,308,309,315,316,322,323,329,330,336,337,343,344,350,351,357,358,364,365,371,372,378,379,385,386,392,393,399,400,406,407,413,414,420,421,427,428,434,435,441,442,448,449,455,456,462,463,469,470,476,477,478,479,480,481,482,488,489,495,496,500,501,505,506,512,513,517,518,524,525,531,532,538,539,545,546,550,551,557,558,564,565,571,572,578,579,585,586,592,593,599,600]
theorem K_as:∀P,KA=(K P).map (·.1):=λ_=>by kernel_rfl
noncomputable def KR(P:Params):Frag:=Hd.BR P++[]
def Q:List Nat:=[16,43,79,84,91,96,103,110,117,124,131,138,145,152,160,167,174,181,188,195,202,209,216,223,230,237,244,251,256,262,269,283,290,297,304,311,318,325,332,339,346,353,360,367,374,381,388,395,402,409,416,423,430,437,444,451,458,465,472,486,491,498,503,508,515,520,527,534,541,548,553,560,567,574,581,588,595]
noncomputable def vw:Program:=W.view PySem.Challenge.pw_markwords_k32_numbers_of_two [0,2,3,4,5,7,8,9,10,12,13,14,15,16,17,18,20,21,22,23,25,26,27,28,29,30,31,32,33,35,36,37,39,40,41,42,43,45,46,47,48,50,51,52,53,54,55,56,57,58,59,60,61,62,63,64,65,66,67]
def ls:List Str:=["KINDS_BY_MARK"]
def lv:List (Str×WData):=[]
noncomputable def Xt(s:Shared):Bool:=xlAt vw lv s&&recOk (RowW.records (OpenRow.toRowW (OpenLaw.row PySem.Challenge.rw_markwords_k32_numbers_of_two))) s
noncomputable def Lf(w:World)(os:OsState):=(Hd.topT treeTable PySem.Challenge.pw_markwords_k32_numbers_of_two w 11 (some (.ref 6)) 7468 (Hd.S0 w os) (topStub PySem.Challenge.pw_markwords_k32_numbers_of_two)).map (λs=>(s.n,s.gens,Q.map s.tree.get,(Hd.KX (K w.params) (KR w.params)).map λp=>s.tree.get p.1))
noncomputable def Rt(w:World)(_:OsState):Option (Nat×Array GenState×List (Option Obj)×List (Option Obj)):=some (601, #[],Q.map (λ_=>some Hd.E0),(Hd.KX (K w.params) (KR w.params)).map λp=>some p.2)
theorem Lf_is:Lf=Lf:=rfl
theorem Rt_is:Rt=Rt:=rfl
name_quick MwLq for Lf by Lf_is
name_quick MwRq for Rt by Rt_is
theorem run0(w:World):Lf (World.withFollow w "special-get-raises" false)=Rt (World.withFollow w "special-get-raises" false) :=
 (congrFun PySem.W.Fast.MwLq_eq (World.withFollow w "special-get-raises" false)).trans (Eq.trans (by kernel_rfl:PySem.W.Fast.MwLq (World.withFollow w "special-get-raises" false)=PySem.W.Fast.MwRq (World.withFollow w "special-get-raises" false)) (congrFun PySem.W.Fast.MwRq_eq (World.withFollow w "special-get-raises" false)).symm)
theorem run1(w:World):Lf (World.withFollow w "special-get-raises" true)=Rt (World.withFollow w "special-get-raises" true) :=
 (congrFun PySem.W.Fast.MwLq_eq (World.withFollow w "special-get-raises" true)).trans (Eq.trans (by kernel_rfl:PySem.W.Fast.MwLq (World.withFollow w "special-get-raises" true)=PySem.W.Fast.MwRq (World.withFollow w "special-get-raises" true)) (congrFun PySem.W.Fast.MwRq_eq (World.withFollow w "special-get-raises" true)).symm)
theorem run(w:World):Lf w=Rt w:=byRow2 "special-get-raises" (P:=λw=>Lf w=Rt w) run0 run1 w
theorem L_eq(w:World)(os:OsState):Lf w os=(Hd.topT treeTable PySem.Challenge.pw_markwords_k32_numbers_of_two w 11 (some (.ref 6)) 7468 (Hd.S0 w os) (topStub PySem.Challenge.pw_markwords_k32_numbers_of_two)).map (λs=>(s.n,s.gens,Q.map s.tree.get,(Hd.KX (K w.params) (KR w.params)).map λp=>s.tree.get p.1)):=by delta Lf; exact Eq.refl _
theorem R_eq(w:World)(os:OsState):Rt w os=some (601, #[],Q.map (λ_=>some Hd.E0),(Hd.KX (K w.params) (KR w.params)).map λp=>some p.2):=by delta Rt; exact Eq.refl _
noncomputable def LfA(w:World)(f:Nat->Obj)(l:Life)(d:Drawn)(k:Nat)(os:OsState):=Hd.LkA PySem.Challenge.pw_markwords_k32_numbers_of_two vw w (Hd.SE (K w.params) (KR w.params) Q 601 f l d k os)
noncomputable def RtA(w:World)(f:Nat->Obj)(l:Life)(d:Drawn)(k:Nat)(os:OsState):=Hd.GdA vw
theorem LfA_is:LfA=LfA:=rfl
name_quick MwLAq for LfA by LfA_is
theorem RtA_is:RtA=RtA:=rfl
name_quick MwRAq for RtA by RtA_is
theorem lookA(w:World):LfA (w)=RtA (w) :=
 (congrFun PySem.W.Fast.MwLAq_eq (w)).trans (Eq.trans (by kernel_rfl:PySem.W.Fast.MwLAq (w)=PySem.W.Fast.MwRAq (w)) (congrFun PySem.W.Fast.MwRAq_eq (w)).symm)
theorem HA_eq(w:World)(f:Nat->Obj)(l:Life)(d:Drawn)(k:Nat)(os:OsState):Hd.LkA PySem.Challenge.pw_markwords_k32_numbers_of_two vw w (Hd.SE (K w.params) (KR w.params) Q 601 f l d k os)=Hd.GdA vw:=Eq.trans (by delta LfA; exact Eq.refl _:_=LfA w f l d k os) ((congrFun (congrFun (congrFun (congrFun (congrFun (lookA w) f) l) d) k) os).trans (by delta RtA; exact Eq.refl _))
noncomputable def LfB(w:World)(f:Nat->Obj)(l:Life)(d:Drawn)(k:Nat)(os:OsState):=(λs=>(Hd.LkB PySem.Challenge.pw_markwords_k32_numbers_of_two vw ls Xt s,tabsOk vw s)) (Hd.SE (K w.params) (KR w.params) Q 601 f l d k os)
noncomputable def RtB(w:World)(f:Nat->Obj)(l:Life)(d:Drawn)(k:Nat)(os:OsState):=(true,true)
theorem LfB_is:LfB=LfB:=rfl
name_quick MwLBq for LfB by LfB_is
theorem lookB(w:World):LfB w=RtB w:=(congrFun PySem.W.Fast.MwLBq_eq w).trans (by kernel_rfl)
theorem HB_eq(w:World)(f:Nat->Obj)(l:Life)(d:Drawn)(k:Nat)(os:OsState):(λs=>(Hd.LkB PySem.Challenge.pw_markwords_k32_numbers_of_two vw ls Xt s,tabsOk vw s)) (Hd.SE (K w.params) (KR w.params) Q 601 f l d k os)=(true,true):=Eq.trans (by delta LfB; exact Eq.refl _:_=LfB w f l d k os) ((congrFun (congrFun (congrFun (congrFun (congrFun (lookB w) f) l) d) k) os).trans (by delta RtB; exact Eq.refl _))
noncomputable def LfD(w:World)(f:Nat->Obj)(l:Life)(d:Drawn)(k:Nat)(os:OsState):=Hd.LkD vw ls (Hd.SE (K w.params) (KR w.params) Q 601 f l d k os)
noncomputable def RtD(w:World)(f:Nat->Obj)(l:Life)(d:Drawn)(k:Nat)(os:OsState):=Hd.GdD vw ls
theorem LfD_is:LfD=LfD:=rfl
name_quick MwLDq for LfD by LfD_is
theorem RtD_is:RtD=RtD:=rfl
name_quick MwRDq for RtD by RtD_is
theorem lookD(w:World):LfD (w)=RtD (w) :=
 (congrFun PySem.W.Fast.MwLDq_eq (w)).trans (Eq.trans (by kernel_rfl:PySem.W.Fast.MwLDq (w)=PySem.W.Fast.MwRDq (w)) (congrFun PySem.W.Fast.MwRDq_eq (w)).symm)
theorem HD_eq(w:World)(f:Nat->Obj)(l:Life)(d:Drawn)(k:Nat)(os:OsState):Hd.LkD vw ls (Hd.SE (K w.params) (KR w.params) Q 601 f l d k os)=Hd.GdD vw ls:=Eq.trans (by delta LfD; exact Eq.refl _:_=LfD w f l d k os) ((congrFun (congrFun (congrFun (congrFun (congrFun (lookD w) f) l) d) k) os).trans (by delta RtD; exact Eq.refl _))
noncomputable def LfC(w:World)(f:Nat->Obj)(l:Life)(d:Drawn)(k:Nat)(os:OsState):=(kHook K KA K_as).obs (Hd.SE (K w.params) (KR w.params) Q 601 f l d k os)
noncomputable def RtC(w:World)(f:Nat->Obj)(l:Life)(d:Drawn)(k:Nat)(os:OsState):=(kHook K KA K_as).val w
theorem LfC_is:LfC=LfC:=rfl
name_quick MwLCq for LfC by LfC_is
theorem RtC_is:RtC=RtC:=rfl
name_quick MwRCq for RtC by RtC_is
theorem lookC(w:World):LfC (w)=RtC (w) :=
 (congrFun PySem.W.Fast.MwLCq_eq (w)).trans (Eq.trans (by kernel_rfl:PySem.W.Fast.MwLCq (w)=PySem.W.Fast.MwRCq (w)) (congrFun PySem.W.Fast.MwRCq_eq (w)).symm)
theorem HC_eq(w:World)(f:Nat->Obj)(l:Life)(d:Drawn)(k:Nat)(os:OsState):(kHook K KA K_as).obs (Hd.SE (K w.params) (KR w.params) Q 601 f l d k os)=(kHook K KA K_as).val w:=Eq.trans (by delta LfC; exact Eq.refl _:_=LfC w f l d k os) ((congrFun (congrFun (congrFun (congrFun (congrFun (lookC w) f) l) d) k) os).trans (by delta RtC; exact Eq.refl _))
theorem hLf9:LeftO PySem.Challenge.pw_markwords_k32_numbers_of_two vw ls Xt (kHook K KA K_as).obs (kHook K KA K_as).val 7468 :=
 Hd.left_ofE (R:=KR) (Q:=Q) (M:=7468) (n:=601) (by kernel_rfl) (by decide) (λ_=>by kernel_rfl) (by decide) (λw os=>(L_eq w os).symm.trans ((congrFun (run w) os).trans (R_eq w os))) (λw f l d k os=>Hd.look3 (HA_eq w f l d k os) (HB_eq w f l d k os) (HD_eq w f l d k os) (HC_eq w f l d k os)) Hd.boot_main
end Mx
namespace L2
open PySem PySem.Spec PyProof.Rows
section
theorem X8(h:Q 4238894112 { s with toks:=s.toks+1 }):wpAny (model prog w) A (pyHash .none) Q E s:=by
 unfold pyHash;have hv:[Value.none].any Value.onHeap=false:=rfl;refine wpAny_bind ?_;rw[cRoomFor,if_neg (by rw[hv]; exact Ur)];refine wpAny_pure ?_;refine wpAny_bind (wpAny_specialOf (typeIs_none s) F.slot_NoneType_hash.lookup ?_);show wpAny _ _ (if(some (Value.builtin "NoneType.__hash__")==some Value.none)=true then _ else _) Q E s;rw[if_neg (by rw[beq_builtin_none]; exact Ur)];refine wpAny_bind (wpAny_specialOf (typeIs_none s) F.slot_NoneType_hash.lookup ?_);show wpAny _ _ (callSpecialIfBoundUnlessNone? .none "__hash__" _ >>= _) Q E s;refine wpAny_bind (wpAny_callSpecialIfBoundUnlessNone?_slot (typeIs_none s) F.slot_NoneType_hash
  (wpAny_call_entry F.slot_NoneType_hash (typeIs_none s) F.entry_NoneType_hash
   (show wpAny _ _ (do ret (<-mkInt 4238894112)) _ _ s from wpAny_ret_mkInt ?_) (F.args_NoneType_hash_1 _)))
 show wpAny _ _ (if(decide (-(2:Int)^63<=4238894112)&&decide ((4238894112:Int)<2^63))=true then _ else _) Q E _;rw[if_pos (by decide)];exact wpAny_pure h
end
inductive Key where
 |inl (i:Int)|inr (x:Str)|non
 deriving DecidableEq
def Jk:Key->Value->Bool
 |.inl k,v=>Value.isInt k v
 |.inr x,v=>Value.isStrOf x v
 |.non, .none=>true
 |.non,_=>false
def keyH(w:World):Key->Int
 |.inl k=>hashInt k
 |.inr x=>hashStr w x
 |.non=>4238894112
theorem vc:∀{k:Key}{v:Value},Jk k v=true->(∃i t,k=Key.inl i/\v=Value.int i t)\/(∃x t,k=Key.inr x/\v=Value.str x t)\/(k=Key.non/\v=Value.none)
 |.inl i,v,h=>by
  obtain⟨t,e⟩:=Value.isInt_shape (k:=i) (v:=v) h;exact .inl ⟨i,t,rfl,e⟩
 |.inr x,v,h=>by
  obtain⟨t,e⟩:=Value.isStrOf_shape (x:=x) (v:=v) h;exact .inr (.inl ⟨x,t,rfl,e⟩)
 |.non,v,h=>by
  cases v<;>first|exact .inr (.inr ⟨rfl,rfl⟩)|exact absurd h (by simp[Jk])
theorem Gn(i:Int)(t:Tok):Jk (.inl i) (.int i t)=true:=by simp[Jk,Value.isInt]
theorem Gm(x:Str)(t:Tok):Jk (.inr x) (.str x t)=true:=by simp[Jk,Value.isStrOf]
theorem key_ll(a b:Int):decide ((Key.inl a:Key)=Key.inl b)=(a==b):=by
 by_cases e:a=b
 ·subst e; simp
 ·have h:¬(Key.inl a:Key)=Key.inl b:=λq=>e (Key.inl.inj q)
  rw[decide_eq_false h];exact(beq_eq_false_iff_ne.mpr e).symm
theorem key_rr(a b:Str):decide ((Key.inr a:Key)=Key.inr b)=decide (a=b):=by
 by_cases e:a=b
 ·subst e; simp
 ·have h:¬(Key.inr a:Key)=Key.inr b:=λq=>e (Key.inr.inj q)
  rw[decide_eq_false h,decide_eq_false e]
theorem key_lr(a:Int)(b:Str):decide ((Key.inl a:Key)=Key.inr b)=false:=decide_eq_false (λq=>nomatch q)
theorem key_rl(a:Str)(b:Int):decide ((Key.inr a:Key)=Key.inl b)=false:=decide_eq_false (λq=>nomatch q)
def vo(prog:Program)(w:World):PySem.KeyKind prog w Key where
 is:=Jk
 hash:=keyH w
 inj:=λv a b ha hb=>by
  rcases vc ha with⟨i,t,rfl,rfl⟩|⟨x,t,rfl,rfl⟩|⟨rfl,rfl⟩
  ·rcases vc hb with⟨j,u,rfl,e⟩|⟨y,u,rfl,e⟩|⟨rfl,e⟩
   ·injection e with e1 _; rw[e1]
   ·exact nomatch e
   ·exact nomatch e
  ·rcases vc hb with⟨j,u,rfl,e⟩|⟨y,u,rfl,e⟩|⟨rfl,e⟩
   ·exact nomatch e
   ·injection e with e1 _; rw[e1]
   ·exact nomatch e
  ·rcases vc hb with⟨j,u,rfl,e⟩|⟨y,u,rfl,e⟩|⟨rfl,e⟩
   ·exact nomatch e
   ·exact nomatch e
   ·rfl
 byValue:=λk v h=>by
  rcases vc h with⟨i,t,rfl,rfl⟩|⟨x,t,rfl,rfl⟩|⟨rfl,rfl⟩<;>rfl
 pyHash:=λhv h=>by
  rcases vc hv with⟨i,t,rfl,rfl⟩|⟨x,t,rfl,rfl⟩|⟨rfl,rfl⟩
  ·exact wpAny_pyHash_int h
  ·exact wpAny_pyHash_str h
  ·exact X8 h
 eqBool:=λhu hv h=>by
  rcases vc hu with⟨i,t,rfl,rfl⟩|⟨x,t,rfl,rfl⟩|⟨rfl,rfl⟩
  ·rcases vc hv with⟨j,u,rfl,rfl⟩|⟨y,u,rfl,rfl⟩|⟨rfl,rfl⟩
   ·rw[key_ll] at h; exact wpAny_eqBool_int h
   ·rw[key_lr] at h; exact SeqAt.EqAt.int_str i t y u _ _ _ _ h
   ·exact SeqAt.EqAt.int_none i t _ _ _ _ h
  ·rcases vc hv with⟨j,u,rfl,rfl⟩|⟨y,u,rfl,rfl⟩|⟨rfl,rfl⟩
   ·rw[key_rl] at h; exact SeqAt.EqAt.str_int x t j u _ _ _ _ h
   ·rw[key_rr] at h; exact wpAny_eqBool_str h
   ·exact SeqAt.EqAt.str_none x t _ _ _ _ h
  ·rcases vc hv with⟨j,u,rfl,rfl⟩|⟨y,u,rfl,rfl⟩|⟨rfl,rfl⟩
   ·exact SeqAt.EqAt.none_int j u _ _ _ _ h
   ·exact SeqAt.EqAt.none_str y u _ _ _ _ h
   ·exact SeqAt.EqAt.same .none _ _ _ _ h
 «strs»:=λk x t v h=>by
  rcases vc h with⟨i,u,rfl,e⟩|⟨y,u,rfl,e⟩|⟨rfl,e⟩
  ·exact nomatch e
  ·injection e with e1 _
   subst e1;cases v<;>rfl
  ·exact nomatch e
theorem Jf(prog:Program)(w:World)(i:Int)(t:Tok):(vo prog w).is (.inl i) (.int i t)=true:=Gn i t
theorem xY(prog:Program)(w:World)(x:Str)(t:Tok):(vo prog w).is (.inr x) (.str x t)=true:=Gm x t
inductive V where
 |non|bl (b:Bool)|int (i:Int)|str (x:Str)|byt (b:Array UInt8)|flt (b:UInt64)|ref (a:Addr)|ty (n:String)
 deriving DecidableEq
def RelV:V->Value->Prop
 |.non,u=>u=Value.none
 |.bl b,u=>u=Value.bool b
 |.int i,u=>∃t,u=Value.int i t
 |.str x,u=>∃t,u=Value.str x t
 |.byt b,u=>∃t,u=Value.bytes b t
 |.flt b,u=>∃t,u=Value.float b t
 |.ref a,u=>u=Value.ref a
 |.ty n,u=>u=Value.type n
abbrev Vals:List V->List Value->Prop:=Paired RelV
theorem Vals.length(r:Vals xs us):xs.length=us.length:=Paired.length r
theorem Vals.get:∀{xs:List V}{us:List Value}{i:Nat}{x:V},Vals xs us->xs[i]?=some x->∃u,us[i]?=some u/\RelV x u
 |_,_,_,_, .nil,e=>by simp at e
 |_,_,0,_, .cons r _,e=>by simp at e; subst e; exact⟨_,rfl,r⟩
 |_,_,i+1,x, .cons _ t,e=>by
  obtain⟨u,h1,h2⟩:=Vals.get (i:=i) (x:=x) t (by simpa using e);exact⟨u,by simpa using h1,h2⟩
theorem Vals.set(r:RelV x u):∀{xs:List V}{us:List Value}(i:Nat),Vals xs us->Vals (xs.set i x) (us.set i u)
 |_,_,_, .nil=>.nil
 |_,_,0, .cons _ t=>.cons r t
 |_,_,i+1, .cons q t=>.cons q (Vals.set r i t)
theorem Vals.append:∀{xs ys:List V}{us ws:List Value},Vals xs us->Vals ys ws->Vals (xs++ys) (us++ws)
 |_,_,_,_, .nil,s=>s
 |_,_,_,_, .cons r t,s=>.cons r (Vals.append t s)
theorem Vals.take:∀{xs:List V}{us:List Value}(n:Nat),Vals xs us->Vals (xs.take n) (us.take n)
 |_,_,0,_=>.nil
 |_,_,_+1, .nil=>.nil
 |_,_,n+1, .cons r t=>.cons r (Vals.take n t)
theorem Vals.drop:∀{xs:List V}{us:List Value}(n:Nat),Vals xs us->Vals (xs.drop n) (us.drop n)
 |_,_,0,r=>r
 |_,_,_+1, .nil=>.nil
 |_,_,n+1, .cons _ t=>Vals.drop n t
def RelO:Option V->Option Value->Prop
 |some v,some u=>RelV v u
 |none,none=>True
 |_,_=>False
def KV{κ:Type}:List (κ×V)->List (κ×Value)->Prop:=Paired λ(p:κ×V) (q:κ×Value)=>p.1=q.1/\RelV p.2 q.2
def kV:Key->V
 |.inl i=>.int i
 |.inr x=>.str x
 |.non=>.non
inductive HO where
  |lst (xs:List V)
  |tup (xs:List V)
  |dK (kvs:List (Key×V))|dT (kvs:List (List Key×V))
  |set (S:Int->Bool) (n:Nat)
  |ins (C dx:Addr) (fs:List (Str×V))
  |own (x:Addr)
  |xd (fs:List (Str×V))
  |met (f x:Addr)
  |rng (lo hi:Int)
  |frz (o:Obj) (u:HO)
  |tbl (ps:Array Value)
  |ext (φ:Heap->Prop)
abbrev Hp:=Addr->Option HO
def upd(H:Hp)(a:Addr)(o:HO):Hp:=λb=>if b=a then some o else H b
theorem upd_same:upd H a o a=some o:=by unfold upd; rw[if_pos rfl]
theorem upd_ne(h:b≠a):upd H a o b=H b:=by unfold upd; rw[if_neg h]
theorem ne_of{H:Hp}(h:H a=some o)(h':H b=some u)(d:o≠u):a≠b:=by
 intro e; subst e; rw[h] at h'; exact d (Option.some.inj h')
theorem qY{H:Hp}(h:H a=some o)(h':H b=none):a≠b:=by
 intro e; subst e; rw[h] at h'; cases h'
section
variable (P:Program) (w:World)
def ObjOk(H:Hp)(h:Heap)(a:Addr):HO->Prop
 |.lst xs=>xs.length<=sizeLine/\∃(its:List Value)(n:Nat),Vals xs its/\h.get? a=some { cls:=.type "list", data:=.seq its.toArray n }
 |.tup xs=>xs.length<=sizeLine/\∃its:List Value,Vals xs its/\IsTup h a its.toArray
 |.dK kvs=>kvs.length<=sizeLine/\(a==sysModules)=false/\∃vs,KV kvs vs/\h.DictOf (vo P w) a vs
 |.dT kvs=>kvs.length<=sizeLine/\(a==sysModules)=false/\∃xs:List (List Key×Addr×Value),
   Paired (λ(p:List Key×V) (q:List Key×Addr×Value)=>p.1=q.1/\H q.2.1=some (.tup (p.1.map kV))/\RelV p.2 q.2.2) kvs xs /\
   ∃o es ep,h.get? a=some o/\o.ExactDict/\o.data=.dict es ep/\es.toList=xs.map (entryOfKey (tupleKind (vo P w)))/\(xs.map (·.1)).Nodup
 |.set S n=>h.SetOf (intKind P w) a S n
 |.ins C dx fs=>H dx=some (.own a)/\fs.length<=1000/\dx≠a/\h.get? a=some (W.instObj C dx) /\
   ∃mA,h.Ns1 dx mA/\(∀f,RelO (fs.lookup f) (mA f))/\PySem.Within mA (fs.map (·.1))
 |.own _=>∃o,h.get? a=some o
 |.xd fs=>∃mA,h.Ns1 a mA/\∀f,RelO (fs.lookup f) (mA f)
 |.rng lo hi=>∃t u v,h.get? a=some { cls:=.type "range", data:=.fields #[.int lo t, .int hi u, .int 1 v] }
 |.frz o u=>h.get? a=some o/\ObjOk H h a u
 |.tbl ps=>h.get? a=some { cls:=.none,data:=.fields ps }
 |.met f x=>h.get? a=some (W.methodObj (.ref f) (.ref x))
 |.ext φ=>φ h/\(∃o,h.get? a=some o)/\∀h1 h2:Heap,φ h1->(∀o,h1.get? a=some o->h2.get? a=some o)->φ h2
def HOk(H:Hp)(h:Heap):Prop:=∀a o,H a=some o->ObjOk P w H h a o
end
section
theorem ObjOk.lt(x:ObjOk P w H h a o):a<h.objs.size:=by
 cases o with
 |lst xs=>obtain⟨_,_,_,_,e⟩:=x; exact Heap.lt_size e
 |tup xs=>obtain⟨_,_,_,p⟩:=x; exact p.lt
 |dK kvs=>obtain⟨_,_,_,_,o,_,_,e,_⟩:=x; exact Heap.lt_size e
 |dT kvs=>obtain⟨_,_,_,_,o,_,_,e,_⟩:=x; exact Heap.lt_size e
 |set S n=>obtain⟨o,_,_,_,e,_⟩:=x; exact Heap.lt_size e
 |ins C dx fs=>obtain⟨_,_,_,e,_⟩:=x; exact Heap.lt_size e
 |own y=>obtain⟨_,e⟩:=x; exact Heap.lt_size e
 |xd fs=>obtain⟨_,⟨_,_,_,e,_⟩,_⟩:=x; exact Heap.lt_size e
 |rng lo hi=>obtain⟨_,_,_,e⟩:=x; exact Heap.lt_size e
 |frz ob u=>obtain⟨e,_⟩:=x; exact Heap.lt_size e
 |tbl ps=>exact Heap.lt_size (show h.get? a=some _ from x)
 |met f y=>exact Heap.lt_size (show h.get? a=some _ from x)
 |ext φ=>obtain⟨_,⟨_,e⟩,_⟩:=x; exact Heap.lt_size e
theorem Paired.mapP{α β:Type}{F G:α->β->Prop}:∀{l₁:List α}{l₂:List β},Paired F l₁ l₂->(∀a b,F a b->G a b)->Paired G l₁ l₂
 |_,_, .nil,_=>.nil
 |_,_, .cons r t,f=>.cons (f _ _ r) (Paired.mapP t f)
theorem ObjOk.stay(x:ObjOk P w H h a o)(k:∀b u,(b=a\/H b=some (.own a))->h.get? b=some u->h'.get? b=some u)(ho:∀b,H b=some (.own a)->H' b=some (.own a))(ht:∀b xs,H b=some (.tup xs)->H' b=some (.tup xs)):ObjOk P w H' h' a o:=by
 induction o with
 |lst xs=>obtain⟨z,its,n,r,e⟩:=x; exact⟨z,its,n,r,k _ _ (.inl rfl) e⟩
 |tup xs=>obtain⟨z,its,r,ob,e,c⟩:=x; exact⟨z,its,r,ob,k _ _ (.inl rfl) e,c⟩
 |dK kvs=>obtain⟨z,y,vs,r,ob,es,ep,e,c⟩:=x; exact⟨z,y,vs,r,ob,es,ep,k _ _ (.inl rfl) e,c⟩
 |dT kvs =>
  obtain⟨z,y,xs,r,ob,es,ep,e,c⟩:=x;exact⟨z,y,xs,Paired.mapP r λp q z=>⟨z.1,ht _ _ z.2.1,z.2.2⟩,ob,es,ep,k _ _ (.inl rfl) e,c⟩
 |set S n=>obtain⟨ob,es,ep,t,e,c⟩:=x; exact⟨ob,es,ep,t,k _ _ (.inl rfl) e,c⟩
 |ins C dx fs =>
  obtain⟨d,z,ne,e,mA,⟨od,es,ep,e2,c⟩,r⟩:=x;exact⟨ho _ d,z,ne,k _ _ (.inl rfl) e,mA,⟨od,es,ep,k _ _ (.inr d) e2,c⟩,r⟩
 |own y=>obtain⟨ob,e⟩:=x; exact⟨ob,k _ _ (.inl rfl) e⟩
 |xd fs=>obtain⟨mA,⟨od,es,ep,e,c⟩,r⟩:=x; exact⟨mA,⟨od,es,ep,k _ _ (.inl rfl) e,c⟩,r⟩
 |rng lo hi=>obtain⟨t,u,v,e⟩:=x; exact⟨t,u,v,k _ _ (.inl rfl) e⟩
 |frz ob u ih=>obtain⟨e,q⟩:=x; exact⟨k _ _ (.inl rfl) e,ih q⟩
 |tbl ps =>
  have e:h.get? a=some { cls:=.none,data:=.fields ps }:=x;show h'.get? a=some { cls:=.none,data:=.fields ps };exact k a _ (.inl rfl) e
 |met f y =>
  have e:h.get? a=some (W.methodObj (.ref f) (.ref y)):=x;show h'.get? a=some (W.methodObj (.ref f) (.ref y));exact k a _ (.inl rfl) e
 |ext φ=>obtain⟨p,⟨o,e⟩,st⟩:=x; exact⟨st _ _ p λo q=>k _ _ (.inl rfl) q,⟨o,k _ _ (.inl rfl) e⟩,st⟩
theorem HOk.lt(x:HOk P w H h)(e:H a=some o):a<h.objs.size:=(x a o e).lt
theorem HOk.fresh(x:HOk P w H h)(e:h.objs.size<=a):H a=none:=by
 cases q:H a with
 |none=>rfl
 |some u=>exact absurd (Ux (x.lt q) e) (Dg _)
theorem HOk.kept(x:HOk P w H h)(k:∀b u,h.get? b=some u->h'.get? b=some u):HOk P w H h':=λa o e =>
 (x a o e).stay (λb u _ q=>k b u q) (λ_ q=>q) λ_ _ q=>q
theorem HOk.laid(x:HOk P w H h)(k:∀b u,h.get? b=some u->h'.get? b=some u)(hp:h.objs.size<=a)(new:ObjOk P w (upd H a o) h' a o):HOk P w (upd H a o) h':=λb u e=>by
 have hn:=x.fresh hp;by_cases hb:b=a
 ·subst hb; rw[upd_same] at e; cases e; exact new
 ·rw[upd_ne hb] at e
  exact(x b u e).stay (λc v _ q=>k c v q) (λc q=>by rw[upd_ne (qY q hn)]; exact q) λc xs q=>by rw[upd_ne (qY q hn)]; exact q
end
def Rd(H:Hp)(a:Addr)(u:HO):Prop:=H a=some u\/∃o,H a=some (.frz o u)
theorem Rd.ok(r:Rd H a u)(x:HOk P w H h):ObjOk P w H h a u:=by
 rcases r with r|⟨o,r⟩
 ·exact x a u r
 ·obtain⟨_,q⟩:=x a _ r
  exact q
def Mut:Option HO->Prop
 |some (.lst _)=>True
 |some (.dK _)=>True
 |some (.dT _)=>True
 |some (.set _ _)=>True
 |some (.ins _ _ _)=>True
 |some (.ext _)=>True
 |_=>False
section
theorem HOk.write(ok:HOk P w H h)(mu:Mut (H x))(he:e=x\/H e=some (.own x))(k:∀b u,b≠e->h.get? b=some u->h'.get? b=some u)(heo:∃u,h'.get? e=some u)(new:ObjOk P w (upd H x o') h' x o'):HOk P w (upd H x o') h':=λb u q=>by
 have nown:∀c y,H c=some (.own y)->c≠x:=λc y r z=>by subst z; rw[r] at mu; exact mu
 have ntup:∀c xs,H c=some (.tup xs)->c≠x:=λc xs r z=>by subst z; rw[r] at mu; exact mu
 by_cases hb:b=x
 ·subst hb; rw[upd_same] at q; cases q; exact new
 ·rw[upd_ne hb] at q
  by_cases hbe:b=e
  ·have q':H b=some (.own x):=by
    rcases he with z|z
    ·exact absurd (hbe.trans z) hb
    ·rw[hbe]; exact z
   rw[q] at q'; cases q';obtain⟨v,hv⟩:=heo;exact⟨v,by rw[hbe]; exact hv⟩
  ·refine(ok b u q).stay (λc v hc r=>k c v ?_ r) (λc r=>by rw[upd_ne (nown c b r)]; exact r) λc xs r=>by rw[upd_ne (ntup c xs r)]; exact r
   rcases hc with rfl|hc
   ·exact hbe
   ·rintro rfl
    rcases he with z|z
    ·exact nown c b hc z
    ·rw[hc] at z; cases z; exact hb rfl
end
structure Un(fs ex:List Addr)(H H':Hp)(h h':Heap):Prop where
 keep:∀b o,h.get? b=some o->H b=none->b∉fs->b∉ex->h'.get? b=some o
 slot:∀b o,h.get? b=some o->H b=none->b∈fs->b∉ex->∃sl,h'.get? b=some { o with slots:=sl }
 free:∀b o,h.get? b=some o->H b=none->b∉ex->H' b=none
 there:∀b o,h.get? b=some o->b∉ex->∃o',h'.get? b=some o'
 tups:∀b xs,H b=some (.tup xs)->H' b=some (.tup xs)
 frzs:∀b o u,H b=some (.frz o u)->H' b=some (.frz o u)
 tbls:∀b ps,H b=some (.tbl ps)->∃more,H' b=some (.tbl (ps++more))
section
theorem Un.any(u:Un fs ex H H1 h h1)(q:h.get? b=some ob)(n:H b=none)(hx:b∉ex):∃sl,h1.get? b=some { ob with slots:=sl }:=by
 by_cases hb:b∈fs
 ·exact u.slot b ob q n hb hx
 ·exact⟨ob.slots,u.keep b ob q n hb hx⟩
theorem Un.trans(a:Un fs ex H H1 h h1)(b:Un fs ex H1 H2 h1 h2):Un fs ex H H2 h h2 where
 keep:=λc ob q n hc hx=>b.keep c ob (a.keep c ob q n hc hx) (a.free c ob q n hx) hc hx
 slot:=λc ob q n hc hx=>by
  obtain⟨sl,e1⟩:=a.slot c ob q n hc hx;obtain⟨sl',e2⟩:=b.slot c _ e1 (a.free c ob q n hx) hc hx;exact⟨sl',e2⟩
 free:=λc ob q n hx=>by
  obtain⟨o',e1⟩:=a.there c ob q hx;exact b.free c o' e1 (a.free c ob q n hx) hx
 there:=λc ob q hx=>by
  obtain⟨o',e1⟩:=a.there c ob q hx;exact b.there c o' e1 hx
 tups:=λc xs q=>b.tups c xs (a.tups c xs q)
 frzs:=λc ob xs q=>b.frzs c ob xs (a.frzs c ob xs q)
 tbls:=λc ps q=>by
  obtain⟨m1,e1⟩:=a.tbls c ps q;obtain⟨m2,e2⟩:=b.tbls c _ e1;exact⟨m1++m2,by rw[e2,D6]⟩
theorem Un.kept(k:∀b u,h.get? b=some u->h'.get? b=some u):Un fs ex H H h h' :=
 ⟨λb ob q _ _ _=>k b ob q,λb ob q _ _ _=>⟨ob.slots,k b ob q⟩,λ_ _ _ n _=>n,λb ob q _=>⟨ob,k b ob q⟩,λ_ _ q=>q,λ_ _ _ q=>q,λ_ ps q=>⟨#[],by rw[q]; simp⟩⟩
theorem Un.refl:Un fs ex H H h h:=Un.kept λ_ _ q=>q
theorem Un.laid(k:∀b u,h.get? b=some u->h'.get? b=some u)(hp:h.objs.size<=a)(hn:H a=none):Un fs ex H (upd H a o) h h' where
 keep:=λb u q _ _ _=>k b u q
 slot:=λb u q _ _ _=>⟨u.slots,k b u q⟩
 free:=λb u q n _=>by rw[upd_ne (UF (Ux (Heap.lt_size q) hp))]; exact n
 there:=λb u q _=>⟨u,k b u q⟩
 tups:=λb xs q=>by rw[upd_ne (qY q hn)]; exact q
 frzs:=λb u xs q=>by rw[upd_ne (qY q hn)]; exact q
 tbls:=λb ps q=>⟨#[],by rw[upd_ne (qY q hn),q]; simp⟩
theorem Un.write(mu:Mut (H x))(he:e=x\/H e=some (.own x))(k:∀b u,b≠e->h.get? b=some u->h'.get? b=some u)(heo:∃u,h'.get? e=some u):Un fs ex H (upd H x o) h h':=by
 have hx:∀b,H b=none->b≠x:=λb n z=>by subst z; rw[n] at mu; exact mu
 have hb:∀b,H b=none->b≠e:=λb n z=>by
  subst z;rcases he with r|r
  ·exact hx b n r
  ·rw[n] at r; cases r
 have hm:∀b u,H b=some u->¬Mut (some u)->b≠x:=λb u q nm z=>by subst z; rw[q] at mu; exact nm mu
 refine⟨λb u q n _ _=>k b u (hb b n) q,λb u q n _ _=>⟨u.slots,k b u (hb b n) q⟩,λb u q n _=>by rw[upd_ne (hx b n)]; exact n,λb u q _=>?_,
  λb xs q=>by rw[upd_ne (hm b _ q λz=>z)]; exact q,λb u xs q=>by rw[upd_ne (hm b _ q λz=>z)]; exact q,λb ps q=>⟨#[],by rw[upd_ne (hm b _ q λz=>z),q]; simp⟩⟩
 by_cases hbe:b=e
 ·subst hbe; exact heo
 ·exact⟨u,k b u hbe q⟩
theorem Un.mono(u:Un fs ex H H1 h h1)(hs:∀b∈fs,b∈fs')(hx:∀b∈ex,b∈ex'):Un fs' ex' H H1 h h1 :=
 ⟨λb ob q n hb he=>u.keep b ob q n (λz=>hb (hs b z)) λz=>he (hx b z),λ_ _ q n _ he=>u.any q n λz=>he (hx _ z),λb ob q n he=>u.free b ob q n λz=>he (hx b z),λb ob q he=>u.there b ob q λz=>he (hx b z),u.tups,u.frzs,u.tbls⟩
end
def trk(h:Heap)(H:Hp):List Addr:=(List.range h.objs.size).filter λa=>(H a).isSome
def hidT(h:Heap)(H:Hp):Heap:=W.hideAll h (trk h H)
theorem Gx(h:Heap)(H:Hp):(hidT h H).objs.size=h.objs.size:=W.hideAll_size _ _
theorem hidT_get(e:h.get? b=some o)(n:H b=none):(hidT h H).get? b=some o :=
 DJ _ e λhm=>by
  have q:(H b).isSome=true:=(UB.mp hm).2;rw[n] at q; simp at q
theorem of_hidT(e:(hidT h H).get? b=some o):h.get? b=some o/\H b=none:=by
 have e':h.get? b=some o:=R7 (trk h H) e;refine⟨e', ?_⟩;cases q:H b with
 |none=>rfl
 |some x =>
  have hm:b∈trk h H:=UB.mpr ⟨Di.mpr (Heap.lt_size e'),by simp[q]⟩;have z:(hidT h H).get? b=none:=DF (trk h H) hm;rw[z] at e; cases e
def allNews(g h:Heap)(L:Addr):List (Addr×Obj):=(List.range h.objs.size).filterMap λa=>if a=L\/(g.get? a).isSome=true then none else(h.get? a).map λo=>(a,o)
def rest(g h:Heap)(L d:Addr):List (Addr×Obj):=(allNews g h L).filter λp=>decide (p.1≠d)
structure Mod(Ξ:PySem.W.Frag)(mg:Str->Option Value)(base:Heap):Prop where
 kin:Ξ.In base
 glob:base.Ns mainGlobals mg
 blt:∃mb,base.Ns builtinsNs mb/\∀x:Str,x ≠ "__name__" -> mb x=bootBuiltins x
 nolimit:base.NoLimit
structure Cx where
 prog:Program
 w:World
 K:PySem.W.Frag
 mg:Str->Option Value
 base:Heap
 A:Around
 N:List Str
 s₀:Shared
 H₀:Hp
 env:Env
 outer:List Env
 stack:List Env
 ex:List Addr
 fn:Str->Bool
 calm:Bool
 pn:List (Addr×Obj)
 xe:Value->Shared->Prop
def frs(l:List Env):List Addr:=l.filterMap (·.frame)
abbrev Cx.fs(X:Cx):List Addr:=frs X.outer
def Vis(sc:Scope)(x:Str):Prop:=sc.names.lookup x=some .local\/sc.names.lookup x=some .cell\/sc.names.lookup x=some .free
def Loc(sc:Scope)(x:Str):Prop:=sc.names.lookup x=some .local\/sc.names.lookup x=some .cell
def Look(env:Env)(h:Heap)(m:Str->Option Value)(x:Str)(u:Value):Prop :=
 (env.kindOf x=some .local/\m x=some u)\/((env.kindOf x=some .cell\/env.kindOf x=some .free)/\∃c,env.cells.lookup x=some c/\h.IsCell c (some u))
structure Cx.Ok(X:Cx):Prop where
 mod:Mod X.K X.mg X.base
 kind:X.env.scope.kind=.function
 glob:X.env.globals=mainGlobals
 blt:X.env.builtins=builtinsNs
 above:X.s₀.heap.objs.size<=X.env.locals
 inj:∀x y c,X.env.cells.lookup x=some c->X.env.cells.lookup y=some c->x=y
 has:∀x,(X.env.kindOf x=some .cell\/X.env.kindOf x=some .free)->∃c,X.env.cells.lookup x=some c
 cab:∀x c,X.fn x=true->X.env.cells.lookup x=some c->X.s₀.heap.objs.size<=c
 hd:X.calm=true->X.A.handled=none
 frames:X.A.frames=some X.stack
 stk:X.stack=X.outer\/(X.stack=X.env::X.outer/\X.env.frame=some X.env.locals)
 exf:∀b∈X.ex,b≠X.env.locals/\∀x c,X.env.cells.lookup x=some c->c≠b
 bs:∀b o,X.base.get? b=some o->X.s₀.heap.get? b=some o/\X.H₀ b=none
 bsz:X.base.objs.size<=X.s₀.heap.objs.size
 noex:∀b o,X.base.get? b=some o->b∉X.ex
 exfs:∀b∈X.ex,b∉X.fs
 funs:X.s₀.heap.FunFrames X.base X.outer
 frf:∀b∈X.fs,X.H₀ b=none
structure Inv(X:Cx)(pins:List (Addr×Obj))(σ:List (Option V))(H:Hp)(s:Shared):Prop where
 ok:X.Ok
 os:s.os=X.s₀.os
 bare:AllBare s.gens
 base:Un X.fs X.ex X.H₀ H X.s₀.heap s.heap
 loc:∃m,s.heap.Ns X.env.locals m/\∀(i:Nat)(x:Str)(v:V),X.N[i]?=some x->σ[i]?=some (some v)->Vis X.env.scope x->∃u,RelV v u/\Look X.env s.heap m x u
 cell:∀x c,X.env.cells.lookup x=some c->∃v,s.heap.IsCell c v
 free:H X.env.locals=none
 freeC:∀x c,X.env.cells.lookup x=some c->H c=none
 pin:∀p∈X.pn++pins,s.heap.get? p.1=some p.2/\H p.1=none/\p.1≠X.env.locals/\p.1∉X.fs/\∀v,p.2.data ≠ .cell v
 hok:HOk X.prog X.w H s.heap
 len:σ.length=X.N.length
section
theorem Cx.Ok.nofr{X:Cx}(ok:X.Ok)(e:X.base.get? b=some o):b∉X.fs:=λhb=>by
 have:=(ok.funs.mem hb).1;rw[e] at this; cases this
theorem Inv.bs(I:Inv X pins σ H s):∀b o,X.base.get? b=some o->s.heap.get? b=some o/\H b=none:=λb o e =>
 ⟨I.base.keep b o (I.ok.bs b o e).1 (I.ok.bs b o e).2 (I.ok.nofr e) (I.ok.noex b o e),I.base.free b o (I.ok.bs b o e).1 (I.ok.bs b o e).2 (I.ok.noex b o e)⟩
theorem Inv.bk(I:Inv X pins σ H s):∀b o,X.base.get? b=some o->s.heap.get? b=some o:=λb o e=>(I.bs b o e).1
theorem Inv.mod(I:Inv X pins σ H s):Mod X.K X.mg X.base:=I.ok.mod
theorem Inv.kIn(I:Inv X pins σ H s):X.K.In s.heap:=I.ok.mod.kin.keeps I.bk
theorem Inv.fr(I:Inv X pins σ H s):∃m,Fr X.base X.env.locals s.heap m :=
 let⟨m,hn,_⟩:=I.loc
 ⟨m,hn,I.bk,UC I.ok.bsz I.ok.above⟩
theorem Inv.lt(I:Inv X pins σ H s):X.env.locals<s.heap.objs.size:=let⟨_,hn,_⟩:=I.loc; hn.lt
theorem Inv.sz(I:Inv X pins σ H s):X.s₀.heap.objs.size<=s.heap.objs.size:=UC I.ok.above (U1 I.lt)
theorem Inv.nofs(I:Inv X pins σ H s)(h:s.heap.objs.size<=a):a∉X.fs:=λhb=>by
 obtain⟨_,o,ho,_⟩:=I.ok.funs.mem hb;exact absurd (Ux (Heap.lt_size ho) (UC I.sz h)) (Dg _)
theorem Inv.cne(I:Inv X pins σ H s):∀x c,X.env.cells.lookup x=some c->c≠X.env.locals:=λx c e z=>by
 obtain⟨v,o,ho,hd⟩:=I.cell x c e;obtain⟨m,⟨o',es,ep,ho',hd',_⟩,_⟩:=I.loc;rw[z,ho'] at ho; cases ho; rw[hd'] at hd; cases hd
theorem Inv.funs(I:Inv X pins σ H s):s.heap.FunFrames X.base X.outer:=by
 have all:∀(l:List Env),(∀b∈frs l,b∈X.fs)->X.s₀.heap.FunFrames X.base l->s.heap.FunFrames X.base l:=by
  intro l
  induction l with
  |nil=>intro _ _; trivial
  |cons env r ih =>
   intro hs hl;obtain⟨hk,⟨L,o,hf,hn,ho,hd⟩,hr⟩:=hl;have hL:L∈X.fs:=hs L (by unfold frs; rw[D2,hf]; exact UN);obtain⟨sl,e⟩:=I.base.slot L o ho (I.ok.frf L hL) hL λz=>I.ok.exfs L z hL;exact⟨hk,⟨L,_,hf,hn,e,hd⟩,ih (λb hb=>hs b (by unfold frs; rw[D2,hf]; exact UP _ hb)) hr⟩
 exact all X.outer (λ_ hb=>hb) I.ok.funs
theorem Inv.stack(I:Inv X pins σ H s):s.heap.FunFrames X.base X.stack:=by
 rcases I.ok.stk with e|⟨e,hf⟩
 ·rw[e]; exact I.funs
 ·rw[e]
  obtain⟨m,hn,_⟩:=I.loc;refine .cons (by rw[I.ok.kind]; decide) hf hn ?_ I.funs;exact Heap.get?_none_of_le (UC I.ok.bsz I.ok.above)
theorem Inv.stkSub(I:Inv X pins σ H s):∀b∈frs X.stack,b∈X.env.locals::X.fs:=λb hb=>by
 rcases I.ok.stk with e|⟨e,hf⟩
 ·rw[e] at hb; exact UP _ hb
 ·rw[e] at hb
  unfold frs at hb;rw[D2,hf] at hb;exact hb
theorem Inv.stkFree(I:Inv X pins σ H s):∀b∈frs X.stack,H b=none:=λb hb=>by
 rcases Up.mp (I.stkSub b hb) with e|hb
 ·rw[e]; exact I.free
 ·obtain⟨_,o,ho,_⟩:=I.ok.funs.mem hb
  exact I.base.free b o ho (I.ok.frf b hb) λz=>I.ok.exfs b z hb
theorem Inv.step{ch:List Addr}(I:Inv X pins σ H s)(hch:∀b∈ch,(b∈X.ex\/X.s₀.heap.objs.size<=b)/\b≠X.env.locals/\(∀x c,X.env.cells.lookup x=some c->c≠b)/\∀p∈X.pn++pins,p.1≠b)(keep:∀b o,b≠X.env.locals->b∉X.fs->b∉ch->s.heap.get? b=some o->H b=none->h'.get? b=some o)(slot:∀b o,b≠X.env.locals->b∈X.fs->b∉ch->s.heap.get? b=some o->H b=none->∃sl,h'.get? b=some { o with slots:=sl })(free:∀b o,b∉ch->s.heap.get? b=some o->H b=none->H' b=none)(there:∀b o,b∉ch->s.heap.get? b=some o->∃o',h'.get? b=some o')(tups:∀b xs,H b=some (.tup xs)->H' b=some (.tup xs))(frzs:∀b o u,H b=some (.frz o u)->H' b=some (.frz o u))(tbls:∀b ps,H b=some (.tbl ps)->∃more,H' b=some (.tbl (ps++more)))(ns:∀m,s.heap.Ns X.env.locals m->h'.Ns X.env.locals m)(hok:HOk X.prog X.w H' h')(hg:AllBare g') :
  Inv X pins σ H' { s with heap:=h',gens:=g',drawn:=d',toks:=t' }:=by
 have neL:∀b o,X.s₀.heap.get? b=some o->b≠X.env.locals:=λb o e=>UF (Ux (Heap.lt_size e) I.ok.above);have neC:∀b o,X.s₀.heap.get? b=some o->b∉X.ex->b∉ch:=λb o e hx hb=>by
  rcases(hch b hb).1 with z|z
  ·exact hx z
  ·exact absurd (Ux (Heap.lt_size e) z) (Dg _)
 have cellK:∀x c,X.env.cells.lookup x=some c->∀v,s.heap.IsCell c v->h'.IsCell c v:=λx c e v ⟨o,ho,hd⟩=>by
  have nch:c∉ch:=λz=>(hch c z).2.2.1 x c e rfl;by_cases hc:c∈X.fs
  ·obtain⟨sl,q⟩:=slot c o (I.cne x c e) hc nch ho (I.freeC x c e)
   exact⟨_,q,hd⟩
  ·exact⟨o,keep c o (I.cne x c e) hc nch ho (I.freeC x c e),hd⟩
 refine⟨I.ok,I.os,hg,⟨λb o e n hb hx=>?_,λb o e n hb hx=>?_,λb o e n hx=>?_,λb o e hx=>?_,λb xs e=>tups b xs (I.base.tups b xs e),λb o xs e=>frzs b o xs (I.base.frzs b o xs e),λb ps e=>?_⟩, ?_,λx c e=>?_, ?_,λx c e=>?_,λp hp=>?_,hok,I.len⟩
 ·exact keep b o (neL b o e) hb (neC b o e hx) (I.base.keep b o e n hb hx) (I.base.free b o e n hx)
 ·obtain⟨sl,e1⟩:=I.base.slot b o e n hb hx
  obtain⟨sl',e2⟩:=slot b _ (neL b o e) hb (neC b o e hx) e1 (I.base.free b o e n hx);exact⟨sl',e2⟩
 ·obtain⟨o',e1⟩:=I.base.there b o e hx
  exact free b o' (neC b o e hx) e1 (I.base.free b o e n hx)
 ·obtain⟨o',e1⟩:=I.base.there b o e hx
  exact there b o' (neC b o e hx) e1
 ·obtain⟨m1,e1⟩:=I.base.tbls b ps e
  obtain⟨m2,e2⟩:=tbls b _ e1;exact⟨m1++m2,by rw[e2,D6]⟩
 ·obtain⟨m,hn,hl⟩:=I.loc
  refine⟨m,ns m hn,λi x v e1 e2 e3=>?_⟩;obtain⟨u,r,l⟩:=hl i x v e1 e2 e3;refine⟨u,r, ?_⟩;rcases l with l|⟨k,c,e,z⟩
  ·exact .inl l
  ·exact .inr ⟨k,c,e,cellK x c e _ z⟩
 ·obtain⟨v,z⟩:=I.cell x c e
  exact⟨v,cellK x c e v z⟩
 ·obtain⟨m,⟨o,_,_,ho,_⟩,_⟩:=I.loc
  exact free _ o (λz=>(hch _ z).2.1 rfl) ho I.free
 ·obtain⟨v,o,ho,hd⟩:=I.cell x c e
  exact free c o (λz=>(hch c z).2.2.1 x c e rfl) ho (I.freeC x c e)
 ·obtain⟨e,n,ne,nf,d⟩:=I.pin p hp
  have nch:p.1∉ch:=λz=>(hch p.1 z).2.2.2 p hp rfl;exact⟨keep p.1 p.2 ne nf nch e n,free p.1 p.2 nch e n,ne,nf,d⟩
theorem Inv.un(I:Inv X pins σ H s)(u:Un X.fs [] H H' s.heap h')(hok:HOk X.prog X.w H' h'):Inv X pins σ H' { s with heap:=h',toks:=t' }:=by
 obtain⟨m,⟨o,es,ep,ho,r⟩,_⟩:=id I.loc;obtain⟨sl,hL⟩:=u.any ho I.free (by simp);exact I.step (g':=s.gens) (d':=s.drawn) (ch:=[]) (λ_ z=>nomatch z) (λb o _ hb _ e n=>u.keep b o e n hb (by simp)) (λb o _ hb _ e n=>u.slot b o e n hb (by simp)) (λb o _ e n=>u.free b o e n (by simp)) (λb o _ e=>u.there b o e (by simp)) u.tups u.frzs u.tbls (λm' hm=>by
  obtain⟨o',es',ep',ho',r'⟩:=hm;rw[ho] at ho'; cases ho';exact⟨_,es',ep',hL,r'⟩) hok I.bare
theorem Inv.call(I:Inv X pins σ H s)(u:Un (frs X.stack) ch H H' s.heap h')(hok:HOk X.prog X.w H' h')(hg:AllBare g')(hch:∀b∈ch,(b∈X.ex\/X.s₀.heap.objs.size<=b)/\b≠X.env.locals/\(∀x c,X.env.cells.lookup x=some c->c≠b)/\∀p∈X.pn++pins,p.1≠b) :
  Inv X pins σ H' { s with heap:=h',gens:=g',drawn:=d',toks:=t' }:=by
 obtain⟨m,⟨o,es,ep,ho,r⟩,_⟩:=id I.loc;obtain⟨sl,hL⟩:=u.any ho I.free λz=>(hch _ z).2.1 rfl;exact I.step (ch:=ch) hch (λb o hL hb hc e n=>u.keep b o e n (λz=>(Up.mp (I.stkSub b z)).elim hL hb) hc) (λb o _ _ hc e n=>u.any e n hc) (λb o hc e n=>u.free b o e n hc) (λb o hc e=>u.there b o e hc) u.tups u.frzs u.tbls (λm' hm=>by
  obtain⟨o',es',ep',ho',r'⟩:=hm;rw[ho] at ho'; cases ho';exact⟨_,es',ep',hL,r'⟩) hok hg
theorem Inv.turned(I:Inv X pins σ H s)(k:∀b o,b≠it->s.heap.get? b=some o->h'.get? b=some o)(hn:H it=none)(hL:it≠X.env.locals)(h1:it∈X.ex\/X.s₀.heap.objs.size<=it)(h2:∀x c,X.env.cells.lookup x=some c->c≠it)(h3:∀p∈X.pn++pins,p.1≠it):Inv X pins σ H { s with heap:=h',toks:=t' }:=by
 have nit:∀b u,H b=some u->b≠it:=λb u e z=>by rw[z,hn] at e; cases e
 refine I.step (g':=s.gens) (d':=s.drawn) (ch:=[it]) (λb hb=>?_) (λb o _ _ hc e _=>k b o (λz=>hc (by simp[z])) e) (λb o _ _ hc e _=>⟨o.slots,k b o (λz=>hc (by simp[z])) e⟩) (λ_ _ _ _ n=>n)
  (λb o hc e=>⟨o,k b o (λz=>hc (by simp[z])) e⟩) (λ_ _ e=>e) (λ_ _ _ e=>e) (λb ps e=>⟨#[],by rw[e]; simp⟩) (λm hm=>?_) (λb u e=>?_) I.bare
 ·have e:b=it:=by simpa using hb
  subst e;exact⟨h1,hL,h2,h3⟩
 ·obtain⟨o,es,ep,ho,r⟩:=hm
  exact⟨o,es,ep,k _ o (Ne.symm hL) ho,r⟩
 ·refine(I.hok b u e).stay (λc v hc q=>k c v ?_ q) (λ_ q=>q) λ_ _ q=>q
  rcases hc with z|z
  ·rw[z]; exact nit b u e
  ·exact nit c _ z
theorem Inv.tok(I:Inv X pins σ H s)(t:Nat):Inv X pins σ H { s with toks:=t }:=I.un (h':=s.heap) (t':=t) Un.refl I.hok
theorem Inv.kept(I:Inv X pins σ H s)(k:∀b u,s.heap.get? b=some u->h'.get? b=some u):Inv X pins σ H { s with heap:=h',toks:=t' }:=I.un (Un.kept k) (I.hok.kept k)
theorem Inv.laid(I:Inv X pins σ H s)(k:∀b u,s.heap.get? b=some u->h'.get? b=some u)(hp:s.heap.objs.size<=a)(new:ObjOk X.prog X.w (upd H a o) h' a o) :
  Inv X pins σ (upd H a o) { s with heap:=h',toks:=t' }:=I.un (Un.laid k hp (I.hok.fresh hp)) (I.hok.laid k hp new)
theorem Inv.write(I:Inv X pins σ H s)(mu:Mut (H x))(he:e=x\/H e=some (.own x))(k:∀b u,b≠e->s.heap.get? b=some u->h'.get? b=some u)(heo:∃u,h'.get? e=some u)(new:ObjOk X.prog X.w (upd H x o) h' x o):Inv X pins σ (upd H x o) { s with heap:=h',toks:=t' }:=I.un (Un.write mu he k heo) (I.hok.write mu he k heo new)
theorem Inv.weak(I:Inv X pins σ H s)(hl:σ'.length=σ.length)(w:∀(i:Nat) v,σ'[i]?=some (some v)->σ[i]?=some (some v)):Inv X pins σ' H s :=
 ⟨I.ok,I.os,I.bare,I.base,let⟨m,hn,hl'⟩:=I.loc; ⟨m,hn,λi x v e1 e2 e3=>hl' i x v e1 (w i v e2) e3⟩,I.cell,I.free,I.freeC,I.pin,I.hok,hl.trans I.len⟩
theorem Inv.pins_of(I:Inv X pins σ H s)(h:∀p∈pins',s.heap.get? p.1=some p.2/\H p.1=none/\p.1≠X.env.locals/\p.1∉X.fs/\∀v,p.2.data ≠ .cell v):Inv X pins' σ H s :=
 ⟨I.ok,I.os,I.bare,I.base,I.loc,I.cell,I.free,I.freeC,λp hp=>(Uu.mp hp).elim (λz=>I.pin p (UH _ z)) (h p),I.hok,I.len⟩
theorem J8{N:List Str}(hN:N.Nodup){i j:Nat}(a:N[i]?=some x)(b:N[j]?=some x):i=j:=by
 obtain⟨h1,e1⟩:=Ue.mp a;obtain⟨h2,e2⟩:=Ue.mp b;exact(List.getElem_inj hN).mp (e1.trans e2.symm)
theorem Zp(I:Inv X pins σ H s)(hN:X.N.Nodup)(hi:X.N[i]?=some x)(hx:Loc X.env.scope x)(r:RelV v u)(h:∀s',Inv X pins (σ.set i (some v)) H s'->(∃a,Heap.SameBut a s.heap s'.heap/\(a=X.env.locals\/X.env.cells.lookup x=some a))->Q () s')(hf:X.fn x=true\/X.env.scope.names.lookup x=some .local:=by first|exact .inl rfl|exact .inr rfl|assumption):wpAny M A (storeName X.env x u) Q E s:=by
 obtain⟨m,hn,hl⟩:=id I.loc;have hcls:(X.env.scope.kind == .class||(X.env.scope.kind == .module&&X.env.locals != X.env.globals))=false:=by rw[I.ok.kind]; rfl
 have hiσ:i<σ.length:=by rw[I.len]; exact(Ue.mp hi).1
 have cne:=I.cne;have tracked:∀{a:Addr}{h':Heap},(∃o,s.heap.get? a=some o/\H a=none)->Heap.SameBut a s.heap h'->HOk X.prog X.w H h':=λ{a h'} ha hs b ob e=>by
  obtain⟨_,_,hfree⟩:=ha;refine(I.hok b ob e).stay (λc w' hc q=>(hs.2 c ?_).trans q) (λ_ q=>q) λ_ _ q=>q;rintro rfl;rcases hc with rfl|hc
  ·rw[hfree] at e; cases e
  ·rw[hfree] at hc; cases hc
 rcases hx with hk|hk
 ·refine wpAny_storeName_local hk hn (λh' hn' hs=>?_) hcls
  obtain⟨oL,_,_,hoL,_⟩:=id hn;refine h _ ⟨I.ok,I.os,I.bare,⟨λb o e n hb hx=>?_,λb o e n hb hx=>?_,I.base.free,λb o e hx=>?_,I.base.tups,I.base.frzs,I.base.tbls⟩,⟨_,hn',λj y v' e1 e2 e3=>?_⟩,λy c e=>?_,I.free,I.freeC,λp hp=>?_,tracked ⟨oL,hoL,I.free⟩ hs,by simpa using I.len⟩ ⟨_,hs, .inl rfl⟩
  ·exact(hs.2 b (UF (Ux (Heap.lt_size e) I.ok.above))).trans (I.base.keep b o e n hb hx)
  ·obtain⟨sl,e1⟩:=I.base.slot b o e n hb hx
   exact⟨sl,(hs.2 b (UF (Ux (Heap.lt_size e) I.ok.above))).trans e1⟩
  ·obtain⟨o',e1⟩:=I.base.there b o e hx
   exact⟨o',(hs.2 b (UF (Ux (Heap.lt_size e) I.ok.above))).trans e1⟩
  ·by_cases hj:j=i
   ·subst hj
    rw[hi] at e1; cases e1;rw[Uw hiσ] at e2;cases e2;exact⟨u,r, .inl ⟨hk,by simp⟩⟩
   ·rw[Uz (Ne.symm hj)] at e2
    obtain⟨u',r',q⟩:=hl j y v' e1 e2 e3;refine⟨u',r', ?_⟩;rcases q with⟨k,e⟩|⟨k,c,e,z⟩
    ·refine .inl ⟨k, ?_⟩
     have:y≠x:=λe=>hj (J8 hN e1 (e▸hi));simp[this,e]
    ·exact .inr ⟨k,c,e,z.sameBut hs (cne y c e)⟩
  ·obtain⟨w',z⟩:=I.cell y c e
   exact⟨w',z.sameBut hs (cne y c e)⟩
  ·obtain⟨e,n,ne,nf,d⟩:=I.pin p hp
   exact⟨(hs.2 p.1 ne).trans e,n,ne,nf,d⟩
 ·have hfn:X.fn x=true:=by
   rcases hf with z|z
   ·exact z
   ·rw[z] at hk; cases hk
  obtain⟨c,hc⟩:=I.ok.has x (.inl hk);obtain⟨w',z⟩:=I.cell x c hc;refine wpAny_storeName_cell I.ok.kind hk hc z (λh' hc' hs=>?_);obtain⟨oc,hoc,hocd⟩:=id z;refine h { s with heap:=h' } ⟨I.ok,I.os,I.bare,⟨λb o e n hb hx=>?_,λb o e n hb hx=>?_,I.base.free,λb o e hx=>?_,I.base.tups,I.base.frzs,I.base.tbls⟩,⟨m,hn.sameBut hs (Ne.symm (cne x c hc)),λj y v' e1 e2 e3=>?_⟩,λy c' e=>?_,I.free,I.freeC,λp hp=>?_,tracked ⟨oc,hoc,I.freeC x c hc⟩ hs,by simpa using I.len⟩ ⟨c,hs, .inr hc⟩
  ·exact(hs.2 b (UF (Ux (Heap.lt_size e) (I.ok.cab x c hfn hc)))).trans (I.base.keep b o e n hb hx)
  ·obtain⟨sl,e1⟩:=I.base.slot b o e n hb hx
   exact⟨sl,(hs.2 b (UF (Ux (Heap.lt_size e) (I.ok.cab x c hfn hc)))).trans e1⟩
  ·obtain⟨o',e1⟩:=I.base.there b o e hx
   exact⟨o',(hs.2 b (UF (Ux (Heap.lt_size e) (I.ok.cab x c hfn hc)))).trans e1⟩
  ·by_cases hj:j=i
   ·subst hj
    rw[hi] at e1; cases e1;rw[Uw hiσ] at e2;cases e2;exact⟨u,r, .inr ⟨.inl hk,c,hc,hc'⟩⟩
   ·rw[Uz (Ne.symm hj)] at e2
    obtain⟨u',r',q⟩:=hl j y v' e1 e2 e3;refine⟨u',r', ?_⟩;rcases q with q|⟨k,c',e,z'⟩
    ·exact .inl q
    ·refine .inr ⟨k,c',e,z'.sameBut hs ?_⟩
     rintro rfl;exact hj (J8 hN e1 (I.ok.inj _ _ _ e hc▸hi))
  ·by_cases hcc:c'=c
   ·subst hcc; exact⟨_,hc'⟩
   ·obtain⟨w2,z2⟩:=I.cell y c' e
    exact⟨w2,z2.sameBut hs hcc⟩
  ·obtain⟨e,n,ne,nf,d⟩:=I.pin p hp
   refine⟨(hs.2 p.1 ?_).trans e,n,ne,nf,d⟩;intro q;rw[q,hoc] at e;have q':oc=p.2:=Option.some.inj e;exact d w' (by rw[<-q']; exact hocd)
theorem jh(I:Inv X pins σ H s)(hN:X.N.Nodup)(hi:X.N[i]?=some x)(hx:Loc X.env.scope x)(r:RelV v u)(h:∀s',Inv X pins (σ.set i (some v)) H s'->Q () s')(hf:X.fn x=true\/X.env.scope.names.lookup x=some .local:=by first|exact .inl rfl|exact .inr rfl|assumption):wpAny M A (storeName X.env x u) Q E s :=
 Zp I hN hi hx r (λs' I' _=>h s' I') hf
theorem Inv.call'(I:Inv X pins σ H s)(ho:s'.os=s.os)(u:Un (frs X.stack) ch H H' s.heap s'.heap)(hok:HOk X.prog X.w H' s'.heap)(hg:AllBare s'.gens)(hch:∀b∈ch,(b∈X.ex\/X.s₀.heap.objs.size<=b)/\b≠X.env.locals/\(∀x c,X.env.cells.lookup x=some c->c≠b)/\∀p∈X.pn++pins,p.1≠b):Inv X pins σ H' s':=by
 obtain⟨h',g',d',t',o'⟩:=s';have e:o'=s.os:=ho;subst e;exact I.call (g':=g') (t':=t') (d':=d') u hok hg hch
end
abbrev XK:=Value->Option Addr->Hp->Prop
abbrev St:=List (Option V)
abbrev VK:=V->Hp->Prop
abbrev TE:=St->Hp->VK->Prop
abbrev TT:=St->Hp->(Bool->Hp->Prop)->Prop
abbrev TA:=St->Hp->(List V->Hp->Prop)->Prop
structure Ends where
 nx:St->Hp->Prop
 rt:VK
 bk:St->Hp->Prop:=λ_ _=>False
 ct:St->Hp->Prop:=λ_ _=>False
abbrev TS:=Ends->St->Hp->Prop
def EP(X:Cx)(pins:List (Addr×Obj))(σ:St)(Q:VK)(u:Value)(s':Shared):Prop:=∃v H',Inv X pins σ H' s'/\RelV v u/\Q v H'
def TP(X:Cx)(pins:List (Addr×Obj))(σ:St)(Q:Bool->Hp->Prop)(b:Bool)(s':Shared):Prop:=∃H',Inv X pins σ H' s'/\Q b H'
def AP(X:Cx)(pins:List (Addr×Obj))(σ:St)(Q:List V->Hp->Prop)(us:List Value)(s':Shared):Prop:=∃vs H',Inv X pins σ H' s'/\Vals vs us/\Q vs H'
def SP(X:Cx)(pins:List (Addr×Obj))(D:Ends)(f:Flow)(s':Shared):Prop :=
 match f with
 |.next=>∃σ' H',Inv X pins σ' H' s'/\D.nx σ' H'
 |.brk=>∃σ' H',Inv X pins σ' H' s'/\D.bk σ' H'
 |.cont=>∃σ' H',Inv X pins σ' H' s'/\D.ct σ' H'
 |.ret u=>∃v σ' H',Inv X pins σ' H' s'/\RelV v u/\D.rt v H'
def PE(X:Cx)(e:Expr)(t:TE):Prop :=
 ∀(pins:List (Addr×Obj))(s:Shared)(σ:St)(H:Hp)(Q:VK),Inv X pins σ H s->t σ H Q->wpAny (model X.prog X.w) X.A (eval e X.env) (EP X pins σ Q) X.xe s
def PT(X:Cx)(e:Expr)(t:TT):Prop :=
 ∀(pins:List (Addr×Obj))(s:Shared)(σ:St)(H:Hp)(Q:Bool->Hp->Prop),Inv X pins σ H s->t σ H Q->wpAny (model X.prog X.w) X.A (isTrue e X.env (eval e X.env)) (TP X pins σ Q) X.xe s
def PW(X:Cx)(e:Expr)(t:TT):Prop :=
 ∀(whole:Sem Value)(pins:List (Addr×Obj))(s:Shared)(σ:St)(H:Hp)(Q:Bool->Hp->Prop),Inv X pins σ H s->t σ H Q->wpAny (model X.prog X.w) X.A (isTrue e X.env whole) (TP X pins σ Q) X.xe s
theorem PW.pt(h:PW X e t):PT X e t:=h _
def PA(X:Cx)(es:List Expr)(t:TA):Prop :=
 ∀(pos:Pos)(pins:List (Addr×Obj))(s:Shared)(σ:St)(H:Hp)(Q:List V->Hp->Prop),Inv X pins σ H s->t σ H Q->wpAny (model X.prog X.w) X.A (spliced (backTo pos (starEach es X.env))) (AP X pins σ Q) X.xe s
def PS(X:Cx)(st:Stmt)(t:TS):Prop :=
 ∀(pins:List (Addr×Obj))(s:Shared)(σ:St)(H:Hp)(D:Ends),Inv X pins σ H s->t D σ H->wpAny (model X.prog X.w) X.A (exec st X.env) (SP X pins D) X.xe s
def PSs(X:Cx)(st:List Stmt)(t:TS):Prop :=
 ∀(pins:List (Addr×Obj))(s:Shared)(σ:St)(H:Hp)(D:Ends),Inv X pins σ H s->t D σ H->wpAny (model X.prog X.w) X.A (execs st X.env) (SP X pins D) X.xe s
theorem thn{α:Type}{t:Sem α}{Q Q':α->Shared->Prop}{M:Model}{A:Around}{E:Value->Shared->Prop}{s:Shared}(h:wpAny M A t Q E s)(hQ:∀a s,Q a s->Q' a s):wpAny M A t Q' E s:=wpAny_mono h hQ λ_ _ x=>x
section
variable {X:Cx}
theorem bin{a b:Expr}{ta tb:TE}(ha:PE X a ta)(hb:PE X b tb){pins:List (Addr×Obj)}{s:Shared}{σ:St}{H:Hp}{R:V->V->Hp->Prop}(I:Inv X pins σ H s)(h:ta σ H λx H1=>tb σ H1 λy H2=>R x y H2){α:Type}{Q:α->Shared->Prop}{f:Value->Value->Sem α}(hf:∀v u s2 x y H2,Inv X pins σ H2 s2->RelV x v->RelV y u->R x y H2->wpAny (model X.prog X.w) X.A (f v u) Q X.xe s2) :
  wpAny (model X.prog X.w) X.A (eval a X.env) (λv s₁=>wpAny (model X.prog X.w) X.A (eval b X.env) (λu s₂=>wpAny (model X.prog X.w) X.A (f v u) Q X.xe s₂) X.xe s₁) X.xe s:=by
 refine thn (ha pins s σ H _ I h) λv s1 ⟨x,H1,I1,r1,q1⟩=>?_;refine thn (hb pins s1 σ H1 _ I1 q1) λu s2 ⟨y,H2,I2,r2,q2⟩=>?_;exact hf v u s2 x y H2 I2 r1 r2 q2
def tVar(i:Nat):TE:=λσ H Q=>∃v,σ[i]?=some (some v)/\Q v H
def tC(v:V):TE:=λ_ H Q=>Q v H
theorem pe_var(hN:X.N[i]?=some x)(hv:Vis X.env.scope x)(hd:(x==("__debug__" : Str))=false:=by decide)(hcd:(x==("__classdict__" : Str))=false:=by decide):PE X (.Name x pos) (tVar i):=by
 intro pins s σ H Q I h;obtain⟨v,e,h⟩:=h;obtain⟨m,hn,hl⟩:=I.loc;obtain⟨u,r,l⟩:=hl i x v hN e hv;have fin:EP X pins σ Q u s:=⟨v,H,I,r,h⟩;rcases l with⟨hk,hm⟩|⟨hk,c,hc,hcell⟩
 ·exact wpAny_Name (wpAny_loadName_local I.ok.kind hk hn hm fin) hd
 ·rcases hk with hk|hk
  ·exact wpAny_Name (wpAny_loadName_cell I.ok.kind hk hc hcell fin) hd
  ·exact wpAny_Name (wpAny_loadName_free I.ok.kind hk hc hcell fin hcd) hd
theorem pe_int:PE X (.Constant (.int i) j pos) (tC (.int i)):=λ_ _ _ H _ I h=>wpAny_Constant_int ⟨.int i,H,I.tok _,⟨_,rfl⟩,h⟩
theorem pe_bl:PE X (.Constant (.bool b) j pos) (tC (.bl b)):=λ_ _ _ H _ I h=>Constant_bool ⟨.bl b,H,I,rfl,h⟩
theorem pe_non:PE X (.Constant .none j pos) (tC .non):=λ_ _ _ H _ I h=>Constant_none ⟨.non,H,I,rfl,h⟩
theorem pe_str:PE X (.Constant (.str x) j pos) (tC (.str x)):=λ_ _ _ H _ I h=>Calls.Constant_str ⟨.str x,H,I.tok _,⟨_,rfl⟩,h⟩
def Gl(X:Cx)(x:Str):Prop:=X.env.kindOf x=some .globalImplicit
theorem zt(I:Inv X pins σ H s)(hg:Gl X x)(hm:X.mg x=some u)(h:Q u s)(hd:(x==("__debug__" : Str))=false:=by decide):wpAny (model X.prog X.w) X.A (eval (.Name x pos) X.env) Q E s :=
 Calls.Name_function_global I.ok.kind hg (Calls.loadGlobal_global (by rw[I.ok.glob]; exact I.mod.glob.keeps I.bk) hm h) hd
theorem ZY(I:Inv X pins σ H s)(hg:Gl X x)(hm:X.mg x=none)(hv:bootBuiltins x=some u)(h:Q u s)(hn:x ≠ "__name__" := by decide)(hd:(x==("__debug__" : Str))=false:=by decide):wpAny (model X.prog X.w) X.A (eval (.Name x pos) X.env) Q E s:=by
 obtain⟨mb,h1,h2⟩:=I.mod.blt;exact Calls.Name_function_global I.ok.kind hg (Calls.loadGlobal_builtin (by rw[I.ok.glob]; exact I.mod.glob.keeps I.bk) hm (by rw[I.ok.blt]; exact h1.keeps I.bk) ((h2 x hn).trans hv) h) hd
theorem Wt(hg:Gl X x)(hm:X.mg x=some u)(r:RelV v u)(hd:(x==("__debug__" : Str))=false:=by decide):PE X (.Name x pos) (tC v) :=
 λ_ _ _ H _ I h=>zt I hg hm ⟨v,H,I,r,h⟩ hd
variable {a b:Expr} {ta tb:TE} {pos:Pos}
def PC(X:Cx)(op:CmpOp)(a b:Expr)(t:TE):Prop :=
 ∀(pins:List (Addr×Obj))(s:Shared)(σ:St)(H:Hp)(Q:VK),Inv X pins σ H s->t σ H Q ->
  wpAny (model X.prog X.w) X.A (eval a X.env) (λv s₁=>wpAny (model X.prog X.w) X.A (eval b X.env) (λu s₂=>wpAny (model X.prog X.w) X.A (compareOp op v u) (EP X pins σ Q) X.xe s₂) X.xe s₁) X.xe s
def tB(t:TE):TT:=λσ H Q=>t σ H λx H1=>∃c,x=.bl c/\Q c H1
theorem pt_cmp(h:PC X op a b t)(h1:behindInMarks op b=false:=by first|exact nobehind _ (by decide) (by decide)|rfl):PT X (.Compare a [op] [b] pos) (tB t):=by
 intro pins s σ H Q I hw;refine wpAny_isTrue_Compare1 (thn (h pins s σ H _ I hw) λv s1 h1=>thn h1 λu s2 h2=>thn h2 λc s3 ⟨x,H1,I1,r1,q1⟩=>?_) h1;obtain⟨d,rfl,q⟩:=q1;cases r1;exact wpAny_truthy_bool ⟨H1,I1,q⟩
variable {tA tB':TT} {rest:List Expr}
def tAnd(t u:TT):TT:=λσ H Q=>t σ H λc H1=>if c=true then u σ H1 Q else Q false H1
def tOr(t u:TT):TT:=λσ H Q=>t σ H λc H1=>if c=true then Q true H1 else u σ H1 Q
def tNot(t:TT):TT:=λσ H Q=>t σ H λc H1=>Q (!c) H1
def Zo(ta tb:TE):TE:=λσ H Q=>ta σ H λx H1=>∃c,x=.bl c/\if c=true then tb σ H1 Q else Q (.bl false) H1
def tOrV(ta tb:TE):TE:=λσ H Q=>ta σ H λx H1=>∃c,x=.bl c/\if c=true then Q (.bl true) H1 else tb σ H1 Q
def tNotV(ta:TE):TE:=λσ H Q=>ta σ H λx H1=>∃c,x=.bl c/\Q (.bl (!c)) H1
def tIf(t:TT)(ta tb:TE):TE:=λσ H Q=>t σ H λc H1=>if c=true then ta σ H1 Q else tb σ H1 Q
end
def SqL(Ξ:PySem.W.Frag)(H:Hp)(a:Addr)(xs:List V):Prop :=
 Rd H a (.lst xs) \/
  ∃(o:Obj)(its:Array Value)(n:Nat),Ξ.lookup a=some o/\o.cls=.type "list" /\ o.dict=none/\o.data=.seq its n/\its.size<=sizeLine/\Vals xs its.toList
def SqT(Ξ:PySem.W.Frag)(H:Hp)(a:Addr)(xs:List V):Prop :=
 Rd H a (.tup xs) \/
  ∃(o:Obj)(its:Array Value)(n:Nat),Ξ.lookup a=some o/\o.cls=.type "tuple" /\ o.data=.seq its n/\its.size<=sizeLine/\Vals xs its.toList
def absV:Value->Option V
 |.none=>some .non
 |.bool b=>some (.bl b)
 |.int i _=>some (.int i)
 |.str x _=>some (.str x)
 |.bytes b _=>some (.byt b)
 |.float b _=>some (.flt b)
 |.ref a=>some (.ref a)
 |.type n=>some (.ty n)
 |_=>none
theorem RelV.abs(r:RelV x u):absV u=some x:=by
 cases x with
 |non=>cases r; rfl
 |bl _=>cases r; rfl
 |int _=>obtain⟨t,rfl⟩:=r; rfl
 |str _=>obtain⟨t,rfl⟩:=r; rfl
 |byt _=>obtain⟨t,rfl⟩:=r; rfl
 |flt _=>obtain⟨t,rfl⟩:=r; rfl
 |ref _=>cases r; rfl
 |ty _=>cases r; rfl
theorem RelV.inj(r:RelV x u)(q:RelV y u):x=y:=Option.some.inj (r.abs.symm.trans q.abs)
theorem Vals.inj:∀{xs ys:List V}{us:List Value},Vals xs us->Vals ys us->xs=ys
 |_,_,_, .nil, .nil=>rfl
 |_,_,_, .cons r t, .cons r' t'=>by rw[r.inj r',Vals.inj t t']
section
theorem SqL.of(h:H a=some (.lst xs)):SqL Ξ H a xs:=.inl (.inl h)
theorem SqT.of(h:H a=some (.tup xs)):SqT Ξ H a xs:=.inl (.inl h)
theorem Inv.list(I:Inv X pins σ H s)(h:SqL X.K H a xs):∃its:List Value,Vals xs its/\PlainL s.heap a its.toArray/\xs.length<=sizeLine:=by
 rcases h with h|⟨o,its,n,hk,hc,hd,hs,hz,r⟩
 ·obtain⟨z,its,n,r,e⟩:=h.ok I.hok
  exact⟨its,r,⟨_,n,e,rfl,rfl,rfl⟩,z⟩
 ·refine⟨its.toList,r,⟨o,n,I.kIn a o hk,hc,hd,by simpa using hs⟩, ?_⟩
  have e:=r.length;simp only[R3] at e;lia
theorem Inv.tuple(I:Inv X pins σ H s)(h:SqT X.K H a xs):∃its:List Value,Vals xs its/\IsTup s.heap a its.toArray/\xs.length<=sizeLine:=by
 rcases h with h|⟨o,its,n,hk,hc,hs,hz,r⟩
 ·obtain⟨z,its,r,p⟩:=h.ok I.hok
  exact⟨its,r,p,z⟩
 ·refine⟨its.toList,r,⟨o,I.kIn a o hk,hc,n,by simpa using hs⟩, ?_⟩
  have e:=r.length;simp only[R3] at e;lia
theorem Inv.list_inj(I:Inv X pins σ H s)(h:SqL X.K H a xs)(h':SqL X.K H a ys):xs=ys:=by
 obtain⟨its,r,⟨o,n,e,_,_,d⟩,_⟩:=I.list h;obtain⟨its',r',⟨o',n',e',_,_,d'⟩,_⟩:=I.list h';rw[e] at e'; cases e';rw[d] at d';injection d' with d1 _
 have:its=its':=by simpa using congrArg Array.toList d1
 subst this;exact r.inj r'
end
abbrev Cx.wish(X:Cx)(E:Value->Shared->Prop):Cx:={ X with xe:=E }
abbrev Cx.nox(X:Cx):Cx:=X.wish λ_ _=>False
theorem Cx.Ok.wish{X:Cx}(ok:X.Ok)(E:Value->Shared->Prop):(X.wish E).Ok :=
 ⟨ok.mod,ok.kind,ok.glob,ok.blt,ok.above,ok.inj,ok.has,ok.cab,ok.hd,ok.frames,ok.stk,ok.exf,ok.bs,ok.bsz,ok.noex,ok.exfs,ok.funs,ok.frf⟩
theorem Cx.Ok.unwish{X:Cx}(ok:(X.wish E).Ok):X.Ok :=
 ⟨ok.mod,ok.kind,ok.glob,ok.blt,ok.above,ok.inj,ok.has,ok.cab,ok.hd,ok.frames,ok.stk,ok.exf,ok.bs,ok.bsz,ok.noex,ok.exfs,ok.funs,ok.frf⟩
section
theorem Inv.wish(I:Inv X pins σ H s)(E:Value->Shared->Prop):Inv (X.wish E) pins σ H s:=⟨I.ok.wish E,I.os,I.bare,I.base,I.loc,I.cell,I.free,I.freeC,I.pin,I.hok,I.len⟩
theorem Inv.unwish(I:Inv (X.wish E) pins σ H s):Inv X pins σ H s:=⟨I.ok.unwish,I.os,I.bare,I.base,I.loc,I.cell,I.free,I.freeC,I.pin,I.hok,I.len⟩
theorem SP.unwish(h:SP (X.wish E) pins D f s'):SP X pins D f s':=by
 cases f with
 |next=>obtain⟨σ',H',I,q⟩:=h; exact⟨σ',H',I.unwish,q⟩
 |brk=>obtain⟨σ',H',I,q⟩:=h; exact⟨σ',H',I.unwish,q⟩
 |cont=>obtain⟨σ',H',I,q⟩:=h; exact⟨σ',H',I.unwish,q⟩
 |ret u=>obtain⟨v,σ',H',I,r,q⟩:=h; exact⟨v,σ',H',I.unwish,r,q⟩
theorem PE.nox(h:PE X.nox e t):PE X e t:=λpins s σ H Q I hw =>
 wpAny_mono (h pins s σ H Q (I.wish _) hw) (λ_ _ ⟨v,H',I',r,q⟩=>⟨v,H',I'.unwish,r,q⟩) λ_ _ z=>False.elim z
theorem PT.nox(h:PT X.nox e t):PT X e t:=λpins s σ H Q I hw =>
 wpAny_mono (h pins s σ H Q (I.wish _) hw) (λ_ _ ⟨H',I',q⟩=>⟨H',I'.unwish,q⟩) λ_ _ z=>False.elim z
theorem PSs.nox{st:List Stmt}(h:PSs X.nox st t):PSs X st t:=λpins s σ H D I hw =>
 wpAny_mono (h pins s σ H D (I.wish _) hw) (λ_ _ q=>q.unwish) λ_ _ z=>False.elim z
end
section
def Vf:TS:=λD σ H=>D.nx σ H
def tSeq(t u:TS):TS:=λD σ H=>t { D with nx:=u D } σ H
theorem pss_nil:PSs X [] Vf:=λ_ _ σ H _ I h=>wpAny_execs_nil ⟨σ,H,I,h⟩
theorem Inv.quiet(I:Inv X pins σ H s):interactive X.env=false:=by simp[interactive,I.ok.kind]
def Zn(te:TE):TS:=λD σ H=>te σ H λ_ H1=>D.nx σ H1
def tRet(te:TE):TS:=λD σ H=>te σ H D.rt
def Zl:TS:=λD _ H=>D.rt .non H
theorem ps_retN:PS X (.Return none pos) Zl:=λ_ _ σ H _ I h=>wpAny_Return_none ⟨.non,σ,H,I,rfl,h⟩
def tIfS(c:TT)(t u:TS):TS:=λD σ H=>c σ H λb H1=>if b=true then t D σ H1 else u D σ H1
end
abbrev TG:=V->St->Hp->(St->Hp->Prop)->Prop
abbrev TGs:=List V->St->Hp->(St->Hp->Prop)->Prop
def PG(X:Cx)(target:Expr)(t:TG):Prop :=
 ∀(pins:List (Addr×Obj))(s:Shared)(σ:St)(H:Hp)(v:V)(u:Value)(Q:St->Hp->Prop),Inv X pins σ H s->RelV v u->t v σ H Q ->
  wpAny (model X.prog X.w) X.A (assign target X.env u) (λ_ s'=>∃σ' H',Inv X pins σ' H' s'/\Q σ' H') X.xe s
def PGs(X:Cx)(ts:List Expr)(t:TGs):Prop :=
 ∀(pins:List (Addr×Obj))(s:Shared)(σ:St)(H:Hp)(vs:List V)(us:List Value)(Q:St->Hp->Prop),Inv X pins σ H s->Vals vs us->t vs σ H Q ->
  wpAny (model X.prog X.w) X.A (assignInOrder ((assignEach ts X.env).map (·.2)) us) (λ_ s'=>∃σ' H',Inv X pins σ' H' s'/\Q σ' H') X.xe s
abbrev TSet:=V->V->V->Hp->(Hp->Prop)->Prop
def PSet(X:Cx)(t:TSet):Prop :=
 ∀(pins:List (Addr×Obj))(s:Shared)(σ:St)(H:Hp)(o i v:V)(ov iv u:Value)(Q:Hp->Prop),Inv X pins σ H s->RelV o ov->RelV i iv->RelV v u->t o i v H Q ->
  wpAny (model X.prog X.w) X.A (setItem ov iv u) (λ_ s'=>∃H',Inv X pins σ H' s'/\Q H') X.xe s
abbrev TIp:=V->V->Hp->VK->Prop
def PIp(X:Cx)(op:Operator)(t:TIp):Prop :=
 ∀(pins:List (Addr×Obj))(s:Shared)(σ:St)(H:Hp)(x y:V)(v u:Value)(Q:VK),Inv X pins σ H s->RelV x v->RelV y u->t x y H Q ->
  wpAny (model X.prog X.w) X.A (inplaceOp op v u) (EP X pins σ Q) X.xe s
section
def qV(i:Nat):TG:=λv σ H Q=>Q (σ.set i (some v)) H
theorem jR(hN:X.N.Nodup)(hi:X.N[i]?=some x)(hx:Loc X.env.scope x)(hf:X.fn x=true\/X.env.scope.names.lookup x=some .local:=by first|exact .inl rfl|exact .inr rfl|assumption):PG X (.Name x pos) (qV i):=by
 intro pins s σ H v u Q I r h;exact wpAny_assign_Name (jh I hN hi hx r (λs' I'=>⟨_,H,I',h⟩) hf)
def gNil:TGs:=λvs σ H Q=>vs=[]/\Q σ H
def vF(t:TG)(u:TGs):TGs:=λvs σ H Q=>∃v r,vs=v::r/\t v σ H λσ' H'=>u r σ' H' Q
theorem Ws:PGs X [] gNil:=by
 intro pins s σ H vs us Q I r h;obtain⟨e,h⟩:=h;subst e;cases r;exact assignInOrder_nil ⟨σ,H,I,h⟩
theorem jm(h1:PG X e t)(h2:PGs X es u)(hs:(assignEach (e::es) X.env).map (·.2)=assign e X.env::(assignEach es X.env).map (·.2):=by rfl):PGs X (e::es) (vF t u):=by
 intro pins s σ H vs us Q I r h;obtain⟨v,vr,e1,h⟩:=h;subst e1;cases r with
 |cons r rr =>
  rw[hs];refine assignInOrder_cons (thn (h1 pins s σ H _ _ _ I r h) λ_ s1 ⟨σ1,H1,I1,q1⟩=>?_);exact h2 pins s1 σ1 H1 _ _ Q I1 rr q1
def gTup(Ξ:PySem.W.Frag)(n:Nat)(t:TGs):TG:=λv σ H Q=>∃a xs,v=.ref a/\SqT Ξ H a xs/\xs.length=n/\t xs σ H Q
theorem pg_tup(hc:X.calm=true)(h:PGs X es t)(hn:(assignEach es X.env).length=n:=by rfl)(hst:(assignEach es X.env).findIdx? (·.1)=none:=by rfl):PG X (.Tuple es k pos) (gTup X.K n t):=by
 intro pins s σ H v u Q I r hw;obtain⟨a,xs,e1,hq,hl,hw⟩:=hw;subst e1;cases r;obtain⟨its,rv,ht,hz⟩:=I.tuple hq;refine assign_Tuple_tuple (I.ok.hd hc) ht (by simp[hn, <-hl,rv.length]) hst λh' hx=>?_;have I1:Inv X pins σ H { s with heap:=h' }:=I.kept (t':=s.toks) λb o e=>hx b o (UF (Heap.lt_size e)) e;exact h pins _ σ H xs _ Q I1 (by simpa using rv) hw
def gSub(to ti:TE)(t:TSet):TG:=λv σ H Q=>to σ H λo H1=>ti σ H1 λi H2=>t o i v H2 λH3=>Q σ H3
def tAsg(te:TE)(g:TG):TS:=λD σ H=>te σ H λx H1=>g x σ H1 D.nx
def tPar(i j:Nat)(ta:TA):TS:=λD σ H=>ta σ H λvs H1=>∃v w,vs=[v,w]/\D.nx ((σ.set i (some v)).set j (some w)) H1
def tAug(i:Nat)(te:TE)(ti:TIp):TS:=λD σ H=>∃x,σ[i]?=some (some x)/\te σ H λy H1=>ti x y H1 λz H2=>D.nx (σ.set i (some z)) H2
def ipI(f:Int->Int->Int):TIp:=λx y H Q=>∃i j,x=.int i/\y=.int j/\Q (.int (f i j)) H
theorem ip_add:PIp X .Add (ipI λi j=>i+j):=by
 intro pins s σ H x y v u Q I r1 r2 h;obtain⟨i,j,e1,e2,q⟩:=h;subst e1; subst e2;obtain⟨t,rfl⟩:=r1;obtain⟨t',rfl⟩:=r2;exact iadd_int ⟨.int _,H,I.tok _,⟨_,rfl⟩,q⟩
end
section
def JV(c:TT)(tb:TS):TS:=λD σ H=>∃W:Nat->St->Hp->Prop,(∃m,W m σ H)/\∀m σ H,W m σ H ->
 c σ H λb H1=>if b=true then ∃N:St->Hp->Prop,(∀σ' H',N σ' H'->∃m',m'<m/\W m' σ' H')/\tb { D with nx:=N,ct:=N,bk:=D.nx } σ H1 else D.nx σ H1
end
structure It where
 go:Nat->Hp->Prop
 yld:Nat->Hp->V->Hp->Prop
 stop:Nat->Hp->Prop
def FpOk(X:Cx)(pins:List (Addr×Obj))(H:Hp)(b:Addr):Prop :=
 H b=none/\b≠X.env.locals/\b∉X.fs/\(b∈X.ex\/X.s₀.heap.objs.size<=b)/\(∀x c,X.env.cells.lookup x=some c->c≠b)/\∀p∈X.pn++pins,p.1≠b
theorem Inv.fpOk(I:Inv X pins σ H s)(hb:s.heap.objs.size<=b)(hn:H' b=none):FpOk X pins H' b:=by
 refine⟨hn,Bh (Ux I.lt hb),I.nofs hb, .inr (UC I.sz hb),λx c e z=>?_,λp hp z=>?_⟩
 ·obtain⟨v,q⟩:=I.cell x c e
  exact absurd (Ux q.lt (by rw[z]; exact hb)) (Dg _)
 ·exact absurd (Ux (Heap.lt_size (I.pin p hp).1) (by rw[z]; exact hb)) (Dg _)
structure Turn(P:Program)(w:World)(Ξ:PySem.W.Frag)(tg:Expr)(J:It)(fp:List Addr)(it:Addr)(tn:Nat->Heap->Prop):Prop where
 mem:it∈fp
 obj:∀i h,tn i h->∀b∈fp,∃o,h.get? b=some o/\∀v,o.data ≠ .cell v
 keep:∀i h h',tn i h->(∀b∈fp,∀o,h.get? b=some o->h'.get? b=some o)->tn i h'
 item:∀(X:Cx),X.prog=P->X.w=w->X.K=Ξ->X.calm=true->∀(i:Nat)(pins:List (Addr×Obj))(s:Shared)(σ:St)(H:Hp)(E:Value->Shared->Prop),Inv X pins σ H s->(∀b∈fp,FpOk X pins H b)->tn i s.heap->J.go i H ->
  wpAny (model P w) X.A (pyNext (.ref it)) (λr s1=>∃u,r=some u /\
   wpAny (model P w) X.A (letOwnedTupleGo tg (.ref it) u) (λ_ s2=>∃x H',Inv X pins σ H' s2/\RelV x u/\J.yld i H x H'/\tn (i+1) s2.heap/\∀b∈fp,H' b=none) E s1) E s
 done:∀(X:Cx),X.prog=P->X.w=w->X.K=Ξ->X.calm=true->∀(i:Nat)(pins:List (Addr×Obj))(s:Shared)(σ:St)(H:Hp)(E:Value->Shared->Prop),Inv X pins σ H s->(∀b∈fp,FpOk X pins H b)->tn i s.heap->J.stop i H ->
  wpAny (model P w) X.A (pyNext (.ref it)) (λr s1=>r=none/\Inv X pins σ H s1) E s
 self:∀(A:Around)(i:Nat)(s:Shared)(Q:Value->Shared->Prop)(E:Value->Shared->Prop),tn i s.heap->Q (.ref it) s->wpAny (model P w) A (pyIter (.ref it)) Q E s
abbrev TI:=St->Hp->(It->Hp->Prop)->Prop
def PIE(X:Cx)(pins:List (Addr×Obj))(σ:St)(tg:Expr)(R:It->Hp->Prop)(itv:Value)(s2:Shared):Prop :=
 ∃(it:Addr)(fp:List Addr)(tn:Nat->Heap->Prop)(J:It)(H':Hp),itv=.ref it/\Inv X pins σ H' s2/\Turn X.prog X.w X.K tg J fp it tn/\tn 0 s2.heap/\(∀b∈fp,FpOk X pins H' b)/\R J H'
def PI(X:Cx)(tg iter:Expr)(wi:TI):Prop :=
 ∀(pins:List (Addr×Obj))(s:Shared)(σ:St)(H:Hp)(R:It->Hp->Prop),Inv X pins σ H s->wi σ H R ->
  wpAny (model X.prog X.w) X.A (eval iter X.env) (λv s1=>wpAny (model X.prog X.w) X.A (pyIter v) (PIE X pins σ tg R) X.xe s1) X.xe s
theorem go_of(ho:s.heap.get? it=some o)(hc:o.cls=.type n)(hd:o.data=.fields vs)(hn:["enumerate","zip","dict_itemiterator","dict_reverseitemiterator","odict_iterator","itertools.zip_longest","itertools.pairwise"].contains n=false)(hQ:Q () s):wpAny M A (letOwnedTupleGo tg (.ref it) u) Q E s:=by
 unfold letOwnedTupleGo;cases tg<;>first
  |exact wpAny_pure hQ
  | (cases u<;>first
    |exact wpAny_pure hQ
    | (refine wpAny_bind (wpAny_load ho ?_)
       rw[hc,hd];show wpAny M A (if(["enumerate","zip","dict_itemiterator","dict_reverseitemiterator","odict_iterator","itertools.zip_longest","itertools.pairwise"].contains n&&vs[0]?==some (rawInt _))=true then _ else _) Q E s;rw[if_neg (by intro h; rw[hn,Bool.false_and] at h; cases h)];exact wpAny_pure hQ))
def Itl(Ξ:PySem.W.Frag)(a:Addr):It :=
 ⟨λi H=>∃xs x,SqL Ξ H a xs/\xs[i]?=some x,λi H x H'=>H'=H/\∀xs,SqL Ξ H a xs->xs[i]?=some x,λi H=>∃xs,SqL Ξ H a xs/\xs.length<=i⟩
def Itr(lo:Int)(n:Nat):It:=⟨λi _=>i<n,λi H x H'=>H'=H/\x=.int (lo+i),λi _=>n<=i⟩
theorem Yy(a it:Addr):Turn P w Ξ tg (Itl Ξ a) [it] it (λi h=>h.IsListIter it a i) where
 mem:=by simp
 obj:=λi h st b hb=>by
  have e:b=it:=by simpa using hb
  subst e;obtain⟨o,e,c,d⟩:=st;exact⟨o,e,λv z=>by rw[d] at z; cases z⟩
 keep:=λi h h' st k=>st.at λo e=>k it (by simp) o e
 item:=by
  intro X hP hw hK hc i pins s σ H E I hf st hg;subst hP hw hK;obtain⟨xs,x,hq,hx⟩:=hg;obtain⟨its,rv,p,hz⟩:=I.list hq;obtain⟨u,hu,ru⟩:=rv.get hx;obtain⟨f0,f1,f2,f3,f4,f5⟩:=hf it (by simp);refine wpAny_pyNext_list_item st p.isList (x:=u) (by simpa using hu) λh' st' sb=>?_;have I1:Inv X pins σ H { s with heap:=h' }:=I.turned (t':=s.toks) (λb o hb e=>(sb.2 b hb).trans e) f0 f1 f3 f4 f5;obtain⟨o,e,c,d⟩:=id st';exact⟨u,rfl,go_of (s:={ s with heap:=h' }) e c d (by decide) ⟨x,H,I1,ru,⟨rfl,λys hy=>by rw[I.list_inj hy hq]; exact hx⟩,st',λb hb=>(hf b hb).1⟩⟩
 done:=by
  intro X hP hw hK hc i pins s σ H E I hf st hg;subst hP hw hK;obtain⟨xs,hq,hx⟩:=hg;obtain⟨its,rv,p,hz⟩:=I.list hq;obtain⟨f0,f1,f2,f3,f4,f5⟩:=hf it (by simp);have hl:=rv.length;exact wpAny_pyNext_list_end (I.ok.hd hc) st p.isList (by simp; lia) λh' eb=>⟨rfl,I.turned (t':=s.toks) (λb o hb e=>eb b o hb e) f0 f1 f3 f4 f5⟩
 self:=λ_ _ _ _ _ st h=>wpAny_pyIter_listiter st h
theorem KK(it:Addr)(lo:Int)(n:Nat):Turn P w Ξ tg (Itr lo n) [it] it (λi h=>IsRangeIter h it (lo+(i:Nat)*1) ((n:Int)-(i:Nat)) 1) where
 mem:=by simp
 obj:=λi h st b hb=>by
  have e:b=it:=by simpa using hb
  subst e;exact⟨_,st,λv z=>by
   have z':Data.fields _=Data.cell v:=z;cases z'⟩
 keep:=λi h h' st k=>k it (by simp) _ st
 item:=by
  intro X hP hw hK hc i pins s σ H E I hf st hg;subst hP hw hK;obtain⟨f0,f1,f2,f3,f4,f5⟩:=hf it (by simp);have W:=Walks.range (prog:=X.prog) (w:=X.w) (I.ok.hd hc) it lo 1 n;refine W.item i s _ _ hg st λv h' tk hv st' kk=>?_;obtain⟨t,rfl⟩:=hv;have I1:Inv X pins σ H { s with heap:=h',toks:=tk }:=I.turned (λb o hb e=>kk b o (by simpa using hb) e) f0 f1 f3 f4 f5;refine⟨_,rfl,go_of (s:={ s with heap:=h',toks:=tk }) (n := "range_iterator") st' rfl rfl (by decide) ⟨.int (lo+i),H,I1,⟨t, ?_⟩,⟨rfl,rfl⟩,st',λb hb=>(hf b hb).1⟩⟩;rw[Int.mul_one]
 done:=by
  intro X hP hw hK hc i pins s σ H E I hf st hg;subst hP hw hK;obtain⟨f0,f1,f2,f3,f4,f5⟩:=hf it (by simp);exact wpAny_pyNext_range_end (I.ok.hd hc) st (by have:n<=i:=hg; lia) λh' eb=>⟨rfl,I.turned (t':=s.toks) (λb o hb e=>eb b o hb e) f0 f1 f3 f4 f5⟩
 self:=λ_ _ _ _ _ st h=>wpAny_pyIter_rangeiter st h
section
def Yc(Ξ:PySem.W.Frag)(tl:TE):TI:=λσ H R=>tl σ H λx H1=>∃a,x=.ref a/\(∃xs,SqL Ξ H1 a xs)/\R (Itl Ξ a) H1
theorem pi_list(hl:PE X l tl):PI X tg l (Yc X.K tl):=by
 intro pins s σ H R I h;refine thn (hl pins s σ H _ I h) λv s1 ⟨x,H1,I1,r1,q1⟩=>?_;obtain⟨a,e,⟨xs,hq⟩,q⟩:=q1;subst e;cases r1;obtain⟨its,rv,p,hz⟩:=I1.list hq;refine wpAny_pyIter_list p.isList ?_;refine⟨s1.heap.objs.size, [s1.heap.objs.size],_,_,H1,rfl,I1.kept (t':=s1.toks) λb o e=>Heap.get?_push_of_some _ e,Yy a _,⟨_,Heap.get?_push_size _ rfl,rfl,rfl⟩,λb hb=>?_,q⟩;have e:b=s1.heap.objs.size:=by simpa using hb
 subst e;exact I1.fpOk (Uk _) (I1.hok.fresh (Uk _))
theorem range_it{lo hi:Int}(I:Inv X pins σ H s)(h1 : -(2^62)<=lo)(h2:lo<2^62)(h3 : -(2^62)<=hi)(h4:hi<2^62)(q:R (Itr lo (hi-lo).toNat) H):wpAny (model X.prog X.w) X.A (pyIter (.ref s.heap.objs.size)) (PIE X pins σ tg R) E { s with heap:=s.heap.push { cls:=.type "range", data:=.fields #[.int lo t, .int hi u, .int 1 v] },toks:=tk }:=by
 refine wpAny_pyIter_range (IsRange.new ..) (small_one h1 h2 h3 h4) ?_;have I1:Inv X pins σ H { s with heap:=s.heap.push { cls:=.type "range", data:=.fields #[.int lo t, .int hi u, .int 1 v] },toks:=tk }:=I.kept λb o e=>Heap.get?_push_of_some _ e;refine⟨(s.heap.push { cls:=.type "range", data:=.fields #[.int lo t, .int hi u, .int 1 v] }).objs.size, [(s.heap.push { cls:=.type "range", data:=.fields #[.int lo t, .int hi u, .int 1 v] }).objs.size],_,_,H,rfl,
  I1.kept (t':=tk) λb o e=>Heap.get?_push_of_some _ e,KK _ lo (hi-lo).toNat, ?_,λb hb=>?_,q⟩
 ·have e1:lo+((0:Nat):Int)*1=lo:=by simp
  have e2:(((hi-lo).toNat:Nat):Int)-((0:Nat):Int)=Builtin.Range.rangeSize lo hi 1:=by rw[rangeSize_one]; split<;>lia
  show IsRangeIter _ _ (lo+((0:Nat):Int)*1) ((((hi-lo).toNat:Nat):Int)-((0:Nat):Int)) 1;rw[e1,e2];exact Heap.get?_push_size _ rfl
 ·have e:b=(s.heap.push { cls:=.type "range", data:=.fields #[.int lo t, .int hi u, .int 1 v] }).objs.size:=by simpa using hb
  subst e;exact I1.fpOk (Uk _) (I1.hok.fresh (Uk _))
def Gv(ta:TA):TI:=λσ H R=>ta σ H λvs H1=>∃j:Int,vs=[.int j] /\ -(2^62)<=j/\j<2^62/\R (Itr 0 j.toNat) H1
def tFor(wi:TI)(g:TG)(tb:TS):TS:=λD σ H=>wi σ H λJ H1=>∃W:Nat->Nat->St->Hp->Prop,(∃m,W 0 m σ H1)/\∀i m σ H,W i m σ H ->
 (J.stop i H/\D.nx σ H)\/(J.go i H/\∃N:St->Hp->Prop,(∀σ' H',N σ' H'->∃m',m'<m/\W (i+1) m' σ' H')/\∀x H',J.yld i H x H'->g x σ H' λσ2 H2=>tb { D with nx:=N,ct:=N,bk:=D.nx } σ2 H2)
def Zz(fp:List Addr)(h:Heap):List (Addr×Obj):=fp.filterMap λb=>(h.get? b).map λo=>(b,o)
theorem xu(hb:b∈fp)(e:h.get? b=some o):(b,o)∈Zz fp h:=U3.mpr ⟨b,hb,by rw[e]; rfl⟩
theorem WQ(hp:p∈Zz fp h):p.1∈fp/\h.get? p.1=some p.2:=by
 obtain⟨b,hb,e⟩:=U3.mp hp;cases q:h.get? b with
 |none=>rw[q] at e; cases e
 |some o =>
  rw[q] at e;have e':(b,o)=p:=Option.some.inj e;subst e';exact⟨hb,q⟩
theorem Inv.pinned(I:Inv X pins σ H s)(hf:∀b∈fp,FpOk X pins H b)(ho:∀b∈fp,∃o,s.heap.get? b=some o/\∀v,o.data ≠ .cell v):Inv X (pins++Zz fp s.heap) σ H s :=
 I.pins_of λp hp=>(Uu.mp hp).elim (λz=>I.pin p (UJ _ z)) λz=>by
  obtain⟨hb,e⟩:=WQ z;obtain⟨f0,f1,f2,_⟩:=hf p.1 hb;obtain⟨o,e',d⟩:=ho p.1 hb;rw[e] at e'; cases e';exact⟨e,f0,f1,f2,d⟩
theorem Inv.unpinned(I:Inv X (pins++pl) σ H s):Inv X pins σ H s:=I.pins_of λp hp=>I.pin p (UJ _ (UH _ hp))
theorem ps_for(hp:PassesOwn (model X.prog X.w) X.A X.env X.xe)(hc:X.calm=true)(hi:PI X tg iter wi)(hg:PG X tg g)(hb:PSs X body tb)(hs:∀x,foldedSetIterable iter X.env x=pure x:=by intro _; rfl):PS X (.For tg iter body [] pos) (tFor wi g tb):=by
 intro pins s σ H D I h;refine wpAny_For (thn (hi pins s σ H _ I h) λv s1 h1=>thn h1 λitv s2 h2=>?_) hs;obtain⟨it,fp,tn,J,H2,e,I2,T,st2,f2,W,⟨m0,w0⟩,turn⟩:=h2;subst e
 -- what stays true of the iterator's objects through the loop
 have stat:∀{H':Hp},(∀b∈fp,H' b=none)->∀b∈fp,FpOk X pins H' b:=λhn b hb=>⟨hn b hb,(f2 b hb).2⟩;refine codeAny_forLoop_any (λn s'=>∃i σ' H',Inv X pins σ' H' s'/\tn i s'.heap/\(∀b∈fp,H' b=none)/\W i n σ' H') ?_ m0 ⟨0,σ,H2,I2,st2,λb hb=>(f2 b hb).1,w0⟩;rintro n s3 ⟨i,σ3,H3,I3,st3,fr3,w3⟩;rcases turn i n σ3 H3 w3 with⟨stop,qn⟩|⟨go,N,hN,step⟩
 ·refine wpAny_passesOwn hp (thn (T.done X rfl rfl rfl hc i pins s3 σ3 H3 X.xe I3 (stat fr3) st3 stop) λr s4 ⟨hr,I4⟩=>?_)
  subst hr;exact wpAny_execs_nil ⟨σ3,H3,I4,qn⟩
 ·refine wpAny_passesOwn hp (thn (T.item X rfl rfl rfl hc i pins s3 σ3 H3 X.xe I3 (stat fr3) st3 go) λr s4 ⟨u,hr,h4⟩=>?_)
  subst hr;refine wpAny_passesOwn hp (thn h4 λ_ s5 ⟨x,H5,I5,r5,y5,st5,fr5⟩=>?_);have I5':=I5.pinned (stat fr5) (T.obj _ _ st5);refine wpAny_passesOwn hp (thn (hg _ s5 σ3 H5 x u _ I5' r5 (step x H5 y5)) λ_ s6 ⟨σ6,H6,I6,q6⟩=>?_);refine wpAny_passesOwn hp (thn (hb _ s6 σ6 H6 _ I6 q6) λf s7 q7=>?_);have again:∀{σ7:St}{H7:Hp},Inv X (pins++Zz fp s5.heap) σ7 H7 s7->N σ7 H7->∃m,m<n/\∃i σ' H',Inv X pins σ' H' s7/\tn i s7.heap/\(∀b∈fp,H' b=none)/\W i m σ' H':=λ{σ7 H7} I7 n7=>by
   obtain⟨m',hm,w7⟩:=hN σ7 H7 n7;refine⟨m',hm,i+1,σ7,H7,I7.unpinned,T.keep _ _ _ st5 λb hb o e=>(I7.pin (b,o) (UJ _ (UJ _ (xu hb e)))).1,λb hb=>?_,w7⟩;obtain⟨o,e,d⟩:=T.obj _ _ st5 b hb;exact(I7.pin (b,o) (UJ _ (UJ _ (xu hb e)))).2.1
  cases f with
  |next=>obtain⟨σ7,H7,I7,n7⟩:=q7; exact again I7 n7
  |cont=>obtain⟨σ7,H7,I7,n7⟩:=q7; exact again I7 n7
  |brk=>obtain⟨σ7,H7,I7,q7⟩:=q7; exact⟨σ7,H7,I7.unpinned,q7⟩
  |ret v=>obtain⟨x7,σ7,H7,I7,r7,q7⟩:=q7; exact⟨x7,σ7,H7,I7.unpinned,r7,q7⟩
end
theorem for_list{g:TG}{tb:TS}{D:Ends}(Pv:Nat->St->Hp->Prop)(h0:Pv 0 σ H)(hl:∀i σ H,i<=xs.length->Pv i σ H->SqL Ξ H a xs)(hs:∀i x σ H,xs[i]?=some x->Pv i σ H->g x σ H λσ2 H2=>tb { D with nx:=Pv (i+1),ct:=Pv (i+1),bk:=D.nx } σ2 H2)(hd:∀σ H,Pv xs.length σ H->D.nx σ H) :
  ∃W:Nat->Nat->St->Hp->Prop,(∃m,W 0 m σ H)/\∀i m σ H,W i m σ H ->
   ((Itl Ξ a).stop i H/\D.nx σ H)\/((Itl Ξ a).go i H/\∃N:St->Hp->Prop,(∀σ' H',N σ' H'->∃m',m'<m/\W (i+1) m' σ' H')/\∀x H',(Itl Ξ a).yld i H x H'->g x σ H' λσ2 H2=>tb { D with nx:=N,ct:=N,bk:=D.nx } σ2 H2):=by
 refine⟨λi m σ H=>m=xs.length-i/\i<=xs.length/\Pv i σ H,⟨xs.length,by simp,UY _,h0⟩, ?_⟩;rintro i m σ H ⟨rfl,hi,p⟩;have q:=hl i σ H hi p;by_cases hlt:i<xs.length
 ·refine .inr ⟨⟨xs,xs[i],q,by simp[hlt]⟩,Pv (i+1),λσ' H' p'=>⟨xs.length-(i+1),by lia,rfl,hlt,p'⟩,λx H' y=>?_⟩
  obtain⟨e,y⟩:=y;subst e;exact hs i x σ _ (y xs q) p
 ·have e:i=xs.length:=by lia
  subst e;exact .inl ⟨⟨xs,q,Uk _⟩,hd σ H p⟩
abbrev R2:=V->V->Hp->VK->Prop
def OpR(X:Cx)(f:Value->Value->Sem Value)(r:R2):Prop :=
 ∀(pins:List (Addr×Obj))(s:Shared)(σ:St)(H:Hp)(x y:V)(v u:Value)(Q:VK),Inv X pins σ H s->RelV x v->RelV y u->r x y H Q ->
  wpAny (model X.prog X.w) X.A (f v u) (EP X pins σ Q) X.xe s
def UnR(X:Cx)(f:Value->Sem Value)(r:V->Hp->VK->Prop):Prop :=
 ∀(pins:List (Addr×Obj))(s:Shared)(σ:St)(H:Hp)(x:V)(v:Value)(Q:VK),Inv X pins σ H s->RelV x v->r x H Q ->
  wpAny (model X.prog X.w) X.A (f v) (EP X pins σ Q) X.xe s
def xG(X:Cx)(f:Value)(r:List V->Hp->VK->Prop):Prop :=
 ∀(pins:List (Addr×Obj))(s:Shared)(σ:St)(H:Hp)(xs:List V)(us:List Value)(Q:VK),Inv X pins σ H s->Vals xs us->r xs H Q ->
  wpAny (model X.prog X.w) X.A (call f us) (EP X pins σ Q) X.xe s
def TruR(X:Cx)(r:V->Hp->(Bool->Hp->Prop)->Prop):Prop :=
 ∀(pins:List (Addr×Obj))(s:Shared)(σ:St)(H:Hp)(x:V)(v:Value)(Q:Bool->Hp->Prop),Inv X pins σ H s->RelV x v->r x H Q ->
  wpAny (model X.prog X.w) X.A (truthy v) (TP X pins σ Q) X.xe s
def tOp(r:R2)(ta tb:TE):TE:=λσ H Q=>ta σ H λx H1=>tb σ H1 λy H2=>r x y H2 Q
def tUn(r:V->Hp->VK->Prop)(ta:TE):TE:=λσ H Q=>ta σ H λx H1=>r x H1 Q
def rI(C:Int->Int->Prop)(g:Int->Int->V):R2:=λx y H Q=>∃i j,x=.int i/\y=.int j/\C i j/\Q (g i j) H
def rI0(g:Int->Int->V):R2:=λx y H Q=>∃i j,x=.int i/\y=.int j/\Q (g i j) H
def rU(g:Int->V):V->Hp->VK->Prop:=λx H Q=>∃i,x=.int i/\Q (g i) H
section
theorem binT(ha:PE X a ta)(hb:PE X b tb){R:V->V->Hp->Prop}(I:Inv X pins σ H s)(h:ta σ H λx H1=>tb σ H1 λy H2=>R x y H2){f:Value->Value->Sem Value}(hf:∀v u s2 x y H2,Inv X pins σ H2 s2->RelV x v->RelV y u->R x y H2->wpAny (model X.prog X.w) X.A (f v u) Q X.xe s2) :
  wpAny (model X.prog X.w) X.A (eval a X.env) (λv s₁=>wpAny (model X.prog X.w) X.A (eval b X.env) (λu s₂=>wpAny (model X.prog X.w) X.A (f v u) Q X.xe s₂) X.xe s₁) X.xe s:=by
 refine thn (ha pins s σ H _ I h) λv s1 ⟨x,H1,I1,r1,q1⟩=>?_;refine thn (hb pins s1 σ H1 _ I1 q1) λu s2 ⟨y,H2,I2,r2,q2⟩=>?_;exact hf v u s2 x y H2 I2 r1 r2 q2
theorem opI{g:Int->Int->Int}(rule:∀(i j:Int)(t u:Tok)(s:Shared)(Q:Value->Shared->Prop)(E:Value->Shared->Prop),C i j->Q (.int (g i j) s.toks) { s with toks:=s.toks+1 }->wpAny (model X.prog X.w) X.A (f (.int i t) (.int j u)) Q E s) :
  OpR X f (rI C λi j=>.int (g i j)):=by
 intro pins s σ H x y v u Q I rx ry h;obtain⟨i,j,rfl,rfl,hc,q⟩:=h;obtain⟨t,rfl⟩:=rx;obtain⟨t',rfl⟩:=ry;exact rule i j t t' s _ _ hc ⟨.int (g i j),H,I.tok _,⟨_,rfl⟩,q⟩
theorem opI0{g:Int->Int->Int}(rule:∀(i j:Int)(t u:Tok)(s:Shared)(Q:Value->Shared->Prop)(E:Value->Shared->Prop),Q (.int (g i j) s.toks) { s with toks:=s.toks+1 }->wpAny (model X.prog X.w) X.A (f (.int i t) (.int j u)) Q E s) :
  OpR X f (rI0 λi j=>.int (g i j)):=by
 intro pins s σ H x y v u Q I rx ry h;obtain⟨i,j,rfl,rfl,q⟩:=h;obtain⟨t,rfl⟩:=rx;obtain⟨t',rfl⟩:=ry;exact rule i j t t' s _ _ ⟨.int (g i j),H,I.tok _,⟨_,rfl⟩,q⟩
theorem opB0{g:Int->Int->Bool}(rule:∀(i j:Int)(t u:Tok)(s:Shared)(Q:Value->Shared->Prop)(E:Value->Shared->Prop),Q (.bool (g i j)) s->wpAny (model X.prog X.w) X.A (f (.int i t) (.int j u)) Q E s) :
  OpR X f (rI0 λi j=>.bl (g i j)):=by
 intro pins s σ H x y v u Q I rx ry h;obtain⟨i,j,rfl,rfl,q⟩:=h;obtain⟨t,rfl⟩:=rx;obtain⟨t',rfl⟩:=ry;exact rule i j t t' s _ _ ⟨.bl (g i j),H,I,rfl,q⟩
def CPow(i j:Int):Prop:=0<=j/\j<=1000000/\i.natAbs<2^64
def CMul(i j:Int):Prop:=(-(2^64)<i/\i<2^64)\/(-(2^64)<j/\j<2^64)
theorem CMul.ok(h:CMul i j):IntMulOk i j:=by
 rcases h with⟨h1,h2⟩|⟨h1,h2⟩
 ·exact .of_left (intBits_le_64 h1 h2)
 ·exact .of_right (intBits_le_64 h1 h2)
theorem KJ(k:Nat):(0:Int)<=2^k:=by
 rw[two_pow_cast];exact DN _
theorem qO:OpR X (binaryOp .Add) (rI0 λi j=>.int (i+j)):=opI0 λ_ _ _ _ _ _ _ q=>add_int q
theorem vp:OpR X (binaryOp .Sub) (rI0 λi j=>.int (i-j)):=opI0 λ_ _ _ _ _ _ _ q=>sub_int q
theorem zp:OpR X (binaryOp .Mult) (rI CMul λi j=>.int (i*j)):=opI λ_ _ _ _ _ _ _ hc q=>mul_int q hc.ok
theorem zi:OpR X (binaryOp .Mod) (rI (λ_ j=>0<j) λi j=>.int (i % j)):=opI λi j _ _ _ _ _ hc q=>by
 have h1:(0:Int)<j:=hc;exact mod_int' (by lia) (by rw[DB i (by lia)]; exact q)
theorem op_modN:OpR X (binaryOp .Mod) (rI (λ_ j=>j≠0) λi j=>.int (i.fmod j)):=opI λ_ _ _ _ _ _ _ hc q=>mod_int' hc q
theorem J4:OpR X (binaryOp .Pow) (rI CPow λi j=>.int (i^j.toNat)):=opI λ_ _ _ _ _ _ _ hc q=>pow_int_small hc.1 hc.2.1 hc.2.2 q
theorem vS:OpR X (binaryOp .LShift) (rI CPow λi j=>.int (i*2^j.toNat)):=opI λ_ _ _ _ _ _ _ hc q=>lshift_int_small hc.1 hc.2.1 hc.2.2 q
theorem Wy:OpR X (binaryOp .RShift) (rI (λ_ j=>0<=j) λi j=>.int (i / 2^j.toNat)):=opI λi j _ _ _ _ _ hc q =>
 rshift_int hc (by rw[DC i (KJ _)]; exact q)
theorem op_xor:OpR X (binaryOp .BitXor) (rI0 λi j=>.int (Builtin.bitXor i j)):=opI0 λ_ _ _ _ _ _ _ q=>xor_int q
theorem unI{g:Int->Int}(rule:∀(i:Int)(t:Tok)(s:Shared)(Q:Value->Shared->Prop)(E:Value->Shared->Prop),Q (.int (g i) s.toks) { s with toks:=s.toks+1 }->wpAny (model X.prog X.w) X.A (f (.int i t)) Q E s) :
  UnR X f (rU λi=>.int (g i)):=by
 intro pins s σ H x v Q I rx h;obtain⟨i,rfl,q⟩:=h;obtain⟨t,rfl⟩:=rx;exact rule i t s _ _ ⟨.int (g i),H,I.tok _,⟨_,rfl⟩,q⟩
theorem un_neg:UnR X (unaryOp .USub) (rU λi=>.int (-i)):=unI λ_ _ _ _ _ q=>neg_int q
end
def scal:V->V->Bool
 |.non, .non=>true | .non, .int _=>true | .int _, .non=>true | .non, .bl _=>true | .bl _, .non=>true | .non, .str _=>true | .str _, .non=>true
 |.int _, .int _=>true | .bl _, .bl _=>true | .str _, .str _=>true | .byt _, .byt _=>true
 |.int _, .str _=>true | .str _, .int _=>true | .bl _, .str _=>true | .str _, .bl _=>true
 |_,_=>false
def rEq:R2:=λx y H Q=>scal x y=true/\Q (.bl (decide (x=y))) H
def rNe:R2:=λx y H Q=>scal x y=true/\Q (.bl (!decide (x=y))) H
theorem GX:decide (V.int i=V.int j)=(i==j):=by
 rw[DO];simp
theorem dec_bl:decide (V.bl i=V.bl j)=(i==j):=by
 rw[DO];simp
theorem GW:decide (V.str i=V.str j)=(i==j):=by
 rw[DO];simp
theorem GY:decide (V.byt i=V.byt j)=(i.toList==j.toList):=by
 rw[DO];cases i;cases j;simp
section
theorem vh(I:Inv X pins σ H s)(q:Q (.bl k) H)(e:k=k'):EP X pins σ Q (.bool k') s:=by
 subst e;exact⟨.bl k,H,I,rfl,q⟩
theorem vD:OpR X (compareOp .Eq) rEq:=by
 intro pins s σ H x y v u Q I rx ry h;obtain⟨hs,q⟩:=h;cases x with
 |non =>
  cases rx;cases y with
  |non=>cases ry; exact PySem.EqNone.eq_none_none (vh I q (by simp))
  |bl j=>cases ry; exact PySem.EqNone.eq_none_bool (vh I q (by simp))
  |int j=>obtain⟨t',rfl⟩:=ry; exact PySem.EqNone.eq_none_int (vh I q (by simp))
  |str j=>obtain⟨t',rfl⟩:=ry; exact PySem.EqNone.eq_none_str (vh I q (by simp))
  |_=>exact absurd (show false=true from hs) Ur
 |bl i =>
  cases rx;cases y with
  |non=>cases ry; exact PySem.EqNone.eq_bool_none (vh I q (by simp))
  |bl j=>cases ry; exact eq_bool (vh I q dec_bl)
  |str j=>obtain⟨t',rfl⟩:=ry; exact PySem.EqMixed.eq_bool_str (vh I q (by simp))
  |_=>exact absurd (show false=true from hs) Ur
 |int i =>
  obtain⟨t,rfl⟩:=rx;cases y with
  |non=>cases ry; exact PySem.EqNone.eq_int_none (vh I q (by simp))
  |int j=>obtain⟨t',rfl⟩:=ry; exact eq_int (vh I q GX)
  |str j=>obtain⟨t',rfl⟩:=ry; exact PySem.EqMixed.eq_int_str (vh I q (by simp))
  |_=>exact absurd (show false=true from hs) Ur
 |str i =>
  obtain⟨t,rfl⟩:=rx;cases y with
  |non=>cases ry; exact PySem.EqNone.eq_str_none (vh I q (by simp))
  |bl j=>cases ry; exact PySem.EqMixed.eq_str_bool (vh I q (by simp))
  |int j=>obtain⟨t',rfl⟩:=ry; exact PySem.EqMixed.eq_str_int (vh I q (by simp))
  |str j=>obtain⟨t',rfl⟩:=ry; exact eq_str (vh I q GW)
  |_=>exact absurd (show false=true from hs) Ur
 |byt i =>
  obtain⟨t,rfl⟩:=rx;cases y with
  |byt j=>obtain⟨t',rfl⟩:=ry; exact W.eq_bytes (vh I q GY)
  |_=>exact absurd (show false=true from hs) Ur
 |_=>cases y<;>exact absurd (show false=true from hs) Ur
theorem Ja:OpR X (compareOp .NotEq) rNe:=by
 intro pins s σ H x y v u Q I rx ry h;obtain⟨hs,q⟩:=h;cases x with
 |non =>
  cases rx;cases y with
  |non=>cases ry; exact PySem.EqNone.ne_none_none (vh I q (by simp))
  |bl j=>cases ry; exact PySem.EqNone.ne_none_bool (vh I q (by simp))
  |int j=>obtain⟨t',rfl⟩:=ry; exact PySem.EqNone.ne_none_int (vh I q (by simp))
  |str j=>obtain⟨t',rfl⟩:=ry; exact PySem.EqNone.ne_none_str (vh I q (by simp))
  |_=>exact absurd (show false=true from hs) Ur
 |bl i =>
  cases rx;cases y with
  |non=>cases ry; exact PySem.EqNone.ne_bool_none (vh I q (by simp))
  |bl j=>cases ry; exact ne_bool (vh I q (congrArg not dec_bl))
  |str j=>obtain⟨t',rfl⟩:=ry; exact PySem.EqMixed.ne_bool_str (vh I q (by simp))
  |_=>exact absurd (show false=true from hs) Ur
 |int i =>
  obtain⟨t,rfl⟩:=rx;cases y with
  |non=>cases ry; exact PySem.EqNone.ne_int_none (vh I q (by simp))
  |int j=>obtain⟨t',rfl⟩:=ry; exact ne_int (vh I q (congrArg not GX))
  |str j=>obtain⟨t',rfl⟩:=ry; exact PySem.EqMixed.ne_int_str (vh I q (by simp))
  |_=>exact absurd (show false=true from hs) Ur
 |str i =>
  obtain⟨t,rfl⟩:=rx;cases y with
  |non=>cases ry; exact PySem.EqNone.ne_str_none (vh I q (by simp))
  |bl j=>cases ry; exact PySem.EqMixed.ne_str_bool (vh I q (by simp))
  |int j=>obtain⟨t',rfl⟩:=ry; exact PySem.EqMixed.ne_str_int (vh I q (by simp))
  |str j=>obtain⟨t',rfl⟩:=ry; exact ne_str (vh I q (congrArg not GW))
  |_=>exact absurd (show false=true from hs) Ur
 |byt i =>
  obtain⟨t,rfl⟩:=rx;cases y with
  |byt j=>obtain⟨t',rfl⟩:=ry; exact W.ne_bytes (vh I q (congrArg not GY))
  |_=>exact absurd (show false=true from hs) Ur
 |_=>cases y<;>exact absurd (show false=true from hs) Ur
theorem xX:OpR X (compareOp .Lt) (rI0 λi j=>.bl (decide (i<j))):=opB0 λ_ _ _ _ _ _ _ q=>lt_int q
theorem op_le:OpR X (compareOp .LtE) (rI0 λi j=>.bl (decide (i<=j))):=opB0 λ_ _ _ _ _ _ _ q=>le_int q
theorem op_gt:OpR X (compareOp .Gt) (rI0 λi j=>.bl (decide (j<i))):=opB0 λ_ _ _ _ _ _ _ q=>gt_int q
theorem op_ge:OpR X (compareOp .GtE) (rI0 λi j=>.bl (decide (j<=i))):=opB0 λ_ _ _ _ _ _ _ q=>ge_int q
theorem Wz:OpR X (compareOp .Is) (λx y H Q=>y=.non/\Q (.bl (decide (x=.non))) H):=by
 intro pins s σ H x y v u Q I rx ry h;obtain⟨rfl,q⟩:=h;cases ry;refine is_none_gen (vh I q ?_);cases x<;>first
  | (cases rx; rfl)
  | (obtain⟨t,rfl⟩:=rx; rfl)
theorem op_notN:OpR X (compareOp .IsNot) (λx y H Q=>y=.non/\Q (.bl (!decide (x=.non))) H):=by
 intro pins s σ H x y v u Q I rx ry h;obtain⟨rfl,q⟩:=h;cases ry;refine isnot_none_gen (vh I q ?_);cases x<;>first
  | (cases rx; rfl)
  | (obtain⟨t,rfl⟩:=rx; rfl)
theorem qA(b:Expr)(h:op ≠ .In:=by decide)(h2:op ≠ .NotIn:=by decide):behindInMarks op b=false:=by
 have e1:(op==CmpOp.In)=false:=by cases op<;>first|rfl|exact absurd rfl h
 have e2:(op==CmpOp.NotIn)=false:=by cases op<;>first|rfl|exact absurd rfl h2
 cases b<;>simp[behindInMarks,e1,e2]
def Ve(t:TE):TT:=λσ H Q=>t σ H λx H'=>∃k,x=.bl k/\Q k H'
def j6(r r':R2)(ta tb tc:TE):TE:=λσ H Q=>ta σ H λx H1=>tb σ H1 λy H2=>r x y H2 λz H3=>∃k,z=.bl k /\
 (if k=true then tc σ H3 λw' H4=>r' y w' H4 Q else Q (.bl false) H3)
def TruV(Ξ:PySem.W.Frag)(x:V)(H:Hp)(k:Bool):Prop :=
 match x with
 |.non=>k=false
 |.bl b=>k=b
 |.int i=>k=(i != 0)
 |.str y=>y.length<=sizeLine/\k=((y.length:Int) != 0)
 |.byt y=>y.size<=sizeLine/\k=((y.size:Int) != 0)
 |.ref p=>(∃xs,SqL Ξ H p xs/\k = !xs.isEmpty)\/(∃xs,SqT Ξ H p xs/\k = !xs.isEmpty)\/∃kvs,H p=some (.dK kvs)/\k = !kvs.isEmpty
 |_=>False
theorem K9{κ:Type}{kvs:List (κ×V)}{vs:List (κ×Value)}(r:KV kvs vs):(!vs.isEmpty) = !kvs.isEmpty:=by
 cases r<;>rfl
theorem Q3(r:Vals xs its):(!its.toArray.isEmpty) = !xs.isEmpty:=by
 cases r<;>simp
theorem ZV:(sizeLine:Nat)<2^63:=by rw[sizeLine_eq]; decide
theorem tru_ok:TruR X (λx H Q=>∃k,TruV X.K x H k/\Q k H):=by
 intro pins s σ H x v Q I rx h;obtain⟨k,e,q⟩:=h;have hl:=ZV;have hs:sizeLine=16777216:=sizeLine_eq;cases x with
 |non =>
  cases rx;have e':k=false:=e;subst e';exact truthy_none ⟨H,I,q⟩
 |bl b =>
  cases rx;have e':k=b:=e;subst e';exact wpAny_truthy_bool ⟨H,I,q⟩
 |int i =>
  obtain⟨t,rfl⟩:=rx;have e':k=(i != 0):=e;subst e';exact PySem.P.truthy_int ⟨H,I,q⟩
 |str y =>
  obtain⟨t,rfl⟩:=rx;obtain⟨hy,e'⟩:y.length<=sizeLine/\k=((y.length:Int) != 0):=e;subst e';exact PySem.P.truthy_str (by lia) ⟨H,I.tok _,q⟩
 |byt y =>
  obtain⟨t,rfl⟩:=rx;obtain⟨hy,e'⟩:y.size<=sizeLine/\k=((y.size:Int) != 0):=e;subst e';exact W.truthy_bytes (by lia) ⟨H,I.tok _,q⟩
 |ref p =>
  cases rx;have e':(∃xs,SqL X.K H p xs/\k = !xs.isEmpty)\/(∃xs,SqT X.K H p xs/\k = !xs.isEmpty)\/∃kvs,H p=some (.dK kvs)/\k = !kvs.isEmpty:=e;rcases e' with⟨xs,hx,e'⟩|⟨xs,hx,e'⟩|⟨kvs,hx,e'⟩
  ·subst e'
   obtain⟨its,r,pl,hz⟩:=I.list hx;have hlen:=r.length;exact wpAny_truthy_list pl.isList (by simp only[Uo]; lia) ⟨H,I.tok _,by rw[Q3 r]; exact q⟩
  ·subst e'
   obtain⟨its,r,pl,hz⟩:=I.tuple hx;have hlen:=r.length;exact truthy_tuple pl (by simp only[Uo]; lia) ⟨H,I.tok _,by rw[Q3 r]; exact q⟩
  ·subst e'
   obtain⟨hz,hS,vs,r,m⟩:kvs.length<=sizeLine/\(p==sysModules)=false/\∃vs,KV kvs vs/\s.heap.DictOf (vo X.prog X.w) p vs:=I.hok p _ hx;have hlen:kvs.length=vs.length:=Paired.length r;exact wpAny_truthy_dict hS m (by lia) ⟨H,I.tok _,by rw[K9 r]; exact q⟩
 |_=>exact(show False from e).elim
theorem pt_truth(ha:PE X a ta)(he:∀whole,isTrue a X.env whole=(do let v <-whole; standAt a.pos; holding [v] (truthy v))) :
  PT X a (λσ H Q=>ta σ H λx H'=>∃k,TruV X.K x H' k/\Q k H'):=by
 intro pins s σ H Q I h;exact isTrue_plain (thn (ha pins s σ H _ I h) λv s1 ⟨x,H1,I1,r1,q1⟩=>tru_ok pins s1 σ H1 x v Q I1 r1 q1) (he _)
theorem Xr(r:Vals [x] us):∃u,us=[u]/\RelV x u:=by
 cases r with
 |cons r1 r2=>cases r2; exact⟨_,rfl,r1⟩
theorem vals2(r:Vals [x,y] us):∃u w',us=[u,w']/\RelV x u/\RelV y w':=by
 cases r with
 |cons r1 r2 =>
  cases r2 with
  |cons r3 r4=>cases r4; exact⟨_,_,rfl,r1,r3⟩
theorem kI:xG X (.builtin "abs") (λxs H Q=>∃i,xs=[.int i]/\Q (.int (if i<0 then -i else i)) H):=by
 intro pins s σ H xs us Q I r h;obtain⟨i,rfl,q⟩:=h;obtain⟨u,rfl,t,rfl⟩:=Xr r;exact call_abs_int λu tk=>⟨.int (if i<0 then -i else i),H,I.tok _,⟨_,rfl⟩,q⟩
theorem QJ(hc:X.calm=true):xG X (.builtin "min") (λxs H Q=>∃i j,xs=[.int i, .int j]/\Q (.int (if j<i then j else i)) H):=by
 intro pins s σ H xs us Q I r h;obtain⟨i,j,rfl,q⟩:=h;obtain⟨u,w',rfl,⟨t,rfl⟩,⟨t',rfl⟩⟩:=vals2 r;refine min_two_ints (I.ok.hd hc) λh' tk k=>⟨_,H,I.kept k, ?_,q⟩;by_cases hj:j<i
 ·rw[if_pos hj,if_pos hj]; exact⟨_,rfl⟩
 ·rw[if_neg hj,if_neg hj]; exact⟨_,rfl⟩
theorem jw:xG X (.type "int") (λxs H Q=>(∃i,xs=[.int i]/\Q (.int i) H)\/∃k,xs=[.bl k]/\Q (.int (if k then 1 else 0)) H):=by
 intro pins s σ H xs us Q I r h;rcases h with⟨i,rfl,q⟩|⟨k,rfl,q⟩
 ·obtain⟨u,rfl,t,rfl⟩:=Xr r
  exact call_int_int ⟨.int i,H,I,⟨_,rfl⟩,q⟩
 ·obtain⟨u,rfl,r1⟩:=Xr r
  cases r1;exact call_int_bool ⟨.int (if k then 1 else 0),H,I.tok _,⟨_,rfl⟩,q⟩
end
structure ObjM(h:Heap)(x dx C:Addr)(mA:Str->Option Value):Prop where
 obj:h.get? x=some (W.instObj C dx)
 ns:h.Ns1 dx mA
 ne:dx≠x
theorem Gb{h:Heap}(n:h.Ns1 dx mA):∃od,h.get? dx=some od/\∀name,W.lookIn name od=some (mA name):=by
 obtain⟨o,es,ep,ho,hd,hk,_,hm⟩:=n;refine⟨o,ho,λname=>?_⟩;have e:=hm name;unfold nsFind findBy at e;rw[<-R8] at e;unfold W.lookIn;rw[hd];dsimp only;split
 ·rename_i y q
  rw[q] at e;exact congrArg some e
 ·rename_i q
  rw[q] at e;have a:es.toList.any (·.refKey)=false:=by
   rw[List.any_eq_false];intro y hy;obtain⟨z,t,hkey⟩:=hk y (Array.mem_toList_iff.mp hy);simp[DictEntry.refKey,hkey]
  have a':¬es.toList.any (·.refKey)=true:=by rw[a]; exact Ur
  rw[if_neg a'];exact congrArg some e
theorem ObjM.look(I:ObjM h x dx C mA):∃od,PySem.W.InstAt h x (W.instObj C dx) C (some od)/\∀name,W.lookIn name od=some (mA name) :=
 let⟨od,ho,hl⟩:=Gb I.ns
 ⟨od,⟨I.obj,rfl,rfl,ho⟩,hl⟩
section
theorem get_map(X:Ξ.In s.heap)(I:ObjM s.heap x dx C mA)(hg:W.plainGet Ξ C name=true)(hh:W.hasDictIn Ξ C=true)(ha:W.findIn Ξ (.ref C) name=some none)(hv:mA name=some v)(hv':W.handedIn v=true)(h:Q v { s with toks:=s.toks+1 }) :
  wpAny (model prog w) A (getAttr (.ref x) name expr) Q E s:=by
 obtain⟨od,J,hl⟩:=I.look;exact W.get_value X J (D3 hg).1 (W.findObj_own hh ha rfl (by rw[hl,hv])) hv' h
theorem get_meth(X:Ξ.In s.heap)(I:ObjM s.heap x dx C mA)(hg:W.plainGet Ξ C name=true)(hf:W.findIn Ξ (.ref C) name=some (some (.ref f)))(ht:W.isFn Ξ (.ref f)=true)(hv:mA name=none)(h:Q (.ref f, [.ref x]) s) :
  wpAny (model prog w) A (getMethod (.ref x) name pl) Q E s:=by
 obtain⟨od,J,hl⟩:=I.look;exact W.method_fn X J (D3 hg).1 (D3 hg).2 hf (beq_iff_eq.mp ht) (by show(W.lookIn name od).map (·.isSome)=some false; rw[hl,hv]; rfl) h
theorem set_map(X:Ξ.In s.heap)(I:ObjM s.heap x dx C mA)(hs:W.findIn Ξ (.ref C) "__setattr__" = some (some (.builtin "object.__setattr__")))(hp:W.plainOver Ξ C=true)(ht:W.takerIn Ξ C name=some none)(hh:W.hasDictIn Ξ C=true)(hw:PySem.Within mA ns)(hsz:ns.length<=sizeLine)(h:∀h',ObjM h' x dx C (λy=>if y=name then some v else mA y)->Heap.SameBut dx s.heap h'->Q () { s with heap:=h',toks:=s.toks+2 }) :
  wpAny (model prog w) A (setAttr (.ref x) name v) Q E s:=by
 obtain⟨od,J,hl⟩:=I.look;refine W.set_plain X J hs (W.osa_open (s:={ s with toks:=s.toks+1 }) (r:=none) X J hp ht λb=>?_);obtain⟨cd,hc,hd'⟩:=W.any_some hh;have hx:s.heap.get? x=some ⟨.ref C,some dx, .plain, #[]⟩:=I.obj;refine wpAny_bind (wpAny_pure (wpAny_bind (wpAny_bind (wpAny_loadPart hx (wpAny_bind (PySem.W.Looks.here (s:={ s with toks:=s.toks+1 }) (W.looks_clsIn X hc) ?_))))));rw[hd'];refine wpAny_pure (a:=some dx) (wpAny_bind (wpAny_pure (wpAny_bind ?_)));refine wpAny_nsSet1 (s:={ s with toks:=s.toks+1 }) I.ns λh' hn2 hs2=>?_;obtain⟨oD,esD,epD,hoD,hdD,hcD⟩:=hn2.count (PySem.Within.cons name v hw);refine wpAny_bind (wpAny_lookBehind hoD (by rw[hdD]; exact pastItsLine_dict (UC hcD (by rw[Ul]; lia))) ?_);exact wpAny_pure (h _ ⟨(hs2.2 _ (Ne.symm I.ne)).trans I.obj,hn2,I.ne⟩ hs2)
theorem make_map(X:Ξ.In s.heap)(hm:W.makesIn Ξ C=true)(hi:W.findIn Ξ (.ref C) "__init__" = some (some (.ref f)))(hf:W.typeIn Ξ (.ref f)=some (.type "function"))(h:codeAny (model prog w) (A.under (.builtin "type.__call__" ⟨.ref C::vs,kw⟩)) (.call (.ref f) ⟨.ref (s.heap.objs.size+1)::vs,kw⟩) (PySem.W.InitBack (s.heap.objs.size+1) R)
   { s with heap:=(s.heap.push W.emptyDict).push (W.instObj C s.heap.objs.size) }) :
  codeAny (model prog w) A (.call (.ref C) ⟨vs,kw⟩) R s:=by
 obtain⟨hh,g,d,t,os⟩:=s;exact W.make_core (W.makes_of X hm) (W.looks_findIn X hi) (λself=>W.bind_fn X self hf) (.inl rfl) h
end
def putF(f:Str)(v:V):List (Str×V)->List (Str×V)
 | []=>[(f,v)]
 | (g,x)::r=>if g=f then(g,v)::r else(g,x)::putF f v r
theorem Qn(f g:Str)(v:V):∀fs:List (Str×V),(putF f v fs).lookup g=if g=f then some v else fs.lookup g
 | []=>by
  show List.lookup g [(f,v)]=_;by_cases h:g=f
  ·have hb:(g==f)=true:=beq_iff_eq.mpr h
   simp only[List.lookup,hb,if_pos h]
  ·have hb:(g==f)=false:=beq_eq_false_iff_ne.mpr h
   simp only[List.lookup,hb,if_neg h]
 | (k,x)::r=>by
  have ih:=Qn f g v r;rw[show putF f v ((k,x)::r)=(if k=f then(k,v)::r else(k,x)::putF f v r) from rfl];by_cases hk:k=f
  ·rw[if_pos hk]
   by_cases h:g=k
   ·have hb:(g==k)=true:=beq_iff_eq.mpr h
    simp only[List.lookup,hb,if_pos (h.trans hk)]
   ·have hb:(g==k)=false:=beq_eq_false_iff_ne.mpr h
    simp only[List.lookup,hb,if_neg (λe:g=f=>h (e.trans hk.symm))]
  ·rw[if_neg hk]
   by_cases h:g=k
   ·have hb:(g==k)=true:=beq_iff_eq.mpr h
    simp only[List.lookup,hb,if_neg (λe:g=f=>hk (h.symm.trans e))]
   ·have hb:(g==k)=false:=beq_eq_false_iff_ne.mpr h
    simp only[List.lookup,hb];exact ih
theorem Qq(f:Str)(v:V):∀fs:List (Str×V),f∈(putF f v fs).map (·.1)/\∀g,g∈fs.map (·.1)->g∈(putF f v fs).map (·.1)
 | []=>⟨by simp[putF],λg h=>by simp at h⟩
 | (k,x)::r=>by
  obtain⟨i1,i2⟩:=Qq f v r;rw[show putF f v ((k,x)::r)=(if k=f then(k,v)::r else(k,x)::putF f v r) from rfl];by_cases hk:k=f
  ·rw[if_pos hk]
   subst hk;exact⟨by simp,λg h=>by simpa using h⟩
  ·rw[if_neg hk]
   refine⟨?_,λg h=>?_⟩
   ·rw[Uy]
    exact UP _ i1
   ·rw[Uy] at h ⊢
    rcases Up.mp h with e|e
    ·exact Up.mpr (.inl e)
    ·exact UP _ (i2 g e)
theorem Qo(f:Str)(v:V):∀fs:List (Str×V),(putF f v fs).length<=fs.length+1
 | []=>by simp[putF]
 | (k,x)::r=>by
  have ih:=Qo f v r;rw[show putF f v ((k,x)::r)=(if k=f then(k,v)::r else(k,x)::putF f v r) from rfl];by_cases hk:k=f
  ·rw[if_pos hk,Ul,Ul]; lia
  ·rw[if_neg hk,Ul,Ul]; lia
theorem RelO.some_of(r:RelO (some v) o):∃u,o=some u/\RelV v u:=by
 cases o with
 |none=>exact(show False from r).elim
 |some u=>exact⟨u,rfl,r⟩
theorem RelO.none_of(r:RelO none o):o=none:=by
 cases o with
 |none=>rfl
 |some u=>exact(show False from r).elim
theorem Gz(r:RelV v u):W.handedIn u=true:=by
 cases v with
 |non=>cases(show u=Value.none from r); rfl
 |bl b=>cases(show u=Value.bool b from r); rfl
 |int i=>obtain⟨t,e⟩:=(show ∃t,u=Value.int i t from r); cases e; rfl
 |str x=>obtain⟨t,e⟩:=(show ∃t,u=Value.str x t from r); cases e; rfl
 |byt b=>obtain⟨t,e⟩:=(show ∃t,u=Value.bytes b t from r); cases e; rfl
 |flt b=>obtain⟨t,e⟩:=(show ∃t,u=Value.float b t from r); cases e; rfl
 |ref a=>cases(show u=Value.ref a from r); rfl
 |ty n=>cases(show u=Value.type n from r); rfl
section
theorem VQ(hok:HOk P w H h)(e:H a=some (.ins C dx fs)):∃mA,ObjM h a dx C mA/\(∀f,RelO (fs.lookup f) (mA f))/\PySem.Within mA (fs.map (·.1))/\fs.length<=1000/\H dx=some (.own a):=by
 obtain⟨d,z,ne,ob,mA,n,r,q⟩:=(show ObjOk P w H h a (.ins C dx fs) from hok a _ e);exact⟨mA,⟨ob,n,ne⟩,r,q,z,d⟩
end
structure Cls(Ξ:PySem.W.Frag)(C:Addr):Prop where
 pg:W.plainGet Ξ C Str.empty=true
 hd:W.hasDictIn Ξ C=true
 po:W.plainOver Ξ C=true
 sa:W.findIn Ξ (.ref C) "__setattr__" = some (some (.builtin "object.__setattr__"))
theorem Cls.get(c:Cls Ξ C)(f:Str):W.plainGet Ξ C f=true:=c.pg
def NoAttr(Ξ:PySem.W.Frag)(C:Addr)(f:Str):Prop:=W.findIn Ξ (.ref C) f=some none
theorem NoAttr.taker(n:NoAttr Ξ C f):W.takerIn Ξ C f=some none:=by
 unfold W.takerIn;rw[show W.findIn Ξ (.ref C) f=some none from n];rfl
structure Meth(Ξ:PySem.W.Frag)(C:Addr)(m:Str)(f:Addr):Prop where
 at_:W.findIn Ξ (.ref C) m=some (some (.ref f))
 fn:W.isFn Ξ (.ref f)=true
 kp:W.keepIn Ξ (.ref f)=true
section
theorem Q4(I:Inv X pins σ H s)(e:H a=some (.ins C dx fs))(c:Cls X.K C)(n:NoAttr X.K C f)(l:fs.lookup f=some v)(h:∀u s',Inv X pins σ H s'->RelV v u->Q u s'):wpAny (model X.prog X.w) A (getAttr (.ref a) f b) Q E s:=by
 obtain⟨mA,O,r,_,_,_⟩:=VQ I.hok e;obtain⟨u,hu,ru⟩:=RelO.some_of (v:=v) (o:=mA f) (by rw[<-l]; exact r f);exact get_map I.kIn O (c.get f) c.hd n hu (Gz ru) (h u _ (I.tok _) ru)
theorem xx(I:Inv X pins σ H s)(e:H a=some (.ins C dx fs))(c:Cls X.K C)(k:Meth X.K C m g)(l:fs.lookup m=none)(h:Q (.ref g, [.ref a]) s):wpAny (model X.prog X.w) A (getMethod (.ref a) m pl) Q E s:=by
 obtain⟨mA,O,r,_,_,_⟩:=VQ I.hok e;have hn:mA m=none:=RelO.none_of (by rw[<-l]; exact r m);exact get_meth I.kIn O (c.get m) k.at_ k.fn hn h
theorem QY(I:Inv X pins σ H s)(e:H a=some (.ins C dx fs))(c:Cls X.K C)(n:NoAttr X.K C f)(hl:fs.length<1000)(ry:RelV y u)(h:∀s',Inv X pins σ (upd H a (.ins C dx (putF f y fs))) s'->Q () s'):wpAny (model X.prog X.w) A (setAttr (.ref a) f u) Q E s:=by
 obtain⟨mA,O,r,wi,_,ho⟩:=VQ I.hok e;have hz:(fs.map (·.1)).length<=sizeLine:=by rw[Ug,sizeLine_eq]; lia
 refine set_map I.kIn O c.sa c.po n.taker c.hd wi hz λh' O' sb=>h _ ?_;have hd:∃o,h'.get? dx=some o:=let⟨o,_,_,e',_⟩:=O'.ns; ⟨o,e'⟩;refine I.write (x:=a) (e:=dx) (by rw[e]; exact True.intro) (.inr ho) (λb q hb z=>(sb.2 b hb).trans z) hd ?_;refine⟨by rw[upd_ne O.ne]; exact ho, ?_,O.ne,O'.obj,_,O'.ns,λg=>?_,λg hg=>?_⟩
 ·have:=Qo f y fs; lia
 ·show RelO ((putF f y fs).lookup g) (if g=f then some u else mA g)
  rw[Qn];by_cases q:g=f
  ·rw[if_pos q,if_pos q]; exact ry
  ·rw[if_neg q,if_neg q]; exact r g
 ·by_cases q:g=f
  ·rw[q]; exact(Qq f y fs).1
  ·refine(Qq f y fs).2 g (wi g λz=>hg ?_)
   show(if g=f then some u else mA g)=none;rw[if_neg q]; exact z
theorem Inv.made(I:Inv X pins σ H s):Inv X pins σ (upd (upd H s.heap.objs.size (.own (s.heap.objs.size+1))) (s.heap.objs.size+1) (.ins C s.heap.objs.size []))
  { s with heap:=(s.heap.push W.emptyDict).push (W.instObj C s.heap.objs.size) }:=by
 have e1:(s.heap.push W.emptyDict).get? s.heap.objs.size=some W.emptyDict:=Heap.get?_push_size s.heap rfl;have e2:((s.heap.push W.emptyDict).push (W.instObj C s.heap.objs.size)).get? (s.heap.objs.size+1)=some (W.instObj C s.heap.objs.size):=by
  have:=Heap.get?_push_size (s.heap.push W.emptyDict) (o:=W.instObj C s.heap.objs.size) rfl;rwa [Heap.size_push] at this
 have e3:(s.heap.push W.emptyDict).Ns s.heap.objs.size (λ_=>none):=⟨W.emptyDict, #[],_,e1,rfl,(λe he=>absurd he (by simp)),λ_=>rfl⟩;have I1:=I.laid (a:=s.heap.objs.size) (o:=.own (s.heap.objs.size+1)) (h':=s.heap.push W.emptyDict) (t':=s.toks) (λb u q=>Heap.get?_push_of_some _ q) (Uk _) ⟨_,e1⟩;refine I1.laid (a:=s.heap.objs.size+1) (o:=.ins C s.heap.objs.size []) (t':=s.toks) (λb u q=>Heap.get?_push_of_some _ q) (D7 (Heap.size_push _ _)) ?_;have ne:s.heap.objs.size≠s.heap.objs.size+1:=UF (Nat.lt_succ_self _);refine⟨by rw[upd_ne ne,upd_same],UY _,ne,e2,λ_=>none,(Heap.Ns1.of_empty e3).at λo q=>Heap.get?_push_of_some _ q,λ_=>True.intro,λy hy=>absurd rfl hy⟩
theorem attr_of(hb:attributeBase e f env (eval e env)=eval e env)(h:wpAny (model prog w) A (eval e env) (λo s₁=>wpAny (model prog w) A (getAttr o f true) Q E s₁) E s):wpAny (model prog w) A (eval (.Attribute e f pos) env) Q E s :=
 Attribute_any_ h (by rw[arm_eval_Attribute,hb])
end
def tFld(Ξ:PySem.W.Frag)(ta:TE)(f:Str):TE:=λσ H Q=>ta σ H λx H1=>∃a C dx fs v,x=.ref a/\H1 a=some (.ins C dx fs)/\Cls Ξ C/\NoAttr Ξ C f/\fs.lookup f=some v/\Q v H1
def sFld(Ξ:PySem.W.Frag)(ta tv:TE)(f:Str):TS:=λD σ H=>tv σ H λy H1=>ta σ H1 λx H2=>∃a C dx fs,x=.ref a/\H2 a=some (.ins C dx fs)/\Cls Ξ C/\NoAttr Ξ C f/\fs.length<1000 /\
 D.nx σ (upd H2 a (.ins C dx (putF f y fs)))
def InOp(X:Cx)(op:Operator)(rd:V->V->Hp->VK->Prop):Prop :=
 ∀(pins:List (Addr×Obj))(s:Shared)(σ:St)(H:Hp)(x y:V)(u v:Value)(Q:VK),Inv X pins σ H s->RelV x u->RelV y v->rd x y H Q->wpAny (model X.prog X.w) X.A (inplaceOp op u v) (EP X pins σ Q) X.xe s
def XZ(Ξ:PySem.W.Frag)(ta tv:TE)(rd:V->V->Hp->VK->Prop)(f:Str):TS:=λD σ H=>ta σ H λx H1=>∃a C dx fs v,x=.ref a/\H1 a=some (.ins C dx fs)/\Cls Ξ C/\NoAttr Ξ C f/\fs.lookup f=some v /\
 tv σ H1 λy H2=>rd v y H2 λz H3=>∃dx' fs',H3 a=some (.ins C dx' fs')/\fs'.length<1000/\D.nx σ (upd H3 a (.ins C dx' (putF f z fs')))
section
def rAdd:V->V->Hp->VK->Prop:=λx y H Q=>∃i j,x=.int i/\y=.int j/\Q (.int (i+j)) H
theorem in_add:InOp X .Add rAdd:=by
 rintro pins s σ H x y u v Q I rx ry ⟨i,j,rfl,rfl,q⟩;obtain⟨t,rfl⟩:=(show ∃t,u=Value.int i t from rx);obtain⟨t',rfl⟩:=(show ∃t',v=Value.int j t' from ry);exact PyProof.Rows.iadd_int ⟨.int (i+j),H,I.tok _,⟨_,rfl⟩,q⟩
theorem methcall_of(he:PE X e te)(I:Inv X pins σ H s)(h:te σ H λx H1=>∃a C dx fs g,x=.ref a/\H1 a=some (.ins C dx fs)/\Cls X.K C/\Meth X.K C m g/\fs.lookup m=none /\
   ∀s1,Inv X pins σ H1 s1->wpAny (model X.prog X.w) X.A (callWith pos (.ref g) [.ref a] (backTo pos (starEach args X.env)) (backToKw pos (keywordEach [] X.env))) Q X.xe s1)(ht:eval (.Call (.Attribute e m apos) args [] pos) X.env=(do
   let ov <-eval e X.env
   standAt apos.atName;let(f,first) <-holding [ov] (getMethod ov m pl)
   callWith pos f first (backTo pos (starEach args X.env)) (backToKw pos (keywordEach [] X.env)))) :
  wpAny (model X.prog X.w) X.A (eval (.Call (.Attribute e m apos) args [] pos) X.env) Q X.xe s:=by
 refine Dl (pl:=pl) (thn (he pins s σ H _ I h) λu s1 ⟨x,H1,I1,rx,a,C,dx,fs,g,ex,ea,c,k,l,q⟩=>?_) ht;subst ex;obtain rfl:u=Value.ref a:=rx;exact xx I1 ea c k l (q s1 I1)
end
section
variable {X:Cx} {pins:List (Addr×Obj)} {σ:St} {H:Hp} {s:Shared} {A:Around} {E:Value->Shared->Prop} {Q:Value->Shared->Prop} {c:Value} {b:Bool}
inductive TyOf(Ξ:PySem.W.Frag)(H:Hp):V->Value->Prop where
 |non:TyOf Ξ H .non (.type "NoneType")
 |bl (x:Bool):TyOf Ξ H (.bl x) (.type "bool")
 |int (i:Int):TyOf Ξ H (.int i) (.type "int")
 |str (x:Str):TyOf Ξ H (.str x) (.type "str")
 |flt (x:UInt64):TyOf Ξ H (.flt x) (.type "float")
 |lst {a:Addr} {xs:List V} (e:H a=some (.lst xs)):TyOf Ξ H (.ref a) (.type "list")
 |frz {a:Addr} {o:Obj} {xs:List V} (e:H a=some (.frz o (.lst xs))):TyOf Ξ H (.ref a) (.type "list")
 |tup {a:Addr} {xs:List V} (e:H a=some (.tup xs)):TyOf Ξ H (.ref a) (.type "tuple")
 |dK {a:Addr} {kvs:List (Key×V)} (e:H a=some (.dK kvs)):TyOf Ξ H (.ref a) (.type "dict")
 |dT {a:Addr} {kvs:List (List Key×V)} (e:H a=some (.dT kvs)):TyOf Ξ H (.ref a) (.type "dict")
 |ins {a C dx:Addr} {fs:List (Str×V)} (e:H a=some (.ins C dx fs)) (cl:Cls Ξ C) (ha:W.findIn Ξ (.ref C) "__class__" = some (some (.builtin "object.__class__")))
   (hn:W.specialIn Ξ (.builtin "object.__class__") "__get__" = some (some (.builtin "getset_descriptor.__get__"))) (htk:W.takesIn Ξ (.builtin "object.__class__")=some true)
   (hm:W.mroIn Ξ C (.type "object")=some true):TyOf Ξ H (.ref a) (.ref C)
theorem Gr(I:Inv X pins σ H s)(rx:RelV x u)(ty:TyOf X.K H x t)(e:W.kitOne X.K t c=some b)(h:∀tk,Q (.bool b) { s with toks:=tk }) :
  wpAny (model X.prog X.w) A (call (.builtin "isinstance") [u,c]) Q E s:=by
 cases ty with
 |non=>cases(show u=Value.none from rx); exact U5 W.kitx_none I.kIn True.intro e (λz=>nomatch z) h
 |bl y=>cases(show u=Value.bool y from rx); exact U5 W.kitx_bool I.kIn True.intro e (λz=>nomatch z) h
 |int i=>obtain⟨t,q⟩:=(show ∃t,u=Value.int i t from rx); cases q; exact U5 W.kitx_int I.kIn True.intro e (λz=>nomatch z) h
 |str y=>obtain⟨t,q⟩:=(show ∃t,u=Value.str y t from rx); cases q; exact U5 W.kitx_str I.kIn True.intro e (λz=>nomatch z) h
 |flt y=>obtain⟨t,q⟩:=(show ∃t,u=Value.float y t from rx); cases q; exact U5 W.kitx_float I.kIn True.intro e (λz=>nomatch z) h
 | @lst a xs ea =>
  cases(show u=Value.ref a from rx);obtain⟨_,_,n,_,h1⟩:=(show ObjOk X.prog X.w H s.heap a (.lst xs) from I.hok a _ ea);exact U5 W.kitx_list I.kIn ⟨_,h1,rfl⟩ e (λz=>nomatch z) h
 | @frz a ob xs ea =>
  cases(show u=Value.ref a from rx);obtain⟨_,_,_,n,_,h1⟩:=(show ObjOk X.prog X.w H s.heap a (.frz ob (.lst xs)) from I.hok a _ ea);exact U5 W.kitx_list I.kIn ⟨_,h1,rfl⟩ e (λz=>nomatch z) h
 | @tup a xs ea =>
  cases(show u=Value.ref a from rx);obtain⟨_,_,_,p⟩:=(show ObjOk X.prog X.w H s.heap a (.tup xs) from I.hok a _ ea);obtain⟨o,h1,h2,_⟩:=p;exact U5 W.kitx_tuple I.kIn ⟨o,h1,h2⟩ e (λz=>nomatch z) h
 | @dK a kvs ea =>
  cases(show u=Value.ref a from rx);obtain⟨_,_,vs,_,p⟩:=(show ObjOk X.prog X.w H s.heap a (.dK kvs) from I.hok a _ ea);obtain⟨o,es,ep,h1,h2,_⟩:=p;exact U5 W.kitx_dict I.kIn ⟨o,h1,h2.1⟩ e (λz=>nomatch z) h
 | @dT a kvs ea =>
  cases(show u=Value.ref a from rx);obtain⟨_,_,xs,_,o,es,ep,h1,h2,_⟩:=(show ObjOk X.prog X.w H s.heap a (.dT kvs) from I.hok a _ ea);exact U5 W.kitx_dict I.kIn ⟨o,h1,h2.1⟩ e (λz=>nomatch z) h
 | @ins a C dx fs ea cl ha hn htk hm =>
  cases(show u=Value.ref a from rx);obtain⟨mA,O,_⟩:=VQ I.hok ea;obtain⟨od,J,_⟩:=O.look;exact U5 (W.kitx_own (cl.get _) cl.hd ha hn htk hm) I.kIn J e (λz=>nomatch z) h
end
structure Room(k:Nat)(A:Around):Prop where
 hd:A.handled=none
 dp:A.depth+3*k+5<recursionLimit
 un:A.units+16*k+200<cLine
 gd:A.guards=some []
theorem Room.mono(r:Room k A)(h:j<=k):Room j A:=⟨r.hd,by have:=r.dp; lia,by have:=r.un; lia,r.gd⟩
theorem Room.deeper(r:Room (k+1) A)(env:Env):Room k (A.deeper env) :=
 ⟨r.hd,by have:=r.dp; show A.depth+1+3*k+5<_; lia,by have:=r.un; show A.units+3+16*k+200<_; lia,r.gd⟩
theorem K6{A:Around}:(A.under (.builtin "type.__call__" ⟨.ref C::us,kw⟩)).depth=A.depth+1:=by
 first|rfl|simp[Around.under,Code.weight,Code.isCreation,Code.isGuard,Code.isCaller,Code.frames,Code.isFrame,guardIds]
theorem K5{A:Around}:(A.under (.builtin "type.__call__" ⟨.ref C::us,kw⟩)).units=A.units+1:=by
 first|rfl|simp[Around.under,Code.cUnits,Code.frames,Code.isFrame]
theorem make_guards{A:Around}:(A.under (.builtin "type.__call__" ⟨.ref C::us,kw⟩)).guards=A.guards:=by
 first|rfl|simp[Around.under,Code.guards,Code.isGuard,guardIds,pushGuards]
theorem Room.make(r:Room (k+1) A)(C:Addr)(us:List Value)(kw:List (Str×Value)):Room k (A.under (.builtin "type.__call__" ⟨.ref C::us,kw⟩)) :=
 ⟨r.hd,by have:=r.dp; rw[K6]; lia,by have:=r.un; rw[K5]; lia,make_guards.trans r.gd⟩
theorem Room.depth(r:Room k A):A.depth<recursionLimit:=by have:=r.dp; lia
theorem Room.units(r:Room k A):A.units+64<cLine:=by have:=r.un; lia
def tNil:TA:=λ_ H Q=>Q [] H
def zS(ta:TE)(tr:TA):TA:=λσ H Q=>ta σ H λx H1=>tr σ H1 λxs H2=>Q (x::xs) H2
section
theorem pa_nil:PA X [] tNil:=λ_ _ _ _ H Q I h=>Calls.spliced_nil ⟨[],H,I, .nil,h⟩
theorem pa_cons(ha:PE X e te)(hr:PA X es t)(hs:starEach (e::es) X.env=(false,eval e X.env)::starEach es X.env:=by rfl):PA X (e::es) (zS te t):=by
 intro pos pins s σ H Q I h;rw[hs];show wpAny _ _ (spliced ((false,eval e X.env)::backTo pos (starEach es X.env))) _ _ s;refine Calls.spliced_cons (thn (ha pins s σ H _ I h) λu s1 ⟨x,H1,I1,r1,q1⟩=>?_);exact thn (hr pos pins s1 σ H1 _ I1 q1) λus s2 ⟨xs,H2,I2,r2,q2⟩=>⟨x::xs,H2,I2, .cons r1 r2,q2⟩
def tTup(t:TA):TE:=λσ H Q=>t σ H λxs H1=>xs.length<=sizeLine/\∀p,H1 p=none->Q (.ref p) (upd H1 p (.tup xs))
def tLst(t:TA):TE:=λσ H Q=>t σ H λxs H1=>xs.length<=sizeLine/\∀p,H1 p=none->Q (.ref p) (upd H1 p (.lst xs))
end
abbrev Sp:=List V->Hp->VK->XK->Prop
abbrev CXT:=List Env->Hp->Shared->XK->Value->Shared->Prop
structure Env0(P:Program)(w:World)(Ξ:PySem.W.Frag)(mg:Str->Option Value)(base:Heap)(A:Around)(outer:List Env)(s:Shared)(H:Hp):Prop where
 frames:A.frames=some outer
 mod:Mod Ξ mg base
 bs:∀b o,base.get? b=some o->s.heap.get? b=some o/\H b=none
 bsz:base.objs.size<=s.heap.objs.size
 funs:s.heap.FunFrames base outer
 frf:∀b∈frs outer,H b=none
 hok:HOk P w H s.heap
 bare:AllBare s.gens
def CE(outer:List Env)(P:Program)(w:World)(H:Hp)(s:Shared)(Q:VK)(u:Value)(s':Shared):Prop :=
 ∃v H',s'.os=s.os/\AllBare s'.gens/\Un (frs outer) [] H H' s.heap s'.heap/\HOk P w H' s'.heap/\RelV v u/\Q v H'
def CR(CX:CXT)(outer:List Env)(P:Program)(w:World)(H:Hp)(s:Shared)(Q:VK)(E:XK)(r:Result)(s':Shared):Prop :=
 match r with
 |.ok (.ret u)=>CE outer P w H s Q u s'
 |.ok _=>False
 |.error e=>CX outer H s E e s'
structure FnOk(P:Program)(w:World)(Ξ:PySem.W.Frag)(mg:Str->Option Value)(base:Heap)(CX:CXT)(k:Nat)(f:Addr)(fd:FuncData)(ps:List Str)(sp:Sp):Prop where
 len:∀vs H Q E,sp vs H Q E->vs.length=ps.length
 run:∀(A:Around)(outer:List Env)(s:Shared)(H:Hp)(args:Args)(us:List Value)(vs:List V)(Q:VK)(E:XK),Room k A->Env0 P w Ξ mg base A outer s H->BindsTo s fd args (ps.zip us)->Vals vs us->sp vs H Q E ->
  codeAny (model P w) A (.call (.ref f) args) (CR CX outer P w H s Q E) s
theorem FnOk.mono(F:FnOk P w Ξ mg base CX j f fd ps sp)(h:j<=k) :
  FnOk P w Ξ mg base CX k f fd ps sp:=⟨F.len,λA outer s H args us vs Q E hr=>F.run A outer s H args us vs Q E (hr.mono h)⟩
theorem FnOk.imp(F:FnOk P w Ξ mg base CX k f fd ps sp)(h:∀vs H Q E,sp' vs H Q E->sp vs H Q E):FnOk P w Ξ mg base CX k f fd ps sp' :=
 ⟨λvs H Q E q=>F.len vs H Q E (h _ _ _ _ q),λA outer s H args us vs Q E hr he hb hv hs=>F.run A outer s H args us vs Q E hr he hb hv (h _ _ _ _ hs)⟩
theorem Env0.make(e:Env0 P w Ξ mg base A outer s H)(C:Addr)(us:List Value)(kw:List (Str×Value)) :
  Env0 P w Ξ mg base (A.under (.builtin "type.__call__" ⟨.ref C::us,kw⟩)) outer s H:=⟨by first|exact e.frames|(simpa[Around.under,Code.envs,Code.isFrame,pushEnvs] using e.frames),e.mod,e.bs,e.bsz,e.funs,e.frf,e.hok,e.bare⟩
section
theorem Inv.env0(I:Inv X pins σ H s):Env0 X.prog X.w X.K X.mg X.base X.A X.stack s H :=
 ⟨I.ok.frames,I.ok.mod,I.bs,UC I.ok.bsz I.sz,I.stack,I.stkFree,I.hok,I.bare⟩
theorem Inv.after(I:Inv X pins σ H s)(h:CE X.stack X.prog X.w H s Q u s'):EP X pins σ Q u s':=by
 obtain⟨v,H',os,bare,un,hok,r,q⟩:=h;obtain⟨hh,g,d,t,os'⟩:=s';obtain rfl:os'=s.os:=os;exact⟨v,H',I.call (h':=hh) (g':=g) (d':=d) (t':=t) (ch:=[]) un hok bare (λb z=>absurd z (by simp)),r,q⟩
end
def zT(sp:Sp)(dvs:List V)(E:XK)(t:TA):TE:=λσ H Q=>t σ H λvs H1=>sp (vs++dvs) H1 Q E
def XA(C:Addr)(m:Str)(sp:Sp)(dvs:List V)(E:XK)(ta:TE)(t:TA):TE:=λσ H Q=>ta σ H λx H1=>∃a dx fs,x=.ref a/\H1 a=some (.ins C dx fs)/\fs.lookup m=none /\
 t σ H1 λvs H2=>sp (x::(vs++dvs)) H2 Q E
def tMake(C:Addr)(sp:Sp)(dvs:List V)(E:XK)(t:TA):TE:=λσ H Q=>t σ H λvs H1=>∀x dx,H1 x=none->H1 dx=none->dx≠x ->
 sp (.ref x::(vs++dvs)) (upd (upd H1 dx (.own x)) x (.ins C dx [])) (λv H2=>v=.non/\Q (.ref x) H2) E
def Binds(Ξ:PySem.W.Frag)(fd:FuncData)(ps:List Str)(ds:List Value):Prop :=
 ∀(s:Shared)(us:List Value),Ξ.In s.heap->(us++ds).length=ps.length->BindsTo s fd ⟨us, []⟩ (ps.zip (us++ds))
theorem Binds.all(h:∀us:List Value,us.length=ps.length->bindArgs fd ⟨us, []⟩=pure (ps.zip us)):Binds Ξ fd ps []:=λs us _ hl=>by
 rw[UR] at hl ⊢;exact .of_eq (h us hl)
def QL(CX:CXT)(X:Cx)(E:XK):Prop:=∀(pins:List (Addr×Obj))(σ:St)(H:Hp)(s:Shared)(e:Value)(s':Shared),Inv X pins σ H s->CX X.stack H s E e s'->X.xe e s'
section
variable {X:Cx} {CX:CXT} {k:Nat} {f C:Addr} {fd:FuncData} {ps:List Str} {sp:Sp} {dvs:List V} {ds:List Value} {E:XK} {x m:Str} {p pos apos:Pos} {e o:Expr} {es:List Expr} {ta:TE} {t:TA}
theorem YX(F:FnOk X.prog X.w X.K X.mg X.base CX k f fd ps sp)(hr:Room k X.A)(hb:Binds X.K fd ps ds)(hd:Vals dvs ds)(hx:QL CX X E)(I:Inv X pins σ H s)(r:Vals vs us)(h:sp (vs++dvs) H Q E):wpAny (model X.prog X.w) X.A (call (.ref f) us) (EP X pins σ Q) X.xe s:=by
 have r2:Vals (vs++dvs) (us++ds):=r.append hd;have hl:(us++ds).length=ps.length:=by rw[<-r2.length]; exact F.len _ _ _ _ h
 refine wpAny_call (codeAny_mono (F.run X.A X.stack s H ⟨us, []⟩ (us++ds) (vs++dvs) Q E hr I.env0 (hb s us I.kIn hl) r2 h) λr s' hq=>?_);cases r with
 |error e=>exact hx pins σ H s e s' I hq
 |ok fl =>
  cases fl with
  |ret u=>exact I.after hq
  |next=>exact False.elim hq
  |brk=>exact False.elim hq
  |cont=>exact False.elim hq
theorem pe_call(F:FnOk X.prog X.w X.K X.mg X.base CX k f fd ps sp)(hr:Room k X.A)(hg:Gl X x)(hm:X.mg x=some (.ref f))(hk:W.keepIn X.K (.ref f)=true)(hb:Binds X.K fd ps ds)(hd:Vals dvs ds)(hx:QL CX X E)(ha:PA X (e::es) t)(hdb:(x==("__debug__" : Str))=false:=by decide)(he:starEach (e::es) X.env=(false,eval e X.env)::starEach es X.env:=by rfl)(hpl:(backTo pos (starEach es X.env)).any (·.1)=false:=by rfl) :
  PE X (.Call (.Name x p) (e::es) [] pos) (zT sp dvs E t):=by
 intro pins s σ H Q I h;refine wpAny_Call_Name_kw (zt I hg hm ?_ hdb);refine Dx (h₀:=X.base) I.ok.mod.kin hk (thn (ha pos pins s σ H _ I h) λus s1 ⟨vs,H1,I1,r,q⟩=>⟨I1.kIn, ?_⟩) he hpl;exact YX F hr hb hd hx I1 r q
theorem pe_meth(he:PE X o ta)(c:Cls X.K C)(hm:Meth X.K C m f)(F:FnOk X.prog X.w X.K X.mg X.base CX k f fd ps sp)(hr:Room k X.A)(hb:Binds X.K fd ps ds)(hd:Vals dvs ds)(hx:QL CX X E)(ha:PA X (e::es) t)(hst:starEach (e::es) X.env=(false,eval e X.env)::starEach es X.env:=by rfl)(hpl:(backTo pos (starEach es X.env)).any (·.1)=false:=by rfl)(ht:eval (.Call (.Attribute o m apos) (e::es) [] pos) X.env=(do
   let ov <-eval o X.env
   standAt apos.atName;let(f,first) <-holding [ov] (getMethod ov m pl)
   callWith pos f first (backTo pos (starEach (e::es) X.env)) (backToKw pos (keywordEach [] X.env))):=by rfl) :
  PE X (.Call (.Attribute o m apos) (e::es) [] pos) (XA C m sp dvs E ta t):=by
 intro pins s σ H Q I h;refine Dl (pl:=pl) (thn (he pins s σ H _ I h) λu s1 ⟨x,H1,I1,rx,a,dx,fs,ex,ea,l,q⟩=>?_) ht;subst ex;obtain rfl:u=Value.ref a:=rx;refine xx I1 ea c hm l ?_;refine Dx (first:=[.ref a]) (h₀:=X.base) I.ok.mod.kin hm.kp (thn (ha pos pins s1 σ H1 _ I1 q) λus s2 ⟨vs,H2,I2,r,q2⟩=>⟨I2.kIn, ?_⟩) hst hpl;exact YX (us:=.ref a::us) (vs:=.ref a::vs) F hr hb hd hx I2 (.cons rfl r) q2
theorem pe_meth0(he:PE X o ta)(c:Cls X.K C)(hm:Meth X.K C m f)(F:FnOk X.prog X.w X.K X.mg X.base CX k f fd ps sp)(hr:Room k X.A)(hb:Binds X.K fd ps ds)(hd:Vals dvs ds)(hx:QL CX X E)(ht:eval (.Call (.Attribute o m apos) [] [] pos) X.env=(do
   let ov <-eval o X.env
   standAt apos.atName;let(f,first) <-holding [ov] (getMethod ov m pl)
   callWith pos f first (backTo pos (starEach [] X.env)) (backToKw pos (keywordEach [] X.env))):=by rfl) :
  PE X (.Call (.Attribute o m apos) [] [] pos) (XA C m sp dvs E ta tNil):=by
 intro pins s σ H Q I h;refine Dl (pl:=pl) (thn (he pins s σ H _ I h) λu s1 ⟨x,H1,I1,rx,a,dx,fs,ex,ea,l,q⟩=>?_) ht;subst ex;obtain rfl:u=Value.ref a:=rx;refine xx I1 ea c hm l ?_;exact W.callWith_K0 (first:=[.ref a]) I1.kIn hm.kp (YX (us:=[.ref a]) (vs:=[.ref a]) F hr hb hd hx I1 (.cons rfl .nil) q)
structure Mk(Ξ:PySem.W.Frag)(C f:Addr):Prop where
 makes:W.makesIn Ξ C=true
 init:W.findIn Ξ (.ref C) "__init__" = some (some (.ref f))
 fn:W.isFn Ξ (.ref f)=true
 kp:W.keepIn Ξ (.ref C)=true
theorem run_make(M:Mk X.K C f)(F:FnOk X.prog X.w X.K X.mg X.base CX k f fd ps sp)(hr:Room (k+1) X.A)(hb:Binds X.K fd ps ds)(hd:Vals dvs ds)(hx:QL CX X E)(I:Inv X pins σ H s)(r:Vals vs us)(h:∀x dx,H x=none->H dx=none->dx≠x->sp (.ref x::(vs++dvs)) (upd (upd H dx (.own x)) x (.ins C dx [])) (λv H2=>v=.non/\Q (.ref x) H2) E) :
  wpAny (model X.prog X.w) X.A (call (.ref C) us) (EP X pins σ Q) X.xe s:=by
 have hq:=h (s.heap.objs.size+1) s.heap.objs.size (I.hok.fresh (R4 _)) (I.hok.fresh (Uk _)) (UF (Nat.lt_succ_self _));have I2:=Inv.made (C:=C) I;have r2:Vals (V.ref (s.heap.objs.size+1)::(vs++dvs)) (Value.ref (s.heap.objs.size+1)::(us++ds)):=.cons rfl (r.append hd);have hl:(Value.ref (s.heap.objs.size+1)::us++ds).length=ps.length:=by
  have e:=r2.length;rw[F.len _ _ _ _ hq] at e;exact e.symm
 refine wpAny_call (make_map (f:=f) I.kIn M.makes M.init (beq_iff_eq.mp M.fn) (codeAny_mono (F.run _ X.stack _ _ ⟨Value.ref (s.heap.objs.size+1)::us, []⟩ (Value.ref (s.heap.objs.size+1)::(us++ds)) _ _ E (hr.make C us [])
  (I2.env0.make C us []) (hb _ (Value.ref (s.heap.objs.size+1)::us) I2.kIn hl) r2 hq) λr s' hq'=>?_))
 cases r with
 |error e=>exact hx pins σ _ _ e s' I2 hq'
 |ok fl =>
  cases fl with
  |ret u =>
   obtain⟨v,H',I3,rv,ev,q3⟩:=I2.after hq';subst ev;exact⟨rv,⟨V.ref (s.heap.objs.size+1),H',I3,rfl,q3⟩⟩
  |next=>exact False.elim hq'
  |brk=>exact False.elim hq'
  |cont=>exact False.elim hq'
theorem pe_make(M:Mk X.K C f)(F:FnOk X.prog X.w X.K X.mg X.base CX k f fd ps sp)(hr:Room (k+1) X.A)(hg:Gl X x)(hm:X.mg x=some (.ref C))(hb:Binds X.K fd ps ds)(hd:Vals dvs ds)(hx:QL CX X E)(ha:PA X (e::es) t)(hdb:(x==("__debug__" : Str))=false:=by decide)(he:starEach (e::es) X.env=(false,eval e X.env)::starEach es X.env:=by rfl)(hpl:(backTo pos (starEach es X.env)).any (·.1)=false:=by rfl) :
  PE X (.Call (.Name x p) (e::es) [] pos) (tMake C sp dvs E t):=by
 intro pins s σ H Q I h;refine wpAny_Call_Name_kw (zt I hg hm ?_ hdb);refine Dx (h₀:=X.base) I.ok.mod.kin M.kp (thn (ha pos pins s σ H _ I h) λus s1 ⟨vs,H1,I1,r,q⟩=>⟨I1.kIn, ?_⟩) he hpl;exact run_make M F hr hb hd hx I1 r q
end
structure FnScope(N P:List Str)(sc:Scope):Prop where
 kind:sc.kind=.function
 co:sc.isCoroutine=false
 gen:sc.isGenerator=false
 nd:N.Nodup
 pre:N.take P.length=P
 par:∀x∈P,sc.names.lookup x=some .local\/sc.names.lookup x=some .cell
 nofree:∀y∈sc.names,y.2 ≠ .free
theorem Xj{kindOf:Str->Option NameKind}:∀{binds:List (Str×Value)}{m:Str->Option Value},(∀v,(x,v)∉binds)->bindL kindOf binds m x=m x
 | [],_,_=>rfl
 | (n,v)::r,m,h=>by
  unfold bindL;rw[Xj λw hw=>h w (UP _ hw)];split
  ·have:x≠n:=by rintro rfl; exact h v UN
   simp[this]
  ·rfl
theorem Xl{kindOf:Str->Option NameKind}:∀{binds:List (Str×Value)}{m:Str->Option Value},(∀v,(x,v)∉binds)->bindC kindOf binds m x=m x
 | [],_,_=>rfl
 | (n,v)::r,m,h=>by
  unfold bindC;rw[Xl λw hw=>h w (UP _ hw)];split
  ·rfl
  ·have:x≠n:=by rintro rfl; exact h v UN
   simp[this]
theorem Xk{kindOf:Str->Option NameKind}:∀{P:List Str}{vs:List Value}{i:Nat}{m:Str->Option Value},P.Nodup->P[i]?=some x->vs[i]?=some v->kindOf x=some .local ->
  bindL kindOf (P.zip vs) m x=some v
 | [],_,_,_,_,h,_,_=>by simp at h
 |_::_, [],_,_,_,_,h,_=>by simp at h
 |p::P,w::vs,0,m,nd,h1,h2,hk=>by
  simp at h1 h2; subst h1; subst h2;show bindL kindOf ((p,w)::P.zip vs) m p=_;unfold bindL;rw[Xj λv hv=>(Dc.mp nd).1 (RA hv).1,if_pos hk];simp
 |p::P,w::vs,i+1,m,nd,h1,h2,hk=>by
  show bindL kindOf ((p,w)::P.zip vs) m x=_;unfold bindL;exact Xk (i:=i) (Dc.mp nd).2 (by simpa using h1) (by simpa using h2) hk
theorem Xm{kindOf:Str->Option NameKind}:∀{P:List Str}{vs:List Value}{i:Nat}{m:Str->Option Value},P.Nodup->P[i]?=some x->vs[i]?=some v->kindOf x≠some .local ->
  bindC kindOf (P.zip vs) m x=some v
 | [],_,_,_,_,h,_,_=>by simp at h
 |_::_, [],_,_,_,_,h,_=>by simp at h
 |p::P,w::vs,0,m,nd,h1,h2,hk=>by
  simp at h1 h2; subst h1; subst h2;show bindC kindOf ((p,w)::P.zip vs) m p=_;unfold bindC;rw[Xl λv hv=>(Dc.mp nd).1 (RA hv).1,if_neg hk];simp
 |p::P,w::vs,i+1,m,nd,h1,h2,hk=>by
  show bindC kindOf ((p,w)::P.zip vs) m x=_;unfold bindC;exact Xm (i:=i) (Dc.mp nd).2 (by simpa using h1) (by simpa using h2) hk
def start(N:List Str)(vs:List V):St:=vs.map some++List.replicate (N.length-vs.length) none
def cxOf(CX:CXT)(P:Program)(w:World)(Ξ:PySem.W.Frag)(mg:Str->Option Value)(base:Heap)(N:List Str)(qual:Str)(scope:Scope)(f:Addr)(cd:Value)(A:Around)(outer:List Env)(s:Shared)(H:Hp)(E:XK):Cx where
 prog:=P
 w:=w
 K:=Ξ
 mg:=mg
 base:=base
 A:=A.deeper (envOfC qual scope s.heap.objs.size f cd)
 N:=N
 s₀:=s
 H₀:=H
 env:=envOfC qual scope s.heap.objs.size f cd
 outer:=outer
 stack:=envOfC qual scope s.heap.objs.size f cd::outer
 ex:=[]
 calm:=true
 fn:=λ_=>true
 pn:=[]
 xe:=λe s'=>wpAny (model P w) (A.deeper (envOfC qual scope s.heap.objs.size f cd)) (leaving (envOfC qual scope s.heap.objs.size f cd) e) (λ_ s''=>CX outer H s E e s'') (λe' s''=>CX outer H s E e' s'') s'
theorem Kz{sc:Scope}(h:sc.names.lookup x=some .cell):∃c,(cellsFrom n sc.names []).lookup x=some c:=by
 have q:=Rw sc.names n [] (.inl h);exact Option.isSome_iff_exists.mp q
theorem Gs(S:FnScope N ps scope)(hd:A.handled=none)(e0:Env0 P w Ξ mg base A outer s H)(hl:vs.length=ps.length)(r:Vals vs us)(x:InCallC s s.heap.objs.size (bindL (envOfC qual scope s.heap.objs.size f cd).kindOf (ps.zip us) λ_=>none) (cellsFrom (s.heap.objs.size+1) scope.names []) (bindC (envOfC qual scope s.heap.objs.size f cd).kindOf (ps.zip us) λ_=>none) s1) :
  Inv (cxOf CX P w Ξ mg base N qual scope f cd A outer s H E) [] (start N vs) H s1:=by
 have hpl:ps.length<=N.length:=by have:=congrArg List.length S.pre; rw[UZ] at this; lia
 obtain⟨h1,tk,rfl,hk⟩:=x.done;have noA:∀b:Addr,b∉(cxOf CX P w Ξ mg base N qual scope f cd A outer s H E).ex:=λb z=>absurd (show b∈([]:List Addr) from z) (by simp);refine⟨⟨e0.mod,S.kind,rfl,rfl,Uk _,λy z c h1 h2=>?_,λy hy=>?_,λy c _ h=>?_,λ_=>hd,Around.frames_deeper e0.frames, .inr ⟨rfl,rfl⟩,λb z=>absurd z (noA b),e0.bs,e0.bsz,λb _ _=>noA b,λb z=>absurd z (noA b),e0.funs,e0.frf⟩,
  rfl,e0.bare,Un.kept hk,⟨_,x.toInCall.ns,λi y v h1 h2 h3=>?_⟩,λy c h=>⟨_,x.cell y c h⟩,e0.hok.fresh (Uk _),λy c h=>?_,λp hp=>absurd (show p∈([]:List (Addr×Obj)) from hp) (by simp),e0.hok.kept hk, ?_⟩
 ·exact name_of_addr x.apart (PySem.mem_of_lookup h1) (PySem.mem_of_lookup h2)
 ·have hy:scope.names.lookup y=some .cell\/scope.names.lookup y=some .free:=hy
  rcases hy with hy|hy
  ·exact Kz hy
  ·exact absurd rfl (S.nofree _ (PySem.mem_of_lookup hy))
 ·exact U1 (x.above y c (PySem.mem_of_lookup h))
 ·have hi:i<vs.length:=by
   unfold start at h2;by_cases hi:i<vs.length
   ·exact hi
   ·rw[Uq (by simpa using hi)] at h2
    rw[DP] at h2;split at h2<;>cases h2
  have ha:vs[i]?=some v:=by
   unfold start at h2;rw[Ui (by simpa using hi),Uv] at h2;cases e:vs[i]? with
   |none=>rw[e] at h2; cases h2
   |some a=>rw[e] at h2; cases h2; rfl
  obtain⟨u,hu,rv⟩:=r.get ha;have hp:ps[i]?=some y:=by
   rw[<-S.pre,Rg (by lia)]; exact h1
  have ndP:ps.Nodup:=by rw[<-S.pre]; exact S.nd.sublist (List.take_sublist _ _)
  refine⟨u,rv, ?_⟩;rcases S.par y (Uh hp) with k|k
  ·exact .inl ⟨k,Xk ndP hp hu k⟩
  ·obtain⟨c,e⟩:=Kz (n:=s.heap.objs.size+1) k
   refine .inr ⟨.inl k,c,e, ?_⟩;have q:=x.cell y c e;rw[Xm ndP hp hu (by show scope.names.lookup y≠_; rw[k]; decide)] at q;exact q
 ·exact e0.hok.fresh (U1 (x.above y c (PySem.mem_of_lookup h)))
 ·unfold start
  show _=N.length;rw[Uj,Ug,RB];lia
theorem fn_of{dV kV doc pm cdv ct oc:Value}(lk:Ξ.lookup f=some ⟨oc,od, .func (W.fnOf name qual params body scope dV kV doc pm an cdv ct),osl⟩)(hcd:W.codeIn Ξ cdv qual=true)(S:FnScope N ps scope)(len:∀vs H Q E,sp vs H Q E->vs.length=ps.length)(hbody:∀(A:Around)(outer:List Env)(s:Shared)(H:Hp)(vs:List V)(Q:VK)(E:XK),Room k (A.deeper (envOfC qual scope s.heap.objs.size f cdv))->sp vs H Q E ->
   ∃t,PSs (cxOf CX P w Ξ mg base N qual scope f cdv A outer s H E) body t/\t { nx:=λ_ H'=>Q .non H',rt:=Q } (start N vs) H) :
  FnOk P w Ξ mg base CX (k+1) f (W.fnOf name qual params body scope dV kV doc pm an cdv ct) ps sp:=by
 refine⟨len,λA outer s H args us vs Q E hr e0 hb r hsp=>?_⟩;have hl:=len _ _ _ _ hsp;have KX:Ξ.In s.heap:=e0.mod.kin.keeps λb o e=>(e0.bs b o e).1;have lim:s.heap.NoLimit:=e0.mod.nolimit.keeps λb o e=>(e0.bs b o e).1;have hkind:∀y∈ps.zip us,scope.names.lookup y.1=some .local\/(scope.names.lookup y.1=some .cell/\((cellsFrom (s.heap.objs.size+1) scope.names []).lookup y.1).isSome=true):=λ⟨n,v⟩ hy=>by
  rcases S.par n (RA hy).1 with q|q
  ·exact .inl q
  ·exact .inr ⟨q,Rw _ _ _ (.inl q)⟩
 refine codeAny_call_function hr.depth (KX _ _ lk) rfl S.co S.gen rfl (W.codeRec_of KX hcd) (hb _ _ _ _ ?_);refine wpAny_newFunctionEnv_cells S.kind hkind λenv he s1 x=>?_;subst he;refine⟨lim.keeps x.toInCall.keep,codeAny_func ?_⟩;obtain⟨t,ht,hq⟩:=hbody A outer s H vs Q E (hr.deeper _) hsp;have I:Inv (cxOf CX P w Ξ mg base N qual scope f cdv A outer s H E) [] (start N vs) H s1:=Gs S hr.hd e0 hl r x;refine wpAny_mono (ht [] s1 (start N vs) H _ I hq) (λfl s' hs=>?_) λe s' hs=>hs;have fin:∀{σ':St}{H':Hp}{v:V}{u:Value},Inv (cxOf CX P w Ξ mg base N qual scope f cdv A outer s H E) [] σ' H' s'->RelV v u->Q v H'->CE outer P w H s Q u s' :=
  λ{σ' H' v u} J rv q=>⟨v,H',J.os,J.bare,J.base,J.hok,rv,q⟩
 cases fl with
 |ret u =>
  obtain⟨v,σ',H',J,rv,q⟩:=hs;exact fin J rv q
 |next =>
  obtain⟨σ',H',J,q⟩:=hs;exact fin (v:=V.non) (u:=Value.none) J rfl q
 |brk =>
  obtain⟨_,_,_,q⟩:=hs;exact False.elim q
 |cont =>
  obtain⟨_,_,_,q⟩:=hs;exact False.elim q
section
variable {X:Cx} {x:Str} {p pos:Pos} {e:Expr} {es:List Expr} {t:TA} {id T:String} {r:List V->Hp->VK->Prop}
def tCB(r:List V->Hp->VK->Prop)(t:TA):TE:=λσ H Q=>t σ H λvs H1=>r vs H1 Q
end
end L2
namespace HT
open PySem PyProof.Rows
section
def sIx(n d:Nat):Option Int->Nat
 |none=>d
 |some v=>if v<0 then(v+(n:Int)).toNat else min v.toNat n
theorem sIx_nat(n d k:Nat):sIx n d (some (k:Int))=min k n:=by
 show(if(k:Int)<0 then((k:Int)+(n:Int)).toNat else min (k:Int).toNat n)=min k n;rw[if_neg (by lia),DV]
end
end HT
namespace L2
open PySem PySem.Spec PyProof.Rows
abbrev TO:=St->Hp->(Option Int->Hp->Prop)->Prop
def PO(X:Cx)(e:Option Expr)(t:TO):Prop :=
 ∀(pins:List (Addr×Obj))(s:Shared)(σ:St)(H:Hp)(Q:Option Int->Hp->Prop),Inv X pins σ H s->t σ H Q ->
  wpAny (model X.prog X.w) X.A (evalPart e X.env) (λu s'=>∃o H',Inv X pins σ H' s'/\IsPart u o/\Q o H') X.xe s
def zR:TO:=λ_ H Q=>Q none H
def Zm(t:TE):TO:=λσ H Q=>t σ H λx H1=>∃i,x=.int i/\Q (some i) H1
theorem Yb:∀{us:List Value},Vals (ns.map V.int) us->IntsAre us ns:=by
 induction ns with
 |nil=>intro us r; rw[Dy] at r; cases r; exact .nil
 |cons n ns ih =>
  intro us r;rw[Uy] at r;cases r with
  |cons r1 r2 =>
   obtain⟨t,e⟩:=r1;subst e;exact .cons n t (ih r2)
section
theorem po_none:PO X none zR:=by
 intro pins s σ H Q I h;rw[evalPart_none];exact wpAny_pure ⟨none,H,I, .none,h⟩
def SlR(X:Cx)(r:V->Option Int->Option Int->Hp->VK->Prop):Prop :=
 ∀(pins:List (Addr×Obj))(s:Shared)(σ:St)(H:Hp)(x:V)(v vl vu:Value)(lo hi:Option Int)(sl:Addr)(Q:VK),Inv X pins σ H s->RelV x v->s.heap.IsSliceOf sl vl vu .none->IsPart vl lo->IsPart vu hi->r x lo hi H Q ->
  ∃T id,typeLookup (.type T) "__getitem__" = pure (some (.builtin id))/\s.TypeIs v T/\wpAny (model X.prog X.w) X.A (getItem v (.ref sl)) (EP X pins σ Q) X.xe s
def tSl(r:V->Option Int->Option Int->Hp->VK->Prop)(te:TE)(tl th:TO):TE:=λσ H Q=>te σ H λx H1=>tl σ H1 λl H2=>th σ H2 λu H3=>r x l u H3 Q
def cutV(xs:List V)(lo hi:Option Int):List V:=(xs.drop (HT.sIx xs.length 0 lo)).take (HT.sIx xs.length xs.length hi-HT.sIx xs.length 0 lo)
theorem JC(xs:List V)(lo hi:Option Int):(cutV xs lo hi).length<=xs.length:=by
 unfold cutV;rw[UZ,Dv];lia
end
def ixN(n:Nat)(i:Int):Option Nat:=if 0<=i then(if i<n then some i.toNat else none) else if -(n:Int)<=i then some (i+n).toNat else none
def atI{α:Type}(xs:List α)(i:Int):Option α:=(ixN xs.length i).bind λj=>xs[j]?
theorem Gp(h:ixN n i=some j):seqIndex? i n=some j/\j<n /\ -(n:Int)<=i/\i<n:=by
 unfold ixN at h;by_cases h0:0<=i
 ·rw[if_pos h0] at h
  by_cases h1:i<n
  ·rw[if_pos h1] at h
   have e:i.toNat=j:=Option.some.inj h;exact⟨by rw[seqIndex_of h0 h1,e],by lia,by lia,h1⟩
  ·rw[if_neg h1] at h; cases h
 ·rw[if_neg h0] at h
  by_cases h1 : -(n:Int)<=i
  ·rw[if_pos h1] at h
   have e:(i+n).toNat=j:=Option.some.inj h;exact⟨by rw[seqIndex_neg (by lia) h1,e],by lia,h1,by lia⟩
  ·rw[if_neg h1] at h; cases h
theorem qap{α:Type}{xs:List α}{i:Int}{v:α}(h:atI xs i=some v):∃j,seqIndex? i xs.length=some j/\xs[j]?=some v/\j<xs.length /\ -(xs.length:Int)<=i/\i<xs.length:=by
 unfold atI at h;cases e:ixN xs.length i with
 |none=>rw[e] at h; cases h
 |some j =>
  rw[e] at h;obtain⟨h1,h2,h3,h4⟩:=Gp e;exact⟨j,h1,h,h2,h3,h4⟩
theorem j4{α:Type}{xs:List α}{j:Nat}{v:α}(h:xs[j]?=some v):atI xs (j:Int)=some v:=by
 have hj:j<xs.length:=(Ue.mp h).1;have e:ixN xs.length (j:Int)=some j:=by
  unfold ixN;rw[if_pos (by lia),if_pos (by lia)]; simp
 unfold atI; rw[e]; exact h
def qar(b:Expr):Prop:=∀o i,subscripted b false o i=operate [o,i] (getItem o i)
def IxR(X:Cx)(r:R2):Prop :=
 ∀(value slice:Expr)(pins:List (Addr×Obj))(s:Shared)(σ:St)(H:Hp)(x y:V)(v u:Value)(Q:VK),Inv X pins σ H s->RelV x v->RelV y u->r x y H Q ->
  subscripted slice false v u=operate [v,u] (getItem v u)->wpAny (model X.prog X.w) X.A (subscriptTail value slice v u) (EP X pins σ Q) X.xe s
def MtR(X:Cx)(id:String)(r:V->List V->Hp->VK->Prop):Prop :=
 ∀(pins:List (Addr×Obj))(s:Shared)(σ:St)(H:Hp)(x:V)(xs:List V)(v:Value)(us:List Value)(Q:VK),Inv X pins σ H s->RelV x v->Vals xs us->r x xs H Q ->
  wpAny (model X.prog X.w) X.A (call (.builtin id) (v::us)) (EP X pins σ Q) X.xe s
section
def rIxL(Ξ:PySem.W.Frag):R2:=λx y H Q=>∃p xs i v,x=.ref p/\y=.int i/\SqL Ξ H p xs/\atI xs i=some v/\Q v H
def rIxT(Ξ:PySem.W.Frag):R2:=λx y H Q=>∃p xs i v,x=.ref p/\y=.int i/\SqT Ξ H p xs/\atI xs i=some v/\Q v H
theorem ix_list:IxR X (rIxL X.K):=by
 intro value slice pins s σ H x y v u Q I rx ry h hs;obtain⟨p,xs,i,z,rfl,rfl,hq,he,q⟩:=h;cases rx;obtain⟨t,rfl⟩:=ry;obtain⟨its,r,pl,hz⟩:=I.list hq;obtain⟨j,h1,h2,h3,h4,h5⟩:=qap he;obtain⟨w,ew,rw'⟩:=r.get h2;have hl:=r.length;have hn:=ZV;have fin:EP X pins σ Q w s:=⟨z,H,I,rw',q⟩;by_cases h0:0<=i
 ·have hj:i.toNat=j:=by
   rw[seqIndex_of h0 h5] at h1;exact Option.some.inj h1
  exact item_listR pl.isList h0 (by lia) (by rw[hj]; simpa using ew) fin hs
 ·have hj:(i+(its.toArray.size:Int)).toNat=j:=by
   rw[seqIndex_neg (by lia) h4] at h1;rw[Uo, <-hl];exact Option.some.inj h1
  exact subscriptTail_builtinR (x:=w) pl.isList.typeIs slot_list_getitem.lookup
   (wpAny_getItem_list_neg (Q:=λr s'=>r=w/\EP X pins σ Q r s') pl.isList (by lia) (by rw[Uo]<;>lia) (by lia) (by rw[hj]; simpa using ew) ⟨rfl,fin⟩) hs
theorem ix_tup:IxR X (rIxT X.K):=by
 intro value slice pins s σ H x y v u Q I rx ry h hs;obtain⟨p,xs,i,z,rfl,rfl,hq,he,q⟩:=h;cases rx;obtain⟨t,rfl⟩:=ry;obtain⟨its,r,pl,hz⟩:=I.tuple hq;obtain⟨j,h1,h2,h3,h4,h5⟩:=qap he;obtain⟨w,ew,rw'⟩:=r.get h2;have hl:=r.length;have hn:=ZV;have fin:EP X pins σ Q w s:=⟨z,H,I,rw',q⟩;exact subscriptTail_builtinR (x:=w) pl.typeIs slot_tuple_getitem.lookup
  (getItem_tuple (j:=j) (Q:=λr s'=>r=w/\EP X pins σ Q r s') pl (by lia) (by lia) (by rw[Uo, <-hl]; exact h1) (by simpa using ew) ⟨rfl,fin⟩) hs
theorem K4(its:List Value)(n j:Nat)(u:Value):Obj.mapSeq (·.setIfInBounds j u) { cls:=.type "list", data:=.seq its.toArray n }={ cls:=.type "list", data:=.seq (its.set j u).toArray n }:=by
 simp[Obj.mapSeq]
theorem Inv.lst(I:Inv X pins σ H s)(h:H p=some (.lst xs)) :
  ∃(its:List Value)(n:Nat),Vals xs its/\s.heap.get? p=some { cls:=.type "list", data:=.seq its.toArray n }/\xs.length<=sizeLine:=by
 obtain⟨z,its,n,r,e⟩:=I.hok p _ h;exact⟨its,n,r,e,z⟩
theorem Inv.lstUpd{its its':List Value}(I:Inv X pins σ H s)(h:H p=some (.lst xs))(ho:s.heap.get? p=some { cls:=.type "list", data:=.seq its.toArray n })(hf:f { cls:=.type "list", data:=.seq its.toArray n }={ cls:=.type "list", data:=.seq its'.toArray n' })(r:Vals ys its')(hz:ys.length<=sizeLine)(t:Nat) :
  Inv X pins σ (upd H p (.lst ys)) { s with heap:=s.heap.update p f,toks:=t }:=by
 have e:(s.heap.update p f).get? p=some { cls:=.type "list", data:=.seq its'.toArray n' }:=by
  rw[Heap.get?_update_self f ho (by rw[hf]<;>rfl),hf]
 refine I.write (x:=p) (e:=p) (by rw[h]; trivial) (.inl rfl) (λb u hb q=>(Heap.get?_update_other _ _ (Ne.symm hb)).trans q) ⟨_,e⟩ ?_;exact⟨hz,its',n',r,e⟩
def rSetL:V->V->V->Hp->(Hp->Prop)->Prop:=λo i v H Q=>∃p xs k j,o=.ref p/\i=.int k/\H p=some (.lst xs)/\ixN xs.length k=some j/\Q (upd H p (.lst (xs.set j v)))
theorem vK:PSet X rSetL:=by
 intro pins s σ H o i v ov iv u Q I ro ri rv h;obtain⟨p,xs,k,j,rfl,rfl,hp,hj,q⟩:=h;cases ro;obtain⟨t,rfl⟩:=ri;obtain⟨its,n,r,ho,hz⟩:=I.lst hp;obtain⟨h1,h2,h3,h4⟩:=Gp hj;have hl:=r.length;have hn:=ZV;have I':Inv X pins σ (upd H p (.lst (xs.set j v))) { s with heap:=s.heap.update p (Obj.mapSeq (·.setIfInBounds j u)) } :=
  I.lstUpd hp ho (K4 its n j u) (r.set rv j) (by rw[Ut]; exact hz) s.toks
 by_cases h0:0<=k
 ·have hk:k.toNat=j:=by
   rw[seqIndex_of h0 h4] at h1;exact Option.some.inj h1
  exact W.ki_setAt ho h0 (by lia) (by rw[Uo, <-hl]; exact h4) (by rw[hk]; exact⟨_,I',q⟩)
 ·have hk:(k+(its.toArray.size:Int)).toNat=j:=by
   rw[seqIndex_neg (by lia) h3] at h1;rw[Uo, <-hl];exact Option.some.inj h1
  exact W.ki_setBack ho (by lia) (by rw[Uo, <-hl]; exact h3) (by lia) (by rw[hk]; exact⟨_,I',q⟩)
theorem Zq(lo hi:Option Int)(n:Nat):(sliceBounds lo hi none n).1=((HT.sIx n 0 lo:Nat):Int)/\(sliceBounds lo hi none n).2.1=((HT.sIx n n hi:Nat):Int)/\(sliceBounds lo hi none n).2.2=1:=by
 refine⟨?_, ?_,rfl⟩
 ·cases lo with
  |none=>simp[sliceBounds,HT.sIx]
  |some i =>
   simp only[sliceBounds,HT.sIx,Option.getD_none,show(1:Int)>0 by decide,if_true];by_cases h:i<0
   ·simp only[h,if_true]<;>lia
   ·simp only[h,if_false]<;>lia
 ·cases hi with
  |none=>simp[sliceBounds,HT.sIx]
  |some i =>
   simp only[sliceBounds,HT.sIx,Option.getD_none,show(1:Int)>0 by decide,if_true];by_cases h:i<0
   ·simp only[h,if_true]<;>lia
   ·simp only[h,if_false]<;>lia
theorem Vi(its:List Value)(lo hi:Option Int):slicePick its.toArray lo hi none=((its.drop (HT.sIx its.length 0 lo)).take (HT.sIx its.length its.length hi-HT.sIx its.length 0 lo)).toArray:=by
 obtain⟨h1,h2,h3⟩:=Zq lo hi its.toArray.size;unfold slicePick;rw[h1,h2,h3];simp only[sliceRange_one,pick_run,Uo]<;>rfl
def rSlL(Ξ:PySem.W.Frag):V->Option Int->Option Int->Hp->VK->Prop:=λx lo hi H Q=>∃a xs,x=.ref a/\SqL Ξ H a xs/\∀p,H p=none->Q (.ref p) (upd H p (.lst (cutV xs lo hi)))
theorem sl_list:SlR X (rSlL X.K):=by
 intro pins s σ H x v vl vu lo hi sl Q I rx hs pl pu h;obtain⟨a,xs,rfl,hx,q⟩:=h;cases rx;obtain⟨its,r,ht,hz⟩:=I.list hx;have hlen:=r.length;refine⟨"list", _,slot_list_getitem.lookup,ht.isList.typeIs, ?_⟩;refine wpAny_getItem_list_slice ht.isList hs pl pu .none (by simp) ?_ (by rw[Uo]<;>lia);rw[Vi, <-hlen];refine⟨.ref s.heap.objs.size,_,I.laid (t':=s.toks) (o:=.lst (cutV xs lo hi)) (λb ob q=>Heap.get?_push_of_some _ q) (Uk _) ?_,rfl,q _ (I.hok.fresh (Uk _))⟩;exact⟨UC (JC xs lo hi) hz,_,0,(r.drop (HT.sIx xs.length 0 lo)).take (HT.sIx xs.length xs.length hi-HT.sIx xs.length 0 lo),Heap.get?_push_size _ rfl⟩
def ke:V->Bool
 |.non=>true
 |.bl _=>true
 |.int _=>true
 |.str _=>true
 |_=>false
def eqV:V->V->Bool
 |.non, .non=>true
 |.bl a, .bl b=>a==b
 |.bl a, .int b=>(if a then 1 else 0)==b
 |.int a, .bl b=>a==(if b then 1 else 0)
 |.int a, .int b=>a==b
 |.str a, .str b=>a==b
 |_,_=>false
theorem Z8(ry:RelV y u)(rx:RelV x v)(fy:ke y=true)(fx:ke x=true):SeqAt.EqAt A s u v (eqV y x):=by
 cases y with
 |non =>
  cases ry;cases x with
  |non=>cases rx; exact SeqAt.EqAt.same _
  |bl b=>cases rx; exact SeqAt.EqAt.none_bool b
  |int b=>obtain⟨t,rfl⟩:=rx; exact SeqAt.EqAt.none_int b t
  |str b=>obtain⟨t,rfl⟩:=rx; exact SeqAt.EqAt.none_str b t
  |_=>exact absurd (show false=true from fx) Ur
 |bl a =>
  cases ry;cases x with
  |non=>cases rx; exact SeqAt.EqAt.bool_none a
  |bl b=>cases rx; exact SeqAt.EqAt.bool_bool a b
  |int b=>obtain⟨t,rfl⟩:=rx; exact SeqAt.EqAt.bool_int a b t
  |str b=>obtain⟨t,rfl⟩:=rx; exact SeqAt.EqAt.bool_str a b t
  |_=>exact absurd (show false=true from fx) Ur
 |int a =>
  obtain⟨t',rfl⟩:=ry;cases x with
  |non=>cases rx; exact SeqAt.EqAt.int_none a t'
  |bl b=>cases rx; exact SeqAt.EqAt.int_bool a t' b
  |int b=>obtain⟨t,rfl⟩:=rx; exact SeqAt.EqAt.int_int a t' b t
  |str b=>obtain⟨t,rfl⟩:=rx; exact SeqAt.EqAt.int_str a t' b t
  |_=>exact absurd (show false=true from fx) Ur
 |str a =>
  obtain⟨t',rfl⟩:=ry;cases x with
  |non=>cases rx; exact SeqAt.EqAt.str_none a t'
  |bl b=>cases rx; exact SeqAt.EqAt.str_bool a t' b
  |int b=>obtain⟨t,rfl⟩:=rx; exact SeqAt.EqAt.str_int a t' b t
  |str b=>obtain⟨t,rfl⟩:=rx; exact SeqAt.EqAt.str_str a t' b t
  |_=>exact absurd (show false=true from fx) Ur
 |_=>exact absurd (show false=true from fy) Ur
def eqU(x:V)(u:Value):Bool:=match u with
 |.none=>eqV .non x
 |.bool b=>eqV (.bl b) x
 |.int i _=>eqV (.int i) x
 |.str z _=>eqV (.str z) x
 |_=>false
theorem eqU_of(r:RelV y u)(f:ke y=true):eqU x u=eqV y x:=by
 cases y with
 |non=>cases r; rfl
 |bl b=>cases r; rfl
 |int i=>obtain⟨t,rfl⟩:=r; rfl
 |str z=>obtain⟨t,rfl⟩:=r; rfl
 |_=>exact absurd (show false=true from f) Ur
theorem JG:∀{xs:List V}{us:List Value},Vals xs us->xs.all ke=true->us.any (eqU x)=xs.any λy=>eqV y x
 |_,_, .nil,_=>rfl
 |y::xs,u::us, .cons r t,f=>by
  rw[Rp,Dw] at f;rw[Dr,Dr,eqU_of r f.1,JG t f.2]
theorem VO(rx:RelV x v)(fx:ke x=true):∀{xs:List V}{us:List Value},Vals xs us->xs.all ke=true->∀u∈us,SeqAt.EqAt A s u v (eqU x u)
 |_,_, .nil,_=>λu hu=>by cases hu
 |y::xs,u::us, .cons r t,f=>λu' hu=>by
  rw[Rp,Dw] at f;rcases Up.mp hu with rfl|hu
  ·rw[eqU_of r f.1]; exact Z8 r rx f.1 fx
  ·exact VO rx fx t f.2 u' hu
def inV(x:V)(xs:List V):Bool:=xs.any λy=>eqV y x
def rIn(Ξ:PySem.W.Frag)(neg:Bool):R2:=λx y H Q=>∃p xs,y=.ref p/\(SqL Ξ H p xs\/SqT Ξ H p xs)/\ke x=true/\xs.all ke=true/\Q (.bl (if neg then !inV x xs else inV x xs)) H
theorem WA:OpR X (compareOp .In) (rIn X.K false):=by
 intro pins s σ H x y v u Q I rx ry h;obtain⟨p,xs,rfl,hq,fx,fs,q⟩:=h;cases ry;rcases hq with hq|hq
 ·obtain⟨its,r,pl,hz⟩:=I.list hq
  refine SeqAt.in_listAt (eqU x) pl.isList (λw hw=>VO rx fx r fs w (by simpa using hw)) ⟨.bl _,H,I,rfl, ?_⟩;rw[show its.toArray.any (eqU x)=its.any (eqU x) by simp,JG r fs];exact q
 ·obtain⟨its,r,pl,hz⟩:=I.tuple hq
  refine SeqAt.in_tupleAt (eqU x) pl (λw hw=>VO rx fx r fs w (by simpa using hw)) ⟨.bl _,H,I,rfl, ?_⟩;rw[show its.toArray.any (eqU x)=its.any (eqU x) by simp,JG r fs];exact q
theorem j9:xG X (.builtin "len") (λxs H Q=>∃p ys,xs=[.ref p]/\(SqL X.K H p ys\/SqT X.K H p ys)/\Q (.int ys.length) H):=by
 intro pins s σ H xs us Q I r h;obtain⟨p,ys,rfl,hq,q⟩:=h;obtain⟨u,rfl,rx⟩:=Xr r;cases rx;have hn:=ZV;rcases hq with hq|hq
 ·obtain⟨its,r',pl,hz⟩:=I.list hq
  have hlen:=r'.length;exact Calls.call_len_list pl.isList (by simp only[Uo]<;>lia) ⟨.int ys.length,H,I.tok _,⟨s.toks+1,by rw[Uo,hlen]⟩,q⟩
 ·obtain⟨its,r',pl,hz⟩:=I.tuple hq
  have hlen:=r'.length;exact len_tuple pl (by simp only[Uo]<;>lia) ⟨.int ys.length,H,I.tok _,⟨s.toks+1,by rw[Uo,hlen]⟩,q⟩
theorem vJ:xG X (.type "list") (λxs H Q=>∃p ys,xs=[.ref p]/\(SqL X.K H p ys\/SqT X.K H p ys)/\∀l,H l=none->Q (.ref l) (upd H l (.lst ys))):=by
 intro pins s σ H xs us Q I r h;obtain⟨p,ys,rfl,hq,q⟩:=h;obtain⟨u,rfl,rx⟩:=Xr r;cases rx;have fin:∀(its:List Value),Vals ys its->ys.length<=sizeLine->∀(h':Heap)(c':Nat),(∀b o',s.heap.get? b=some o'->h'.get? b=some o') ->
   h'.get? s.heap.objs.size=some { cls:=.type "list", dict:=none,data:=.seq its.toArray c',slots:=#[] }->EP X pins σ Q (.ref s.heap.objs.size) { s with heap:=h' }:=λits r' hz h' c' kp e =>
  ⟨.ref s.heap.objs.size,_,I.laid (t':=s.toks) kp (Uk _) (show ObjOk X.prog X.w _ h' _ (.lst ys) from⟨hz,its,c',r',e⟩),rfl,q _ (I.hok.fresh (Uk _))⟩
 rcases hq with hq|hq
 ·obtain⟨its,r',pl,hz⟩:=I.list hq
  have hlen:=r'.length;obtain⟨o,ho,hc,n,hd⟩:=pl.isList;exact call_list_seq p (.inl rfl) ho hc hd (λh' c' kp e=>fin its r' hz h' c' kp e) (by simp only[Uo]<;>lia)
 ·obtain⟨its,r',pl,hz⟩:=I.tuple hq
  have hlen:=r'.length;obtain⟨o,ho,hc,n,hd⟩:=pl;exact call_list_seq p (.inr rfl) ho hc hd (λh' c' kp e=>fin its r' hz h' c' kp e) (by simp only[Uo]<;>lia)
def tyV(Ξ:PySem.W.Frag)(T:String)(x:V)(H:Hp):Prop:=match x with
 |.str _=>T = "str"
 |.int _=>T = "int"
 |.ref p=>(T = "list" /\ ∃xs,SqL Ξ H p xs)\/(T = "tuple" /\ ∃o,Ξ.lookup p=some o/\o.cls=.type "tuple" /\ o.dict=none) \/
   (T = "dict" /\ ((∃kvs,H p=some (.dK kvs))\/∃kvs,H p=some (.dT kvs)))\/(T = "set" /\ ∃S n,H p=some (.set S n))
 |_=>False
theorem Yx{T:String}(I:Inv X pins σ H s)(r:RelV x v)(ty:tyV X.K T x H) :
  s.TypeIs v T/\∀a,v=.ref a->∃ob,s.heap.get? a=some ob/\ob.dict=none:=by
 cases x with
 |str z =>
  obtain⟨t,rfl⟩:=r;cases(show T = "str" from ty);exact⟨typeIs_str s z t,λ_ e=>nomatch e⟩
 |int i =>
  obtain⟨t,rfl⟩:=r;cases(show T = "int" from ty);exact⟨typeIs_int s i t,λ_ e=>nomatch e⟩
 |ref p =>
  cases r;rcases ty with⟨rfl,xs,hq⟩|⟨rfl,o,hk,hc,hd⟩|⟨rfl,hk⟩|⟨rfl,S,n,hk⟩
  ·obtain⟨its,_,pl,_⟩:=I.list hq
   refine⟨pl.isList.typeIs,λa e=>?_⟩;cases e;obtain⟨o,n,e,c,hd,_⟩:=pl;exact⟨o,e,hd⟩
  ·refine⟨⟨o,I.kIn p o hk,hc⟩,λa e=>?_⟩
   cases e;exact⟨o,I.kIn _ o hk,hd⟩
  ·have z:∃o,s.heap.get? p=some o/\o.ExactDict:=by
    rcases hk with⟨kvs,hk⟩|⟨kvs,hk⟩
    ·obtain⟨_,_,_,_,o,_,_,e,ex,_⟩:=I.hok p _ hk
     exact⟨o,e,ex⟩
    ·obtain⟨_,_,_,_,o,_,_,e,ex,_⟩:=I.hok p _ hk
     exact⟨o,e,ex⟩
   obtain⟨o,e,ex⟩:=z;refine⟨⟨o,e,ex.1⟩,λa e2=>?_⟩;cases e2;exact⟨o,e,ex.2.1⟩
  ·obtain⟨o,_,_,_,e,ex,_⟩:=I.hok p _ hk
   refine⟨⟨o,e,ex.1⟩,λa e2=>?_⟩;cases e2;exact⟨o,e,ex.2.1⟩
 |_=>exact False.elim ty
def tBM0(Ξ:PySem.W.Frag)(T:String)(r:V->List V->Hp->VK->Prop)(to:TE):TE:=λσ H Q=>to σ H λx H1=>tyV Ξ T x H1/\r x [] H1 Q
def tBM(Ξ:PySem.W.Frag)(T:String)(r:V->List V->Hp->VK->Prop)(to:TE)(t:TA):TE:=λσ H Q=>to σ H λx H1=>tyV Ξ T x H1/\t σ H1 λxs H2=>r x xs H2 Q
variable {o e:Expr} {es:List Expr} {to:TE} {t:TA} {name:Str} {apos cpos:Pos} {T id:String} {r:V->List V->Hp->VK->Prop}
end
def MtM(X:Cx)(id:String)(r:V->List V->Hp->VK->Prop):Prop :=
 ∀(pins:List (Addr×Obj))(s:Shared)(σ:St)(H:Hp)(x:V)(xs:List V)(v:Value)(us:List Value)(Q:VK),Inv X pins σ H s->RelV x v->Vals xs us->r x xs H Q ->
  wpAny (model X.prog X.w) X.A (call (.builtin id) (v::us)) (EP X pins σ Q) X.xe s
theorem Vals.one:∀{x:V}{us:List Value},Vals [x] us->∃u,us=[u]/\RelV x u
 |_,_, .cons r .nil=>⟨_,rfl,r⟩
theorem Vals.two:∀{x y:V}{us:List Value},Vals [x,y] us->∃u v,us=[u,v]/\RelV x u/\RelV y v
 |_,_,_, .cons r (.cons q .nil)=>⟨_,_,rfl,r,q⟩
theorem Vals.zero:∀{us:List Value},Vals [] us->us=[]
 |_, .nil=>rfl
theorem Vals.dropLast(h:Vals xs us):Vals xs.dropLast us.dropLast:=by
 induction h with
 |nil=>exact .nil
 |cons r t ih =>
  cases t with
  |nil=>exact .nil
  |cons q t'=>exact .cons r ih
theorem Vals.eraseIdx:∀{xs:List V}{us:List Value}(i:Nat),Vals xs us->Vals (xs.eraseIdx i) (us.eraseIdx i)
 |_,_,_, .nil=>.nil
 |_,_,0, .cons _ t=>t
 |_,_,i+1, .cons r t=>.cons r (Vals.eraseIdx i t)
theorem Vals.rep(h:Vals xs us):∀k:Nat,Vals (List.replicate k xs).flatten (List.replicate k us).flatten
 |0=>.nil
 |k+1=>by
  rw[Db,Db,Do,Do];exact Vals.append h (Vals.rep h k)
theorem Ye{α:Type}(l:List α):l.eraseIdx (l.length-1)=l.dropLast:=by
 induction l with
 |nil=>rfl
 |cons a r ih =>
  cases r with
  |nil=>rfl
  |cons b r =>
   have e:(a::b::r).length-1=((b::r).length-1)+1:=by
    have h1:(a::b::r).length=r.length+2:=rfl;have h2:(b::r).length=r.length+1:=rfl;lia
   rw[e,DQ,ih]
   all_goals rfl
theorem ZW{α:Type}:∀(l:List α)(i:Nat),(l.eraseIdx i).length<=l.length
 | [],_=>Uk _
 |_::_,0=>R4 _
 |_::r,i+1=>Rs (ZW r i)
theorem Z6(its:List Value):∀(k:Nat)(acc:List Value),
  List.foldl (λx1 x2=>x1++x2) acc.toArray (List.replicate k its.toArray)=(acc++(List.replicate k its).flatten).toArray
 |0,acc=>by simp
 |k+1,acc=>by
  have e:acc.toArray++its.toArray=(acc++its).toArray:=by simp
  have e2:(acc++its)++(List.replicate k its).flatten=acc++(List.replicate (k+1) its).flatten:=by
   rw[Db,Do,UL]
  rw[<-e2, <-Z6 its k (acc++its), <-e,Db,RC]
section
theorem Inv.lset{its its':List Value}(I:Inv X pins σ H s)(hH:H l=some (.lst xs))(e:s.heap.get? l=some { cls:=.type "list", data:=.seq its.toArray n })(hf:f its.toArray=its'.toArray)(hv:Vals ys its')(hz:ys.length<=sizeLine) :
  Inv X pins σ (upd H l (.lst ys)) { s with heap:=s.heap.update l (Obj.mapSeq f),toks:=t' }:=by
 have q:=PySem.IsL.update e f;rw[hf] at q;refine I.write (x:=l) (e:=l) (by rw[hH]; exact trivial) (.inl rfl) (λb' u hb hu=>(Heap.get?_update_other s.heap (Obj.mapSeq f) (Ne.symm hb)).trans hu) ⟨_,q⟩ ?_;exact⟨hz,its',_,hv,q⟩
theorem Inv.lnew(I:Inv X pins σ H s)(hv:Vals ys its)(hz:ys.length<=sizeLine) :
  Inv X pins σ (upd H s.heap.objs.size (.lst ys)) { s with heap:=s.heap.push { cls:=.type "list", data:=.seq its.toArray },toks:=t' } :=
 I.laid (λ_ _ q=>Heap.get?_push_of_some _ q) (Uk _) ⟨hz,its,0,hv,Heap.get?_push_size _ rfl⟩
theorem Inv.fresh(I:Inv X pins σ H s):H s.heap.objs.size=none:=I.hok.fresh (Uk _)
theorem Inv.lstM(I:Inv X pins σ H s)(hH:H l=some (.lst xs)):xs.length<=sizeLine/\∃(its:List Value)(n:Nat),Vals xs its/\xs.length=its.length/\s.heap.get? l=some { cls:=.type "list", data:=.seq its.toArray n }:=by
 obtain⟨z,its,n,r,e⟩:=I.hok l _ hH;exact⟨z,its,n,r,r.length,e⟩
theorem J7(h:n<=sizeLine):Builtin.List.listTooLong n=false:=by
 unfold Builtin.List.listTooLong;exact decide_eq_false (by lia)
end
section
def Y8:V->List V->Hp->VK->Prop:=λx vs H Q=>∃l xs y,x=.ref l/\vs=[y]/\H l=some (.lst xs)/\xs.length<sizeLine/\Q .non (upd H l (.lst (xs++[y])))
theorem zm:MtM X "list.append" Y8:=by
 intro pins s σ H x vs v us Q I rx rv h;obtain⟨l,xs,y,rfl,rfl,hH,hz,q⟩:=h;cases rx;obtain⟨u,rfl,ru⟩:=rv.one;obtain⟨z,its,n,r,hl,e⟩:=I.lstM hH;refine call_meets F.slot_list_append ⟨_,e,rfl⟩ F.entry_list_append (F.args_list_append_2 _ _) (PySem.list_append l its.toArray n u (by rw[Uo]; lia)) ⟨e, ?_⟩;refine⟨.non,_,I.lset (its':=its++[u]) hH e (by simp) (r.append (.cons ru .nil)) ?_,rfl,q⟩;rw[Uj,Dd];lia
def Y7:V->List V->Hp->VK->Prop:=λx vs H Q=>∃l b xs zs,x=.ref l/\vs=[.ref b]/\H l=some (.lst xs)/\H b=some (.lst zs)/\xs.length+zs.length<=sizeLine/\Q .non (upd H l (.lst (xs++zs)))
theorem Qk:MtM X "list.extend" Y7:=by
 intro pins s σ H x vs v us Q I rx rv h;obtain⟨l,b,xs,zs,rfl,rfl,hH,hB,hz,q⟩:=h;cases rx;obtain⟨u,rfl,ru⟩:=rv.one;cases ru;obtain⟨z,its,n,r,hl,e⟩:=I.lstM hH;obtain⟨z2,its2,n2,r2,hl2,e2⟩:=I.lstM hB;have hsz:its.toArray.size+its2.toArray.size<=sizeLine:=by rw[Uo,Uo]; lia
 have hlong:¬(!its.toArray.isEmpty&&Builtin.List.listTooLong (its.toArray.size+its2.toArray.size))=true:=by
  rw[J7 hsz,Bool.and_false];exact Ur
 refine call_meets F.slot_list_extend ⟨_,e,rfl⟩ F.entry_list_extend (F.args_list_extend_2 _ _)
  (AutoSeq1.list_extend_list_list_0 l its.toArray n b its2.toArray n2 hlong (by rw[Uo]; lia) (by lia)) ⟨e,e2, ?_⟩
 refine⟨.non,_,I.lset (its':=its++its2) hH e (by simp) (r.append r2) ?_,rfl,q⟩;rw[Uj];lia
def rPop:V->List V->Hp->VK->Prop:=λx vs H Q=>∃l xs y,x=.ref l/\vs=[]/\H l=some (.lst xs)/\xs[xs.length-1]?=some y/\Q y (upd H l (.lst xs.dropLast))
theorem mt_pop:MtM X "list.pop" rPop:=by
 intro pins s σ H x vs v us Q I rx rv h;obtain⟨l,xs,y,rfl,rfl,hH,hy,q⟩:=h;cases rx;have hus:=rv.zero;subst hus;obtain⟨z,its,n,r,hl,e⟩:=I.lstM hH;obtain⟨u,hu,ru⟩:=r.get hy;have hy':its.toArray[its.toArray.size-1]?=some u:=by
  show its.toArray[its.length-1]?=some u;rw[<-Array.getElem?_toList, <-hl];exact hu
 refine call_meets F.slot_list_pop ⟨_,e,rfl⟩ F.entry_list_pop (F.args_list_pop_1 _) (MeetsSeq.list_pop_last l its.toArray n u hy' (by rw[Uo]; lia)) ⟨e, ?_⟩;refine⟨y,_,I.lset (its':=its.dropLast) hH e ?_ r.dropLast ?_,ru,q⟩
 ·show its.toArray.eraseIdxIfInBounds (its.toArray.size-1)=its.dropLast.toArray
  rw[Uo,List.eraseIdxIfInBounds_toArray,Ye]
 ·rw[RV]
  lia
def rCat:R2:=λx y H Q=>∃l b xs zs,x=.ref l/\y=.ref b/\H l=some (.lst xs)/\H b=some (.lst zs)/\xs.length+zs.length<=sizeLine/\∀p,H p=none->Q (.ref p) (upd H p (.lst (xs++zs)))
theorem jn:OpR X (binaryOp .Add) rCat:=by
 intro pins s σ H x y v u Q I rx ry h;obtain⟨l,b,xs,zs,rfl,rfl,hH,hB,hz,q⟩:=h;cases rx;cases ry;obtain⟨z,its,n,r,hl,e⟩:=I.lstM hH;obtain⟨z2,its2,n2,r2,hl2,e2⟩:=I.lstM hB;refine PySem.P.add_list e e2 ?_ (by rw[Uo,Uo]; lia);have ea:its.toArray++its2.toArray=(its++its2).toArray:=by simp
 rw[ea];exact⟨.ref _,_,I.lnew (t':=s.toks) (r.append r2) (by rw[Uj]; lia),rfl,q _ I.fresh⟩
def rRep:R2:=λx y H Q=>∃l k xs,x=.ref l/\y=.int k/\H l=some (.lst xs) /\ -(2^63)<=k/\k<2^63/\xs.length*k.toNat<=sizeLine /\
 ∀p,H p=none->Q (.ref p) (upd H p (.lst (List.replicate k.toNat xs).flatten))
theorem len_rep{α:Type}(xs:List α)(k:Nat):(List.replicate k xs).flatten.length=k*xs.length:=by
 induction k with
 |zero=>simp
 |succ k ih=>rw[Db,Do,Uj,ih,Nat.succ_mul,RD]
theorem op_rep:OpR X (binaryOp .Mult) rRep:=by
 intro pins s σ H x y v u Q I rx ry h;obtain⟨l,k,xs,rfl,rfl,hH,h1,h2,hz,q⟩:=h;cases rx;obtain⟨t,rfl⟩:=ry;obtain⟨z,its,n,r,hl,e⟩:=I.lstM hH;have hlen:its.toArray.size*k.toNat<=sizeLine:=by rw[Uo, <-hl]; exact hz
 have hcap:¬its.toArray.size*k.toNat>(2^63-1) / 8:=by
  have:(sizeLine:Nat)<=(2^63-1) / 8:=by decide
  lia
 have hfit:¬(!Builtin.List.listFitsIndex k)=true:=by
  rw[fitsIndex_both h1 h2];exact Ur
 have hlong:¬Builtin.List.listTooLong (its.toArray.size*k.toNat)=true:=by
  rw[J7 hlen];exact Ur
 have hnew:List.foldl (λx1 x2=>x1++x2) #[] (List.replicate (if its.toArray.isEmpty=true then 0 else k.toNat) its.toArray)=(List.replicate k.toNat its).flatten.toArray:=by
  have f0:∀m:Nat,List.foldl (λx1 x2=>x1++x2) #[] (List.replicate m its.toArray)=(List.replicate m its).flatten.toArray:=λm=>by
   have:=Z6 its m [];rw[Dj] at this;exact this
  rw[f0];cases its with
  |nil=>simp
  |cons a r'=>rw[if_neg (by simp)]
 refine wpAny_binaryOp_repeat_ref (T := "list") (U := "int") (by decide) ⟨_,e,rfl⟩ (λs'=>typeIs_int s' k t) noFill_list_mul F.fills_int_mul F.slot_int_rmul repeat_list F.slot_int_index.lookup
  (call_meets F.slot_int_rmul (typeIs_int s k t) F.entry_int_rmul (F.args_int_rmul_2 _ _) (int___rmul___int_list k t l its.toArray n)
   ⟨e,rfl,⟨_,e,rfl⟩,call_meets F.slot_list_mul ⟨_,e,rfl⟩ F.entry_list_mul (F.args_list_mul_2 _ _) (AutoListH.list___mul___list_int_3 l its.toArray n k t hfit hcap hlong) ⟨e, ?_⟩⟩)
 rw[hnew];exact⟨.ref _,_,I.lnew (t':=s.toks) (r.rep k.toNat) (by rw[len_rep,Nat.mul_comm]; exact hz),rfl,q _ I.fresh⟩
end
end L2
namespace Att
open PySem PySem.W PySem.Calls PyProof.Rows
theorem Qv:∀(ns:List Int)(vs:List Value),WellAll P h vs (ns.map WData.int)->IntsAre vs ns:=by
 intro ns
 induction ns with
 |nil =>
  intro vs w;rw[Dy] at w;cases w;exact .nil
 |cons n ns ih =>
  intro vs w;rw[Uy] at w;cases w with
  |cons a b =>
   cases a;exact .cons _ _ (ih _ b)
theorem YL{l:OpenLaw}(hn:l.most=some n)(hpre:l.row.toRowW.claim.pre args=true)(hwl:WellAll P h vals args) :
  ∃a vs ns,vals=[Value.ref a]/\args=[WData.list (ns.map WData.int)]/\h.get? a=some { cls:=.type "list", data:=.seq vs.toArray }/\IntsAre vs ns/\ns.length<=n:=by
 have hsh:WShape.hasAll [] args [.list .int]=true:=(pre_splitW hpre).1;have hc:l.pre.holds [] { args:=args }=true:=(pre_splitW hpre).2;obtain⟨d,r,rfl,h1,h2⟩:=hasAllW_cons hsh;obtain rfl:=hasAllW_nil h2;obtain⟨xs,rfl,h3⟩:=hasW_list h1;obtain⟨ns,rfl⟩:=items_int h3;have hlen:ns.length<=n:=by
  unfold OpenLaw.pre at hc;have h4:(WTm.not (.lt (.lit (.int (n:Int))) (.len (.arg 0)))).holds [] { args:=[.list (ns.map .int)] }=true:=by
   have h4:=(holds_andW hc).1;rw[hn] at h4;exact h4
  have h5:=condW_of h4 (w_not (w_lt w_lit (w_len_list (w_arg rfl))));rw[Ug] at h5;refine Nat.le_of_not_lt λq=>?_;have q':(n:Int)<((ns.length:Nat):Int):=by lia
  first
   | (rw[decide_eq_true q'] at h5; exact absurd h5 (by decide))
   | (simp at h5; lia)
 cases hwl with
 |cons w1 w2 =>
  cases w2;cases w1 with
  |list ho hall=>exact⟨_,_,ns,rfl,rfl,ho,Qv ns _ hall,hlen⟩
theorem Wo(l:OpenLaw)(args:List WData):l.row.toRowW.claim.post args (.bool true) args=true :=
 postW_of (r:=l.row.toRowW) (X:=(true==true))
  (show WShape.has [] (.bool true) .bool=true by first|rfl|decide|simp[WShape.has,WShape.arms,WShape.armsAll])
  (show(WTm.eq .res (.lit (.bool true))).value [] { args:=args,res:=some (.bool true),after:=args }=some (.bool (true==true)) from w_eq_bool (w_res rfl) w_lit) rfl
theorem attach_call{l:OpenLaw}(hn:l.most=some n)(hdf:d.params.defaults=[])(call:∀(w:World)(s₀ s₁:Shared)(mg mb:Str->Option Value)(fa:Addr)(o:Obj)(pm cd doc:Value)(a:Addr)(vs:List Value)(ns:List Int),
   Ground q loose [] XP w s₀ mg mb s₁.heap->YP w s₁.heap ->
   s₁.heap.get? fa=some o->o.data=.func (docDef d.name d.params d.body d.scope pm cd doc)->s₁.heap.CodeRec cd d.name->mg d.name=some (.ref fa) ->
   s₁.heap.get? a=some { cls:=.type "list", data:=.seq vs.toArray }->IntsAre vs ns->ns.length<=n->s₁.gens=#[] ->
   codeAny (model l.prog w) callerA (.call (.ref fa) ⟨[.ref a], []⟩) (λr s'=>r=.ok (.ret (.bool true))/\OldK s₁.heap s'.heap/\s'.os=s₁.os/\AllBare s'.gens) s₁) :
  WalkO q loose XP YP l.row.toRowW d [] (λf vs=>PySem.call f vs):=by
 intro w s₀ s₁ mg mb G Y fa o pm cd doc dV kV ho hd hcd hD hmg hg args vals as hpre hlay hrd hwl hlo;obtain rfl:dV=.none:=Dflts.none hD hdf;obtain rfl:kV=.none:=Dflts.noKw hD;obtain⟨a,vs,ns,rfl,rfl,hobj,hints,hlen⟩:=YL hn hpre hwl;refine enter_call (codeAny_mono (call w s₀ s₁ mg mb fa o pm cd doc a vs ns G Y ho (fd_plain hd) hcd hmg hobj hints hlen hg) λr s' hq=>?_);obtain⟨rfl,h2,h3,h4⟩:=hq;exact⟨.inl ⟨.bool true, .bool true, [],rfl,λ_=>rfl, .bool true,Wo l _,λ_=>⟨List.Pairwise.nil,λ_ hm=>(nomatch hm)⟩⟩,h2,h3,h4⟩
end Att
namespace L2
open PySem PySem.Spec PyProof.Rows
theorem Zg:∀{vs:List Value}{ns:List Int},IntsAre vs ns->Vals (ns.map V.int) vs
 |_,_, .nil=>.nil
 |_,_, .cons n t h=>.cons ⟨t,rfl⟩ (Zg h)
def Only(H:Hp):Prop:=∀b,H b=none\/∃o xs,H b=some (.frz o (.lst xs))
theorem law_call(KX:Ξ.In s₁.heap)(hns:s₁.heap.Ns mainGlobals mg)(hb:s₁.heap.Ns builtinsNs mb)(hbb:∀x:Str,x ≠ "__name__" -> mb x=bootBuiltins x)(hlim:s₁.heap.NoLimit)(hg:s₁.gens=#[])(ha:s₁.heap.get? a=some { cls:=.type "list", data:=.seq vs.toArray })(hi:IntsAre vs ns)(hl:ns.length<=sizeLine)(hr:Room k callerA)(F:∀base:Heap,Ξ.In base->base.Ns mainGlobals mg->FnOk P w Ξ mg base CX k fa fd [x] sp)(hbind:∀(s:Shared)(u:Value),BindsTo s fd ⟨[u], []⟩ [(x,u)])(hsp:∀H:Hp,Only H->SqL Ξ H a (ns.map V.int)->sp [.ref a] H (λv _=>v=.bl true) λ_ _ _=>False)(hCX:∀H e s',CX [] H s₁ (λ_ _ _=>False) e s'->False) :
  codeAny (model P w) callerA (.call (.ref fa) ⟨[.ref a], []⟩) (λr s'=>r=.ok (.ret (.bool true))/\OldK s₁.heap s'.heap/\s'.os=s₁.os/\AllBare s'.gens) s₁:=by
 have rv:=Zg hi;have lenV:=hi.length
 -- from an abstract heap in which nothing but the script may be tracked
 have core:∀H:Hp,Only H->SqL Ξ H a (ns.map V.int)->HOk P w H s₁.heap->(∀b,H b≠none->b=a)->(H a≠none->Ξ.lookup a=none) ->
   codeAny (model P w) callerA (.call (.ref fa) ⟨[.ref a], []⟩) (λr s'=>r=.ok (.ret (.bool true))/\OldK s₁.heap s'.heap/\s'.os=s₁.os/\AllBare s'.gens) s₁:=by
  intro H hO hS hok hA hK;have base_of:∀{b:Addr}{o:Obj},s₁.heap.get? b=some o->H b=none->(hidT s₁.heap H).get? b=some o:=λe n=>hidT_get e n;have noA:∀{b:Addr}{o:Obj}{es:Array DictEntry}{ep:Nat},s₁.heap.get? b=some o->o.data=.dict es ep->H b=none:=λ{b o es ep} e d=>by
   cases q:H b with
   |none=>rfl
   |some u =>
    have e':b=a:=hA b (by rw[q]; simp);subst e';rw[ha] at e; cases e;have d':Data.seq vs.toArray _=Data.dict es ep:=d;cases d'
  have nsK:∀{b:Addr}{m:Str->Option Value},s₁.heap.Ns b m->(hidT s₁.heap H).Ns b m:=λ{b m} ⟨o,es,ep,e,d,r⟩=>⟨o,es,ep,base_of e (noA e d),d,r⟩;have hKb:Ξ.In (hidT s₁.heap H):=λb o e=>base_of (KX b o e) (by
   cases q:H b with
   |none=>rfl
   |some u =>
    have e':b=a:=hA b (by rw[q]; simp);subst e';rw[hK (by rw[q]; simp)] at e; cases e)
  have hM:Mod Ξ mg (hidT s₁.heap H):=⟨hKb,nsK hns,⟨mb,nsK hb,hbb⟩,let⟨mc,h1,h2⟩:=hlim; ⟨mc,nsK h1,h2⟩⟩;have e0:Env0 P w Ξ mg (hidT s₁.heap H) callerA [] s₁ H:=⟨rfl,hM,λb o e=>of_hidT e,D7 (Gx _ _),trivial,λb hb=>absurd (show b∈([]:List Addr) from hb) (by simp),hok, .of_eq hg⟩;refine codeAny_mono ((F _ hKb (nsK hns)).run callerA [] s₁ H ⟨[.ref a], []⟩ [.ref a] [.ref a] _ _ hr e0 (hbind s₁ (.ref a)) (.cons rfl .nil) (hsp H hO hS)) λr s' h=>?_;cases r with
  |error e=>exact(hCX H e s' h).elim
  |ok fl =>
   cases fl with
   |next=>exact False.elim h
   |brk=>exact False.elim h
   |cont=>exact False.elim h
   |ret u =>
    obtain⟨v,H',os,bare,un,hok',r',q⟩:=h;have q':v=.bl true:=q;subst q';obtain rfl:u=Value.bool true:=r';refine⟨rfl,OldK.of_keep λb o e=>?_,os,bare⟩;cases q:H b with
    |none=>exact un.keep b o e q (by intro z; exact absurd (show b∈([]:List Addr) from z) (by simp)) (by simp)
    |some u =>
     rcases hO b with z|⟨ob,xs,z⟩
     ·rw[q] at z; cases z
     ·have z2:=un.frzs b ob _ z
      obtain⟨e1,_⟩:=hok b _ z;obtain⟨e2,_⟩:=hok' b _ z2;rw[e] at e1; cases e1;exact e2
 cases hk:Ξ.lookup a with
 |some o =>
  -- the script is one of the module's own objects
  have e:=KX a o hk;rw[ha] at e;cases e;refine core (λ_=>none) (λ_=>.inl rfl) (.inr ⟨_,vs.toArray,_,hk,rfl,rfl,rfl,by rw[Uo,lenV]; exact hl,by simpa using rv⟩) (λb u z=>by have z':(none:Option HO)=some u:=z; cases z') (λb z=>absurd rfl z) λz=>absurd rfl z
 |none =>
  refine core (λb=>if b=a then some (.frz { cls:=.type "list", data:=.seq vs.toArray } (.lst (ns.map V.int))) else none) (λb=>?_) (.inl (.inr ⟨{ cls:=.type "list", data:=.seq vs.toArray },if_pos rfl⟩)) (λb u z=>?_) (λb z=>?_) λ_=>hk
  ·by_cases hb:b=a
   ·exact .inr ⟨_,_,if_pos hb⟩
   ·exact .inl (if_neg hb)
  ·by_cases hb:b=a
   ·have z':=(if_pos hb).symm.trans z
    cases z';subst hb;exact⟨ha,by rw[Ug]; exact hl,vs,_,rv,ha⟩
   ·have z':=(if_neg hb).symm.trans z
    cases z'
  ·by_cases hb:b=a
   ·exact hb
   ·exact absurd (if_neg hb) z
theorem walk_of{l:PySem.W.OpenLaw}{Ξ:Params->PySem.W.Frag}{CX:World->CXT}{sp:World->Sp}(hn:l.most=some n)(hn2:n<=sizeLine)(hdf:d.params.defaults=[])(hr:Room k callerA)(hY:∀(w:World)(h:Heap),YP w h->(Ξ w.params).In h)(F:∀(w:World)(mg:Str->Option Value)(fa:Addr)(h:Heap),(Ξ w.params).In h->h.Ns mainGlobals mg->mg d.name=some (.ref fa) ->
   ∃fd:FuncData,(∀(s:Shared)(u:Value),BindsTo s fd ⟨[u], []⟩ [(x,u)]) /\
    ∀base:Heap,(Ξ w.params).In base->base.Ns mainGlobals mg->FnOk l.prog w (Ξ w.params) mg base (CX w) k fa fd [x] (sp w))(hsp:∀(w:World)(H:Hp)(a:Addr)(ns:List Int),ns.length<=n->Only H->SqL (Ξ w.params) H a (ns.map V.int)->sp w [.ref a] H (λv _=>v=.bl true) λ_ _ _=>False)(hCX:∀(w:World)(H:Hp)(s:Shared)(e:Value)(s':Shared),CX w [] H s (λ_ _ _=>False) e s'->False) :
  PySem.W.WalkO q loose XP YP l.row.toRowW d [] (λf vs=>PySem.call f vs):=by
 refine Att.attach_call hn hdf λw s₀ s₁ mg mb fa o pm cd doc a vs ns G Y ho hd hcd hmg hobj hints hlen hg=>?_;have KX:=hY w _ Y;obtain⟨fd,hb,hF⟩:=F w mg fa _ KX G.T.g hmg;exact law_call KX G.T.g G.T.b G.T.builtins G.T.nolimit hg hobj hints (UC hlen hn2) hr hF hb (λH hO hS=>hsp w H a ns hlen hO hS) λH e s'=>hCX w H s₁ e s'
abbrev CX0:CXT:=λ_ _ _ _ _ _=>False
abbrev E0:XK:=λ_ _ _=>False
theorem pass0:QL CX0 X E0:=λ_ _ _ _ _ _ _ h=>h.elim
structure Fun(Ξ:PySem.W.Frag)(x qual:Str)(st:Stmt)(f:Addr)(fd:FuncData):Prop where
 ex:∃(oc:Value)(od:Option Addr)(kV doc pm:Value)(an:Option Addr)(cdv ct:Value)(osl:Array (Option Value)),
  fd=W.fnOf x qual (Qz st) (vQ st) (qg st) .none kV doc pm an cdv ct/\Ξ.lookup f=some ⟨oc,od, .func fd,osl⟩/\W.codeIn Ξ cdv qual=true
 kp:W.keepIn Ξ (.ref f)=true
section
theorem Fun.ok{st:Stmt}(F:Fun Ξ x qual st f fd)(S:FnScope N ps (qg st))(len:∀vs H Q E,sp vs H Q E->vs.length=ps.length)(hbody:∀(cdv:Value)(A:Around)(outer:List Env)(s:Shared)(H:Hp)(vs:List V)(Q:VK)(E:XK),Room k (A.deeper (envOfC qual (qg st) s.heap.objs.size f cdv))->sp vs H Q E ->
   ∃t,PSs (cxOf CX0 P w Ξ mg base N qual (qg st) f cdv A outer s H E).nox (vQ st) t/\t { nx:=λ_ H'=>Q .non H',rt:=Q } (start N vs) H):FnOk P w Ξ mg base CX0 (k+1) f fd ps sp:=by
 obtain⟨oc,od,kV,doc,pm,an,cdv,ct,osl,rfl,lk,hcd⟩:=F.ex;refine fn_of lk hcd S len λA outer s H vs Q E hr hsp=>?_;obtain⟨t,h,q⟩:=hbody cdv A outer s H vs Q E hr hsp;exact⟨t,h.nox,q⟩
theorem Fun.binds{st:Stmt}(F:Fun Ξ x qual st f fd)(h:∀(kV doc pm:Value)(an:Option Addr)(cdv ct:Value)(us:List Value),us.length=ps.length->bindArgs (W.fnOf x qual (Qz st) (vQ st) (qg st) .none kV doc pm an cdv ct) ⟨us, []⟩=pure (ps.zip us)):Binds Ξ fd ps []:=by
 obtain⟨oc,od,kV,doc,pm,an,cdv,ct,osl,rfl,lk,hcd⟩:=F.ex;exact .all (h kV doc pm an cdv ct)
theorem fun_mk{st:Stmt}{kV doc pm cdv ct:Value}(l:Ξ.lookup f=some ⟨oc,od, .func (W.fnOf x qual (Qz st) (vQ st) (qg st) .none kV doc pm an cdv ct),osl⟩)(c:W.codeIn Ξ cdv qual=true)(k:W.keepIn Ξ (.ref f)=true):Fun Ξ x qual st f (W.fnOf x qual (Qz st) (vQ st) (qg st) .none kV doc pm an cdv ct):=⟨⟨oc,od,kV,doc,pm,an,cdv,ct,osl,rfl,l,c⟩,k⟩
end
theorem Jn(hr:Room k A):A.units+1<cLine:=R9 (Nat.add_le_add_left (by decide:1<=64) _) hr.units
theorem vj(h:n<=1000):n<sizeLine:=R9 h (by decide)
section
end
theorem ite2{c A B:Prop}[Decidable c](h1:c->A)(h2:¬c->B):if c then A else B:=by
 by_cases h:c
 ·rw[if_pos h]
  exact h1 h
 ·rw[if_neg h]
  exact h2 h
def Same(H H':Hp):Prop:=∀b o,H b=some o->H' b=some o
theorem Same.refl(H:Hp):Same H H:=λ_ _ h=>h
theorem Same.trans(a:Same H H1)(b:Same H1 H2):Same H H2:=λc o h=>b c o (a c o h)
theorem Same.free(e:Same H H')(h:H' l=Option.none):H l=Option.none:=by
 cases q:H l with
 |none=>rfl
 |some o =>
  rw[e l o q] at h;cases h
theorem Same.seq(e:Same H H')(h:SqL Ξ H a xs):SqL Ξ H' a xs:=by
 rcases h with(h|⟨o,h⟩)|h
 ·exact .inl (.inl (e _ _ h))
 ·exact .inl (.inr ⟨o,e _ _ h⟩)
 ·exact .inr h
section
variable {κ:Type} [DecidableEq κ]
def valV(kvs:List (κ×V))(k:κ):Option V:=(kvs.find? λkv=>decide (kv.1=k)).map (·.2)
def putK(kvs:List (κ×V))(k:κ)(v:V):List (κ×V) :=
 if(kvs.any λkv=>decide (kv.1=k))=true then kvs.map (λkv=>if kv.1=k then(kv.1,v) else kv) else kvs++[(k,v)]
def dropK(kvs:List (κ×V))(k:κ):List (κ×V):=kvs.filter λkv=>decide (kv.1≠k)
theorem Vb{p:κ×V}{r:List (κ×V)}{k:κ}(e:p.1=k):valV (p::r) k=some p.2:=by simp[valV,De,e]
theorem Vc{p:κ×V}{r:List (κ×V)}{k:κ}(e:¬p.1=k):valV (p::r) k=valV r k:=by simp[valV,De,e]
theorem JJ(k:κ):∀kvs:List (κ×V),(kvs.any λkv=>decide (kv.1=k))=(valV kvs k).isSome
 | []=>rfl
 |p::r=>by
  rw[Dr];by_cases e:p.1=k
  ·simp only[Vb e,decide_eq_true e,Bool.true_or,Option.isSome_some]
  ·rw[Vc e,decide_eq_false e,Bool.false_or]; exact JJ k r
theorem ja(kvs:List (κ×V))(k:κ)(v:V):(putK kvs k v).length<=kvs.length+1:=by
 unfold putK;split
 ·rw[Ug]; lia
 ·rw[Uj,Ul,U6]; lia
theorem RelO.isSome_eq(r:RelO o u):o.isSome=u.isSome:=by
 cases o with
 |none=>cases u with
  |none=>rfl
  |some _=>exact(show False from r).elim
 |some _=>cases u with
  |none=>exact(show False from r).elim
  |some _=>rfl
theorem KV.val{kvs:List (κ×V)}{vs:List (κ×Value)}(r:KV kvs vs)(k:κ):RelO (valV kvs k) (valueAt vs k):=by
 unfold KV at r
 induction r with
 |nil=>exact True.intro
 | @cons p q ps qs h t ih =>
  obtain⟨h1,h2⟩:=h;by_cases e:p.1=k
  ·have e':q.1=k:=h1.symm.trans e
   have b:valueAt (q::qs) k=some q.2:=by simp[valueAt,De,e']
   rw[Vb e,b]; exact h2
  ·have e':¬q.1=k:=λz=>e (h1.trans z)
   have b:valueAt (q::qs) k=valueAt qs k:=by simp[valueAt,De,e']
   rw[Vc e,b]; exact ih
theorem KV.any{kvs:List (κ×V)}{vs:List (κ×Value)}(r:KV kvs vs)(k:κ):(kvs.any λkv=>decide (kv.1=k))=vs.any λkv=>decide (kv.1=k):=by
 unfold KV at r
 induction r with
 |nil=>rfl
 |cons h t ih=>rw[Dr,Dr,ih,h.1]
theorem KV.repl{kvs:List (κ×V)}{vs:List (κ×Value)}(r:KV kvs vs)(k:κ){y:V}{u:Value}(ry:RelV y u) :
  KV (kvs.map λkv=>if kv.1=k then(kv.1,y) else kv) (vs.map λkv=>if kv.1=k then(kv.1,u) else kv):=by
 unfold KV at r ⊢
 induction r with
 |nil=>exact .nil
 | @cons p q ps qs h t ih =>
  rw[Uy,Uy];refine .cons ?_ ih;obtain⟨h1,h2⟩:=h;by_cases e:p.1=k
  ·rw[if_pos e,if_pos (h1.symm.trans e)]; exact⟨h1,ry⟩
  ·rw[if_neg e,if_neg (λz=>e (h1.trans z))]; exact⟨h1,h2⟩
theorem KV.put{kvs:List (κ×V)}{vs:List (κ×Value)}(r:KV kvs vs)(k:κ){y:V}{u:Value}(ry:RelV y u):KV (putK kvs k y) (stored vs k u):=by
 unfold putK stored;rw[r.any k];by_cases e:(vs.any λkv=>decide (kv.1=k))=true
 ·rw[if_pos e,if_pos e]; exact r.repl k ry
 ·rw[if_neg e,if_neg e]; exact Paired.snoc r ⟨rfl,ry⟩
theorem KV.drop{kvs:List (κ×V)}{vs:List (κ×Value)}(r:KV kvs vs)(k:κ):KV (dropK kvs k) (without vs k):=by
 unfold KV at r ⊢;unfold dropK without
 induction r with
 |nil=>exact .nil
 | @cons p q ps qs h t ih =>
  obtain⟨h1,h2⟩:=h;rw[Ru,Ru];by_cases e:p.1=k
  ·have a:¬decide (p.1≠k)=true:=by simp[e]
   have b:¬decide (q.1≠k)=true:=by simp[h1.symm.trans e]
   rw[if_neg a,if_neg b]; exact ih
  ·have e':¬q.1=k:=λz=>e (h1.trans z)
   have a:decide (p.1≠k)=true:=by simp[e]
   have b:decide (q.1≠k)=true:=by simp[e']
   rw[if_pos a,if_pos b]; exact .cons ⟨h1,h2⟩ ih
theorem KV.length{kvs:List (κ×V)}{vs:List (κ×Value)}(r:KV kvs vs):kvs.length=vs.length:=Paired.length r
end
theorem Jl(r:RelV (kV k) u):(vo P w).is k u=true:=by
 cases k with
 |inl i=>obtain⟨t,e⟩:=(show ∃t,u=Value.int i t from r); subst e; exact Jf P w i t
 |inr x=>obtain⟨t,e⟩:=(show ∃t,u=Value.str x t from r); subst e; exact xY P w x t
 |non=>cases(show u=Value.none from r); rfl
theorem Z1:∀{ks:List Key}{us:List Value},Vals (ks.map kV) us->ItemsAre (vo P w) ks us
 | [],_,r=>by rw[Dy] at r; cases r; exact .nil
 |k::ks,_,r=>by
  rw[Uy] at r;cases r with
  |cons h t=>exact .cons (Jl h) (Z1 t)
abbrev KT(H:Hp):List (List Key×V)->List (List Key×Addr×Value)->Prop:=Paired λp q=>p.1=q.1/\H q.2.1=some (.tup (p.1.map kV))/\RelV p.2 q.2.2
theorem KT.val(r:KT H kvs xs)(k:List Key):RelO (valV kvs k) ((atKey xs k).map (·.2)):=by
 induction r with
 |nil=>exact True.intro
 | @cons p q ps qs h t ih =>
  obtain⟨h1,_,h2⟩:=h;by_cases e:p.1=k
  ·have e':q.1=k:=h1.symm.trans e
   have b:atKey (q::qs) k=some q.2:=by simp[atKey,De,e']
   rw[Vb e,b]; exact h2
  ·have e':¬q.1=k:=λz=>e (h1.trans z)
   have b:atKey (q::qs) k=atKey qs k:=by simp[atKey,De,e']
   rw[Vc e,b]; exact ih
theorem KT.repl(r:KT H kvs xs)(k:List Key)(ry:RelV y u) :
  KT H (kvs.map λkv=>if kv.1=k then(kv.1,y) else kv) (xs.map (putAt k u)):=by
 induction r with
 |nil=>exact .nil
 | @cons p q ps qs h t ih =>
  rw[Uy,Uy];refine .cons ?_ ih;obtain⟨h1,h2,h3⟩:=h;unfold putAt;by_cases e:p.1=k
  ·rw[if_pos e,if_pos (h1.symm.trans e)]; exact⟨h1,h2,ry⟩
  ·rw[if_neg e,if_neg (λz=>e (h1.trans z))]; exact⟨h1,h2,h3⟩
theorem KT.put(r:KT H kvs xs)(k:List Key)(hb:H b=some (.tup (k.map kV)))(ry:RelV y u) :
  KT H (putK kvs k y) (storedH xs k b u):=by
 have e:(kvs.any λkv=>decide (kv.1=k))=(atKey xs k).isSome:=by
  rw[JJ,(r.val k).isSome_eq,Rh]
 unfold putK storedH;rw[e];by_cases q:(atKey xs k).isSome=true
 ·rw[if_pos q,if_pos q]; exact r.repl k ry
 ·rw[if_neg q,if_neg q]; exact Paired.snoc r ⟨rfl,hb,ry⟩
theorem KT.keeps(r:KT H kvs xs)(ht:∀b ys,H b=some (.tup ys)->H' b=some (.tup ys)):KT H' kvs xs :=
 Paired.mapP r λ_ _ z=>⟨z.1,ht _ _ z.2.1,z.2.2⟩
section
theorem rd_of(ok:HOk P w H h)(e:Rd H a u):ObjOk P w H h a u:=e.ok ok
theorem GS(ok:HOk P w H h)(e:Rd H a (.dK kvs)):kvs.length<=sizeLine/\(a==sysModules)=false/\∃vs,KV kvs vs/\h.DictOf (vo P w) a vs :=
 show ObjOk P w H h a (.dK kvs) from rd_of ok e
theorem dk_of(ok:HOk P w H h)(e:H a=some (.dK kvs)):kvs.length<=sizeLine/\(a==sysModules)=false/\∃vs,KV kvs vs/\h.DictOf (vo P w) a vs:=GS ok (.inl e)
theorem Z0(ok:HOk P w H h)(e:H a=some (.tup (ks.map kV))):(tupleKind (vo P w)).is h ks a:=by
 obtain⟨_,its,r,o,h1,h2,n,h3⟩:=(show ObjOk P w H h a (.tup (ks.map kV)) from ok a _ e);exact⟨o,its.toArray,n,h1,h2,h3,by simpa using Z1 r⟩
theorem GR(ok:HOk P w H h)(e:Rd H a (.dT kvs)):kvs.length<=sizeLine/\(a==sysModules)=false /\
  ∃xs,KT H kvs xs/\h.DictOfH (tupleKind (vo P w)) a xs:=by
 obtain⟨z,y,xs,r,o,es,ep,h1,h2,h3,h4,h5⟩:=(show ObjOk P w H h a (.dT kvs) from rd_of ok e);refine⟨z,y,xs,r,o,es,ep,h1,h2,h3,h4,λx hx=>?_,h5⟩;have all:∀{l:List (List Key×V)}{m:List (List Key×Addr×Value)},KT H l m->∀x∈m,(tupleKind (vo P w)).is h x.1 x.2.1:=by
  intro l m q
  induction q with
  |nil=>intro x hx; exact nomatch hx
  | @cons p q ps qs hq t ih =>
   intro x hx;rcases Up.mp hx with e|hx
   ·subst e
    exact Z0 ok (by rw[<-hq.1]; exact hq.2.1)
   ·exact ih x hx
 exact all r x hx
theorem dt_of(ok:HOk P w H h)(e:H a=some (.dT kvs)):kvs.length<=sizeLine/\(a==sysModules)=false /\
  ∃xs,KT H kvs xs/\h.DictOfH (tupleKind (vo P w)) a xs:=GR ok (.inl e)
end
def DGet(H:Hp)(a:Addr)(y:V)(r:Option V):Prop :=
 (∃kvs k,Rd H a (.dK kvs)/\y=kV k/\r=valV kvs k)\/∃kvs k b,Rd H a (.dT kvs)/\y=.ref b/\H b=some (.tup (k.map kV))/\r=valV kvs k
def DPut(H:Hp)(a:Addr)(y v:V)(H':Hp):Prop :=
 (∃kvs k,H a=some (.dK kvs)/\y=kV k/\kvs.length<sizeLine/\H'=upd H a (.dK (putK kvs k v))) \/
 ∃kvs k b,H a=some (.dT kvs)/\y=.ref b/\H b=some (.tup (k.map kV))/\kvs.length<sizeLine/\H'=upd H a (.dT (putK kvs k v))
theorem DGet.k{k:Key}(e:H a=some (.dK kvs)):DGet H a (kV k) (valV kvs k):=.inl ⟨kvs,k, .inl e,rfl,rfl⟩
theorem DGet.t{k:List Key}(e:H a=some (.dT kvs))(eb:H b=some (.tup (k.map kV))):DGet H a (.ref b) (valV kvs k):=.inr ⟨kvs,k,b, .inl e,rfl,eb,rfl⟩
theorem DPut.k{k:Key}(e:H a=some (.dK kvs))(hl:kvs.length<sizeLine):DPut H a (kV k) v (upd H a (.dK (putK kvs k v))):=.inl ⟨kvs,k,e,rfl,hl,rfl⟩
theorem DPut.t{k:List Key}(e:H a=some (.dT kvs))(eb:H b=some (.tup (k.map kV)))(hl:kvs.length<sizeLine) :
  DPut H a (.ref b) v (upd H a (.dT (putK kvs k v))):=.inr ⟨kvs,k,b,e,rfl,eb,hl,rfl⟩
section
theorem Inv.big(I:Inv X pins σ H s):sysModules<s.heap.objs.size:=by
 have h:mainGlobals<s.heap.objs.size:=(I.mod.glob.keeps I.bk).lt;exact Nat.lt_trans (by decide) h
theorem G0(hu:A.units+1<cLine)(I:Inv X pins σ H s)(g:DGet H a y (some v))(ry:RelV y u)(h:∀w' s',Inv X pins σ H s'->RelV v w'->Q w' s') :
  wpAny (model X.prog X.w) A (getItem (.ref a) u) Q E s:=by
 rcases g with⟨kvs,k,e,ey,l⟩|⟨kvs,k,b,e,ey,eb,l⟩
 ·subst ey
  obtain⟨z,hd,vs,rel,dd⟩:=GS I.hok e;obtain⟨w',hw,rw'⟩:=RelO.some_of (v:=v) (o:=valueAt vs k) (by rw[l]; exact rel.val k);exact wpAny_getItem_of (Jl ry) dd.mapOf hw (h w' _ (I.tok _) rw')
 ·subst ey
  cases(show u=Value.ref b from ry);obtain⟨z,hd,xs,rel,dd⟩:=GR I.hok e;obtain⟨w',hw,rw'⟩:=RelO.some_of (v:=v) (o:=(atKey xs k).map (·.2)) (by rw[l]; exact rel.val k);obtain⟨p,hp,hp2⟩:=UV.mp hw;refine wpAny_getItem_heap (tupleKind_room_in1 hu) (Z0 I.hok eb) dd hp ?_;rw[hp2];exact h w' _ (I.tok _) rw'
theorem d_in(hu:A.units+1<cLine)(I:Inv X pins σ H s)(g:DGet H a y o)(ry:RelV y u)(h:∀s',Inv X pins σ H s'->Q (.bool o.isSome) s') :
  wpAny (model X.prog X.w) A (compareOp .In u (.ref a)) Q E s:=by
 rcases g with⟨kvs,k,e,ey,l⟩|⟨kvs,k,b,e,ey,eb,l⟩
 ·subst ey
  obtain⟨z,hd,vs,rel,dd⟩:=GS I.hok e;refine wpAny_in_of (Jl ry) hd dd.mapOf ?_;rw[<-(rel.val k).isSome_eq, <-l];exact h _ (I.tok _)
 ·subst ey
  cases(show u=Value.ref b from ry);obtain⟨z,hd,xs,rel,dd⟩:=GR I.hok e;refine wpAny_in_heap (tupleKind_room_in1 hu) (Z0 I.hok eb) hd dd ?_;have q:=(rel.val k).isSome_eq;rw[Rh] at q;rw[<-q, <-l];exact h _ (I.tok _)
theorem d_notIn(hu:A.units+1<cLine)(I:Inv X pins σ H s)(g:DGet H a y o)(ry:RelV y u)(h:∀s',Inv X pins σ H s'->Q (.bool (!o.isSome)) s') :
  wpAny (model X.prog X.w) A (compareOp .NotIn u (.ref a)) Q E s:=by
 rcases g with⟨kvs,k,e,ey,l⟩|⟨kvs,k,b,e,ey,eb,l⟩
 ·subst ey
  obtain⟨z,hd,vs,rel,dd⟩:=GS I.hok e;refine wpAny_notIn_of (Jl ry) hd dd.mapOf ?_;rw[<-(rel.val k).isSome_eq, <-l];exact h _ (I.tok _)
 ·subst ey
  cases(show u=Value.ref b from ry);obtain⟨z,hd,xs,rel,dd⟩:=GR I.hok e;refine wpAny_notIn_heap (tupleKind_room_in1 hu) (Z0 I.hok eb) hd dd ?_;have q:=(rel.val k).isSome_eq;rw[Rh] at q;rw[<-q, <-l];exact h _ (I.tok _)
theorem JB(I:Inv X pins σ H s)(mu:Mut (H a))(hs:Heap.SameBut a s.heap h')(he:∃q,h'.get? a=some q)(new:ObjOk X.prog X.w (upd H a ob) h' a ob) :
  Inv X pins σ (upd H a ob) { s with heap:=h',toks:=t' } :=
 I.write (x:=a) (e:=a) mu (.inl rfl) (λb q hb z=>(hs.2 b hb).trans z) he new
theorem dk_new(z:kvs.length<=sizeLine)(hd:(a==sysModules)=false)(rel:KV kvs vs)(dd:h'.DictOf (vo P w) a vs) :
  ObjOk P w H' h' a (.dK kvs):=⟨z,hd,vs,rel,dd⟩
theorem GZ(hu:A.units+1<cLine)(I:Inv X pins σ H s)(g:DPut H a y v H')(ry:RelV y u)(rv:RelV v r)(h:∀s',Inv X pins σ H' s'->Q () s') :
  wpAny (model X.prog X.w) A (setItem (.ref a) u r) Q E s:=by
 rcases g with⟨kvs,k,e,ey,l,eH⟩|⟨kvs,k,b,e,ey,eb,l,eH⟩
 ·subst ey eH
  obtain⟨z,hd,vs,rel,dd⟩:=dk_of I.hok e;have hz:vs.length<=sizeLine:=by rw[<-rel.length]; exact z
  have hl:(putK kvs k v).length<=sizeLine:=by have:=ja kvs k v; lia
  refine wpAny_setItem_pairs (hsz:=hz) (Jl ry) dd λh' dd' hs=>h _ ?_;have he:∃q,h'.get? a=some q:=let⟨q,_,_,hq,_⟩:=dd'; ⟨q,hq⟩;exact JB I (by rw[e]; exact True.intro) hs he (dk_new hl hd (rel.put k rv) dd')
 ·subst ey eH
  cases(show u=Value.ref b from ry);obtain⟨z,hd,xs,rel,dd⟩:=dt_of I.hok e;have hz:xs.length<=sizeLine:=by rw[<-Paired.length rel]; exact z
  have hl:(putK kvs k v).length<=sizeLine:=by have:=ja kvs k v; lia
  refine wpAny_setItem_heap (hsz:=hz) (tupleKind_room_in1 hu) (Z0 I.hok eb) dd λh' dd' hs=>h _ ?_;obtain⟨q,es,ep,hq,h2,h3,h4,_,h5⟩:=dd';refine JB I (by rw[e]; exact True.intro) hs ⟨q,hq⟩ ⟨hl,hd,_,(rel.put k eb rv).keeps λc ys ec=>?_,q,es,ep,hq,h2,h3,h4,h5⟩;rw[upd_ne (ne_of ec e (λz=>nomatch z))];exact ec
end
def NoSl(i:Expr):Prop:=∀ov iv,subscripted i false ov iv=operate [ov,iv] (getItem ov iv)
theorem YF{prog:Program}{w:World}{A:Around}{E:Value->Shared->Prop}{s:Shared}{env:Env}{value slice:Expr}{pos:Pos}{T id:String}{Q:Value->Shared->Prop}(hl:typeLookup (.type T) "__getitem__" = pure (some (.builtin id)))(hs:NoSl slice)(h:wpAny (model prog w) A (eval value env) (λo s₁=>wpAny (model prog w) A (eval slice env) (λi s₂=>s₂.TypeIs o T/\wpAny (model prog w) A (getItem o i) Q E s₂) E s₁) E s) :
  wpAny (model prog w) A (eval (.Subscript value slice pos) env) Q E s:=by
 refine Subscript_ (wpAny_mono h (λo s₁ h₁=>wpAny_mono h₁ (λi s₂ h₂=>?_) λ_ _ x=>x) λ_ _ x=>x);obtain⟨hT,h₂⟩:=h₂;unfold subscriptTail;refine wpAny_bind ?_;rw[getitemInPython_of_ne hT.not_modules];refine wpAny_bind (wpAny_specialOf hT hl ?_);have fin:wpAny (model prog w) A (subscripted slice false o i) (λr s₃=>wpAny (model prog w) A (letTemporaryGo value o r >>= λ_=>pure r) Q E s₃) E s₂:=by
  rw[hs o i];exact wpAny_operating (wpAny_mono h₂ (λr s₃ h₃=>wpAny_bind (wpAny_letTemporaryGo (wpAny_pure h₃))) λ_ _ x=>x)
 first
  |exact wpAny_pure (wpAny_bind fin)
  |exact wpAny_bind (wpAny_pure (wpAny_bind fin))
  |exact wpAny_bind fin
theorem JA(I:Inv X pins σ H s)(g:DGet H a y o):s.TypeIs (.ref a) "dict" := by
 rcases g with⟨kvs,k,e,_,_⟩|⟨kvs,k,b,e,_,_,_⟩
 ·obtain⟨_,_,vs,_,dd⟩:=GS I.hok e
  exact dd.typeIs
 ·obtain⟨_,_,xs,_,dd⟩:=GR I.hok e
  exact dd.typeIs
def YE(td ty:TE):TE:=λσ H Q=>td σ H λx H1=>ty σ H1 λy H2=>∃a v,x=.ref a/\DGet H2 a y (some v)/\Q v H2
def tDIn(ty td:TE):TE:=λσ H Q=>ty σ H λy H1=>td σ H1 λx H2=>∃a o,x=.ref a/\DGet H2 a y o/\Q (.bl o.isSome) H2
def Vg(ty td:TE):TE:=λσ H Q=>ty σ H λy H1=>td σ H1 λx H2=>∃a o,x=.ref a/\DGet H2 a y o/\Q (.bl (!o.isSome)) H2
def sDPut(td ty tv:TE):TS:=λD σ H=>tv σ H λv H1=>td σ H1 λx H2=>ty σ H2 λy H3=>∃a H4,x=.ref a/\DPut H3 a y v H4/\D.nx σ H4
section
theorem pc_din(hu:X.A.units+1<cLine)(hi:PE X i ty)(ho:PE X o td):PC X .In i o (tDIn ty td):=by
 intro pins s σ H Q I h;refine thn (hi pins s σ H _ I h) λiv s1 ⟨y,H1,I1,ry,q1⟩=>thn (ho pins s1 σ H1 _ I1 q1) λu s2 ⟨x,H2,I2,rx,a,ov,ex,g,q2⟩=>?_;subst ex;obtain rfl:u=Value.ref a:=rx;exact d_in hu I2 g ry λs3 I3=>⟨.bl ov.isSome,H2,I3,rfl,q2⟩
theorem Wv(hu:X.A.units+1<cLine)(hi:PE X i ty)(ho:PE X o td):PC X .NotIn i o (Vg ty td):=by
 intro pins s σ H Q I h;refine thn (hi pins s σ H _ I h) λiv s1 ⟨y,H1,I1,ry,q1⟩=>thn (ho pins s1 σ H1 _ I1 q1) λu s2 ⟨x,H2,I2,rx,a,ov,ex,g,q2⟩=>?_;subst ex;obtain rfl:u=Value.ref a:=rx;exact d_notIn hu I2 g ry λs3 I3=>⟨.bl (!ov.isSome),H2,I3,rfl,q2⟩
end
theorem Kr(h:Heap)(hb:sysModules<h.objs.size):ObjOk P w H (h.push { cls:=.type "dict", data:=.dict #[] }) h.objs.size (.dK []) :=
 ⟨UY _,beq_eq_false_iff_ne.mpr (Ne.symm (UF hb)), [], .nil,Heap.DictOf.new h⟩
def JX:TE:=λ_ H Q=>∀p,H p=none->Q (.ref p) (upd H p (.dK []))
section
end
def JW:List (TE×TE)->St->Hp->(List (V×V)->Hp->Prop)->Prop
 | [],_,H,Q=>Q [] H
 | (tk,tv)::r,σ,H,Q=>tk σ H λx H1=>tv σ H1 λy H2=>JW r σ H2 λps H3=>Q ((x,y)::ps) H3
abbrev VV:List (V×V)->List (Value×Value)->Prop:=Paired λp q=>RelV p.1 q.1/\RelV p.2 q.2
def PPs(X:Cx)(pos:Pos)(keys:List (Option Expr))(values:List Expr)(trs:List (TE×TE)):Prop :=
 ∀(pins:List (Addr×Obj))(s:Shared)(σ:St)(H:Hp)(Q:List (V×V)->Hp->Prop),Inv X pins σ H s->JW trs σ H Q ->
  wpAny (model X.prog X.w) X.A (evalPairs (pairTrees keys values X.env pos)) (λvs s'=>∃ps H',Inv X pins σ H' s'/\VV ps vs/\Q ps H') X.xe s
theorem pps_nil:PPs X pos [] [] []:=λpins s σ H Q I h=>pairTrees_nil_walk ⟨[],H,I, .nil,h⟩
def Ql(kvs more:List (Key×V)):List (Key×V):=more.foldl (λacc kv=>putK acc kv.1 kv.2) kvs
theorem KV.merge:∀{more:List (Key×V)}{rs:List (Key×Value)}{kvs:List (Key×V)}{vs:List (Key×Value)},KV more rs->KV kvs vs->KV (Ql kvs more) (merged vs rs):=by
 intro more rs kvs vs r;unfold KV at r
 induction r generalizing kvs vs with
 |nil=>intro q; exact q
 | @cons p q ps qs h t ih =>
  intro r0;have e:KV (putK kvs p.1 p.2) (stored vs q.1 q.2):=by
   have:=r0.put p.1 h.2;rw[<-h.1]; exact this
  exact ih e
theorem jp:∀(more kvs:List (Key×V)),(Ql kvs more).length<=kvs.length+more.length
 | [],kvs=>by show kvs.length<=kvs.length+0; lia
 |p::r,kvs=>by
  have h1:=jp r (putK kvs p.1 p.2);have h2:=ja kvs p.1 p.2;show(Ql (putK kvs p.1 p.2) r).length<=_;rw[Ul]; lia
theorem Va:∀{kvs:List (Key×V)}{ws:List (Value×Value)},VV (kvs.map λkv=>(kV kv.1,kv.2)) ws->∃rs,Carries (vo P w) ws rs/\KV kvs rs
 | [],_,r=>by rw[Dy] at r; cases r; exact⟨[],True.intro, .nil⟩
 |p::kvs,_,r=>by
  rw[Uy] at r;cases r with
  | @cons a b as bs h t =>
   obtain⟨rs,c,q⟩:=Va (P:=P) (w:=w) t;obtain⟨b1,b2⟩:=b;exact⟨(p.1,b2)::rs,⟨Jl h.1,rfl,c⟩, .cons ⟨rfl,h.2⟩ q⟩
def tDisp(trs:List (TE×TE)):TE:=λσ H Q=>∀p,H p=none->JW trs σ (upd H p (.dK [])) λps H2=>H2 p=some (.dK [])/\∃kvs:List (Key×V),ps=kvs.map (λkv=>(kV kv.1,kv.2))/\kvs.length<=15/\Q (.ref p) (upd H2 p (.dK (Ql [] kvs)))
structure M1(X:Cx)(o:Expr)(m:Str)(apos:Pos)(e:Expr)(cpos:Pos):Prop where
 base:attributeBase o m X.env (eval o X.env)=eval o X.env
 few:((backTo cpos (starEach [e] X.env)).all (λx => !x.1)&&(backToKw cpos (keywordEach [] X.env)).all (λx=>x.1.isSome)
  && decide (([e]:List Expr).length+([]:List Keyword).length+(if([]:List Keyword).isEmpty then 0 else 1)<30))=true
 line:(apos.endLine==cpos.line)=true
 trees:backTo cpos (starEach [e] X.env)=[(false,eval e X.env)]
structure M2(X:Cx)(o:Expr)(m:Str)(apos:Pos)(e f:Expr)(cpos:Pos):Prop where
 base:attributeBase o m X.env (eval o X.env)=eval o X.env
 few:((backTo cpos (starEach [e,f] X.env)).all (λx => !x.1)&&(backToKw cpos (keywordEach [] X.env)).all (λx=>x.1.isSome)
  && decide (([e,f]:List Expr).length+([]:List Keyword).length+(if([]:List Keyword).isEmpty then 0 else 1)<30))=true
 line:(apos.endLine==cpos.line)=true
 trees:backTo cpos (starEach [e,f] X.env)=[(false,eval e X.env),(false,eval f X.env)]
def cxC(X:Cx)(scope:Scope)(cl:List (Str×Addr))(M:List Str)(fp:List Addr)(s:Shared)(H:Hp):Cx :=
 { X with N:=M,s₀:=s,H₀:=H,env:=compEnvC scope cl s.heap.objs.size X.env,outer:=X.stack,stack:=X.stack,ex:=fp,fn:=λ_=>false,pn:=[],xe:=λ_ _=>False }
def zr(bs:List Bool)(n:Nat)(σ:St):St:=(bs.zip σ).map (λp=>if p.1 then p.2 else none)++List.replicate n none
def ExtS(σ τ:St):Prop:=∀(i:Nat) v,σ[i]?=some (some v)->τ[i]?=some (some v)
theorem ExtS.refl(σ:St):ExtS σ σ:=λ_ _ h=>h
theorem ExtS.trans(h:ExtS a b)(k:ExtS b c):ExtS a c:=λi v e=>k i v (h i v e)
theorem ExtS.put(h:ExtS σ τ)(e:σ[i]?=some none):ExtS σ (τ.set i (some v)):=λj w q=>by
 by_cases hj:i=j
 ·subst hj; rw[e] at q; cases q
 ·rw[Uz hj]; exact h j w q
def CompW(J:It)(acc:Addr)(g:TG)(tt:TT)(te:TE)(σ0:St)(H1:Hp)(Q:VK):Prop:=∃W:Nat->Nat->Hp->Prop,(∃m,W 0 m (upd H1 acc (.lst []))) /\
 ∀i m H2,W i m H2->(J.stop i H2/\Q (.ref acc) H2)\/(J.go i H2/\∃N:Hp->Prop,(∀H',N H'->∃m',m'<m/\W (i+1) m' H')/\∀x H3,J.yld i H2 x H3->g x σ0 H3 λσ4 H4=>(ExtS σ0 σ4/\σ4.length=σ0.length)/\tt σ4 H4 λb H5 =>
  if b=true then te σ4 H5 λv H6=>∃ys,H6 acc=some (.lst ys)/\ys.length<sizeLine/\N (upd H6 acc (.lst (ys++[v]))) else N H5)
def xO(wi:TI)(bs:List Bool)(n:Nat)(g:TG)(tt:TT)(te:TE):TE:=λσ H Q=>wi σ H λJ H1=>∀acc,H1 acc=none->CompW J acc g tt te (zr bs n σ) H1 Q
def PTs(X:Cx)(ifs:List Expr)(t:TT):Prop :=
 ∀(pins:List (Addr×Obj))(s:Shared)(σ:St)(H:Hp)(Q:Bool->Hp->Prop),Inv X pins σ H s->t σ H Q ->
  wpAny (model X.prog X.w) X.A (forIn ifs true λc r=>if r=true then do let ok <-isTrue c X.env (eval c X.env); pure (ForInStep.yield ok) else pure (ForInStep.yield r)) (TP X pins σ Q) X.xe s
def tYes:TT:=λ_ H Q=>Q true H
theorem pts_nil:PTs X [] tYes:=λ_ _ _ H _ I h=>wpAny_tests_nil ⟨H,I,h⟩
structure CompS(X:Cx)(scope:Scope)(cl:List (Str×Addr))(bs:List Bool)(ext:List Str):Prop where
 clos:closureFor scope X.env=pure cl
 cell:∀y∈scope.names,y.2 ≠ .cell
 kind:scope.kind=.function
 names:∀y∈scope.names,y.2=.local->scope.names.lookup y.1=some .local
 sub:∀x c,cl.lookup x=some c->X.env.cells.lookup x=some c
 has:∀x,((relabel scope X.env).names.lookup x=some .cell\/(relabel scope X.env).names.lookup x=some .free)->∃c,cl.lookup x=some c
 len:bs.length=X.N.length
 vis:∀(i:Nat) x,X.N[i]?=some x->bs[i]?=some true->Vis (relabel scope X.env) x->(relabel scope X.env).names.lookup x≠some .local/\(X.env.kindOf x=some .cell\/X.env.kindOf x=some .free)/\Vis X.env.scope x
theorem W8(h:bs.length=σ.length):(zr bs n σ).length=σ.length+n:=by
 unfold zr; simp[h]
theorem W9(h:bs.length=σ.length)(e:(zr bs n σ)[i]?=some (some v)):i<σ.length/\bs[i]?=some true/\σ[i]?=some (some v):=by
 unfold zr at e;by_cases hi:i<σ.length
 ·rw[Ui (by simp[h]; exact hi),Uv] at e
  have hb:i<bs.length:=by lia
  rw[Uf (by simp[h]; exact hi)] at e;simp only[List.getElem_zip,Option.map_some] at e;split at e
  ·rename_i hb2
   refine⟨hi, ?_, ?_⟩
   ·rw[Uf hb]; rw[hb2]
   ·rw[Uf hi]; exact e
  ·cases e
 ·rw[Uq (by simp[h]; lia),DP] at e
  split at e<;>cases e
section
theorem cxC_ok(S:CompS X scope cl bs ext)(I:Inv X pins σ H s)(hf:∀b∈fp,FpOk X pins H b)(hfs:∀b∈fp,b<s.heap.objs.size) :
  (cxC X scope cl (X.N++ext) fp s H).Ok where
 mod:=I.ok.mod
 kind:=S.kind
 glob:=I.ok.glob
 blt:=I.ok.blt
 above:=Uk _
 inj:=λx y c a b=>I.ok.inj x y c (S.sub x c a) (S.sub y c b)
 has:=S.has
 cab:=λx c h=>nomatch h
 hd:=I.ok.hd
 frames:=I.ok.frames
 stk:=.inl rfl
 exf:=λb hb=>⟨UF (hfs b hb),λx c e=>(hf b hb).2.2.2.2.1 x c (S.sub x c e)⟩
 bs:=I.bs
 bsz:=UC I.ok.bsz I.sz
 noex:=λb o e hb=>by
  rcases(hf b hb).2.2.2.1 with z|z
  ·exact I.ok.noex b o e z
  ·exact absurd (Ux (Ux (Heap.lt_size e) I.ok.bsz) z) (Dg _)
 exfs:=λb hb z=>by
  rcases Up.mp (I.stkSub b z) with q|q
  ·exact(hf b hb).2.1 q
  ·exact(hf b hb).2.2.1 q
 funs:=I.stack
 frf:=I.stkFree
theorem G1(S:CompS X scope cl bs ext)(I:Inv X pins σ H s)(hf:∀b∈fp,FpOk X pins H b)(hfs:∀b∈fp,b<s.heap.objs.size)(hn:h1.Ns s.heap.objs.size (λ_=>none))(k:∀b o,s.heap.get? b=some o->h1.get? b=some o) :
  Inv (cxC X scope cl (X.N++ext) fp s H) [] (zr bs ext.length σ) H { s with heap:=h1,toks:=t' }:=by
 have hl:bs.length=σ.length:=S.len.trans I.len.symm;have cellk:∀c v,s.heap.IsCell c v->h1.IsCell c v:=λc v ⟨o,ho,hd⟩=>⟨o,k c o ho,hd⟩;refine⟨cxC_ok S I hf hfs,rfl,I.bare,Un.kept k,⟨_,hn,λi x v e1 e2 e3=>?_⟩,λx c e=>?_,I.hok.fresh (Uk _),λx c e=>I.freeC x c (S.sub x c e),λp hp=>absurd hp (by simp[cxC]),I.hok.kept k, ?_⟩
 ·obtain⟨hi,hb,hs⟩:=W9 hl e2
  have e1':X.N[i]?=some x:=by
   have e1'':(X.N++ext)[i]?=some x:=e1;rwa [Ui (by have:=I.len; lia)] at e1''
  obtain⟨nl,kk,vv⟩:=S.vis i x e1' hb e3;obtain⟨m,_,hloc⟩:=I.loc;obtain⟨u,r,l⟩:=hloc i x v e1' hs vv;refine⟨u,r, .inr ⟨?_, ?_⟩⟩
  ·rcases e3 with z|z|z
   ·exact absurd z nl
   ·exact .inl z
   ·exact .inr z
  ·have hc:=S.has x (by
    rcases e3 with z|z|z
    ·exact absurd z nl
    ·exact .inl z
    ·exact .inr z)
   obtain⟨c,hc⟩:=hc;rcases l with⟨kl,_⟩|⟨_,c',hc',hcell⟩
   ·rcases kk with z|z<;>(rw[kl] at z; cases z)
   ·rw[S.sub x c hc] at hc'
    cases hc';exact⟨c,hc,cellk c _ hcell⟩
 ·obtain⟨v,z⟩:=I.cell x c (S.sub x c e)
  exact⟨v,cellk c v z⟩
 ·rw[W8 hl,I.len]; show _=(X.N++ext).length; simp
theorem G2(I:Inv X pins σ H s)(hf:∀b∈fp,FpOk X pins H b)(J:Inv (cxC X scope cl (X.N++ext) fp s H) pins' σ' H' s')(sb:Heap.SameBut s.heap.objs.size s'.heap h'):Inv X pins σ H' { s' with heap:=h' }:=by
 have B:Un (frs X.stack) fp H H' s.heap s'.heap:=J.base;have nC:∀b o,s.heap.get? b=some o->b≠s.heap.objs.size:=λb o e=>UF (Heap.lt_size e);refine I.call' (ch:=fp) (s':={ s' with heap:=h' }) J.os ⟨λb o e n hb hx=>?_,λb o e n hb hx=>?_,λb o e n hx=>B.free b o e n hx,λb o e hx=>?_,B.tups,B.frzs,B.tbls⟩ ?_ J.bare λb hb=>⟨(hf b hb).2.2.2.1,(hf b hb).2.1,(hf b hb).2.2.2.2.1,(hf b hb).2.2.2.2.2⟩
 ·exact sb.extBut b o (nC b o e) (B.keep b o e n hb hx)
 ·obtain⟨sl,q⟩:=B.slot b o e n hb hx
  exact⟨sl,sb.extBut b _ (nC b o e) q⟩
 ·obtain⟨o',q⟩:=B.there b o e hx
  exact⟨o',sb.extBut b o' (nC b o e) q⟩
 ·intro a o e
  have fr:H' s.heap.objs.size=none:=J.free;refine(J.hok a o e).stay (λb u hb q=>sb.extBut b u ?_ q) (λ_ q=>q) λ_ _ q=>q;rcases hb with z|z
  ·subst z; intro z; rw[z,fr] at e; cases e
  ·intro z2; rw[z2,fr] at z; cases z
end
section
theorem Kv(S:CompS X scope cl bs ext)(hc:X.calm=true)(hi:PI X tg iter wi)(hg:∀fp s H,PG (cxC X scope cl (X.N++ext) fp s H) tg g)(ht:∀fp s H,PTs (cxC X scope cl (X.N++ext) fp s H) ifs tt)(he:∀fp s H,PE (cxC X scope cl (X.N++ext) fp s H) elt te)(hs:∀x,foldedSetIterable iter X.env x=pure x)(I:Inv X pins σ H s)(h:xO wi bs ext.length g tt te σ H Q)(ep:Pos)(hend:∀(acc:Addr)(s2:Shared)(H2:Hp)(fp:List Addr)(σ':St)(H':Hp)(s':Shared),Inv X pins σ H2 s2->(∀b∈fp,FpOk X pins H2 b)->Inv (cxC X scope cl (X.N++ext) fp s2 H2) [] σ' H' s'->Q (.ref acc) H' ->
   compPost (model X.prog X.w) X.A X.xe use RR (.ref acc) s2.heap.objs.size (.ok .next) s') :
  wpAny (model X.prog X.w) X.A (comprehension (.ListComp elt [⟨tg,iter,ifs,0⟩] scope pos) scope X.env ep (newList []) false (eval iter X.env) use) RR X.xe s:=by
 refine wpAny_comprehension_free (use:=use) rfl hs S.clos S.kind S.names (thn (hi pins s σ H _ I h) λv s1 h1=>thn h1 λitv s2 h2=>?_);obtain⟨it,fp,tn,J,H2,e,I2,T,st2,f2,hW⟩:=h2;subst e;refine wpAny_newList ?_ (by decide);have hn2:H2 s2.heap.objs.size=none:=I2.hok.fresh (Uk _);obtain⟨W,⟨m0,w0⟩,turn⟩:=hW s2.heap.objs.size hn2;have I3:=I2.lnew (its:=[]) (ys:=[]) (t':=s2.toks) .nil (UY _);generalize hs3:({ s2 with heap:=s2.heap.push { cls:=.type "list", data:=.seq ([]:List Value).toArray },toks:=s2.toks }:Shared)=s3 at I3;have hsz3:s3.heap.objs.size=s2.heap.objs.size+1:=by rw[<-hs3]; exact Heap.size_push ..
 have k3:∀b o,s2.heap.get? b=some o->s3.heap.get? b=some o:=λb o e=>by rw[<-hs3]; exact Heap.get?_push_of_some _ e
 have fpo:∀b∈fp,b<s2.heap.objs.size:=λb hb=>by obtain⟨o,e,_⟩:=T.obj _ _ st2 b hb; exact Heap.lt_size e
 have f3:∀b∈fp,FpOk X pins (upd H2 s2.heap.objs.size (.lst [])) b:=λb hb=>⟨by rw[upd_ne (UF (fpo b hb))]; exact(f2 b hb).1,(f2 b hb).2⟩;have fps:∀b∈fp,b<s3.heap.objs.size:=λb hb=>by rw[hsz3]; exact Nat.lt_succ_of_lt (fpo b hb)
 have st3:tn 0 s3.heap:=T.keep _ _ _ st2 λb hb o e=>k3 b o e;refine wpAny_newFunctionEnv S.cell (by intro y hy; simp at hy) (λh4 hns4 hsb4=>?_) S.kind;have k4:∀b o,s3.heap.get? b=some o->h4.get? b=some o:=λb o e=>hsb4.extBut b o (UF (Heap.lt_size e)) (Heap.get?_push_of_some _ e);have I4:=G1 (ext:=ext) (t':=s3.toks+([]:List (Str×Value)).length) S I3 f3 fps (h1:=h4) hns4 k4;have st4:tn 0 h4:=T.keep _ _ _ st3 λb hb o e=>k4 b o e;generalize hs4:({ s3 with heap:=h4,toks:=s3.toks+([]:List (Str×Value)).length }:Shared)=s4 at I4 ⊢;have st4':tn 0 s4.heap:=by rw[<-hs4]; exact st4
 -- the block
 generalize hY:cxC X scope cl (X.N++ext) fp s3 (upd H2 s2.heap.objs.size (.lst []))=Y at I4;have hYs:∀{H':Hp},(∀b∈fp,H' b=none)->∀b∈fp,FpOk Y [] H' b:=λhn b hb=>by
  subst hY;refine⟨hn b hb,UF (fps b hb),λz=>?_, .inl hb,λx c e=>(f3 b hb).2.2.2.2.1 x c (S.sub x c e),λp hp=>absurd hp (by simp[cxC])⟩;rcases Up.mp (I3.stkSub b z) with q|q
  ·exact(f3 b hb).2.1 q
  ·exact(f3 b hb).2.2.1 q
 have hgY:PG Y tg g:=by subst hY; exact hg _ _ _
 have htY:PTs Y ifs tt:=by subst hY; exact ht _ _ _
 have heY:PE Y elt te:=by subst hY; exact he _ _ _
 have hYc:Y.calm=true:=by subst hY; exact hc
 have hYm:Y.prog=X.prog/\Y.w=X.w/\Y.K=X.K/\Y.A=X.A/\Y.env=compEnvC scope cl s3.heap.objs.size X.env/\Y.xe=λ_ _=>False:=by subst hY; exact⟨rfl,rfl,rfl,rfl,rfl,rfl⟩
 obtain⟨e1,e2,e3,e4,e5,e6⟩:=hYm;have never:∀{α:Type}{t:Sem α}{Q:α->Shared->Prop}{s:Shared}{E:Value->Shared->Prop},wpAny (model Y.prog Y.w) Y.A t Q Y.xe s->wpAny (model X.prog X.w) X.A t Q E s:=λ{α t Q s E} q=>by
  rw[e1,e2,e4,e6] at q;exact wpAny_mono q (λ_ _ z=>z) λ_ _ z=>z.elim
 have loop:codeAny (model X.prog X.w) X.A (.compLoop (.ListComp elt [⟨tg,iter,ifs,0⟩] scope pos) 0 (.ref it) (.ref s2.heap.objs.size) (compEnvC scope cl s3.heap.objs.size X.env))
   (compPost (model X.prog X.w) X.A X.xe use RR (.ref s2.heap.objs.size) s3.heap.objs.size) s4:=by
  refine codeAny_loop rfl (λn s'=>∃i H',Inv Y [] (zr bs ext.length σ) H' s'/\tn i s'.heap/\(∀b∈fp,H' b=none)/\W i n H') (λn s5 hI=>?_) m0 ⟨0,_,I4,st4',λb hb=>(f3 b hb).1,w0⟩;obtain⟨i,H5,I5,st5,fr5,w5⟩:=hI;show wpAny _ X.A ((compTurn (.ListComp elt [⟨tg,iter,ifs,0⟩] scope pos) 0 (.ref it) (.ref s2.heap.objs.size) (compEnvC scope cl s3.heap.objs.size X.env)).onRaise (λx=>do noteFrame x (compEnvC scope cl s3.heap.objs.size X.env); theTreesLotGoes x)) _ _ s5;refine wpAny_noted ?_;rw[compTurn_list];rcases turn i n H5 w5 with⟨stop,qn⟩|⟨go,N,hN,step⟩
  ·refine wpAny_bind (wpAny_standAt (wpAny_bind ?_))
   have hd:=T.done Y e1 e2 e3 hYc i [] s5 _ H5 (λ_ _=>False) I5 (hYs fr5) st5 stop;rw[e4] at hd;refine wpAny_mono hd (λr s6 ⟨hr,I6⟩=>?_) λ_ _ z=>z.elim;subst hr;subst hY;exact wpAny_pure (hend s2.heap.objs.size s3 _ fp _ H5 s6 I3 f3 I6 qn)
  ·refine wpAny_bind (wpAny_standAt (wpAny_bind ?_))
   have hd:=T.item Y e1 e2 e3 hYc i [] s5 _ H5 (λ_ _=>False) I5 (hYs fr5) st5 go;rw[e4] at hd;refine wpAny_mono hd (λr s6 ⟨u,hr,h6⟩=>?_) λ_ _ z=>z.elim;subst hr;refine wpAny_bind (wpAny_mono h6 (λ_ s7 ⟨x,H7,I7,r7,y7,st7,fr7⟩=>?_) λ_ _ z=>z.elim);have I7':=I7.pinned (hYs fr7) (T.obj _ _ st7);rw[<-e5];refine wpAny_bind (never (thn (hgY _ s7 _ H7 x u _ I7' r7 (step x H7 y7)) λ_ s8 ⟨σ8,H8,I8,⟨hx8,hl8⟩,q8⟩=>?_));refine wpAny_bind (never (thn (htY _ s8 σ8 H8 _ I8 q8) λb s9 ⟨H9,I9,q9⟩=>?_));have again:∀{H10:Hp}{s10:Shared}{m':Nat},Inv Y ([]++Zz fp s7.heap) σ8 H10 s10->m'<n->W (i+1) m' H10->∃m,m<n/\∃i H',Inv Y [] (zr bs ext.length σ) H' s10/\tn i s10.heap/\(∀b∈fp,H' b=none)/\W i m H':=λ{H10 s10 m'} I10 hm w10=>by
    refine⟨m',hm,i+1,H10,(I10.unpinned).weak hl8.symm hx8,T.keep _ _ _ st7 λb hb o e=>(I10.pin (b,o) (UJ _ (UJ _ (xu hb e)))).1,λb hb=>?_,w10⟩;obtain⟨o,e,d⟩:=T.obj _ _ st7 b hb;exact(I10.pin (b,o) (UJ _ (UJ _ (xu hb e)))).2.1
   cases b with
   |false =>
    rw[if_neg Ur] at q9;obtain⟨m',hm,w9⟩:=hN _ q9;exact wpAny_pure ⟨by rw[e5],again I9 hm w9⟩
   |true =>
    rw[if_pos rfl] at q9;refine wpAny_bind (wpAny_bind (never (thn (heY _ s9 σ8 H9 _ I9 q9) λxv s10 ⟨y,H10,I10,r10,ys,hys,hz,n10⟩=>?_)));obtain⟨m',hm,w10⟩:=hN _ n10;refine wpAny_bind (never (thn (zm (X:=Y) _ s10 σ8 H10 (.ref s2.heap.objs.size) [y] (.ref s2.heap.objs.size) [xv] (λ_ H=>∃m',m'<n/\W (i+1) m' H) I10 rfl (.cons r10 .nil) ⟨_,ys,y,rfl,rfl,hys,hz,m',hm,w10⟩) λ_ s11 ⟨_,H11,I11,_,m2,hm2,w11⟩=>?_));exact wpAny_pure (wpAny_pure ⟨by rw[e5],again I11 hm2 w11⟩)
 exact codeAny_compStart_list loop (T.self X.A 0 s4 _ _ st4' loop)
theorem pe_comp(S:CompS X scope cl bs ext)(hc:X.calm=true)(hi:PI X tg iter wi)(hg:∀fp s H,PG (cxC X scope cl (X.N++ext) fp s H) tg g)(ht:∀fp s H,PTs (cxC X scope cl (X.N++ext) fp s H) ifs tt)(he:∀fp s H,PE (cxC X scope cl (X.N++ext) fp s H) elt te)(hs:∀x,foldedSetIterable iter X.env x=pure x:=by intro _; rfl):PE X (.ListComp elt [⟨tg,iter,ifs,0⟩] scope pos) (xO wi bs ext.length g tt te):=by
 intro pins s σ H Q I h;rw[eval_ListComp];refine Kv (use:=none) S hc hi hg ht he hs I h _ λacc s2 H2 fp σ' H' s' I2 f2 J q=>?_;obtain⟨m,hn,_⟩:=J.loc;exact⟨m,hn,λh' sb=>⟨.ref acc,H',G2 I2 f2 J sb,rfl,q⟩⟩
theorem ps_comp(S:CompS X scope cl bs ext)(hc:X.calm=true)(hN:X.N.Nodup)(hix:X.N[i]?=some x)(hx:X.env.scope.names.lookup x=some .local)(hi:PI X tg iter wi)(hg:∀fp s H,PG (cxC X scope cl (X.N++ext) fp s H) tg g)(ht:∀fp s H,PTs (cxC X scope cl (X.N++ext) fp s H) ifs tt)(he:∀fp s H,PE (cxC X scope cl (X.N++ext) fp s H) elt te)(hsw:swapsWith (.ListComp elt [⟨tg,iter,ifs,0⟩] scope pos) (some (.Name x pos')) spos.line X.env=pure true)(hs:∀x,foldedSetIterable iter X.env x=pure x:=by intro _; rfl):PS X (.Assign [.Name x pos'] (.ListComp elt [⟨tg,iter,ifs,0⟩] scope pos) spos) (tAsg (xO wi bs ext.length g tt te) (qV i)):=by
 intro pins s σ H D I h;rw[exec_Assign_Name_used _ _ _ _ hsw];refine wpAny_bind (wpAny_standAt (wpAny_bind ?_));show wpAny _ X.A (do let _ <-comprehension (.ListComp elt [⟨tg,iter,ifs,0⟩] scope pos) scope X.env _ (newList []) false (eval iter X.env) (some (assign (.Name x pos') X.env))) _ _ s;refine wpAny_bind (wpAny_mono (Kv (use:=some (assign (.Name x pos') X.env)) (RR:=λ_ s'=>SP X pins D .next s') S hc hi hg ht he hs I h _ λacc s2 H2 fp σ' H' s' I2 f2 J q=>?_) (λ_ s' hq=>wpAny_pure (wpAny_pure hq)) λ_ _ e=>e);have I5:Inv X pins σ H' s':=by
  have:=G2 (h':=s'.heap) I2 f2 J (.refl ..);exact this
 show wpAny _ X.A (assign (.Name x pos') X.env (.ref acc)) _ _ s';obtain⟨m,hn,_⟩:=J.loc;have hCL:s2.heap.objs.size≠X.env.locals:=Bh I2.lt;have nC:∀b o,s2.heap.get? b=some o->b≠s2.heap.objs.size:=λb o e=>UF (Heap.lt_size e);have cC:∀y c,X.env.cells.lookup y=some c->c≠s2.heap.objs.size:=λy c e=>by
  obtain⟨v,o,ho,_⟩:=I2.cell y c e;exact nC c o ho
 refine wpAny_assign_Name (Zp I5 hN hix (.inl hx) (v:=.ref acc) rfl (λs6 I6 k6=>?_) (.inr hx));obtain⟨a,sb6,ha⟩:=k6;have haC:a≠s2.heap.objs.size:=by
  rcases ha with z|z
  ·rw[z]; exact hCL.symm
  ·exact cC x a z
 refine⟨m,hn.sameBut sb6 haC.symm,λh' sb=>?_⟩;refine⟨_,H',I6.turned (t':=s6.toks) (it:=s2.heap.objs.size) (λb o hb e=>sb.extBut b o hb e) ?_ hCL (.inr (UC I2.ok.above (U1 I2.lt))) cC λp hp=>?_,q⟩
 ·have fr:H' s2.heap.objs.size=none:=J.free
  exact fr
 ·exact nC p.1 p.2 (I2.pin p hp).1
end
theorem G8(Pv:Nat->Hp->Prop)(h0:Pv 0 (upd H1 acc (.lst [])))(hl:∀i H,i<=xs.length->Pv i H->SqL Ξ H a xs)(hs:∀i x H,xs[i]?=some x->Pv i H->g x σ0 H λσ4 H4=>(ExtS σ0 σ4/\σ4.length=σ0.length)/\tt σ4 H4 λb H5 =>
   if b=true then te σ4 H5 λv H6=>∃ys,H6 acc=some (.lst ys)/\ys.length<sizeLine/\Pv (i+1) (upd H6 acc (.lst (ys++[v]))) else Pv (i+1) H5)(hd:∀H,Pv xs.length H->Q (.ref acc) H):CompW (Itl Ξ a) acc g tt te σ0 H1 Q:=by
 refine⟨λi m H=>m=xs.length-i/\i<=xs.length/\Pv i H,⟨xs.length,by simp,UY _,h0⟩, ?_⟩;rintro i m H ⟨rfl,hi,p⟩;have q:=hl i H hi p;by_cases hlt:i<xs.length
 ·refine .inr ⟨⟨xs,xs[i],q,by simp[hlt]⟩,Pv (i+1),λH' p'=>⟨xs.length-(i+1),by lia,rfl,hlt,p'⟩,λx H' y=>?_⟩
  obtain⟨e,y⟩:=y;subst e;exact hs i x _ (y xs q) p
 ·have e:i=xs.length:=by lia
  subst e;exact .inl ⟨⟨xs,q,Uk _⟩,hd H p⟩
def clOf(env:Env):List (Str×NameKind)->List (Str×Addr)->List (Str×Addr)
 | [],cs=>cs
 | (n,k)::r,cs=>clOf env r (if(k==NameKind.free)=true then(n,(env.cells.lookup n).getD 0)::cs else cs)
theorem clos_eq(scope:Scope)(h:∀p∈scope.names,p.2=.free->∃c,env.cells.lookup p.1=some c):closureFor scope env=pure (clOf env scope.names []):=by
 unfold closureFor;generalize([]:List (Str×Addr))=cs0;generalize scope.names=ns at h;have key:∀(ns:List (Str×NameKind))(cs:List (Str×Addr)),(∀p∈ns,p.2=.free->∃c,env.cells.lookup p.1=some c) ->
   (forIn ns cs λ(x:Str×NameKind) (r:List (Str×Addr))=>(match x with|(name,kind)=>if(kind==NameKind.free)=true then do let c <-cellOf env name; pure (ForInStep.yield ((name,c)::r)) else pure (ForInStep.yield r):Sem (ForInStep (List (Str×Addr)))))=pure (clOf env ns cs):=by
  intro ns
  induction ns with
  |nil=>intro cs _; rfl
  |cons p r ih =>
   intro cs hp;obtain⟨n,k⟩:=p;rw[List.forIn_cons];by_cases hk:(k==NameKind.free)=true
   ·obtain⟨c,hc⟩:=hp (n,k) UN (by simpa using hk)
    have hcell:cellOf env n=pure c:=by unfold cellOf; rw[hc]
    simp only[hk,if_true,hcell,pure_bind];rw[ih _ λq hq=>hp q (UP _ hq)];have hc':List.lookup n env.cells=some c:=hc;simp[clOf,hk,hc']
   ·simp only[hk,Df,if_false,pure_bind]
    rw[ih _ λq hq=>hp q (UP _ hq)];simp[clOf,hk]
 have:=key ns cs0 h;rw[show(do
   let mut cs:=cs0
   for (name,kind) in ns do
    if kind == .free then cs:=(name, <-cellOf env name)::cs
   return cs:Sem (List (Str×Addr)))=(forIn ns cs0 λ(x:Str×NameKind) (r:List (Str×Addr))=>(match x with|(name,kind)=>if(kind==NameKind.free)=true then do let c <-cellOf env name; pure (ForInStep.yield ((name,c)::r)) else pure (ForInStep.yield r):Sem (ForInStep (List (Str×Addr))))) >>= pure from rfl]
 rw[this,pure_bind]
theorem Kw:∀(ns:List (Str×NameKind))(cs:List (Str×Addr)),(∀p∈ns,p.2=.free->∃c,env.cells.lookup p.1=some c)->(∀x c,cs.lookup x=some c->env.cells.lookup x=some c)->∀x c,(clOf env ns cs).lookup x=some c->env.cells.lookup x=some c
 | [],cs,_,h,x,c,e=>h x c e
 | (n,k)::r,cs,hp,h,x,c,e=>by
  refine Kw r _ (λq hq=>hp q (UP _ hq)) (λy d e'=>?_) x c e;split at e'
  ·rename_i hk
   obtain⟨c',hc⟩:=hp (n,k) UN (by simpa using hk);rw[UD] at e';have hc':List.lookup n env.cells=some c':=hc;rw[hc'] at e';split at e'
   ·rename_i hy
    have hy':y=n:=by simpa using hy
    subst hy';rw[<-e']; exact hc'
   ·exact h y d e'
  ·exact h y d e'
theorem Kx:∀(ns:List (Str×NameKind))(cs:List (Str×Addr))(x:Str),((x,NameKind.free)∈ns\/∃c,cs.lookup x=some c)->∃c,(clOf env ns cs).lookup x=some c
 | [],cs,x,h=>by
  rcases h with h|h
  ·cases h
  ·exact h
 | (n,k)::r,cs,x,h=>by
  refine Kx r _ x ?_;rcases h with h|⟨c,h⟩
  ·rcases Up.mp h with h|h
   ·injection h with h1 h2
    subst h1 h2;right;exact⟨_,by simp[UD]; rfl⟩
   ·exact .inl h
  ·right
   split
   ·rw[UD]
    split
    ·exact⟨_,rfl⟩
    ·exact⟨c,h⟩
   ·exact⟨c,h⟩
def j2(scope:Scope)(env:Env)(N:List Str)(bs:List Bool):Bool :=
 scope.names.all (λp=>p.2 != .cell)&&(scope.kind == .function)&&scope.names.all (λp=>p.2 != .local||scope.names.lookup p.1==some .local)&&(bs.length==N.length)
  && scope.names.all (λp=>p.2 != .free||(env.kindOf p.1==some .cell||env.kindOf p.1==some .free))&&(N.zip bs).all (λp => !p.2||scope.names.lookup p.1==some .free)
theorem mem_of_lookup{β:Type}{x:Str}{b:β}:∀{l:List (Str×β)},l.lookup x=some b->(x,b)∈l
 | [],h=>by simp at h
 | (y,c)::r,h=>by
  rw[UD] at h;split at h
  ·rename_i hy
   have:x=y:=by simpa using hy
   subst this; cases h; exact UN
  ·exact UP _ (mem_of_lookup h)
theorem vZ{env:Env}:∀{names:List (Str×NameKind)}{x:Str}{k:NameKind},
  (names.map λ(n,k)=>if(k==NameKind.free&&env.scope.kind == .function&&env.kindOf n==some .cell) then(n,NameKind.cell) else(n,k)).lookup x=some k->names.lookup x=some k\/(k=.cell/\names.lookup x=some .free)
 | [],_,_,h=>by simp at h
 | (n,k')::r,x,k,h=>by
  have ih:=@vZ env r x k;have h':List.lookup x ((if(k'==NameKind.free&&env.scope.kind == .function&&env.kindOf n==some .cell)=true then(n,NameKind.cell) else(n,k'))::(r.map λ(n,k)=>if(k==NameKind.free&&env.scope.kind == .function&&env.kindOf n==some .cell) then(n,NameKind.cell) else(n,k)))=some k:=h;by_cases hc:(k'==NameKind.free&&env.scope.kind == .function&&env.kindOf n==some .cell)=true
  ·rw[if_pos hc,UD] at h'
   rw[UD];have hf:k'=.free:=by
    cases k'<;>first|rfl|(exfalso; revert hc; simp)
   split at h'
   ·right
    injection h' with h'
    rw[hf];exact⟨h'.symm,rfl⟩
   ·exact ih h'
  ·rw[if_neg hc,UD] at h'
   rw[UD];split at h'
   ·exact .inl h'
   ·exact ih h'
theorem CompS.of(I:Inv X pins σ H s)(h:j2 scope X.env X.N bs=true):CompS X scope (clOf X.env scope.names []) bs ext:=by
 unfold j2 at h;simp only[Dw,DH] at h;obtain⟨⟨⟨⟨⟨h1,h2⟩,h3⟩,h4⟩,h5⟩,h6⟩:=h;have hc:∀p∈scope.names,p.2=.free->∃c,X.env.cells.lookup p.1=some c:=λp hp hf=>by
  have:=h5 p hp;rw[hf] at this;refine I.ok.has p.1 ?_;simpa using this
 have nocell:∀{x:Str},scope.names.lookup x≠some .cell:=λ{x} e=>by
  have:=h1 _ (mem_of_lookup e);simp at this
 refine⟨clos_eq scope hc,λy hy=>by simpa using h1 y hy,by simpa using h2,λy hy hl=>?_,λx c e=>Kw scope.names [] hc (λ_ _ z=>by simp at z) x c e,λx hx=>?_,by simpa using h4,λi x hN hb hv=>?_⟩
 ·have:=h3 y hy
  rw[hl] at this;simpa using this
 ·refine Kx scope.names [] x (.inl ?_)
  rcases hx with hx|hx
  ·rcases vZ hx with z|⟨_,z⟩
   ·exact absurd z nocell
   ·exact mem_of_lookup z
  ·rcases vZ hx with z|⟨z,_⟩
   ·exact mem_of_lookup z
   ·cases z
 ·have hz:(x,true)∈X.N.zip bs:=by
   have:(X.N.zip bs)[i]?=some (x,true):=by
    rw[List.getElem?_zip_eq_some]; exact⟨hN,hb⟩
   exact Uh this
  have hf:=h6 _ hz;have hf:scope.names.lookup x=some .free:=by simpa using hf
  have hk:=h5 _ (mem_of_lookup hf);have hk:X.env.kindOf x=some .cell\/X.env.kindOf x=some .free:=by simpa using hk
  refine⟨λz=>?_,hk, ?_⟩
  ·rcases vZ z with q|⟨q,_⟩
   ·rw[hf] at q; cases q
   ·cases q
  ·rcases hk with q|q
   ·exact .inr (.inl q)
   ·exact .inr (.inr q)
section
abbrev cxB(X:Cx)(scope:Scope)(ext:List Str)(fp:List Addr)(s:Shared)(H:Hp):Cx:=cxC X scope (clOf X.env scope.names []) (X.N++ext) fp s H
theorem pe_lc(bs:List Bool)(ext:List Str)(hi:PI X tg iter wi)(hg:∀fp s H,PG (cxB X scope ext fp s H) tg g)(ht:∀fp s H,PTs (cxB X scope ext fp s H) ifs tt)(he:∀fp s H,PE (cxB X scope ext fp s H) elt te)(hk:j2 scope X.env X.N bs=true:=by rfl)(hc:X.calm=true:=by rfl)(hs:∀x,foldedSetIterable iter X.env x=pure x:=by intro _; rfl) :
  PE X (.ListComp elt [⟨tg,iter,ifs,0⟩] scope pos) (xO wi bs ext.length g tt te):=λpins s σ H Q I h=>pe_comp (CompS.of I hk) hc hi hg ht he hs pins s σ H Q I h
theorem ps_lc(bs:List Bool)(ext:List Str)(hN:X.N.Nodup)(hix:X.N[i]?=some x)(hx:X.env.scope.names.lookup x=some .local)(hi:PI X tg iter wi)(hg:∀fp s H,PG (cxB X scope ext fp s H) tg g)(ht:∀fp s H,PTs (cxB X scope ext fp s H) ifs tt)(he:∀fp s H,PE (cxB X scope ext fp s H) elt te)(hk:j2 scope X.env X.N bs=true:=by rfl)(hc:X.calm=true:=by rfl)(hsw:swapsWith (.ListComp elt [⟨tg,iter,ifs,0⟩] scope pos) (some (.Name x pos')) spos.line X.env=pure true:=by rfl)(hs:∀x,foldedSetIterable iter X.env x=pure x:=by intro _; rfl) :
  PS X (.Assign [.Name x pos'] (.ListComp elt [⟨tg,iter,ifs,0⟩] scope pos) spos) (tAsg (xO wi bs ext.length g tt te) (qV i)):=λpins s σ H D I h=>ps_comp (CompS.of I hk) hc hN hix hx hi hg ht he hsw hs pins s σ H D I h
end
def CDivB(i j:Int):Prop:=0<j/\j.natAbs.log2<9000
theorem noPyl(h:CDivB i j):Builtin.divisionGoesByPylong i j=false:=Ri h.2
theorem zF:OpR X (binaryOp .FloorDiv) (rI CDivB λi j=>.int (i / j)):=opI λi j _ _ _ _ _ hc q=>by
 refine floordiv_int (by have:=hc.1; lia) ?_ (.inl (noPyl hc));rw[DC _ (by have:=hc.1; lia)];exact q
section
theorem rd_I:rI C g (.int i) (.int j) H Q=(C i j/\Q (g i j) H) :=
 propext ⟨λ⟨_,_,e1,e2,h⟩=>by cases e1; cases e2; exact h,λh=>⟨i,j,rfl,rfl,h⟩⟩
theorem rd_I0:rI0 g (.int i) (.int j) H Q=Q (g i j) H :=
 propext ⟨λ⟨_,_,e1,e2,h⟩=>by cases e1; cases e2; exact h,λh=>⟨i,j,rfl,rfl,h⟩⟩
theorem rd_U:rU g (.int i) H Q=Q (g i) H :=
 propext ⟨λ⟨_,e1,h⟩=>by cases e1; exact h,λh=>⟨i,rfl,h⟩⟩
theorem Vx:Ve t σ H R=t σ H λx H'=>∃k,x=.bl k/\R k H':=rfl
theorem rd_bl{R:Bool->Prop}:(∃k',V.bl k=.bl k'/\R k')=R k:=propext ⟨λ⟨_,e,h⟩=>by cases e; exact h,λh=>⟨k,rfl,h⟩⟩
theorem rd_l1{R:Int->Prop}:(∃j,([V.int i]:List V)=[V.int j]/\R j)=R i:=propext ⟨λ⟨_,e,h⟩=>by cases e; exact h,λh=>⟨i,rfl,h⟩⟩
theorem rd_l2{R:Int->Int->Prop}:(∃i j,([V.int a,V.int b]:List V)=[V.int i,V.int j]/\R i j)=R a b:=propext ⟨λ⟨_,_,e,h⟩=>by cases e; exact h,λh=>⟨a,b,rfl,h⟩⟩
theorem rd_lr{R:Addr->List V->Prop}:(∃p ys,([V.ref a]:List V)=[V.ref p]/\R p ys)=∃ys,R a ys:=propext ⟨λ⟨_,ys,e,h⟩=>by cases e; exact⟨ys,h⟩,λ⟨ys,h⟩=>⟨a,ys,rfl,h⟩⟩
theorem xM(hp:H p=none)(h:H x=some o):upd H p o' x=some o:=by rw[upd_ne (qY h hp)]; exact h
theorem kh(hn:x≠p)(h:H x=some o):upd H p o' x=some o:=by rw[upd_ne hn]; exact h
theorem V3(h:upd H p o' x=none):H x=none/\x≠p:=by
 have hx:x≠p:=λe=>by subst e; rw[upd_same] at h; cases h
 rw[upd_ne hx] at h;exact⟨h,hx⟩
theorem Same.upd{H:Hp}{H1:Hp}{p:Addr}{o:HO}(s:Same H H1)(h:H p=none):Same H (upd H1 p o):=λb o' e=>by
 rw[upd_ne (qY e h)]; exact s b o' e
theorem ExtS.nl:ExtS [] []:=λ_ _ h=>h
theorem ExtS.no(h:ExtS a b):ExtS (none::a) (x::b):=λi v e=>by
 cases i with
 |zero=>simp at e
 |succ i=>simpa using h i v (by simpa using e)
theorem ExtS.sm(h:ExtS a b):ExtS (x::a) (x::b):=λi v e=>by
 cases i with
 |zero=>simpa using e
 |succ i=>simpa using h i v (by simpa using e)
end
structure Def(P:Program)(w:World)(Ξ:PySem.W.Frag)(mg:Str->Option Value)(base:Heap)(x:Str)(k:Nat)(ps:List Str)(sp:Sp):Prop where
 ex:∃(f:Addr)(fd:FuncData),mg x=some (.ref f)/\W.keepIn Ξ (.ref f)=true/\Binds Ξ fd ps []/\FnOk P w Ξ mg base CX0 k f fd ps sp
section
end
def rIsi(Ξ:PySem.W.Frag):List V->Hp->VK->Prop:=λxs H Q=>∃x n t b,xs=[x, .ty n]/\TyOf Ξ H x (.type t)/\W.kitOne Ξ (.type t) (.type n)=some b/\Q (.bl b) H
theorem call_isi:xG X (.builtin "isinstance") (rIsi X.K):=by
 intro pins s σ H xs us Q I r h;obtain⟨x,n,t,b,rfl,ty,e,q⟩:=h;obtain⟨u,v,rfl,ru,rv⟩:=vals2 r;obtain rfl:v=Value.type n:=rv;exact Gr I ru ty e λtk=>⟨.bl b,H,I.tok tk,rfl,q⟩
inductive DE(Ξ:PySem.W.Frag)(H:Hp):Nat->V->V->Bool->Prop
 |flat {n:Nat} {x y:V}:ke x=true->ke y=true->DE Ξ H n x y (eqV x y)
 |same {n:Nat} {a:Addr}:DE Ξ H n (.ref a) (.ref a) true
 |tup {n:Nat} {a b:Addr} {xs ys:List V} {e:Nat->Bool}:a≠b->SqT Ξ H a xs->SqT Ξ H b ys->(∀(j:Nat) x y,xs[j]?=some x->ys[j]?=some y->DE Ξ H n x y (e j))->DE Ξ H (n+1) (.ref a) (.ref b) ((List.range (min xs.length ys.length)).all e&&xs.length==ys.length)
 |lst {n:Nat} {a b:Addr} {xs ys:List V} {e:Nat->Bool}:a≠b->SqL Ξ H a xs->SqL Ξ H b ys->xs.length=ys.length->(∀(j:Nat) x y,xs[j]?=some x->ys[j]?=some y->DE Ξ H n x y (e j))->DE Ξ H (n+1) (.ref a) (.ref b) ((List.range xs.length).all e)
 |lstN {n:Nat} {a b:Addr} {xs ys:List V}:a≠b->SqL Ξ H a xs->SqL Ξ H b ys->xs.length≠ys.length->DE Ξ H (n+1) (.ref a) (.ref b) false
theorem xj{A:Around}:A.in1.units=A.units+1:=rfl
theorem DE.eqAt(I:Inv X pins σ H s)(d:DE X.K H n x y b):∀{A:Around}{u v:Value},A.units+n<cLine->RelV x u->RelV y v->SeqAt.EqAt A s u v b:=by
 induction d with
 |flat f g=>intro A u v _ rx ry; exact Z8 rx ry f g
 |same =>
  intro A u v _ rx ry;obtain rfl:u=_:=rx;obtain rfl:v=_:=ry;exact SeqAt.EqAt.same _
 | @tup n a b xs ys e ne ha hb _ ih =>
  intro A u v hu rx ry;obtain rfl:u=Value.ref a:=rx;obtain rfl:v=Value.ref b:=ry;obtain⟨its,r1,p1,_⟩:=I.tuple ha;obtain⟨its2,r2,p2,_⟩:=I.tuple hb;have:=SeqAt.RcAt.tuples (A:=A) (e:=e) p1 p2 (by lia) λj h1 h2=>by
   have l1:j<xs.length:=by rw[r1.length]; simpa using h1
   have l2:j<ys.length:=by rw[r2.length]; simpa using h2
   obtain⟨u1,q1,s1⟩:=r1.get (Uf l1);obtain⟨u2,q2,s2⟩:=r2.get (Uf l2);have e1:its.toArray[j]=u1:=by
    have:=Ue.mp q1;obtain⟨_,z⟩:=this;simpa using z
   have e2:its2.toArray[j]=u2:=by
    have:=Ue.mp q2;obtain⟨_,z⟩:=this;simpa using z
   rw[e1,e2];exact ih j _ _ (Uf l1) (Uf l2) (by rw[xj]; lia) s1 s2
  rw[Uo,Uo, <-r1.length, <-r2.length] at this;exact .of_refs ne this
 | @lst n a b xs ys e ne ha hb hl _ ih =>
  intro A u v hu rx ry;obtain rfl:u=Value.ref a:=rx;obtain rfl:v=Value.ref b:=ry;obtain⟨its,r1,p1,_⟩:=I.list ha;obtain⟨its2,r2,p2,_⟩:=I.list hb;have:=SeqAt.RcAt.lists (A:=A) (e:=e) p1.isList p2.isList (by simp[<-r1.length, <-r2.length,hl]) (by lia) λj h1 h2=>by
   have l1:j<xs.length:=by rw[r1.length]; simpa using h1
   have l2:j<ys.length:=by rw[r2.length]; simpa using h2
   obtain⟨u1,q1,s1⟩:=r1.get (Uf l1);obtain⟨u2,q2,s2⟩:=r2.get (Uf l2);have e1:its.toArray[j]=u1:=by
    have:=Ue.mp q1;obtain⟨_,z⟩:=this;simpa using z
   have e2:its2.toArray[j]=u2:=by
    have:=Ue.mp q2;obtain⟨_,z⟩:=this;simpa using z
   rw[e1,e2];exact ih j _ _ (Uf l1) (Uf l2) (by rw[xj]; lia) s1 s2
  rw[Uo, <-r1.length] at this;exact .of_refs ne this
 | @lstN n a b xs ys ne ha hb hl =>
  intro A u v hu rx ry;obtain rfl:u=Value.ref a:=rx;obtain rfl:v=Value.ref b:=ry;obtain⟨its,r1,p1,_⟩:=I.list ha;obtain⟨its2,r2,p2,_⟩:=I.list hb;exact .of_refs ne (SeqAt.RcAt.lists_lengths p1.isList p2.isList (by simp[<-r1.length, <-r2.length,hl]) (by lia))
end L2
namespace PySem.SeqAt
open AutoSeq1 (wpAny_loadPart')
open MeetsSeq MeetsSeq2 MeetsSeq3 SeqRoads2
theorem Vv(l:Addr)(items:Array Value)(n:Nat)(x:Value)(e:Nat->Bool)(j:Nat)(hj:j<items.size)(hit:e j=true)(k:Nat)(hs1:items.size<=sizeLine) :
  ∀i:Nat,j-i=k->i<=j->(∀m (hm:m<items.size),i<=m->m<j->e m=false)->Meets (Builtin.«list.remove.loop» ⟨[.ref l,x,rawInt i], []⟩)
   (λA R s=>s.heap.get? l=some { cls:=.type "list", dict:=none,data:=.seq items n,slots:=#[] }/\(∀m (hm:m<items.size),m<=j->EqAt A.in1 s items[m] x (e m))/\R (.ok (.ret .none)) { s with heap:=s.heap.update l (Obj.mapSeq λxs=>xs.eraseIdxIfInBounds j) }):=by
 induction k with
 |zero =>
  intro i hk hij hno prog w A R s h;obtain⟨hp,g,d,tk,os⟩:=s; obtain⟨hl,he,h⟩:=h;have hij':i=j:=by lia
  subst hij'
  wp_walk using wpAny_loadPart' hl;have hi:items[((i:Nat):Int).toNat]?=some items[i]:=by simp[hj]
  rw[hi];refine wpAny_bind (he _ hj (Uk _) prog w _ _ ?_);rw[hit];have hz':(items.eraseIdxIfInBounds i).size<=sizeLine+1:=UC (size_erased items _) (Rj hs1)
  wp_walk using(wpAny_updateSeq hl rfl (hz:=hs1) (_hz':=hz')),wpAny_loadPart' hl;simpa using h
 |succ k ih =>
  intro i hk hij hno prog w A R s h;obtain⟨hp,g,d,tk,os⟩:=s; obtain⟨hl,he,h⟩:=h;have hlt:i<items.size:=by lia
  wp_walk using wpAny_loadPart' hl;have hi:items[((i:Nat):Int).toNat]?=some items[i]:=by simp[hlt]
  have hc:((i:Int)+1)=((i+1:Nat):Int):=by push_cast; rfl
  rw[hi];refine wpAny_bind (he _ hlt (by lia) prog w _ _ ?_);rw[hno i hlt (Uk _) (by lia)]
  wp_walk;rw[hc];exact⟨plainId_quiet plain_remove_loop _,codeAny_builtin entry_remove_loop (by
   rw[Around.under_plainId plain_remove_loop _];exact ih (i+1) (by lia) (by lia) (λm hm h1 h2=>hno m hm (by lia) h2) prog w A R _ ⟨hl,he,h⟩)⟩
theorem list_removeAt(l:Addr)(items:Array Value)(n:Nat)(x:Value)(e:Nat->Bool)(j:Nat)(hj:j<items.size)(hit:e j=true)(hno:∀m (hm:m<items.size),m<j->e m=false)(hs1:items.size<=sizeLine:=by size_fits) :
  Meets (Builtin.«list.remove» ⟨[.ref l,x], []⟩)
   (λA R s=>s.heap.get? l=some { cls:=.type "list", dict:=none,data:=.seq items n,slots:=#[] }/\(∀m (hm:m<items.size),m<=j->EqAt A.in1 s items[m] x (e m))/\R (.ok (.ret .none)) { s with heap:=s.heap.update l (Obj.mapSeq λxs=>xs.eraseIdxIfInBounds j) }):=by
 intro prog w A R s h;obtain⟨hp,g,d,tk,os⟩:=s; obtain⟨hl,he,h⟩:=h
 wp_walk using wpAny_loadPart' hl;exact⟨plainId_quiet plain_remove_loop _,codeAny_builtin entry_remove_loop (by
  rw[Around.under_plainId plain_remove_loop _];exact Vv l items n x e j hj hit _ hs1 0 rfl (UY _) (λm hm _ h2=>hno m hm h2) prog w A R _ ⟨hl,he,h⟩)⟩
end PySem.SeqAt
namespace L2
open PySem PySem.Spec PyProof.Rows
def X3(Ξ:PySem.W.Frag):V->List V->Hp->VK->Prop:=λx vs H Q=>∃l xs y j,∃e:Nat->Bool,x=.ref l/\vs=[y]/\H l=some (.lst xs)/\j<xs.length/\e j=true/\(∀m,m<j->e m=false)/\(∀(m:Nat) z,m<=j->xs[m]?=some z->DE Ξ H 20 z y (e m))/\Q .non (upd H l (.lst (xs.eraseIdx j)))
theorem WY(hu:X.A.units+64<cLine):MtM X "list.remove" (X3 X.K):=by
 intro pins s σ H x vs v us Q I rx rv h;obtain⟨l,xs,y,j,e,rfl,rfl,hH,hj,hit,hno,he,q⟩:=h;cases rx;obtain⟨u,rfl,ru⟩:=rv.one;obtain⟨z,its,n,r,hl,eo⟩:=I.lstM hH;refine call_meets F.slot_list_remove ⟨_,eo,rfl⟩ F.entry_list_remove (F.args_list_remove_2 _ _) (SeqAt.list_removeAt l its.toArray n u e j (by simp; lia) hit (λm _ hm=>hno m hm) (by rw[Uo]; lia)) ⟨eo,λm hm hmj=>?_, ?_⟩
 ·have l1:m<xs.length:=by rw[hl]; simpa using hm
  obtain⟨u1,q1,s1⟩:=r.get (Uf l1);have e1:its.toArray[m]=u1:=by
   have:=Ue.mp q1;obtain⟨_,z⟩:=this;simpa using z
  rw[e1];exact(he m _ hmj (Uf l1)).eqAt I (by rw[xj]; lia) s1 ru
 ·refine⟨.non,_,I.lset (its':=its.eraseIdx j) hH eo (by simp) (r.eraseIdx j) (UC (ZW _ _) z),rfl,q⟩
structure Nms(mg:Str->Option Value):Prop where
 abs:mg "abs" = none
 len:mg "len" = none
 min:mg "min" = none
 max:mg "max" = none
 sum:mg "sum" = none
 sorted:mg "sorted" = none
 all:mg "all" = none
 any:mg "any" = none
 isinstance:mg "isinstance" = none
 range:mg "range" = none
 int:mg "int" = none
 list:mg "list" = none
 str:mg "str" = none
 bool:mg "bool" = none
 tuple:mg "tuple" = none
 zip:mg "zip" = none
 enumerate:mg "enumerate" = none
 dict:mg "dict" = none
theorem b_abs:bootBuiltins "abs" = some (.builtin "abs"):=by decide +kernel
theorem jx:bootBuiltins "len" = some (.builtin "len"):=by decide +kernel
theorem Yj:bootBuiltins "min" = some (.builtin "min"):=by decide +kernel
theorem kc:bootBuiltins "isinstance" = some (.builtin "isinstance"):=by decide +kernel
theorem qam:bootBuiltins "int" = some (.type "int"):=by decide +kernel
theorem QK:bootBuiltins "list" = some (.type "list"):=by decide +kernel
theorem b_str:bootBuiltins "str" = some (.type "str"):=by decide +kernel
def SameB(b:Addr)(H H':Hp):Prop:=∀x o,H x=some o->x≠b->H' x=some o
theorem SameB.trans(h:SameB b H H1)(k:SameB b H1 H2):SameB b H H2:=λx o e n=>k x o (h x o e n) n
theorem SameB.upd{b p:Addr}{H H1:Hp}{o:HO}(s:SameB b H H1)(h:H p=none\/p=b):SameB b H (upd H1 p o):=λx o' e n=>by
 have:x≠p:=by
  rcases h with h|h
  ·exact qY e h
  ·rw[h]; exact n
 rw[upd_ne this]; exact s x o' e n
def rLenL:List V->Hp->VK->Prop:=λvs H Q=>∃p ys,vs=[.ref p]/\H p=some (.lst ys)/\Q (.int ys.length) H
theorem vq:xG X (.builtin "len") rLenL:=by
 intro pins s σ H xs us Q I r h;obtain⟨p,ys,e,h,q⟩:=h;exact j9 pins s σ H xs us Q I r ⟨p,ys,e, .inl (SqL.of h),q⟩
section
theorem Kc(h:H p=some (.lst xs))(e:atI xs i=some v)(q:Q v H):rIxL Ξ (.ref p) (.int i) H Q:=⟨p,xs,i,v,rfl,rfl,SqL.of h,e,q⟩
theorem ixT_at(h:H p=some (.tup xs))(e:atI xs i=some v)(q:Q v H):rIxT Ξ (.ref p) (.int i) H Q:=⟨p,xs,i,v,rfl,rfl,SqT.of h,e,q⟩
theorem at0{α:Type}{x:α}{l:List α}:atI (x::l) 0=some x:=j4 (j:=0) rfl
theorem at1{α:Type}{x y:α}{l:List α}:atI (x::y::l) 1=some y:=j4 (j:=1) rfl
theorem setL_at(h:H p=some (.lst xs))(e:ixN xs.length i=some j)(q:R (upd H p (.lst (xs.set j v)))):rSetL (.ref p) (.int i) v H R:=⟨p,xs,i,j,rfl,rfl,h,e,q⟩
theorem eq_at(h:scal x y=true)(q:Q (.bl (decide (x=y))) H):rEq x y H Q:=⟨h,q⟩
theorem ne_at(h:scal x y=true)(q:Q (.bl (!decide (x=y))) H):rNe x y H Q:=⟨h,q⟩
theorem len_at(h:H p=some (.lst xs))(q:Q (.int xs.length) H):rLenL [.ref p] H Q:=⟨p,xs,rfl,h,q⟩
theorem Kh(h:H p=some (.tup [x,y]))(q:R ((σ.set i (some x)).set j (some y)) H):gTup Ξ 2 (vF (qV i) (vF (qV j) gNil)) (.ref p) σ H R :=
 ⟨p,_,rfl,SqT.of h,rfl,_,_,rfl,_,_,rfl,rfl,q⟩
theorem VS(h:H p=some (.tup [x,y,z]))(q:R (((σ.set i (some x)).set j (some y)).set k (some z)) H):gTup Ξ 3 (vF (qV i) (vF (qV j) (vF (qV k) gNil))) (.ref p) σ H R :=
 ⟨p,_,rfl,SqT.of h,rfl,_,_,rfl,_,_,rfl,_,_,rfl,rfl,q⟩
theorem xB:(V.int i=V.int j)=(i=j):=propext ⟨λh=>by cases h; rfl,λh=>by rw[h]⟩
theorem xA:(V.str i=V.str j)=(i=j):=propext ⟨λh=>by cases h; rfl,λh=>by rw[h]⟩
end
section
theorem pg_t2(hN:X.N.Nodup)(hc:X.calm=true)(hi:X.N[i]?=some x)(hj:X.N[j]?=some y)(lx:Loc X.env.scope x)(ly:Loc X.env.scope y)(fx:X.fn x=true\/X.env.scope.names.lookup x=some .local)(fy:X.fn y=true\/X.env.scope.names.lookup y=some .local) :
  PG X (.Tuple [.Name x px, .Name y py] kk pos) (gTup X.K 2 (vF (qV i) (vF (qV j) gNil))):=pg_tup hc (jm (jR hN hi lx fx) (jm (jR hN hj ly fy) Ws))
theorem pg_t3(hN:X.N.Nodup)(hc:X.calm=true)(hi:X.N[i]?=some x)(hj:X.N[j]?=some y)(hk:X.N[k]?=some z)(lx:Loc X.env.scope x)(ly:Loc X.env.scope y)(lz:Loc X.env.scope z)(fx:X.fn x=true\/X.env.scope.names.lookup x=some .local)(fy:X.fn y=true\/X.env.scope.names.lookup y=some .local)(fz:X.fn z=true\/X.env.scope.names.lookup z=some .local) :
  PG X (.Tuple [.Name x px, .Name y py, .Name z pz] kk pos) (gTup X.K 3 (vF (qV i) (vF (qV j) (vF (qV k) gNil)))):=pg_tup hc (jm (jR hN hi lx fx) (jm (jR hN hj ly fy) (jm (jR hN hk lz fz) Ws)))
end
section
theorem qq(h:X.K=Ξ):IxR X (rIxL Ξ):=h▸ix_list
theorem qN(h:X.K=Ξ):IxR X (rIxT Ξ):=h▸ix_tup
theorem vU(h:X.K=Ξ):SlR X (rSlL Ξ):=h▸sl_list
theorem op_inK(h:X.K=Ξ):OpR X (compareOp .In) (rIn Ξ false):=h▸WA
theorem Xi(h:X.K=Ξ):xG X (.builtin "isinstance") (rIsi Ξ):=h▸call_isi
theorem K1(h:X.K=Ξ)(hu:X.A.units+64<cLine):MtM X "list.remove" (X3 Ξ):=h▸WY hu
def tTru(Ξ:PySem.W.Frag)(ta:TE):TT:=λσ H Q=>ta σ H λx H'=>∃k,TruV Ξ x H' k/\Q k H'
def LmStep(x:V)(H:Hp)(k:Prop):Prop:=∃p xs,x=.ref p/\H p=some (.lst xs)/\k
theorem lm_at(h:H p=some (.lst xs))(q:k):LmStep (.ref p) H k:=⟨p,xs,rfl,h,q⟩
def tLM(r:V->List V->Hp->VK->Prop)(to:TE)(t:TA):TE:=λσ H Q=>to σ H λx H1=>LmStep x H1 (t σ H1 λvs H2=>r x vs H2 Q)
end
def ForW(J:It)(g:TG)(tb:TS)(D:Ends)(σ:St)(H1:Hp):Prop:=∃W:Nat->Nat->St->Hp->Prop,(∃m,W 0 m σ H1)/\∀i m σ H,W i m σ H ->
 (J.stop i H/\D.nx σ H)\/(J.go i H/\∃N:St->Hp->Prop,(∀σ' H',N σ' H'->∃m',m'<m/\W (i+1) m' σ' H')/\∀x H',J.yld i H x H'->g x σ H' λσ2 H2=>tb { D with nx:=N,ct:=N,bk:=D.nx } σ2 H2)
theorem JY:tFor wi g tb D σ H=wi σ H λJ H1=>ForW J g tb D σ H1:=rfl
def ItStep(Ξ:PySem.W.Frag)(x:V)(H:Hp)(R:It->Hp->Prop):Prop:=∃a,x=.ref a/\(∃xs,SqL Ξ H a xs)/\R (Itl Ξ a) H
theorem ko:Yc Ξ tl σ H R=tl σ H λx H1=>ItStep Ξ x H1 R:=rfl
theorem it_at(h:H p=some (.lst xs))(q:R (Itl Ξ p) H):ItStep Ξ (.ref p) H R:=⟨p,rfl,⟨xs,SqL.of h⟩,q⟩
def RgStep(vs:List V)(H:Hp)(R:It->Hp->Prop):Prop:=∃j:Int,vs=[.int j] /\ -(2^62)<=j/\j<2^62/\R (Itr 0 j.toNat) H
theorem km:Gv ta σ H R=ta σ H λvs H1=>RgStep vs H1 R:=rfl
theorem rd_pi{R:Int->Prop}:(∃i,V.int k=.int i/\R i)=R k:=propext ⟨λ⟨_,e,h⟩=>by cases e; exact h,λh=>⟨k,rfl,h⟩⟩
structure MDef(P:Program)(w:World)(Ξ:PySem.W.Frag)(mg:Str->Option Value)(base:Heap)(C:Addr)(m:Str)(k:Nat)(ps:List Str)(sp:Sp):Prop where
 ex:∃(f:Addr)(fd:FuncData),Meth Ξ C m f/\Binds Ξ fd ps []/\FnOk P w Ξ mg base CX0 k f fd ps sp
end L2
namespace PySem.SeqAt
open AutoSeq1 (wpAny_loadPart')
open MeetsSeq MeetsSeq2 MeetsSeq3 SeqRoads2
theorem tuple_index3(l:Addr)(its:Array Value)(n:Nat)(dd:Option Addr)(sl:Array (Option Value))(a b c x:Value)(e:Nat->Bool)(hi:its=#[a,b,c])(j:Nat)(hj:j<3)(hit:e j=true)(hno:∀m,m<j->e m=false) :
  Meets (Builtin.«tuple.index» ⟨[.ref l,x], []⟩)
   (λA R s=>s.heap.get? l=some { cls:=.type "tuple", dict:=dd,data:=.seq its n,slots:=sl }/\EqAt A.in1 s a x (e 0)/\EqAt A.in1 s b x (e 1)/\EqAt A.in1 s c x (e 2)/\R (.ok (.ret (.int j s.toks))) { s with toks:=s.toks+1 }):=by
 intro prog w A R s h;obtain⟨hp,g,d,tk,os⟩:=s; obtain⟨hl,h0,h1,h2,h⟩:=h;subst hi;unfold Builtin.«tuple.index»;simp only[Std.Legacy.Range.forIn_eq_forIn_range']
 wp_walk using wpAny_loadPart' hl;simp only[Uo,Ul,U6,Std.Legacy.Range.size,Bi,show List.range' 0 ((0+1+1+1-0+1-1) / 1) 1=[0,1,2] from rfl,List.forIn_cons,List.forIn_nil];simp only[List.forIn'.loop];rcases(show j=0\/j=1\/j=2 by lia) with rfl|rfl|rfl
 ·rw[hit] at h0
  refine wpAny_bind (wpAny_bind (h0 prog w _ _ ?_))
  wp_walk;exact h
 ·rw[hno 0 (by lia)] at h0
  rw[hit] at h1;refine wpAny_bind (wpAny_bind (h0 prog w _ _ ?_));simp only[Df,if_false];refine wpAny_pure ?_;refine wpAny_bind (wpAny_bind (h1 prog w _ _ ?_))
  wp_walk;exact h
 ·rw[hno 0 (by lia)] at h0
  rw[hno 1 (by lia)] at h1;rw[hit] at h2;refine wpAny_bind (wpAny_bind (h0 prog w _ _ ?_));simp only[Df,if_false];refine wpAny_pure ?_;refine wpAny_bind (wpAny_bind (h1 prog w _ _ ?_));simp only[Df,if_false];refine wpAny_pure ?_;refine wpAny_bind (wpAny_bind (h2 prog w _ _ ?_))
  wp_walk;exact h
end PySem.SeqAt
namespace L2
open PySem PySem.Spec PyProof.Rows
theorem GQ(a b:Str):eqV (.str a) (.str b)=decide (a=b):=by
 by_cases h:a=b<;>simp[eqV,h]
structure Tup3(Ξ:PySem.W.Frag)(mg:Str->Option Value)(nm:Str)(p:Addr)(x y z:Str):Prop where
 mg:mg nm=some (.ref p)
 lk:∃(a b c:Tok)(n:Nat)(sl:Array (Option Value)),Ξ.lookup p=some ⟨.type "tuple", none, .seq #[.str x a, .str y b, .str z c] n,sl⟩
theorem Tup3.sq{mg:Str->Option Value}(T:Tup3 Ξ mg nm p x y z)(H:Hp):SqT Ξ H p [.str x, .str y, .str z]:=by
 obtain⟨a,b,c,n,sl,e⟩:=T.lk;exact .inr ⟨_,_,n,e,rfl,rfl,(by decide:3<=sizeLine), .cons ⟨a,rfl⟩ (.cons ⟨b,rfl⟩ (.cons ⟨c,rfl⟩ .nil))⟩
theorem Tup3.ty{mg:Str->Option Value}(T:Tup3 Ξ mg nm p x y z)(H:Hp):tyV Ξ "tuple" (.ref p) H:=by
 obtain⟨a,b,c,n,sl,e⟩:=T.lk;exact .inr (.inl ⟨rfl,_,e,rfl,rfl⟩)
def rIdxT(p:Addr)(x y z:Str):V->List V->Hp->VK->Prop:=λv vs H Q=>∃(t:Str)(j:Nat),v=.ref p/\vs=[.str t]/\[x,y,z][j]?=some t/\(∀m,m<j->[x,y,z][m]?≠some t)/\Q (.int j) H
theorem WZ(hK:X.K=Ξ)(T:Tup3 Ξ mg nm p x y z):MtR X "tuple.index" (rIdxT p x y z):=by
 subst hK;intro pins s σ H v vs w us Q I rx rv h;obtain⟨t,j,rfl,rfl,hj,hno,q⟩:=h;cases rx;obtain⟨u,rfl,ru⟩:=rv.one;obtain⟨tk,rfl⟩:=ru;obtain⟨a,b,c,n,sl,e⟩:=T.lk;have eo:=I.kIn p _ e;have hj3:j<3:=(Ue.mp hj).1;refine call_meets F.slot_tuple_index ⟨_,eo,rfl⟩ F.entry_tuple_index (F.args_tuple_index_2 _ _) (SeqAt.tuple_index3 p _ n none sl (.str x a) (.str y b) (.str z c) (.str t tk) (λm=>match m with|0=>eqV (.str x) (.str t)|1=>eqV (.str y) (.str t)|2=>eqV (.str z) (.str t)|_=>false) rfl j hj3 ?_ ?_)
  ⟨eo,Z8 (y:=.str x) (x:=.str t) ⟨a,rfl⟩ ⟨tk,rfl⟩ rfl rfl,Z8 (y:=.str y) (x:=.str t) ⟨b,rfl⟩ ⟨tk,rfl⟩ rfl rfl,Z8 (y:=.str z) (x:=.str t) ⟨c,rfl⟩ ⟨tk,rfl⟩ rfl rfl,⟨.int j,H,I.tok _,⟨_,rfl⟩,q⟩⟩
 ·rcases(show j=0\/j=1\/j=2 by lia) with rfl|rfl|rfl<;>(simp at hj; subst hj; simp[GQ])
 ·intro m hm
  have:=hno m hm;rcases(show m=0\/m=1\/m=2 by lia) with rfl|rfl|rfl<;>(simp at this; simp[GQ,this])
def h00:Heap:={}
def J9(h:Heap)(L:Addr):List (Addr×Obj):=(List.range h.objs.size).filterMap λa=>if a=L then none else(h.get? a).map λo=>(a,o)
theorem Kf(a:Addr):h00.get? a=none:=Heap.get?_none_of_le (UY _)
theorem news_mem(e:h.get? b=some o)(n:b≠L):(b,o)∈J9 h L:=by
 refine U3.mpr ⟨b,Di.mpr (Heap.lt_size e), ?_⟩;rw[if_neg n,e];rfl
theorem news_of:News h00 L h (J9 h L):=λp hp=>by
 obtain⟨a,_,e⟩:=U3.mp hp;by_cases n:a=L
 ·rw[if_pos n] at e; cases e
 ·rw[if_neg n] at e
  cases q:h.get? a with
  |none=>rw[q] at e; cases e
  |some o=>rw[q] at e; cases e; exact⟨q,n,Kf _⟩
theorem Inv.ledger(I:Inv X pins σ H s):∃m,Fr h00 X.env.locals s.heap m/\News h00 X.env.locals s.heap (J9 s.heap X.env.locals) /\
  ∀(h':Heap)(tk:Nat),Fr h00 X.env.locals h' m->News h00 X.env.locals h' (J9 s.heap X.env.locals)->Inv X pins σ H { s with heap:=h',toks:=tk }:=by
 obtain⟨m,hn,_⟩:=I.loc;refine⟨m,⟨hn,λb o e=>(by rw[Kf] at e; cases e),UY _⟩,news_of,λh' tk F W=>?_⟩;have kp:∀b o,b≠X.env.locals->s.heap.get? b=some o->h'.get? b=some o:=λb o n e=>(W _ (news_mem e n)).1;refine I.step (ch:=[]) (H':=H) (λb hb=>nomatch hb) (λb o n _ _ e _=>kp b o n e) (λb o n _ _ e _=>⟨o.slots,kp b o n e⟩) (λb o _ _ z=>z) (λb o _ e=>?_) (λ_ _ z=>z) (λ_ _ _ z=>z) (λb ps z=>⟨#[],by simpa using z⟩) (λm' hm'=>?_) (λa o e=>?_) I.bare
 ·by_cases n:b=X.env.locals
  ·subst n
   obtain⟨o',_,_,e',_⟩:=F.ns;exact⟨o',e'⟩
  ·exact⟨o,kp b o n e⟩
 ·have:m'=m:=funext λx=>by
   obtain⟨o,es,ep,e1,e2,e3,e4⟩:=hm';obtain⟨o',es',ep',f1,f2,f3,f4⟩:=hn;rw[e1] at f1; cases f1;rw[e2] at f2; cases f2;rw[<-e4, <-f4]
  rw[this];exact F.ns
 ·refine(I.hok a o e).stay (λb u hb q=>kp b u ?_ q) (λ_ q=>q) λ_ _ q=>q
  intro z;subst z;have:=I.free;rcases hb with hb|hb
  ·subst hb; rw[e] at this; cases this
  ·rw[hb] at this; cases this
def rLenA(Ξ:PySem.W.Frag):List V->Hp->VK->Prop:=λxs H Q=>∃p ys,xs=[.ref p]/\(SqL Ξ H p ys\/SqT Ξ H p ys)/\Q (.int ys.length) H
theorem Yi(h:X.K=Ξ):xG X (.builtin "len") (rLenA Ξ):=h▸j9
structure GInt(mg:Str->Option Value)(nm:Str)(n:Int):Prop where
 ex:∃t,mg nm=some (.int n t)
def Bt(n:Nat)(i:Int):Prop:=i.natAbs<2^n
theorem Bt.bits(h:Bt n i):Builtin.Int.intBits i<=n:=intBits_le_iff.mpr h
theorem Bt.mono(h:Bt n i)(hm:n<=m):Bt m i:=Ux h (Da (by decide) hm)
theorem Bt.neg(h:Bt n i):Bt n (-i):=by unfold Bt; rw[RY]; exact h
theorem Bt.add(h:Bt n i)(h':Bt m j):Bt (max n m+1) (i+j):=by
 have a:=h.mono (Nat.le_max_left n m);have b:=h'.mono (Nat.le_max_right n m);unfold Bt at *;have:=Int.natAbs_add_le i j;rw[Nat.pow_succ];lia
theorem Bt.sub(h:Bt n i)(h':Bt m j):Bt (max n m+1) (i-j):=by
 rw[Int.sub_eq_add_neg];exact h.add h'.neg
theorem Bt.shl(h:Bt n i):Bt (n+k) (i*2^k):=by
 unfold Bt at *;rw[Int.natAbs_mul,Int.natAbs_pow,Rq];exact Nat.mul_lt_mul_of_pos_right h (Nat.pow_pos (by decide))
theorem Bt.pow(k:Nat):Bt (1+k) ((1:Int)*2^k):=Bt.shl (n:=1) (by unfold Bt; decide)
theorem Bt.small(h0 : -(2^62)<i)(h1:i<2^62)(hn:62<=n):Bt n i:=by
 refine Bt.mono (n:=62) ?_ hn;unfold Bt;lia
theorem Bt.nonneg_le(h:Bt n i)(h0:0<=j)(h1:j<=i):Bt n j:=by
 unfold Bt at *;lia
theorem Bt.sign(h:Bt n i)(hs:s=1\/s = -1):Bt n (s*i):=by
 rcases hs with rfl|rfl
 ·rw[UM]; exact h
 ·rw[Int.neg_mul,UM]; exact h.neg
def CShlB(i j:Int):Prop:=0<=j/\j<=100000/\Bt 100000 i
theorem op_shlB:OpR X (binaryOp .LShift) (rI CShlB λi j=>.int (i*2^j.toNat)):=opI λi j _ _ _ _ _ hc q=>lshift_int hc.1 (by
 have:=hc.2.2.bits;have h2:=hc.2.1;lia) q
def rBits:V->List V->Hp->VK->Prop:=λx vs H Q=>∃n:Int,x=.int n/\vs=[]/\Q (.int (Builtin.Int.intBits n)) H
theorem mt_bits:MtR X "int.bit_length" rBits:=by
 intro pins s σ H x vs v us Q I rx rv h;obtain⟨n,rfl,rfl,q⟩:=h;obtain⟨t,rfl⟩:=rx;cases rv;exact call_int_bit_length ⟨.int _,H,I.tok _,⟨_,rfl⟩,q⟩
theorem op_notB:OpR X (compareOp .IsNot) (λx y H Q=>∃b c:Bool,x=.bl b/\y=.bl c/\Q (.bl (b != c)) H):=by
 intro pins s σ H x y v u Q I rx ry h;obtain⟨b,c,rfl,rfl,q⟩:=h;obtain rfl:=(show v=Value.bool b from rx);obtain rfl:=(show u=Value.bool c from ry);cases b<;>cases c
 ·exact wpAny_isNot_self rfl ⟨.bl false,H,I,rfl,q⟩
 ·exact wpAny_isNot_other rfl (λz=>nomatch z) ⟨.bl true,H,I,rfl,q⟩
 ·exact wpAny_isNot_other rfl (λz=>nomatch z) ⟨.bl true,H,I,rfl,q⟩
 ·exact wpAny_isNot_self rfl ⟨.bl false,H,I,rfl,q⟩
structure Nms2(mg:Str->Option Value):Prop where
 reversed:mg "reversed" = none
def Itv(Ξ:PySem.W.Frag)(a:Addr)(n:Nat):It :=
 ⟨λi H=>i<n/\∃xs,SqL Ξ H a xs/\xs.length=n,λi H x H'=>H'=H/\∀xs,SqL Ξ H a xs->xs[n-1-i]?=some x,λi H=>n=i⟩
theorem turn_rev(a it:Addr)(n:Nat):Turn P w Ξ tg (Itv Ξ a n) [it] it (λi h=>h.IsRevIter it a ((n:Int)-1-i)) where
 mem:=by simp
 obj:=λi h st b hb=>by
  have e:b=it:=by simpa using hb
  subst e;obtain⟨o,e,c,d⟩:=st;exact⟨o,e,λv z=>by rw[d] at z; cases z⟩
 keep:=λi h h' st k=>st.at λo e=>k it (by simp) o e
 item:=by
  intro X hP hw hK hc i pins s σ H E I hf st hg;subst hP hw hK;obtain⟨hi,xs,hq,hn⟩:=hg;obtain⟨its,rv,p,hz⟩:=I.list hq;have hx:xs[n-1-i]?=some xs[n-1-i]:=Uf (by lia);obtain⟨u,hu,ru⟩:=rv.get hx;obtain⟨f0,f1,f2,f3,f4,f5⟩:=hf it (by simp);have st2:s.heap.IsRevIter it a (((n-1-i:Nat)):Int):=by
   have e:(((n-1-i:Nat)):Int)=(n:Int)-1-i:=by lia
   rw[e]; exact st
  refine wpAny_pyNext_rev_item st2 p.isList (x:=u) (by simpa using hu) λh' st' sb=>?_;have I1:Inv X pins σ H { s with heap:=h' }:=I.turned (t':=s.toks) (λb o hb e=>(sb.2 b hb).trans e) f0 f1 f3 f4 f5;obtain⟨o,e,c,d⟩:=id st';have st3:h'.IsRevIter it a ((n:Int)-1-((i+1:Nat):Int)):=by
   have e:(n:Int)-1-((i+1:Nat):Int)=((n-1-i:Nat):Int)-1:=by lia
   rw[e]; exact st'
  exact⟨u,rfl,go_of (s:={ s with heap:=h' }) e c d (by decide) ⟨_,H,I1,ru,⟨rfl,λys hy=>by rw[I.list_inj hy hq]; exact hx⟩,st3,λb hb=>(hf b hb).1⟩⟩
 done:=by
  intro X hP hw hK hc i pins s σ H E I hf st hg;subst hP hw hK;obtain⟨f0,f1,f2,f3,f4,f5⟩:=hf it (by simp);have st2:s.heap.IsRevIter it a (-1):=by
   have e:(n:Int)-1-i = -1:=by have:n=i:=hg; lia
   rw[e] at st; exact st
  exact wpAny_pyNext_rev_end (I.ok.hd hc) st2 λh' eb=>⟨rfl,I.turned (t':=s.toks) (λb o hb e=>eb b o hb e) f0 f1 f3 f4 f5⟩
 self:=λ_ _ _ _ _ st h=>wpAny_pyIter_revIter st h
def RvStep(Ξ:PySem.W.Frag)(vs:List V)(H:Hp)(R:It->Hp->Prop):Prop:=∃a xs,vs=[.ref a]/\SqL Ξ H a xs/\R (Itv Ξ a xs.length) H
def iRev(Ξ:PySem.W.Frag)(ta:TA):TI:=λσ H R=>ta σ H λvs H1=>RvStep Ξ vs H1 R
theorem Vy:iRev Ξ ta σ H R=ta σ H λvs H1=>RvStep Ξ vs H1 R:=rfl
def Ite(Ξ:PySem.W.Frag)(a:Addr):It :=
 ⟨λi H=>∃xs x,SqL Ξ H a xs/\xs[i]?=some x,λi H x H'=>∃(p:Addr)(v:V),x=.ref p/\H p=none/\H'=upd H p (.tup [.int i,v])/\∀xs,SqL Ξ H a xs->xs[i]?=some v,λi H=>∃xs,SqL Ξ H a xs/\xs.length<=i⟩
def EnStep(Ξ:PySem.W.Frag)(vs:List V)(H:Hp)(R:It->Hp->Prop):Prop:=∃a xs,vs=[.ref a]/\SqL Ξ H a xs/\R (Ite Ξ a) H
def iEnum(Ξ:PySem.W.Frag)(ta:TA):TI:=λσ H R=>ta σ H λvs H1=>EnStep Ξ vs H1 R
theorem kq:iEnum Ξ ta σ H R=ta σ H λvs H1=>EnStep Ξ vs H1 R:=rfl
def rNeL(Ξ:PySem.W.Frag):R2:=λx y H Q=>∃a b xs ys,x=.ref a/\y=.ref b/\SqL Ξ H a xs/\SqL Ξ H b ys/\((xs.length≠ys.length/\Q (.bl true) H)\/(xs.length=ys.length/\∃e:Nat->Bool,(∀(j:Nat) x y,xs[j]?=some x->ys[j]?=some y->DE Ξ H 20 x y (e j))/\Q (.bl (!(List.range xs.length).all e)) H))
def rEqL(Ξ:PySem.W.Frag):R2:=λx y H Q=>∃a b xs ys,x=.ref a/\y=.ref b/\SqL Ξ H a xs/\SqL Ξ H b ys/\((xs.length≠ys.length/\Q (.bl false) H)\/(xs.length=ys.length/\∃e:Nat->Bool,(∀(j:Nat) x y,xs[j]?=some x->ys[j]?=some y->DE Ξ H 20 x y (e j))/\Q (.bl ((List.range xs.length).all e)) H))
theorem op_neLK(hK:X.K=Ξ)(hu:X.A.units+64<cLine):OpR X (compareOp .NotEq) (rNeL Ξ):=by
 subst hK;intro pins s σ H x y v u Q I rx ry h;obtain⟨a,b,xs,ys,rfl,rfl,ha,hb,h⟩:=h;obtain rfl:v=Value.ref a:=rx;obtain rfl:u=Value.ref b:=ry;obtain⟨its,r1,p1,_⟩:=I.list ha;obtain⟨its2,r2,p2,_⟩:=I.list hb;rcases h with⟨hl,q⟩|⟨hl,e,he,q⟩
 ·exact EqBoolInt.of_rcne (SeqAt.RcNeAt.lists_lengths (A:=X.A) p1.isList p2.isList (by simp[<-r1.length, <-r2.length,hl]) (by lia)) ⟨.bl _,H,I,rfl,q⟩
 ·refine EqBoolInt.of_rcne (SeqAt.RcNeAt.lists (A:=X.A) (e:=e) p1.isList p2.isList (by simp[<-r1.length, <-r2.length,hl]) (by lia) λj h1 h2=>?_) ⟨.bl _,H,I,rfl, ?_⟩
  ·have l1:j<xs.length:=by rw[r1.length]; simpa using h1
   have l2:j<ys.length:=by rw[r2.length]; simpa using h2
   obtain⟨u1,q1,s1⟩:=r1.get (Uf l1);obtain⟨u2,q2,s2⟩:=r2.get (Uf l2);have e1:its.toArray[j]=u1:=by
    obtain⟨_,z⟩:=Ue.mp q1;simpa using z
   have e2:its2.toArray[j]=u2:=by
    obtain⟨_,z⟩:=Ue.mp q2;simpa using z
   rw[e1,e2];exact(he j _ _ (Uf l1) (Uf l2)).eqAt I (by rw[xj]; lia) s1 s2
  ·rw[Uo, <-r1.length]
   exact q
theorem VH(hK:X.K=Ξ)(hu:X.A.units+64<cLine):OpR X (compareOp .Eq) (rEqL Ξ):=by
 subst hK;intro pins s σ H x y v u Q I rx ry h;obtain⟨a,b,xs,ys,rfl,rfl,ha,hb,h⟩:=h;obtain rfl:v=Value.ref a:=rx;obtain rfl:u=Value.ref b:=ry;obtain⟨its,r1,p1,_⟩:=I.list ha;obtain⟨its2,r2,p2,_⟩:=I.list hb;rcases h with⟨hl,q⟩|⟨hl,e,he,q⟩
 ·exact EqBoolInt.of_rc (SeqAt.RcAt.lists_lengths (A:=X.A) p1.isList p2.isList (by simp[<-r1.length, <-r2.length,hl]) (by lia)) ⟨.bl _,H,I,rfl,q⟩
 ·refine EqBoolInt.of_rc (SeqAt.RcAt.lists (A:=X.A) (e:=e) p1.isList p2.isList (by simp[<-r1.length, <-r2.length,hl]) (by lia) λj h1 h2=>?_) ⟨.bl _,H,I,rfl, ?_⟩
  ·have l1:j<xs.length:=by rw[r1.length]; simpa using h1
   have l2:j<ys.length:=by rw[r2.length]; simpa using h2
   obtain⟨u1,q1,s1⟩:=r1.get (Uf l1);obtain⟨u2,q2,s2⟩:=r2.get (Uf l2);have e1:its.toArray[j]=u1:=by
    obtain⟨_,z⟩:=Ue.mp q1;simpa using z
   have e2:its2.toArray[j]=u2:=by
    obtain⟨_,z⟩:=Ue.mp q2;simpa using z
   rw[e1,e2];exact(he j _ _ (Uf l1) (Uf l2)).eqAt I (by rw[xj]; lia) s1 s2
  ·rw[Uo, <-r1.length]
   exact q
theorem qaq{α:Type}[DecidableEq α]{ns ms:List α}(hl:ns.length=ms.length):(List.range ns.length).all (λj=>ns[j]?==ms[j]?)=decide (ns=ms):=by
 rw[DO,decide_eq_true_iff,DH];constructor
 ·intro h
  refine List.ext_getElem? λj=>?_;by_cases hj:j<ns.length
  ·exact eq_of_beq (h j (Di.mpr hj))
  ·rw[RE (by lia),RE (by lia)]
 ·rintro rfl j _
  simp
def ixRev(n:Nat):List Nat:=sliceRange (sliceBounds none none (some (-1)) n).1 (sliceBounds none none (some (-1)) n).2.1 (sliceBounds none none (some (-1)) n).2.2
def pickV(xs:List V):List V:=(ixRev xs.length).filterMap λi=>xs[i]?
def RevStep(Ξ:PySem.W.Frag)(x:V)(H:Hp)(Q:VK):Prop:=∃a xs,x=.ref a/\SqL Ξ H a xs/\∀r,H r=none->Q (.ref r) (upd H r (.lst (pickV xs)))
def tRev(Ξ:PySem.W.Frag)(te:TE):TE:=λσ H Q=>te σ H λx H1=>RevStep Ξ x H1 Q
def WT:Expr->Bool
 |.Starred _ _=>false
 |_=>true
theorem YG(h:WT e=true):starEach (e::es) env=(false,eval e env)::starEach es env:=by
 cases e<;>first|rfl|cases h
structure QE(X:Cx)(e:Expr)(t:TE):Prop where
 h:PE X e t
structure QT(X:Cx)(e:Expr)(t:TT):Prop where
 h:PT X e t
structure QW(X:Cx)(e:Expr)(t:TT):Prop where
 h:PW X e t
structure QA(X:Cx)(e:List Expr)(t:TA):Prop where
 h:PA X e t
structure QS(X:Cx)(e:Stmt)(t:TS):Prop where
 h:PS X e t
structure QSs(X:Cx)(e:List Stmt)(t:TS):Prop where
 h:PSs X e t
structure QG(X:Cx)(e:Expr)(t:TG):Prop where
 h:PG X e t
structure QTs(X:Cx)(e:List Expr)(t:TT):Prop where
 h:PTs X e t
structure QO(X:Cx)(e:Option Expr)(t:TO):Prop where
 h:PO X e t
structure QI(X:Cx)(tg e:Expr)(t:TI):Prop where
 h:PI X tg e t
structure QPs(X:Cx)(pos:Pos)(ks:List (Option Expr))(vs:List Expr)(t:List (TE×TE)):Prop where
 h:PPs X pos ks vs t
section
theorem qP:QSs X [] Vf:=⟨pss_nil ⟩
end
section
theorem qi{st:Stmt}(h1:QS X st t):QSs X [st] t:=⟨by
 intro pins s σ H D I h;refine wpAny_execs_cons (thn (h1.h pins s σ H D I h) λf s1 q=>?_);cases f with
 |next=>exact wpAny_execs_nil q
 |ret v=>exact q
 |brk=>exact q
 |cont=>exact q⟩
end
section
theorem qf{rest:List Stmt}{st:Stmt}(h1:QS X st t)(h2:QSs X rest u):QSs X (st::rest) (tSeq t u):=⟨by
 intro pins s σ H D I h;refine wpAny_execs_cons (thn (h1.h pins s σ H { D with nx:=u D } I h) λf s1 q=>?_);cases f with
 |next =>
  obtain⟨σ',H',I',q⟩:=q;exact h2.h pins s1 σ' H' D I' q
 |ret v=>exact q
 |brk=>exact q
 |cont=>exact q⟩
end
section
theorem qs_lc(bs:List Bool)(ext:List Str)(hN:X.N.Nodup)(hix:X.N[i]?=some x)(hx:X.env.scope.names.lookup x=some .local)(hi:QI X tg iter wi)(hg:∀fp s H,QG (cxB X scope ext fp s H) tg g)(ht:∀fp s H,QTs (cxB X scope ext fp s H) ifs tt)(he:∀fp s H,QE (cxB X scope ext fp s H) elt te)(hk:j2 scope X.env X.N bs=true:=by rfl)(hc:X.calm=true:=by rfl)(hsw:swapsWith (.ListComp elt [⟨tg,iter,ifs,0⟩] scope pos) (some (.Name x pos')) spos.line X.env=pure true:=by rfl)(hs:∀x,foldedSetIterable iter X.env x=pure x:=by intro _; rfl):QS X (.Assign [.Name x pos'] (.ListComp elt [⟨tg,iter,ifs,0⟩] scope pos) spos) (tAsg (xO wi bs ext.length g tt te) (qV i)):=⟨ps_lc bs ext hN hix hx hi.h (λfp s H=>(hg fp s H).h) (λfp s H=>(ht fp s H).h) (λfp s H=>(he fp s H).h) hk hc hsw hs⟩
end
section
theorem jk(ha:QE X o ta)(hv:QE X value tv)(hs:swapsWith value (some (.Attribute o f pos')) pos.line X.env=pure false):QS X (.Assign [.Attribute o f pos'] value pos) (sFld X.K ta tv f):=⟨by
 intro pins s σ H D I h;refine plainObj_wpAny_Assign_Attribute (thn (hv.h pins s σ H _ I h) λu s1 ⟨y,H1,I1,ry,q⟩=>thn (ha.h pins s1 σ H1 _ I1 q) λov s2 ⟨x,H2,I2,rx,a,C,dx,fs,ex,ea,c,n,l,q2⟩=>?_) hs;subst ex;obtain rfl:ov=Value.ref a:=rx;exact QY I2 ea c n l ry λs3 I3=>⟨σ,_,I3,q2⟩⟩
end
section
theorem qy(hN:X.N.Nodup)(hi:X.N[i]?=some x)(hx:Loc X.env.scope x)(he:QE X e te)(hs:swapsWith e (some (.Name x pos')) pos.line X.env=pure false:=by rfl)(hf:X.fn x=true\/X.env.scope.names.lookup x=some .local:=by first|exact .inl rfl|exact .inr rfl|assumption):QS X (.Assign [.Name x pos'] e pos) (tAsg te (qV i)):=⟨by
 intro pins s σ H D I h;refine wpAny_Assign_Name (thn (he.h pins s σ H _ I h) λv s1 ⟨y,H1,I1,r1,q1⟩=>?_) hs;exact jh I1 hN hi hx r1 (λs2 I2=>⟨_,H1,I2,q1⟩) hf⟩
end
section
theorem zd(he:QE X e te)(hg:QG X tg g)(hs:swapsWithSole [tg] e pos.line X.env=pure false:=by rfl)(hw:swappedStores [tg] e X.env=pure none:=by rfl)(h1:(assignEach [tg] X.env).map (·.2)=[assign tg X.env]:=by rfl):QS X (.Assign [tg] e pos) (tAsg te g):=⟨by
 intro pins s σ H D I h;refine wpAny_Assign_stores (thn (he.h pins s σ H _ I h) λv s1 ⟨x,H1,I1,r1,q1⟩=>?_) hs hw;rw[h1];exact thn (hg.h pins s1 σ H1 x v _ I1 r1 q1) λ_ s2 q=>q⟩
end
section
theorem qs_aug(hN:X.N.Nodup)(hi:X.N[i]?=some x)(hx:Loc X.env.scope x)(he:QE X e te)(ho:PIp X op ti)(hf:X.fn x=true\/X.env.scope.names.lookup x=some .local:=by first|exact .inl rfl|exact .inr rfl|assumption):QS X (.AugAssign (.Name x pos') op e pos) (tAug i te ti):=⟨by
 intro pins s σ H D I h;obtain⟨v,e1,h⟩:=h;obtain⟨m,hn,hl⟩:=I.loc;have vis:Vis X.env.scope x:=by rcases hx with k|k; exact .inl k; exact .inr (.inl k)
 obtain⟨u,r,l⟩:=hl i x v hi e1 vis;refine wpAny_AugAssign_Name ?_;have go:wpAny (model X.prog X.w) X.A (eval e X.env) (λw s₂=>wpAny (model X.prog X.w) X.A (inplaceOp op u w) (λr s₃=>wpAny (model X.prog X.w) X.A (storeName X.env x r) (λ_=>SP X pins D .next) X.xe s₃) X.xe s₂) X.xe s:=by
  refine thn (he.h pins s σ H _ I h) λw s1 ⟨y,H1,I1,r1,q1⟩=>?_;refine thn (ho pins s1 σ H1 v y u w _ I1 r r1 q1) λz s2 ⟨zv,H2,I2,r2,q2⟩=>?_;exact jh I2 hN hi hx r2 (λs3 I3=>⟨_,H2,I3,q2⟩) hf
 rcases l with⟨hk,hm⟩|⟨hk,c,hc,hcell⟩
 ·exact wpAny_loadName_local I.ok.kind hk hn hm go
 ·rcases hk with hk|hk
  ·exact wpAny_loadName_cell I.ok.kind hk hc hcell go
  ·rcases hx with k|k
   ·have:X.env.scope.names.lookup x=some .free:=hk
    rw[k] at this; cases this
   ·have:X.env.scope.names.lookup x=some .free:=hk
    rw[k] at this; cases this⟩
end
section
theorem qs_retN:QS X (.Return none pos) Zl:=⟨ps_retN ⟩
end
section
theorem qt(he:QE X e te):QS X (.Return (some e) pos) (tRet te):=⟨by
 intro pins s σ H D I h;exact wpAny_Return_some (thn (he.h pins s σ H _ I h) λv s1 ⟨x,H1,I1,r1,q1⟩=>⟨x,σ,H1,I1,r1,q1⟩)⟩
end
section
theorem vG(hc:QT X c tc)(ha:QSs X a t)(hb:QSs X b u):QS X (.If c a b pos) (tIfS tc t u):=⟨by
 intro pins s σ H D I h;refine wpAny_If (thn (hc.h pins s σ H _ I h) λd s1 ⟨H1,I1,q1⟩=>?_);cases d with
 |true=>exact ha.h pins s1 σ H1 D I1 q1
 |false=>exact hb.h pins s1 σ H1 D I1 q1⟩
end
section
theorem j7(hp:PassesOwn (model X.prog X.w) X.A X.env X.xe)(hc:X.calm=true)(hi:QI X tg iter wi)(hg:QG X tg g)(hb:QSs X body tb)(hs:∀x,foldedSetIterable iter X.env x=pure x:=by intro _; rfl):QS X (.For tg iter body [] pos) (tFor wi g tb):=⟨ps_for hp hc hi.h hg.h hb.h hs⟩
end
section
theorem kr(hp:PassesOwn (model X.prog X.w) X.A X.env X.xe)(hc:QT X c tc)(hb:QSs X body tb):QS X (.While c body [] pos) (JV tc tb):=⟨by
 intro pins s σ H D I h;obtain⟨W,⟨m0,w0⟩,turn⟩:=h;refine wpAny_While (codeAny_whileLoop (λn s'=>∃σ' H',Inv X pins σ' H' s'/\W n σ' H') ?_ m0 ⟨σ,H,I,w0⟩);rintro n s1 ⟨σ1,H1,I1,w1⟩;refine wpAny_passesOwn hp (thn (hc.h pins s1 σ1 H1 _ I1 (turn n σ1 H1 w1)) λb s2 ⟨H2,I2,q2⟩=>?_);cases b with
 |true =>
  obtain⟨N,hN,q2⟩:=q2;rw[if_pos rfl];refine wpAny_passesOwn hp (thn (hb.h pins s2 σ1 H2 _ I2 q2) λf s3 q3=>?_);cases f with
  |next =>
   obtain⟨σ3,H3,I3,n3⟩:=q3;obtain⟨m',hm,w3⟩:=hN σ3 H3 n3;exact⟨m',hm,σ3,H3,I3,w3⟩
  |cont =>
   obtain⟨σ3,H3,I3,n3⟩:=q3;obtain⟨m',hm,w3⟩:=hN σ3 H3 n3;exact⟨m',hm,σ3,H3,I3,w3⟩
  |brk=>exact q3
  |ret v=>exact q3
 |false =>
  rw[if_neg Ur];exact wpAny_execs_nil ⟨σ1,H2,I2,q2⟩⟩
end
section
theorem vN(he:QE X e te)(hs:swapsWith e none pos.line X.env=pure false:=by rfl):QS X (.Expr e pos) (Zn te):=⟨by
 intro pins s σ H D I h;exact wpAny_Expr_any (thn (he.h pins s σ H _ I h) λv s1 ⟨x,H1,I1,r1,q1⟩=>⟨σ,H1,I1,q1⟩) I.quiet hs⟩
end
section
theorem Qg(hg:Gl X "range")(hm:X.mg "range" = none)(ha:QA X [a] ta)(hs:starEach [a] X.env=[(false,eval a X.env)]:=by rfl):QI X tg (.Call (.Name "range" p) [a] [] pos) (Gv ta):=⟨by
 intro pins s σ H R I h;refine Call_ (ZY I hg hm boot_range (PyProof.Rows.callWith_type1 (thn (ha.h pos pins s σ H _ I h) λus s1 ⟨vs,H1,I1,r1,q1⟩=>?_) hs rfl));obtain⟨j,e,q1,q2,q⟩:=q1;subst e;cases r1 with
 |cons r rr =>
  cases rr;obtain⟨t,rfl⟩:=r;exact call_range_1 (range_it I1 (by lia) (by lia) q1 q2 (by simpa using q))⟩
end
section
theorem qi_revK(hK:X.K=Ξ)(hg:Gl X "reversed")(hm:X.mg "reversed" = none)(ha:QA X [a] ta)(hs:starEach [a] X.env=[(false,eval a X.env)]:=by rfl):QI X tg (.Call (.Name "reversed" p) [a] [] pos) (iRev Ξ ta):=⟨by
 subst hK;intro pins s σ H R I h;refine Call_ (ZY I hg hm boot_reversed (PyProof.Rows.callWith_type1 (thn (ha.h pos pins s σ H _ I h) λus s1 ⟨vs,H1,I1,r1,q1⟩=>?_) hs rfl));obtain⟨l,xs,e,hq,q⟩:=q1;subst e;cases r1 with
 |cons r rr =>
  cases rr;cases r;obtain⟨its,rv,pl,hz⟩:=I1.list hq;have hlen:=rv.length;refine call_reversed_list pl.isList (wpAny_pyIter_revIter ⟨_,Heap.get?_push_size _ rfl,rfl,rfl⟩ ?_);refine⟨s1.heap.objs.size, [s1.heap.objs.size],_,_,H1,rfl,I1.kept (t':=s1.toks) λb o e=>Heap.get?_push_of_some _ e,turn_rev l _ xs.length, ?_,λb hb=>?_,q⟩
  ·refine⟨_,Heap.get?_push_size _ rfl,rfl, ?_⟩
   rw[hlen];simp;rfl
  ·have e:b=s1.heap.objs.size:=by simpa using hb
   subst e;exact I1.fpOk (Uk _) (I1.hok.fresh (Uk _))⟩
end
section
theorem vL(h:X.K=Ξ)(hl:QE X l tl):QI X tg l (Yc Ξ tl):=⟨h▸pi_list hl.h⟩
end
section
theorem vP(hN:X.N.Nodup)(hi:X.N[i]?=some x)(hx:Loc X.env.scope x)(hf:X.fn x=true\/X.env.scope.names.lookup x=some .local:=by first|exact .inl rfl|exact .inr rfl|assumption):QG X (.Name x pos) (qV i):=⟨jR hN hi hx hf⟩
end
section
theorem We(h:X.K=Ξ)(hN:X.N.Nodup)(hc:X.calm=true)(hi:X.N[i]?=some x)(hj:X.N[j]?=some y)(lx:Loc X.env.scope x)(ly:Loc X.env.scope y)(fx:X.fn x=true\/X.env.scope.names.lookup x=some .local)(fy:X.fn y=true\/X.env.scope.names.lookup y=some .local):QG X (.Tuple [.Name x px, .Name y py] kk pos) (gTup Ξ 2 (vF (qV i) (vF (qV j) gNil))):=⟨h▸pg_t2 hN hc hi hj lx ly fx fy⟩
end
section
theorem Wc(h:X.K=Ξ)(hN:X.N.Nodup)(hc:X.calm=true)(hi:X.N[i]?=some x)(hj:X.N[j]?=some y)(hk:X.N[k]?=some z)(lx:Loc X.env.scope x)(ly:Loc X.env.scope y)(lz:Loc X.env.scope z)(fx:X.fn x=true\/X.env.scope.names.lookup x=some .local)(fy:X.fn y=true\/X.env.scope.names.lookup y=some .local)(fz:X.fn z=true\/X.env.scope.names.lookup z=some .local):QG X (.Tuple [.Name x px, .Name y py, .Name z pz] kk pos) (gTup Ξ 3 (vF (qV i) (vF (qV j) (vF (qV k) gNil)))):=⟨h▸pg_t3 hN hc hi hj hk lx ly lz fx fy fz⟩
end
section
theorem zw(ho:QE X o to)(hi:QE X i ti)(hs:PSet X t)(ha:∀v,assign (.Subscript o i pos) X.env v=(do
   let ov <-holding [v] (eval o X.env);let iv <-holding [v,ov] (eval i X.env)
   standAt pos
   holding [v,ov,iv] (setItem ov iv v)
   release [v,ov,iv] []):=by intro _; rfl):QG X (.Subscript o i pos) (gSub to ti t):=⟨by
 intro pins s σ H v u Q I r h;rw[ha];refine wpAny_bind (wpAny_holding (thn (ho.h pins s σ H _ I h) λov s1 ⟨x,H1,I1,r1,q1⟩=>?_));refine wpAny_bind (wpAny_holding (thn (hi.h pins s1 σ H1 _ I1 q1) λiv s2 ⟨y,H2,I2,r2,q2⟩=>?_));refine wpAny_bind (wpAny_standAt (wpAny_bind (wpAny_holding (thn (hs pins s2 σ H2 x y v ov iv u _ I2 r1 r2 r q2) λ_ s3 ⟨H3,I3,q3⟩=>?_))));exact wpAny_release ⟨σ,H3,I3,q3⟩⟩
end
section
theorem VB:QTs X [] tYes:=⟨pts_nil ⟩
end
section
theorem jP(h:QT X c t):QTs X [c] t:=⟨λpins s σ H Q I q=>wpAny_tests_one (h.h pins s σ H Q I q)⟩
end
section
theorem qa_c(ha:QE X e te)(hr:QA X es t)(h:WT e=true:=by rfl):QA X (e::es) (zS te t):=⟨pa_cons ha.h hr.h (YG h)⟩
end
section
theorem qc:QA X [] tNil:=⟨pa_nil ⟩
end
section
theorem qw(ho:OpR X (compareOp op) r)(ha:QE X a ta)(hb:QE X b tb)(hm:behindInMarks op b=false):QT X (.Compare a [op] [b] pos) (Ve (tOp r ta tb)):=⟨by
 intro pins s σ H Q I h;refine wpAny_isTrue_Compare1 (thn (ha.h pins s σ H _ I h) λv s1 ⟨x,H1,I1,r1,q1⟩=>thn (hb.h pins s1 σ H1 _ I1 q1) λu s2 ⟨y,H2,I2,r2,q2⟩ =>
  thn (ho pins s2 σ H2 x y v u _ I2 r1 r2 q2) λc s3 ⟨z,H3,I3,r3,k,e,q3⟩=>?_) hm
 subst e;cases r3;exact wpAny_truthy_bool ⟨H3,I3,q3⟩⟩
end
section
theorem X5(h:QW X e t):QT X e t:=⟨PW.pt h.h⟩
end
section
theorem Zx{rest:List Expr}(ha:QT X a tA)(hb:QW X (.BoolOp .And (b::rest) pos) tB'):QW X (.BoolOp .And (a::b::rest) pos) (tAnd tA tB'):=⟨by
 intro wh pins s σ H Q I h;refine isTrue_and (thn (ha.h pins s σ H _ I h) λc s1 ⟨H1,I1,q1⟩=>?_);cases c with
 |true=>exact hb.h wh pins s1 σ H1 Q I1 q1
 |false=>exact⟨H1,I1,q1⟩⟩
end
section
theorem Qe(ha:QT X a tA):QW X (.BoolOp .And [a] pos) tA:=⟨by
 intro wh pins s σ H Q I h;refine isTrue_and (thn (ha.h pins s σ H Q I h) λc s1 e=>?_);cases c with
 |true=>exact isTrue_and_nil e
 |false=>exact e⟩
end
section
theorem Y9{rest:List Expr}(ha:QT X a tA)(hb:QW X (.BoolOp .Or (b::rest) pos) tB'):QW X (.BoolOp .Or (a::b::rest) pos) (tOr tA tB'):=⟨by
 intro wh pins s σ H Q I h;refine isTrue_or (thn (ha.h pins s σ H _ I h) λc s1 ⟨H1,I1,q1⟩=>?_);cases c with
 |true=>exact⟨H1,I1,q1⟩
 |false=>exact hb.h wh pins s1 σ H1 Q I1 q1⟩
end
section
theorem qw_or1(ha:QT X a tA):QW X (.BoolOp .Or [a] pos) tA:=⟨by
 intro wh pins s σ H Q I h;refine isTrue_or (thn (ha.h pins s σ H Q I h) λc s1 e=>?_);cases c with
 |false=>exact isTrue_or_nil e
 |true=>exact e⟩
end
section
theorem qt_not(ha:QT X a tA):QT X (.UnaryOp .Not a pos) (tNot tA):=⟨by
 intro pins s σ H Q I h;exact isTrue_not (ha.h pins s σ H (λc H1=>Q (!c) H1) I h)⟩
end
section
theorem xg(h:QE X e t)(he:∀whole,isTrue e X.env whole=(do let v <-whole; standAt e.pos; holding [v] (truthy v)):=by intro _; rfl):QT X e (tB t):=⟨by
 intro pins s σ H Q I hw;refine isTrue_plain (thn (h.h pins s σ H _ I hw) λv s1 ⟨x,H1,I1,r1,q1⟩=>?_) (he _);obtain⟨d,rfl,q⟩:=q1;cases r1;exact wpAny_truthy_bool ⟨H1,I1,q⟩⟩
end
section
theorem Zy(h:X.K=Ξ)(ha:QE X a ta)(he:∀whole,isTrue a X.env whole=(do let v <-whole; standAt a.pos; holding [v] (truthy v))):QT X a (tTru Ξ ta):=⟨h▸pt_truth ha.h he⟩
end
section
theorem xJ:QE X (.Constant .none j pos) (tC .non):=⟨pe_non ⟩
end
section
theorem KP:QE X (.Constant (.bool b) j pos) (tC (.bl b)):=⟨pe_bl ⟩
end
section
theorem qe:QE X (.Constant (.int i) j pos) (tC (.int i)):=⟨pe_int ⟩
end
section
theorem qD:QE X (.Constant (.str x) j pos) (tC (.str x)):=⟨pe_str ⟩
end
section
theorem qv(i:Nat)(hN:X.N[i]?=some x:=by rfl)(hv:Vis X.env.scope x:=by first|exact Or.inl rfl|exact Or.inr (Or.inl rfl)|exact Or.inr (Or.inr rfl))(hd:(x==("__debug__" : Str))=false:=by decide)(hcd:(x==("__classdict__" : Str))=false:=by decide):QE X (.Name x pos) (tVar i):=⟨pe_var hN hv hd hcd⟩
end
section
theorem qe_un(ho:UnR X (unaryOp op) r)(ha:QE X a ta):QE X (.UnaryOp op a pos) (tUn r ta):=⟨by
 intro pins s σ H Q I h;exact UnaryOp_ (thn (ha.h pins s σ H _ I h) λv s1 ⟨x,H1,I1,r1,q1⟩=>ho pins s1 σ H1 x v Q I1 r1 q1)⟩
end
section
theorem ql(ho:OpR X (binaryOp op) r)(ha:QE X a ta)(hb:QE X b tb):QE X (.BinOp a op b pos) (tOp r ta tb):=⟨by
 intro pins s σ H Q I h;exact wpAny_BinOp (binT ha.h hb.h I h λv u s2 x y H2 I2 rx ry q=>ho pins s2 σ H2 x y v u Q I2 rx ry q)⟩
end
section
theorem vC(ho:OpR X (compareOp op) r)(ha:QE X a ta)(hb:QE X b tb)(hm:behindInMarks op b=false):QE X (.Compare a [op] [b] pos) (tOp r ta tb):=⟨by
 intro pins s σ H Q I h;exact wpAny_Compare1 (binT ha.h hb.h I h λv u s2 x y H2 I2 rx ry q=>ho pins s2 σ H2 x y v u Q I2 rx ry q) hm⟩
end
section
theorem J0(ho:OpR X (compareOp op) r)(ho':OpR X (compareOp op') r')(ha:QE X a ta)(hb:QE X b tb)(hc:QE X c tc)(hm:lastMarks [op,op'] [b,c]=false:=by with_unfolding_all rfl):QE X (.Compare a [op,op'] [b,c] pos) (j6 r r' ta tb tc):=⟨by
 intro pins s σ H Q I h;refine Compare_chain (thn (ha.h pins s σ H _ I h) λv s1 ⟨x,H1,I1,r1,q1⟩=>chain_link (thn (hb.h pins s1 σ H1 _ I1 q1) λu s2 ⟨y,H2,I2,r2,q2⟩ =>
  thn (ho pins s2 σ H2 x y v u _ I2 r1 r2 q2) λd s3 ⟨z,H3,I3,r3,k,e,q3⟩=>?_)) hm
 subst e;cases r3;refine wpAny_truthy_bool ?_;cases k with
 |false=>exact ite_ff ⟨.bl false,H3,I3,rfl,q3⟩
 |true=>exact ite_tt (chain_last (thn (hc.h pins s3 σ H3 _ I3 q3) λw' s4 ⟨z',H4,I4,r4,q4⟩=>ho' pins s4 σ H4 y z' u w' Q I4 r2 r4 q4))⟩
end
section
theorem JZ(h:QE X a t):QE X (.BoolOp op [a] pos) t:=⟨λpins s σ H Q I hw=>BoolOp_one (h.h pins s σ H Q I hw)⟩
end
section
theorem Q0{rest:List Expr}(ha:QE X a ta)(hb:QE X (.BoolOp .And (b::rest) pos) tb):QE X (.BoolOp .And (a::b::rest) pos) (Zo ta tb):=⟨by
 intro pins s σ H Q I h;refine BoolOp_and (thn (ha.h pins s σ H _ I h) λv s1 ⟨x,H1,I1,r1,q1⟩=>?_);obtain⟨c,rfl,q1⟩:=q1;cases r1;refine wpAny_truthy_bool ?_;cases c with
 |true=>exact hb.h pins s1 σ H1 Q I1 q1
 |false=>exact⟨.bl false,H1,I1,rfl,q1⟩⟩
end
section
theorem vX(hc:QT X c tA)(ha:QE X a ta)(hb:QE X b tb):QE X (.IfExp c a b pos) (tIf tA ta tb):=⟨by
 intro pins s σ H Q I h;refine wpAny_IfExp (thn (hc.h pins s σ H _ I h) λd s1 ⟨H1,I1,q1⟩=>?_);cases d with
 |true=>exact ha.h pins s1 σ H1 Q I1 q1
 |false=>exact hb.h pins s1 σ H1 Q I1 q1⟩
end
section
theorem qR(h:QA X es t):QE X (.List es pos) (tLst t):=⟨by
 intro pins s σ H Q I hq;refine wpAny_List_spliced (thn (h.h pos pins s σ H _ I hq) λus s1 ⟨xs,H1,I1,r,z,q⟩=>⟨by rw[<-r.length]; exact z, ?_⟩);have hf:H1 s1.heap.objs.size=none:=I1.hok.fresh (Uk _);refine⟨.ref s1.heap.objs.size,upd H1 s1.heap.objs.size (.lst xs),I1.laid (t':=s1.toks) (λb u e=>Heap.get?_push_of_some _ e) (Uk _) ?_,rfl,q _ hf⟩;exact⟨z,us,0,r,Heap.get?_push_size _ rfl⟩⟩
end
section
theorem qS(h:QA X es t):QE X (.Tuple es x1 pos) (tTup t):=⟨by
 intro pins s σ H Q I hq;refine wpAny_Tuple_spliced (thn (h.h pos pins s σ H _ I hq) λus s1 ⟨xs,H1,I1,r,z,q⟩=>⟨by rw[<-r.length]; exact z, ?_⟩);have hf:H1 s1.heap.objs.size=none:=I1.hok.fresh (Uk _);refine⟨.ref s1.heap.objs.size,upd H1 s1.heap.objs.size (.tup xs),I1.laid (t':=s1.toks) (λb u e=>Heap.get?_push_of_some _ e) (Uk _) ?_,rfl,q _ hf⟩;exact⟨z,us,r,⟨_,Heap.get?_push_size _ rfl,rfl,_,rfl⟩⟩⟩
end
section
theorem vW{hi lo:Option Expr}(hr:SlR X r)(he:QE X e te)(hl:QO X lo tl)(hu:QO X hi th):QE X (.Subscript e (.Slice lo hi none p2) pos) (tSl r te tl th):=⟨by
 intro pins s σ H Q I h;refine Subscript_ (thn (he.h pins s σ H _ I h) λv s1 ⟨x,H1,I1,r1,q1⟩=>?_);refine wpAny_Slice (thn (hl.h pins s1 σ H1 _ I1 q1) λvl s2 ⟨l,H2,I2,pl,q2⟩=>thn (hu.h pins s2 σ H2 _ I2 q2) λvu s3 ⟨u,H3,I3,pu,q3⟩=>?_);rw[evalPart_none];refine wpAny_pure ?_;have I4:Inv X pins σ H3 { s3 with heap:=s3.heap.push { cls:=.type "slice", data:=.fields #[vl,vu, .none] } }:=I3.kept (t':=s3.toks) λb ob q=>Heap.get?_push_of_some _ q;obtain⟨T,id,hT,ht,hg⟩:=hr pins { s3 with heap:=s3.heap.push { cls:=.type "slice", data:=.fields #[vl,vu, .none] } } σ H3 x v vl vu l u s3.heap.objs.size Q I4 r1 (Heap.IsSliceOf.new ..) pl pu q3;show wpAny (model X.prog X.w) X.A (subscriptTail e (.Slice lo hi none p2) v (.ref s3.heap.objs.size)) (EP X pins σ Q) X.xe { s3 with heap:=s3.heap.push { cls:=.type "slice", data:=.fields #[vl,vu, .none] } };exact tail_any (ops:=[.ref s3.heap.objs.size,v]) ht hT hg (by with_unfolding_all rfl)⟩
end
section
theorem vO(h:QE X e te):QO X (some e) (Zm te):=⟨by
 intro pins s σ H Q I hw;rw[evalPart_some];refine thn (h.h pins s σ H _ I hw) λu s1 ⟨x,H1,I1,r1,q1⟩=>?_;obtain⟨i,rfl,q⟩:=q1;obtain⟨t,rfl⟩:=r1;exact⟨some i,H1,I1, .int i t,q⟩⟩
end
section
theorem jQ:QO X none zR:=⟨po_none ⟩
end
section
theorem qH(hr:IxR X r)(ha:QE X a ta)(hb:QE X b tb)(hs:qar b):QE X (.Subscript a b pos) (tOp r ta tb):=⟨by
 intro pins s σ H Q I h;exact Subscript_ (binT ha.h hb.h I h λv u s2 x y H2 I2 rx ry q=>hr a b pins s2 σ H2 x y v u Q I2 rx ry q (hs _ _))⟩
end
section
theorem X7(hu:X.A.units+1<cLine)(ho:QE X o td)(hi:QE X i ty)(hs:NoSl i):QE X (.Subscript o i pos) (YE td ty):=⟨by
 intro pins s σ H Q I h;refine YF PySem.F.slot_dict_getitem.lookup hs (thn (ho.h pins s σ H _ I h) λu s1 ⟨x,H1,I1,rx,q1⟩=>thn (hi.h pins s1 σ H1 _ I1 q1) λiv s2 ⟨y,H2,I2,ry,a,v,ex,g,q2⟩=>?_);subst ex;obtain rfl:u=Value.ref a:=rx;exact⟨JA I2 g,G0 hu I2 g ry λw' s3 I3 rw'=>⟨v,H2,I3,rw',q2⟩⟩⟩
end
section
theorem vd(he:QE X e ta)(hb:attributeBase e f X.env (eval e X.env)=eval e X.env):QE X (.Attribute e f pos) (tFld X.K ta f):=⟨by
 intro pins s σ H Q I h;refine attr_of hb (thn (he.h pins s σ H _ I h) λu s1 ⟨x,H1,I1,rx,a,C,dx,fs,v,ex,ea,c,n,l,q⟩=>?_);subst ex;obtain rfl:u=Value.ref a:=rx;exact Q4 I1 ea c n l λu' s2 I2 ru=>⟨v,H1,I2,ru,q⟩⟩
end
section
theorem VC(bs:List Bool)(ext:List Str)(hi:QI X tg iter wi)(hg:∀fp s H,QG (cxB X scope ext fp s H) tg g)(ht:∀fp s H,QTs (cxB X scope ext fp s H) ifs tt)(he:∀fp s H,QE (cxB X scope ext fp s H) elt te)(hk:j2 scope X.env X.N bs=true:=by rfl)(hc:X.calm=true:=by rfl)(hs:∀x,foldedSetIterable iter X.env x=pure x:=by intro _; rfl):QE X (.ListComp elt [⟨tg,iter,ifs,0⟩] scope pos) (xO wi bs ext.length g tt te):=⟨pe_lc bs ext hi.h (λfp s H=>(hg fp s H).h) (λfp s H=>(ht fp s H).h) (λfp s H=>(he fp s H).h) hk hc hs⟩
end
section
theorem qe_disp(h:QPs X pos keys values trs)(hall:keys.all (·.isSome)=true)(hl:keys.length=values.length)(h0:keys≠[])(h15:keys.length<=15):QE X (.Dict keys values pos) (tDisp trs):=⟨by
 intro pins s σ H Q I q;have hn:=I.hok.fresh (Uk s.heap.objs.size);have I1:=I.laid (a:=s.heap.objs.size) (o:=.dK []) (h':=s.heap.push { cls:=.type "dict", data:=.dict #[] }) (t':=s.toks) (λ_ _ q=>Heap.get?_push_of_some _ q) (Uk _) (Kr s.heap I.big);refine wpAny_Dict_walk (knd:=vo X.prog X.w) hall hl h0 h15 (thn (h.h pins _ σ _ _ I1 (q _ hn)) λws s2 ⟨ps,H2,I2,rel,e,kvs,ep,lk,q2⟩=>?_);subst ep;obtain⟨rs,c,rk⟩:=Va (P:=X.prog) (w:=X.w) rel;obtain⟨z,hd,vs0,r0,dd⟩:=dk_of I2.hok e;cases r0;refine⟨rs,c,dd,λh' dd' hs=>⟨.ref s.heap.objs.size,_, ?_,rfl,q2⟩⟩;have hz:(Ql [] kvs).length<=sizeLine:=by
  have h1:=jp kvs [];rw[U6] at h1;rw[sizeLine_eq]; lia
 have he:∃q,h'.get? s.heap.objs.size=some q:=let⟨q,_,_,hq,_⟩:=dd'; ⟨q,hq⟩;exact JB I2 (by rw[e]; exact True.intro) hs he (dk_new hz hd (rk.merge .nil) dd')⟩
end
section
theorem qps_nil:QPs X pos [] [] []:=⟨pps_nil ⟩
end
section
theorem jl(hk:QE X k tk)(hv:QE X v tv)(hr:QPs X pos ks vs trs):QPs X pos (some k::ks) (v::vs) ((tk,tv)::trs):=⟨λpins s σ H Q I h =>
 pairTrees_cons_walk (thn (hk.h pins s σ H _ I h) λu s1 ⟨x,H1,I1,rx,q1⟩=>thn (hv.h pins s1 σ H1 _ I1 q1) λw2 s2 ⟨y,H2,I2,ry,q2⟩ =>
  thn (hr.h pins s2 σ H2 _ I2 q2) λws s3 ⟨ps,H3,I3,rel,q3⟩=>⟨(x,y)::ps,H3,I3, .cons ⟨rx,ry⟩ rel,q3⟩)⟩
end
section
theorem qm(D:Def X.prog X.w X.K X.mg X.base x k ps sp)(hr:Room k X.A)(ha:QA X (e::es) t)(hg:Gl X x:=by rfl)(hdb:(x==("__debug__" : Str))=false:=by decide)(he:starEach (e::es) X.env=(false,eval e X.env)::starEach es X.env:=by rfl)(hpl:(backTo pos (starEach es X.env)).any (·.1)=false:=by rfl):QE X (.Call (.Name x p) (e::es) [] pos) (zT sp [] E0 t):=⟨by
 obtain⟨f,fd,h1,h2,h3,h4⟩:=D.ex;exact pe_call h4 hr hg h1 h2 h3 .nil pass0 ha.h hdb he hpl⟩
end
section
theorem qK{id:String}(hc:xG X (.builtin id) r)(hg:Gl X x)(hm:X.mg x=none)(hv:bootBuiltins x=some (.builtin id))(ha:QA X (e::es) t)(hn:x ≠ "__name__" := by decide)(hdb:(x==("__debug__" : Str))=false:=by decide)(he:starEach (e::es) X.env=(false,eval e X.env)::starEach es X.env:=by rfl)(hpl:(backTo pos (starEach es X.env)).any (·.1)=false:=by rfl):QE X (.Call (.Name x p) (e::es) [] pos) (tCB r t):=⟨by
 intro pins s σ H Q I h;refine wpAny_Call_Name_kw (ZY I hg hm hv ?_ hn hdb);exact PyProof.Rows.callWith_builtin1 (thn (ha.h pos pins s σ H _ I h) λus s1 ⟨vs,H1,I1,r1,q1⟩=>hc pins s1 σ H1 vs us Q I1 r1 q1) he hpl⟩
end
section
theorem vH{T:String}(hc:xG X (.type T) r)(hg:Gl X x)(hm:X.mg x=none)(hv:bootBuiltins x=some (.type T))(ha:QA X (e::es) t)(hn:x ≠ "__name__" := by decide)(hdb:(x==("__debug__" : Str))=false:=by decide)(he:starEach (e::es) X.env=(false,eval e X.env)::starEach es X.env:=by rfl)(hpl:(backTo pos (starEach es X.env)).any (·.1)=false:=by rfl):QE X (.Call (.Name x p) (e::es) [] pos) (tCB r t):=⟨by
 intro pins s σ H Q I h;refine wpAny_Call_Name_kw (ZY I hg hm hv ?_ hn hdb);exact PyProof.Rows.callWith_type1 (thn (ha.h pos pins s σ H _ I h) λus s1 ⟨vs,H1,I1,r1,q1⟩=>hc pins s1 σ H1 vs us Q I1 r1 q1) he hpl⟩
end
section
theorem Wg(hg:Gl X x)(hm:X.mg x=none)(hv:bootBuiltins x=some u)(r:RelV v u)(hn:x ≠ "__name__" := by decide)(hd:(x==("__debug__" : Str))=false:=by decide):QE X (.Name x pos) (tC v):=⟨
 λ_ _ _ H _ I h=>ZY I hg hm hv ⟨v,H,I,r,h⟩ hn hd⟩
end
section
theorem qe_bm{T id:String}(pa:PlainAttrs T)(slot:Slot T name id)(hty:typeOf (.builtin id)=pure (.type "method_descriptor"))(hm:MtR X id r)(ho:QE X o to)(ha:QA X (e::es) t)(hbase:attributeBase o name X.env (eval o X.env)=eval o X.env:=by rfl)(hfew:((backTo cpos (starEach (e::es) X.env)).all (λx => !x.1)&&(backToKw cpos (keywordEach [] X.env)).all (λx=>x.1.isSome)
   && decide ((e::es).length+([]:List Keyword).length+(if([]:List Keyword).isEmpty then 0 else 1)<30))=true:=by rfl)(hline:(apos.endLine==cpos.line)=true:=by rfl)(hs:starEach (e::es) X.env=(false,eval e X.env)::starEach es X.env:=by rfl)(hplain:(backTo cpos (starEach es X.env)).any (·.1)=false:=by rfl):QE X (.Call (.Attribute o name apos) (e::es) [] cpos) (tBM X.K T r to t):=⟨by
 intro pins s σ H Q I h;refine wpAny_Call_method_late hbase hfew hline rfl (thn (ho.h pins s σ H _ I h) λv s1 ⟨x,H1,I1,r1,ty,q1⟩=>?_);obtain⟨h1,h2⟩:=Yx I1 r1 ty;refine⟨T,id,pa,slot,hty,h1,h2, ?_⟩;have hA:=ha.h cpos pins s1 σ H1 _ I1 q1;rw[hs] at hA ⊢;refine Calls.callWith_builtin (by show(false||(backTo cpos (starEach es X.env)).any (·.1))=false; rw[hplain]<;>rfl) (Calls.evalArgs_plain ?_);exact thn hA λus s2 ⟨vs,H2,I2,r2,q2⟩=>hm pins s2 σ H2 x vs v us Q I2 r1 r2 q2⟩
end
section
theorem qe_bm0{T id:String}(pa:PlainAttrs T)(slot:Slot T name id)(hty:typeOf (.builtin id)=pure (.type "method_descriptor"))(hm:MtR X id r)(ho:QE X o to)(hbase:attributeBase o name X.env (eval o X.env)=eval o X.env:=by rfl)(hline:(apos.endLine==cpos.line)=true:=by rfl):QE X (.Call (.Attribute o name apos) [] [] cpos) (tBM0 X.K T r to):=⟨by
 intro pins s σ H Q I h;refine wpAny_Call_method0_late hbase hline (thn (ho.h pins s σ H _ I h) λv s1 ⟨x,H1,I1,r1,ty,q1⟩=>?_);obtain⟨h1,h2⟩:=Yx I1 r1 ty;exact⟨T,id,pa,slot,hty,h1,h2,Calls.callWith_builtin rfl (PySem.evalArgs_none (hm pins s1 σ H1 x [] v [] Q I1 r1 .nil q1))⟩⟩
end
section
theorem QP{id:String}(slot:Slot "list" name id)(hty:typeOf (.builtin id)=pure (.type "method_descriptor"))(hm:MtR X id r)(ho:QE X o to)(ha:QA X (e::es) t)(hbase:attributeBase o name X.env (eval o X.env)=eval o X.env:=by rfl)(hfew:((backTo cpos (starEach (e::es) X.env)).all (λx => !x.1)&&(backToKw cpos (keywordEach [] X.env)).all (λx=>x.1.isSome)
   && decide ((e::es).length+([]:List Keyword).length+(if([]:List Keyword).isEmpty then 0 else 1)<30))=true:=by rfl)(hline:(apos.endLine==cpos.line)=true:=by rfl)(hs:starEach (e::es) X.env=(false,eval e X.env)::starEach es X.env:=by rfl)(hplain:(backTo cpos (starEach es X.env)).any (·.1)=false:=by rfl):QE X (.Call (.Attribute o name apos) (e::es) [] cpos) (tLM r to t):=⟨by
 intro pins s σ H Q I h;refine wpAny_Call_method_late hbase hfew hline rfl (thn (ho.h pins s σ H _ I h) λv s1 ⟨x,H1,I1,r1,p,xs,ex,hp,q1⟩=>?_);subst ex;obtain⟨h1,h2⟩:=Yx (T := "list") I1 r1 (.inl ⟨rfl,xs,SqL.of hp⟩);refine⟨"list", id,PySem.F.plainAttrs_list,slot,hty,h1,h2, ?_⟩;have hA:=ha.h cpos pins s1 σ H1 _ I1 q1;rw[hs] at hA ⊢;refine Calls.callWith_builtin (by show(false||(backTo cpos (starEach es X.env)).any (·.1))=false; rw[hplain]<;>rfl) (Calls.evalArgs_plain ?_);exact thn hA λus s2 ⟨vs,H2,I2,r2,q2⟩=>hm pins s2 σ H2 (.ref p) vs v us Q I2 r1 r2 q2⟩
end
section
theorem qJ(D:MDef X.prog X.w X.K X.mg X.base C m k ps sp)(c:Cls X.K C)(he:QE X o ta)(hr:Room k X.A)(ha:QA X (e::es) t)(hst:starEach (e::es) X.env=(false,eval e X.env)::starEach es X.env:=by rfl)(hpl:(backTo pos (starEach es X.env)).any (·.1)=false:=by rfl)(ht:eval (.Call (.Attribute o m apos) (e::es) [] pos) X.env=(do
   let ov <-eval o X.env
   standAt apos.atName;let(f,first) <-holding [ov] (getMethod ov m pl)
   callWith pos f first (backTo pos (starEach (e::es) X.env)) (backToKw pos (keywordEach [] X.env))):=by rfl):QE X (.Call (.Attribute o m apos) (e::es) [] pos) (XA C m sp [] E0 ta t):=⟨by
 obtain⟨f,fd,h1,h2,h3⟩:=D.ex;exact pe_meth he.h c h1 h3 hr h2 .nil pass0 ha.h hst hpl ht⟩
end
section
theorem xW(G:GInt X.mg x n)(hg:Gl X x)(hd:(x==("__debug__" : Str))=false:=by decide):QE X (.Name x pos) (tC (.int n)):=⟨by
 obtain⟨t,e⟩:=G.ex;exact Wt hg e ⟨t,rfl⟩ hd⟩
end
section
theorem qt_din(hu:X.A.units+1<cLine)(hi:QE X i ty)(ho:QE X o td)(h1:behindInMarks .In o=false:=by with_unfolding_all rfl):QT X (.Compare i [.In] [o] pos) (tB (tDIn ty td)):=⟨pt_cmp (pc_din hu hi.h ho.h) h1⟩
theorem Wa(hu:X.A.units+1<cLine)(hi:QE X i ty)(ho:QE X o td)(h1:behindInMarks .NotIn o=false:=by with_unfolding_all rfl):QT X (.Compare i [.NotIn] [o] pos) (tB (Vg ty td)):=⟨pt_cmp (Wv hu hi.h ho.h) h1⟩
theorem Wb(hu:X.A.units+1<cLine)(ho:QE X o td)(hi:QE X i ty)(hv:QE X value tv)(hs:swapsWith value (some (.Subscript o i pos')) pos.line X.env=pure false:=by rfl):QS X (.Assign [.Subscript o i pos'] value pos) (sDPut td ty tv):=⟨by
 intro pins s σ H D I h;refine wpAny_Assign_Subscript (thn (hv.h pins s σ H _ I h) λr s1 ⟨v,H1,I1,rv,q1⟩=>thn (ho.h pins s1 σ H1 _ I1 q1) λu s2 ⟨x,H2,I2,rx,q2⟩=>thn (hi.h pins s2 σ H2 _ I2 q2) λiv s3 ⟨y,H3,I3,ry,a,H4,ex,g,q3⟩=>?_) hs;subst ex;obtain rfl:u=Value.ref a:=rx;exact GZ hu I3 g ry rv λs4 I4=>⟨σ,H4,I4,q3⟩⟩
theorem Wf:QE X (.Dict [] [] pos) JX:=⟨λpins s σ H Q I h =>
 wpAny_Dict_empty ⟨.ref s.heap.objs.size,_,I.laid (a:=s.heap.objs.size) (o:=.dK []) (t':=s.toks) (λ_ _ q=>Heap.get?_push_of_some _ q) (Uk _) (Kr s.heap I.big),rfl,h _ (I.hok.fresh (Uk _))⟩⟩
theorem X6(hg:Gl X x)(hm:X.mg x=some u)(r:RelV v u)(hd:(x==("__debug__" : Str))=false:=by decide):QE X (.Name x pos) (tC v):=⟨Wt hg hm r hd⟩
end
structure MkDef(P:Program)(w:World)(Ξ:PySem.W.Frag)(mg:Str->Option Value)(base:Heap)(C:Addr)(x:Str)(k:Nat)(ps:List Str)(sp:Sp):Prop where
 ex:∃(f:Addr)(fd:FuncData),Mk Ξ C f/\mg x=some (.ref C)/\Binds Ξ fd ps []/\FnOk P w Ξ mg base CX0 k f fd ps sp
section
theorem qe_mk(D:MkDef X.prog X.w X.K X.mg X.base C x k ps sp)(hr:Room (k+1) X.A)(hg:Gl X x)(ha:QA X (e::es) t)(hdb:(x==("__debug__" : Str))=false:=by decide)(he:starEach (e::es) X.env=(false,eval e X.env)::starEach es X.env:=by rfl)(hpl:(backTo pos (starEach es X.env)).any (·.1)=false:=by rfl):QE X (.Call (.Name x p) (e::es) [] pos) (tMake C sp [] E0 t):=by
 obtain⟨f,fd,h1,h2,h3,h4⟩:=D.ex;exact⟨pe_make h1 h4 hr hg h2 h3 .nil pass0 ha.h hdb he hpl⟩
theorem qs_par(hc:X.calm=true)(hN:X.N.Nodup)(hi:X.N[i]?=some x)(hj:X.N[j]?=some y)(hij:i≠j)(hx:X.env.scope.names.lookup x=some .local)(hy:X.env.scope.names.lookup y=some .local)(ha:QA X [a,b] ta)(hw:swappedStores [.Tuple [.Name x px, .Name y py] kt pt] (.Tuple [a,b] k2 pt2) X.env=pure (some [x,y]))(hs:swapsWithSole [.Tuple [.Name x px, .Name y py] kt pt] (.Tuple [a,b] k2 pt2) pos.line X.env=pure false:=by rfl) :
  QS X (.Assign [.Tuple [.Name x px, .Name y py] kt pt] (.Tuple [a,b] k2 pt2) pos) (tPar i j ta):=⟨by
 intro pins s σ H D I h;rw[exec_Assign_arm];refine wpAny_bind (wpAny_standAt ?_);rw[hs];refine wpAny_bind (wpAny_pure ?_);rw[if_neg (by decide)];refine wpAny_bind (Tuple_ (thn (ha.h _ pins s σ H _ I h) λus s1 ⟨vs,H1,I1,r1,q1⟩=>?_));obtain⟨v,w,e1,q1⟩:=q1;subst e1;obtain⟨u1,u2,rfl,rv,rw'⟩:∃u1 u2,us=[u1,u2]/\RelV v u1/\RelV w u2:=by
  cases r1 with
  |cons p q =>
   cases q with
   |cons p' q' =>
    cases q';exact⟨_,_,rfl,p,p'⟩
 refine wpAny_newObj_type ?_ (by show 2<=sizeLine; decide);have I2:Inv X pins σ H1 { s1 with heap:=s1.heap.push { cls:=.type "tuple", data:=.seq [u1,u2].toArray } }:=I1.kept (t':=s1.toks) λb o e=>Heap.get?_push_of_some _ e;rw[hw];refine wpAny_bind (wpAny_pure ?_);show wpAny (model X.prog X.w) X.A (do rule "assign.swapped-stores"; let items <-unpackItems (.ref s1.heap.objs.size) 2 none; assignInOrder [λv=>bindName X.env y v,λv=>bindName X.env x v] items.reverse; pure Flow.next) _ _ _;refine wpAny_bind (wpAny_rule (wpAny_bind (unpackItems_tuple (items:=#[u1,u2]) (I.ok.hd hc) (IsTup.new s1.heap _) λh' hx'=>?_)));have I3:=I2.kept (h':=h') (t':=s1.toks) λb o e=>hx' b o (UF (Heap.lt_size e)) e;show wpAny _ _ (assignInOrder [λv=>bindName X.env y v,λv=>bindName X.env x v] [u2,u1] >>= λ_=>pure Flow.next) _ _ _;refine wpAny_bind (assignInOrder_cons (wpAny_bindName (jh I3 hN hj (.inl hy) rw' (λs2 I4=>?_) (.inr hy))));refine assignInOrder_cons (wpAny_bindName (jh I4 hN hi (.inl hx) rv (λs3 I5=>assignInOrder_nil (wpAny_pure ?_)) (.inr hx)));rw[List.set_comm _ _ (Ne.symm hij)] at I5;exact⟨_,H1,I5,q1⟩⟩
end
def Obk(h h':Heap):Prop:=∀(b:Nat)(o:Obj),h.objs[b]?=some o->∃o',h'.objs[b]?=some o'/\o'.dict=o.dict
theorem Obk.refl(h:Heap):Obk h h:=λb o e=>⟨o,e,rfl⟩
theorem Obk.trans(x:Obk h h')(y:Obk h' h''):Obk h h'':=λb o e=>by
 obtain⟨o',e',d'⟩:=x b o e;obtain⟨o2,e2,d2⟩:=y b o' e';exact⟨o2,e2,d2.trans d'⟩
theorem Obk.push(h:Heap)(o:Obj):Obk h (h.push o):=λb u e=>⟨u,by
 have hb:b<h.objs.size:=(Array.getElem?_eq_some_iff.mp e).1;cases h;simp only[Heap.push] at e hb ⊢;rw[R5,if_neg (UF hb)]; exact e,rfl⟩
theorem Obk.update(h:Heap)(a:Addr)(hf:∀o,(f o).dict=o.dict):Obk h (h.update a f):=λb u e=>by
 cases h;simp only[Heap.update] at e ⊢;rw[Array.getElem?_modify];split
 ·exact⟨f u,by rw[e]; rfl,hf u⟩
 ·exact⟨u,e,rfl⟩
theorem Obk.get{h h':Heap}{a d:Addr}{o o':Obj}(x:Obk h h')(e:h.get? a=some o)(e':h'.get? a=some o'):o'.dict=o.dict:=by
 obtain⟨u,eu,du⟩:=x a o (Heap.get?_some_iff.mp e).1;rw[(Heap.get?_some_iff.mp e').1] at eu;cases eu;exact du
def DK{α:Type}:Sem α->Prop
 |.pure _=>True
 |.raise _=>True
 |.unsupported _=>True
 |.finish _=>True
 |.rule _ k=>DK (k ())
 |.at _ k=>DK (k ())
 |.load _ _ k=>∀o,DK (k o)
 |.update _ _ f k=>(∀o,(f o).dict=o.dict)/\DK (k ())
 |.alloc _ k=>∀a,DK (k a)
 |.loadIfAlive _ k=>∀o,DK (k o)
 |.point _ k=>DK (k ())
 |.register _ _=>True
 |.fresh k=>∀t,DK (k t)
 |.ask k=>∀x,DK (k x)
 |.choose _ _ k=>∀n,DK (k n)
 |.os _ _ k=>∀r,DK (k r)
 |.call _ _ _ _ _=>False
 |.handled _ k=>∀x,DK (k x)
 |.newGen _ k=>∀n,DK (k n)
 |.genState _ k=>∀x,DK (k x)
 |.resume _ _ _ _=>False
 |.yield _ _ _ _=>True
 |.stack k=>∀l,DK (k l)
 |.fork _ _=>True
 |.thread k=>∀n,DK (k n)
 |.await _ _ _ _ _=>True
theorem DK.wp{α:Type}{M:Model}{Γ:PySem.Ctx}:∀{t:Sem α}{Q:α->Pos->Shared->Prop}{E:Value->Pos->Shared->Prop}{p:Pos}{s:Shared},DK t->Sem.wp M Γ t Q E p s ->
  Sem.wp M Γ t (λa p' s'=>Q a p' s'/\Obk s.heap s'.heap) (λe p' s'=>E e p' s'/\Obk s.heap s'.heap) p s:=by
 intro t
 induction t with
 |pure a=>intro Q E p s _ h; rw[Sem.wp] at h ⊢; exact⟨h, .refl _⟩
 |raise e=>intro Q E p s _ h; rw[Sem.wp] at h ⊢; exact⟨h, .refl _⟩
 |unsupported x=>intro Q E p s _ h; rw[Sem.wp] at h; exact h.elim
 |finish x=>intro Q E p s _ h; rw[Sem.wp] at h; exact h.elim
 |rule x k ih=>intro Q E p s d h; rw[Sem.wp] at h ⊢; exact ih () d h
 | «at» x k ih=>intro Q E p s d h; rw[Sem.wp] at h ⊢; exact ih () d h
 |load a x k ih=>intro Q E p s d h; rw[Sem.wp] at h ⊢; obtain⟨o,e,h⟩:=h; exact⟨o,e,ih o (d o) h⟩
 |update a x f k ih =>
  intro Q E p s d h; rw[Sem.wp] at h ⊢;refine⟨h.1,Sem.wp_mono M Γ _ (λa p' s' z=>⟨z.1,(Obk.update _ _ d.1).trans z.2⟩) (λa p' s' z=>⟨z.1,(Obk.update _ _ d.1).trans z.2⟩) _ _ (ih () d.2 h.2)⟩
 |alloc o k ih =>
  intro Q E p s d h; rw[Sem.wp] at h ⊢;exact Sem.wp_mono M Γ _ (λa p' s' z=>⟨z.1,(Obk.push _ _).trans z.2⟩) (λa p' s' z=>⟨z.1,(Obk.push _ _).trans z.2⟩) _ _ (ih _ (d _) h)
 |loadIfAlive a k ih=>intro Q E p s d h; rw[Sem.wp] at h ⊢; exact ih _ (d _) h
 |point x k ih=>intro Q E p s d h; rw[Sem.wp] at h ⊢; exact ih () d h
 |register a k ih=>intro Q E p s d h; rw[Sem.wp] at h; exact h.elim
 |fresh k ih=>intro Q E p s d h; rw[Sem.wp] at h ⊢; exact ih _ (d _) h
 |ask k ih=>intro Q E p s d h; rw[Sem.wp] at h ⊢; exact ih _ (d _) h
 |choose x n k ih=>intro Q E p s d h; rw[Sem.wp] at h ⊢; exact⟨h.1,ih _ (d _) h.2⟩
 |os q l k ih=>intro Q E p s d h; rw[Sem.wp] at h ⊢; exact ih _ (d _) h
 |call c x g l k ih=>intro Q E p s d h; exact d.elim
 |handled x k ih=>intro Q E p s d h; rw[Sem.wp] at h ⊢; exact ih _ (d _) h
 |newGen c k ih=>intro Q E p s d h; rw[Sem.wp] at h ⊢; exact ih _ (d _) h
 |genState g k ih=>intro Q E p s d h; rw[Sem.wp] at h ⊢; obtain⟨o,e,h⟩:=h; exact⟨o,e,ih _ (d _) h⟩
 |resume g r l k ih=>intro Q E p s d h; exact d.elim
 |yield v g l k ih=>intro Q E p s d h; rw[Sem.wp] at h; exact h.elim
 |stack k ih=>intro Q E p s d h; rw[Sem.wp] at h ⊢; exact ih _ (d _) h
 |fork c k ih=>intro Q E p s d h; rw[Sem.wp] at h; exact h.elim
 |thread k ih=>intro Q E p s d h; rw[Sem.wp] at h ⊢; exact ih _ (d _) h
 |await a f b l k ih=>intro Q E p s d h; rw[Sem.wp] at h; exact h.elim
theorem DK.any{α:Type}{M:Model}{A:Around}{t:Sem α}{Q:α->Shared->Prop}{E:Value->Shared->Prop}{s:Shared}(d:DK t)(h:wpAny M A t Q E s) :
  wpAny M A t (λa s'=>Q a s'/\Obk s.heap s'.heap) (λe s'=>E e s'/\Obk s.heap s'.heap) s:=λΓ p hΓ=>DK.wp d (h Γ p hΓ)
theorem DK.bind{α β:Type}{f:α->Sem β}:∀{m:Sem α},DK m->(∀a,DK (f a))->DK (m >>= f):=by
 intro m;show DK m->_->DK (m.bind f)
 induction m with
 |pure a=>intro _ h; exact h a
 |update a x g k ih=>intro d h; exact⟨d.1,ih () d.2 h⟩
 |raise e=>intro _ _; trivial
 |unsupported x=>intro _ _; trivial
 |finish x=>intro _ _; trivial
 |rule x k ih=>intro d h; exact ih () d h
 | «at» x k ih=>intro d h; exact ih () d h
 |load a x k ih=>intro d h o; exact ih o (d o) h
 |alloc o k ih=>intro d h o; exact ih o (d o) h
 |loadIfAlive a k ih=>intro d h o; exact ih o (d o) h
 |point x k ih=>intro d h; exact ih () d h
 |register a k ih=>intro _ _; trivial
 |fresh k ih=>intro d h o; exact ih o (d o) h
 |ask k ih=>intro d h o; exact ih o (d o) h
 |choose x n k ih=>intro d h o; exact ih o (d o) h
 |os q l k ih=>intro d h o; exact ih o (d o) h
 |call c x g l k ih=>intro d h; exact d.elim
 |handled x k ih=>intro d h o; exact ih o (d o) h
 |newGen c k ih=>intro d h o; exact ih o (d o) h
 |genState g k ih=>intro d h o; exact ih o (d o) h
 |resume g r l k ih=>intro d h; exact d.elim
 |yield v g l k ih=>intro _ _; trivial
 |stack k ih=>intro d h o; exact ih o (d o) h
 |fork c k ih=>intro _ _; trivial
 |thread k ih=>intro d h o; exact ih o (d o) h
 |await a f b l k ih=>intro _ _; trivial
theorem Jy(a:Addr):DK (load a):=λ_=>trivial
theorem dk_stack:DK stack:=λ_=>trivial
theorem Z9(a:Addr)(h:∀o,(f o).dict=o.dict):DK (update a f):=⟨h,trivial⟩
theorem Xb(f:Array Value->Array Value)(o:Obj):(Obj.mapFields f o).dict=o.dict:=by
 unfold Obj.mapFields;split<;>rfl
theorem Jz(v:Value):DK (fieldsOf v):=by
 unfold fieldsOf;split
 ·refine(Jy _).bind λo=>?_
  split<;>trivial
 ·trivial
theorem kG(v:Value)(i:Nat):DK (field v i):=by
 unfold field;refine(Jz v).bind λo=>?_;split<;>trivial
theorem jd(v:Value)(i:Nat)(x:Value):DK (setField v i x):=by
 unfold setField;split
 ·unfold updateField
  refine(Jy _).bind λo=>?_;split
  ·split
   ·exact Z9 _ (Xb _)
   ·trivial
  ·trivial
 ·trivial
theorem xn(e:Value)(f:Option Addr):DK (setFlight e f):=by
 unfold setFlight;refine(kG _ _).bind λo=>?_;split
 ·exact jd _ _ _
 ·trivial
theorem Xa(ty:String)(vs:List Value):DK (newFields ty vs):=by
 unfold newFields newObj;dsimp only;split
 ·trivial
 ·unfold newObjAsIs
  exact λa=>trivial
theorem GU(env:Env)(l:List Env):DK (behindIsImport env l):=by
 unfold behindIsImport;split
 ·trivial
 ·split
  ·trivial
  ·exact(kG _ _).bind λ_=>trivial
theorem dk_kept(env:Env)(b:Bool)(l:List Env):DK (keptBack env b l):=by
 unfold keptBack;split
 ·split
  ·trivial
  ·unfold underTheClaimsCaller
   exact DK.bind (dk_stack.bind λ_=>trivial) λ_=>trivial
 ·trivial
theorem Kq:∀l:List Env,DK (readyFrames l)
 | []=>by unfold readyFrames; trivial
 |env::outer=>by
  unfold readyFrames;split
  ·refine(Jy _).bind λo=>?_
   split
   ·trivial
   ·refine(GU _ _).bind λ_=>(dk_kept _ _ _).bind λ_=>DK.bind ?_ λ_=>Kq outer
    exact Z9 _ λo=>rfl
  ·trivial
theorem Yh(env:Env):DK (PySem.frameOf env):=by
 unfold PySem.frameOf frameEnvs;refine DK.bind (dk_stack.bind λ_=>trivial) λl=>DK.bind ?_ λx=>?_
 ·unfold frameObject
  split
  ·trivial
  ·exact(Kq _).bind λ_=>trivial
 ·split<;>trivial
theorem dk_place(f:Addr)(b:Bool):DK (entryPlaceOf f b):=by
 unfold entryPlaceOf;refine dk_stack.bind λl=>?_;split<;>trivial
theorem GT(e:Value)(env:Env):DK (noteFrame e env):=by
 unfold noteFrame;have k:∀f head,DK (do setField e 1 (<-EntryCells.newEntry head (<-PySem.frameOf env) .none (rawInt f) .none (<-entryPlaceOf f (head != .none))):Sem Unit):=λf head =>
  (Yh _).bind λ_=>(dk_place _ _).bind λ_=>DK.bind (by unfold EntryCells.newEntry; exact Xa _ _) λ_=>jd _ _ _
 split
 ·refine(kG _ _).bind λhead=>?_
  split
  ·refine(kG _ _).bind λ_=>?_
   split
   ·trivial
   ·exact(jd _ _ _).bind λ_=>k _ _
  ·exact k _ _
 ·trivial
theorem Q8(env:Env)(e:Value):DK (leaving env e):=by
 unfold leaving;exact(GT _ _).bind λ_=>xn _ _
end L2
namespace PySem.W
open Builtin.ObjectAttr
section
def js(bmB:List Value):List Value->Bool
 |.ref _::r=>js bmB r
 |l=>l==bmB
theorem Q7:js bmB (.ref c::r)=js bmB r:=by rw[js]
theorem V7(h:refuseLoop self "__setattr__" bmB=pure ()):∀l,js bmB l=true->refuseLoop self "__setattr__" l=pure ():=by
 intro l
 induction l with
 |nil=>intro e; have e:(([]:List Value)==bmB)=true:=e; rw[eq_of_beq e]; exact h
 |cons x r ih =>
  intro e;cases x with
  |ref c=>rw[refuseLoop_ref]; exact ih (by rw[Q7] at e; exact e)
  |_ =>
   rw[js] at e
   ·rw[eq_of_beq e]; exact h
   ·intro a r' q; cases q
theorem Yg(h:bmB.contains v=true):∀l,js bmB l=true->l.contains v=true:=by
 intro l
 induction l with
 |nil=>intro e; have e:(([]:List Value)==bmB)=true:=e; rw[eq_of_beq e]; exact h
 |cons x r ih =>
  intro e;cases x with
  |ref c=>rw[Ba,ih (by rw[Q7] at e; exact e),Bool.or_true]
  |_ =>
   rw[js] at e
   ·rw[eq_of_beq e]; exact h
   ·intro a r' q; cases q
def excOver(Ξ:Frag)(C:Addr):Bool:=(clsIn Ξ C).any λcd=>js [.type "ValueError", .type "Exception", .type "BaseException", .type "object"] cd.mro&&cd.hasDict && !cd.mro.isEmpty
theorem setX_new(X:Ξ.In s.heap)(I:InstAt s.heap x ox C none)(hdn:ox.dict=none)(hdt:ox.data=.fields vs)(hsa:findIn Ξ (.ref C) "__setattr__" = some (some (.builtin "object.__setattr__")))(hp:excOver Ξ C=true)(ht:findIn Ξ (.ref C) name=some none)(h:∀h' d,d=s.heap.objs.size->(∀b o,b≠x->s.heap.get? b=some o->h'.get? b=some o)->h'.get? x=some { ox with dict:=some d }->h'.Ns1 d (λy=>if y=name then some v else none)->Q () { s with heap:=h',toks:=s.toks+2 }) :
  wpAny (model prog w) A (setAttr (.ref x) name v) Q E s:=by
 have SF:=PySem.F.store_ValueError;obtain⟨cd,hc,ho⟩:=any_some hp;simp only[Dw,Rk] at ho;obtain⟨⟨ho,hd⟩,ne⟩:=ho;refine set_plain X I hsa ?_;have sub:Looks (model prog w) s.heap (isInstance (.ref x) (.type "object")) true:=I.type.andThen (looks_mroIn X (by unfold mroIn; rw[hc,Option.bind_some,if_neg (by rw[ne]; decide),Yg (by decide) _ ho]));refine codeAny_call_builtin SF.slot.plain SF.entry (@check_slot (model prog w) _ _ { s with toks:=s.toks+1 } "object.__setattr__" "object" "__setattr__" (.ref x) [.str name s.toks,v] [] _ SF.kind SF.split sub (SF.args (.ref x) (.str name s.toks) v) ?_);have hm:Looks (model prog w) s.heap (mroOf (.ref C)) cd.mro:=(looks_clsIn X hc).andThen .now;rw[osa_eq,refuse_eq];refine wpAny_bind (wpAny_bind (Looks.here (s:={ s with toks:=s.toks+1 }) I.type (wpAny_bind (Looks.here (s:={ s with toks:=s.toks+1 }) hm ?_))));rw[V7 (SF.passes _) _ ho];refine wpAny_pure (wpAny_bind (Looks.here (s:={ s with toks:=s.toks+1 }) I.type (wpAny_bind (Looks.here (s:={ s with toks:=s.toks+1 }) (looks_findIn X ht) (wpAny_bind (wpAny_pure ?_))))));obtain⟨hx,hcl,hn, -⟩:=I;obtain⟨oc,odi,oda,osl⟩:=ox;dsimp only at hcl hdn hdt;subst hcl hdn hdt;refine wpAny_bind (wpAny_pure (wpAny_bind (wpAny_bind (wpAny_loadPart hx (wpAny_bind (Looks.here (s:={ s with toks:=s.toks+1 }) (looks_clsIn X hc) ?_))))));rw[hd];have hx₁:(s.heap.push { cls:=.type "dict", data:=.dict #[] }).get? x=some ⟨.ref C,none, .fields vs,osl⟩:=Heap.get?_push_of_some _ hx;have hxs:x≠s.heap.objs.size:=UF (Heap.lt_size hx);refine wpAny_bind (wpAny_alloc' (wpAny_bind (wpAny_update' hx₁ (wpAny_pure ?_))));have hgd:((s.heap.push { cls:=.type "dict", data:=.dict #[] }).update x λo=>{ cls:=o.cls,dict:=some s.heap.objs.size,data:=o.data,slots:=o.slots }).get? s.heap.objs.size=some { cls:=.type "dict", data:=.dict #[] } :=
  (Heap.get?_update_ne _ _ _ _ hxs.symm).trans (Heap.get?_push_at rfl rfl)
 have hnd:((s.heap.push { cls:=.type "dict", data:=.dict #[] }).update x λo=>{ cls:=o.cls,dict:=some s.heap.objs.size,data:=o.data,slots:=o.slots }).Ns s.heap.objs.size (λ_=>none) :=
  ⟨_, #[],_,hgd,rfl,λe he=>absurd he (by simp),λ_=>rfl⟩
 show wpAny _ _ (storeInDict s.heap.objs.size (.str name s.toks) name v) _ _ _;unfold storeInDict newKeyGuard;refine wpAny_bind (wpAny_pure (wpAny_bind (wpAny_nsSet1 (Heap.Ns1.of_empty hnd) λh' hn' hs=>?_)));obtain⟨oD,esD,epD,hoD,hdD,hcD⟩:=hn'.count (Within.cons name v Within.nil);refine wpAny_bind (wpAny_lookBehind hoD (by rw[hdD]; exact pastItsLine_dict (UC hcD (by rw[Ul,U6,sizeLine_eq]; lia))) ?_);refine wpAny_pure (h h' s.heap.objs.size rfl (λb ob hbx hb=>?_) ?_ hn')
 ·exact(hs.2 b (UF (Heap.lt_size hb))).trans ((Heap.get?_update_ne _ _ _ _ hbx).trans (Heap.get?_push_of_some _ hb))
 ·exact(hs.2 x hxs).trans (Heap.get?_update_self _ hx₁ rfl)
end
end PySem.W
namespace PySem.W
abbrev bmV:List Value:=[.type "ValueError", .type "Exception", .type "BaseException", .type "object"]
structure ExcI(h:Heap)(C f:Addr):Prop where
 ex:∃bm N nm qn bs hdct sn sub ab col dd k0 k1 k2 k3 k5 mN oI,h.get? C=some (excClassObj nm qn C N bs bm hdct sn sub ab col dd k0 k1 k2 k3 k5 "ValueError.__new__")/\h.Ns N mN/\mN "__init__" = some (.ref f)/\OwnTail h bmV bm/\h.get? f=some oI/\oI.cls=.type "function"
def excInI(Ξ:Frag)(C f:Addr):Bool:=match Ξ.lookup C with
 |some ⟨.type "type", _, .cls cd,sl⟩=>(match cd.mro,sl.toList with
  |.ref C'::bm, [_,_,_,_,some (.builtin n),_]=>C'==C&&n == "ValueError.__new__" && !cd.hasDel&&tailIn Ξ bmV bm&&nsOkIn Ξ cd.ns&&nsIn Ξ cd.ns "__init__" == some (some (.ref f))&&typeIn Ξ (.ref f)==some (.type "function")
  |_,_=>false)
 |_=>false
theorem KY(X:Ξ.In h)(G:h.Ns N mg)(e:nsIn Ξ N n=some (some v)):mg n=some v:=by
 obtain⟨o,es,ep,ho,hd,_,hf⟩:=G;unfold nsIn at e;split at e
 ·rename_i c d es' n' sl q
  have:=X _ _ q;rw[ho] at this;cases this;cases hd;split at e
  ·rename_i en he
   cases e;rw[<-hf];unfold nsFind findBy;rw[<-R8,he];rfl
  ·first|cases e|(split at e<;>cases e)
 ·cases e
theorem fn_obj(X:Ξ.In h)(e:typeIn Ξ (.ref f)=some (.type "function")):∃oI,h.get? f=some oI/\oI.cls=.type "function" := by
 unfold typeIn at e;dsimp only at e;cases q:Ξ.lookup f with
 |none=>rw[q] at e; cases e
 |some o=>rw[q] at e; exact⟨o,X _ _ q,by simpa using e⟩
theorem excI_of(X:Ξ.In h)(q:excInI Ξ C f=true):ExcI h C f:=by
 unfold excInI at q;split at q
 ·rename_i dd cd sl ho
  split at q
  ·rename_i C' bm k0 k1 k2 k3 n k5 hm hs
   obtain⟨nm,bs,mro,ns,qn,hd,sn,sub,ab,col,del⟩:=cd;simp only[Dw,beq_iff_eq,Rk] at q hm;obtain⟨⟨⟨⟨⟨⟨z1,z2⟩,z3⟩,z4⟩,z5⟩,z6⟩,z7⟩:=q;subst z1; subst z2; subst hm; subst z3;obtain⟨l⟩:=sl;have hs:l=_:=hs;subst hs;obtain⟨oI,e1,e2⟩:=fn_obj X z7;have N1:=Heap.Ns.of_isNs (isNs_of_in X z5);exact⟨bm,ns,nm,qn,bs,hd,sn,sub,ab,col,dd,k0,k1,k2,k3,k5,_,oI,X _ _ ho,N1,KY X N1 z6,tail_of_in X z4,e1,e2⟩
  ·cases q
 ·cases q
section
theorem QM{os:OsState}(J:ExcI h C f)(hrest:rest.length<=sizeLine)(hq:∀h' e,Heap.MadeExcOf h h' e (.ref C) rest->wpAny (model prog w) A (call (.ref f) (.ref e::rest)) (λr s'=>r=.none/\Q (.done (.ret (.ref e))) s') E ⟨h',g,d,t,os⟩) :
  wpAny (model prog w) A (Builtin.«type.__call__» ⟨.ref C::rest, []⟩) Q E ⟨h,g,d,t,os⟩:=by
 obtain⟨bm,N,nm,qn,bs,hdct,sn,sub,ab,col,dd,k0,k1,k2,k3,k5,mN,oI,hC,hn,hi,T,hfI,hfc⟩:=J.ex;have Fn:=PySem.F.excBase_ValueError
 repeat (first|with_reducible refine wpAny_loadPart_at hC ?_|with_reducible refine wpAny_madeBy_exc hC ?_|wp_step)
 refine codeAny_call_builtin_code (Code.quiet_builtin _ Fn.quiet) (wpAny_check_new_subU Fn (by decide) T hC ?_);refine codeAny_exc_new_subU Fn (by decide) Fn T hC ?_ hrest;show wpAny _ _ _ _ _ _;have kk:∀b o,h.get? b=some o->((h.push { cls:=.type "tuple", data:=.seq rest.toArray }).push { cls:=.ref C,data:=.fields #[.ref h.objs.size, .none, .none, .none, .bool false, .none] }).get? b=some o :=
  λb o e=>Heap.get?_push_of_some _ (Heap.get?_push_of_some _ e)
 have hget:((h.push { cls:=.type "tuple", data:=.seq rest.toArray }).push
   { cls:=.ref C,data:=.fields #[.ref h.objs.size, .none, .none, .none, .bool false, .none] }).get? (h.objs.size+1)=some
   { cls:=.ref C,data:=.fields #[.ref h.objs.size, .none, .none, .none, .bool false, .none] }:=by heap_get
 have hC₁:=kk _ _ hC;have hn₁:=hn.keeps kk;have T₁:=T.keeps kk;have hcC:(Value.ref C::bm).contains (.ref C)=true:=by simp
 unfold isInstance
 repeat (first|with_reducible refine wpAny_loadPart_at hget ?_|(with_reducible refine wpAny_isSubtype_exc hC₁ ?_; rw[hcC])|wp_step)
 show wpAny _ _ (typeLookup (.ref C) _) _ _ _;refine wpAny_typeLookup_tail hC₁ hn₁ T₁ Fn.mroIs Fn.init.lookup ?_;rw[hi];refine wpAny_holding (wpAny_bind ?_);unfold bindSpecial;refine wpAny_bind (wpAny_typeOf (T := "function") ⟨_,kk _ _ hfI,hfc⟩ ?_);rw[if_pos (by decide)];refine wpAny_pure (wpAny_bind (wpAny_mono (hq _ (h.objs.size+1) ⟨kk,Heap.get?_none_of_le (R4 _),h.objs.size,hget,Heap.get?_none_of_le (Uk _), ?_⟩) (λr s' hr=>?_) λ_ _ x=>x))
 ·exact Heap.get?_push_of_some _ (Heap.get?_push_at rfl rfl)
 ·obtain⟨rfl,hQ⟩:=hr
  wp_walk;exact hQ
theorem qaj(J:ExcI s.heap C f)(hrest:rest.length<=sizeLine)(hq:∀h' e,Heap.MadeExcOf s.heap h' e (.ref C) rest->wpAny (model prog w) (A.under (.builtin "type.__call__" ⟨.ref C::rest, []⟩)) (call (.ref f) (.ref e::rest)) (λr s'=>r=.none/\Q (.ref e) s') E { s with heap:=h' }) :
  wpAny (model prog w) A (call (.ref C) rest) Q E s:=by
 obtain⟨h,g,d,t,os⟩:=s;obtain⟨bm,N,nm,qn,bs,hdct,sn,sub,ab,col,dd,k0,k1,k2,k3,k5,mN,oI,hC,hn,hi,T,hfI,hfc⟩:=J.ex;have f1:=tc_lookup;have f2:=tc_bind (.ref C);have hT:(⟨h,g,d,t,os⟩:Shared).TypeIs (.ref C) "type" := ⟨_,hC,rfl⟩;refine wpAny_call (codeAny_of_tree ?_);show wpAny _ _ (callAny (.ref C) _) _ _ _
 repeat (any_goals (first|assumption|with_reducible refine wpAny_loadPart_at hC ?_|wp_step))
 refine⟨rfl, ?_⟩;refine codeAny_call_builtin_at (Code.quiet_builtin _ (by decide +kernel)) entry_typeCall (wpAny_check_type_call_sub hC (QM J hrest λh' e hm=>?_));exact hq h' e hm
abbrev excOb(C:Addr)(d:Option Addr)(t:Addr):Obj:={ cls:=.ref C,dict:=d,data:=.fields #[.ref t, .none, .none, .none, .bool false, .none] }
theorem X2(hh:A.handled=none)(h:wpAny (model prog w) A x (λv s₁=>∃e d t,v=.ref e/\ExcI s₁.heap C f/\s₁.heap.get? e=some (excOb C d t)/\E (.ref e) s₁) E s):wpAny (model prog w) A (raiseStmt env (some x) none) Q E s:=by
 unfold raiseStmt;refine wpAny_bind (wpAny_mono h (λv s₁ h₁=>?_) λ_ _ x=>x);obtain⟨e,dx,tx,rfl,J,he,hE⟩:=h₁;obtain⟨bm,N,nm,qn,bs,hdct,sn,sub,ab,col,dd,k0,k1,k2,k3,k5,mN,oI,hC,hn,hi,T,hfI,hfc⟩:=J.ex;have hcB:(Value.ref C::bm).contains (.type "BaseException")=true:=by rw[Ba,T.hasType (b:=true) (by decide),Bool.or_true]
 obtain⟨hp,g,d,tk,os⟩:=s₁
 repeat (first|with_reducible refine wpAny_loadPart_at he ?_|with_reducible refine wpAny_loadPart_at hC ?_|(with_reducible refine wpAny_isSubtype_exc hC ?_; rw[hcB])|wp_step)
 exact wpAny_raiseNew_none hh hE
theorem Raise_I(hh:A.handled=none)(hplain:(backTo cpos (starEach args env)).any (·.1)=false)(h:wpAny (model prog w) A (eval (.Name x np) env) (λc s₁=>c=.ref C/\wpAny (model prog w) A (evalArgs (.ref C) true (backTo cpos (starEach args env)) [])
   (λa s₂=>a.kw=[]/\a.pos.length<=sizeLine/\ExcI s₂.heap C f/\∀h' e,Heap.MadeExcOf s₂.heap h' e (.ref C) a.pos ->
    wpAny (model prog w) (A.under (.builtin "type.__call__" ⟨.ref C::a.pos, []⟩)) (call (.ref f) (.ref e::a.pos)) (λr s'=>r=.none/\∃d t,ExcI s'.heap C f/\s'.heap.get? e=some (excOb C d t)/\E (.ref e) s') E { s₂ with heap:=h' }) E s₁) E s) :
  wpAny (model prog w) A (exec (.Raise (some (.Call (.Name x np) args [] cpos)) none pos) env) Q E s:=by
 rw[arm_exec_Raise];refine wpAny_bind (wpAny_standAt (X2 (C:=C) (f:=f) hh ?_));refine wpAny_bind (wpAny_mono (wpAny_Call_ofName (wpAny_mono h (λc s₁ h₁=>?_) λ_ _ x=>x)) (λv s₃ h₃=>wpAny_bind (wpAny_standAt (wpAny_pure h₃))) λ_ _ x=>x);obtain⟨rfl,h₁⟩:=h₁;unfold callWith;refine wpAny_bind (wpAny_holding (wpAny_mono h₁ (λa s₂ h₂=>wpAny_bind (wpAny_standAt ?_)) λ_ _ x=>x));obtain⟨apos,akw⟩:=a;obtain⟨hkw,hlen,J,h₂⟩:=h₂;obtain rfl:akw=[]:=hkw;obtain⟨bm,N,nm,qn,bs,hdct,sn,sub,ab,col,dd,k0,k1,k2,k3,k5,mN,oI,hC,hn,hi,T,hfI,hfc⟩:=J.ex;obtain⟨hp,g,d,tk,os⟩:=s₂;simp only[hplain];refine wpAny_bind (wpAny_keeperOf_exc hC ?_);refine wpAny_bind (qaj J hlen λh' e hm=>wpAny_mono (h₂ h' e hm) (λr s' z=>⟨z.1,wpAny_bind (wpAny_holding (wpAny_point (wpAny_pure ?_)))⟩) λ_ _ x=>x);obtain⟨_,dx,tx,J',he,hE⟩:=z;exact⟨e,dx,tx,rfl,J',he,hE⟩
theorem bexc_init(J:ExcI s.heap C f)(he:s.heap.get? e=some (excOb C dx tx))(hrest:rest.length<=sizeLine)(hq:∀h' t',(∀b o,b≠e->s.heap.get? b=some o->h'.get? b=some o)->h'.get? e=some (excOb C dx t')->R (.ok (.ret .none)) { s with heap:=h' }) :
  codeAny (model prog w) A (.call (.builtin "ValueError.__init__") ⟨.ref e::rest, []⟩) R s:=by
 obtain⟨bm,N,nm,qn,bs,hdct,sn,sub,ab,col,dd,k0,k1,k2,k3,k5,mN,oI,hC,hn,hi,T,hfI,hfc⟩:=J.ex;have F:=PySem.F.excBase_ValueError;obtain⟨h,g,d,t,os⟩:=s;refine codeAny_call_builtin F.init.plain F.initEntry (wpAny_check_init_subU F T hC he rfl ?_);have hne:e≠h.objs.size:=UF (Heap.lt_size he);have he1:(h.push { cls:=.type "tuple", data:=.seq rest.toArray }).get? e=some (excOb C dx tx):=Heap.get?_push_of_some _ he
 wp_walk;refine hq _ h.objs.size (λb o hb q=>?_) ?_
 ·rw[Heap.get?_update_other _ _ (Ne.symm hb)]; exact Heap.get?_push_of_some _ q
 ·exact(Heap.get?_update_self _ he1 rfl).trans rfl
end
end PySem.W
namespace L2
open PySem PySem.Spec PyProof.Rows
def ExcAt(a C:Addr)(d:Option Addr):Heap->Prop:=λh=>∃t,h.get? a=some (W.excOb C d t)
abbrev excO(a C:Addr)(d:Option Addr):HO:=.ext (ExcAt a C d)
theorem Jx(e:h.get? a=some (W.excOb C d t)):ObjOk P w H h a (excO a C d) :=
 ⟨⟨t,e⟩,⟨_,e⟩,λh1 h2 ⟨t',e'⟩ k=>⟨t',k _ e'⟩⟩
theorem kB(x:HOk P w H h)(e:H a=some (excO a C d)):∃t,h.get? a=some (W.excOb C d t):=(x a _ e).1
structure ExcK(Ξ:PySem.W.Frag)(C f:Addr):Prop where
 i:W.excInI Ξ C f=true
 sa:W.findIn Ξ (.ref C) "__setattr__" = some (some (.builtin "object.__setattr__"))
 ov:W.excOver Ξ C=true
 ga:W.findIn Ξ (.ref C) "__getattribute__" = some (some (.builtin "BaseException.__getattribute__"))
 gt:W.findIn Ξ (.ref C) "__getattr__" = some none
 mr:W.mroIn Ξ C (.type "BaseException")=some true
 hd:W.hasDictIn Ξ C=true
section
def sSetX(Ξ:PySem.W.Frag)(C:Addr)(ta tv:TE)(f:Str):TS:=λD σ H=>tv σ H λy H1=>ta σ H1 λx H2=>∃a,x=.ref a/\H2 a=some (excO a C none)/\∀d,H2 d=none->D.nx σ (upd (upd H2 d (.xd [(f,y)])) a (excO a C (some d)))
def tFs3(a b:Str)(te:TE):TE:=λσ H Q=>te σ H λv H1=>∃n,v=.int n/\n.natAbs.log2<1920/\(Str.ofString (toString n)).length<=10000/\Q (.str (Str.empty++a++(Str.ofString (toString n))++b)) H1
theorem qe_fs3(la:a.length<=10000)(lb:b.length<=10000)(he:QE X e te):QE X (.JoinedStr [.Constant (.str a) ka pa, .FormattedValue e (-1) none pf, .Constant (.str b) kb pb] pos) (tFs3 a b te):=⟨by
 intro pins s σ H Q I h;refine wpAny_JoinedStr ?_;refine Calls.Constant_str ⟨a,_,rfl,by rw[strLen_append,show Str.empty.length=0 from rfl,sizeLine_eq]; lia, ?_⟩;show wpAny _ _ (eval (.FormattedValue e (-1) none pf) X.env) _ _ _;refine wpAny_FormattedValue_plain (thn (he.h pins _ σ H _ (I.tok _) h) λu s1 ⟨v,H1,I1,rv,n,ev,hn,ln,q⟩=>?_);subst ev;obtain⟨t,rfl⟩:=(show ∃t,u=Value.int n t from rv);refine wpAny_formatField_int hn ?_;refine⟨_,_,rfl,by rw[strLen_append,strLen_append,show Str.empty.length=0 from rfl,sizeLine_eq]; lia, ?_⟩;have lz:(Str.empty++a++Str.ofString (toString n)++b).length<=sizeLine:=by rw[strLen_append,strLen_append,strLen_append,show Str.empty.length=0 from rfl,sizeLine_eq]; lia
 refine Calls.Constant_str ⟨b,_,rfl,lz,lz, ?_⟩;exact⟨.str (Str.empty++a++Str.ofString (toString n)++b),H1,(((I1.tok _).tok _).tok _),⟨_,rfl⟩,q⟩⟩
theorem qs_setX(c:ExcK X.K C g)(n:NoAttr X.K C f)(ha:QE X o ta)(hv:QE X value tv)(hs:swapsWith value (some (.Attribute o f pos')) pos.line X.env=pure false:=by rfl):QS X (.Assign [.Attribute o f pos'] value pos) (sSetX X.K C ta tv f):=⟨by
 intro pins s σ H D I h;refine plainObj_wpAny_Assign_Attribute (thn (hv.h pins s σ H _ I h) λu s1 ⟨y,H1,I1,ry,q⟩=>thn (ha.h pins s1 σ H1 _ I1 q) λov s2 ⟨x,H2,I2,rx,a,ex,ea,q2⟩=>?_) hs;subst ex;obtain rfl:ov=Value.ref a:=rx;obtain⟨t,hx⟩:=kB I2.hok ea;refine W.setX_new I2.kIn (C:=C) (ox:=W.excOb C none t) ⟨hx,rfl,rfl,trivial⟩ rfl rfl c.sa c.ov n λh' d hd k e1 e2=>?_;obtain⟨od,es,ep,ho,hr⟩:=e2;have hf:=(Heap.get?_some_iff.mp ho).2;have hm:(s2.heap.push od).get? d=some od:=by rw[hd]; exact Heap.get?_push_size _ hf
 have ne:a≠d:=by rw[hd]; exact UF (Heap.lt_size hx)
 have J:=I2.laid (a:=d) (o:=.xd [(f,y)]) (h':=s2.heap.push od) (t':=s2.toks) (λb v q=>Heap.get?_push_of_some _ q) (by rw[hd]; exact Uk _)
  ⟨_,⟨od,es,ep,hm,hr⟩,λz=>by
   show RelO (([(f,y)]:List (Str×V)).lookup z) (if z=f then some u else none);rw[UD];by_cases q:z=f
   ·subst q; rw[beq_self_eq_true,if_pos rfl]; exact ry
   ·rw[if_neg q,beq_eq_false_iff_ne.mpr q]; exact True.intro⟩
 have fr:H2 d=none:=I2.hok.fresh (by rw[hd]; exact Uk _);have J2:=J.write (x:=a) (e:=a) (o:=excO a C (some d)) (h':=h') (t':=s2.toks+2) (by rw[upd_ne ne,ea]; exact True.intro) (.inl rfl) (λb v hb q=>?_) ⟨_,e1⟩ (Jx (t:=t) e1)
 ·exact⟨σ,_,J2,q2 d fr⟩
 ·by_cases hbd:b=d
  ·subst hbd; rw[hm] at q; rw[ho]; exact q
  ·have q':s2.heap.get? b=some v:=by
    have hz:b≠s2.heap.objs.size:=by rw[<-hd]; exact hbd
    have:=Heap.get?_some_iff.mp q;refine Heap.get?_some_iff.mpr ⟨?_,this.2⟩;have q1:=this.1;revert q1 hz;cases s2.heap;intro hz q1;simp only[Heap.push] at q1 hz ⊢;rw[R5,if_neg hz] at q1;exact q1
   exact k b v hb q'⟩
structure InitB(Ξ:PySem.W.Frag)(mg:Str->Option Value)(x:Str)(B:Addr):Prop where
 b:mg x=some (.ref B)
 sp:W.specialIn Ξ (.ref B) "__getattribute__" = some (some (.builtin "type.__getattribute__"))
 rd:W.readsIn Ξ B (.type "type")=true
 fi:W.findCls Ξ (.ref B) (.type "type") "__init__" = some (.val (.builtin "ValueError.__init__"))
def sInitB(C:Addr)(ta:TA):TS:=λD σ H=>ta σ H λvs H1=>∃a d rest,vs=.ref a::rest/\H1 a=some (excO a C d)/\rest.length<=1000/\D.nx σ H1
theorem qs_initB(c:ExcK X.K C g)(b:InitB X.K X.mg x B)(ha:QA X (e::es) tl)(hg:Gl X x:=by rfl)(hdb:(x==("__debug__" : Str))=false:=by decide)(hst:starEach (e::es) X.env=(false,eval e X.env)::starEach es X.env:=by rfl)(hpl:(backTo pos (starEach es X.env)).any (·.1)=false:=by rfl)(ht:eval (.Call (.Attribute (.Name x p) "__init__" apos) (e::es) [] pos) X.env=(do
   let ov <-eval (.Name x p) X.env
   standAt apos.atName;let(f,first) <-holding [ov] (getMethod ov "__init__" pl)
   callWith pos f first (backTo pos (starEach (e::es) X.env)) (backToKw pos (keywordEach [] X.env))):=by rfl)(hs:swapsWith (.Call (.Attribute (.Name x p) "__init__" apos) (e::es) [] pos) none pos'.line X.env=pure false:=by rfl) :
  QS X (.Expr (.Call (.Attribute (.Name x p) "__init__" apos) (e::es) [] pos) pos') (sInitB C tl):=⟨by
 intro pins s σ H D I h;refine wpAny_Expr_any ?_ I.quiet hs;refine Dl (pl:=pl) (zt I hg b.b ?_ hdb) ht;refine W.method_cls I.kIn b.sp (W.cls_value I.kIn b.rd b.fi rfl ?_);refine PyProof.Rows.callWith_builtin1 (thn (ha.h pos pins _ σ H _ (I.tok _) h) λus s1 ⟨vs,H1,I1,r1,a,d,rest,ev,ea,hl,q1⟩=>?_) hst hpl;subst ev;cases r1 with
 |cons ra rr =>
 rename_i u us' _;obtain rfl:u=Value.ref a:=ra;obtain⟨t,hx⟩:=kB I1.hok ea;refine wpAny_call (W.bexc_init (W.excI_of I1.kIn c.i) hx (by rw[<-rr.length,sizeLine_eq]; lia) λh' t' k e1=>?_);have J:=I1.write (x:=a) (e:=a) (o:=excO a C d) (h':=h') (t':=s1.toks) (by rw[ea]; exact True.intro) (.inl rfl) (λb v hb q=>k b v hb q) ⟨_,e1⟩ (Jx (t:=t') e1);refine⟨σ,H1, ?_,q1⟩;have eH:upd H1 a (excO a C d)=H1:=by
  funext b;unfold upd;split
  ·rename_i q; rw[q,ea]
  ·rfl
 rw[eH] at J;exact J⟩
end
structure Fli(P:Program)(w:World)(outer:List Env)(H:Hp)(s:Shared)(a:Addr)(C:Value)(d:Option Addr)(H':Hp)(s':Shared):Prop where
 own:∀o,s'.heap.get? a=some o->o.dict=d
 os:s'.os=s.os
 bare:AllBare s'.gens
 fly:∃(B:Heap)(a0:Value),Heap.FlyingW B outer a C a0 s'.heap/\HOk P w H' B/\(∀b∈frs outer,B.get? b=none)/\(∀b o,s.heap.get? b=some o->H b=none->b∉frs outer->B.get? b=some o) /\
  ∀b o,s.heap.get? b=some o->H b≠none->∃o',B.get? b=some o'
 up:∀b o,s.heap.get? b=some o->H b=none->b∈frs outer->∃sl,s'.heap.get? b=some { o with slots:=sl }
 free:∀b o,s.heap.get? b=some o->H b=none->H' b=none
 tups:∀b xs,H b=some (.tup xs)->H' b=some (.tup xs)
 frzs:∀b o u,H b=some (.frz o u)->H' b=some (.frz o u)
 tbls:∀b ps,H b=some (.tbl ps)->∃more,H' b=some (.tbl (ps++more))
def CXe(P:Program)(w:World):CXT:=λouter H s E e s'=>∃a C d H',e=.ref a/\Fli P w outer H s a C d H' s'/\E C d H'
theorem CXe.mono(h:CXe P w outer H s E e s')(k:∀C d H',E C d H'->E' C d H'):CXe P w outer H s E' e s':=by
 obtain⟨a,C,d,H',e1,f,q⟩:=h;exact⟨a,C,d,H',e1,f,k C d H' q⟩
structure Body(X:Cx)(outer:List Env):Prop where
 stk:X.stack=X.env::outer
 out:X.outer=outer
 fr:X.env.frame=some X.env.locals
 ex:X.ex=[]
section
theorem Inv.old(I:Inv X pins σ H s)(q:X.s₀.heap.get? b=some o):b≠X.env.locals:=λz=>by
 subst z;exact absurd (Heap.lt_size q) (Bf.mpr I.ok.above)
theorem Body.mem(Y:Body X outer)(hb:b∈frs X.stack):b=X.env.locals\/b∈frs outer:=by
 rw[Y.stk] at hb;obtain⟨env,he,hf⟩:=U3.mp hb;rcases Up.mp he with rfl|he
 ·rw[Y.fr] at hf; exact .inl (Option.some.inj hf).symm
 ·exact .inr (U3.mpr ⟨env,he,hf⟩)
theorem Body.in_(Y:Body X outer)(hb:b∈frs outer):b∈frs X.stack:=by
 rw[Y.stk];obtain⟨env,he,hf⟩:=U3.mp hb;exact U3.mpr ⟨env, .tail _ he,hf⟩
def untr(H:Hp)(a:Addr):Hp:=λb=>if b=a then none else H b
theorem xN(h:b≠a):untr H a b=H b:=by unfold untr; rw[if_neg h]
theorem Yp:untr H a a=none:=by unfold untr; rw[if_pos rfl]
theorem HOk.untr{P:Program}{w:World}{H:Hp}{h h':Heap}{a:Addr}{φ:Heap->Prop}(x:HOk P w H h)(ea:H a=some (.ext φ))(k:∀b u,b≠a->H b≠none->h.get? b=some u->h'.get? b=some u):HOk P w (untr H a) h':=λb o e=>by
 have hb:b≠a:=λz=>by rw[z,Yp] at e; cases e
 rw[xN hb] at e;refine(x b o e).stay (λc u hc q=>?_) (λc hc=>?_) λc xs hc=>?_
 ·rcases hc with rfl|hc
  ·exact k _ u hb (by rw[e]; simp) q
  ·exact k c u (λz=>by rw[z,ea] at hc; cases hc) (by rw[hc]; simp) q
 ·rw[xN λz=>by rw[z,ea] at hc; cases hc]; exact hc
 ·rw[xN λz=>by rw[z,ea] at hc; cases hc]; exact hc
theorem Ji(Y:Body X outer)(I:Inv X pins σ H s)(hA:A.frames=some X.stack)(hx:H e=some (excO e C d))(he0:X.s₀.heap.get? e=none)(hE:E (.ref C) d (untr H e)) :
  wpAny M A (leaving X.env (.ref e)) (λ_ s''=>CXe X.prog X.w outer X.H₀ X.s₀ E (.ref e) s'') R s:=by
 obtain⟨t0,hge⟩:=kB I.hok hx;have hin:∀env∈X.stack,∀b,env.frame=some b->b∈e::frs X.stack:=λenv he b hb=>.tail _ (U3.mpr ⟨env,he,hb⟩);have hl:s.heap.FunFrames (W.hideAll s.heap (e::frs X.stack)) X.stack:=W.funFrames_hide I.stack hin;rw[Y.stk] at hA;have ob:∀b o,X.s₀.heap.get? b=some o->b∉frs outer->b∉e::frs X.stack:=λb o q n z=>by
  rcases Up.mp z with rfl|z
  ·rw[he0] at q; cases q
  ·rcases Y.mem z with z|z
   ·exact I.old q z
   ·exact n z
 have nx:∀b,b∉X.ex:=λb=>by rw[Y.ex]; simp
 have fs:∀b,b∈frs outer↔b∈X.fs:=λb=>by show _↔b∈frs X.outer; rw[Y.out]
 refine wpAny_mono (DK.any (Q8 _ _) (wpAny_leaving_firstW (base:=W.hideAll s.heap (e::frs X.stack)) hA (by rw[<-Y.stk]; exact hl) Y.fr hge (λb o q=>R7 _ q) (DF _ (.head _)) rfl rfl rfl (Q:=λ_ s'=>Heap.LeftW (W.hideAll s.heap (e::frs X.stack)) (X.env::outer) e (.ref C) (.ref t0) s.heap s'.heap/\∃h',s'={ s with heap:=h' }) λh' q=>⟨q,h',rfl⟩)) (λ_ s' q=>?_) λ_ _ q=>q.1;obtain⟨⟨⟨k1,⟨_,_,k2⟩,k3,k4⟩,h',rfl⟩,kd⟩:=q;refine⟨e, .ref C,d,untr H e,rfl,⟨?_,I.os,I.bare,⟨_, .ref t0,⟨k1,DF _ (.head _),k2,k3⟩, ?_, ?_, ?_, ?_⟩, ?_, ?_, ?_, ?_, ?_⟩,hE⟩
 ·exact λo q=>(kd.get (d:=0) hge q)
 ·exact I.hok.untr hx λb u hb hb0 q=>DJ _ q λhm=>by
   rcases Up.mp hm with z|hm
   ·exact hb z
   ·exact hb0 (I.stkFree b hm)
 ·exact λb hb=>DF _ (.tail _ (Y.in_ hb))
 ·exact λb o q n hb=>DJ _ (I.base.keep b o q n (λz=>hb ((fs b).mpr z)) (nx b)) (ob b o q hb)
 ·intro b o q n
  obtain⟨o',e1⟩:=I.base.there b o q (nx b);refine⟨o',DJ _ e1 (ob b o q λz=>n (I.ok.frf b ((fs b).mp z)))⟩
 ·intro b o q n hb
  obtain⟨sl,e1⟩:=I.base.slot b o q n ((fs b).mp hb) (nx b);obtain⟨_,o',ho',hd⟩:=I.ok.funs.mem (show b∈X.outer.filterMap (·.frame) from(fs b).mp hb);rw[q] at ho'; cases ho';obtain⟨sl2,e2⟩:=k4 b _ e1 hd;exact⟨sl2,e2⟩
 ·intro b o q n
  have:=I.base.free b o q n (nx b);unfold untr;split
  ·rfl
  ·exact this
 ·intro b xs q
  have:=I.base.tups b xs q;rw[xN λz=>by rw[z,hx] at this; cases this]; exact this
 ·intro b o u q
  have:=I.base.frzs b o u q;rw[xN λz=>by rw[z,hx] at this; cases this]; exact this
 ·intro b ps q
  obtain⟨m,this⟩:=I.base.tbls b ps q;exact⟨m,by rw[xN λz=>by rw[z,hx] at this; cases this]; exact this⟩
theorem WC(Y:Body X outer)(I:Inv X pins σ H s)(hA:A.frames=some X.stack)(hx:CXe X.prog X.w X.stack H s E e s') :
  wpAny M A (leaving X.env e) (λ_ s''=>CXe X.prog X.w outer X.H₀ X.s₀ E e s'') R s':=by
 obtain⟨a,C,d,H',rfl,F,hE⟩:=hx;obtain⟨B,a0,fl,hok,nb,kp,th⟩:=F.fly;have ob:∀b o,X.s₀.heap.get? b=some o->b∉frs outer->b∉frs X.stack:=λb o q n z=>by
  rcases Y.mem z with z|z
  ·exact I.old q z
  ·exact n z
 have nx:∀b,b∉X.ex:=λb=>by rw[Y.ex]; simp
 have fs:∀b,b∈frs outer↔b∈X.fs:=λb=>by show _↔b∈frs X.outer; rw[Y.out]
 rw[Y.stk] at hA fl;refine wpAny_mono (DK.any (Q8 _ _) (wpAny_leaves_onW hA Y.fr fl (Q:=λ_ s2=>(Heap.FlyingW B outer a C a0 s2.heap/\s'.heap.UpToSlots s2.heap)/\∃h',s2={ s' with heap:=h' }) λh' x1 x4=>⟨⟨x1,x4⟩,h',rfl⟩)) (λ_ s2 z=>?_) λ_ _ q=>q.1;obtain⟨⟨⟨x1,x4⟩,h',rfl⟩,kd⟩:=z;refine⟨a,C,d,H',rfl,⟨?_,F.os.trans I.os,F.bare,⟨B,a0,x1,hok,λb hb=>nb b (Y.in_ hb), ?_, ?_⟩, ?_, ?_,λb xs q=>F.tups b xs (I.base.tups b xs q),λb o u q=>F.frzs b o u (I.base.frzs b o u q), ?_⟩,hE⟩
 ·obtain⟨o1,e1,_⟩:=fl.there
  exact λo q=>(kd.get (d:=0) e1 q).trans (F.own o1 e1)
 ·exact λb o q n hb=>kp b o (I.base.keep b o q n (λz=>hb ((fs b).mpr z)) (nx b)) (I.base.free b o q n (nx b)) (ob b o q hb)
 ·intro b o q n
  obtain⟨o',e1⟩:=I.base.there b o q (nx b);cases hb:H b with
  |none=>exact⟨o',kp b o' e1 hb (ob b o q λz=>n (I.ok.frf b ((fs b).mp z)))⟩
  |some u=>exact th b o' e1 (by rw[hb]; simp)
 ·intro b o q n hb
  obtain⟨sl,e1⟩:=I.base.slot b o q n ((fs b).mp hb) (nx b);obtain⟨sl',e2⟩:=F.up b _ e1 (I.base.free b o q n (nx b)) (Y.in_ hb);obtain⟨_,o',ho',hd⟩:=I.ok.funs.mem (show b∈X.outer.filterMap (·.frame) from(fs b).mp hb);rw[q] at ho'; cases ho';obtain⟨sl2,e3⟩:=x4 b _ e2 hd;exact⟨sl2,e3⟩
 ·intro b o q n
  obtain⟨o',e1⟩:=I.base.there b o q (nx b);exact F.free b o' e1 (I.base.free b o q n (nx b))
 ·intro b ps q
  obtain⟨m1,e1⟩:=I.base.tbls b ps q;obtain⟨m2,e2⟩:=F.tbls b _ e1;exact⟨m1++m2,by rw[e2,D6]⟩
end
def wordsX:List Str:=["laying","room","word","head","end","limb","small","kind","address"]
def wW(n:Int):Str:=(wordsX[((n-1000000) % 9).toNat]?).getD ""
def wK(n:Int):Int:=(n-1000000) / 9
def xfs(n:Int):List (Str×V):=if n<1000000 then[("part", .int n)] else[("word", .str (wW n)),("k", .int (wK n))]
theorem xfs_part(h:n<1000000):xfs n=([("part", .int n)]:List (Str×V)):=if_pos h
def pV:Option Int->V
 |none=>.non
 |some n=>.int n
theorem pV_inj(h:pV p=pV q):p=q:=by
 cases p<;>cases q<;>first|rfl|cases h
 rfl
def PartIs(d:Option Addr)(H:Hp):Option Int->Prop
 |none=>d=none
 |some n=>∃x,d=some x/\H x=some (.xd (xfs n))
def EX(mg:Str->Option Value)(D:Ends)(σ:St):XK:=λC d H'=>∃nm p,mg nm=some C/\PartIs d H' p/\D.bk (some (.str nm)::some (pV p)::σ) H'
def Cmp(X:Cx)(E:XK)(σ:St):Prop:=∀pins H s e s',Inv X pins σ H s->CXe X.prog X.w X.stack H s E e s'->X.xe e s'
def CmpD(r:Prop)(X:Cx)(D:Ends):Prop:=(∀σ,Cmp X (EX X.mg D σ) σ)/\(r->∀pins σ H s e C d,Inv X pins σ H s->H e=some (excO e C d)->X.s₀.heap.get? e=none->EX X.mg D σ (.ref C) d (untr H e)->X.xe (.ref e) s)
structure QX(r:Prop)(X:Cx)(st:Stmt)(t:TS):Prop where
 h:∀pins s σ H D,CmpD r X D->Inv X pins σ H s->t D σ H->wpAny (model X.prog X.w) X.A (exec st X.env) (SP X pins D) X.xe s
structure QXs(r:Prop)(X:Cx)(st:List Stmt)(t:TS):Prop where
 h:∀pins s σ H D,CmpD r X D->Inv X pins σ H s->t D σ H->wpAny (model X.prog X.w) X.A (execs st X.env) (SP X pins D) X.xe s
abbrev TX:=St->Hp->VK->XK->Prop
structure QXe(X:Cx)(e:Expr)(t:TX):Prop where
 h:∀pins s σ H Q E,Cmp X E σ->Inv X pins σ H s->t σ H Q E->wpAny (model X.prog X.w) X.A (eval e X.env) (EP X pins σ Q) X.xe s
section
variable {r:Prop} {X:Cx} {st:Stmt} {rest:List Stmt} {t u:TS} {e:Expr} {tx:TX} {pos:Pos}
theorem vA(h1:QX r X st t)(h2:QXs r X rest u):QXs r X (st::rest) (tSeq t u):=⟨λpins s σ H D c I h=>by
 refine wpAny_execs_cons (thn (h1.h pins s σ H { D with nx:=u D } c I h) λf s1 q=>?_);cases f with
 |next =>
  obtain⟨σ',H',I',q⟩:=q;exact h2.h pins s1 σ' H' D c I' q
 |ret v=>exact q
 |brk=>exact q
 |cont=>exact q⟩
theorem Qd:QXs r X [] Vf:=⟨λpins s σ H D c I h=>wpAny_execs_nil ⟨σ,H,I,h⟩⟩
theorem vb(h1:QX r X st t):QXs r X [st] t:=⟨λpins s σ H D c I h=>by
 refine wpAny_execs_cons (thn (h1.h pins s σ H D c I h) λf s1 q=>?_);cases f with
 |next=>exact wpAny_execs_nil q
 |ret v=>exact q
 |brk=>exact q
 |cont=>exact q⟩
theorem X4(h:QS X.nox st t):QX r X st t:=⟨λpins s σ H D _ I q=>wpAny_mono (h.h pins s σ H D (I.wish _) q) (λ_ _ z=>z.unwish) λ_ _ z=>False.elim z⟩
theorem VA(hc:QT X.nox c tc)(ha:QXs r X a t)(hb:QXs r X b u):QX r X (.If c a b pos) (tIfS tc t u):=⟨λpins s σ H D k I h=>by
 refine wpAny_If (thn (hc.h.nox pins s σ H _ I h) λd s1 ⟨H1,I1,q1⟩=>?_);cases d with
 |true=>exact ha.h pins s1 σ H1 D k I1 q1
 |false=>exact hb.h pins s1 σ H1 D k I1 q1⟩
def tDropX(tx:TX)(mg:Str->Option Value):TS:=λD σ H=>tx σ H (λ_ H1=>D.nx σ H1) (EX mg D σ)
theorem vB(he:QXe X e tx)(hs:swapsWith e none pos.line X.env=pure false:=by rfl):QX r X (.Expr e pos) (tDropX tx X.mg):=⟨λpins s σ H D k I h =>
 wpAny_Expr_any (thn (he.h pins s σ H _ _ (k.1 σ) I h) λv s1 ⟨x,H1,I1,r1,q1⟩=>⟨σ,H1,I1,q1⟩) I.quiet hs⟩
theorem YW(F:FnOk X.prog X.w X.K X.mg X.base (CXe X.prog X.w) k f fd ps sp)(hr:Room k X.A)(hb:Binds X.K fd ps [])(hx:Cmp X E σ)(I:Inv X pins σ H s)(rv:Vals vs us)(h:sp vs H Q E):wpAny (model X.prog X.w) X.A (call (.ref f) us) (EP X pins σ Q) X.xe s:=by
 have hl:us.length=ps.length:=by rw[<-rv.length]; exact F.len _ _ _ _ h
 refine wpAny_call (codeAny_mono (F.run X.A X.stack s H ⟨us, []⟩ us vs Q E hr I.env0 (by simpa using hb s us I.kIn (by simpa using hl)) rv h) λrr s' hq=>?_);cases rr with
 |error e=>exact hx pins H s e s' I hq
 |ok fl =>
  cases fl with
  |ret u=>exact I.after hq
  |next=>exact False.elim hq
  |brk=>exact False.elim hq
  |cont=>exact False.elim hq
structure DefX(P:Program)(w:World)(Ξ:PySem.W.Frag)(mg:Str->Option Value)(base:Heap)(x:Str)(k:Nat)(ps:List Str)(sp:Sp):Prop where
 ex:∃(f:Addr)(fd:FuncData),mg x=some (.ref f)/\W.keepIn Ξ (.ref f)=true/\Binds Ξ fd ps []/\FnOk P w Ξ mg base (CXe P w) k f fd ps sp
structure MDefX(P:Program)(w:World)(Ξ:PySem.W.Frag)(mg:Str->Option Value)(base:Heap)(C:Addr)(m:Str)(k:Nat)(ps:List Str)(sp:Sp):Prop where
 ex:∃(f:Addr)(fd:FuncData),Meth Ξ C m f/\Binds Ξ fd ps []/\FnOk P w Ξ mg base (CXe P w) k f fd ps sp
def tCallX(sp:Sp)(t:TA):TX:=λσ H Q E=>t σ H λvs H1=>sp vs H1 Q E
theorem xV(D:DefX X.prog X.w X.K X.mg X.base x k ps sp)(hr:Room k X.A)(ha:QA X.nox (e::es) ta)(hg:Gl X x:=by rfl)(hdb:(x==("__debug__" : Str))=false:=by decide)(he:starEach (e::es) X.env=(false,eval e X.env)::starEach es X.env:=by rfl)(hpl:(backTo pos (starEach es X.env)).any (·.1)=false:=by rfl) :
  QXe X (.Call (.Name x p) (e::es) [] pos) (tCallX sp ta):=⟨λpins s σ H Q E hx I h=>by
 obtain⟨f,fd,hm,hk,hb,F⟩:=D.ex;refine wpAny_Call_Name_kw (zt I hg hm ?_ hdb);refine Dx (h₀:=X.base) I.ok.mod.kin hk (wpAny_mono (ha.h pos pins s σ H _ (I.wish _) h) (λus s1 ⟨vs,H1,I1,r,q⟩=>⟨I1.unwish.kIn, ?_⟩) λ_ _ z=>False.elim z) he hpl;exact YW F hr hb hx I1.unwish r q⟩
def tMethX(C:Addr)(m:Str)(sp:Sp)(ta:TE)(t:TA):TX:=λσ H Q E=>ta σ H λx H1=>∃a dx fs,x=.ref a/\H1 a=some (.ins C dx fs)/\fs.lookup m=none/\t σ H1 λvs H2=>sp (x::vs) H2 Q E
theorem zf(hq:QE X.nox o ta)(c:Cls X.K C)(D:MDefX X.prog X.w X.K X.mg X.base C m k ps sp)(hr:Room k X.A)(ha:QA X.nox (e::es) tl)(hst:starEach (e::es) X.env=(false,eval e X.env)::starEach es X.env:=by rfl)(hpl:(backTo pos (starEach es X.env)).any (·.1)=false:=by rfl)(ht:eval (.Call (.Attribute o m apos) (e::es) [] pos) X.env=(do
   let ov <-eval o X.env
   standAt apos.atName;let(f,first) <-holding [ov] (getMethod ov m pl)
   callWith pos f first (backTo pos (starEach (e::es) X.env)) (backToKw pos (keywordEach [] X.env))):=by rfl) :
  QXe X (.Call (.Attribute o m apos) (e::es) [] pos) (tMethX C m sp ta tl):=⟨λpins s σ H Q E hx I h=>by
 obtain⟨f,fd,hm,hb,F⟩:=D.ex;refine Dl (pl:=pl) (thn (hq.h.nox pins s σ H _ I h) λu s1 ⟨x,H1,I1,rx,a,dx,fs,ex,ea,l,q⟩=>?_) ht;subst ex;obtain rfl:u=Value.ref a:=rx;refine xx I1 ea c hm l ?_;refine Dx (first:=[.ref a]) (h₀:=X.base) I.ok.mod.kin hm.kp (wpAny_mono (ha.h pos pins s1 σ H1 _ (I1.wish _) q) (λus s2 ⟨vs,H2,I2,r,q2⟩=>⟨I2.unwish.kIn, ?_⟩) λ_ _ z=>False.elim z) hst hpl;exact YW (us:=.ref a::us) (vs:=.ref a::vs) F hr hb hx I2.unwish (.cons rfl r) q2⟩
end
theorem own_obj(X:Ξ.In h)(q:W.excIn Ξ C bmB newId=true) :
  ∃bm N nm qn bs hdct sn sub ab col dd k0 k1 k2 k3 k5 mN,h.get? C=some (excClassObj nm qn C N bs bm hdct sn sub ab col dd k0 k1 k2 k3 k5 newId)/\h.Ns N mN/\mN "__init__" = none/\OwnTail h bmB bm:=by
 unfold W.excIn at q;split at q
 ·rename_i dd cd sl ho
  split at q
  ·rename_i C' bm k0 k1 k2 k3 n k5 hm hs
   obtain⟨nm,bs,mro,ns,qn,hd,sn,sub,ab,col,del⟩:=cd;simp only[Dw,beq_iff_eq,Rk] at q hm;obtain⟨⟨⟨⟨⟨z1,z2⟩,z3⟩,z4⟩,z5⟩,z6⟩:=q;subst z1; subst z2; subst hm; subst z3;obtain⟨l⟩:=sl;have hs:l=_:=hs;subst hs;exact⟨bm,ns,nm,qn,bs,hd,sn,sub,ab,col,dd,k0,k1,k2,k3,k5,_,X _ _ ho, .of_isNs (W.isNs_of_in X z5),W.nsMap_none_of_in X z5 z6,W.tail_of_in X z4⟩
  ·cases q
 ·cases q
structure ExcC(Ξ:PySem.W.Frag)(mg:Str->Option Value)(x:Str)(C:Addr):Prop where
 b:mg x=some (.ref C)
 o:W.excIn Ξ C [.type "ValueError", .type "Exception", .type "BaseException", .type "object"] "ValueError.__new__" = true
theorem untr_upd(h:H a=none):untr (upd H a o) a=H:=by
 funext b;unfold untr upd;split
 ·rename_i q; rw[q,h]
 ·rfl
theorem Inv.none0(I:Inv X pins σ H s)(hx:e∉X.ex)(h:s.heap.get? e=none):X.s₀.heap.get? e=none:=by
 cases z:X.s₀.heap.get? e with
 |none=>rfl
 |some o =>
  obtain⟨o',q⟩:=I.base.there e o z hx;rw[h] at q; cases q
theorem ObjOk.here(x:ObjOk P w H h a o):∃u,h.get? a=some u:=by
 cases o with
 |lst xs=>obtain⟨_,_,_,_,e⟩:=x; exact⟨_,e⟩
 |tup xs=>obtain⟨_,_,_,o,e,_⟩:=x; exact⟨o,e⟩
 |dK kvs=>obtain⟨_,_,_,_,o,_,_,e,_⟩:=x; exact⟨_,e⟩
 |dT kvs=>obtain⟨_,_,_,_,o,_,_,e,_⟩:=x; exact⟨_,e⟩
 |set S n=>obtain⟨o,_,_,_,e,_⟩:=x; exact⟨_,e⟩
 |ins C dx fs=>obtain⟨_,_,_,e,_⟩:=x; exact⟨_,e⟩
 |own y=>obtain⟨_,e⟩:=x; exact⟨_,e⟩
 |xd fs=>obtain⟨_,⟨_,_,_,e,_⟩,_⟩:=x; exact⟨_,e⟩
 |rng lo hi=>obtain⟨_,_,_,e⟩:=x; exact⟨_,e⟩
 |frz ob u=>obtain⟨e,_⟩:=x; exact⟨_,e⟩
 |tbl ps=>exact⟨_,(show h.get? a=some _ from x)⟩
 |met f y=>exact⟨_,(show h.get? a=some _ from x)⟩
 |ext φ=>obtain⟨_,⟨o,e⟩,_⟩:=x; exact⟨o,e⟩
theorem Inv.exc(I:Inv X pins σ H s)(hm:Heap.MadeExcOf s.heap h1 e (.ref C) args):H e=none/\Inv X pins σ (upd H e (excO e C none)) { s with heap:=h1 }:=by
 obtain⟨k,hn,t,ht,_⟩:=hm;have fr:H e=none:=by
  cases z:H e with
  |none=>rfl
  |some o =>
   obtain⟨u,q⟩:=(I.hok e o z).here;rw[hn] at q; cases q
 refine⟨fr, ?_⟩;refine I.un (h':=h1) (t':=s.toks) ⟨λb u q _ _ _=>k b u q,λb u q _ _ _=>⟨u.slots,k b u q⟩,λb u q n _=>?_,λb u q _=>⟨u,k b u q⟩,λb xs q=>?_,λb u xs q=>?_,λb ps q=>⟨#[], ?_⟩⟩ λb u q=>?_
 ·rw[upd_ne λz=>by rw[z,hn] at q; cases q]; exact n
 ·rw[upd_ne (qY q fr)]; exact q
 ·rw[upd_ne (qY q fr)]; exact q
 ·rw[upd_ne (qY q fr),q]; simp
 ·by_cases hb:b=e
  ·subst hb; rw[upd_same] at q; cases q; exact Jx (t:=t) ht
  ·rw[upd_ne hb] at q
   exact(I.hok b u q).stay (λc v _ q=>k c v q) (λc q=>by rw[upd_ne (qY q fr)]; exact q) λc xs q=>by rw[upd_ne (qY q fr)]; exact q
def tRaise(x:Str)(t:TA):TS:=λD σ H=>t σ H λvs H1=>vs.length<=sizeLine/\D.bk (some (.str x)::some .non::σ) H1
theorem Vz(hc:X.calm=true)(hx:X.ex=[])(O:ExcC X.K X.mg x C)(ha:QA X.nox (e::es) ta)(hg:Gl X x:=by rfl)(hdb:(x==("__debug__" : Str))=false:=by decide)(he:starEach (e::es) X.env=(false,eval e X.env)::starEach es X.env:=by rfl)(hpl:(backTo cpos (starEach es X.env)).any (·.1)=false:=by rfl) :
  QX True X (.Raise (some (.Call (.Name x np) (e::es) [] cpos)) none pos) (tRaise x ta):=⟨λpins s σ H D k I h=>by
 obtain⟨bm,N,nm,qn,bs,hdct,sn,sub,ab,col,dd,k0,k1,k2,k3,k5,mN,hC,hN,hni,T⟩:=own_obj I.mod.kin O.o;have hh:=I.ok.hd hc;refine wpAny_Raise_call_subU (C:=C) (nm:=nm) (q:=qn) (N:=N) (bs:=bs) (bm:=bm) (hdct:=hdct) (sn:=sn) (sub:=sub) (ab:=ab) (col:=col) (dd:=dd) (k0:=k0) (k1:=k1) (k2:=k2) (k3:=k3) (k5:=k5)
  PySem.F.excBase_ValueError (by decide) PySem.F.excBase_ValueError (mN:=mN) (T.hasType PySem.F.excBase_ValueError.hasBase) hh (by rw[he]; show(false||(backTo cpos (starEach es X.env)).any (·.1))=false; rw[hpl]; rfl) hni (zt I hg O.b ⟨rfl, ?_⟩ hdb)
 have h1:=ha.h cpos pins s σ H _ (I.wish _) h;rw[he] at h1 ⊢;refine Calls.evalArgs_plain (wpAny_mono h1 (λvs s₂ ⟨xs,H1,I1,r,hl,q⟩=>?_) λ_ _ z=>False.elim z);have I2:=I1.unwish;refine⟨rfl,by rw[<-r.length]; exact hl,I2.bk _ _ hC,hN.keeps I2.bk,T.keeps I2.bk,λh' e' hm=>?_⟩;obtain⟨fr,J⟩:=I2.exc hm;refine k.2 trivial pins σ _ _ e' C none J upd_same (I2.none0 (by rw[hx]; simp) hm.new) ⟨x,none,O.b,rfl, ?_⟩;rw[untr_upd fr];exact q⟩
abbrev kZ(n:Int):Prop:=n.natAbs.log2<1920/\(Str.ofString (toString n)).length<=10000/\n<1000000
def spI(C:Addr):Sp:=λvs H Q _=>∃a n,vs=[.ref a, .int n]/\kZ n/\H a=some (excO a C none)/\∀d,H d=none->Q .non (upd (upd H d (.xd [("part", .int n)])) a (excO a C (some d)))
structure ExcD(P:Program)(w:World)(Ξ:PySem.W.Frag)(mg:Str->Option Value)(base:Heap)(x:Str)(C:Addr)(k:Nat):Prop where
 b:mg x=some (.ref C)
 ex:∃f fd,ExcK Ξ C f/\Binds Ξ fd ["self","part"] []/\FnOk P w Ξ mg base CX0 k f fd ["self","part"] (spI C)
def YB(x:Str)(t:TA):TS:=λD σ H=>t σ H λvs H1=>∃n,vs=[.int n]/\kZ n/\∀d,H1 d=none->D.bk (some (.str x)::some (.int n)::σ) (upd H1 d (.xd [("part", .int n)]))
theorem Zw(hc:X.calm=true)(hx:X.ex=[])(O:ExcD X.prog X.w X.K X.mg X.base x C kk)(hr:Room (kk+1) X.A)(ha:QA X.nox (e::es) ta)(hg:Gl X x:=by rfl)(hdb:(x==("__debug__" : Str))=false:=by decide)(he:starEach (e::es) X.env=(false,eval e X.env)::starEach es X.env:=by rfl)(hpl:(backTo cpos (starEach es X.env)).any (·.1)=false:=by rfl) :
  QX True X (.Raise (some (.Call (.Name x np) (e::es) [] cpos)) none pos) (YB x ta):=⟨λpins s σ H D k I h=>by
 obtain⟨f,fd,ck,hb,F⟩:=O.ex;have hh:=I.ok.hd hc;refine PySem.W.Raise_I (C:=C) (f:=f) hh (by rw[he]; show(false||(backTo cpos (starEach es X.env)).any (·.1))=false; rw[hpl]; rfl) (zt I hg O.b ⟨rfl, ?_⟩ hdb);have h1:=ha.h cpos pins s σ H _ (I.wish _) h;rw[he] at h1 ⊢;refine Calls.evalArgs_plain (wpAny_mono h1 (λus s₂ ⟨xs,H1,I1,r,n,ev,hn,q⟩=>?_) λ_ _ z=>False.elim z);subst ev;have I2:=I1.unwish;have hl1:us.length=1:=by rw[<-r.length]; rfl
 refine⟨rfl,by show us.length<=_; rw[hl1,sizeLine_eq]; lia,W.excI_of I2.kIn ck.i,λh' e' hm=>?_⟩;obtain⟨fr,J⟩:=I2.exc hm;have r2:Vals [V.ref e',V.int n] (Value.ref e'::us):=.cons rfl r;refine wpAny_call (codeAny_mono (F.run _ X.stack _ _ ⟨Value.ref e'::us, []⟩ (Value.ref e'::us) _ (λv H2=>v=.non/\∃d,H1 d=none/\d≠e'/\H2=upd (upd (upd H1 e' (excO e' C none)) d (.xd [("part", .int n)])) e' (excO e' C (some d))) E0 (hr.make C us [])
  (J.env0.make C us []) (by simpa using hb _ (Value.ref e'::us) J.kIn (by simp[hl1])) r2 ⟨e',n,rfl,hn,upd_same,λd hd=>⟨rfl,d, ?_, ?_,rfl⟩⟩) λrr s' hq'=>?_)
 ·by_cases z:d=e'
  ·subst z; rw[upd_same] at hd; cases hd
  ·rwa [upd_ne z] at hd
 ·intro z; subst z; rw[upd_same] at hd; cases hd
 ·cases rr with
  |error e=>exact False.elim hq'
  |ok fl =>
   cases fl with
   |ret u =>
    obtain⟨v,H2,I3,rv,ev,d,hd1,hd2,eH⟩:=J.after hq';subst ev eH;obtain⟨t,ht⟩:=kB I3.hok (upd_same (H:=upd (upd H1 e' (excO e' C none)) d (.xd [("part", .int n)])) (o:=excO e' C (some d)));refine⟨rv,some d,t,W.excI_of I3.kIn ck.i,ht, ?_⟩;refine k.2 trivial pins σ _ _ e' C (some d) I3 upd_same (I2.none0 (by rw[hx]; simp) hm.new) ⟨x,some n,O.b,⟨d,rfl, ?_⟩, ?_⟩
    ·rw[xN hd2,upd_ne hd2,upd_same,xfs_part hn.2.2]
    ·have eU:untr (upd (upd (upd H1 e' (excO e' C none)) d (.xd [("part", .int n)])) e' (excO e' C (some d))) e'=upd H1 d (.xd [("part", .int n)]):=by
      funext b;unfold untr upd;by_cases z:b=e'
      ·subst z; simp only[if_true]; rw[if_neg (Ne.symm hd2),fr]
      ·simp only[z,if_false]
     rw[eU];exact q d hd1
   |next=>exact False.elim hq'
   |brk=>exact False.elim hq'
   |cont=>exact False.elim hq'⟩
section
def bkX(n:Nat)(mg:Str->Option Value)(E:XK):St->Hp->Prop:=λτ H'=>∃nm p σ',τ=some (.str nm)::some (pV p)::σ'/\σ'.length=n/\∀C d,mg nm=some C->PartIs d H' p->E C d H'
theorem bkX.ex(h:EX mg { nx:=nx,rt:=Q,bk:=bkX n mg E } σ C d H'):E C d H':=by
 obtain⟨nm,p,hm,hp,nm',p',σ',e,_,k⟩:=h;simp only[List.cons.injEq,Option.some.injEq,V.str.injEq] at e;exact k C d (e.1▸hm) (pV_inj e.2.1▸hp)
theorem Fun.okX{st:Stmt}(F:Fun Ξ x qual st f fd)(S:FnScope N ps (qg st))(len:∀vs H Q E,sp vs H Q E->vs.length=ps.length)(hbody:∀(cdv:Value)(A:Around)(outer:List Env)(s:Shared)(H:Hp)(vs:List V)(Q:VK)(E:XK),Room k (A.deeper (envOfC qual (qg st) s.heap.objs.size f cdv))->sp vs H Q E ->
   ∃t,QXs True (cxOf (CXe P w) P w Ξ mg base N qual (qg st) f cdv A outer s H E) (vQ st) t/\t { nx:=λ_ H'=>Q .non H',rt:=Q,bk:=bkX N.length mg E } (start N vs) H):FnOk P w Ξ mg base (CXe P w) (k+1) f fd ps sp:=by
 obtain⟨oc,od,kV,doc,pm,an,cdv,ct,osl,rfl,lk,hcd⟩:=F.ex;refine fn_of lk hcd S len λA outer s H vs Q E hr hsp=>?_;obtain⟨t,h,q⟩:=hbody cdv A outer s H vs Q E hr hsp;refine⟨λD σ H1=>D={ nx:=λ_ H'=>Q .non H',rt:=Q }/\t { nx:=λ_ H'=>Q .non H',rt:=Q,bk:=bkX N.length mg E } σ H1,λpins s1 σ H1 D I hd=>?_,rfl,q⟩;obtain⟨rfl,hd⟩:=hd;have Y:Body (cxOf (CXe P w) P w Ξ mg base N qual (qg st) f cdv A outer s H E) outer:=⟨rfl,rfl,rfl,rfl⟩;refine wpAny_mono (h.h pins s1 σ H1 _ ⟨λσ pins H s e s' I hx=>?_,λ_ pins σ H s e C d I hm h0 hx=>?_⟩ I hd) (λfl s' z=>?_) λ_ _ z=>z
 ·exact WC Y I I.ok.frames (hx.mono λC d H' z=>bkX.ex z)
 ·exact Ji Y I I.ok.frames hm h0 (bkX.ex hx)
 ·cases fl with
  |next=>exact z
  |ret u=>exact z
  |cont=>exact z
  |brk =>
   obtain⟨σ',H',I',nm,p,σ'',e,hl,_⟩:=z;have:=I'.len;rw[e,Ul,Ul,hl] at this;exact absurd this (by show N.length+1+1≠N.length; lia)
end
section
theorem Fli.un(F:Fli P w outer H s a C d H' s'):Un (frs outer) [] H H' s.heap s'.heap/\HOk P w H' s'.heap:=by
 obtain⟨B,a0,fl,hok,nb,kp,th⟩:=F.fly;refine⟨⟨λb o q n hb _=>fl.1 b o (kp b o q n hb),λb o q n hb _=>F.up b o q n hb,λb o q n _=>F.free b o q n,λb o q _=>?_,F.tups,F.frzs,F.tbls⟩,hok.kept fl.1⟩;cases hb:H b with
 |some u =>
  obtain⟨o',e⟩:=th b o q (by rw[hb]; simp);exact⟨o',fl.1 b o' e⟩
 |none =>
  by_cases hf:b∈frs outer
  ·obtain⟨sl,e⟩:=F.up b o q hb hf
   exact⟨_,e⟩
  ·exact⟨o,fl.1 b o (kp b o q hb hf)⟩
theorem Fli.inv(I:Inv X pins σ H s)(F:Fli X.prog X.w X.stack H s a C d H' s'):Inv X pins σ H' s' :=
 I.call' F.os F.un.1 F.un.2 F.bare (ch:=[]) λb z=>absurd z (by simp)
theorem Fli.step(F:Fli P w outer H s a C d H' s'):∃B a0,Heap.FlyingW B outer a C a0 s'.heap/\∀h',Heap.FlyingW B outer a C a0 h'->s'.heap.UpToSlots h'->Obk s'.heap h'->Fli P w outer H s a C d H' { s' with heap:=h' }:=by
 obtain⟨B,a0,fl,hok,nb,kp,th⟩:=F.fly;refine⟨B,a0,fl,λh' fl' up kd=>⟨λo q=>by
  obtain⟨o1,e1,_⟩:=fl.there;exact(kd.get (d:=0) e1 q).trans (F.own o1 e1),F.os,F.bare,⟨B,a0,fl',hok,nb,kp,th⟩,λb o q n hb=>?_,F.free,F.tups,F.frzs,F.tbls⟩⟩
 obtain⟨sl,e⟩:=F.up b o q n hb;obtain⟨_,o',ho',hd⟩:=fl.2.2.1.mem (show b∈outer.filterMap (·.frame) from hb);rw[e] at ho'; cases ho';obtain⟨sl2,e2⟩:=up b _ e hd;exact⟨sl2,e2⟩
theorem Fli.ty(F:Fli P w outer H s a C d H' s'):PySem.W.Looks M s'.heap (typeOf (.ref a)) C:=by
 obtain⟨B,a0,fl,_⟩:=F.fly;obtain⟨ob,hob,hc⟩:=fl.there;subst hc;exact(PySem.W.Looks.ld hob).andThen .now
end
abbrev Cx.caught(X:Cx)(a:Addr):Cx:={ X with A:=X.A.mark (some (.ref a)),calm:=false,xe:=λ_ _=>False }
section
theorem Inv.caught(I:Inv X pins σ H s)(a:Addr):Inv (X.caught a) pins σ H s :=
 ⟨⟨I.ok.mod,I.ok.kind,I.ok.glob,I.ok.blt,I.ok.above,I.ok.inj,I.ok.has,I.ok.cab,(λz=>nomatch z),I.ok.frames,I.ok.stk,I.ok.exf,I.ok.bs,I.ok.bsz,I.ok.noex,I.ok.exfs,I.ok.funs,I.ok.frf⟩,I.os,I.bare,I.base,I.loc,I.cell,I.free,I.freeC,I.pin,I.hok,I.len⟩
theorem Inv.back(ok:X.Ok)(I:Inv (X.caught a) pins σ H s):Inv X pins σ H s:=⟨ok,I.os,I.bare,I.base,I.loc,I.cell,I.free,I.freeC,I.pin,I.hok,I.len⟩
abbrev Cx.tried(X:Cx)(pins:List (Addr×Obj))(xe:Value->Shared->Prop):Cx:={ X with pn:=X.pn++pins,xe:=xe }
theorem Inv.tried(I:Inv X pins σ H s)(xe:Value->Shared->Prop):Inv (X.tried pins xe) [] σ H s :=
 ⟨⟨I.ok.mod,I.ok.kind,I.ok.glob,I.ok.blt,I.ok.above,I.ok.inj,I.ok.has,I.ok.cab,I.ok.hd,I.ok.frames,I.ok.stk,I.ok.exf,I.ok.bs,I.ok.bsz,I.ok.noex,I.ok.exfs,I.ok.funs,I.ok.frf⟩,I.os,I.bare,I.base,I.loc,I.cell,I.free,I.freeC,λp hp=>I.pin p (by simpa using hp),I.hok,I.len⟩
theorem Inv.untried(ok:X.Ok)(I:Inv (X.tried pins xe) pins' σ H s):Inv X pins σ H s :=
 ⟨ok,I.os,I.bare,I.base,I.loc,I.cell,I.free,I.freeC,λp hp=>I.pin p (UH _ hp),I.hok,I.len⟩
end
structure QH(X:Cx)(hs:List ExceptHandler)(C:Value)(q:Option Int)(t:TS):Prop where
 h:∀pins σ H1 s1 d H' s a D,Inv X pins σ H1 s1->Fli X.prog X.w X.stack H1 s1 a C d H' s->PartIs d H' q->t D σ H'->wpAny (model X.prog X.w) X.A (handleBy (.ref a) X.env hs) (SP X pins D) X.xe s
section
theorem qh_miss(hm:X.mg x=some cX)(he:W.exmOne X.K C cX=some false)(hr:QH X hs C qp t)(hg:Gl X x:=by rfl)(hdb:(x==("__debug__" : Str))=false:=by decide) :
  QH X (.ExceptHandler (some (.Name x p)) nmo suite pos::hs) C qp t:=⟨λpins σ H1 s1 d H' s a D I F hq h=>by
 have J:=F.inv I;refine wpAny_handleBy_cons (codeAny_handlers_test (zt (X:=X.caught a) (J.caught a) hg hm ?_ hdb)) (by intro q; cases q);refine W.exm_one J.kIn F.ty he _ _ _ s (λ_ _ z=>z) ?_;exact hr.h pins σ H1 s1 d H' s a D I F hq h⟩
theorem qh_hit(hm:X.mg x=some cX)(he:W.exmOne X.K C cX=some true)(hb:∀a,QSs (X.caught a) (b0::suite) t)(hg:Gl X x:=by rfl)(hdb:(x==("__debug__" : Str))=false:=by decide) :
  QH X (.ExceptHandler (some (.Name x p)) none (b0::suite) pos::hs) C qp t:=⟨λpins σ H1 s1 d H' s a D I F hq h=>by
 have J:=F.inv I;refine wpAny_handleBy_cons (codeAny_handlers_test (zt (X:=X.caught a) (J.caught a) hg hm ?_ hdb)) (by intro q; cases q);refine W.exm_one J.kIn F.ty he _ _ _ s (λ_ _ z=>z) ?_;show codeAny _ _ _ _ s;refine codeAny_handlers_suite ?_;obtain⟨B,a0,fl,st⟩:=F.step;refine wpAny_mono (DK.any (xn _ _) (lands_againW fl (Q:=λ_ s2=>(Heap.FlyingW B X.stack a C a0 s2.heap/\s.heap.UpToSlots s2.heap)/\∃h',s2={ s with heap:=h' }) (E:=λ_ _=>False) λh' x1 x4=>⟨⟨x1,x4⟩,h',rfl⟩)) (λ_ s2 z=>?_) λ_ _ q=>q.1.elim;obtain⟨⟨⟨fl',up⟩,h',rfl⟩,kd⟩:=z;have J2:=(st h' fl' up kd).inv I;refine wpAny_mono ((hb a).h pins _ σ H' D (J2.caught a) h) (λf s2 q=>?_) λ_ _ z=>False.elim z;cases f with
 |next=>obtain⟨σ',H2,I2,q⟩:=q; exact⟨σ',H2,I2.back I.ok,q⟩
 |brk=>obtain⟨σ',H2,I2,q⟩:=q; exact⟨σ',H2,I2.back I.ok,q⟩
 |cont=>obtain⟨σ',H2,I2,q⟩:=q; exact⟨σ',H2,I2.back I.ok,q⟩
 |ret u=>obtain⟨v,σ',H2,I2,r,q⟩:=q; exact⟨v,σ',H2,I2.back I.ok,r,q⟩⟩
end
def tTry(n:Nat)(tb:TS)(l:List (Str×(Option Int->TS))):TS:=λD σ H=>tb { D with bk:=λτ H'=>∃nm p σ' t,τ=some (.str nm)::some (pV p)::σ'/\σ'.length=n/\l.lookup nm=some t/\t p D σ' H' } σ H
theorem qs_try(Y:Body X outer)(hb:∀pins xe,QXs False (X.tried pins xe) body tb)(hh:∀nm t C,l.lookup nm=some t->X.mg nm=some C->∀p,QH X (h0::hs) C p (t p)):QS X (.Try body (h0::hs) [] [] pos) (tTry X.N.length tb l):=⟨λpins s σ H D I h=>by
 refine wpAny_Try_except ?_;refine wpAny_mono ((hb pins λe s1=>wpAny (model X.prog X.w) X.A (noteFrame e X.env) (λ_ s₂=>wpAny (model X.prog X.w) X.A (setFlight e none) (λ_ s₃=>wpAny (model X.prog X.w) X.A (handleBy e X.env (h0::hs)) (SP X pins D) X.xe s₃) X.xe s₂) X.xe s1).h [] s σ H _ ⟨λσ1 pins' H1 s1 e s' IY hx=>?_,λz=>z.elim⟩ (I.tried _) h) (λf s1 q=>?_) λ_ _ z=>z
 ·obtain⟨a,C,d,H',rfl,F,nm,p,hm,hp,nm',p',σ',t,e,hl,ht,q⟩:=hx
  simp only[List.cons.injEq,Option.some.injEq,V.str.injEq] at e;obtain⟨rfl,ep,rfl⟩:=e;obtain rfl:=pV_inj ep;have I1:Inv X pins σ1 H1 s1:=IY.untried I.ok;have F:Fli X.prog X.w X.stack H1 s1 a C d H' s':=F;obtain⟨B,a0,fl,st⟩:=F.step;have hA:X.A.frames=some (X.env::outer):=by rw[<-Y.stk]; exact I.ok.frames
  rw[Y.stk] at fl;refine wpAny_mono (DK.any (GT _ _) (wpAny_looks_onW hA Y.fr fl (Q:=λ_ s2=>(Heap.HeldW B (X.env::outer) a C a0 X.env.locals s2.heap/\s'.heap.UpToSlots s2.heap)/\∃h',s2={ s' with heap:=h' }) (E:=λ_ _=>False) λh' x1 x4=>⟨⟨x1,x4⟩,h',rfl⟩)) (λ_ s2 z=>?_) λ_ _ q=>q.1.elim;obtain⟨⟨⟨held,up1⟩,h1,rfl⟩,kd1⟩:=z;refine wpAny_mono (DK.any (xn _ _) (wpAny_landsW (s:={ s' with heap:=h1 }) held (Q:=λ_ s2=>(Heap.FlyingW B (X.env::outer) a C a0 s2.heap/\h1.UpToSlots s2.heap)/\∃h',s2={ s' with heap:=h' }) (E:=λ_ _=>False) λh' x1 x4=>⟨⟨x1,x4⟩,h',rfl⟩)) (λ_ s2 z=>?_) λ_ _ q=>q.1.elim;obtain⟨⟨⟨fl2,up2⟩,h2,rfl⟩,kd2⟩:=z;exact(hh nm t C ht hm p).h pins σ1 H1 s1 d H' _ a D I1 (st h2 (by rw[Y.stk]; exact fl2) (up1.trans up2) (kd1.trans kd2)) hp q
 ·cases f with
  |next=>obtain⟨σ',H2,I2,q⟩:=q; exact wpAny_execs_nil ⟨σ',H2,I2.untried I.ok,q⟩
  |cont=>obtain⟨σ',H2,I2,q⟩:=q; exact⟨σ',H2,I2.untried I.ok,q⟩
  |ret u=>obtain⟨v,σ',H2,I2,r,q⟩:=q; exact⟨v,σ',H2,I2.untried I.ok,r,q⟩
  |brk =>
   obtain⟨σ',H2,I2,nm,p,σ'',t,e,hl,_⟩:=q;have:=I2.len;rw[e,Ul,Ul,hl] at this;exact absurd this (by show X.N.length+1+1≠X.N.length; lia)⟩
section
theorem Fli.new{X:Cx}(F:Fli X.prog X.w X.stack H1 s1 a C d H' s'):s1.heap.get? a=none/\H' a=none/\∃oe vs,s'.heap.get? a=some oe/\oe.cls=C/\oe.dict=d/\oe.data=.fields vs:=by
 obtain⟨B,a0,fl,hok,nb,kp,th⟩:=F.fly;obtain⟨oe,vs,T,oT,ts,he,hc,hd,_⟩:=fl.2.2.2;refine⟨?_, ?_,oe,vs,he,hc.1,F.own oe he,hd⟩
 ·cases z:s1.heap.get? a with
  |none=>rfl
  |some o =>
   exfalso;have hn:=fl.2.1;by_cases hH:H1 a=none
   ·by_cases hf:a∈frs X.stack
    ·obtain⟨_,o',ho',hd'⟩:=fl.2.2.1.mem (show a∈X.stack.filterMap (·.frame) from hf)
     rw[he] at ho'; cases ho';exact hd' vs hd
    ·rw[kp a o z hH hf] at hn; cases hn
   ·obtain⟨o',q⟩:=th a o z hH
    rw[q] at hn; cases hn
 ·cases z:H' a with
  |none=>rfl
  |some u =>
   obtain⟨o,q⟩:=(hok a u z).here;rw[fl.2.1] at q; cases q
end
end L2
namespace PySem
theorem Paired.of_get{α β:Type}{F:α->β->Prop}:∀{l:List α}{m:List β},l.length=m.length->(∀(i:Nat) x y,l[i]?=some x->m[i]?=some y->F x y)->Paired F l m
 | [], [],_,_=>.nil
 | [],_::_,h,_=>by simp at h
 |_::_, [],h,_=>by simp at h
 |x::l,y::m,h,r=>.cons (r 0 x y rfl rfl) (Paired.of_get (by simpa using h) λi a b ha hb=>r (i+1) a b (by simpa using ha) (by simpa using hb))
theorem Paired.len{α β:Type}{F:α->β->Prop}:∀{l:List α}{m:List β},Paired F l m->l.length=m.length
 |_,_, .nil=>rfl
 |_,_, .cons _ t=>by rw[Ul,Ul,Paired.len t]
theorem Paired.get2{α β:Type}{F:α->β->Prop}:∀{l:List α}{m:List β}{i:Nat}{x:α}{y:β},Paired F l m->l[i]?=some x->m[i]?=some y->F x y
 |_,_,_,_,_, .nil,h,_=>by simp at h
 |_,_,0,_,_, .cons r _,h,k=>by simp at h k; subst h k; exact r
 |_,_,i+1,_,_, .cons _ t,h,k=>Paired.get2 (i:=i) t (by simpa using h) (by simpa using k)
theorem Paired.getR{α β:Type}{F:α->β->Prop}{l:List α}{m:List β}{i:Nat}{y:β}(h:Paired F l m)(e:m[i]?=some y):∃x,l[i]?=some x/\F x y:=by
 have hl:=h.len;have hi:=(Ue.mp e).1;have hx:l[i]?=some (l[i]'(by lia)):=Uf (by lia);exact⟨_,hx,h.get2 hx e⟩
theorem Paired.getL{α β:Type}{F:α->β->Prop}{l:List α}{m:List β}{i:Nat}{x:α}(h:Paired F l m)(e:l[i]?=some x):∃y,m[i]?=some y/\F x y:=by
 have hl:=h.len;have hi:=(Ue.mp e).1;have hx:m[i]?=some (m[i]'(by lia)):=Uf (by lia);exact⟨_,hx,h.get2 e hx⟩
theorem Paired.app{α β:Type}{F:α->β->Prop}:∀{l l':List α}{m m':List β},Paired F l m->Paired F l' m'->Paired F (l++l') (m++m')
 |_,_,_,_, .nil,h=>h
 |_,_,_,_, .cons r t,h=>.cons r (Paired.app t h)
theorem Paired.put{α β:Type}{F:α->β->Prop}{x:α}{y:β}(r:F x y):∀{l:List α}{m:List β}(i:Nat),Paired F l m->Paired F (l.set i x) (m.set i y)
 |_,_,_, .nil=>.nil
 |_,_,0, .cons _ t=>.cons r t
 |_,_,i+1, .cons q t=>.cons q (Paired.put r i t)
theorem Paired.tk{α β:Type}{F:α->β->Prop}:∀{l:List α}{m:List β}(n:Nat),Paired F l m->Paired F (l.take n) (m.take n)
 |_,_,0,_=>.nil
 |_,_,_+1, .nil=>.nil
 |_,_,n+1, .cons r t=>.cons r (Paired.tk n t)
theorem Paired.dr{α β:Type}{F:α->β->Prop}:∀{l:List α}{m:List β}(n:Nat),Paired F l m->Paired F (l.drop n) (m.drop n)
 |_,_,0,r=>r
 |_,_,_+1, .nil=>.nil
 |_,_,n+1, .cons _ t=>Paired.dr n t
theorem Paired.erase{α β:Type}{F:α->β->Prop}:∀{l:List α}{m:List β}(n:Nat),Paired F l m->Paired F (l.eraseIdx n) (m.eraseIdx n)
 |_,_,_, .nil=>.nil
 |_,_,0, .cons _ t=>t
 |_,_,n+1, .cons r t=>.cons r (Paired.erase n t)
theorem Paired.mapR{α β γ:Type}{F:α->β->Prop}{G:α->γ->Prop}{f:β->γ}(h:∀a b,F a b->G a (f b)):∀{l:List α}{m:List β},Paired F l m->Paired G l (m.map f)
 |_,_, .nil=>.nil
 |_,_, .cons r t=>.cons (h _ _ r) (Paired.mapR h t)
theorem Paired.unmapR{α β γ:Type}{F:α->β->Prop}{G:α->γ->Prop}{f:β->γ}(h:∀a b,G a (f b)->F a b):∀{m:List β}{l:List α},Paired G l (m.map f)->Paired F l m
 | [],_, .nil=>.nil
 |_::m,_, .cons r t=>.cons (h _ _ r) (Paired.unmapR h (m:=m) t)
theorem Paired.empt{α β:Type}{F:α->β->Prop}{l:List α}{m:List β}(h:Paired F l m):l.isEmpty=m.isEmpty:=by cases h<;>rfl
end PySem
namespace L2
open PySem PySem.Spec PyProof.Rows
inductive T where
 |non|bl (b:Bool)|int (i:Int)|str (x:Str)|tup (xs:List T)|lst (xs:List T)
inductive U where
 |p (t:T)|m (k:Nat)|x (a:Addr) (d:Option Addr) (q:Option Int)
inductive MO where
 |lst (us:List U)|tup (us:List U)|ins (C:Addr) (fs:List (Str×U))|dK (kvs:List (Key×U))|dF (kvs:List (Key×U)) (ob:Obj) (gs:List (Key×V))
abbrev MM:=List MO
abbrev UEnv:=List (Option U)
inductive RepT(A:Addr->Prop)(H:Hp):V->T->Prop
 |non:RepT A H .non .non
 |bl (b:Bool):RepT A H (.bl b) (.bl b)
 |int (i:Int):RepT A H (.int i) (.int i)
 |str (x:Str):RepT A H (.str x) (.str x)
 |tup {p:Addr} {vs:List V} {ts:List T} (na:¬A p) (e:H p=some (.tup vs)) (l:vs.length=ts.length) (r:∀(i:Nat) v t,vs[i]?=some v->ts[i]?=some t->RepT A H v t):RepT A H (.ref p) (.tup ts)
 |lst {p:Addr} {vs:List V} {ts:List T} (na:¬A p) (e:H p=some (.lst vs)) (l:vs.length=ts.length) (r:∀(i:Nat) v t,vs[i]?=some v->ts[i]?=some t->RepT A H v t):RepT A H (.ref p) (.lst ts)
section
variable {A A':Addr->Prop} {H H':Hp} {v:V} {t:T} {ι ι':List Addr} {M:MM} {u:U} {σ:St} {ρ:UEnv}
abbrev RepTs(A:Addr->Prop)(H:Hp):List V->List T->Prop:=Paired (RepT A H)
theorem RepT.tupP(na:¬A p)(e:H p=some (.tup vs))(r:RepTs A H vs ts):RepT A H (.ref p) (.tup ts):=.tup na e r.len λi v t h k=>r.get2 h k
theorem RepT.lstP(na:¬A p)(e:H p=some (.lst vs))(r:RepTs A H vs ts):RepT A H (.ref p) (.lst ts):=.lst na e r.len λi v t h k=>r.get2 h k
theorem RepT.mono(h:∀x o,¬A x->H x=some o->H' x=some o/\¬A' x)(r:RepT A H v t):RepT A' H' v t:=by
 induction r with
 |non=>exact .non
 |bl b=>exact .bl b
 |int i=>exact .int i
 |str x=>exact .str x
 |tup na e l r ih=>exact .tup (h _ _ na e).2 (h _ _ na e).1 l ih
 |lst na e l r ih=>exact .lst (h _ _ na e).2 (h _ _ na e).1 l ih
theorem RepT.tup_inv(r:RepT A H v (.tup ts)):∃p vs,v=.ref p/\¬A p/\H p=some (.tup vs)/\RepTs A H vs ts:=by
 cases r with
 |tup na e l r=>exact⟨_,_,rfl,na,e,Paired.of_get l r⟩
theorem RepT.lst_inv(r:RepT A H v (.lst ts)):∃p vs,v=.ref p/\¬A p/\H p=some (.lst vs)/\RepTs A H vs ts:=by
 cases r with
 |lst na e l r=>exact⟨_,_,rfl,na,e,Paired.of_get l r⟩
def Av(A:Addr->Prop)(ι:List Addr):Addr->Prop:=λx=>A x\/x∈ι
def PartX(ι:List Addr)(H:Hp)(d:Option Addr):Option Int->Prop
 |none=>d=none
 |some n=>∃x0,d=some x0/\x0∉ι/\H x0=some (.xd (xfs n))
inductive RepU(A:Addr->Prop)(ι:List Addr)(H:Hp):V->U->Prop
 |p {v:V} {t:T} (r:RepT (Av A ι) H v t):RepU A ι H v (.p t)
 |m {k:Nat} {a:Addr} (e:ι[k]?=some a):RepU A ι H (.ref a) (.m k)
 |x {a:Addr} {d:Option Addr} {q:Option Int} (h:PartX ι H d q):RepU A ι H (.ref a) (.x a d q)
abbrev RepUs(A:Addr->Prop)(ι:List Addr)(H:Hp):List V->List U->Prop:=Paired (RepU A ι H)
def ObjR(A:Addr->Prop)(ι:List Addr)(H:Hp)(a:Addr):MO->Prop
 |.lst us=>∃vs,H a=some (.lst vs)/\RepUs A ι H vs us
 |.tup us=>∃vs,H a=some (.tup vs)/\RepUs A ι H vs us
 |.ins C fs=>∃dx gs,H a=some (.ins C dx gs)/\H dx=some (.own a)/\dx∉ι/\Paired (λ(g:Str×V) (f:Str×U)=>g.1=f.1/\RepU A ι H g.2 f.2) gs fs
 |.dK kvs=>∃gs,H a=some (.dK gs)/\Paired (λ(g:Key×V) (f:Key×U)=>g.1=f.1/\RepU A ι H g.2 f.2) gs kvs
 |.dF kvs ob gs=>H a=some (.frz ob (.dK gs))/\Paired (λ(g:Key×V) (f:Key×U)=>g.1=f.1/\RepU A ι H g.2 f.2) gs kvs
structure Wd(A:Addr->Prop)(ι:List Addr)(H:Hp)(M:MM):Prop where
 nd:ι.Nodup
 len:ι.length=M.length
 dom:∀x,A x->H x≠none
 na:∀x∈ι,¬A x
 obj:∀(k:Nat) a o,ι[k]?=some a->M[k]?=some o->ObjR A ι H a o
structure Le(ι:List Addr)(H:Hp)(ι':List Addr)(H':Hp):Prop where
 ext:∃n,ι'=ι++n/\∀x∈n,H x=none
 fr:∀x o,H x=some o->x∉ι->H' x=some o
 al:∀x,H x≠none->H' x≠none
theorem Le.refl(ι:List Addr)(H:Hp):Le ι H ι H:=⟨⟨[],by simp,by simp⟩,λ_ _ h _=>h,λ_ h=>h⟩
theorem Le.trans(a:Le ι H ι' H')(b:Le ι' H' ι2 H2):Le ι H ι2 H2:=by
 obtain⟨n,rfl,hn⟩:=a.ext;obtain⟨m,rfl,hm⟩:=b.ext;have key:∀x,H x≠none->x∉ι->x∉ι++n:=λx hx h z=>by
  rcases Uu.mp z with z|z
  ·exact h z
  ·exact hx (hn x z)
 refine⟨⟨n++m,by rw[UL],λx hx=>?_⟩,λx o e h=>b.fr x o (a.fr x o e h) (key x (by rw[e]; simp) h),λx h=>b.al x (a.al x h)⟩;rcases Uu.mp hx with z|z
 ·exact hn x z
 ·cases q:H x with
  |none=>rfl
  |some o=>exact absurd (hm x z) (a.al x (by rw[q]; simp))
theorem Le.av(l:Le ι H ι' H')(h:¬Av A ι x)(e:H x=some o):H' x=some o/\¬Av A ι' x:=by
 obtain⟨n,rfl,hn⟩:=l.ext;refine⟨l.fr x o e λz=>h (.inr z),λz=>?_⟩;rcases z with z|z
 ·exact h (.inl z)
 ·rcases Uu.mp z with z|z
  ·exact h (.inr z)
  ·rw[hn x z] at e; cases e
theorem RepT.le(l:Le ι H ι' H')(r:RepT (Av A ι) H v t):RepT (Av A ι') H' v t:=r.mono λ_ _ h e=>l.av h e
theorem PartX.le(l:Le ι H ι' H')(h:PartX ι H d q):PartX ι' H' d q:=by
 cases q with
 |none=>exact h
 |some n =>
  obtain⟨x0,e,ni,hx⟩:=h;obtain⟨m,rfl,hm⟩:=l.ext;refine⟨x0,e,λz=>?_,l.fr x0 _ hx ni⟩;rcases Uu.mp z with z|z
  ·exact ni z
  ·rw[hm x0 z] at hx; cases hx
theorem RepU.le(l:Le ι H ι' H')(r:RepU A ι H v u):RepU A ι' H' v u:=by
 cases r with
 |p r=>exact .p (r.le l)
 |m e =>
  obtain⟨n,rfl,_⟩:=l.ext;exact .m (by rw[Ui (Ue.mp e).1]; exact e)
 |x h=>exact .x (h.le l)
theorem RepUs.le(l:Le ι H ι' H')(r:RepUs A ι H vs us):RepUs A ι' H' vs us:=Paired.mapP r λ_ _ q=>q.le l
theorem ObjR.some{a:Addr}{o:MO}(r:ObjR A ι H a o):∃h,H a=some h:=by
 cases o with
 |lst=>obtain⟨vs,e,_⟩:=r; exact⟨_,e⟩
 |tup=>obtain⟨vs,e,_⟩:=r; exact⟨_,e⟩
 |ins=>obtain⟨_,_,e,_⟩:=r; exact⟨_,e⟩
 |dK=>obtain⟨_,e,_⟩:=r; exact⟨_,e⟩
 |dF=>obtain⟨e,_⟩:=r; exact⟨_,e⟩
theorem ObjR.le'(l:Le ι H ι' H')(ea:H' a=H a)(eo:∀x,H x=Option.some (.own a)->H' x=H x)(r:ObjR A ι H a o):ObjR A ι' H' a o:=by
 cases o with
 |lst=>obtain⟨vs,e,r⟩:=r; exact⟨vs,by rw[ea]; exact e,Paired.mapP r λ_ _ q=>q.le l⟩
 |tup=>obtain⟨vs,e,r⟩:=r; exact⟨vs,by rw[ea]; exact e,Paired.mapP r λ_ _ q=>q.le l⟩
 |ins =>
  obtain⟨dx,gs,e,ed,nd,r⟩:=r;obtain⟨n,rfl,hn⟩:=l.ext;refine⟨dx,gs,by rw[ea]; exact e,by rw[eo dx ed]; exact ed,λz=>?_,Paired.mapP r λ_ _ q=>⟨q.1,q.2.le l⟩⟩;rcases Uu.mp z with z|z
  ·exact nd z
  ·rw[hn dx z] at ed; cases ed
 |dK=>obtain⟨gs,e,r⟩:=r; exact⟨gs,by rw[ea]; exact e,Paired.mapP r λ_ _ q=>⟨q.1,q.2.le l⟩⟩
 |dF=>obtain⟨e,r⟩:=r; exact⟨by rw[ea]; exact e,Paired.mapP r λ_ _ q=>⟨q.1,q.2.le l⟩⟩
theorem Wd.al(w:Wd A ι H M){k:Nat}(e:ι[k]?=some a):∃o,M[k]?=some o/\ObjR A ι H a o:=by
 have h:=(Ue.mp e).1;have e2:M[k]?=some (M[k]'(by rw[<-w.len]; exact h)):=Uf _;exact⟨_,e2,w.obj k a _ e e2⟩
theorem Wd.at(w:Wd A ι H M){k:Nat}(e:M[k]?=some o):∃a,ι[k]?=some a/\ObjR A ι H a o:=by
 have h:=(Ue.mp e).1;have e2:ι[k]?=some (ι[k]'(by rw[w.len]; exact h)):=Uf _;exact⟨_,e2,w.obj k _ _ e2 e⟩
theorem Wd.mem_some(w:Wd A ι H M)(h:a∈ι):∃o,H a=some o:=by
 obtain⟨k,e⟩:=Dm h;obtain⟨o,_,r⟩:=w.al e;exact r.some
theorem Wd.not_own(w:Wd A ι H M)(h:a∈ι):H a≠some (.own x):=λz=>by
 obtain⟨k,e⟩:=Dm h;obtain⟨o,_,r⟩:=w.al e;cases o with
 |lst=>obtain⟨vs,e,_⟩:=r; rw[z] at e; cases e
 |tup=>obtain⟨vs,e,_⟩:=r; rw[z] at e; cases e
 |ins=>obtain⟨_,_,e,_⟩:=r; rw[z] at e; cases e
 |dK=>obtain⟨_,e,_⟩:=r; rw[z] at e; cases e
 |dF=>obtain⟨e,_⟩:=r; rw[z] at e; cases e
theorem Le.fresh(h:H p=none):Le ι H ι (upd H p o):=⟨⟨[],by simp,by simp⟩,λx o' e _=>xM h e,λx e=>by
 by_cases z:x=p
 ·subst z; rw[upd_same]; simp
 ·rw[upd_ne z]; exact e⟩
theorem Le.push(h:H p=none):Le ι H (ι++[p]) (upd H p o):=⟨⟨[p],rfl,λx hx=>by rw[Us.mp hx]; exact h⟩,(Le.fresh (ι:=ι) h).fr,(Le.fresh (ι:=ι) h).al⟩
theorem Le.put(h:p∈ι):Le ι H ι (upd H p o):=⟨⟨[],by simp,by simp⟩,λx o' e n=>by rw[upd_ne (λz=>n (by rw[z]; exact h))]; exact e,λx e=>by
 by_cases z:x=p
 ·subst z; rw[upd_same]; simp
 ·rw[upd_ne z]; exact e⟩
theorem Wd.fresh(w:Wd A ι H M)(h:H p=none):Wd A ι (upd H p o) M :=
 ⟨w.nd,w.len,λx hx=>(Le.fresh (ι:=ι) h).al x (w.dom x hx),w.na,λk a ob e1 e2=>(w.obj k a ob e1 e2).le' (.fresh h) (upd_ne λz=>by
  obtain⟨q,hq⟩:=w.mem_some (Uh e1);rw[z,h] at hq; cases hq) λx ex=>upd_ne λz=>by rw[z,h] at ex; cases ex⟩
theorem Wd.nin(w:Wd A ι H M)(h:H p=none):p∉ι:=λz=>by
 obtain⟨q,hq⟩:=w.mem_some z;rw[h] at hq; cases hq
theorem Wd.nA(w:Wd A ι H M)(h:H p=none):¬Av A ι p:=λz=>z.elim (λz=>w.dom p z h) (w.nin h)
theorem Wd.push(w:Wd A ι H M)(h:H p=none)(new:ObjR A (ι++[p]) (upd H p o) p mo):Wd A (ι++[p]) (upd H p o) (M++[mo]):=by
 have np:=w.nin h;refine⟨Dp.mpr ⟨w.nd,by simp,λa ha b hb=>?_⟩,by simp[w.len],λx hx=>(Le.fresh (ι:=ι) h).al x (w.dom x hx),λx hx=>?_,λk a ob e1 e2=>?_⟩
 ·rw[Us.mp hb]; exact λz=>np (by rw[<-z]; exact ha)
 ·rcases Uu.mp hx with z|z
  ·exact w.na x z
  ·rw[Us.mp z]; exact λz=>w.dom p z h
 ·by_cases hk:k<ι.length
  ·rw[Ui hk] at e1
   rw[Ui (by rw[<-w.len]; exact hk)] at e2;exact(w.obj k a ob e1 e2).le' (.push h) (upd_ne λz=>np (by rw[<-z]; exact Uh e1)) λx ex=>upd_ne λz=>by rw[z,h] at ex; cases ex
  ·have hk2:=(Ue.mp e1).1
   rw[Uj,Dd] at hk2;have:k=ι.length:=by lia
   subst this;rw[Uq (Uk _),DL] at e1;rw[w.len,Uq (Uk _),DL] at e2;simp at e1 e2;subst e1 e2;exact new
theorem Wd.put(w:Wd A ι H M)(e:ι[k]?=some p)(new:ObjR A ι (upd H p o) p mo):Wd A ι (upd H p o) (M.set k mo):=by
 have hp:=Uh e;refine⟨w.nd,by rw[Ut]; exact w.len,λx hx=>(Le.put hp).al x (w.dom x hx),w.na,λj a ob e1 e2=>?_⟩;by_cases hj:k=j
 ·subst hj
  rw[e] at e1; cases e1;rw[Uw (by rw[<-w.len]; exact(Ue.mp e).1)] at e2;cases e2;exact new
 ·rw[Uz hj] at e2
  have na:a≠p:=λz=>by
   subst z;have h1:=Ue.mp e;have h2:=Ue.mp e1;exact hj ((List.getElem_inj w.nd).mp (h1.2.trans h2.2.symm))
  exact(w.obj j a ob e1 e2).le' (.put hp) (upd_ne na) λx ex=>upd_ne λz=>by
   rw[z] at ex; exact w.not_own hp ex
def EnvR(A:Addr->Prop)(ι:List Addr)(H:Hp):St->UEnv->Prop:=Paired λ(s:Option V) (r:Option U)=>∀u,r=some u->∃v,s=some v/\RepU A ι H v u
theorem EnvR.le(l:Le ι H ι' H')(r:EnvR A ι H σ ρ):EnvR A ι' H' σ ρ:=Paired.mapP r λ_ _ q u e=>by
 obtain⟨v,h1,h2⟩:=q u e;exact⟨v,h1,h2.le l⟩
theorem EnvR.get(r:EnvR A ι H σ ρ){i:Nat}(e:ρ[i]?=some (some u)):∃v,σ[i]?=some (some v)/\RepU A ι H v u:=by
 obtain⟨s,h1,h2⟩:=Paired.getR r e;obtain⟨v,rfl,h3⟩:=h2 u rfl;exact⟨v,h1,h3⟩
theorem EnvR.put(r:EnvR A ι H σ ρ)(i:Nat)(q:RepU A ι H v u):EnvR A ι H (σ.set i (some v)) (ρ.set i (some u)):=Paired.put (λw e=>by cases e; exact⟨v,rfl,q⟩) i r
def K3(bs:List Bool)(n:Nat)(ρ:UEnv):UEnv:=(bs.zip ρ).map (λp=>if p.1 then p.2 else none)++List.replicate n none
theorem EnvR.mask(r:EnvR A ι H σ ρ):EnvR A ι H (zr bs n σ) (K3 bs n ρ):=by
 refine Paired.app ?_ ?_
 ·induction r generalizing bs with
  |nil=>simp; exact .nil
  |cons q t ih =>
   cases bs with
   |nil=>exact .nil
   |cons b bs =>
    refine .cons ?_ ih;cases b
    ·intro u e; simp at e
    ·simpa using q
 ·induction n with
  |zero=>exact .nil
  |succ n ih=>exact .cons (λu e=>by cases e) ih
end
abbrev UK:=U->MM->Prop
abbrev UE:=UEnv->MM->UK->Prop
abbrev UT:=UEnv->MM->(Bool->MM->Prop)->Prop
abbrev UA:=UEnv->MM->(List U->MM->Prop)->Prop
def LE(te:TE)(ue:UE):Prop:=∀(A:Addr->Prop)(ι:List Addr)(σ:St)(H:Hp)(ρ:UEnv)(M:MM)(Qu:UK)(Q:VK),Wd A ι H M->EnvR A ι H σ ρ->ue ρ M Qu ->
 (∀u M' ι' v H',Le ι H ι' H'->Wd A ι' H' M'->RepU A ι' H' v u->Qu u M'->Q v H')->te σ H Q
def LT(tt:TT)(ut:UT):Prop:=∀(A:Addr->Prop)(ι:List Addr)(σ:St)(H:Hp)(ρ:UEnv)(M:MM)(Qu:Bool->MM->Prop)(Q:Bool->Hp->Prop),Wd A ι H M->EnvR A ι H σ ρ->ut ρ M Qu ->
 (∀b M' ι' H',Le ι H ι' H'->Wd A ι' H' M'->Qu b M'->Q b H')->tt σ H Q
def LA(n:Nat)(ta:TA)(ua:UA):Prop:=∀(A:Addr->Prop)(ι:List Addr)(σ:St)(H:Hp)(ρ:UEnv)(M:MM)(Qu:List U->MM->Prop)(Q:List V->Hp->Prop),Wd A ι H M->EnvR A ι H σ ρ->ua ρ M Qu ->
 (∀us M' ι' vs H',Le ι H ι' H'->Wd A ι' H' M'->us.length=n->RepUs A ι' H' vs us->Qu us M'->Q vs H')->ta σ H Q
section
def uVar(i:Nat):UE:=λρ M Q=>∃u,ρ[i]?=some (some u)/\Q u M
inductive Sc:V->T->Prop
 |non:Sc .non .non
 |bl (b:Bool):Sc (.bl b) (.bl b)
 |int (i:Int):Sc (.int i) (.int i)
 |str (x:Str):Sc (.str x) (.str x)
theorem Sc.rep(h:Sc v t):RepT A H v t:=by cases h<;>constructor
def uC(t:T):UE:=λ_ M Q=>Q (.p t) M
def uNil:UA:=λ_ M Q=>Q [] M
def uCons(ua:UE)(ul:UA):UA:=λρ M Q=>ua ρ M λx M1=>ul ρ M1 λxs M2=>Q (x::xs) M2
theorem la_nil:LA 0 tNil uNil:=λA ι σ H ρ M Qu Q w e q k=>k [] M ι [] H (.refl _ _) w rfl .nil q
def zh:List U->Option (List T)
 | []=>some []
 |.p t::r=>(zh r).map (t :: ·)
 |.m _::_=>none
 |.x _ _ _::_=>none
@[simp] theorem xt:∀ts:List T,zh (ts.map U.p)=some ts
 | []=>rfl
 |t::r=>by simp[zh,xt r]
theorem zx:∀{us:List U}{ts:List T},zh us=some ts->us=ts.map U.p
 | [],_,h=>by simp[zh] at h; subst h; rfl
 |.p t::r,ts,h=>by
  simp[zh] at h;obtain⟨a,h1,rfl⟩:=h;rw[Uy, <-zx h1]
 |.m _::_,_,h=>by simp[zh] at h
 |.x _ _ _::_,_,h=>by simp[zh] at h
def sn(M:MM):U->Option T
 |.p t=>some t
 |.m k=>match M[k]? with
  |some (.lst us)=>(zh us).map T.lst
  |some (.tup us)=>(zh us).map T.tup
  |_=>none
 |.x _ _ _=>none
def sns(M:MM):List U->Option (List T)
 | []=>some []
 |u::r=>match sn M u,sns M r with
  |some t,some ts=>some (t::ts)
  |_,_=>none
inductive RepV(A:Addr->Prop)(H:Hp):V->T->Prop
 |of {v:V} {t:T} (r:RepT A H v t):RepV A H v t
 |lst {p:Addr} {vs:List V} {ts:List T} (e:H p=some (.lst vs)) (r:RepTs A H vs ts):RepV A H (.ref p) (.lst ts)
 |tup {p:Addr} {vs:List V} {ts:List T} (e:H p=some (.tup vs)) (r:RepTs A H vs ts):RepV A H (.ref p) (.tup ts)
variable {A:Addr->Prop} {H H':Hp} {ι:List Addr} {M:MM} {v:V} {u:U} {t:T}
theorem RepV.lst_inv(r:RepV A H v (.lst ts)):∃p vs,v=.ref p/\H p=some (.lst vs)/\RepTs A H vs ts:=by
 cases r with
 |of r=>obtain⟨p,vs,h1,_,h2,h3⟩:=r.lst_inv; exact⟨p,vs,h1,h2,h3⟩
 |lst e r=>exact⟨_,_,rfl,e,r⟩
theorem RepV.tup_inv(r:RepV A H v (.tup ts)):∃p vs,v=.ref p/\H p=some (.tup vs)/\RepTs A H vs ts:=by
 cases r with
 |of r=>obtain⟨p,vs,h1,_,h2,h3⟩:=r.tup_inv; exact⟨p,vs,h1,h2,h3⟩
 |tup e r=>exact⟨_,_,rfl,e,r⟩
theorem RepV.int_inv(r:RepV A H v (.int i)):v=.int i:=by cases r with|of r=>cases r; rfl
theorem RepV.bl_inv(r:RepV A H v (.bl i)):v=.bl i:=by cases r with|of r=>cases r; rfl
theorem RepV.str_inv(r:RepV A H v (.str i)):v=.str i:=by cases r with|of r=>cases r; rfl
theorem RepV.non_inv(r:RepV A H v .non):v=.non:=by cases r with|of r=>cases r; rfl
theorem RepUs.pures(r:RepUs A ι H vs (ts.map U.p)):RepTs (Av A ι) H vs ts:=Paired.unmapR (λa b q=>by cases q with|p r=>exact r) r
theorem RepTs.ups(r:RepTs (Av A ι) H vs ts):RepUs A ι H vs (ts.map U.p):=Paired.mapR (λa b q=>.p q) r
theorem RepU.sn(w:Wd A ι H M)(r:RepU A ι H v u)(e:sn M u=some t):RepV (Av A ι) H v t:=by
 cases r with
 |p r=>simp[L2.sn] at e; subst e; exact .of r
 |m q =>
  obtain⟨o,h1,h2⟩:=w.al q;simp only[L2.sn,h1] at e;cases o with
  |lst us =>
   simp at e;obtain⟨ts,e1,rfl⟩:=e;obtain⟨vs,h3,h4⟩:=h2;rw[zx e1] at h4;exact .lst h3 h4.pures
  |tup us =>
   simp at e;obtain⟨ts,e1,rfl⟩:=e;obtain⟨vs,h3,h4⟩:=h2;rw[zx e1] at h4;exact .tup h3 h4.pures
  |ins=>simp at e
  |dK=>simp at e
  |dF=>simp at e
 |x h=>simp[L2.sn] at e
theorem RepUs.sns(w:Wd A ι H M):∀{vs:List V}{us:List U}{ts:List T},RepUs A ι H vs us->sns M us=some ts->Paired (RepV (Av A ι) H) vs ts
 |_,_,ts, .nil,e=>by simp[L2.sns] at e; subst e; exact .nil
 |_,_,ts, .cons r q,e=>by
  simp only[L2.sns] at e;split at e
  ·rename_i h1 h2
   simp at e; subst e;exact .cons (r.sn w h1) (RepUs.sns w q h2)
  ·cases e
def OpL(r:R2)(s:T->T->(T->Prop)->Prop):Prop:=∀(A:Addr->Prop)(ι:List Addr)(H:Hp)(M:MM)(x y:V)(a b:T)(Qs:T->Prop)(Q:VK),Wd A ι H M->RepV (Av A ι) H x a->RepV (Av A ι) H y b->s a b Qs ->
 (∀t ι' v H',Le ι H ι' H'->Wd A ι' H' M->RepT (Av A ι') H' v t->Qs t->Q v H')->r x y H Q
def uOp(s:T->T->(T->Prop)->Prop)(ua ub:UE):UE:=λρ M Q=>ua ρ M λx M1=>ub ρ M1 λy M2=>∃a b,sn M2 x=some a/\sn M2 y=some b/\s a b λt=>Q (.p t) M2
def sI(C:Int->Int->Prop)(g:Int->Int->T):T->T->(T->Prop)->Prop:=λa b Q=>∃i j,a=.int i/\b=.int j/\C i j/\Q (g i j)
def sI0(g:Int->Int->T):T->T->(T->Prop)->Prop:=λa b Q=>∃i j,a=.int i/\b=.int j/\Q (g i j)
theorem qW(hg:∀i j,Sc (gv i j) (g i j)):OpL (rI C gv) (sI C g):=λA ι H M x y a b Qs Q w r1 r2 ⟨i,j,ea,eb,c,q⟩ k=>by
 subst ea eb;exact⟨i,j,r1.int_inv,r2.int_inv,c,k _ ι _ H (.refl _ _) w (hg i j).rep q⟩
theorem qr(hg:∀i j,Sc (gv i j) (g i j)):OpL (rI0 gv) (sI0 g):=λA ι H M x y a b Qs Q w r1 r2 ⟨i,j,ea,eb,q⟩ k=>by
 subst ea eb;exact⟨i,j,r1.int_inv,r2.int_inv,k _ ι _ H (.refl _ _) w (hg i j).rep q⟩
def vt:T->Option V
 |.non=>some .non
 |.bl b=>some (.bl b)
 |.int i=>some (.int i)
 |.str x=>some (.str x)
 |_=>none
theorem j5(e:vt t=some x):Sc x t:=by
 cases t<;>simp[vt] at e<;>subst e<;>constructor
theorem RepV.sc{x y:V}(r:RepV A H v t)(e:vt t=some x):v=x:=by
 cases j5 e with
 |non=>exact r.non_inv
 |bl=>exact r.bl_inv
 |int=>exact r.int_inv
 |str=>exact r.str_inv
def sEq(neg:Bool):T->T->(T->Prop)->Prop:=λa b Q=>∃x y,vt a=some x/\vt b=some y/\scal x y=true/\Q (.bl (if neg then !decide (x=y) else decide (x=y)))
theorem qX:OpL rEq (sEq false):=λA ι H M x y a b Qs Q w r1 r2 ⟨x',y',e1,e2,sc,q⟩ k=>by
 cases r1.sc (y:=.non) e1; cases r2.sc (y:=.non) e2;exact⟨sc,k _ ι _ H (.refl _ _) w (.bl _) q⟩
theorem Qi:OpL rNe (sEq true):=λA ι H M x y a b Qs Q w r1 r2 ⟨x',y',e1,e2,sc,q⟩ k=>by
 cases r1.sc (y:=.non) e1; cases r2.sc (y:=.non) e2;exact⟨sc,k _ ι _ H (.refl _ _) w (.bl _) q⟩
def sStr:T->T->(T->Prop)->Prop:=λa b Q=>∃i j,a=.str i/\b=.str j/\i.length+j.length<=sizeLine/\Q (.str (i++j))
def vts:List T->Option (List V)
 | []=>some []
 |t::r=>match vt t,vts r with
  |some x,some xs=>some (x::xs)
  |_,_=>none
theorem Xq:∀{vs:List V}{ts:List T}{xs:List V},RepTs A H vs ts->vts ts=some xs->vs=xs/\xs.all ke=true
 |_,_,xs, .nil,e=>by simp[vts] at e; subst e; exact⟨rfl,rfl⟩
 |_,_,xs, .cons r q,e=>by
  simp only[vts] at e;split at e
  ·rename_i h1 h2
   simp at e; subst e;obtain⟨z1,z2⟩:=Xq q h2;subst z1;cases(RepV.of r).sc (y:=.non) h1;refine⟨rfl, ?_⟩;rw[Rp,z2];cases j5 h1<;>rfl
  ·cases e
def seqT:T->Option (List T)
 |.lst ts=>some ts
 |.tup ts=>some ts
 |_=>none
def sIn(neg:Bool):T->T->(T->Prop)->Prop:=λa b Q=>∃x ts ys,vt a=some x/\seqT b=some ts/\vts ts=some ys/\Q (.bl (if neg then !inV x ys else inV x ys))
theorem opl_in:OpL (rIn Ξ neg) (sIn neg):=λA ι H M x y a b Qs Q w r1 r2 ⟨x',ts,ys,e1,e2,e3,q⟩ k=>by
 cases r1.sc (y:=.non) e1;have hf:ke x=true:=by cases j5 e1<;>rfl
 cases b<;>simp[seqT] at e2
 ·subst e2
  obtain⟨p,vs,rfl,h,r⟩:=r2.tup_inv;obtain⟨rfl,z⟩:=Xq r e3;exact⟨p,vs,rfl, .inr (SqT.of h),hf,z,k _ ι _ H (.refl _ _) w (.bl _) q⟩
 ·subst e2
  obtain⟨p,vs,rfl,h,r⟩:=r2.lst_inv;obtain⟨rfl,z⟩:=Xq r e3;exact⟨p,vs,rfl, .inl (SqL.of h),hf,z,k _ ι _ H (.refl _ _) w (.bl _) q⟩
theorem zA(w:Wd A ι H M)(h:H p=none)(r:RepTs (Av A ι) H vs ts):RepT (Av A ι) (upd H p (.lst vs)) (.ref p) (.lst ts) :=
 .lstP (w.nA h) upd_same (Paired.mapP r λ_ _ q=>q.le (.fresh h))
theorem GP(w:Wd A ι H M)(h:H p=none)(r:RepTs (Av A ι) H vs ts):RepT (Av A ι) (upd H p (.tup vs)) (.ref p) (.tup ts) :=
 .tupP (w.nA h) upd_same (Paired.mapP r λ_ _ q=>q.le (.fresh h))
def sCat:T->T->(T->Prop)->Prop:=λa b Q=>∃xs ys,a=.lst xs/\b=.lst ys/\xs.length+ys.length<=sizeLine/\Q (.lst (xs++ys))
theorem xh:OpL rCat sCat:=λA ι H M x y a b Qs Q w r1 r2 ⟨xs,ys,ea,eb,hz,q⟩ k=>by
 subst ea eb;obtain⟨p,vs,rfl,h1,q1⟩:=r1.lst_inv;obtain⟨p2,vs2,rfl,h2,q2⟩:=r2.lst_inv;exact⟨p,p2,vs,vs2,rfl,rfl,h1,h2,by rw[q1.len,q2.len]; exact hz,λp hp=>k _ ι _ _ (.fresh hp) (w.fresh hp) (zA w hp (q1.app q2)) q⟩
theorem jS{α β:Type}{F:α->β->Prop}{l:List α}{m:List β}(h:Paired F l m):∀n:Nat,Paired F (List.replicate n l).flatten (List.replicate n m).flatten
 |0=>.nil
 |n+1=>by rw[Db,Db,Do,Do]; exact h.app (jS h n)
def Jm:U->Bool
 |.p .non=>true
 |_=>false
theorem Z2(r:RepU A ι H v u):decide (v=.non)=Jm u:=by
 cases r with
 |p r=>cases r<;>simp[Jm]
 |m e=>simp[Jm]
 |x h=>simp[Jm]
def uIsN(neg:Bool)(ua:UE):UE:=λρ M Q=>ua ρ M λx M1=>Q (.p (.bl (if neg then !Jm x else Jm x))) M1
def uNeg(ua:UE):UE:=λρ M Q=>ua ρ M λx M1=>∃i,x=.p (.int i)/\Q (.p (.int (-i))) M1
def uB(ua:UE):UT:=λρ M Q=>ua ρ M λx M1=>∃b,x=.p (.bl b)/\Q b M1
theorem lt_b(ha:LE ta ua):LT (tB ta) (uB ua):=λA ι σ H ρ M Qu Q w e q k =>
 ha A ι σ H ρ M _ _ w e q λx M1 ι1 v H1 l1 w1 r1 ⟨b,ex,q1⟩=>by
  subst ex;cases r1 with
  |p r=>cases r; exact⟨b,rfl,k b M1 ι1 H1 l1 w1 q1⟩
def truU(M:MM):U->Option Bool
 |.p .non=>some false
 |.p (.bl b)=>some b
 |.p (.int i)=>some (i != 0)
 |.p (.lst ts)=>some (!ts.isEmpty)
 |.p (.tup ts)=>some (!ts.isEmpty)
 |.m k=>match M[k]? with
  |some (.lst us)=>some (!us.isEmpty)
  |some (.tup us)=>some (!us.isEmpty)
  |some (.dK us)=>some (!us.isEmpty)
  |_=>none
 |_=>none
theorem tru_rep(w:Wd A ι H M)(r:RepU A ι H v u)(e:truU M u=some b):TruV Ξ v H b:=by
 cases r with
 |p r =>
  cases r with
  |non=>simp[truU] at e; subst e; rfl
  |bl=>simp[truU] at e; subst e; rfl
  |int=>simp[truU] at e; subst e; simp[TruV]
  |str=>simp[truU] at e
  |tup na e1 l r=>simp only[truU,Option.some.injEq] at e; subst e; exact .inr (.inl ⟨_,SqT.of e1,by rw[(Paired.of_get l r).empt]⟩)
  |lst na e1 l r=>simp only[truU,Option.some.injEq] at e; subst e; exact .inl ⟨_,SqL.of e1,by rw[(Paired.of_get l r).empt]⟩
 |m q =>
  obtain⟨o,h1,h2⟩:=w.al q;simp only[truU,h1] at e;cases o with
  |lst us=>simp only[Option.some.injEq] at e; subst e; obtain⟨vs,h3,h4⟩:=h2; exact .inl ⟨_,SqL.of h3,by rw[h4.empt]⟩
  |tup us=>simp only[Option.some.injEq] at e; subst e; obtain⟨vs,h3,h4⟩:=h2; exact .inr (.inl ⟨_,SqT.of h3,by rw[h4.empt]⟩)
  |ins=>simp at e
  |dK us=>simp only[Option.some.injEq] at e; subst e; obtain⟨vs,h3,h4⟩:=h2; exact .inr (.inr ⟨_,h3,by rw[h4.empt]⟩)
  |dF=>simp at e
 |x h=>simp[truU] at e
def uTru(ua:UE):UT:=λρ M Q=>ua ρ M λx M1=>∃b,truU M1 x=some b/\Q b M1
def uAnd(t s:UT):UT:=λρ M Q=>t ρ M λc M1=>if c=true then s ρ M1 Q else Q false M1
def uOr(t s:UT):UT:=λρ M Q=>t ρ M λc M1=>if c=true then Q true M1 else s ρ M1 Q
def uNot(t:UT):UT:=λρ M Q=>t ρ M λc M1=>Q (!c) M1
def uAndV(ua ub:UE):UE:=λρ M Q=>ua ρ M λx M1=>∃c,x=.p (.bl c)/\if c=true then ub ρ M1 Q else Q (.p (.bl false)) M1
def uOrV(ua ub:UE):UE:=λρ M Q=>ua ρ M λx M1=>∃c,x=.p (.bl c)/\if c=true then Q (.p (.bl true)) M1 else ub ρ M1 Q
def uNotV(ua:UE):UE:=λρ M Q=>ua ρ M λx M1=>∃c,x=.p (.bl c)/\Q (.p (.bl (!c))) M1
def uIf(t:UT)(ua ub:UE):UE:=λρ M Q=>t ρ M λc M1=>if c=true then ua ρ M1 Q else ub ρ M1 Q
def JP(s s':T->T->(T->Prop)->Prop)(ua ub uc:UE):UE:=λρ M Q=>ua ρ M λx M1=>ub ρ M1 λy M2=>∃a b,sn M2 x=some a/\sn M2 y=some b/\s a b λz=>∃k,z=.bl k /\
 if k=true then uc ρ M2 λc M3=>∃b' c',sn M3 y=some b'/\sn M3 c=some c'/\s' b' c' λt=>Q (.p t) M3 else Q (.p (.bl false)) M2
def uTup(ul:UA):UE:=λρ M Q=>ul ρ M λus M1=>∃ts,zh us=some ts/\Q (.p (.tup ts)) M1
def uLst(ul:UA):UE:=λρ M Q=>ul ρ M λus M1=>∃ts,zh us=some ts/\Q (.p (.lst ts)) M1
def uNew(ul:UA):UE:=λρ M Q=>ul ρ M λus M1=>Q (.m M1.length) (M1++[.lst us])
def uNewT(ul:UA):UE:=λρ M Q=>ul ρ M λus M1=>Q (.m M1.length) (M1++[.tup us])
theorem xy{α:Type}{l:List α}{x:α}:(l++[x])[l.length]?=some x:=by rw[Uq (Uk _),DL]; rfl
theorem zG(w:Wd A ι H M)(h:H p=none)(r:RepUs A ι H vs us):Wd A (ι++[p]) (upd H p (.lst vs)) (M++[.lst us])/\RepU A (ι++[p]) (upd H p (.lst vs)) (.ref p) (.m M.length) :=
 ⟨w.push h ⟨vs,upd_same,r.le (.push h)⟩, .m (by rw[<-w.len]; exact xy)⟩
theorem WU(w:Wd A ι H M)(h:H p=none)(r:RepUs A ι H vs us):Wd A (ι++[p]) (upd H p (.tup vs)) (M++[.tup us])/\RepU A (ι++[p]) (upd H p (.tup vs)) (.ref p) (.m M.length) :=
 ⟨w.push h ⟨vs,upd_same,r.le (.push h)⟩, .m (by rw[<-w.len]; exact xy)⟩
def vg(M:MM):U->Option (List U)
 |.p (.lst ts)=>some (ts.map .p)
 |.m k=>match M[k]? with
  |some (.lst us)=>some us
  |_=>none
 |_=>none
def v3(M:MM):U->Option (List U)
 |.p (.tup ts)=>some (ts.map .p)
 |.m k=>match M[k]? with
  |some (.tup us)=>some us
  |_=>none
 |_=>none
theorem vM(w:Wd A ι H M)(r:RepU A ι H v u)(e:vg M u=some us):∃p vs,v=.ref p/\H p=some (.lst vs)/\RepUs A ι H vs us:=by
 cases r with
 |p r =>
  cases r with
  |lst na e1 l r=>simp[vg] at e; subst e; exact⟨_,_,rfl,e1,RepTs.ups (Paired.of_get l r)⟩
  |_=>simp[vg] at e
 |m q =>
  obtain⟨o,h1,h2⟩:=w.al q;simp only[vg,h1] at e;cases o with
  |lst us=>simp at e; subst e; obtain⟨vs,h3,h4⟩:=h2; exact⟨_,_,rfl,h3,h4⟩
  |_=>simp at e
 |x h=>simp[vg] at e
theorem zz(w:Wd A ι H M)(r:RepU A ι H v u)(e:v3 M u=some us):∃p vs,v=.ref p/\H p=some (.tup vs)/\RepUs A ι H vs us:=by
 cases r with
 |p r =>
  cases r with
  |tup na e1 l r=>simp[v3] at e; subst e; exact⟨_,_,rfl,e1,RepTs.ups (Paired.of_get l r)⟩
  |_=>simp[v3] at e
 |m q =>
  obtain⟨o,h1,h2⟩:=w.al q;simp only[v3,h1] at e;cases o with
  |tup us=>simp at e; subst e; obtain⟨vs,h3,h4⟩:=h2; exact⟨_,_,rfl,h3,h4⟩
  |_=>simp at e
 |x h=>simp[v3] at e
theorem qan(r:RepUs A ι H vs us)(e:atI us i=some z):∃x,atI vs i=some x/\RepU A ι H x z:=by
 unfold atI at e ⊢;rw[r.len];cases q:ixN us.length i with
 |none=>rw[q] at e; cases e
 |some j =>
  rw[q] at e;exact Paired.getR r e
def uIx(it:MM->U->Option (List U))(ua ub:UE):UE:=λρ M Q=>ua ρ M λx M1=>ub ρ M1 λy M2=>∃us i z,it M2 x=some us/\y=.p (.int i)/\atI us i=some z/\Q z M2
def CbL(r:List V->Hp->VK->Prop)(s:List T->(T->Prop)->Prop):Prop:=∀(A:Addr->Prop)(ι:List Addr)(H:Hp)(M:MM)(vs:List V)(ts:List T)(Qs:T->Prop)(Q:VK),Wd A ι H M->Paired (RepV (Av A ι) H) vs ts->s ts Qs ->
 (∀t ι' v H',Le ι H ι' H'->Wd A ι' H' M->RepT (Av A ι') H' v t->Qs t->Q v H')->r vs H Q
def uCb(s:List T->(T->Prop)->Prop)(ul:UA):UE:=λρ M Q=>ul ρ M λus M1=>∃ts,sns M1 us=some ts/\s ts λt=>Q (.p t) M1
theorem pv1(r:Paired (RepV A H) vs [t]):∃v,vs=[v]/\RepV A H v t:=by
 cases r with
 |cons r q=>cases q; exact⟨_,rfl,r⟩
theorem pv2(r:Paired (RepV A H) vs [t,s]):∃v z,vs=[v,z]/\RepV A H v t/\RepV A H z s:=by
 cases r with
 |cons r q =>
  obtain⟨v,rfl,r2⟩:=pv1 q;exact⟨_,_,rfl,r,r2⟩
def sAbs:List T->(T->Prop)->Prop:=λts Q=>∃i,ts=[.int i]/\Q (.int (if i<0 then -i else i))
theorem JF:CbL (λxs H Q=>∃i,xs=[.int i]/\Q (.int (if i<0 then -i else i)) H) sAbs:=λA ι H M vs ts Qs Q w r ⟨i,e,q⟩ k=>by
 subst e;obtain⟨v,ev,r1⟩:=pv1 r;subst ev;cases r1.int_inv;exact⟨i,rfl,k _ ι _ H (.refl _ _) w (.int _) q⟩
def sMin:List T->(T->Prop)->Prop:=λts Q=>∃i j,ts=[.int i, .int j]/\Q (.int (if j<i then j else i))
theorem JE:CbL (λxs H Q=>∃i j,xs=[.int i, .int j]/\Q (.int (if j<i then j else i)) H) sMin:=λA ι H M vs ts Qs Q w r ⟨i,j,e,q⟩ k=>by
 subst e;obtain⟨v,z,ev,r1,r2⟩:=pv2 r;subst ev;cases r1.int_inv; cases r2.int_inv;exact⟨i,j,rfl,k _ ι _ H (.refl _ _) w (.int _) q⟩
def sMax:List T->(T->Prop)->Prop:=λts Q=>∃i j,ts=[.int i, .int j]/\Q (.int (if j>i then j else i))
def sInt:List T->(T->Prop)->Prop:=λts Q=>(∃i,ts=[.int i]/\Q (.int i))\/∃k,ts=[.bl k]/\Q (.int (if k then 1 else 0))
theorem Ze:CbL (λxs H Q=>(∃i,xs=[.int i]/\Q (.int i) H)\/∃k,xs=[.bl k]/\Q (.int (if k then 1 else 0)) H) sInt:=λA ι H M vs ts Qs Q w r h k=>by
 rcases h with⟨i,e,q⟩|⟨b,e,q⟩
 ·subst e
  obtain⟨v,ev,r1⟩:=pv1 r;subst ev;cases r1.int_inv;exact .inl ⟨i,rfl,k _ ι _ H (.refl _ _) w (.int _) q⟩
 ·subst e
  obtain⟨v,ev,r1⟩:=pv1 r;subst ev;cases r1.bl_inv;exact .inr ⟨b,rfl,k _ ι _ H (.refl _ _) w (.int _) q⟩
def bls:List T->Option (List Bool)
 | []=>some []
 |.bl b::r=>(bls r).map (b :: ·)
 |_=>none
@[simp] theorem bls_map:∀bs:List Bool,bls (bs.map T.bl)=some bs
 | []=>rfl
 |b::r=>by simp[bls,bls_map r]
def sListOf:List T->(T->Prop)->Prop:=λts Q=>∃a xs,ts=[a]/\seqT a=some xs/\Q (.lst xs)
theorem jv:CbL (λxs H Q=>∃p ys,xs=[.ref p]/\(SqL Ξ H p ys\/SqT Ξ H p ys)/\∀l,H l=none->Q (.ref l) (upd H l (.lst ys))) sListOf:=λA ι H M vs ts Qs Q w r ⟨a,xs,e,ea,q⟩ k=>by
 subst e;obtain⟨v,ev,r1⟩:=pv1 r;subst ev;cases a<;>simp[seqT] at ea
 ·subst ea
  obtain⟨p,zs,rfl,h1,h2⟩:=r1.tup_inv;exact⟨p,zs,rfl, .inr (SqT.of h1),λl hl=>k _ ι _ _ (.fresh hl) (w.fresh hl) (zA w hl h2) q⟩
 ·subst ea
  obtain⟨p,zs,rfl,h1,h2⟩:=r1.lst_inv;exact⟨p,zs,rfl, .inl (SqL.of h1),λl hl=>k _ ι _ _ (.fresh hl) (w.fresh hl) (zA w hl h2) q⟩
def uLen(it:MM->U->Option (List U))(ul:UA):UE:=λρ M Q=>ul ρ M λus M1=>∃x ys,us=[x]/\it M1 x=some ys/\Q (.p (.int ys.length)) M1
def uBits(ua:UE):UE:=λρ M Q=>ua ρ M λx M1=>∃i,x=.p (.int i)/\Q (.p (.int (Builtin.Int.intBits i))) M1
def cutT(xs:List T)(lo hi:Option Int):List T:=(xs.drop (HT.sIx xs.length 0 lo)).take (HT.sIx xs.length xs.length hi-HT.sIx xs.length 0 lo)
theorem cut_rep{lo hi:Option Int}(r:RepTs A H vs ts):RepTs A H (cutV vs lo hi) (cutT ts lo hi):=by
 unfold cutV cutT;rw[r.len];exact(r.dr _).tk _
abbrev UO:=UEnv->MM->(Option Int->MM->Prop)->Prop
def LO(to:TO)(uo:UO):Prop:=∀(A:Addr->Prop)(ι:List Addr)(σ:St)(H:Hp)(ρ:UEnv)(M:MM)(Qu:Option Int->MM->Prop)(Q:Option Int->Hp->Prop),Wd A ι H M->EnvR A ι H σ ρ->uo ρ M Qu ->
 (∀b M' ι' H',Le ι H ι' H'->Wd A ι' H' M'->Qu b M'->Q b H')->to σ H Q
def Xw:UO:=λ_ M Q=>Q none M
def uPart(ua:UE):UO:=λρ M Q=>ua ρ M λx M1=>∃i,x=.p (.int i)/\Q (some i) M1
theorem lo_none:LO zR Xw:=λA ι σ H ρ M Qu Q w e q k=>k _ M ι H (.refl _ _) w q
def uSl(ua:UE)(ul uh:UO):UE:=λρ M Q=>ua ρ M λx M1=>ul ρ M1 λl M2=>uh ρ M2 λh M3=>∃ts,sn M3 x=some (.lst ts)/\Q (.p (.lst (cutT ts l h))) M3
end
section
variable {te ta tb:TE} {ue ua ub:UE} {tt:TT} {ut:UT} {tl:TA} {ul:UA} {n:Nat} {A A' A2:Addr->Prop} {H H' H1 H2:Hp} {ι ι' ι1 ι2:List Addr} {M M':MM} {v:V} {u:U} {t:T} {σ:St} {ρ:UEnv} {Ξ:PySem.W.Frag}
structure Lea(A:Addr->Prop)(ι:List Addr)(H:Hp)(A':Addr->Prop)(ι':List Addr)(H':Hp):Prop where
 ext:∃n,ι'=ι++n
 av:∀x o,¬Av A ι x->H x=some o->H' x=some o/\¬Av A' ι' x
 xd:∀x fs,x∉ι->H x=some (.xd fs)->x∉ι'/\H' x=some (.xd fs)
theorem Le.xd(l:Le ι H ι' H'):∀x fs,x∉ι->H x=some (.xd fs)->x∉ι'/\H' x=some (.xd fs):=λx fs hx e=>by
 obtain⟨m,rfl,hm⟩:=l.ext;refine⟨λz=>?_,l.fr x _ e hx⟩;rcases Uu.mp z with z|z
 ·exact hx z
 ·rw[hm x z] at e; cases e
theorem Le.lea(l:Le ι H ι' H'):Lea A ι H A ι' H':=⟨let⟨n,e,_⟩:=l.ext; ⟨n,e⟩,λ_ _ h e=>l.av h e,l.xd⟩
theorem Lea.trans(a:Lea A ι H A' ι' H')(b:Lea A' ι' H' A2 ι2 H2):Lea A ι H A2 ι2 H2:=by
 obtain⟨n,rfl⟩:=a.ext;obtain⟨m,rfl⟩:=b.ext;exact⟨⟨n++m,by rw[UL]⟩,λx o h e=>b.av x o (a.av x o h e).2 (a.av x o h e).1,λx fs h e=>b.xd x fs (a.xd x fs h e).1 (a.xd x fs h e).2⟩
theorem RepU.lea(l:Lea A ι H A' ι' H')(r:RepU A ι H v u):RepU A' ι' H' v u:=by
 cases r with
 |p r=>exact .p (r.mono l.av)
 |m e =>
  obtain⟨n,rfl⟩:=l.ext;exact .m (by rw[Ui (Ue.mp e).1]; exact e)
 | @x a d q h =>
  refine .x ?_;cases q with
  |none=>exact h
  |some n =>
   obtain⟨x0,e,ni,hx⟩:=h;have:=l.xd x0 _ ni hx;exact⟨x0,e,this.1,this.2⟩
theorem EnvR.lea(l:Lea A ι H A' ι' H')(r:EnvR A ι H σ ρ):EnvR A' ι' H' σ ρ:=Paired.mapP r λ_ _ q u e=>by
 obtain⟨v,h1,h2⟩:=q u e;exact⟨v,h1,h2.lea l⟩
structure UIt where
 n:Nat
 ok:MM->Prop
 item:Nat->U->Prop
def ItR(A:Addr->Prop)(ι1:List Addr)(H1:Hp)(J:It)(it:UIt):Prop:=∀(A':Addr->Prop)(ι:List Addr)(H:Hp)(M:MM)(i:Nat),Lea A ι1 H1 A' ι H->Wd A' ι H M->it.ok M ->
 (i<it.n->J.go i H/\∀x H',J.yld i H x H'->∃u,it.item i u/\Le ι H ι H'/\Wd A' ι H' M/\RepU A' ι H' x u)/\(i=it.n->J.stop i H)
abbrev UI:=UEnv->MM->(UIt->MM->Prop)->Prop
def LI(wi:TI)(ui:UI):Prop:=∀(A:Addr->Prop)(ι:List Addr)(σ:St)(H:Hp)(ρ:UEnv)(M:MM)(Qu:UIt->MM->Prop)(R:It->Hp->Prop),Wd A ι H M->EnvR A ι H σ ρ->ui ρ M Qu ->
 (∀it M' ι' J H',Le ι H ι' H'->Wd A ι' H' M'->ItR A ι' H' J it->Qu it M'->R J H')->wi σ H R
def uIter(ua:UE):UI:=λρ M Q=>ua ρ M λx M1=>∃us,vg M1 x=some us/\Q ⟨us.length,λM=>vg M x=some us,λi z=>us[i]?=some z⟩ M1
def uRev(ul:UA):UI:=λρ M Q=>ul ρ M λxs M1=>∃x us,xs=[x]/\vg M1 x=some us/\Q ⟨us.length,λM=>vg M x=some us,λi z=>us[us.length-1-i]?=some z⟩ M1
def uRng1(ul:UA):UI:=λρ M Q=>ul ρ M λxs M1=>∃j:Int,xs=[.p (.int j)] /\ -(2^62)<=j/\j<2^62/\Q ⟨j.toNat,λ_=>True,λi z=>z=.p (.int i)⟩ M1
theorem itr_ok{lo:Int}:ItR A ι H (Itr lo n) ⟨n,λ_=>True,λi z=>z=.p (.int (lo+i))⟩:=λA' ι2 H2 M2 i l w2 _ =>
 ⟨λhi=>⟨hi,λx H' y=>by
  obtain⟨rfl,rfl⟩:=y;exact⟨_,rfl, .refl _ _,w2, .p (.int _)⟩⟩,λhi=>D7 hi.symm⟩
abbrev UG:=U->UEnv->MM->(UEnv->MM->Prop)->Prop
def LG(g:TG)(ug:UG):Prop:=∀(A:Addr->Prop)(ι:List Addr)(σ:St)(H:Hp)(ρ:UEnv)(M:MM)(v:V)(u:U)(Qu:UEnv->MM->Prop)(Q:St->Hp->Prop),Wd A ι H M->EnvR A ι H σ ρ->RepU A ι H v u->ug u ρ M Qu ->
 (∀ρ' M' ι' σ' H',Le ι H ι' H'->Wd A ι' H' M'->EnvR A ι' H' σ' ρ'->Qu ρ' M'->Q σ' H')->g v σ H Q
def Yt(i:Nat):UG:=λu ρ M Q=>Q (ρ.set i (some u)) M
def Ys(i j:Nat):UG:=λu ρ M Q=>∃a b,v3 M u=some [a,b]/\Q ((ρ.set i (some a)).set j (some b)) M
def Zh(i j k:Nat):UG:=λu ρ M Q=>∃a b c,v3 M u=some [a,b,c]/\Q (((ρ.set i (some a)).set j (some b)).set k (some c)) M
theorem rep2(r:RepUs A ι H vs [a,b]):∃x y,vs=[x,y]/\RepU A ι H x a/\RepU A ι H y b:=by
 cases r with
 |cons r q=>cases q with|cons r2 q=>cases q; exact⟨_,_,rfl,r,r2⟩
theorem rep3(r:RepUs A ι H vs [a,b,c]):∃x y z,vs=[x,y,z]/\RepU A ι H x a/\RepU A ι H y b/\RepU A ι H z c:=by
 cases r with
 |cons r q =>
  obtain⟨y,z,rfl,r2,r3⟩:=rep2 q;exact⟨_,_,_,rfl,r,r2,r3⟩
def uSub(uo ui:UE):UG:=λu ρ M Q=>uo ρ M λo M1=>ui ρ M1 λi M2=>∃k us z j,o=.m k/\M2[k]?=some (.lst us)/\i=.p (.int z)/\ixN us.length z=some j/\Q ρ (M2.set k (.lst (us.set j u)))
def xH(bs:List Bool)(n i:Nat):Bool:=match bs[i]? with
 |some b => !b
 |none=>decide (i<bs.length+n)
theorem jo(hl:σ.length=bs.length)(h:xH bs n i=true):(zr bs n σ)[i]?=some none:=by
 unfold xH at h;unfold zr;have hz:((bs.zip σ).map (λp=>if p.1 then p.2 else none)).length=bs.length:=by simp[hl]
 cases e:bs[i]? with
 |some b =>
  rw[e] at h;have hi:=(Ue.mp e).1;rw[Ui (by rw[hz]; exact hi),Uv];have hb:b=false:=by simpa using h
  have e2:(bs.zip σ)[i]?=some (b,σ[i]'(by lia)):=by
   rw[Uf (by simp[hl]; exact hi)];simp;exact(Ue.mp e).2
  rw[e2,hb];rfl
 |none =>
  rw[e] at h;have hi:=List.getElem?_eq_none_iff.mp e;simp at h;rw[Uq (by rw[hz]; exact hi),hz,DP];rw[if_pos (by lia)]
def LGx(bs:List Bool)(n:Nat)(g:TG)(ug:UG):Prop:=∀(A:Addr->Prop)(ι:List Addr)(σ:St)(H:Hp)(ρ:UEnv)(M:MM)(v:V)(u:U)(Qu:UEnv->MM->Prop)(Q:St->Hp->Prop),σ.length=bs.length->Wd A ι H M->EnvR A ι H (zr bs n σ) ρ->RepU A ι H v u->ug u ρ M Qu ->
 (∀ρ' σ',EnvR A ι H σ' ρ'->ExtS (zr bs n σ) σ'->σ'.length=(zr bs n σ).length->Qu ρ' M->Q σ' H)->g v (zr bs n σ) H Q
theorem lt_yes:LT tYes (λ_ M Q=>Q true M):=λA ι σ H ρ M Qu Q w e q k=>k true M ι H (.refl _ _) w q
abbrev uYes:UT:=λ_ M Q=>Q true M
def UComp(it:UIt)(ug:UG)(ut:UT)(ue:UE)(ρ0:UEnv)(M1:MM)(Q:UK):Prop:=it.n<=sizeLine/\∃Iv:Nat->List T->MM->Prop,Iv 0 [] M1 /\
 (∀i acc M2,i<it.n->acc.length<=i->Iv i acc M2->it.ok M2/\∀u,it.item i u->ug u ρ0 M2 λρ4 M4=>ut ρ4 M4 λb M5=>if b=true then ue ρ4 M5 λz M6=>∃t,z=.p t/\Iv (i+1) (acc++[t]) M6 else Iv (i+1) acc M5) /\
 (∀acc M2,Iv it.n acc M2->it.ok M2/\Q (.p (.lst acc)) M2)
def uComp(ui:UI)(bs:List Bool)(n:Nat)(ug:UG)(ut:UT)(ue:UE):UE:=λρ M Q=>ui ρ M λit M1=>ρ.length=bs.length/\UComp it ug ut ue (K3 bs n ρ) M1 Q
theorem Wd.addA(w:Wd A ι H M)(h:H p=none):Wd (λx=>A x\/x=p) ι (upd H p o) M:=by
 have w2:=w.fresh (o:=o) h;have hm:∀x o',¬Av A ι x->(upd H p o) x=some o'->H x≠none->(upd H p o) x=some o'/\¬Av (λx=>A x\/x=p) ι x:=λx o' hx e hs=>⟨e,λz=>by
  rcases z with(z|z)|z
  ·exact hx (.inl z)
  ·subst z; exact hs h
  ·exact hx (.inr z)⟩
 have hl:Lea A ι H (λx=>A x\/x=p) ι (upd H p o):=⟨⟨[],by simp⟩,λx o' hx e=>hm x o' hx (xM h e) (by rw[e]; simp),λx fs hx e=>⟨hx,xM h e⟩⟩;refine⟨w.nd,w.len,λx hx=>?_,λx hx z=>?_,λk a ob e1 e2=>?_⟩
 ·rcases hx with hx|hx
  ·exact w2.dom x hx
  ·rw[hx,upd_same]; simp
 ·rcases z with z|z
  ·exact w.na x hx z
  ·exact w.nin h (by rw[<-z]; exact hx)
 ·have r:=w.obj k a ob e1 e2
  have ea:upd H p o a=H a:=upd_ne λz=>by
   obtain⟨q,hq⟩:=r.some;rw[z,h] at hq; cases hq
  cases ob with
  |lst=>obtain⟨vs,e,r⟩:=r; exact⟨vs,by rw[ea]; exact e,Paired.mapP r λ_ _ q=>q.lea hl⟩
  |tup=>obtain⟨vs,e,r⟩:=r; exact⟨vs,by rw[ea]; exact e,Paired.mapP r λ_ _ q=>q.lea hl⟩
  |ins =>
   obtain⟨dx,gs,e,ed,nd,r⟩:=r;exact⟨dx,gs,by rw[ea]; exact e,xM h ed,nd,Paired.mapP r λ_ _ q=>⟨q.1,q.2.lea hl⟩⟩
  |dK=>obtain⟨gs,e,r⟩:=r; exact⟨gs,by rw[ea]; exact e,Paired.mapP r λ_ _ q=>⟨q.1,q.2.lea hl⟩⟩
  |dF=>obtain⟨e,r⟩:=r; exact⟨by rw[ea]; exact e,Paired.mapP r λ_ _ q=>⟨q.1,q.2.lea hl⟩⟩
theorem Wd.lessA(w:Wd A' ι H M)(h:∀x,A x->A' x):Wd A ι H M:=by
 have hl:Lea A' ι H A ι H:=⟨⟨[],by simp⟩,λx o hx e=>⟨e,λz=>hx (z.elim (λz=>.inl (h x z)) .inr)⟩,λx fs hx e=>⟨hx,e⟩⟩;refine⟨w.nd,w.len,λx hx=>w.dom x (h x hx),λx hx z=>w.na x hx (h x z),λk a ob e1 e2=>?_⟩;have r:=w.obj k a ob e1 e2;cases ob with
 |lst=>obtain⟨vs,e,r⟩:=r; exact⟨vs,e,Paired.mapP r λ_ _ q=>q.lea hl⟩
 |tup=>obtain⟨vs,e,r⟩:=r; exact⟨vs,e,Paired.mapP r λ_ _ q=>q.lea hl⟩
 |ins=>obtain⟨dx,gs,e,ed,nd,r⟩:=r; exact⟨dx,gs,e,ed,nd,Paired.mapP r λ_ _ q=>⟨q.1,q.2.lea hl⟩⟩
 |dK=>obtain⟨gs,e,r⟩:=r; exact⟨gs,e,Paired.mapP r λ_ _ q=>⟨q.1,q.2.lea hl⟩⟩
 |dF=>obtain⟨e,r⟩:=r; exact⟨e,Paired.mapP r λ_ _ q=>⟨q.1,q.2.lea hl⟩⟩
theorem Wd.updA(w:Wd A ι H M)(ha:A p)(hp:H p=some (.lst ys)):Lea A ι H A ι (upd H p o)/\Wd A ι (upd H p o) M:=by
 have hl:Lea A ι H A ι (upd H p o):=⟨⟨[],by simp⟩,λx o' hx e=>⟨by rw[upd_ne λz=>hx (.inl (by rw[z]; exact ha))]; exact e,hx⟩,λx fs hx e=>⟨hx,by rw[upd_ne λz=>by rw[z,hp] at e; cases e]; exact e⟩⟩;refine⟨hl,w.nd,w.len,λx hx=>?_,w.na,λk a ob e1 e2=>?_⟩
 ·by_cases z:x=p
  ·rw[z,upd_same]; simp
  ·rw[upd_ne z]; exact w.dom x hx
 ·have r:=w.obj k a ob e1 e2
  have ea:upd H p o a=H a:=upd_ne λz=>w.na a (Uh e1) (by rw[z]; exact ha);cases ob with
  |lst=>obtain⟨vs,e,r⟩:=r; exact⟨vs,by rw[ea]; exact e,Paired.mapP r λ_ _ q=>q.lea hl⟩
  |tup=>obtain⟨vs,e,r⟩:=r; exact⟨vs,by rw[ea]; exact e,Paired.mapP r λ_ _ q=>q.lea hl⟩
  |ins =>
   obtain⟨dx,gs,e,ed,nd,r⟩:=r;exact⟨dx,gs,by rw[ea]; exact e,by rw[upd_ne λz=>by rw[z,hp] at ed; cases ed]; exact ed,nd,Paired.mapP r λ_ _ q=>⟨q.1,q.2.lea hl⟩⟩
  |dK=>obtain⟨gs,e,r⟩:=r; exact⟨gs,by rw[ea]; exact e,Paired.mapP r λ_ _ q=>⟨q.1,q.2.lea hl⟩⟩
  |dF=>obtain⟨e,r⟩:=r; exact⟨by rw[ea]; exact e,Paired.mapP r λ_ _ q=>⟨q.1,q.2.lea hl⟩⟩
theorem Le.updF(l:Le ι H ι' H')(h:H p=none):Le ι H ι' (upd H' p o):=⟨l.ext,λx o' e n=>by rw[upd_ne (qY e h)]; exact l.fr x o' e n,λx e=>by
 by_cases z:x=p
 ·rw[z,upd_same]; simp
 ·rw[upd_ne z]; exact l.al x e⟩
end
section
variable {ta:TE} {ua ub uc:UE} {tt:TT} {ut:UT} {tl:TA} {ul:UA} {n:Nat} {A:Addr->Prop} {H H' H1 H2:Hp} {ι ι' ι1 ι2:List Addr} {M M':MM} {v:V} {u:U} {t:T} {σ:St} {ρ:UEnv}
structure UEnds where
 nx:UEnv->MM->Prop
 rt:UK
 bk:UEnv->MM->Prop:=λ_ _=>False
 ct:UEnv->MM->Prop:=λ_ _=>False
abbrev US:=UEnds->UEnv->MM->Prop
structure EndsR(A:Addr->Prop)(ι0:List Addr)(H0:Hp)(E:UEnds)(D:Ends):Prop where
 nx:∀ι σ H ρ M,Le ι0 H0 ι H->Wd A ι H M->EnvR A ι H σ ρ->E.nx ρ M->D.nx σ H
 rt:∀ι v H u M,Le ι0 H0 ι H->Wd A ι H M->RepU A ι H v u->E.rt u M->D.rt v H
 bk:∀ι σ H ρ M,Le ι0 H0 ι H->Wd A ι H M->EnvR A ι H σ ρ->E.bk ρ M->D.bk σ H
 ct:∀ι σ H ρ M,Le ι0 H0 ι H->Wd A ι H M->EnvR A ι H σ ρ->E.ct ρ M->D.ct σ H
theorem EndsR.le(l:Le ι H ι' H')(r:EndsR A ι H E D):EndsR A ι' H' E D :=
 ⟨λ_ _ _ _ _ h=>r.nx _ _ _ _ _ (l.trans h),λ_ _ _ _ _ h=>r.rt _ _ _ _ _ (l.trans h),λ_ _ _ _ _ h=>r.bk _ _ _ _ _ (l.trans h),λ_ _ _ _ _ h=>r.ct _ _ _ _ _ (l.trans h)⟩
def LS(ts:TS)(us:US):Prop:=∀(A:Addr->Prop)(ι:List Addr)(σ:St)(H:Hp)(ρ:UEnv)(M:MM)(D:Ends)(E:UEnds),Wd A ι H M->EnvR A ι H σ ρ->EndsR A ι H E D->us E ρ M->ts D σ H
def uNext:US:=λE ρ M=>E.nx ρ M
def uSeq(a b:US):US:=λE ρ M=>a { E with nx:=b E } ρ M
def uDrop(ua:UE):US:=λE ρ M=>ua ρ M λ_ M1=>E.nx ρ M1
def uRet(ua:UE):US:=λE ρ M=>ua ρ M E.rt
def uRetN:US:=λE ρ M=>E.rt (.p .non) M
def uIfS(c:UT)(a b:US):US:=λE ρ M=>c ρ M λk M1=>if k=true then a E ρ M1 else b E ρ M1
def uAsg(ua:UE)(g:UG):US:=λE ρ M=>ua ρ M λx M1=>g x ρ M1 E.nx
def uAug(i:Nat)(f:Int->Int->Int)(ua:UE):US:=λE ρ M=>∃a,ρ[i]?=some (some (.p (.int a)))/\ua ρ M λy M1=>∃b,y=.p (.int b)/\E.nx (ρ.set i (some (.p (.int (f a b))))) M1
theorem ls_next:LS Vf uNext:=λA ι σ H ρ M D E w e r q=>r.nx ι σ H ρ M (.refl _ _) w e q
theorem ls_retN:LS Zl uRetN:=λA ι σ H ρ M D E w e r q=>r.rt ι .non H _ M (.refl _ _) w (.p .non) q
def UFor(it:UIt)(ug:UG)(ub:US)(E:UEnds)(ρ:UEnv)(M1:MM):Prop:=∃Iv:Nat->UEnv->MM->Prop,Iv 0 ρ M1 /\
 (∀i ρ2 M2,i<it.n->Iv i ρ2 M2->it.ok M2/\∀u,it.item i u->ug u ρ2 M2 λρ3 M3=>ub { E with nx:=Iv (i+1),ct:=Iv (i+1),bk:=E.nx } ρ3 M3) /\
 (∀ρ2 M2,Iv it.n ρ2 M2->it.ok M2/\E.nx ρ2 M2)
def uFor(ui:UI)(ug:UG)(ub:US):US:=λE ρ M=>ui ρ M λit M1=>UFor it ug ub E ρ M1
def uWhile(uc:UT)(ub:US):US:=λE ρ M=>∃W:Nat->UEnv->MM->Prop,(∃m,W m ρ M)/\∀m ρ M,W m ρ M ->
 uc ρ M λb M1=>if b=true then ∃N:UEnv->MM->Prop,(∀ρ' M',N ρ' M'->∃m',m'<m/\W m' ρ' M')/\ub { E with nx:=N,ct:=N,bk:=E.nx } ρ M1 else E.nx ρ M1
def MeL(r:V->List V->Hp->VK->Prop)(s:List U->List U->(U->List U->Prop)->Prop):Prop:=∀(A:Addr->Prop)(ι:List Addr)(H:Hp)(M:MM)(k:Nat)(a:Addr)(xs ys:List V)(us ws:List U)(Qs:U->List U->Prop)(Q:VK),Wd A ι H M->ι[k]?=some a->H a=some (.lst xs)->M[k]?=some (.lst us)->RepUs A ι H xs us->RepUs A ι H ys ws->s us ws Qs ->
 (∀z us' v xs',RepUs A ι H xs' us'->RepU A ι H v z->Qs z us'->Q v (upd H a (.lst xs')))->r (.ref a) ys H Q
def uMe(s:List U->List U->(U->List U->Prop)->Prop)(uo:UE)(ul:UA):UE:=λρ M Q=>uo ρ M λo M1=>∃k,o=.m k/\(∃zs,M1[k]?=some (.lst zs))/\ul ρ M1 λws M2=>∃us,M2[k]?=some (.lst us)/\s us ws λz us'=>Q z (M2.set k (.lst us'))
def YU:List U->List U->(U->List U->Prop)->Prop:=λus ws Q=>∃y,ws=[y]/\us.length<sizeLine/\Q (.p .non) (us++[y])
theorem zk:MeL Y8 YU:=λA ι H M k a xs ys us ws Qs Q w ek h1 h2 rx ry ⟨y,ey,hz,q⟩ kk=>by
 subst ey;cases ry with
 |cons r q' =>
 cases q';exact⟨a,xs,_,rfl,rfl,h1,by rw[rx.len]; exact hz,kk _ _ _ _ (rx.app (.cons r .nil)) (.p .non) q⟩
def spU(G:List U->MM->UK->Prop):Sp:=λvs H Q _=>∃A ι M us Qu,Wd A ι H M/\RepUs A ι H vs us/\G us M Qu/\∀u M' ι' v H',Le ι H ι' H'->Wd A ι' H' M'->RepU A ι' H' v u->Qu u M'->Q v H'
def uCall(G:List U->MM->UK->Prop)(ul:UA):UE:=λρ M Q=>ul ρ M λus M1=>G us M1 Q
def spP(G:List T->(T->Prop)->Prop):Sp:=λvs H Q _=>∃A ts Qt,(∀x,A x->H x≠none)/\RepTs A H vs ts/\G ts Qt/\∀t v H',Same H H'->RepT A H' v t->Qt t->Q v H'
def Yv(G:List T->(T->Prop)->Prop)(ul:UA):UE:=λρ M Q=>ul ρ M λus M1=>∃ts,zh us=some ts/\G ts λt=>Q (.p t) M1
def uCallS(G:List T->(T->Prop)->Prop)(ul:UA):UE:=λρ M Q=>ul ρ M λus M1=>∃ts,sns M1 us=some ts/\G ts λt=>(∃x,vt t=some x)/\Q (.p t) M1
theorem Same.le(s:Same H H'):Le ι H ι H':=⟨⟨[],by simp,by simp⟩,λx o e _=>s x o e,λx e=>by
 cases q:H x with
 |none=>exact absurd q e
 |some o=>rw[s x o q]; simp⟩
theorem Wd.same(w:Wd A ι H M)(s:Same H H'):Wd A ι H' M :=
 ⟨w.nd,w.len,λx hx=>(Same.le (ι:=ι) s).al x (w.dom x hx),w.na,λk a ob e1 e2=>(w.obj k a ob e1 e2).le' s.le (by
  obtain⟨o,ho⟩:=(w.obj k a ob e1 e2).some;rw[ho,s _ _ ho]) λx ex=>by rw[ex,s _ _ ex]⟩
theorem Wd.domAv(w:Wd A ι H M):∀x,Av A ι x->H x≠none:=λx h=>by
 rcases h with h|h
 ·exact w.dom x h
 ·obtain⟨o,ho⟩:=w.mem_some h
  rw[ho]; simp
def frzs(f:U->Option T):List U->Option (List T)
 | []=>some []
 |u::r=>match f u,frzs f r with
  |some t,some ts=>some (t::ts)
  |_,_=>none
def frzN:Nat->MM->U->Option T
 |_,_, .p t=>some t
 |0,_, .m _=>none
 |_,_, .x _ _ _=>none
 |n+1,M, .m k=>match M[k]? with
  |some (.lst us)=>(frzs (frzN n M) us).map T.lst
  |some (.tup us)=>(frzs (frzN n M) us).map T.tup
  |_=>none
theorem kA(r:RepUs A ι H vs us)(h:∀v u t,RepU A ι H v u->f u=some t->RepT A H v t)(e:frzs f us=some ts):RepTs A H vs ts:=by
 induction r generalizing ts with
 |nil=>simp[frzs] at e; subst e; exact .nil
 |cons r q ih =>
  simp only[frzs] at e;split at e
  ·rename_i h1 h2
   simp at e; subst e;exact .cons (h _ _ _ r h1) (ih h2)
  ·cases e
theorem Qx(w:Wd A ι H M):∀{n:Nat}{v:V}{u:U}{t:T},RepU A ι H v u->frzN n M u=some t->RepT A H v t
 |n,v, .p t',t, .p r,e=>by
  cases n<;>simp[frzN] at e<;>subst e<;>exact r.mono λx o hx ex=>⟨ex,λz=>hx (.inl z)⟩
 |0,v, .m k,t,r,e=>by simp[frzN] at e
 |n,v, .x a d q,t,r,e=>by cases n<;>simp[frzN] at e
 |n+1,v, .m k,t,r,e=>by
  cases r with
  |m q =>
  obtain⟨o,h1,h2⟩:=w.al q;have hna:=w.na _ (Uh q);simp only[frzN,h1] at e;cases o with
  |lst us =>
   simp at e;obtain⟨ts,e1,rfl⟩:=e;obtain⟨vs,h3,h4⟩:=h2;exact .lstP hna h3 (kA h4 (λv u t r e=>Qx w r e) e1)
  |tup us =>
   simp at e;obtain⟨ts,e1,rfl⟩:=e;obtain⟨vs,h3,h4⟩:=h2;exact .tupP hna h3 (kA h4 (λv u t r e=>Qx w r e) e1)
  |ins=>simp at e
  |dK=>simp at e
  |dF=>simp at e
theorem V0(h:∀t,f (.p t)=some t):∀ts:List T,frzs f (ts.map U.p)=some ts
 | []=>rfl
 |t::r=>by simp[frzs,h t,V0 h r]
@[simp] theorem Q6:frzN n M (.p t)=some t:=by cases n<;>rfl
def xI(N:List Str)(us:List U):UEnv:=us.map some++List.replicate (N.length-us.length) none
theorem ji(r:RepUs A ι H vs us):EnvR A ι H (start N vs) (xI N us):=by
 unfold start xI;refine Paired.app ?_ ?_
 ·exact Paired.mapR (f:=some) (F:=λs u=>∃v,s=some v/\RepU A ι H v u) (λa b q u e=>by cases e; exact q) (by
   induction r with
   |nil=>exact .nil
   |cons r q ih=>exact .cons ⟨_,rfl,r⟩ ih)
 ·rw[r.len]
  generalize N.length-us.length=m
  induction m with
  |zero=>exact .nil
  |succ m ih=>exact .cons (λu e=>by cases e) ih
end
section
variable {P:Program} {w:World} {Ξ:PySem.W.Frag} {mg:Str->Option Value} {base:Heap}
theorem Fun.okU{st:Stmt}(F:Fun Ξ x qual st f fd)(S:FnScope N ps (qg st))(len:∀us M Qu,G us M Qu->us.length=ps.length)(hbody:∀(cdv:Value)(A:Around)(outer:List Env)(s:Shared)(H:Hp)(E:XK),Room k (A.deeper (envOfC qual (qg st) s.heap.objs.size f cdv)) ->
   ∃t,PSs (cxOf CX0 P w Ξ mg base N qual (qg st) f cdv A outer s H E).nox (vQ st) t/\∃u,LS t u/\∀us M Qu,G us M Qu->u { nx:=λ_ M'=>Qu (.p .non) M',rt:=Qu } (xI N us) M):FnOk P w Ξ mg base CX0 (k+1) f fd ps (spU G):=by
 refine F.ok S (λvs H Q E h=>?_) (λcdv A outer s H vs Q E hr h=>?_)
 ·obtain⟨A,ι,M,us,Qu,w1,r,g,_⟩:=h
  rw[r.len]; exact len us M Qu g
 ·obtain⟨B,ι,M,us,Qu,w1,r,g,kk⟩:=h
  obtain⟨t,ht,u,hu,hb⟩:=hbody cdv A outer s H E hr;refine⟨t,ht,hu B ι _ H _ M _ { nx:=λ_ M'=>Qu (.p .non) M',rt:=Qu } w1 (ji r) ⟨λι1 σ1 H1 ρ1 M1 l1 w1 e1 q1=>kk _ M1 ι1 _ H1 l1 w1 (.p .non) q1,λι1 v H1 z M1 l1 w1 r1 q1=>kk z M1 ι1 v H1 l1 w1 r1 q1,λ_ _ _ _ _ _ _ _ q=>q.elim,λ_ _ _ _ _ _ _ _ q=>q.elim⟩ (hb us M Qu g)⟩
theorem Fun.okP{st:Stmt}(F:Fun Ξ x qual st f fd)(S:FnScope N ps (qg st))(len:∀ts Qt,G ts Qt->ts.length=ps.length)(hbody:∀(cdv:Value)(A:Around)(outer:List Env)(s:Shared)(H:Hp)(E:XK),Room k (A.deeper (envOfC qual (qg st) s.heap.objs.size f cdv)) ->
   ∃t,PSs (cxOf CX0 P w Ξ mg base N qual (qg st) f cdv A outer s H E).nox (vQ st) t/\∃u,LS t u/\∀ts Qt,G ts Qt->u { nx:=λ_ _=>Qt .non,rt:=λz M'=>∃t,frzN 4 M' z=some t/\Qt t } (xI N (ts.map U.p)) []):FnOk P w Ξ mg base CX0 (k+1) f fd ps (spP G):=by
 refine F.ok S (λvs H Q E h=>?_) (λcdv A outer s H vs Q E hr h=>?_)
 ·obtain⟨A,ts,Qt,hd,r,g,_⟩:=h
  rw[r.len]; exact len ts Qt g
 ·obtain⟨B,ts,Qt,hd,r,g,kk⟩:=h
  obtain⟨t,ht,u,hu,hb⟩:=hbody cdv A outer s H E hr;have w0:Wd B [] H []:=⟨RZ,rfl,hd,λx hx=>by simp at hx,λk a o e _=>by simp at e⟩;have same:∀{ι1:List Addr}{H1:Hp},Le [] H ι1 H1->Same H H1:=λl b o e=>l.fr b o e (by simp);have r0:RepUs B [] H vs (ts.map U.p):=RepTs.ups (Paired.mapP r λ_ _ q=>q.mono λx o hx ex=>⟨ex,λz=>z.elim hx (by simp)⟩);refine⟨t,ht,hu B [] _ H _ [] _ { nx:=λ_ _=>Qt .non,rt:=λz M'=>∃t,frzN 4 M' z=some t/\Qt t } w0 (ji r0) ⟨λι1 σ1 H1 ρ1 M1 l1 w1 e1 q1=>kk _ _ H1 (same l1) .non q1,λι1 v H1 z M1 l1 w1 r1 ⟨t1,et,q1⟩=>kk t1 v H1 (same l1) (Qx w1 r1 et) q1,λ_ _ _ _ _ _ _ _ q=>q.elim,λ_ _ _ _ _ _ _ _ q=>q.elim⟩ (hb ts Qt g)⟩
end
section
def OpS(s:T->T->(T->Prop)->Prop)(M:MM)(x y:U)(Q:UK):Prop:=∃a b,sn M x=some a/\sn M y=some b/\s a b λt=>Q (.p t) M
theorem rd_op:uOp s ua ub ρ M Q=ua ρ M λx M1=>ub ρ M1 λy M2=>OpS s M2 x y Q:=rfl
theorem rd_opS:OpS s M (.p a) (.p b) Q=s a b λt=>Q (.p t) M :=
 propext ⟨λ⟨_,_,e1,e2,h⟩=>by cases e1; cases e2; exact h,λh=>⟨a,b,rfl,rfl,h⟩⟩
theorem rd_sI:sI C g (.int i) (.int j) Q=(C i j/\Q (g i j)) :=
 propext ⟨λ⟨_,_,e1,e2,h⟩=>by cases e1; cases e2; exact h,λh=>⟨i,j,rfl,rfl,h⟩⟩
theorem rd_sI0:sI0 g (.int i) (.int j) Q=Q (g i j) :=
 propext ⟨λ⟨_,_,e1,e2,h⟩=>by cases e1; cases e2; exact h,λh=>⟨i,j,rfl,rfl,h⟩⟩
theorem rd_eqI:sEq false (.int i) (.int j) Q=Q (.bl (decide (i=j))):=by
 refine propext ⟨λ⟨x,y,e1,e2,_,h⟩=>?_,λh=>⟨_,_,rfl,rfl,rfl, ?_⟩⟩
 ·simp[vt] at e1 e2; subst e1 e2; simpa using h
 ·simpa using h
theorem rd_neI:sEq true (.int i) (.int j) Q=Q (.bl (!decide (i=j))):=by
 refine propext ⟨λ⟨x,y,e1,e2,_,h⟩=>?_,λh=>⟨_,_,rfl,rfl,rfl, ?_⟩⟩
 ·simp[vt] at e1 e2; subst e1 e2; simpa using h
 ·simpa using h
theorem rd_eqS:sEq false (.str i) (.str j) Q=Q (.bl (decide (i=j))):=by
 refine propext ⟨λ⟨x,y,e1,e2,_,h⟩=>?_,λh=>⟨_,_,rfl,rfl,rfl, ?_⟩⟩
 ·simp[vt] at e1 e2; subst e1 e2; simpa using h
 ·simpa using h
theorem rd_neS:sEq true (.str i) (.str j) Q=Q (.bl (!decide (i=j))):=by
 refine propext ⟨λ⟨x,y,e1,e2,_,h⟩=>?_,λh=>⟨_,_,rfl,rfl,rfl, ?_⟩⟩
 ·simp[vt] at e1 e2; subst e1 e2; simpa using h
 ·simpa using h
theorem rd_eqB:sEq false (.bl i) (.bl j) Q=Q (.bl (decide (i=j))):=by
 refine propext ⟨λ⟨x,y,e1,e2,_,h⟩=>?_,λh=>⟨_,_,rfl,rfl,rfl, ?_⟩⟩
 ·simp[vt] at e1 e2; subst e1 e2; simpa using h
 ·simpa using h
theorem rd_neB:sEq true (.bl i) (.bl j) Q=Q (.bl (!decide (i=j))):=by
 refine propext ⟨λ⟨x,y,e1,e2,_,h⟩=>?_,λh=>⟨_,_,rfl,rfl,rfl, ?_⟩⟩
 ·simp[vt] at e1 e2; subst e1 e2; simpa using h
 ·simpa using h
def VarS(o:Option (Option U))(M:MM)(Q:UK):Prop:=∃u,o=some (some u)/\Q u M
theorem rd_var:uVar i ρ M Q=VarS ρ[i]? M Q:=rfl
theorem rd_varS:VarS (some (some u)) M Q=Q u M:=propext ⟨λ⟨_,e,h⟩=>by cases e; exact h,λh=>⟨u,rfl,h⟩⟩
def IntS(x:U)(R:Int->Prop):Prop:=∃i,x=.p (.int i)/\R i
theorem rd_intS:IntS (.p (.int i)) R=R i:=propext ⟨λ⟨_,e,h⟩=>by cases e; exact h,λh=>⟨i,rfl,h⟩⟩
def BlS(x:U)(R:Bool->Prop):Prop:=∃b,x=.p (.bl b)/\R b
theorem rd_blS:BlS (.p (.bl b)) R=R b:=propext ⟨λ⟨_,e,h⟩=>by cases e; exact h,λh=>⟨b,rfl,h⟩⟩
theorem rd_neg:uNeg ua ρ M Q=ua ρ M λx M1=>IntS x λi=>Q (.p (.int (-i))) M1:=rfl
theorem rd_bits:uBits ua ρ M Q=ua ρ M λx M1=>IntS x λi=>Q (.p (.int (Builtin.Int.intBits i))) M1:=rfl
theorem rd_b:uB ua ρ M QB=ua ρ M λx M1=>BlS x λb=>QB b M1:=rfl
theorem rd_andV:uAndV ua ub ρ M Q=ua ρ M λx M1=>BlS x λc=>if c=true then ub ρ M1 Q else Q (.p (.bl false)) M1:=rfl
theorem rd_orV:uOrV ua ub ρ M Q=ua ρ M λx M1=>BlS x λc=>if c=true then Q (.p (.bl true)) M1 else ub ρ M1 Q:=rfl
theorem rd_notV:uNotV ua ρ M Q=ua ρ M λx M1=>BlS x λc=>Q (.p (.bl (!c))) M1:=rfl
theorem rd_tru:uTru ua ρ M QB=ua ρ M λx M1=>∃b,truU M1 x=some b/\QB b M1:=rfl
def ChS(s':T->T->(T->Prop)->Prop)(uc:UE)(ρ:UEnv)(M:MM)(y:U)(Q:UK)(z:T):Prop:=∃k,z=.bl k/\if k=true then uc ρ M λc M3=>OpS s' M3 y c Q else Q (.p (.bl false)) M
theorem rd_chain:JP s s' ua ub uc ρ M Q=ua ρ M λx M1=>ub ρ M1 λy M2=>OpS s M2 x y λz _=>∃t,z=.p t/\ChS s' uc ρ M2 y Q t :=
 propext (by
  have e:∀(x y:U)(M2:MM),(∃a b,sn M2 x=some a/\sn M2 y=some b/\s a b λz=>∃k,z=.bl k/\if k=true then uc ρ M2 λc M3=>∃b' c',sn M3 y=some b'/\sn M3 c=some c'/\s' b' c' λt=>Q (.p t) M3 else Q (.p (.bl false)) M2)=(OpS s M2 x y λz _=>∃t,z=.p t/\ChS s' uc ρ M2 y Q t):=λx y M2=>by
   unfold OpS ChS;have:∀z:T,(∃t,U.p z=.p t/\∃k,t=.bl k/\if k=true then uc ρ M2 λc M3=>OpS s' M3 y c Q else Q (.p (.bl false)) M2)=(∃k,z=.bl k/\if k=true then uc ρ M2 λc M3=>∃b' c',sn M3 y=some b'/\sn M3 c=some c'/\s' b' c' λt=>Q (.p t) M3 else Q (.p (.bl false)) M2):=λz =>
    propext ⟨λ⟨t,e,h⟩=>by cases e; exact h,λh=>⟨z,rfl,h⟩⟩
   simp only[this]
  unfold JP;simp only[e])
theorem rd_chP:(∃t,U.p (.bl b)=.p t/\ChS s' uc ρ M y Q t)=if b=true then uc ρ M λc M3=>OpS s' M3 y c Q else Q (.p (.bl false)) M :=
 propext ⟨λ⟨t,e,k,e2,h⟩=>by cases e; cases e2; exact h,λh=>⟨_,rfl,b,rfl,h⟩⟩
def PurS(us:List U)(R:List T->Prop):Prop:=∃ts,zh us=some ts/\R ts
theorem Y4:PurS (ts.map U.p) R=R ts:=propext ⟨λ⟨_,e,h⟩=>by rw[xt] at e; cases e; exact h,λh=>⟨ts,xt ts,h⟩⟩
theorem rd_pur0:PurS [] R=R []:=Y4 (ts:=[])
theorem rd_purC:PurS (.p a::us) R=PurS us λts=>R (a::ts):=by
 refine propext ⟨λ⟨ts,e,h⟩=>?_,λ⟨ts,e,h⟩=>⟨a::ts,by simp[zh,e],h⟩⟩;simp[zh] at e;obtain⟨r,e1,rfl⟩:=e;exact⟨r,e1,h⟩
theorem rd_tup:uTup ul ρ M Q=ul ρ M λus M1=>PurS us λts=>Q (.p (.tup ts)) M1:=rfl
theorem rd_lst:uLst ul ρ M Q=ul ρ M λus M1=>PurS us λts=>Q (.p (.lst ts)) M1:=rfl
def IxS(it:MM->U->Option (List U))(M:MM)(x y:U)(Q:UK):Prop:=∃us i z,it M x=some us/\y=.p (.int i)/\atI us i=some z/\Q z M
theorem rd_ix:uIx it ua ub ρ M Q=ua ρ M λx M1=>ub ρ M1 λy M2=>IxS it M2 x y Q:=rfl
theorem K8(h1:it M x=some us)(h2:atI us i=some z)(q:Q z M):IxS it M x (.p (.int i)) Q:=⟨us,i,z,h1,rfl,h2,q⟩
theorem qao(h:atI ts i=some t):atI (ts.map U.p) i=some (.p t):=by
 unfold atI at h ⊢;rw[Ug];cases e:ixN ts.length i with
 |none=>rw[e] at h; cases h
 |some j=>rw[e] at h; simp at h ⊢; rw[h]
theorem vI(h:atI ts i=some t)(q:Q (.p t) M):IxS vg M (.p (.lst ts)) (.p (.int i)) Q:=K8 rfl (qao h) q
theorem ixt_at(h:atI ts i=some t)(q:Q (.p t) M):IxS v3 M (.p (.tup ts)) (.p (.int i)) Q:=K8 rfl (qao h) q
def SnsS(M:MM)(us:List U)(R:List T->Prop):Prop:=∃ts,sns M us=some ts/\R ts
theorem rd_sns0:SnsS M [] R=R []:=propext ⟨λ⟨_,e,h⟩=>by cases e; exact h,λh=>⟨[],rfl,h⟩⟩
theorem rd_snsC:SnsS M (.p a::us) R=SnsS M us λts=>R (a::ts):=by
 refine propext ⟨λ⟨ts,e,h⟩=>?_,λ⟨ts,e,h⟩=>⟨a::ts,by simp[sns,sn,e],h⟩⟩;simp only[sns,sn] at e;cases q:sns M us with
 |none=>rw[q] at e; cases e
 |some r=>rw[q] at e; simp at e; subst e; exact⟨r,q,h⟩
theorem rd_cb:uCb s ul ρ M Q=ul ρ M λus M1=>SnsS M1 us λts=>s ts λt=>Q (.p t) M1:=rfl
theorem rd_abs':sAbs [.int i] Q=Q (.int (if i<0 then -i else i)):=propext ⟨λ⟨_,e,h⟩=>by cases e; exact h,λh=>⟨i,rfl,h⟩⟩
theorem rd_min':sMin [.int i, .int j] Q=Q (.int (if j<i then j else i)):=propext ⟨λ⟨_,_,e,h⟩=>by cases e; exact h,λh=>⟨i,j,rfl,h⟩⟩
theorem rd_max':sMax [.int i, .int j] Q=Q (.int (if j>i then j else i)):=propext ⟨λ⟨_,_,e,h⟩=>by cases e; exact h,λh=>⟨i,j,rfl,h⟩⟩
theorem rd_int':sInt [.int i] Q=Q (.int i):=by
 refine propext ⟨λh=>?_,λh=>Or.inl ⟨i,rfl,h⟩⟩;rcases h with⟨_,e,h⟩|⟨_,e,h⟩
 ·cases e; exact h
 ·cases e
theorem rd_intB:sInt [.bl k] Q=Q (.int (if k then 1 else 0)):=by
 refine propext ⟨λh=>?_,λh=>Or.inr ⟨k,rfl,h⟩⟩;rcases h with⟨_,e,h⟩|⟨_,e,h⟩
 ·cases e
 ·cases e; exact h
def LenS(it:MM->U->Option (List U))(M:MM)(us:List U)(Q:UK):Prop:=∃x ys,us=[x]/\it M x=some ys/\Q (.p (.int ys.length)) M
theorem rd_len:uLen it ul ρ M Q=ul ρ M λus M1=>LenS it M1 us Q:=rfl
theorem rd_lenP:LenS vg M [.p (.lst ts)] Q=Q (.p (.int ts.length)) M :=
 propext ⟨λ⟨_,_,e1,e2,h⟩=>by cases e1; cases e2; rw[Ug] at h; exact h,λh=>⟨_,_,rfl,rfl,by rw[Ug]; exact h⟩⟩
theorem jV(e:M[k]?=some (.lst us))(h:Q (.p (.int us.length)) M):LenS vg M [.m k] Q:=⟨_,_,rfl,by simp[vg,e],h⟩
def SlS(M:MM)(x:U)(l h:Option Int)(Q:UK):Prop:=∃ts,sn M x=some (.lst ts)/\Q (.p (.lst (cutT ts l h))) M
theorem rd_sl:uSl ua u1 u2 ρ M Q=ua ρ M λx M1=>u1 ρ M1 λl M2=>u2 ρ M2 λh M3=>SlS M3 x l h Q:=rfl
theorem rd_slS:SlS M (.p (.lst ts)) l h Q=Q (.p (.lst (cutT ts l h))) M:=propext ⟨λ⟨_,e,h⟩=>by cases e; exact h,λh=>⟨ts,rfl,h⟩⟩
theorem rd_part{QO:Option Int->MM->Prop}:uPart ua ρ M QO=ua ρ M λx M1=>IntS x λi=>QO (some i) M1:=rfl
theorem Y5{QO:Option Int->MM->Prop}:Xw ρ M QO=QO none M:=rfl
theorem rd_cat:sCat (.lst xs) (.lst ys) Q=(xs.length+ys.length<=sizeLine/\Q (.lst (xs++ys))):=propext ⟨λ⟨_,_,e1,e2,h⟩=>by cases e1; cases e2; exact h,λh=>⟨xs,ys,rfl,rfl,h⟩⟩
theorem rd_str:sStr (.str i) (.str j) Q=(i.length+j.length<=sizeLine/\Q (.str (i++j))):=propext ⟨λ⟨_,_,e1,e2,h⟩=>by cases e1; cases e2; exact h,λh=>⟨i,j,rfl,rfl,h⟩⟩
def itU(x:U)(us:List U):UIt:=⟨us.length,λM=>vg M x=some us,λi z=>us[i]?=some z⟩
def IterS(M:MM)(x:U)(R:UIt->MM->Prop):Prop:=∃us,vg M x=some us/\R (itU x us) M
theorem rd_iter:uIter ua ρ M R=ua ρ M λx M1=>IterS M1 x R:=rfl
theorem rd_iterP:IterS M (.p (.lst ts)) R=R (itU (.p (.lst ts)) (ts.map U.p)) M:=propext ⟨λ⟨_,e,h⟩=>by cases e; exact h,λh=>⟨_,rfl,h⟩⟩
theorem iter_at(e:M[k]?=some (.lst us))(h:R (itU (.m k) us) M):IterS M (.m k) R:=⟨us,by simp[vg,e],h⟩
def itR0(n:Nat):UIt:=⟨n,λ_=>True,λi z=>z=.p (.int i)⟩
def RngS(us:List U)(M:MM)(R:UIt->MM->Prop):Prop:=∃j:Int,us=[.p (.int j)] /\ -(2^62)<=j/\j<2^62/\R (itR0 j.toNat) M
theorem rd_rng1:uRng1 ul ρ M R=ul ρ M λus M1=>RngS us M1 R:=rfl
theorem YZ(h1 : -(2^62)<=j)(h2:j<2^62)(q:R (itR0 j.toNat) M):RngS [.p (.int j)] M R:=⟨j,rfl,h1,h2,q⟩
theorem kO(Iv:Nat->UEnv->MM->Prop)(h0:Iv 0 ρ M)(hs:∀i t ρ2 M2,ts[i]?=some t->Iv i ρ2 M2->ug (.p t) ρ2 M2 λρ3 M3=>ub { E with nx:=Iv (i+1),ct:=Iv (i+1),bk:=E.nx } ρ3 M3)(hd:∀ρ2 M2,Iv ts.length ρ2 M2->E.nx ρ2 M2):UFor (itU (.p (.lst ts)) (ts.map U.p)) ug ub E ρ M:=by
 refine⟨Iv,h0,λi ρ2 M2 hi h=>⟨rfl,λu hu=>?_⟩,λρ2 M2 h=>⟨rfl,hd ρ2 M2 (by simpa[itU] using h)⟩⟩;have hu:(ts.map U.p)[i]?=some u:=hu;rw[Uv] at hu;cases e:ts[i]? with
 |none=>rw[e] at hu; cases hu
 |some t=>rw[e] at hu; cases hu; exact hs i t ρ2 M2 e h
theorem JM(Iv:Nat->UEnv->MM->Prop)(h0:Iv 0 ρ M)(hs:∀(i:Nat) ρ2 M2,i<m->Iv i ρ2 M2->ug (.p (.int i)) ρ2 M2 λρ3 M3=>ub { E with nx:=Iv (i+1),ct:=Iv (i+1),bk:=E.nx } ρ3 M3)(hd:∀ρ2 M2,Iv m ρ2 M2->E.nx ρ2 M2):UFor (itR0 m) ug ub E ρ M :=
 ⟨Iv,h0,λi ρ2 M2 hi h=>⟨trivial,λu hu=>by cases(show u=_ from hu); exact hs i ρ2 M2 hi h⟩,λρ2 M2 h=>⟨trivial,hd ρ2 M2 h⟩⟩
theorem v9(hz:ts.length<=sizeLine)(Iv:Nat->List T->MM->Prop)(h0:Iv 0 [] M)(hs:∀i t acc M2,ts[i]?=some t->acc.length<=i->Iv i acc M2->ug (.p t) ρ0 M2 λρ4 M4=>ut ρ4 M4 λb M5=>if b=true then ua ρ4 M5 λz M6=>∃t,z=.p t/\Iv (i+1) (acc++[t]) M6 else Iv (i+1) acc M5)(hd:∀acc M2,Iv ts.length acc M2->Q (.p (.lst acc)) M2):UComp (itU (.p (.lst ts)) (ts.map U.p)) ug ut ua ρ0 M Q:=by
 refine⟨by simpa[itU] using hz,Iv,h0,λi acc M2 hi ha h=>⟨rfl,λu hu=>?_⟩,λacc M2 h=>⟨rfl,hd acc M2 (by simpa[itU] using h)⟩⟩;have hu:(ts.map U.p)[i]?=some u:=hu;rw[Uv] at hu;cases e:ts[i]? with
 |none=>rw[e] at hu; cases hu
 |some t=>rw[e] at hu; cases hu; exact hs i t acc M2 e ha h
theorem Yq(hz:m<=sizeLine)(Iv:Nat->List T->MM->Prop)(h0:Iv 0 [] M)(hs:∀(i:Nat) acc M2,i<m->acc.length<=i->Iv i acc M2->ug (.p (.int i)) ρ0 M2 λρ4 M4=>ut ρ4 M4 λb M5=>if b=true then ua ρ4 M5 λz M6=>∃t,z=.p t/\Iv (i+1) (acc++[t]) M6 else Iv (i+1) acc M5)(hd:∀acc M2,Iv m acc M2->Q (.p (.lst acc)) M2):UComp (itR0 m) ug ut ua ρ0 M Q :=
 ⟨hz,Iv,h0,λi acc M2 hi ha h=>⟨trivial,λu hu=>by cases(show u=_ from hu); exact hs i acc M2 hi ha h⟩,λacc M2 h=>⟨trivial,hd acc M2 h⟩⟩
def T2S(M:MM)(u:U)(R:U->U->Prop):Prop:=∃a b,v3 M u=some [a,b]/\R a b
def T3S(M:MM)(u:U)(R:U->U->U->Prop):Prop:=∃a b c,v3 M u=some [a,b,c]/\R a b c
theorem rd_name2:Ys i j u ρ M R=T2S M u λa b=>R ((ρ.set i (some a)).set j (some b)) M:=rfl
theorem rd_name3:Zh i j k u ρ M R=T3S M u λa b c=>R (((ρ.set i (some a)).set j (some b)).set k (some c)) M:=rfl
theorem rd_t2:T2S M (.p (.tup [a,b])) R=R (.p a) (.p b):=propext ⟨λ⟨_,_,e,h⟩=>by cases e; exact h,λh=>⟨_,_,rfl,h⟩⟩
theorem rd_t3:T3S M (.p (.tup [a,b,c])) R=R (.p a) (.p b) (.p c):=propext ⟨λ⟨_,_,_,e,h⟩=>by cases e; exact h,λh=>⟨_,_,_,rfl,h⟩⟩
theorem rd_callP:Yv G ul ρ M Q=ul ρ M λus M1=>PurS us λts=>G ts λt=>Q (.p t) M1:=rfl
theorem rd_callS:uCallS G ul ρ M Q=ul ρ M λus M1=>SnsS M1 us λts=>G ts λt=>(∃x,vt t=some x)/\Q (.p t) M1:=rfl
theorem rd_callU:uCall G ul ρ M Q=ul ρ M λus M1=>G us M1 Q:=rfl
def MeS(s:List U->List U->(U->List U->Prop)->Prop)(ul:UA)(ρ:UEnv)(M:MM)(o:U)(Q:UK):Prop:=∃k,o=.m k/\(∃zs,M[k]?=some (.lst zs))/\ul ρ M λws M2=>∃us,M2[k]?=some (.lst us)/\s us ws λz us'=>Q z (M2.set k (.lst us'))
theorem rd_me:uMe s ua ul ρ M Q=ua ρ M λo M1=>MeS s ul ρ M1 o Q:=rfl
theorem W7(e:M[k]?=some (.lst zs))(h:ul ρ M λws M2=>∃us,M2[k]?=some (.lst us)/\s us ws λz us'=>Q z (M2.set k (.lst us'))):MeS s ul ρ M (.m k) Q:=⟨k,rfl,⟨zs,e⟩,h⟩
theorem rd_app:YU us [y] Q=(us.length<sizeLine/\Q (.p .non) (us++[y])):=propext ⟨λ⟨_,e,h⟩=>by cases e; exact h,λh=>⟨y,rfl,h⟩⟩
theorem ss{α:Type}{a:α}{R:α->Prop}:(∃x,some a=some x/\R x)=R a:=propext ⟨λ⟨_,e,h⟩=>by cases e; exact h,λh=>⟨a,rfl,h⟩⟩
end
inductive EqT:Nat->T->T->Bool->Prop
 |flat {n:Nat} {a b:T} {x y:V}:vt a=some x->vt b=some y->EqT n a b (eqV x y)
 |tup {n:Nat} {xs ys:List T} {e:Nat->Bool}:(∀(j:Nat) x y,xs[j]?=some x->ys[j]?=some y->EqT n x y (e j))->EqT (n+1) (.tup xs) (.tup ys) ((List.range (min xs.length ys.length)).all e&&xs.length==ys.length)
 |lst {n:Nat} {xs ys:List T} {e:Nat->Bool}:xs.length=ys.length->(∀(j:Nat) x y,xs[j]?=some x->ys[j]?=some y->EqT n x y (e j))->EqT (n+1) (.lst xs) (.lst ys) ((List.range xs.length).all e)
 |lstN {n:Nat} {xs ys:List T}:xs.length≠ys.length->EqT (n+1) (.lst xs) (.lst ys) false
section
theorem RepT.inj(r:RepT A H v a):RepT A H v b->a=b:=by
 induction r generalizing b with
 |non=>intro q; cases q; rfl
 |bl=>intro q; cases q; rfl
 |int=>intro q; cases q; rfl
 |str=>intro q; cases q; rfl
 |tup na e l r ih =>
  intro q;cases q with
  |tup na' e' l' r' =>
   rw[e] at e'; cases e'
   congr 1;refine List.ext_getElem (by lia) λi h1 h2=>?_;have h3:=h1;rw[<-l] at h3;exact ih i _ _ (Uf h3) (Uf h1) (r' i _ _ (Uf h3) (Uf h2))
  |lst na' e' l' r'=>rw[e] at e'; cases e'
 |lst na e l r ih =>
  intro q;cases q with
  |lst na' e' l' r' =>
   rw[e] at e'; cases e'
   congr 1;refine List.ext_getElem (by lia) λi h1 h2=>?_;have h3:=h1;rw[<-l] at h3;exact ih i _ _ (Uf h3) (Uf h1) (r' i _ _ (Uf h3) (Uf h2))
  |tup na' e' l' r'=>rw[e] at e'; cases e'
theorem eqV_self:∀{x:V}{t:T},vt t=some x->eqV x x=true:=λ{x t} h=>by cases j5 h<;>simp[eqV]
theorem EqT.self(h:EqT n a b r):a=b->r=true:=by
 induction h with
 |flat h1 h2=>intro e; subst e; rw[h1] at h2; cases h2; exact eqV_self h1
 | @tup n xs ys e hh ih =>
  intro q;cases q;simp only[Bi,beq_self_eq_true,Bool.and_true,DH,Di];intro j hj;exact ih j _ _ (Uf hj) (Uf hj) rfl
 | @lst n xs ys e hl hh ih =>
  intro q;cases q;simp only[DH,Di];intro j hj;exact ih j _ _ (Uf hj) (Uf hj) rfl
 |lstN hl=>intro q; cases q; exact absurd rfl hl
theorem EqT.de(h:EqT n a b r):∀{x y:V},RepT A H x a->RepT A H y b->DE Ξ H n x y r:=by
 induction h with
 | @flat n a b x0 y0 h1 h2 =>
  intro x y r1 r2;cases(RepV.of r1).sc (y:=.non) h1; cases(RepV.of r2).sc (y:=.non) h2;exact .flat (by cases j5 h1<;>rfl) (by cases j5 h2<;>rfl)
 | @tup n xs ys e hh ih =>
  intro x y r1 r2;obtain⟨p,vs,rfl,_,h1,q1⟩:=r1.tup_inv;obtain⟨p2,vs2,rfl,_,h2,q2⟩:=r2.tup_inv;by_cases hp:p=p2
  ·subst hp
   have:=(EqT.tup (n:=n) hh).self (r1.inj r2);rw[this]; exact .same
  ·have:=DE.tup (Ξ:=Ξ) (H:=H) (n:=n) (e:=e) hp (SqT.of h1) (SqT.of h2) λj x y hx hy=>by
    obtain⟨a,ha,ra⟩:=Paired.getL q1 hx;obtain⟨b,hb,rb⟩:=Paired.getL q2 hy;exact ih j a b ha hb ra rb
   rw[q1.len,q2.len] at this;exact this
 | @lst n xs ys e hl hh ih =>
  intro x y r1 r2;obtain⟨p,vs,rfl,_,h1,q1⟩:=r1.lst_inv;obtain⟨p2,vs2,rfl,_,h2,q2⟩:=r2.lst_inv;by_cases hp:p=p2
  ·subst hp
   have:=(EqT.lst (n:=n) hl hh).self (r1.inj r2);rw[this]; exact .same
  ·have:=DE.lst (Ξ:=Ξ) (H:=H) (n:=n) (e:=e) hp (SqL.of h1) (SqL.of h2) (by rw[q1.len,q2.len,hl]) λj x y hx hy=>by
    obtain⟨a,ha,ra⟩:=Paired.getL q1 hx;obtain⟨b,hb,rb⟩:=Paired.getL q2 hy;exact ih j a b ha hb ra rb
   rw[q1.len] at this;exact this
 | @lstN n xs ys hl =>
  intro x y r1 r2;obtain⟨p,vs,rfl,_,h1,q1⟩:=r1.lst_inv;obtain⟨p2,vs2,rfl,_,h2,q2⟩:=r2.lst_inv;by_cases hp:p=p2
  ·subst hp
   have:=r1.inj r2;cases this;exact absurd rfl hl
  ·exact .lstN hp (SqL.of h1) (SqL.of h2) (by rw[q1.len,q2.len]; exact hl)
def sEqL(neg:Bool):T->T->(T->Prop)->Prop:=λa b Q=>∃xs ys,a=.lst xs/\b=.lst ys/\((xs.length≠ys.length/\Q (.bl neg))\/(xs.length=ys.length/\∃e:Nat->Bool,(∀(j:Nat) x y,xs[j]?=some x->ys[j]?=some y->EqT 20 x y (e j))/\Q (.bl (if neg then !(List.range xs.length).all e else(List.range xs.length).all e))))
theorem VF:OpL (rEqL Ξ) (sEqL false):=λA ι H M x y a b Qs Q w r1 r2 ⟨xs,ys,ea,eb,h⟩ k=>by
 subst ea eb;obtain⟨p,vs,rfl,h1,q1⟩:=r1.lst_inv;obtain⟨p2,vs2,rfl,h2,q2⟩:=r2.lst_inv;refine⟨p,p2,vs,vs2,rfl,rfl,SqL.of h1,SqL.of h2, ?_⟩;rcases h with⟨hl,q⟩|⟨hl,e,he,q⟩
 ·exact .inl ⟨by rw[q1.len,q2.len]; exact hl,k _ ι _ H (.refl _ _) w (.bl _) q⟩
 ·refine .inr ⟨by rw[q1.len,q2.len]; exact hl,e,λj x y hx hy=>?_,by rw[q1.len]; exact k _ ι _ H (.refl _ _) w (.bl _) q⟩
  obtain⟨a,ha,ra⟩:=Paired.getL q1 hx;obtain⟨b,hb,rb⟩:=Paired.getL q2 hy;exact(he j a b ha hb).de ra rb
theorem opl_neL:OpL (rNeL Ξ) (sEqL true):=λA ι H M x y a b Qs Q w r1 r2 ⟨xs,ys,ea,eb,h⟩ k=>by
 subst ea eb;obtain⟨p,vs,rfl,h1,q1⟩:=r1.lst_inv;obtain⟨p2,vs2,rfl,h2,q2⟩:=r2.lst_inv;refine⟨p,p2,vs,vs2,rfl,rfl,SqL.of h1,SqL.of h2, ?_⟩;rcases h with⟨hl,q⟩|⟨hl,e,he,q⟩
 ·exact .inl ⟨by rw[q1.len,q2.len]; exact hl,k _ ι _ H (.refl _ _) w (.bl _) q⟩
 ·refine .inr ⟨by rw[q1.len,q2.len]; exact hl,e,λj x y hx hy=>?_,by rw[q1.len]; exact k _ ι _ H (.refl _ _) w (.bl _) q⟩
  obtain⟨a,ha,ra⟩:=Paired.getL q1 hx;obtain⟨b,hb,rb⟩:=Paired.getL q2 hy;exact(he j a b ha hb).de ra rb
abbrev qU(ns:List Int):T:=.lst (ns.map T.int)
theorem eqInts(q:Q (.bl (if neg then !decide (ns=ms) else decide (ns=ms)))):sEqL neg (qU ns) (qU ms) Q:=by
 refine⟨_,_,rfl,rfl, ?_⟩;simp only[Ug];by_cases hl:ns.length=ms.length
 ·refine .inr ⟨hl,λj=>ns[j]?==ms[j]?,λj x y hx hy=>?_,by rw[qaq hl]; exact q⟩
  rw[Uv] at hx hy;cases e1:ns[j]? with
  |none=>rw[e1] at hx; cases hx
  |some i =>
   cases e2:ms[j]? with
   |none=>rw[e2] at hy; cases hy
   |some k =>
    rw[e1] at hx; rw[e2] at hy;cases hx; cases hy;have:=EqT.flat (n:=20) (a:=.int i) (b:=.int k) rfl rfl;have e3:eqV (.int i) (.int k)=(ns[j]?==ms[j]?):=by rw[e1,e2]; simp[eqV]
    rw[e3] at this;exact this
 ·refine .inl ⟨hl, ?_⟩
  have:decide (ns=ms)=false:=decide_eq_false λz=>hl (by rw[z]);rw[this] at q;cases neg<;>simpa using q
theorem eqNil(q:Q (.bl (if neg then !xs.isEmpty else xs.isEmpty))):sEqL neg (.lst xs) (.lst []) Q:=by
 refine⟨_,_,rfl,rfl, ?_⟩;cases xs with
 |nil=>exact .inr ⟨rfl,λ_=>true,λj x y hx=>by simp at hx,by simpa using q⟩
 |cons x xs=>exact .inl ⟨by simp,by cases neg<;>simpa using q⟩
def sRep:T->T->(T->Prop)->Prop:=λa b Q=>∃xs k,a=.lst xs/\b=.int k /\ -(2^63)<=k/\k<2^63/\xs.length*k.toNat<=sizeLine/\Q (.lst (List.replicate k.toNat xs).flatten)
theorem opl_rep:OpL rRep sRep:=λA ι H M x y a b Qs Q w r1 r2 ⟨xs,kk,ea,eb,k0,k1,hz,q⟩ k=>by
 subst ea eb;obtain⟨p,vs,rfl,h1,q1⟩:=r1.lst_inv;cases r2.int_inv;exact⟨p,kk,vs,rfl,rfl,h1,k0,k1,by rw[q1.len]; exact hz,λl hl=>k _ ι _ _ (.fresh hl) (w.fresh hl) (zA w hl (jS q1 _)) q⟩
def frzB(b:Nat):Nat->MM->U->Option T
 |_,_, .p t=>some t
 |0,_, .m _=>none
 |_,_, .x _ _ _=>none
 |n+1,M, .m k=>if b<=k then match M[k]? with
  |some (.lst us)=>(frzs (frzB b n M) us).map T.lst
  |some (.tup us)=>(frzs (frzB b n M) us).map T.tup
  |_=>none else none
@[simp] theorem GO:frzB b n M (.p t)=some t:=by cases n<;>rfl
theorem Z5(r:RepUs A ι H vs us)(h:∀v u t,RepU A ι H v u->f u=some t->RepT A' H v t)(e:frzs f us=some ts):RepTs A' H vs ts:=by
 induction r generalizing ts with
 |nil=>simp[frzs] at e; subst e; exact .nil
 |cons r q ih =>
  simp only[frzs] at e;split at e
  ·rename_i h1 h2
   simp at e; subst e;exact .cons (h _ _ _ r h1) (ih h2)
  ·cases e
theorem V1(w:Wd A (ι++m) H M):∀{n:Nat}{v:V}{u:U}{t:T},RepU A (ι++m) H v u->frzB ι.length n M u=some t->RepT (Av A ι) H v t
 |n,v, .p t',t, .p r,e=>by
  rw[GO] at e; cases e;exact r.mono λx o hx ex=>⟨ex,λz=>hx (z.elim .inl λz=>.inr (UH _ z))⟩
 |0,v, .m k,t,r,e=>by simp[frzB] at e
 |n,v, .x a d q,t,r,e=>by cases n<;>simp[frzB] at e
 |n+1,v, .m k,t,r,e=>by
  cases r with
  |m q =>
  rename_i a;obtain⟨o,h1,h2⟩:=w.al q;simp only[frzB,h1] at e;split at e
  ·rename_i hk
   have hna:¬Av A ι a:=λz=>by
    rcases z with z|z
    ·exact w.na _ (Uh q) z
    ·rw[Uq hk] at q
     have hd:=(Dp.mp w.nd).2.2;exact hd a z a (Uh q) rfl
   cases o with
   |lst us =>
    simp at e;obtain⟨ts,e1,rfl⟩:=e;obtain⟨vs,h3,h4⟩:=h2;exact .lstP hna h3 (Z5 h4 (λv u t r e=>V1 w r e) e1)
   |tup us =>
    simp at e;obtain⟨ts,e1,rfl⟩:=e;obtain⟨vs,h3,h4⟩:=h2;exact .tupP hna h3 (Z5 h4 (λv u t r e=>V1 w r e) e1)
   |ins=>simp at e
   |dK=>simp at e
   |dF=>simp at e
  ·cases e
def PurO(o:MO):Prop:=∃ts:List T,o=.lst (ts.map U.p)
def xL(M M':MM):Prop:=∀(i:Nat) o,i<M.length->M'[i]?=some o->M[i]?=some o\/PurO o
theorem RepU.less{m:List Addr}(r:RepU A (ι++m) H v u)(r0:RepU A ι H0 v0 u):RepU A ι H v u:=by
 cases r with
 |p r=>exact .p (r.mono λx o hx ex=>⟨ex,λz=>hx (z.elim .inl λz=>.inr (UH _ z))⟩)
 |m e =>
  cases r0 with
  |m e0 =>
   rw[Ui (Ue.mp e0).1] at e;exact .m e
 | @x a d q h =>
  refine .x ?_;cases q with
  |none=>exact h
  |some n =>
   obtain⟨x0,e,ni,hx⟩:=h;exact⟨x0,e,λz=>ni (UH _ z),hx⟩
theorem za{α β:Type}{F G L:α->β->Prop}(h:∀a a0 b,F a b->G a0 b->L a b):∀{l l0:List α}{r:List β},Paired F l r->Paired G l0 r->Paired L l r
 |_,_,_, .nil, .nil=>.nil
 |_,_,_, .cons p q, .cons p0 q0=>.cons (h _ _ _ p p0) (za h q q0)
theorem ObjR.less(r:ObjR A (ι++m) H a o)(r0:ObjR A ι H0 a0 o):ObjR A ι H a o:=by
 cases o with
 |lst=>obtain⟨vs,e,r⟩:=r; obtain⟨_,_,r0⟩:=r0; exact⟨vs,e,za (λ_ _ _ p q=>p.less q) r r0⟩
 |tup=>obtain⟨vs,e,r⟩:=r; obtain⟨_,_,r0⟩:=r0; exact⟨vs,e,za (λ_ _ _ p q=>p.less q) r r0⟩
 |ins=>obtain⟨dx,gs,e,ed,nd,r⟩:=r; obtain⟨_,_,_,_,_,r0⟩:=r0; exact⟨dx,gs,e,ed,λz=>nd (UH _ z),za (λ_ _ _ p q=>⟨p.1,p.2.less q.2⟩) r r0⟩
 |dK=>obtain⟨gs,e,r⟩:=r; obtain⟨_,_,r0⟩:=r0; exact⟨gs,e,za (λ_ _ _ p q=>⟨p.1,p.2.less q.2⟩) r r0⟩
 |dF=>obtain⟨e,r⟩:=r; obtain⟨_,r0⟩:=r0; exact⟨e,za (λ_ _ _ p q=>⟨p.1,p.2.less q.2⟩) r r0⟩
theorem Wd.trim(w:Wd A (ι++m) H M')(w0:Wd A ι H0 M)(h:xL M M'):Wd A ι H (M'.take M.length):=by
 have hl:M.length<=M'.length:=by
  have:=w.len; rw[Uj,w0.len] at this; lia
 refine⟨(Dp.mp w.nd).1,by rw[UZ,Dq hl]; exact w0.len,w.dom,λx hx=>w.na x (UH _ hx),λk a o e1 e2=>?_⟩;have hk:=(Ue.mp e1).1;rw[Rg (by rw[<-w0.len]; exact hk)] at e2;have r:=w.obj k a o (by rw[Ui hk]; exact e1) e2;rcases h k o (by rw[<-w0.len]; exact hk) e2 with z|⟨ts,rfl⟩
 ·exact r.less (w0.obj k a o e1 z)
 ·obtain⟨vs,e,q⟩:=r
  refine⟨vs,e, ?_⟩;have q2:=q.pures;exact RepTs.ups (Paired.mapP q2 λ_ _ q=>q.mono λx o hx ex=>⟨ex,λz=>hx (z.elim .inl λz=>.inr (UH _ z))⟩)
end
section
theorem Fun.okV{st:Stmt}(F:Fun Ξ x qual st f fd)(S:FnScope N ps (qg st))(len:∀us M Qu,G us M Qu->us.length=ps.length)(hbody:∀(cdv:Value)(A:Around)(outer:List Env)(s:Shared)(H:Hp)(E:XK),Room k (A.deeper (envOfC qual (qg st) s.heap.objs.size f cdv)) ->
   ∃t,PSs (cxOf CX0 P w Ξ mg base N qual (qg st) f cdv A outer s H E).nox (vQ st) t/\∃u,LS t u/\∀us M Qu,G us M Qu->u { nx:=λ_ M'=>xL M M'/\Qu (.p .non) (M'.take M.length),rt:=λz M'=>xL M M'/\∃t,frzB M.length 4 M' z=some t/\Qu (.p t) (M'.take M.length) } (xI N us) M):FnOk P w Ξ mg base CX0 (k+1) f fd ps (spU G):=by
 refine F.ok S (λvs H Q E h=>?_) (λcdv A outer s H vs Q E hr h=>?_)
 ·obtain⟨A,ι,M,us,Qu,w1,r,g,_⟩:=h
  rw[r.len]; exact len us M Qu g
 ·obtain⟨B,ι,M,us,Qu,w1,r,g,kk⟩:=h
  obtain⟨t,ht,u,hu,hb⟩:=hbody cdv A outer s H E hr;have less:∀{ι1:List Addr}{H1:Hp},Le ι H ι1 H1->Le ι H ι H1:=λl=>⟨⟨[],by simp,by simp⟩,l.fr,l.al⟩;refine⟨t,ht,hu B ι _ H _ M _ { nx:=λ_ M'=>xL M M'/\Qu (.p .non) (M'.take M.length),rt:=λz M'=>xL M M'/\∃t,frzB M.length 4 M' z=some t/\Qu (.p t) (M'.take M.length) } w1 (ji r) ⟨λι1 σ1 H1 ρ1 M1 l1 w2 e1 q1=>?_,λι1 v H1 z M1 l1 w2 r1 q1=>?_,λ_ _ _ _ _ _ _ _ q=>q.elim,λ_ _ _ _ _ _ _ _ q=>q.elim⟩ (hb us M Qu g)⟩
  ·obtain⟨tr,q⟩:=q1
   obtain⟨m,rfl,_⟩:=id l1.ext;exact kk _ _ ι _ H1 (less l1) (w2.trim w1 tr) (.p .non) q
  ·obtain⟨tr,t1,et,q⟩:=q1
   obtain⟨m,rfl,_⟩:=id l1.ext;rw[<-w1.len] at et;exact kk _ _ ι v H1 (less l1) (w2.trim w1 tr) (.p (V1 w2 r1 et)) q
end
section
def keyU:Key->U
 |.inl i=>.p (.int i)
 |.inr x=>.p (.str x)
 |.non=>.p .non
def valU(kvs:List (Key×U))(k:Key):Option U:=(kvs.find? λkv=>decide (kv.1=k)).map (·.2)
def putU(kvs:List (Key×U))(k:Key)(y:U):List (Key×U):=if kvs.any (λkv=>decide (kv.1=k)) then kvs.map (λkv=>if kv.1=k then(kv.1,y) else kv) else kvs++[(k,y)]
def xK(kvs more:List (Key×U)):List (Key×U):=more.foldl (λacc kv=>putU acc kv.1 kv.2) kvs
abbrev KR(A:Addr->Prop)(ι:List Addr)(H:Hp):List (Key×V)->List (Key×U)->Prop:=Paired λ(g:Key×V) (f:Key×U)=>g.1=f.1/\RepU A ι H g.2 f.2
theorem Xs(r:KR A ι H gs kvs):match valU kvs k with|some u=>∃v,valV gs k=some v/\RepU A ι H v u|none=>valV gs k=none:=by
 induction r with
 |nil=>rfl
 | @cons g f gs kvs p q ih =>
  obtain⟨e,r⟩:=p;unfold valU valV at ih ⊢;simp only[De];by_cases h:f.1=k
  ·rw[e]
   simp only[h,decide_true];exact⟨_,rfl,r⟩
  ·rw[e]
   simp only[h,decide_false];exact ih
theorem any_rep(r:KR A ι H gs kvs):(gs.any λkv=>decide (kv.1=k))=(kvs.any λkv=>decide (kv.1=k)):=by
 induction r with
 |nil=>rfl
 |cons p q ih=>rw[Dr,Dr,ih,p.1]
theorem Jh(r:KR A ι H gs kvs)(rv:RepU A ι H v u):KR A ι H (gs.map λkv=>if kv.1=k then(kv.1,v) else kv) (kvs.map λkv=>if kv.1=k then(kv.1,u) else kv):=by
 induction r with
 |nil=>exact .nil
 | @cons g f gs kvs p q ih =>
  refine .cons ?_ ih;show(if g.1=k then(g.1,v) else g).1=(if f.1=k then(f.1,u) else f).1/\RepU A ι H (if g.1=k then(g.1,v) else g).2 (if f.1=k then(f.1,u) else f).2;by_cases h:f.1=k
  ·rw[if_pos h,if_pos (p.1.trans h)]; exact⟨p.1,rv⟩
  ·rw[if_neg h,if_neg (λz=>h (p.1.symm.trans z))]; exact p
theorem Wi(r:KR A ι H gs kvs)(rv:RepU A ι H v u):KR A ι H (putK gs k v) (putU kvs k u):=by
 unfold putK putU;rw[any_rep r];split
 ·exact Jh r rv
 ·exact r.app (.cons ⟨rfl,rv⟩ .nil)
theorem W6(q:KR A ι H more moreU):∀{gs:List (Key×V)}{kvs:List (Key×U)},KR A ι H gs kvs->KR A ι H (Ql gs more) (xK kvs moreU):=by
 unfold Ql xK
 induction q with
 |nil=>intro gs kvs r; exact r
 |cons p q ih =>
  intro gs kvs r;rw[RC,RC,p.1];exact ih (Wi r p.2)
inductive LPs:List (TE×TE)->List (UE×UE)->Prop
 |nil:LPs [] []
 |cons {tk tv:TE} {uk uv:UE} {ts:List (TE×TE)} {us:List (UE×UE)}:LE tk uk->LE tv uv->LPs ts us->LPs ((tk,tv)::ts) ((uk,uv)::us)
def JN:List (UE×UE)->UEnv->MM->(List (U×U)->MM->Prop)->Prop
 | [],_,M,Q=>Q [] M
 | (k,v)::r,ρ,M,Q=>k ρ M λx M1=>v ρ M1 λy M2=>JN r ρ M2 λps M3=>Q ((x,y)::ps) M3
theorem lps_run(h:LPs trs urs):∀(A:Addr->Prop)(ι:List Addr)(σ:St)(H:Hp)(ρ:UEnv)(M:MM)(Qu:List (U×U)->MM->Prop)(Q:List (V×V)->Hp->Prop),Wd A ι H M->EnvR A ι H σ ρ->JN urs ρ M Qu ->
  (∀us M' ι' vs H',Le ι H ι' H'->Wd A ι' H' M'->Paired (λ(x:V×V) (y:U×U)=>RepU A ι' H' x.1 y.1/\RepU A ι' H' x.2 y.2) vs us->Qu us M'->Q vs H')->JW trs σ H Q:=by
 induction h with
 |nil=>intro A ι σ H ρ M Qu Q w e q k; exact k [] M ι [] H (.refl _ _) w .nil q
 |cons h1 h2 h3 ih =>
  intro A ι σ H ρ M Qu Q w e q k;refine h1 A ι σ H ρ M _ _ w e q λx M1 ι1 v1 H1 l1 w1 r1 q1=>?_;refine h2 A ι1 σ H1 ρ M1 _ _ w1 (e.le l1) q1 λy M2 ι2 v2 H2 l2 w2 r2 q2=>?_;refine ih A ι2 σ H2 ρ M2 _ _ w2 (e.le (l1.trans l2)) q2 λus M3 ι3 vs H3 l3 w3 r3 q3=>?_;exact k _ M3 ι3 _ H3 ((l1.trans l2).trans l3) w3 (.cons ⟨(r1.le l2).le l3,r2.le l3⟩ r3) q3
def uDisp(urs:List (UE×UE)):UE:=λρ M Q=>JN urs ρ (M++[.dK []]) λps M2=>M2[M.length]?=some (.dK [])/\∃kvs:List (Key×U),ps=kvs.map (λkv=>(keyU kv.1,kv.2))/\kvs.length<=15/\Q (.m M.length) (M2.set M.length (.dK (xK [] kvs)))
theorem Qr(r:RepU A ι H v (keyU k)):v=kV k:=by
 cases k with
 |inl i=>cases r with|p r=>cases r; rfl
 |inr x=>cases r with|p r=>cases r; rfl
 |non=>cases r with|p r=>cases r; rfl
theorem Gh:∀{kvs:List (Key×U)}{vs:List (V×V)},Paired (λ(x:V×V) (y:U×U)=>RepU A ι H x.1 y.1/\RepU A ι H x.2 y.2) vs (kvs.map λkv=>(keyU kv.1,kv.2))->∃gs:List (Key×V),vs=gs.map (λkv=>(kV kv.1,kv.2))/\KR A ι H gs kvs
 | [],_, .nil=>⟨[],rfl, .nil⟩
 |kv::kvs,(a,b)::_, .cons p q=>by
  obtain⟨gs,rfl,r⟩:=Gh (kvs:=kvs) q;refine⟨(kv.1,b)::gs, ?_, .cons ⟨rfl,p.2⟩ r⟩;rw[Uy];have:=Qr p.1;simp only at this;rw[this]
def DGetS(M:MM)(x y:U)(Q:UK):Prop:=∃k kvs key w,x=.m k/\M[k]?=some (.dK kvs)/\y=keyU key/\valU kvs key=some w/\Q w M
def uDGet(ua ub:UE):UE:=λρ M Q=>ua ρ M λx M1=>ub ρ M1 λy M2=>DGetS M2 x y Q
theorem rd_dget:uDGet ua ub ρ M Q=ua ρ M λx M1=>ub ρ M1 λy M2=>DGetS M2 x y Q:=rfl
theorem Kt(h1:M[k]?=some (.dK kvs))(h2:valU kvs (.inr x)=some w)(q:Q w M):DGetS M (.m k) (.p (.str x)) Q:=⟨k,kvs, .inr x,w,rfl,h1,rfl,h2,q⟩
def uIfC(c:UT)(t1 t2:T):UE:=λρ M Q=>c ρ M λb M1=>Q (.p (if b=true then t1 else t2)) M1
theorem iteT_int[Decidable c]:(if c then T.int a else T.int b)=T.int (if c then a else b):=by split<;>rfl
theorem iteT_str[Decidable c]:(if c then T.str a else T.str b)=T.str (if c then a else b):=by split<;>rfl
def itV(x:U)(us:List U):UIt:=⟨us.length,λM=>vg M x=some us,λi z=>us[us.length-1-i]?=some z⟩
def RevS(us:List U)(M:MM)(R:UIt->MM->Prop):Prop:=∃x ys,us=[x]/\vg M x=some ys/\R (itV x ys) M
theorem rd_rev:uRev ul ρ M R=ul ρ M λus M1=>RevS us M1 R:=rfl
theorem rd_revP:RevS [.p (.lst ts)] M R=R (itV (.p (.lst ts)) (ts.map U.p)) M:=propext ⟨λ⟨_,_,e1,e2,h⟩=>by cases e1; cases e2; exact h,λh=>⟨_,_,rfl,rfl,h⟩⟩
theorem ufor_rev(Iv:Nat->UEnv->MM->Prop)(h0:Iv 0 ρ M)(hs:∀i t ρ2 M2,i<ts.length->ts[ts.length-1-i]?=some t->Iv i ρ2 M2->ug (.p t) ρ2 M2 λρ3 M3=>ub { E with nx:=Iv (i+1),ct:=Iv (i+1),bk:=E.nx } ρ3 M3)(hd:∀ρ2 M2,Iv ts.length ρ2 M2->E.nx ρ2 M2):UFor (itV (.p (.lst ts)) (ts.map U.p)) ug ub E ρ M:=by
 refine⟨Iv,h0,λi ρ2 M2 hi h=>⟨rfl,λu hu=>?_⟩,λρ2 M2 h=>⟨rfl,hd ρ2 M2 (by simpa[itV] using h)⟩⟩;have hu:(ts.map U.p)[(ts.map U.p).length-1-i]?=some u:=hu;have hi:i<(ts.map U.p).length:=hi;rw[Ug] at hu hi;rw[Uv] at hu;cases e:ts[ts.length-1-i]? with
 |none=>rw[e] at hu; cases hu
 |some t=>rw[e] at hu; cases hu; exact hs i t ρ2 M2 hi e h
theorem rd_ch:ChS s' uc ρ M y Q (.bl b)=if b=true then uc ρ M λc M3=>OpS s' M3 y c Q else Q (.p (.bl false)) M :=
 propext ⟨λ⟨k,e,h⟩=>by cases e; exact h,λh=>⟨b,rfl,h⟩⟩
def sRemove:List U->List U->(U->List U->Prop)->Prop:=λus ws Q=>∃(ts:List T)(y:T)(j:Nat)(e:Nat->Bool),us=ts.map U.p/\ws=[.p y]/\j<ts.length/\e j=true/\(∀m,m<j->e m=false)/\(∀(m:Nat) z,m<=j->ts[m]?=some z->EqT 20 z y (e m))/\Q (.p .non) ((ts.eraseIdx j).map U.p)
theorem ZR{α β:Type}(f:α->β):∀(l:List α)(j:Nat),(l.eraseIdx j).map f=(l.map f).eraseIdx j
 | [],_=>rfl
 |_::_,0=>rfl
 |x::l,j+1=>by rw[DQ,Uy,Uy,DQ,ZR f l j]
theorem K2:MeL (X3 Ξ) sRemove:=λA ι H M k a xs ys us ws Qs Q w ek h1 h2 rx ry ⟨ts,y,j,e,eu,ew,hj,hjt,hjf,hd,q⟩ kk=>by
 subst eu ew;cases ry with
 |cons r q' =>
 cases q';cases r with
 |p r =>
 have rp:=rx.pures;refine⟨a,xs,_,j,e,rfl,rfl,h1,by rw[rp.len]; exact hj,hjt,hjf,λm z hm hz=>?_,kk _ _ _ _ (RepTs.ups (rp.erase j)) (.p .non) q⟩;obtain⟨b,hb,rb⟩:=Paired.getL rp hz;exact(hd m b hm hb).de rb r
end
section
def KTu(Ξ:PySem.W.Frag)(p:Addr)(vs:List V):Prop:=∀H,SqT Ξ H p vs
theorem Tup3.kt{mg:Str->Option Value}(T3:Tup3 Ξ mg nm p x y z):KTu Ξ p [.str x, .str y, .str z]:=T3.sq
theorem atI_pair{α β:Type}{F:α->β->Prop}{vs:List α}{ts:List β}{i:Int}{z:β}(r:Paired F vs ts)(e:atI ts i=some z):∃x,atI vs i=some x/\F x z:=by
 unfold atI at e ⊢;rw[r.len];cases q:ixN ts.length i with
 |none=>rw[q] at e; cases e
 |some j =>
  rw[q] at e;exact Paired.getR r e
theorem YK:∀xs:List Str,Paired Sc (xs.map V.str) (xs.map T.str)
 | []=>.nil
 |x::xs=>.cons (.str x) (YK xs)
def uIxK(ts:List T)(ub:UE):UE:=λρ M Q=>ub ρ M λy M1=>IntS y λi=>∃t,atI ts i=some t/\Q (.p t) M1
def uInK(neg:Bool)(vs:List V)(ua:UE):UE:=λρ M Q=>ua ρ M λx M1=>∃a,x=.p a/\∃y,vt a=some y/\Q (.p (.bl (if neg then !inV y vs else inV y vs))) M1
inductive TyC where
 |int|bool|str|list|tuple
def TyC.name:TyC->String
 |.int => "int" |.bool => "bool" |.str => "str" |.list => "list" |.tuple => "tuple"
def isT:T->TyC->Bool
 |.int _, .int=>true
 |.bl _, .int=>true
 |.bl _, .bool=>true
 |.str _, .str=>true
 |.lst _, .list=>true
 |.tup _, .tuple=>true
 |_,_=>false
def isU(M:MM):U->TyC->Option Bool
 |.p t,c=>some (isT t c)
 |.m k,c=>match M[k]? with
  |some (.lst _)=>some (isT (.lst []) c)
  |some (.tup _)=>some (isT (.tup []) c)
  |_=>none
 |.x _ _ _,_=>none
theorem isi_rep(w:Wd A ι H M)(r:RepU A ι H v u)(e:isU M u c=some b):∃t,TyOf Ξ H v (.type t)/\W.kitOne Ξ (.type t) (.type c.name)=some b:=by
 cases r with
 |p r =>
  simp only[isU,Option.some.injEq] at e;subst e;cases r with
  |non=>exact⟨_, .non,by cases c<;>rfl⟩
  |bl b=>exact⟨_, .bl b,by cases c<;>rfl⟩
  |int i=>exact⟨_, .int i,by cases c<;>rfl⟩
  |str x=>exact⟨_, .str x,by cases c<;>rfl⟩
  |tup na e l r=>exact⟨_, .tup e,by cases c<;>rfl⟩
  |lst na e l r=>exact⟨_, .lst e,by cases c<;>rfl⟩
 |m q =>
  obtain⟨o,h1,h2⟩:=w.al q;simp only[isU,h1] at e;cases o with
  |lst us=>simp only[Option.some.injEq] at e; subst e; obtain⟨vs,h3,_⟩:=h2; exact⟨_, .lst h3,by cases c<;>rfl⟩
  |tup us=>simp only[Option.some.injEq] at e; subst e; obtain⟨vs,h3,_⟩:=h2; exact⟨_, .tup h3,by cases c<;>rfl⟩
  |ins=>simp at e
  |dK=>simp at e
  |dF=>simp at e
 |x h=>simp[isU] at e
def uIsi(c:TyC)(ua:UE):UE:=λρ M Q=>ua ρ M λx M1=>∃b,isU M1 x c=some b/\Q (.p (.bl b)) M1
def uIsi2(c d:TyC)(ua:UE):UE:=λρ M Q=>ua ρ M λx M1=>∃b,isU M1 x c=some b/\∃b',isU M1 x d=some b'/\Q (.p (.bl (b||b'))) M1
def uDNew:UE:=λ_ M Q=>Q (.m M.length) (M++[.dK []])
theorem le_dnew:LE JX uDNew:=λA ι σ H ρ M Qu Q w e q k p hp =>
 k _ _ (ι++[p]) _ _ (.push hp) (w.push (mo:=.dK []) hp ⟨[],upd_same, .nil⟩) (.m (by rw[<-w.len]; exact xy)) q
def DInS(neg:Bool)(M:MM)(y x:U)(Q:UK):Prop:=∃k kvs key,x=.m k/\M[k]?=some (.dK kvs)/\y=keyU key/\Q (.p (.bl (if neg then !(valU kvs key).isSome else(valU kvs key).isSome))) M
def uDIn(neg:Bool)(ua ub:UE):UE:=λρ M Q=>ua ρ M λy M1=>ub ρ M1 λx M2=>DInS neg M2 y x Q
theorem Ks{k:Nat}(w:Wd A ι H M)(ek:ι[k]?=some a)(em:M[k]?=some (.dK kvs))(ry:RepU A ι H y (keyU key)):∃o,DGet H a y o/\o.isSome=(valU kvs key).isSome:=by
 obtain⟨gs,h1,h2⟩:=w.obj k a _ ek em;have hv:=Xs (k:=key) h2;have:=DGet.k (k:=key) h1;rw[<-Qr ry] at this;refine⟨_,this, ?_⟩;cases e:valU kvs key with
 |none=>rw[e] at hv; simp only at hv; rw[hv]; rfl
 |some u=>rw[e] at hv; obtain⟨x,hx,_⟩:=hv; rw[hx]; rfl
def DPutS(M:MM)(x y v:U)(R:MM->Prop):Prop:=∃k kvs key,x=.m k/\M[k]?=some (.dK kvs)/\y=keyU key/\kvs.length<sizeLine/\R (M.set k (.dK (putU kvs key v)))
def uDPut(ud uy uv:UE):US:=λE ρ M=>uv ρ M λv M1=>ud ρ M1 λx M2=>uy ρ M2 λy M3=>DPutS M3 x y v λM4=>E.nx ρ M4
theorem rd_din:uDIn neg ua ub ρ M Q=ua ρ M λy M1=>ub ρ M1 λx M2=>DInS neg M2 y x Q:=rfl
theorem rd_dput:uDPut ud uy uv E ρ M=uv ρ M λv M1=>ud ρ M1 λx M2=>uy ρ M2 λy M3=>DPutS M3 x y v λM4=>E.nx ρ M4:=rfl
theorem GV(h1:M[k]?=some (.dK kvs))(q:Q (.p (.bl (if neg then !(valU kvs (.inl x)).isSome else(valU kvs (.inl x)).isSome))) M):DInS neg M (.p (.int x)) (.m k) Q:=⟨k,kvs, .inl x,rfl,h1,rfl,q⟩
theorem Kp(h1:M[k]?=some (.dK kvs))(hz:kvs.length<sizeLine)(q:R (M.set k (.dK (putU kvs (.inl x) v)))):DPutS M (.m k) (.p (.int x)) v R:=⟨k,kvs, .inl x,rfl,h1,rfl,hz,q⟩
def IdxS(us:List U)(xs:List Str)(M:MM)(Q:UK):Prop:=∃(t:Str)(j:Nat),us=[.p (.str t)]/\xs[j]?=some t/\(∀m,m<j->xs[m]?≠some t)/\Q (.p (.int j)) M
def uIdxK(xs:List Str)(ul:UA):UE:=λρ M Q=>ul ρ M λus M1=>IdxS us xs M1 Q
theorem rd_idxK:uIdxK xs ul ρ M Q=ul ρ M λus M1=>IdxS us xs M1 Q:=rfl
end
section
def LRng2S(us:List U)(M:MM)(Q:UK):Prop:=∃(i j:Int)(n:Nat),us=[.p (.int i), .p (.int j)] /\ -(2^62)<=i/\j<2^62/\j=i+n/\n<=1000000/\Q (.p (.lst ((List.range n).map λk:Nat=>T.int (i+k)))) M
def uLRng2(ul:UA):UE:=λρ M Q=>ul ρ M λus M1=>LRng2S us M1 Q
theorem rd_lrng2:uLRng2 ul ρ M Q=ul ρ M λus M1=>LRng2S us M1 Q:=rfl
theorem gdIx(h:IxS it M x y Q):IxS it M x y Q:=h
theorem gdT2(h:T2S M u R):T2S M u R:=h
theorem gdT3(h:T3S M u R):T3S M u R:=h
theorem gdMe(h:MeS s ul ρ M o Q):MeS s ul ρ M o Q:=h
theorem gdLen(h:LenS it M us Q):LenS it M us Q:=h
end
section
abbrev FR(A:Addr->Prop)(ι:List Addr)(H:Hp):List (Str×V)->List (Str×U)->Prop:=Paired (λ(g:Str×V) (f:Str×U)=>g.1=f.1/\RepU A ι H g.2 f.2)
theorem Kb(r:FR A ι H gs fs)(e:fs.lookup f=some u):∃v,gs.lookup f=some v/\RepU A ι H v u:=by
 induction r with
 |nil=>cases e
 | @cons g h gs fs a _ ih =>
  obtain⟨g1,g2⟩:=g;obtain⟨h1,h2⟩:=h;obtain⟨e1,r1⟩:=a;simp only at e1 r1;subst e1;rw[UD] at e ⊢;cases hk:f==g1 with
  |true=>rw[hk] at e; cases e; exact⟨_,rfl,r1⟩
  |false=>rw[hk] at e; exact ih e
theorem ZU(r:FR A ι H gs fs)(e:fs.lookup f=none):gs.lookup f=none:=by
 induction r with
 |nil=>rfl
 | @cons g h gs fs a _ ih =>
  obtain⟨g1,g2⟩:=g;obtain⟨h1,h2⟩:=h;obtain⟨e1,r1⟩:=a;simp only at e1 r1;subst e1;rw[UD] at e ⊢;cases hk:f==g1 with
  |true=>rw[hk] at e; cases e
  |false=>rw[hk] at e; exact ih e
def Qh(f:Str)(v:U):List (Str×U)->List (Str×U)
 | []=>[(f,v)]
 | (g,x)::r=>if g=f then(g,v)::r else(g,x)::Qh f v r
theorem J3(r:FR A ι H gs fs)(rv:RepU A ι H v u):FR A ι H (putF f v gs) (Qh f u fs):=by
 induction r with
 |nil=>exact .cons ⟨rfl,rv⟩ .nil
 | @cons g h gs fs a rr ih =>
  obtain⟨g1,g2⟩:=g;obtain⟨h1,h2⟩:=h;obtain⟨e1,r1⟩:=a;simp only at e1 r1;subst e1;unfold putF Qh;by_cases hk:g1=f
  ·rw[if_pos hk,if_pos hk]; exact .cons ⟨rfl,rv⟩ rr
  ·rw[if_neg hk,if_neg hk]; exact .cons ⟨rfl,r1⟩ ih
def FldS(Ξ:PySem.W.Frag)(f:Str)(x:U)(M:MM)(Q:UK):Prop:=∃k C fs u,x=.m k/\M[k]?=some (.ins C fs)/\Cls Ξ C/\NoAttr Ξ C f/\fs.lookup f=some u/\Q u M
def uFld(Ξ:PySem.W.Frag)(ua:UE)(f:Str):UE:=λρ M Q=>ua ρ M λx M1=>FldS Ξ f x M1 Q
def JI(Ξ:PySem.W.Frag)(f:Str)(x y:U)(M:MM)(R:MM->Prop):Prop:=∃k C fs,x=.m k/\M[k]?=some (.ins C fs)/\Cls Ξ C/\NoAttr Ξ C f/\fs.length<1000/\R (M.set k (.ins C (Qh f y fs)))
def Xx(Ξ:PySem.W.Frag)(ua uv:UE)(f:Str):US:=λE ρ M=>uv ρ M λy M1=>ua ρ M1 λx M2=>JI Ξ f x y M2 λM3=>E.nx ρ M3
def qas(C:Addr)(m:Str)(x:U)(M:MM)(R:Prop):Prop:=∃k fs,x=.m k/\M[k]?=some (.ins C fs)/\fs.lookup m=none/\R
def uMeth(C:Addr)(m:Str)(G:List U->MM->UK->Prop)(ua:UE)(ul:UA):UE:=λρ M Q=>ua ρ M λx M1=>qas C m x M1 (ul ρ M1 λus M2=>G (x::us) M2 Q)
def uMake(C:Addr)(G:List U->MM->UK->Prop)(ul:UA):UE:=λρ M Q=>ul ρ M λus M1=>G (.m M1.length::us) (M1++[.ins C []]) λv M2=>v=.p .non/\Q (.m M1.length) M2
def RepNS(M:MM)(x y:U)(Q:UK):Prop:=∃xs k,x=.p (.lst xs)/\y=.p (.int k) /\ -(2^63)<=k/\k<2^63/\xs.length*k.toNat<=sizeLine/\Q (.m M.length) (M++[.lst ((List.replicate k.toNat xs).flatten.map U.p)])
def Xv(ua ub:UE):UE:=λρ M Q=>ua ρ M λx M1=>ub ρ M1 λy M2=>RepNS M2 x y Q
def SubS(M:MM)(o i u:U)(R:MM->Prop):Prop:=∃k us z j,o=.m k/\M[k]?=some (.lst us)/\i=.p (.int z)/\ixN us.length z=some j/\R (M.set k (.lst (us.set j u)))
theorem rd_sub:uSub ua ub u ρ M Q=ua ρ M λo M1=>ub ρ M1 λi M2=>SubS M2 o i u λM3=>Q ρ M3:=rfl
def uName4(i j k l:Nat):UG:=λu ρ M Q=>∃a b c d,v3 M u=some [a,b,c,d]/\Q ((((ρ.set i (some a)).set j (some b)).set k (some c)).set l (some d)) M
def T4S(M:MM)(u:U)(R:U->U->U->U->Prop):Prop:=∃a b c d,v3 M u=some [a,b,c,d]/\R a b c d
theorem rd_name4:uName4 i j k l u ρ M R=T4S M u λa b c d=>R ((((ρ.set i (some a)).set j (some b)).set k (some c)).set l (some d)) M:=rfl
theorem rd_t4:T4S M (.p (.tup [a,b,c,d])) R=R (.p a) (.p b) (.p c) (.p d):=propext ⟨λ⟨_,_,_,_,e,h⟩=>by cases e; exact h,λh=>⟨_,_,_,_,rfl,h⟩⟩
def P2S(us:List U)(R:U->U->Prop):Prop:=∃a b,us=[a,b]/\R a b
def P3S(us:List U)(R:U->U->U->Prop):Prop:=∃a b c,us=[a,b,c]/\R a b c
def uPar(i j:Nat)(ul:UA):US:=λE ρ M=>ul ρ M λus M1=>P2S us λa b=>E.nx ((ρ.set i (some a)).set j (some b)) M1
def uPar3(i j k:Nat)(ul:UA):US:=λE ρ M=>ul ρ M λus M1=>P3S us λa b c=>E.nx (((ρ.set i (some a)).set j (some b)).set k (some c)) M1
theorem rd_par:uPar i j ul E ρ M=ul ρ M λus M1=>P2S us λa b=>E.nx ((ρ.set i (some a)).set j (some b)) M1:=rfl
theorem rd_par3:uPar3 i j k ul E ρ M=ul ρ M λus M1=>P3S us λa b c=>E.nx (((ρ.set i (some a)).set j (some b)).set k (some c)) M1:=rfl
theorem rd_p2:P2S [a,b] R=R a b:=propext ⟨λ⟨_,_,e,h⟩=>by cases e; exact h,λh=>⟨a,b,rfl,h⟩⟩
theorem rd_p3:P3S [a,b,c] R=R a b c:=propext ⟨λ⟨_,_,_,e,h⟩=>by cases e; exact h,λh=>⟨a,b,c,rfl,h⟩⟩
theorem rd_fld:uFld Ξ ua f ρ M Q=ua ρ M λx M1=>FldS Ξ f x M1 Q:=rfl
theorem Y6:Xx Ξ ua uv f E ρ M=uv ρ M λy M1=>ua ρ M1 λx M2=>JI Ξ f x y M2 λM3=>E.nx ρ M3:=rfl
theorem rd_meth:uMeth C m G ua ul ρ M Q=ua ρ M λx M1=>qas C m x M1 (ul ρ M1 λus M2=>G (x::us) M2 Q):=rfl
theorem rd_make:uMake C G ul ρ M Q=ul ρ M λus M1=>G (.m M1.length::us) (M1++[.ins C []]) λv M2=>v=.p .non/\Q (.m M1.length) M2:=rfl
theorem Y3:Xv ua ub ρ M Q=ua ρ M λx M1=>ub ρ M1 λy M2=>RepNS M2 x y Q:=rfl
theorem vT(c:Cls Ξ C)(na:NoAttr Ξ C f)(e:M[k]?=some (.ins C fs))(lk:fs.lookup f=some u)(q:Q u M):FldS Ξ f (.m k) M Q:=⟨k,C,fs,u,rfl,e,c,na,lk,q⟩
theorem v6(c:Cls Ξ C)(na:NoAttr Ξ C f)(e:M[k]?=some (.ins C fs))(hz:fs.length<1000)(q:R (M.set k (.ins C (Qh f y fs)))):JI Ξ f (.m k) y M R:=⟨k,C,fs,rfl,e,c,na,hz,q⟩
theorem meth_at(e:M[k]?=some (.ins C fs))(lk:fs.lookup m=none)(q:R):qas C m (.m k) M R:=⟨k,fs,rfl,e,lk,q⟩
theorem repN_at(k0 : -(2^63)<=k)(k1:k<2^63)(hz:xs.length*k.toNat<=sizeLine)(q:Q (.m M.length) (M++[.lst ((List.replicate k.toNat xs).flatten.map U.p)])):RepNS M (.p (.lst xs)) (.p (.int k)) Q:=⟨xs,k,rfl,rfl,k0,k1,hz,q⟩
end
section
def gNo:List U->MM->UK->Prop:=λ_ _ _=>False
theorem FnOk.no:FnOk P w Ξ mg base CX0 k f fd ps (spU gNo) :=
 ⟨λvs H Q E ⟨_,_,_,_,_,_,_,h,_⟩=>h.elim,λ_ _ _ _ _ _ _ _ _ _ _ _ _ ⟨_,_,_,_,_,_,_,h,_⟩=>h.elim⟩
end
structure ZE(a:TE)(b:UE):Prop where
 h:LE a b
structure ZT(a:TT)(b:UT):Prop where
 h:LT a b
structure ZA(n:Nat)(a:TA)(b:UA):Prop where
 h:LA n a b
structure ZO(a:TO)(b:UO):Prop where
 h:LO a b
structure ZI(a:TI)(b:UI):Prop where
 h:LI a b
structure ZG(a:TG)(b:UG):Prop where
 h:LG a b
structure ZX(bs:List Bool)(n:Nat)(a:TG)(b:UG):Prop where
 h:LGx bs n a b
structure ZS(a:TS)(b:US):Prop where
 h:LS a b
structure ZP(a:List (TE×TE))(b:List (UE×UE)):Prop where
 h:LPs a b
theorem cp_nil:ZP [] []:=⟨.nil⟩
theorem QF(a:ZE tk uk)(b:ZE tv uv)(c:ZP ts us):ZP ((tk,tv)::ts) ((uk,uv)::us):=⟨.cons a.h b.h c.h⟩
theorem ce_disp(h:ZP trs urs):ZE (tDisp trs) (uDisp urs):=⟨by
 intro A ι σ H ρ M Qu Q w e q k p hp;have w1:Wd A (ι++[p]) (upd H p (.dK [])) (M++[.dK []]):=w.push hp ⟨[],upd_same, .nil⟩;have l1:Le ι H (ι++[p]) (upd H p (.dK [])):=.push hp;refine lps_run h.h A _ σ _ ρ _ _ _ w1 (e.le l1) q λus M2 ι2 vs H2 l2 w2 r2 q2=>?_;obtain⟨hm,kvs,rfl,hl,q2⟩:=q2;have ep:ι2[M.length]?=some p:=by
  obtain⟨nn,rfl,_⟩:=l2.ext;rw[Ui (by rw[Uj,w.len]; simp), <-w.len];exact xy
 obtain⟨gs0,h1,h2⟩:=w2.obj _ p _ ep hm;cases h2;obtain⟨gs,rfl,rk⟩:=Gh r2;have hmem:=Uh ep;refine⟨h1,gs,rfl,by rw[rk.len]; exact hl,k _ _ ι2 _ _ ((l1.trans l2).trans (.put hmem)) (w2.put (mo:=.dK (xK [] kvs)) ep ⟨_,upd_same, ?_⟩) (.m ep) q2⟩;exact Paired.mapP (W6 rk .nil) λ_ _ q=>⟨q.1,q.2.le (.put hmem)⟩⟩
section
theorem qb(i:Nat):ZE (tVar i) (uVar i):=⟨λA ι σ H ρ M Qu Q w e ⟨u,h,q⟩ k=>by
 obtain⟨v,h1,h2⟩:=e.get h;exact⟨v,h1,k u M ι v H (.refl _ _) w h2 q⟩⟩
end
section
theorem ce_c(h:Sc v t):ZE (tC v) (uC t):=⟨λA ι σ H ρ M Qu Q w e q k=>k _ M ι v H (.refl _ _) w (.p h.rep) q⟩
end
section
theorem qd  : ZA 0 tNil uNil:=⟨la_nil ⟩
end
section
theorem qa(ha:ZE ta ua)(hl:ZA n tl ul):ZA (n+1) (zS ta tl) (uCons ua ul):=⟨λA ι σ H ρ M Qu Q w e q k =>
 ha.h A ι σ H ρ M _ _ w e q λx M1 ι1 v H1 l1 w1 r1 q1=>hl.h A ι1 σ H1 ρ M1 _ _ w1 (e.le l1) q1 λxs M2 ι2 vs H2 l2 w2 hn r2 q2 =>
  k (x::xs) M2 ι2 (v::vs) H2 (l1.trans l2) w2 (by rw[Ul,hn]) (.cons (r1.le l2) r2) q2⟩
end
section
theorem qj(h:OpL r s)(ha:ZE ta ua)(hb:ZE tb ub):ZE (tOp r ta tb) (uOp s ua ub):=⟨λA ι σ H ρ M Qu Q w e q k =>
 ha.h A ι σ H ρ M _ _ w e q λx M1 ι1 v H1 l1 w1 r1 q1=>hb.h A ι1 σ H1 ρ M1 _ _ w1 (e.le l1) q1 λy M2 ι2 v2 H2 l2 w2 r2 ⟨a,b,e1,e2,q2⟩ =>
  h A ι2 H2 M2 v v2 a b _ Q w2 ((r1.le l2).sn w2 e1) (r2.sn w2 e2) q2 λt ι3 z H3 l3 w3 r3 q3=>k _ M2 ι3 z H3 ((l1.trans l2).trans l3) w3 (.p r3) q3⟩
end
section
theorem qae(ha:ZE ta ua):ZE (tOp (λx y H Q=>y=.non/\Q (.bl (decide (x=.non))) H) ta (tC .non)) (uIsN false ua):=⟨λA ι σ H ρ M Qu Q w e q k =>
 ha.h A ι σ H ρ M _ _ w e q λx M1 ι1 v H1 l1 w1 r1 q1=>⟨rfl,by rw[Z2 r1]; exact k _ M1 ι1 _ H1 l1 w1 (.p (.bl _)) q1⟩⟩
end
section
theorem ce_notN(ha:ZE ta ua):ZE (tOp (λx y H Q=>y=.non/\Q (.bl (!decide (x=.non))) H) ta (tC .non)) (uIsN true ua):=⟨λA ι σ H ρ M Qu Q w e q k =>
 ha.h A ι σ H ρ M _ _ w e q λx M1 ι1 v H1 l1 w1 r1 q1=>⟨rfl,by rw[Z2 r1]; exact k _ M1 ι1 _ H1 l1 w1 (.p (.bl _)) q1⟩⟩
end
section
theorem ce_neg(ha:ZE ta ua):ZE (tUn (rU λi=>.int (-i)) ta) (uNeg ua):=⟨λA ι σ H ρ M Qu Q w e q k =>
 ha.h A ι σ H ρ M _ _ w e q λx M1 ι1 v H1 l1 w1 r1 ⟨i,ex,q1⟩=>by
  subst ex;cases r1 with
  |p r=>cases r; exact⟨i,rfl,k _ M1 ι1 _ H1 l1 w1 (.p (.int _)) q1⟩⟩
end
section
theorem ct_b(ha:ZE ta ua):ZT (tB ta) (uB ua):=⟨lt_b ha.h⟩
end
section
theorem qC(ha:ZE ta ua):ZT (Ve ta) (uB ua):=⟨lt_b ha.h⟩
end
section
theorem ct_tru(ha:ZE ta ua):ZT (tTru Ξ ta) (uTru ua):=⟨λA ι σ H ρ M Qu Q w e q k =>
 ha.h A ι σ H ρ M _ _ w e q λx M1 ι1 v H1 l1 w1 r1 ⟨b,eb,q1⟩=>⟨b,tru_rep w1 r1 eb,k b M1 ι1 H1 l1 w1 q1⟩⟩
end
section
theorem G6(ha:ZT tt ut)(hb:ZT tt' ut'):ZT (tAnd tt tt') (uAnd ut ut'):=⟨λA ι σ H ρ M Qu Q w e q k =>
 ha.h A ι σ H ρ M _ _ w e q λc M1 ι1 H1 l1 w1 q1=>by
  cases c with
  |false=>exact k false M1 ι1 H1 l1 w1 q1
  |true=>exact hb.h A ι1 σ H1 ρ M1 _ _ w1 (e.le l1) q1 λb M2 ι2 H2 l2 w2 q2=>k b M2 ι2 H2 (l1.trans l2) w2 q2⟩
end
section
theorem G5(ha:ZT tt ut)(hb:ZT tt' ut'):ZT (tOr tt tt') (uOr ut ut'):=⟨λA ι σ H ρ M Qu Q w e q k =>
 ha.h A ι σ H ρ M _ _ w e q λc M1 ι1 H1 l1 w1 q1=>by
  cases c with
  |true=>exact k true M1 ι1 H1 l1 w1 q1
  |false=>exact hb.h A ι1 σ H1 ρ M1 _ _ w1 (e.le l1) q1 λb M2 ι2 H2 l2 w2 q2=>k b M2 ι2 H2 (l1.trans l2) w2 q2⟩
end
section
theorem ct_not(ha:ZT tt ut):ZT (tNot tt) (uNot ut):=⟨λA ι σ H ρ M Qu Q w e q k =>
 ha.h A ι σ H ρ M _ _ w e q λc M1 ι1 H1 l1 w1 q1=>k _ M1 ι1 H1 l1 w1 q1⟩
end
section
theorem j3(ha:ZE ta ua)(hb:ZE tb ub):ZE (Zo ta tb) (uAndV ua ub):=⟨λA ι σ H ρ M Qu Q w e q k =>
 ha.h A ι σ H ρ M _ _ w e q λx M1 ι1 v H1 l1 w1 r1 ⟨c,ex,q1⟩=>by
  subst ex;cases r1 with
  |p r =>
   cases r;refine⟨c,rfl, ?_⟩;cases c with
   |false=>exact k _ M1 ι1 _ H1 l1 w1 (.p (.bl _)) q1
   |true=>exact hb.h A ι1 σ H1 ρ M1 _ _ w1 (e.le l1) q1 λb M2 ι2 v2 H2 l2 w2 r2 q2=>k b M2 ι2 v2 H2 (l1.trans l2) w2 r2 q2⟩
end
section
theorem Zd(hc:ZT tt ut)(ha:ZE ta ua)(hb:ZE tb ub):ZE (tIf tt ta tb) (uIf ut ua ub):=⟨λA ι σ H ρ M Qu Q w e q k =>
 hc.h A ι σ H ρ M _ _ w e q λc M1 ι1 H1 l1 w1 q1=>by
  cases c with
  |true=>exact ha.h A ι1 σ H1 ρ M1 _ _ w1 (e.le l1) q1 λb M2 ι2 v2 H2 l2 w2 r2 q2=>k b M2 ι2 v2 H2 (l1.trans l2) w2 r2 q2
  |false=>exact hb.h A ι1 σ H1 ρ M1 _ _ w1 (e.le l1) q1 λb M2 ι2 v2 H2 l2 w2 r2 q2=>k b M2 ι2 v2 H2 (l1.trans l2) w2 r2 q2⟩
end
section
theorem KC(h:OpL r s)(h':OpL r' s')(ha:ZE ta ua)(hb:ZE tb ub)(hc:ZE tc uc):ZE (j6 r r' ta tb tc) (JP s s' ua ub uc):=⟨by
 intro A ι σ H ρ M Qu Q w e q k;refine ha.h A ι σ H ρ M _ _ w e q λx M1 ι1 v H1 l1 w1 r1 q1=>?_;refine hb.h A ι1 σ H1 ρ M1 _ _ w1 (e.le l1) q1 λy M2 ι2 v2 H2 l2 w2 r2 q2=>?_;obtain⟨a,b,e1,e2,q2⟩:=q2;refine h A ι2 H2 M2 v v2 a b _ _ w2 ((r1.le l2).sn w2 e1) (r2.sn w2 e2) q2 λt ι3 z H3 l3 w3 r3 q3=>?_;obtain⟨kk,et,q3⟩:=q3;subst et;cases r3;refine⟨kk,rfl, ?_⟩;cases kk with
 |false=>exact k _ M2 ι3 _ H3 ((l1.trans l2).trans l3) w3 (.p (.bl _)) q3
 |true =>
  refine hc.h A ι3 σ H3 ρ M2 _ _ w3 (e.le ((l1.trans l2).trans l3)) q3 λc M4 ι4 v4 H4 l4 w4 r4 q4=>?_;obtain⟨b',c',e3,e4,q4⟩:=q4;exact h' A ι4 H4 M4 v2 v4 b' c' _ Q w4 ((r2.le (l3.trans l4)).sn w4 e3) (r4.sn w4 e4) q4 λt ι5 z H5 l5 w5 r5 q5=>k _ M4 ι5 z H5 ((((l1.trans l2).trans l3).trans l4).trans l5) w5 (.p r5) q5⟩
end
section
theorem qT(ha:ZA n tl ul)(hn:n<=1000:=by decide):ZE (tTup tl) (uTup ul):=⟨λA ι σ H ρ M Qu Q w e q k =>
 ha.h A ι σ H ρ M _ _ w e q λus M1 ι1 vs H1 l1 w1 hl r1 ⟨ts,et,q1⟩=>by
  have r2:=r1;rw[zx et] at r2;exact⟨by rw[r1.len,hl]; exact U1 (vj hn),λp hp=>k _ M1 ι1 _ _ (l1.trans (.fresh hp)) (w1.fresh hp) (.p (GP w1 hp r2.pures)) q1⟩⟩
end
section
theorem vn(ha:ZA n tl ul)(hn:n<=1000:=by decide):ZE (tLst tl) (uLst ul):=⟨λA ι σ H ρ M Qu Q w e q k =>
 ha.h A ι σ H ρ M _ _ w e q λus M1 ι1 vs H1 l1 w1 hl r1 ⟨ts,et,q1⟩=>by
  have r2:=r1;rw[zx et] at r2;exact⟨by rw[r1.len,hl]; exact U1 (vj hn),λp hp=>k _ M1 ι1 _ _ (l1.trans (.fresh hp)) (w1.fresh hp) (.p (zA w1 hp r2.pures)) q1⟩⟩
end
section
theorem ju(ha:ZA n tl ul)(hn:n<=1000:=by decide):ZE (tLst tl) (uNew ul):=⟨λA ι σ H ρ M Qu Q w e q k =>
 ha.h A ι σ H ρ M _ _ w e q λus M1 ι1 vs H1 l1 w1 hl r1 q1=>⟨by rw[r1.len,hl]; exact U1 (vj hn),λp hp=>k _ _ _ _ _ (l1.trans (.push hp)) (zG w1 hp r1).1 (zG w1 hp r1).2 q1⟩⟩
end
section
theorem ce_newT(ha:ZA n tl ul)(hn:n<=1000:=by decide):ZE (tTup tl) (uNewT ul):=⟨λA ι σ H ρ M Qu Q w e q k =>
 ha.h A ι σ H ρ M _ _ w e q λus M1 ι1 vs H1 l1 w1 hl r1 q1=>⟨by rw[r1.len,hl]; exact U1 (vj hn),λp hp=>k _ _ _ _ _ (l1.trans (.push hp)) (WU w1 hp r1).1 (WU w1 hp r1).2 q1⟩⟩
end
section
theorem vE(ha:ZE ta ua)(hb:ZE tb ub):ZE (tOp (rIxL Ξ) ta tb) (uIx vg ua ub):=⟨λA ι σ H ρ M Qu Q w e q k =>
 ha.h A ι σ H ρ M _ _ w e q λx M1 ι1 v H1 l1 w1 r1 q1=>hb.h A ι1 σ H1 ρ M1 _ _ w1 (e.le l1) q1 λy M2 ι2 v2 H2 l2 w2 r2 ⟨us,i,z,e1,e2,e3,q2⟩=>by
  subst e2;obtain⟨p,vs,rfl,h1,h2⟩:=vM w2 (r1.le l2) e1;obtain⟨x',h3,h4⟩:=qan h2 e3;cases r2 with
  |p r=>cases r; exact⟨p,vs,i,x',rfl,rfl,SqL.of h1,h3,k z M2 ι2 x' H2 (l1.trans l2) w2 h4 q2⟩⟩
end
section
theorem vi(ha:ZE ta ua)(hb:ZE tb ub):ZE (tOp (rIxT Ξ) ta tb) (uIx v3 ua ub):=⟨λA ι σ H ρ M Qu Q w e q k =>
 ha.h A ι σ H ρ M _ _ w e q λx M1 ι1 v H1 l1 w1 r1 q1=>hb.h A ι1 σ H1 ρ M1 _ _ w1 (e.le l1) q1 λy M2 ι2 v2 H2 l2 w2 r2 ⟨us,i,z,e1,e2,e3,q2⟩=>by
  subst e2;obtain⟨p,vs,rfl,h1,h2⟩:=zz w2 (r1.le l2) e1;obtain⟨x',h3,h4⟩:=qan h2 e3;cases r2 with
  |p r=>cases r; exact⟨p,vs,i,x',rfl,rfl,SqT.of h1,h3,k z M2 ι2 x' H2 (l1.trans l2) w2 h4 q2⟩⟩
end
section
theorem zB(h:CbL r s)(ha:ZA n tl ul):ZE (tCB r tl) (uCb s ul):=⟨λA ι σ H ρ M Qu Q w e q k =>
 ha.h A ι σ H ρ M _ _ w e q λus M1 ι1 vs H1 l1 w1 hl r1 ⟨ts,e1,q1⟩=>h A ι1 H1 M1 vs ts _ Q w1 (r1.sns w1 e1) q1 λt ι2 z H2 l2 w2 r2 q2=>k _ M1 ι2 z H2 (l1.trans l2) w2 (.p r2) q2⟩
end
section
theorem xo(ha:ZA n tl ul):ZE (tCB rLenL tl) (uLen vg ul):=⟨λA ι σ H ρ M Qu Q w e q k =>
 ha.h A ι σ H ρ M _ _ w e q λus M1 ι1 vs H1 l1 w1 hl r1 ⟨x,ys,e1,e2,q1⟩=>by
  subst e1;cases r1 with
  |cons r q =>
   cases q;obtain⟨p,zs,rfl,h1,h2⟩:=vM w1 r e2;exact⟨p,zs,rfl,h1,by rw[h2.len]; exact k _ M1 ι1 _ H1 l1 w1 (.p (.int _)) q1⟩⟩
end
section
theorem ce_bits(ha:ZE ta ua):ZE (tBM0 Ξ "int" rBits ta) (uBits ua):=⟨λA ι σ H ρ M Qu Q w e q k =>
 ha.h A ι σ H ρ M _ _ w e q λx M1 ι1 v H1 l1 w1 r1 ⟨i,ex,q1⟩=>by
  subst ex;cases r1 with
  |p r=>cases r; exact⟨rfl,i,rfl,rfl,k _ M1 ι1 _ H1 l1 w1 (.p (.int _)) q1⟩⟩
end
section
theorem Za  : ZO zR Xw:=⟨lo_none ⟩
end
section
theorem v7(ha:ZE ta ua):ZO (Zm ta) (uPart ua):=⟨λA ι σ H ρ M Qu Q w e q k =>
 ha.h A ι σ H ρ M _ _ w e q λx M1 ι1 v H1 l1 w1 r1 ⟨i,ex,q1⟩=>by
  subst ex;cases r1 with
  |p r=>cases r; exact⟨i,rfl,k _ M1 ι1 H1 l1 w1 q1⟩⟩
end
section
theorem Zc(ha:ZE ta ua)(h1:ZO t1 u1)(h2:ZO t2 u2):ZE (tSl (rSlL Ξ) ta t1 t2) (uSl ua u1 u2):=⟨λA ι σ H ρ M Qu Q w e q k =>
 ha.h A ι σ H ρ M _ _ w e q λx M1 ι1 v H1 l1 w1 r1 q1=>h1.h A ι1 σ H1 ρ M1 _ _ w1 (e.le l1) q1 λlo M2 ι2 H2 l2 w2 q2=>h2.h A ι2 σ H2 ρ M2 _ _ w2 (e.le (l1.trans l2)) q2 λhi M3 ι3 H3 l3 w3 ⟨ts,es,q3⟩=>by
  obtain⟨p,vs,rfl,h4,h5⟩:=((r1.le (l2.trans l3)).sn w3 es).lst_inv;exact⟨p,vs,rfl,SqL.of h4,λr hr=>k _ M3 ι3 _ _ (((l1.trans l2).trans l3).trans (.fresh hr)) (w3.fresh hr) (.p (zA w3 hr (cut_rep h5))) q3⟩⟩
end
section
theorem zo(ha:ZE ta ua):ZI (Yc Ξ ta) (uIter ua):=⟨λA ι σ H ρ M Qu R w e q k =>
 ha.h A ι σ H ρ M _ _ w e q λx M1 ι1 v H1 l1 w1 r1 ⟨us,eu,q1⟩=>by
  obtain⟨p,vs,rfl,h1,h2⟩:=vM w1 r1 eu;refine⟨p,rfl,⟨vs,SqL.of h1⟩,k _ M1 ι1 _ H1 l1 w1 ?_ q1⟩;intro A' ι2 H2 M2 i l w2 ok;obtain⟨p',vs2,e2,h3,h4⟩:=vM w2 (r1.lea l) ok;cases e2;have hl:=h4.len;refine⟨λhi=>?_,λhi=>⟨vs2,SqL.of h3,by rw[hl]; exact D7 hi.symm⟩⟩;have hx:vs2[i]?=some (vs2[i]'(by rw[hl]; exact hi)):=Uf _;refine⟨⟨vs2,_,SqL.of h3,hx⟩,λx H' y=>?_⟩;obtain⟨rfl,y⟩:=y;have hx2:=y vs2 (SqL.of h3);obtain⟨z,hz,rz⟩:=Paired.getL h4 hx2;exact⟨z,hz, .refl _ _,w2,rz⟩⟩
end
section
theorem ci_rev(ha:ZA n tl ul):ZI (iRev Ξ tl) (uRev ul):=⟨λA ι σ H ρ M Qu R w e q k =>
 ha.h A ι σ H ρ M _ _ w e q λxs M1 ι1 vs1 H1 l1 w1 hn r0 ⟨x,us,ex,eu,q1⟩=>by
  subst ex;cases r0 with
  |cons r1 r0 =>
  cases r0;obtain⟨p,vs,rfl,h1,h2⟩:=vM w1 r1 eu;refine⟨p,vs,rfl,SqL.of h1,k _ M1 ι1 _ H1 l1 w1 ?_ q1⟩;intro A' ι2 H2 M2 i l w2 ok;obtain⟨p',vs2,e2,h3,h4⟩:=vM w2 (r1.lea l) ok;cases e2;have hl:=h4.len;have hl0:=h2.len;refine⟨λhi=>?_,λhi=>by show vs.length=i; rw[hl0]; exact hi.symm⟩;refine⟨⟨by rw[hl0]; exact hi,vs2,SqL.of h3,by rw[hl,hl0]⟩,λx H' y=>?_⟩;obtain⟨rfl,y⟩:=y;have hx2:=y vs2 (SqL.of h3);obtain⟨z,hz,rz⟩:=Paired.getL h4 hx2;exact⟨z,by rw[<-hl0]; exact hz, .refl _ _,w2,rz⟩⟩
end
section
theorem JD(ha:ZA n tl ul):ZI (Gv tl) (uRng1 ul):=⟨λA ι σ H ρ M Qu R w e q k =>
 ha.h A ι σ H ρ M _ _ w e q λxs M1 ι1 vs1 H1 l1 w1 hn r0 ⟨j,ex,j0,j1,q1⟩=>by
  subst ex;cases r0 with
  |cons r1 r0 =>
  cases r0;cases r1 with
  |p r =>
  cases r;have:=itr_ok (A:=A) (ι:=ι1) (H:=H1) (lo:=0) (n:=j.toNat);simp only[Bj] at this;exact⟨j,rfl,j0,j1,k _ M1 ι1 _ H1 l1 w1 this q1⟩⟩
end
section
theorem qk(i:Nat):ZG (qV i) (Yt i):=⟨λA ι σ H ρ M v u Qu Q w e r q k=>k _ M ι _ H (.refl _ _) w (e.put i r) q⟩
end
section
theorem Zb(i j:Nat):ZG (gTup Ξ 2 (vF (qV i) (vF (qV j) gNil))) (Ys i j):=⟨λA ι σ H ρ M v u Qu Q w e r ⟨a,b,ei,q⟩ k=>by
 obtain⟨p,vs,rfl,h1,h2⟩:=zz w r ei;obtain⟨x,y,rfl,r1,r2⟩:=rep2 h2;exact Kh h1 (k _ M ι _ H (.refl _ _) w ((e.put i r1).put j r2) q)⟩
end
section
theorem cg_name3(i j l:Nat):ZG (gTup Ξ 3 (vF (qV i) (vF (qV j) (vF (qV l) gNil)))) (Zh i j l):=⟨λA ι σ H ρ M v u Qu Q w e r ⟨a,b,c,ei,q⟩ k=>by
 obtain⟨p,vs,rfl,h1,h2⟩:=zz w r ei;obtain⟨x,y,z,rfl,r1,r2,r3⟩:=rep3 h2;exact VS h1 (k _ M ι _ H (.refl _ _) w (((e.put i r1).put j r2).put l r3) q)⟩
end
section
theorem qab(ha:ZE ta ua)(hb:ZE tb ub):ZG (gSub ta tb rSetL) (uSub ua ub):=⟨λA ι σ H ρ M v u Qu Q w e r q k =>
 ha.h A ι σ H ρ M _ _ w e q λo M1 ι1 v1 H1 l1 w1 r1 q1=>hb.h A ι1 σ H1 ρ M1 _ _ w1 (e.le l1) q1 λi M2 ι2 v2 H2 l2 w2 r2 ⟨kk,us,z,j,eo,em,ei,ej,q2⟩=>by
  subst eo ei;cases r2 with
  |p r2 =>
  cases r2;have r1':=r1.le l2;cases r1' with
  |m ek =>
  obtain⟨vs,h1,h2⟩:=w2.obj kk _ _ ek em;have hm:=Uh ek;refine⟨_,vs,z,j,rfl,rfl,h1,by rw[h2.len]; exact ej,k _ _ ι2 _ _ ((l1.trans l2).trans (.put hm)) (w2.put (mo:=.lst (us.set j u)) ek ⟨_,upd_same, ?_⟩) (e.le ((l1.trans l2).trans (.put hm))) q2⟩;exact RepUs.le (.put hm) (Paired.put (r.le (l1.trans l2)) j h2)⟩
end
section
theorem zI(i:Nat)(h:xH bs n i=true:=by rfl):ZX bs n (qV i) (Yt i):=⟨λA ι σ H ρ M v u Qu Q hl w e r q k =>
 k _ _ (e.put i r) ((ExtS.refl _).put (jo hl h)) (by simp) q⟩
end
section
theorem Xf(i j l:Nat)(h:xH bs n i=true:=by rfl)(h2:xH bs n j=true:=by rfl)(h3:xH bs n l=true:=by rfl):ZX bs n (gTup Ξ 3 (vF (qV i) (vF (qV j) (vF (qV l) gNil)))) (Zh i j l):=⟨λA ι σ H ρ M v u Qu Q hl w e r ⟨a,b,c,ei,q⟩ k=>by
 obtain⟨p,vs,rfl,h1,hh⟩:=zz w r ei;obtain⟨x,y,z,rfl,r1,r2,r3⟩:=rep3 hh;exact VS h1 (k _ _ (((e.put i r1).put j r2).put l r3) ((((ExtS.refl _).put (jo hl h)).put (jo hl h2)).put (jo hl h3)) (by simp) q)⟩
end
section
theorem G4:ZT tYes (λ_ M Q=>Q true M):=⟨lt_yes ⟩
end
section
theorem xp(hi:ZI wi ui)(hg:ZX bs n g ug)(ht:ZT tt ut)(he:ZE te ue):ZE (xO wi bs n g tt te) (uComp ui bs n ug ut ue):=⟨by
 intro A ι σ H ρ M Qu Q w e q k;refine hi.h A ι σ H ρ M _ _ w e q λit M1 ι1 J H1 l1 w1 hJ q1 acc hacc=>?_;obtain⟨hlen,hsz,Iv,I0,It,Id⟩:=q1;have hσ:σ.length=bs.length:=by rw[<-hlen]; exact e.len
 have e1:=e.le l1;have na:¬Av A ι1 acc:=w1.nA hacc;have key:∀ι2 H2,Le ι1 H1 ι2 H2->(∀x∈ι2,¬(A x\/x=acc))->Lea A ι1 H1 (λx=>A x\/x=acc) ι2 H2:=λι2 H2 l h=>by
  refine⟨let⟨n,e,_⟩:=l.ext; ⟨n,e⟩,λx o hx ex=>?_,l.xd⟩;obtain⟨a1,a2⟩:=l.av hx ex;refine⟨a1,λz=>?_⟩;rcases z with(z|z)|z
  ·exact a2 (.inl z)
  ·rw[z,hacc] at ex; cases ex
  ·exact a2 (.inr z)
 refine⟨λi m H2=>m=it.n-i/\i<=it.n/\∃ι2 M2 at' ys,Le ι1 H1 ι2 H2/\Wd (λx=>A x\/x=acc) ι2 H2 M2/\H2 acc=some (.lst ys)/\RepTs (Av (λx=>A x\/x=acc) ι2) H2 ys at'/\at'.length<=i/\Iv i at' M2,
  ⟨it.n,by simp,UY _,ι1,M1, [], [], .fresh hacc,w1.addA hacc,upd_same, .nil,Uk _,I0⟩, ?_⟩
 rintro i m H2 ⟨rfl,hin,ι2,M2,at',ys,l2,w2,hys,rys,hat,I2⟩;have lea:=key ι2 H2 l2 w2.na;by_cases hlt:i<it.n
 ·obtain⟨ok,step⟩:=It i at' M2 hlt hat I2
  obtain⟨jgo,jy⟩:=(hJ _ ι2 H2 M2 i lea w2 ok).1 hlt;refine .inr ⟨jgo,λH'=>∃ι2 M2 at' ys,Le ι1 H1 ι2 H'/\Wd (λx=>A x\/x=acc) ι2 H' M2/\H' acc=some (.lst ys)/\RepTs (Av (λx=>A x\/x=acc) ι2) H' ys at'/\at'.length<=i+1/\Iv (i+1) at' M2,λH' h=>⟨it.n-(i+1),by lia,rfl,hlt,h⟩,λx H3 y=>?_⟩;obtain⟨u,hu,l3,w3,r3⟩:=jy x H3 y;have l13:=l2.trans l3;have nacc:∀{ι':List Addr}{H':Hp}{M':MM},Wd (λx=>A x\/x=acc) ι' H' M'->acc∉ι':=λw z=>w.na acc z (.inr rfl);have ys3:H3 acc=some (.lst ys):=l3.fr _ _ hys (nacc w2);have env3:EnvR (λx=>A x\/x=acc) ι2 H3 (zr bs n σ) (K3 bs n ρ):=(e1.mask).lea (key ι2 H3 l13 w3.na);refine hg.h _ ι2 σ H3 _ M2 x u _ _ hσ w3 env3 r3 (step u hu) λρ4 σ4 e4 x4 len4 q4=>⟨⟨x4,len4⟩, ?_⟩;refine ht.h _ ι2 σ4 H3 ρ4 M2 _ _ w3 e4 q4 λb M5 ι5 H5 l5 w5 q5=>?_;have ys5:H5 acc=some (.lst ys):=l5.fr _ _ ys3 (nacc w3);have rys5:RepTs (Av (λx=>A x\/x=acc) ι5) H5 ys at':=Paired.mapP rys λ_ _ q=>(q.le l3).le l5;cases b with
  |false=>exact⟨ι5,M5,at',ys,l13.trans l5,w5,ys5,rys5,Rj hat,q5⟩
  |true =>
   refine he.h _ ι5 σ4 H5 ρ4 M5 _ _ w5 (e4.le l5) q5 λz M6 ι6 zv H6 l6 w6 r6 q6=>?_;obtain⟨t,rfl,q6⟩:=q6;have ys6:H6 acc=some (.lst ys):=l6.fr _ _ ys5 (nacc w5);refine⟨ys,ys6, ?_,ι6,M6,at'++[t],ys++[zv],((l13.trans l5).trans l6).updF hacc,(w6.updA (.inr rfl) ys6).2,upd_same, ?_,by rw[Uj,Dd]; lia,q6⟩
   ·rw[rys.len]; lia
   ·have hl:=(w6.updA (o:=.lst (ys++[zv])) (.inr rfl) ys6).1
    cases r6 with
    |p r6=>exact Paired.app (Paired.mapP rys5 λ_ _ q=>(q.le l6).mono hl.av) (.cons (r6.mono hl.av) .nil)
 ·have ei:i=it.n:=by lia
  subst ei;obtain⟨ok,fin⟩:=Id at' M2 I2;refine .inl ⟨(hJ _ ι2 H2 M2 _ lea w2 ok).2 rfl,k _ M2 ι2 _ H2 (l1.trans l2) (w2.lessA λx hx=>.inl hx) (.p (.lstP (λz=>?_) hys (Paired.mapP rys λ_ _ q=>q.mono λx o hx ex=>⟨ex,λz=>hx (z.elim (λz=>.inl (.inl z)) .inr)⟩))) fin⟩;rcases z with z|z
  ·exact na (.inl z)
  ·exact w2.na acc z (.inr rfl)⟩
end
section
theorem qM  : ZS Vf uNext:=⟨ls_next ⟩
end
section
theorem qh(ha:ZS ts us)(hb:ZS ts' us'):ZS (tSeq ts ts') (uSeq us us'):=⟨λA ι σ H ρ M D E w e r q =>
 ha.h A ι σ H ρ M _ { E with nx:=us' E } w e ⟨λι1 σ1 H1 ρ1 M1 l w1 e1 q1=>hb.h A ι1 σ1 H1 ρ1 M1 D E w1 e1 (r.le l) q1,r.rt,r.bk,r.ct⟩ q⟩
end
section
theorem vR(ha:ZE ta ua):ZS (Zn ta) (uDrop ua):=⟨λA ι σ H ρ M D E w e r q =>
 ha.h A ι σ H ρ M _ _ w e q λx M1 ι1 v H1 l1 w1 r1 q1=>r.nx ι1 σ H1 ρ M1 l1 w1 (e.le l1) q1⟩
end
section
theorem qB(ha:ZE ta ua):ZS (tRet ta) (uRet ua):=⟨λA ι σ H ρ M D E w e r q =>
 ha.h A ι σ H ρ M _ _ w e q λx M1 ι1 v H1 l1 w1 r1 q1=>r.rt ι1 v H1 x M1 l1 w1 r1 q1⟩
end
section
theorem cs_retN  : ZS Zl uRetN:=⟨ls_retN ⟩
end
section
theorem vz(hc:ZT tt ut)(ha:ZS ts us)(hb:ZS ts' us'):ZS (tIfS tt ts ts') (uIfS ut us us'):=⟨λA ι σ H ρ M D E w e r q =>
 hc.h A ι σ H ρ M _ _ w e q λc M1 ι1 H1 l1 w1 q1=>by
  cases c with
  |true=>exact ha.h A ι1 σ H1 ρ M1 D E w1 (e.le l1) (r.le l1) q1
  |false=>exact hb.h A ι1 σ H1 ρ M1 D E w1 (e.le l1) (r.le l1) q1⟩
end
section
theorem qx(ha:ZE ta ua)(hg:ZG g ug):ZS (tAsg ta g) (uAsg ua ug):=⟨λA ι σ H ρ M D E w e r q =>
 ha.h A ι σ H ρ M _ _ w e q λx M1 ι1 v H1 l1 w1 r1 q1=>hg.h A ι1 σ H1 ρ M1 v x _ _ w1 (e.le l1) r1 q1 λρ2 M2 ι2 σ2 H2 l2 w2 e2 q2=>r.nx ι2 σ2 H2 ρ2 M2 (l1.trans l2) w2 e2 q2⟩
end
section
theorem cs_aug(ha:ZE ta ua):ZS (tAug i ta (ipI f)) (uAug i f ua):=⟨λA ι σ H ρ M D E w e r ⟨a,ea,q⟩=>by
 obtain⟨x,h1,h2⟩:=e.get ea;cases h2 with
 |p h2 =>
 cases h2;refine⟨.int a,h1,ha.h A ι σ H ρ M _ _ w e q λy M1 ι1 v H1 l1 w1 r1 q1=>?_⟩;obtain⟨b,rfl,q1⟩:=q1;cases r1 with
 |p r1 =>
 cases r1;exact⟨a,b,rfl,rfl,r.nx ι1 _ H1 _ M1 l1 w1 ((e.le l1).put i (.p (.int _))) q1⟩⟩
end
section
theorem QC(hi:ZI wi ui)(hg:ZG g ug)(hb:ZS ts us):ZS (tFor wi g ts) (uFor ui ug us):=⟨by
 intro A ι σ H ρ M D E w e r q;refine hi.h A ι σ H ρ M _ _ w e q λit M1 ι1 J H1 l1 w1 hJ q1=>?_;obtain⟨Iv,I0,It,Id⟩:=q1;have r1:=r.le l1;refine⟨λi m σ2 H2=>m=it.n-i/\i<=it.n/\∃ι2 ρ2 M2,Le ι1 H1 ι2 H2/\Wd A ι2 H2 M2/\EnvR A ι2 H2 σ2 ρ2/\Iv i ρ2 M2,⟨it.n,by simp,UY _,ι1,ρ,M1, .refl _ _,w1,e.le l1,I0⟩, ?_⟩;rintro i m σ2 H2 ⟨rfl,hin,ι2,ρ2,M2,l2,w2,e2,I2⟩;by_cases hlt:i<it.n
 ·obtain⟨ok,step⟩:=It i ρ2 M2 hlt I2
  obtain⟨jgo,jy⟩:=(hJ A ι2 H2 M2 i l2.lea w2 ok).1 hlt;refine .inr ⟨jgo,λσ' H'=>∃ι2 ρ2 M2,Le ι1 H1 ι2 H'/\Wd A ι2 H' M2/\EnvR A ι2 H' σ' ρ2/\Iv (i+1) ρ2 M2,λσ' H' h=>⟨it.n-(i+1),by lia,rfl,hlt,h⟩,λx H3 y=>?_⟩;obtain⟨u,hu,l3,w3,r3⟩:=jy x H3 y;refine hg.h A ι2 σ2 H3 ρ2 M2 x u _ _ w3 (e2.le l3) r3 (step u hu) λρ4 M4 ι4 σ4 H4 l4 w4 e4 q4=>?_;have l14:=(l2.trans l3).trans l4;exact hb.h A ι4 σ4 H4 ρ4 M4 _ { E with nx:=Iv (i+1),ct:=Iv (i+1),bk:=E.nx } w4 e4 ⟨λι5 σ5 H5 ρ5 M5 l5 w5 e5 q5=>⟨ι5,ρ5,M5,l14.trans l5,w5,e5,q5⟩,(r1.le l14).rt,(r1.le l14).nx,λι5 σ5 H5 ρ5 M5 l5 w5 e5 q5=>⟨ι5,ρ5,M5,l14.trans l5,w5,e5,q5⟩⟩ q4
 ·have ei:i=it.n:=by lia
  subst ei;obtain⟨ok,fin⟩:=Id ρ2 M2 I2;exact .inl ⟨(hJ A ι2 H2 M2 _ l2.lea w2 ok).2 rfl,r1.nx ι2 σ2 H2 ρ2 M2 l2 w2 e2 fin⟩⟩
end
section
theorem kH(hc:ZT tt ut)(hb:ZS ts us):ZS (JV tt ts) (uWhile ut us):=⟨by
 intro A ι σ H ρ M D E w e r q;obtain⟨W,⟨m0,W0⟩,step⟩:=q;refine⟨λm σ2 H2=>∃ι2 ρ2 M2,Le ι H ι2 H2/\Wd A ι2 H2 M2/\EnvR A ι2 H2 σ2 ρ2/\W m ρ2 M2,⟨m0,ι,ρ,M, .refl _ _,w,e,W0⟩, ?_⟩;rintro m σ2 H2 ⟨ι2,ρ2,M2,l2,w2,e2,W2⟩;refine hc.h A ι2 σ2 H2 ρ2 M2 _ _ w2 e2 (step m ρ2 M2 W2) λb M3 ι3 H3 l3 w3 q3=>?_;cases b with
 |false=>exact r.nx ι3 σ2 H3 ρ2 M3 (l2.trans l3) w3 (e2.le l3) q3
 |true =>
  obtain⟨N,hN,q3⟩:=q3;have l13:=l2.trans l3;refine⟨λσ' H'=>∃ι4 ρ4 M4,Le ι H ι4 H'/\Wd A ι4 H' M4/\EnvR A ι4 H' σ' ρ4/\N ρ4 M4, ?_, ?_⟩
  ·rintro σ' H' ⟨ι4,ρ4,M4,l4,w4,e4,n4⟩
   obtain⟨m',hm,W4⟩:=hN ρ4 M4 n4;exact⟨m',hm,ι4,ρ4,M4,l4,w4,e4,W4⟩
  ·exact hb.h A ι3 σ2 H3 ρ2 M3 _ { E with nx:=N,ct:=N,bk:=E.nx } w3 (e2.le l3) ⟨λι5 σ5 H5 ρ5 M5 l5 w5 e5 q5=>⟨ι5,ρ5,M5,l13.trans l5,w5,e5,q5⟩,(r.le l13).rt,(r.le l13).nx,λι5 σ5 H5 ρ5 M5 l5 w5 e5 q5=>⟨ι5,ρ5,M5,l13.trans l5,w5,e5,q5⟩⟩ q3⟩
end
section
theorem QU(h:MeL r s)(ha:ZE ta ua)(hl:ZA n tl ul):ZE (tLM r ta tl) (uMe s ua ul):=⟨λA ι σ H ρ M Qu Q w e q k =>
 ha.h A ι σ H ρ M _ _ w e q λo M1 ι1 v H1 l1 w1 r1 ⟨kk,eo,⟨zs,hz⟩,q1⟩=>by
  subst eo;cases r1 with
  |m ek =>
  rename_i a;obtain⟨xs1,h1,_⟩:=w1.obj kk a _ ek hz;refine⟨a,xs1,rfl,h1,hl.h A ι1 σ H1 ρ M1 _ _ w1 (e.le l1) q1 λws M2 ι2 ys H2 l2 w2 hn r2 q2=>?_⟩;obtain⟨us,hus,q2⟩:=q2;have ek2:ι2[kk]?=some a:=by
   obtain⟨nn,rfl,_⟩:=l2.ext;rw[Ui (Ue.mp ek).1]; exact ek
  obtain⟨xs2,h3,h4⟩:=w2.obj kk a _ ek2 hus;have hm:=Uh ek2;exact h A ι2 H2 M2 kk a xs2 ys us ws _ Q w2 ek2 h3 hus h4 r2 q2 λz us' zv xs' rx rz qz=>k z _ ι2 zv _ ((l1.trans l2).trans (.put hm)) (w2.put (mo:=.lst us') ek2 ⟨xs',upd_same,RepUs.le (.put hm) rx⟩) (rz.le (.put hm)) qz⟩
end
section
theorem qF(ha:ZA n tl ul):ZE (zT (spU G) [] E tl) (uCall G ul):=⟨λA ι σ H ρ M Qu Q w e q k =>
 ha.h A ι σ H ρ M _ _ w e q λus M1 ι1 vs H1 l1 w1 hn r1 q1=>by
  rw[UR];exact⟨A,ι1,M1,us,_,w1,r1,q1,λu M2 ι2 v H2 l2 w2 r2 q2=>k u M2 ι2 v H2 (l1.trans l2) w2 r2 q2⟩⟩
end
section
theorem qo(ha:ZA n tl ul):ZE (zT (spP G) [] E tl) (Yv G ul):=⟨λA ι σ H ρ M Qu Q w e q k =>
 ha.h A ι σ H ρ M _ _ w e q λus M1 ι1 vs H1 l1 w1 hn r1 ⟨ts,et,q1⟩=>by
  rw[UR];rw[zx et] at r1;exact⟨Av A ι1,ts,_,w1.domAv,r1.pures,q1,λt v H2 s r2 q2=>k _ M1 ι1 v H2 (l1.trans s.le) (w1.same s) (.p r2) q2⟩⟩
end
section
theorem qah(ha:ZE ta ua)(hb:ZE tb ub):ZE (YE ta tb) (uDGet ua ub):=⟨λA ι σ H ρ M Qu Q w e q k =>
 ha.h A ι σ H ρ M _ _ w e q λx M1 ι1 v H1 l1 w1 r1 q1=>hb.h A ι1 σ H1 ρ M1 _ _ w1 (e.le l1) q1 λy M2 ι2 v2 H2 l2 w2 r2 ⟨kk,kvs,key,z,ex,em,ey,ez,q2⟩=>by
  subst ex ey;have r1':=r1.le l2;cases r1' with
  |m ek =>
  obtain⟨gs,h1,h2⟩:=w2.obj kk _ _ ek em;have hv:=Xs (k:=key) h2;rw[ez] at hv;obtain⟨x',hx,rx⟩:=hv;refine⟨_,x',rfl, ?_,k z M2 ι2 x' H2 (l1.trans l2) w2 rx q2⟩;have:=DGet.k (k:=key) h1;rw[hx] at this;rw[Qr r2];exact this⟩
end
section
theorem ce_ifC(hc:ZT tt ut)(h1:Sc v1 t1)(h2:Sc v2 t2):ZE (tIf tt (tC v1) (tC v2)) (uIfC ut t1 t2):=⟨λA ι σ H ρ M Qu Q w e q k =>
 hc.h A ι σ H ρ M _ _ w e q λc M1 ι1 H1 l1 w1 q1=>by
  cases c with
  |true=>exact k _ M1 ι1 _ H1 l1 w1 (.p h1.rep) q1
  |false=>exact k _ M1 ι1 _ H1 l1 w1 (.p h2.rep) q1⟩
end
section
theorem ce_ixK(h:KTu Ξ p vs)(hs:Paired Sc vs ts)(hb:ZE tb ub):ZE (tOp (rIxT Ξ) (tC (.ref p)) tb) (uIxK ts ub):=⟨λA ι σ H ρ M Qu Q w e q k =>
 hb.h A ι σ H ρ M _ _ w e q λy M1 ι1 v1 H1 l1 w1 r1 ⟨i,ey,t,et,q1⟩=>by
  subst ey;cases r1 with
  |p r =>
  cases r;obtain⟨x,hx,sx⟩:=atI_pair hs et;exact⟨p,vs,i,x,rfl,rfl,h H1,hx,k _ M1 ι1 x H1 l1 w1 (.p sx.rep) q1⟩⟩
end
section
theorem ce_lenK(h:KTu Ξ p vs):ZE (tCB (rLenA Ξ) (zS (tC (.ref p)) tNil)) (uC (.int vs.length)):=⟨λA ι σ H ρ M Qu Q w e q k =>
 ⟨p,vs,rfl, .inr (h H),k _ M ι _ H (.refl _ _) w (.p (.int _)) q⟩⟩
end
section
theorem ce_isi(c:TyC)(ha:ZE ta ua):ZE (tCB (rIsi Ξ) (zS ta (zS (tC (.ty c.name)) tNil))) (uIsi c ua):=⟨λA ι σ H ρ M Qu Q w e q k =>
 ha.h A ι σ H ρ M _ _ w e q λx M1 ι1 v1 H1 l1 w1 r1 ⟨b,eb,q1⟩=>by
  obtain⟨t,h1,h2⟩:=isi_rep (Ξ:=Ξ) w1 r1 eb;exact⟨v1,c.name,t,b,rfl,h1,h2,k _ M1 ι1 _ H1 l1 w1 (.p (.bl _)) q1⟩⟩
end
section
theorem qag  : ZE JX uDNew:=⟨le_dnew ⟩
end
section
theorem ce_din(ha:ZE ta ua)(hb:ZE tb ub):ZE (tDIn ta tb) (uDIn false ua ub):=⟨λA ι σ H ρ M Qu Q w e q k =>
 ha.h A ι σ H ρ M _ _ w e q λy M1 ι1 v1 H1 l1 w1 r1 q1=>hb.h A ι1 σ H1 ρ M1 _ _ w1 (e.le l1) q1 λx M2 ι2 v2 H2 l2 w2 r2 ⟨kk,kvs,key,ex,em,ey,q2⟩=>by
  subst ex ey;cases r2 with
  |m ek =>
  obtain⟨o,h1,h2⟩:=Ks w2 ek em (r1.le l2);exact⟨_,o,rfl,h1,by rw[h2]; exact k _ M2 ι2 _ H2 (l1.trans l2) w2 (.p (.bl _)) q2⟩⟩
end
section
theorem qaf(ha:ZE ta ua)(hb:ZE tb ub):ZE (Vg ta tb) (uDIn true ua ub):=⟨λA ι σ H ρ M Qu Q w e q k =>
 ha.h A ι σ H ρ M _ _ w e q λy M1 ι1 v1 H1 l1 w1 r1 q1=>hb.h A ι1 σ H1 ρ M1 _ _ w1 (e.le l1) q1 λx M2 ι2 v2 H2 l2 w2 r2 ⟨kk,kvs,key,ex,em,ey,q2⟩=>by
  subst ex ey;cases r2 with
  |m ek =>
  obtain⟨o,h1,h2⟩:=Ks w2 ek em (r1.le l2);exact⟨_,o,rfl,h1,by rw[h2]; exact k _ M2 ι2 _ H2 (l1.trans l2) w2 (.p (.bl _)) q2⟩⟩
end
section
theorem G7(hd:ZE td ud)(hy:ZE ty uy)(hv:ZE tv uv):ZS (sDPut td ty tv) (uDPut ud uy uv):=⟨λA ι σ H ρ M D E w e r q =>
 hv.h A ι σ H ρ M _ _ w e q λv M1 ι1 vv H1 l1 w1 r1 q1=>hd.h A ι1 σ H1 ρ M1 _ _ w1 (e.le l1) q1 λx M2 ι2 vx H2 l2 w2 r2 q2=>hy.h A ι2 σ H2 ρ M2 _ _ w2 (e.le (l1.trans l2)) q2 λy M3 ι3 vy H3 l3 w3 r3 ⟨kk,kvs,key,ex,em,ey,hz,q3⟩=>by
  subst ex ey;have r2':=r2.le l3;cases r2' with
  |m ek =>
  obtain⟨gs,h1,h2⟩:=w3.obj kk _ _ ek em;have hmem:=Uh ek;have l4:=(l1.trans l2).trans l3;refine⟨_,_,rfl, ?_,r.nx ι3 σ _ ρ _ (l4.trans (.put hmem)) (w3.put (mo:=.dK (putU kvs key v)) ek ⟨_,upd_same,Paired.mapP (Wi h2 (r1.le (l2.trans l3))) λ_ _ q=>⟨q.1,q.2.le (.put hmem)⟩⟩) (e.le (l4.trans (.put hmem))) q3⟩;rw[Qr r3];exact DPut.k (k:=key) h1 (by rw[h2.len]; exact hz)⟩
end
section
theorem ce_idxK(T3:Tup3 Ξ mg nm p x y z)(ha:ZA n tl ul):ZE (tBM Ξ "tuple" (rIdxT p x y z) (tC (.ref p)) tl) (uIdxK [x,y,z] ul):=⟨λA ι σ H ρ M Qu Q w e q k =>
 ⟨T3.ty H,ha.h A ι σ H ρ M _ _ w e q λus M1 ι1 vs H1 l1 w1 hn r1 ⟨t,j,eu,ej,hf,q1⟩=>by
  subst eu;cases r1 with
  |cons r q' =>
  cases q';cases r with
  |p r =>
  cases r;exact⟨t,j,rfl,rfl,ej,hf,k _ M1 ι1 _ H1 l1 w1 (.p (.int _)) q1⟩⟩⟩
end
section
theorem ve(ha:ZE ta ua):ZE (tFld Ξ ta f) (uFld Ξ ua f):=⟨λA ι σ H ρ M Qu Q w e q k =>
 ha.h A ι σ H ρ M _ _ w e q λx M1 ι1 v1 H1 l1 w1 r1 ⟨kk,C,fs,u,ex,em,c,na,lk,q1⟩=>by
  subst ex;cases r1 with
  |m ek =>
  obtain⟨dx,gs,h1,h2,h3,h4⟩:=w1.obj kk _ _ ek em;obtain⟨v,hv,rv⟩:=Kb h4 lk;exact⟨_,C,dx,gs,v,rfl,h1,c,na,hv,k _ M1 ι1 v H1 l1 w1 rv q1⟩⟩
end
section
theorem jt(ha:ZE ta ua)(hv:ZE tv uv):ZS (sFld Ξ ta tv f) (Xx Ξ ua uv f):=⟨λA ι σ H ρ M D E w e r q =>
 hv.h A ι σ H ρ M _ _ w e q λy M1 ι1 vy H1 l1 w1 r1 q1=>ha.h A ι1 σ H1 ρ M1 _ _ w1 (e.le l1) q1 λx M2 ι2 vx H2 l2 w2 r2 ⟨kk,C,fs,ex,em,c,na,hz,q2⟩=>by
  subst ex;cases r2 with
  |m ek =>
  rename_i a;obtain⟨dx,gs,h1,h2,h3,h4⟩:=w2.obj kk _ _ ek em;have hmem:=Uh ek;have l4:=l1.trans l2;have hne:dx≠a:=λz=>by rw[z,h1] at h2; cases h2
  refine⟨a,C,dx,gs,rfl,h1,c,na,by rw[h4.len]; exact hz,r.nx ι2 σ _ ρ _ (l4.trans (.put hmem)) (w2.put (mo:=.ins C (Qh f y fs)) ek ⟨dx,_,upd_same,by rw[upd_ne hne]; exact h2,h3,Paired.mapP (J3 h4 (r1.le l2)) λ_ _ q=>⟨q.1,q.2.le (.put hmem)⟩⟩) (e.le (l4.trans (.put hmem))) q2⟩⟩
end
section
theorem qG(ha:ZE ta ua)(hl:ZA n tl ul):ZE (XA C m (spU G) [] E ta tl) (uMeth C m G ua ul):=⟨λA ι σ H ρ M Qu Q w e q k =>
 ha.h A ι σ H ρ M _ _ w e q λx M1 ι1 v1 H1 l1 w1 r1 ⟨kk,fs,ex,em,lk,q1⟩=>by
  subst ex;have r1':=r1;cases r1' with
  |m ek =>
  obtain⟨dx,gs,h1,h2,h3,h4⟩:=w1.obj kk _ _ ek em;refine⟨_,dx,gs,rfl,h1,ZU h4 lk,hl.h A ι1 σ H1 ρ M1 _ _ w1 (e.le l1) q1 λus M2 ι2 vs H2 l2 w2 hn r2 q2=>?_⟩;rw[UR];exact⟨A,ι2,M2,_,_,w2, .cons (r1.le l2) r2,q2,λu M3 ι3 v H3 l3 w3 r3 q3=>k u M3 ι3 v H3 ((l1.trans l2).trans l3) w3 r3 q3⟩⟩
end
section
theorem qad(hl:ZA n tl ul):ZE (tMake C (spU G) [] E tl) (uMake C G ul):=⟨λA ι σ H ρ M Qu Q w e q k =>
 hl.h A ι σ H ρ M _ _ w e q λus M1 ι1 vs H1 l1 w1 hn r1 q1 x dx hx hdx hne=>by
  have hx2:upd H1 dx (.own x) x=none:=by rw[upd_ne (Ne.symm hne)]; exact hx
  have l2:Le ι1 H1 ι1 (upd H1 dx (.own x)):=.fresh hdx;have w2:=w1.fresh (o:=.own x) hdx;have l3:Le ι1 (upd H1 dx (.own x)) (ι1++[x]) (upd (upd H1 dx (.own x)) x (.ins C dx [])):=.push hx2;have w3:Wd A (ι1++[x]) (upd (upd H1 dx (.own x)) x (.ins C dx [])) (M1++[.ins C []]):=w2.push (mo:=.ins C []) hx2 ⟨dx, [],upd_same,by rw[upd_ne hne,upd_same],λz=>by
   rcases Uu.mp z with z|z
   ·exact w1.nin hdx z
   ·exact hne (Us.mp z), .nil⟩
  have rx:RepU A (ι1++[x]) (upd (upd H1 dx (.own x)) x (.ins C dx [])) (.ref x) (.m M1.length):=.m (by rw[<-w1.len]; exact xy);rw[UR];refine⟨A,ι1++[x],_,_,_,w3, .cons rx (r1.le (l2.trans l3)),q1,λu M4 ι4 v4 H4 l4 w4 r4 q4=>?_⟩;obtain⟨eu,q4⟩:=q4;subst eu;cases r4 with
  |p r4 =>
  cases r4;exact⟨rfl,k _ M4 ι4 _ H4 (l1.trans ((l2.trans l3).trans l4)) w4 (rx.le l4) q4⟩⟩
end
section
theorem qac(ha:ZE ta ua)(hb:ZE tb ub):ZE (tOp rRep ta tb) (Xv ua ub):=⟨λA ι σ H ρ M Qu Q w e q k =>
 ha.h A ι σ H ρ M _ _ w e q λx M1 ι1 v H1 l1 w1 r1 q1=>hb.h A ι1 σ H1 ρ M1 _ _ w1 (e.le l1) q1 λy M2 ι2 v2 H2 l2 w2 r2 ⟨xs,kk,ex,ey,k0,k1,hz,q2⟩=>by
  subst ex ey;have r1':=r1.le l2;cases r1' with
  |p r1 =>
  cases r2 with
  |p r2 =>
  cases r2;obtain⟨p,vs,rfl,na,h1,h2⟩:=r1.lst_inv;refine⟨p,kk,vs,rfl,rfl,h1,k0,k1,by rw[h2.len]; exact hz,λl hl=>?_⟩;have:=zG w2 hl (RepTs.ups (jS h2 kk.toNat));exact k _ _ _ _ _ ((l1.trans l2).trans (.push hl)) this.1 this.2 q2⟩
end
section
theorem cs_par(hl:ZA n tl ul):ZS (tPar i j tl) (uPar i j ul):=⟨λA ι σ H ρ M D E w e r q =>
 hl.h A ι σ H ρ M _ _ w e q λus M1 ι1 vs H1 l1 w1 hn r1 ⟨a,b,eu,q1⟩=>by
  subst eu;obtain⟨x,y,rfl,ra,rb⟩:=rep2 r1;exact⟨x,y,rfl,r.nx ι1 _ H1 _ M1 l1 w1 (((e.le l1).put i ra).put j rb) q1⟩⟩
end
section
variable {P:Program} {w:World} {Ξ:PySem.W.Frag} {mg:Str->Option Value} {base:Heap}
theorem Fun.okQ{st:Stmt}(F:Fun Ξ x qual st f fd)(S:FnScope N ps (qg st))(len:∀vs H Q E,sp vs H Q E->vs.length=ps.length)(hbody:∀(cdv:Value)(A:Around)(outer:List Env)(s:Shared)(H:Hp)(vs:List V)(Q:VK)(E:XK),Room k (A.deeper (envOfC qual (qg st) s.heap.objs.size f cdv))->sp vs H Q E ->
   ∃t,QSs (cxOf CX0 P w Ξ mg base N qual (qg st) f cdv A outer s H E).nox (vQ st) t/\t { nx:=λ_ H'=>Q .non H',rt:=Q } (start N vs) H):FnOk P w Ξ mg base CX0 (k+1) f fd ps sp :=
 F.ok S len λcdv A outer s H vs Q E hr hsp=>by
  obtain⟨t,h,q⟩:=hbody cdv A outer s H vs Q E hr hsp;exact⟨t,h.h,q⟩
theorem Fun.zU{st:Stmt}(F:Fun Ξ x qual st f fd)(S:FnScope N ps (qg st))(len:∀us M Qu,G us M Qu->us.length=ps.length)(hbody:∀(cdv:Value)(A:Around)(outer:List Env)(s:Shared)(H:Hp)(E:XK),Room k (A.deeper (envOfC qual (qg st) s.heap.objs.size f cdv)) ->
   ∃t,QSs (cxOf CX0 P w Ξ mg base N qual (qg st) f cdv A outer s H E).nox (vQ st) t/\∃u,ZS t u/\∀us M Qu,G us M Qu->u { nx:=λ_ M'=>Qu (.p .non) M',rt:=Qu } (xI N us) M):FnOk P w Ξ mg base CX0 (k+1) f fd ps (spU G) :=
 F.okU S len λcdv A outer s H E hr=>by
  obtain⟨t,h,u,hu,q⟩:=hbody cdv A outer s H E hr;exact⟨t,h.h,u,hu.h,q⟩
theorem Fun.zV{st:Stmt}(F:Fun Ξ x qual st f fd)(S:FnScope N ps (qg st))(len:∀us M Qu,G us M Qu->us.length=ps.length)(hbody:∀(cdv:Value)(A:Around)(outer:List Env)(s:Shared)(H:Hp)(E:XK),Room k (A.deeper (envOfC qual (qg st) s.heap.objs.size f cdv)) ->
   ∃t,QSs (cxOf CX0 P w Ξ mg base N qual (qg st) f cdv A outer s H E).nox (vQ st) t/\∃u,ZS t u/\∀us M M1 Qu,M1=M->G us M Qu->u { nx:=λ_ M'=>xL M M'/\Qu (.p .non) (M'.take M.length),rt:=λz M'=>xL M M'/\∃t,frzB M.length 4 M' z=some t/\Qu (.p t) (M'.take M.length) } (xI N us) M1):FnOk P w Ξ mg base CX0 (k+1) f fd ps (spU G) :=
 F.okV S len λcdv A outer s H E hr=>by
  obtain⟨t,h,u,hu,q⟩:=hbody cdv A outer s H E hr;exact⟨t,h.h,u,hu.h,λus M Qu g=>q us M M Qu rfl g⟩
theorem Fun.zP{st:Stmt}(F:Fun Ξ x qual st f fd)(S:FnScope N ps (qg st))(len:∀ts Qt,G ts Qt->ts.length=ps.length)(hbody:∀(cdv:Value)(A:Around)(outer:List Env)(s:Shared)(H:Hp)(E:XK),Room k (A.deeper (envOfC qual (qg st) s.heap.objs.size f cdv)) ->
   ∃t,QSs (cxOf CX0 P w Ξ mg base N qual (qg st) f cdv A outer s H E).nox (vQ st) t/\∃u,ZS t u/\∀ts Qt,G ts Qt->u { nx:=λ_ _=>Qt .non,rt:=λz M'=>∃t,frzN 4 M' z=some t/\Qt t } (xI N (ts.map U.p)) []):FnOk P w Ξ mg base CX0 (k+1) f fd ps (spP G) :=
 F.okP S len λcdv A outer s H E hr=>by
  obtain⟨t,h,u,hu,q⟩:=hbody cdv A outer s H E hr;exact⟨t,h.h,u,hu.h,q⟩
end
abbrev UX:=Str->Option Int->MM->Prop
def pT:Option Int->T
 |none=>.non
 |some n=>.int n
theorem pT_rep:∀p:Option Int,RepT A H (pV p) (pT p)
 |none=>.non
 |some _=>.int _
theorem pT_inv:∀{p:Option Int},RepT A H v (pT p)->v=pV p
 |none,r=>by cases r; rfl
 |some _,r=>by cases r; rfl
abbrev UXe:=UEnv->MM->UK->UX->Prop
def spX(mg:Str->Option Value)(G:List U->MM->UK->UX->Prop):Sp:=λvs H Q E=>∃A ι M us Qu Xu,Wd A ι H M/\RepUs A ι H vs us/\G us M Qu Xu /\
 (∀u M' ι' v H',Le ι H ι' H'->Wd A ι' H' M'->RepU A ι' H' v u->Qu u M'->Q v H')/\∀nm p C d M' ι' H',mg nm=some C->PartIs d H' p->Le ι H ι' H'->Wd A ι' H' M'->Xu nm p M'->E C d H'
structure ZXe(mg:Str->Option Value)(tx:TX)(ux:UXe):Prop where
 h:∀(A:Addr->Prop)(ι:List Addr)(σ:St)(H:Hp)(ρ:UEnv)(M:MM)(Qu:UK)(Xu:UX)(Q:VK)(E:XK),Wd A ι H M->EnvR A ι H σ ρ->ux ρ M Qu Xu ->
  (∀u M' ι' v H',Le ι H ι' H'->Wd A ι' H' M'->RepU A ι' H' v u->Qu u M'->Q v H')->(∀nm p C d M' ι' H',mg nm=some C->PartIs d H' p->Le ι H ι' H'->Wd A ι' H' M'->Xu nm p M'->E C d H')->tx σ H Q E
section
def zN(G:List U->MM->UK->UX->Prop)(ul:UA):UXe:=λρ M Q X=>ul ρ M λus M1=>G us M1 Q X
theorem je(ha:ZA n tl ul):ZXe mg (tCallX (spX mg G) tl) (zN G ul):=⟨λA ι σ H ρ M Qu Xu Q E w e q k kx =>
 ha.h A ι σ H ρ M _ _ w e q λus M1 ι1 vs H1 l1 w1 hn r1 q1 =>
  ⟨A,ι1,M1,us,_,_,w1,r1,q1,λu M2 ι2 v H2 l2 w2 r2 q2=>k u M2 ι2 v H2 (l1.trans l2) w2 r2 q2,λnm p C d M2 ι2 H2 hm hp l2 w2 q2=>kx nm p C d M2 ι2 H2 hm hp (l1.trans l2) w2 q2⟩⟩
def zL(C:Addr)(m:Str)(G:List U->MM->UK->UX->Prop)(ua:UE)(ul:UA):UXe:=λρ M Q X=>ua ρ M λx M1=>qas C m x M1 (ul ρ M1 λus M2=>G (x::us) M2 Q X)
theorem zg(ha:ZE ta ua)(hl:ZA n tl ul):ZXe mg (tMethX C m (spX mg G) ta tl) (zL C m G ua ul):=⟨λA ι σ H ρ M Qu Xu Q E w e q k kx =>
 ha.h A ι σ H ρ M _ _ w e q λx M1 ι1 v1 H1 l1 w1 r1 ⟨kk,fs,ex,em,lk,q1⟩=>by
  subst ex;have r1':=r1;cases r1' with
  |m ek =>
  obtain⟨dx,gs,h1,h2,h3,h4⟩:=w1.obj kk _ _ ek em;refine⟨_,dx,gs,rfl,h1,ZU h4 lk,hl.h A ι1 σ H1 ρ M1 _ _ w1 (e.le l1) q1 λus M2 ι2 vs H2 l2 w2 hn r2 q2=>?_⟩;exact⟨A,ι2,M2,_,_,_,w2, .cons (r1.le l2) r2,q2,λu M3 ι3 v H3 l3 w3 r3 q3=>k u M3 ι3 v H3 ((l1.trans l2).trans l3) w3 r3 q3,λnm p C d M3 ι3 H3 hm hp l3 w3 q3=>kx nm p C d M3 ι3 H3 hm hp ((l1.trans l2).trans l3) w3 q3⟩⟩
def tagU(nm:Str)(p:Option Int)(ρ:UEnv):UEnv:=some (.p (.str nm))::some (.p (pT p))::ρ
theorem Xz(e:EnvR A ι H σ ρ):EnvR A ι H (some (.str nm)::some (pV p)::σ) (tagU nm p ρ):=.cons (λu q=>by cases q; exact⟨_,rfl, .p (.str _)⟩) (.cons (λu q=>by cases q; exact⟨_,rfl, .p (pT_rep p)⟩) e)
def zM(ux:UXe):US:=λE ρ M=>ux ρ M (λ_ M1=>E.nx ρ M1) λnm p M1=>E.bk (tagU nm p ρ) M1
theorem vf(h:ZXe mg tx ux):ZS (tDropX tx mg) (zM ux):=⟨λA ι σ H ρ M D E w e r q =>
 h.h A ι σ H ρ M _ _ _ _ w e q (λx M1 ι1 v H1 l1 w1 r1 q1=>r.nx ι1 σ H1 ρ M1 l1 w1 (e.le l1) q1) λnm p C d M1 ι1 H1 hm hp l1 w1 q1=>⟨nm,p,hm,hp,r.bk ι1 _ H1 _ M1 l1 w1 (Xz (e.le l1)) q1⟩⟩
def kQ(ux:UXe):US:=λE ρ M=>ux ρ M E.rt λnm p M1=>E.bk (tagU nm p ρ) M1
def kP(i:Nat)(ux:UXe):US:=λE ρ M=>ux ρ M (λx M1=>E.nx (ρ.set i (some x)) M1) λnm p M1=>E.bk (tagU nm p ρ) M1
def zK(x:Str)(ul:UA):US:=λE ρ M=>ul ρ M λus M1=>us.length<=sizeLine/\E.bk (tagU x none ρ) M1
theorem V9(h:ZA n tl ul):ZS (tRaise x tl) (zK x ul):=⟨λA ι σ H ρ M D E w e r q =>
 h.h A ι σ H ρ M _ _ w e q λus M1 ι1 vs H1 l1 w1 hn r1 ⟨hl,q1⟩=>⟨by rw[r1.len]; exact hl,r.bk ι1 _ H1 _ M1 l1 w1 (Xz (p:=none) (e.le l1)) q1⟩⟩
def ze(x:Str)(ul:UA):US:=λE ρ M=>ul ρ M λus M1=>∃k,us=[.p (.int k)]/\kZ k/\E.bk (tagU x (some k) ρ) M1
theorem Xe(h:ZA n tl ul):ZS (YB x tl) (ze x ul):=⟨λA ι σ H ρ M D E w e r q =>
 h.h A ι σ H ρ M _ _ w e q λus M1 ι1 vs H1 l1 w1 hn r1 ⟨k,eu,sk,q1⟩=>by
  subst eu;cases r1 with
  |cons a b =>
  cases b;cases a with
  |p a =>
  cases a;exact⟨k,rfl,sk,λd hd=>r.bk ι1 _ _ _ M1 (l1.trans (Le.fresh hd)) (w1.fresh hd) (Xz (p:=some k) ((e.le l1).le (Le.fresh hd))) q1⟩⟩
def uTry(n:Nat)(ub:US)(l:List (Str×(Option Int->US))):US:=λE ρ M=>ub { E with bk:=λτ M'=>∃nm p ρ' u,τ=tagU nm p ρ'/\ρ'.length=n/\l.lookup nm=some u/\u p E ρ' M' } ρ M
structure ZHs(l:List (Str×(Option Int->TS)))(l':List (Str×(Option Int->US))):Prop where
 h:∀nm u,l'.lookup nm=some u->∃t,l.lookup nm=some t/\∀p,LS (t p) (u p)
theorem zh_nil:ZHs [] []:=⟨λnm u e=>by simp at e⟩
theorem Yl(h:∀p,ZS (t p) (u p))(hr:ZHs l l'):ZHs ((x,t)::l) ((x,u)::l'):=⟨λnm v e=>by
 rw[UD] at e ⊢;cases hx:(nm==x) with
 |true=>rw[hx] at e; cases e; exact⟨t,rfl,λp=>(h p).h⟩
 |false=>rw[hx] at e; exact hr.h nm v e⟩
theorem cs_try(hb:ZS tb ub)(hl:ZHs l l'):ZS (tTry n tb l) (uTry n ub l'):=⟨λA ι σ H ρ M D E w e r q =>
 hb.h A ι σ H ρ M _ { E with bk:=λτ M'=>∃nm p ρ' u,τ=tagU nm p ρ'/\ρ'.length=n/\l'.lookup nm=some u/\u p E ρ' M' } w e ⟨r.nx,r.rt,λι1 σ1 H1 ρ1 M1 l1 w1 e1 q1=>by
  obtain⟨nm,p,ρ',u,rfl,hn,hu,q1⟩:=q1;obtain⟨t,ht,lk⟩:=hl.h nm u hu;cases e1 with
  |cons a b =>
  cases b with
  |cons a2 b =>
  obtain⟨v,rfl,rv⟩:=a _ rfl;obtain⟨v2,rfl,rv2⟩:=a2 _ rfl;cases rv with
  |p rv =>
  cases rv;cases rv2 with
  |p rv2 =>
  cases pT_inv rv2;exact⟨nm,p,_,t,rfl,by rw[b.length]; exact hn,ht,lk p A ι1 _ H1 ρ' M1 D E w1 b (r.le l1) q1⟩,r.ct⟩ q⟩
end
section
def endX(n:Nat)(Qu:UK)(Xu:UX):UEnds:={ nx:=λ_ M'=>Qu (.p .non) M',rt:=Qu,bk:=λτ M'=>∃nm p ρ,τ=tagU nm p ρ/\ρ.length=n/\Xu nm p M' }
theorem Fun.zX{st:Stmt}(F:Fun Ξ x qual st f fd)(S:FnScope N ps (qg st))(len:∀us M Qu Xu,G us M Qu Xu->us.length=ps.length)(hbody:∀(cdv:Value)(A:Around)(outer:List Env)(s:Shared)(H:Hp)(E:XK),Room k (A.deeper (envOfC qual (qg st) s.heap.objs.size f cdv)) ->
   ∃t,QXs True (cxOf (CXe P w) P w Ξ mg base N qual (qg st) f cdv A outer s H E) (vQ st) t/\∃u,ZS t u/\∀us M Qu Xu,G us M Qu Xu->u (endX N.length Qu Xu) (xI N us) M):FnOk P w Ξ mg base (CXe P w) (k+1) f fd ps (spX mg G):=by
 refine F.okX S (λvs H Q E h=>?_) (λcdv A outer s H vs Q E hr h=>?_)
 ·obtain⟨A,ι,M,us,Qu,Xu,w1,r,g,_⟩:=h
  rw[r.len]; exact len us M Qu Xu g
 ·obtain⟨B,ι,M,us,Qu,Xu,w1,r,g,kk,kx⟩:=h
  obtain⟨t,ht,u,hu,hb⟩:=hbody cdv A outer s H E hr;refine⟨t,ht,hu.h B ι _ H _ M _ (endX N.length Qu Xu) w1 (ji r) ⟨λι1 σ1 H1 ρ1 M1 l1 w1 e1 q1=>kk _ M1 ι1 _ H1 l1 w1 (.p .non) q1,λι1 v H1 z M1 l1 w1 r1 q1=>kk z M1 ι1 v H1 l1 w1 r1 q1,λι1 σ1 H1 ρ1 M1 l1 w1 e1 q1=>?_,λ_ _ _ _ _ _ _ _ q=>q.elim⟩ (hb us M Qu Xu g)⟩;obtain⟨nm,p,ρ,rfl,hn,q1⟩:=q1;cases e1 with
  |cons a b =>
  cases b with
  |cons a2 b =>
  obtain⟨v,rfl,rv⟩:=a _ rfl;obtain⟨v2,rfl,rv2⟩:=a2 _ rfl;cases rv with
  |p rv =>
  cases rv;cases rv2 with
  |p rv2 =>
  cases pT_inv rv2;exact⟨nm,p,_,rfl,by rw[b.length]; exact hn,λC d hm hp=>kx nm p C d M1 ι1 H1 hm hp l1 w1 q1⟩
end
theorem hh_nil:∀nm t C,([]:List (Str×(Option Int->TS))).lookup nm=some t->X.mg nm=some C->∀p,QH X hs C p (t p):=λnm t C e _=>by simp at e
theorem Gy{X:Cx}{hs:List ExceptHandler}{x:Str}{C:Value}{t:Option Int->TS}(hb:X.mg x=some C)(h:∀p,QH X hs C p (t p))(hr:∀nm t C,l.lookup nm=some t->X.mg nm=some C->∀p,QH X hs C p (t p)) :
  ∀nm t' C',((x,t)::l).lookup nm=some t'->X.mg nm=some C'->∀p,QH X hs C' p (t' p):=λnm t' C' e hm=>by
 rw[UD] at e;cases hx:(nm==x) with
 |true =>
  rw[hx] at e;cases e;rw[eq_of_beq hx,hb] at hm;cases hm;exact h
 |false=>rw[hx] at e; exact hr nm t' C' e hm
theorem Paired.app{α β:Type}{F:α->β->Prop}:∀{a c:List α}{b d:List β},Paired F a b->Paired F c d->Paired F (a++c) (b++d)
 |_,_,_,_, .nil,h=>h
 |_,_,_,_, .cons x y,h=>.cons x (Paired.app y h)
section
def kR(Ξ:PySem.W.Frag)(ux:UXe)(f:Str):UXe:=λρ M Q X=>ux ρ M (λx M1=>FldS Ξ f x M1 Q) X
def kW(ux:UXe)(ug:UG):US:=λE ρ M=>ux ρ M (λx M1=>ug x ρ M1 E.nx) λnm p M1=>E.bk (tagU nm p ρ) M1
end
section
theorem Wd.not_xd(w:Wd A ι H M)(h:a∈ι):H a≠some (.xd fs):=λz=>by
 obtain⟨k,e⟩:=Dm h;obtain⟨o,_,r⟩:=w.al e;cases o with
 |lst=>obtain⟨vs,e,_⟩:=r; rw[z] at e; cases e
 |tup=>obtain⟨vs,e,_⟩:=r; rw[z] at e; cases e
 |ins=>obtain⟨_,_,e,_⟩:=r; rw[z] at e; cases e
 |dK=>obtain⟨_,e,_⟩:=r; rw[z] at e; cases e
 |dF=>obtain⟨e,_⟩:=r; rw[z] at e; cases e
theorem PartIs.x(w:Wd A ι H M)(h:PartIs d H q):PartX ι H d q:=by
 cases q with
 |none=>exact h
 |some n =>
  obtain⟨x0,e,hx⟩:=h;exact⟨x0,e,λz=>w.not_xd z hx,hx⟩
def uPartE(a:Addr)(d:Option Addr)(ua:UE):UE:=λρ M Q=>ua ρ M λx M1=>∃n,x=.x a d (some n)/\n<1000000/\Q (.p (.int n)) M1
theorem vV:uPartE a d ua ρ M Q=ua ρ M λx M1=>∃n,x=.x a d (some n)/\n<1000000/\Q (.p (.int n)) M1:=rfl
def uAsG(i:Nat)(ub:Addr->Option Addr->US)(q:Option Int):US:=λE ρ M=>∀a d,ub a d { E with nx:=λρ' M'=>E.nx (ρ'.set i none) M',bk:=λ_ _=>False,ct:=λρ' M'=>E.ct (ρ'.set i none) M' } (ρ.set i (some (.x a d q))) M
end
section
theorem PartX.is(h:PartX ι H d q):PartIs d H q:=by
 cases q with
 |none=>exact h
 |some n =>
  obtain⟨x0,e,_,hx⟩:=h;exact⟨x0,e,hx⟩
end
section
theorem Wd.ext(w:Wd A ι H M)(h:∀x o,H x=some o->H' x=some o):Wd A ι H' M:=by
 have l:Le ι H ι H':=⟨⟨[],by simp,by simp⟩,λx o e _=>h x o e,λx e=>by
  cases q:H x with
  |none=>exact absurd q e
  |some o=>rw[h x o q]; simp⟩
 refine⟨w.nd,w.len,λx hx=>l.al x (w.dom x hx),w.na,λk a o e1 e2=>?_⟩;have r:=w.obj k a o e1 e2;obtain⟨q,hq⟩:=r.some;exact r.le' l (by rw[h a q hq,hq]) λx hx=>by rw[h x _ hx,hx]
def flD:Nat->T->Prop
 |0,_=>False
 |n+1, .tup xs=>∀x∈xs,flD n x
 |n+1, .lst xs=>∀x∈xs,flD n x
 |_+1,_=>True
theorem V6:∀{n:Nat}{t:T},flD n t->∃r,EqT n t t r
 |0,_,h=>h.elim
 |n+1, .non,_=>⟨_, .flat rfl rfl⟩
 |n+1, .bl b,_=>⟨_, .flat rfl rfl⟩
 |n+1, .int i,_=>⟨_, .flat rfl rfl⟩
 |n+1, .str s,_=>⟨_, .flat rfl rfl⟩
 |n+1, .tup xs,h=>by
  have:∀j:Nat,∃r,∀x,xs[j]?=some x->EqT n x x r:=λj=>by
   cases e:xs[j]? with
   |none=>exact⟨true,λx z=>by cases z⟩
   |some x =>
    obtain⟨r,hr⟩:=V6 (h x (Uh e));exact⟨r,λy z=>by cases z; exact hr⟩
  exact⟨_, .tup (e:=λj=>(this j).choose) λj x y hx hy=>by rw[hx] at hy; cases hy; exact(this j).choose_spec x hx⟩
 |n+1, .lst xs,h=>by
  have:∀j:Nat,∃r,∀x,xs[j]?=some x->EqT n x x r:=λj=>by
   cases e:xs[j]? with
   |none=>exact⟨true,λx z=>by cases z⟩
   |some x =>
    obtain⟨r,hr⟩:=V6 (h x (Uh e));exact⟨r,λy z=>by cases z; exact hr⟩
  exact⟨_, .lst (e:=λj=>(this j).choose) rfl λj x y hx hy=>by rw[hx] at hy; cases hy; exact(this j).choose_spec x hx⟩
theorem Ko(h:∀x∈xs,flD 20 x)(q:Q (.bl (!neg))):sEqL neg (.lst xs) (.lst xs) Q:=by
 have:∀j:Nat,∃r,∀x,xs[j]?=some x->EqT 20 x x r:=λj=>by
  cases e:xs[j]? with
  |none=>exact⟨true,λx z=>by cases z⟩
  |some x =>
   obtain⟨r,hr⟩:=V6 (h x (Uh e));exact⟨r,λy z=>by cases z; exact hr⟩
 refine⟨xs,xs,rfl,rfl, .inr ⟨rfl,λj=>(this j).choose,λj x y hx hy=>by rw[hx] at hy; cases hy; exact(this j).choose_spec x hx, ?_⟩⟩;have e:(List.range xs.length).all (λj=>(this j).choose)=true:=by
  rw[DH];intro j hj;have hj:=Di.mp hj;exact((this j).choose_spec _ (Uf hj)).self rfl
 rw[e];cases neg<;>exact q
end
section
def entD(P:Params)(e:Str×Tok×Value):DictEntry:=⟨PyData.keyHash P e.1, .str e.1 e.2.1,e.2.2⟩
structure KDi(Ξ:PySem.W.Frag)(w:World)(mg:Str->Option Value)(nm:Str)(a:Addr)(kvs:List (Str×V)):Prop where
 g:mg nm=some (.ref a)
 ex:∃(rows:List (Str×Tok×Value))(ep:Nat),Ξ.lookup a=some ⟨.type "dict", none, .dict ((rows.map (entD w.params)).toArray) ep, #[]⟩/\(rows.map (·.1)).Nodup/\Paired (λ(kv:Str×V) (r:Str×Tok×Value)=>kv.1=r.1/\RelV kv.2 r.2.2) kvs rows
def keyR(r:Str×Tok×Value):Key×Value:=(.inr r.1,r.2.2)
theorem Ww:∀rows:List (Str×Tok×Value),Pairs (vo prog w) (rows.map (entD w.params)) (rows.map keyR)
 | []=>.nil
 |r::rows=>.cons (xY prog w r.1 r.2.1) rfl (Ww rows)
theorem keys_D(rows:List (Str×Tok×Value)):KeysOf (vo prog w) (rows.map (entD w.params)).toArray:=λe he=>by
 obtain⟨r,_,rfl⟩:=UW.mp (List.mem_toArray.mp he);exact⟨.inr r.1,xY prog w r.1 r.2.1,rfl⟩
theorem nodup_D:∀{rows:List (Str×Tok×Value)},(rows.map (·.1)).Nodup->((rows.map keyR).map (·.1)).Nodup:=λ{rows} h=>by
 rw[DM];have e:((λx=>x.1) ∘ keyR)=(λx:Str=>(Key.inr x:Key)) ∘ (λr:Str×Tok×Value=>r.1):=rfl;rw[e, <-DM];exact List.Pairwise.map _ (λa b hab z=>hab (Key.inr.inj z)) h
theorem look_D:∀{kvs:List (Str×V)}{rows:List (Str×Tok×Value)},Paired (λ(kv:Str×V) (r:Str×Tok×Value)=>kv.1=r.1/\RelV kv.2 r.2.2) kvs rows->kvs.lookup k=some v->∃u,valueAt (rows.map keyR) (.inr k:Key)=some u/\RelV v u
 |_,_, .nil,e=>by simp at e
 | (a,b)::kvs,r::rows, .cons ⟨e1,e2⟩ q,e=>by
  have e1:a=r.1:=e1;subst e1;by_cases h:k=r.1
  ·subst h
   rw[UD,beq_self_eq_true] at e;cases e;exact⟨r.2.2,by simp[valueAt,keyR],e2⟩
  ·rw[UD,beq_false_of_ne h] at e
   obtain⟨u,h1,h2⟩:=look_D q e;refine⟨u, ?_,h2⟩;unfold valueAt at h1 ⊢;rw[Uy,List.find?_cons_of_neg]
   ·exact h1
   ·intro z
    exact h (Key.inr.inj (of_decide_eq_true z)).symm
theorem kd_at(D:KDi X.K X.w X.mg nm a kvs)(I:Inv X pins σ H s):∃rows:List (Str×Tok×Value),s.heap.DictOf (vo X.prog X.w) a (rows.map keyR)/\Paired (λ(kv:Str×V) (r:Str×Tok×Value)=>kv.1=r.1/\RelV kv.2 r.2.2) kvs rows:=by
 obtain⟨rows,ep,h1,h2,h3⟩:=D.ex;exact⟨rows,⟨_,_,ep,I.kIn a _ h1,⟨rfl,rfl,rfl⟩,rfl,keys_D rows,by simpa using Ww rows,nodup_D h2⟩,h3⟩
def tKD(kvs:List (Str×V))(ty:TE):TE:=λσ H Q=>ty σ H λy H1=>∃k v,y=.str k/\kvs.lookup k=some v/\Q v H1
theorem qe_kd(D:KDi X.K X.w X.mg nm a kvs)(hg:Gl X nm)(hi:QE X i ty)(hs:NoSl i)(hd:(nm==("__debug__" : Str))=false:=by decide):QE X (.Subscript (.Name nm p) i pos) (tKD kvs ty):=⟨by
 intro pins s σ H Q I h;refine YF PySem.F.slot_dict_getitem.lookup hs (zt I hg D.g (thn (hi.h pins s σ H _ I h) λiv s2 ⟨y,H2,I2,ry,k,v,ey,e,q2⟩=>?_) hd);subst ey;obtain⟨rows,dd,hp⟩:=kd_at D I2;obtain⟨u,hu,ru⟩:=look_D hp e;exact⟨dd.typeIs,wpAny_getItem_of (Jl (k:=.inr k) ry) dd.mapOf hu ⟨v,H2,I2.tok _,ru,q2⟩⟩⟩
def uKD(ks:List (Str×T))(ub:UE):UE:=λρ M Q=>ub ρ M λy M1=>∃k t,y=.p (.str k)/\ks.lookup k=some t/\Q (.p t) M1
theorem Ga:∀{kvs:List (Str×V)}{ks:List (Str×T)},Paired (λ(a:Str×V) (b:Str×T)=>a.1=b.1/\Sc a.2 b.2) kvs ks->ks.lookup k=some t->∃v,kvs.lookup k=some v/\Sc v t
 |_,_, .nil,e=>by simp at e
 | (a,b)::kvs,(c,d)::ks, .cons ⟨e1,e2⟩ q,e=>by
  have e1:a=c:=e1;subst e1;rw[UD] at e ⊢;cases h:k==a with
  |true=>rw[h] at e; cases e; exact⟨b,rfl,e2⟩
  |false=>rw[h] at e; exact Ga q e
theorem ce_kd(h:Paired (λ(a:Str×V) (b:Str×T)=>a.1=b.1/\Sc a.2 b.2) kvs ks)(hb:ZE tb ub):ZE (tKD kvs tb) (uKD ks ub):=⟨λA ι σ H ρ M Qu Q w e q k =>
 hb.h A ι σ H ρ M _ _ w e q λy M1 ι1 v H1 l1 w1 r1 ⟨kk,t,ey,el,q1⟩=>by
  subst ey;cases r1 with
  |p r =>
  cases r;obtain⟨v,h1,h2⟩:=Ga h el;exact⟨kk,v,rfl,h1,k _ M1 ι1 _ H1 l1 w1 (.p h2.rep) q1⟩⟩
end
mutual
def toD:T->PyData
 |.non=>.none
 |.bl b=>.bool b
 |.int i=>.int i
 |.str x=>.str x
 |.tup xs=>.tuple (toDs xs)
 |.lst xs=>.list (toDs xs)
def toDs:List T->List PyData
 | []=>[]
 |x::xs=>toD x::toDs xs
end
mutual
theorem noD:∀t:T,(toD t).hasDict=false
 |.non=>rfl
 |.bl _=>rfl
 |.int _=>rfl
 |.str _=>rfl
 |.tup xs=>noDs xs
 |.lst xs=>noDs xs
theorem noDs:∀ts:List T,PyData.hasDictAll (toDs ts)=false
 | []=>rfl
 |x::xs=>by show((toD x).hasDict||PyData.hasDictAll (toDs xs))=false; rw[noD x,noDs xs]; rfl
end
section
theorem xf{h:Heap}:∀{vs:List V}{ts:List T}{us:List Value},Vals vs us->vs.length=ts.length->(∀(i:Nat) v t,vs[i]?=some v->ts[i]?=some t->∀u,RelV v u->∃as,Reads h u (toD t) as)->∃as,ReadsAll h us (toDs ts) as
 | [], [],_, .nil,_,_=>⟨_, .nil⟩
 |v::vs,t::ts,_, .cons r q,hl,ih=>by
  obtain⟨as,h1⟩:=ih 0 v t rfl rfl _ r;obtain⟨bs,h2⟩:=xf q (by simpa using hl) λi v t e1 e2=>ih (i+1) v t (by simpa using e1) (by simpa using e2);exact⟨_, .cons h1 h2⟩
theorem Vw{A:Addr->Prop}{v:V}{t:T}(I:Inv X pins σ H s)(r:RepT A H v t):∀u,RelV v u->∃as,Reads s.heap u (toD t) as:=by
 induction r with
 |non=>intro u e; cases e; exact⟨_, .none⟩
 |bl b=>intro u e; cases e; exact⟨_, .bool b⟩
 |int i=>intro u e; obtain⟨t,rfl⟩:=e; exact⟨_, .int i t⟩
 |str x=>intro u e; obtain⟨t,rfl⟩:=e; exact⟨_, .str x t⟩
 |tup na e l r ih =>
  intro u eu;cases eu;obtain⟨its,rv,⟨o,h1,h2,n,h3⟩,_⟩:=I.tuple (SqT.of e);obtain⟨as,q⟩:=xf (h:=s.heap) rv l ih;exact⟨_, .tuple h1 h2 h3 (by simpa using q)⟩
 |lst na e l r ih =>
  intro u eu;cases eu;obtain⟨its,rv,pl,_⟩:=I.list (SqL.of e);obtain⟨o,h1,h2,n,h3⟩:=pl.isList;obtain⟨as,q⟩:=xf (h:=s.heap) rv l ih;exact⟨_, .list h1 h2 h3 (by simpa using q)⟩
structure ShowT(t:T):Prop where
 sh:(toD t).showable=true
 dp:(toD t).depth<=60
 sz:(toD t).shown.length<=sizeLine
def rRepr:List V->Hp->VK->Prop:=λxs H Q=>∃(A:Addr->Prop)(v:V)(t:T),xs=[v]/\RepV A H v t/\ShowT t/\Q (.str (toD t).shown) H
theorem Xg(hg:X.A.guards=some [])(hu:X.A.units+64<cLine):xG X (.builtin "repr") rRepr:=by
 intro pins s σ H xs us Q I r h;obtain⟨A,v,t,rfl,rv,ok,q⟩:=h;obtain⟨u,rfl,ru⟩:=Xr r;have big:∀(a:Addr)(as:List Addr),Reads s.heap (.ref a) (toD t) as->wpAny (model X.prog X.w) X.A (call (.builtin "repr") [.ref a]) (EP X pins σ Q) X.xe s:=λa as rd =>
  repr_of_reads' rd ok.sh (PyData.noDict_hsm (noD t)) hg (by have:=ok.dp; lia) (λ_ _ e=>e) (λh' u tk hk=>⟨.str _,H,I.kept (t':=tk) hk,⟨_,rfl⟩,q⟩) ok.sz
 cases rv with
 |of r =>
  obtain⟨as,rd⟩:=Vw I r u ru;cases r with
  |non=>cases ru; exact PySem.P.repr_of_none ⟨.str _,H,I.tok _,⟨_,rfl⟩,q⟩
  |bl b=>cases ru; exact PySem.P.repr_of_bool ⟨.str _,H,I.tok _,⟨_,rfl⟩,q⟩
  |int i =>
   obtain⟨t,rfl⟩:=ru;exact PySem.P.repr_of_int (of_decide_eq_true ok.sh) ⟨.str _,H,I.tok _,⟨_,rfl⟩,q⟩
  |str x =>
   obtain⟨t,rfl⟩:=ru;exact PySem.P.repr_of_str ⟨.str _,H,I.tok _,⟨_,rfl⟩,q⟩ ok.sz
  |tup=>cases ru; exact big _ _ rd
  |lst=>cases ru; exact big _ _ rd
 |lst e rr =>
  cases ru;obtain⟨its,rv,pl,_⟩:=I.list (SqL.of e);obtain⟨o,h1,h2,n,h3⟩:=pl.isList;obtain⟨as,q⟩:=xf (h:=s.heap) rv rr.len λi v t e1 e2=>Vw I (Paired.get2 rr e1 e2);exact big _ _ (.list h1 h2 h3 (by simpa using q))
 |tup e rr =>
  cases ru;obtain⟨its,rv,⟨o,h1,h2,n,h3⟩,_⟩:=I.tuple (SqT.of e);obtain⟨as,q⟩:=xf (h:=s.heap) rv rr.len λi v t e1 e2=>Vw I (Paired.get2 rr e1 e2);exact big _ _ (.tuple h1 h2 h3 (by simpa using q))
def sRepr:List T->(T->Prop)->Prop:=λts Q=>∃t,ts=[t]/\ShowT t/\Q (.str (toD t).shown)
theorem KF:CbL rRepr sRepr:=λA ι H M vs ts Qs Q w r ⟨t,e,ok,q⟩ k=>by
 subst e;obtain⟨v,ev,r1⟩:=pv1 r;subst ev;exact⟨_,v,t,rfl,r1,ok,k _ ι _ H (.refl _ _) w (.str _) q⟩
theorem Y2{t:T}{Q:T->Prop}:sRepr [t] Q=(ShowT t/\Q (.str (toD t).shown)):=propext ⟨λ⟨_,e,h⟩=>by cases e; exact h,λh=>⟨t,rfl,h⟩⟩
theorem b_repr:bootBuiltins "repr" = some (.builtin "repr"):=by decide +kernel
end
section
theorem Wd.takeA(w:Wd (λx=>A x\/x=p) ι H M)(ha:¬A p)(hp:H p=some (.lst ys))(r:RepTs (Av (λx=>A x\/x=p) ι) H ys ts):Wd A (ι++[p]) H (M++[.lst (ts.map U.p)])/\p∉ι:=by
 have np:p∉ι:=λz=>w.na p z (.inr rfl);have hl:Lea (λx=>A x\/x=p) ι H A (ι++[p]) H:=⟨⟨[p],rfl⟩,λx o hx e=>⟨e,λz=>hx (z.elim (λz=>.inl (.inl z)) λz=>(Uu.mp z).elim .inr λz=>.inl (.inr (Us.mp z)))⟩,λx fs hx e=>⟨λz=>(Uu.mp z).elim hx λz=>(by rw[Us.mp z,hp] at e; cases e),e⟩⟩;refine⟨⟨Dp.mpr ⟨w.nd,by simp,λa ha b hb=>by rw[Us.mp hb]; exact λz=>np (by rw[<-z]; exact ha)⟩,by simp[w.len],λx hx=>w.dom x (.inl hx),λx hx z=>?_,λk a ob e1 e2=>?_⟩,np⟩
 ·rcases Uu.mp hx with h|h
  ·exact w.na x h (.inl z)
  ·rw[Us.mp h] at z; exact ha z
 ·by_cases hk:k<ι.length
  ·rw[Ui hk] at e1
   rw[Ui (by rw[<-w.len]; exact hk)] at e2;have q:=w.obj k a ob e1 e2;cases ob with
   |lst=>obtain⟨vs,e,q⟩:=q; exact⟨vs,e,Paired.mapP q λ_ _ q=>q.lea hl⟩
   |tup=>obtain⟨vs,e,q⟩:=q; exact⟨vs,e,Paired.mapP q λ_ _ q=>q.lea hl⟩
   |ins =>
    obtain⟨dx,gs,e,ed,nd,q⟩:=q;refine⟨dx,gs,e,ed,λz=>?_,Paired.mapP q λ_ _ q=>⟨q.1,q.2.lea hl⟩⟩;rcases Uu.mp z with z|z
    ·exact nd z
    ·rw[Us.mp z,hp] at ed; cases ed
   |dK=>obtain⟨gs,e,q⟩:=q; exact⟨gs,e,Paired.mapP q λ_ _ q=>⟨q.1,q.2.lea hl⟩⟩
   |dF=>obtain⟨e,q⟩:=q; exact⟨e,Paired.mapP q λ_ _ q=>⟨q.1,q.2.lea hl⟩⟩
  ·have hk2:=(Ue.mp e1).1
   rw[Uj,Dd] at hk2;have:k=ι.length:=by lia
   subst this;rw[Uq (Uk _),DL] at e1;rw[w.len,Uq (Uk _),DL] at e2;simp at e1 e2;subst e1 e2;exact⟨ys,hp,RepTs.ups (Paired.mapP r λ_ _ q=>q.mono hl.av)⟩
theorem Le.pushed{H H':Hp}{ι ι':List Addr}{p:Addr}(l:Le ι H ι' H')(h:H p=none)(_:p∉ι'):Le ι H (ι'++[p]) H':=by
 obtain⟨m,rfl,hm⟩:=l.ext;refine⟨⟨m++[p],by rw[UL],λx hx=>?_⟩,l.fr,l.al⟩;rcases Uu.mp hx with z|z
 ·exact hm x z
 ·rw[Us.mp z]; exact h
def UCompN(it:UIt)(ug:UG)(ut:UT)(ue:UE)(ρ0:UEnv)(M1:MM)(Q:UK):Prop:=it.n<=sizeLine/\∃Iv:Nat->List T->MM->Prop,Iv 0 [] M1 /\
 (∀i acc M2,i<it.n->acc.length<=i->Iv i acc M2->it.ok M2/\∀u,it.item i u->ug u ρ0 M2 λρ4 M4=>ut ρ4 M4 λb M5=>if b=true then ue ρ4 M5 λz M6=>∃t,z=.p t/\Iv (i+1) (acc++[t]) M6 else Iv (i+1) acc M5) /\
 (∀acc M2,Iv it.n acc M2->it.ok M2/\Q (.m M2.length) (M2++[.lst (acc.map U.p)]))
def Yu(ui:UI)(bs:List Bool)(n:Nat)(ug:UG)(ut:UT)(ue:UE):UE:=λρ M Q=>ui ρ M λit M1=>ρ.length=bs.length/\UCompN it ug ut ue (K3 bs n ρ) M1 Q
theorem ce_compN(hi:ZI wi ui)(hg:ZX bs n g ug)(ht:ZT tt ut)(he:ZE te ue):ZE (xO wi bs n g tt te) (Yu ui bs n ug ut ue):=⟨by
 intro A ι σ H ρ M Qu Q w e q k;refine hi.h A ι σ H ρ M _ _ w e q λit M1 ι1 J H1 l1 w1 hJ q1 acc hacc=>?_;obtain⟨hlen,hsz,Iv,I0,It,Id⟩:=q1;have hσ:σ.length=bs.length:=by rw[<-hlen]; exact e.len
 have e1:=e.le l1;have na:¬Av A ι1 acc:=w1.nA hacc;have key:∀ι2 H2,Le ι1 H1 ι2 H2->(∀x∈ι2,¬(A x\/x=acc))->Lea A ι1 H1 (λx=>A x\/x=acc) ι2 H2:=λι2 H2 l h=>by
  refine⟨let⟨n,e,_⟩:=l.ext; ⟨n,e⟩,λx o hx ex=>?_,l.xd⟩;obtain⟨a1,a2⟩:=l.av hx ex;refine⟨a1,λz=>?_⟩;rcases z with(z|z)|z
  ·exact a2 (.inl z)
  ·rw[z,hacc] at ex; cases ex
  ·exact a2 (.inr z)
 refine⟨λi m H2=>m=it.n-i/\i<=it.n/\∃ι2 M2 at' ys,Le ι1 H1 ι2 H2/\Wd (λx=>A x\/x=acc) ι2 H2 M2/\H2 acc=some (.lst ys)/\RepTs (Av (λx=>A x\/x=acc) ι2) H2 ys at'/\at'.length<=i/\Iv i at' M2,
  ⟨it.n,by simp,UY _,ι1,M1, [], [], .fresh hacc,w1.addA hacc,upd_same, .nil,Uk _,I0⟩, ?_⟩
 rintro i m H2 ⟨rfl,hin,ι2,M2,at',ys,l2,w2,hys,rys,hat,I2⟩;have lea:=key ι2 H2 l2 w2.na;by_cases hlt:i<it.n
 ·obtain⟨ok,step⟩:=It i at' M2 hlt hat I2
  obtain⟨jgo,jy⟩:=(hJ _ ι2 H2 M2 i lea w2 ok).1 hlt;refine .inr ⟨jgo,λH'=>∃ι2 M2 at' ys,Le ι1 H1 ι2 H'/\Wd (λx=>A x\/x=acc) ι2 H' M2/\H' acc=some (.lst ys)/\RepTs (Av (λx=>A x\/x=acc) ι2) H' ys at'/\at'.length<=i+1/\Iv (i+1) at' M2,λH' h=>⟨it.n-(i+1),by lia,rfl,hlt,h⟩,λx H3 y=>?_⟩;obtain⟨u,hu,l3,w3,r3⟩:=jy x H3 y;have l13:=l2.trans l3;have nacc:∀{ι':List Addr}{H':Hp}{M':MM},Wd (λx=>A x\/x=acc) ι' H' M'->acc∉ι':=λw z=>w.na acc z (.inr rfl);have ys3:H3 acc=some (.lst ys):=l3.fr _ _ hys (nacc w2);have env3:EnvR (λx=>A x\/x=acc) ι2 H3 (zr bs n σ) (K3 bs n ρ):=(e1.mask).lea (key ι2 H3 l13 w3.na);refine hg.h _ ι2 σ H3 _ M2 x u _ _ hσ w3 env3 r3 (step u hu) λρ4 σ4 e4 x4 len4 q4=>⟨⟨x4,len4⟩, ?_⟩;refine ht.h _ ι2 σ4 H3 ρ4 M2 _ _ w3 e4 q4 λb M5 ι5 H5 l5 w5 q5=>?_;have ys5:H5 acc=some (.lst ys):=l5.fr _ _ ys3 (nacc w3);have rys5:RepTs (Av (λx=>A x\/x=acc) ι5) H5 ys at':=Paired.mapP rys λ_ _ q=>(q.le l3).le l5;cases b with
  |false=>exact⟨ι5,M5,at',ys,l13.trans l5,w5,ys5,rys5,Rj hat,q5⟩
  |true =>
   refine he.h _ ι5 σ4 H5 ρ4 M5 _ _ w5 (e4.le l5) q5 λz M6 ι6 zv H6 l6 w6 r6 q6=>?_;obtain⟨t,rfl,q6⟩:=q6;have ys6:H6 acc=some (.lst ys):=l6.fr _ _ ys5 (nacc w5);refine⟨ys,ys6, ?_,ι6,M6,at'++[t],ys++[zv],((l13.trans l5).trans l6).updF hacc,(w6.updA (.inr rfl) ys6).2,upd_same, ?_,by rw[Uj,Dd]; lia,q6⟩
   ·rw[rys.len]; lia
   ·have hl:=(w6.updA (o:=.lst (ys++[zv])) (.inr rfl) ys6).1
    cases r6 with
    |p r6=>exact Paired.app (Paired.mapP rys5 λ_ _ q=>(q.le l6).mono hl.av) (.cons (r6.mono hl.av) .nil)
 ·have ei:i=it.n:=by lia
  subst ei;obtain⟨ok,fin⟩:=Id at' M2 I2;obtain⟨w3,l3⟩:=w2.takeA (λz=>na (.inl z)) hys rys;exact .inl ⟨(hJ _ ι2 H2 M2 _ lea w2 ok).2 rfl,k _ _ (ι2++[acc]) _ H2 (l1.trans (l2.pushed hacc l3)) w3 (.m (by rw[<-w2.len]; exact xy)) fin⟩⟩
theorem UComp.new{M1:MM}(h:UComp it ug ut ue ρ0 M1 R)(k:∀acc M2,R (.p (.lst acc)) M2->Q (.m M2.length) (M2++[.lst (acc.map U.p)])):UCompN it ug ut ue ρ0 M1 Q:=by
 obtain⟨hz,Iv,h0,hs,hd⟩:=h;exact⟨hz,Iv,h0,hs,λacc M2 h=>⟨(hd acc M2 h).1,k acc M2 (hd acc M2 h).2⟩⟩
def LiN(us:List U)(M:MM)(Q:UK):Prop:=∃x ys,us=[x]/\(vg M x=some ys\/v3 M x=some ys)/\Q (.m M.length) (M++[.lst ys])
def JO(ul:UA):UE:=λρ M Q=>ul ρ M λus M1=>LiN us M1 Q
theorem KB(ha:ZA n tl ul):ZE (tCB (λxs H Q=>∃p ys,xs=[.ref p]/\(SqL Ξ H p ys\/SqT Ξ H p ys)/\∀l,H l=none->Q (.ref l) (upd H l (.lst ys))) tl) (JO ul):=⟨λA ι σ H ρ M Qu Q w e q k =>
 ha.h A ι σ H ρ M _ _ w e q λus M1 ι1 vs H1 l1 w1 hn r1 ⟨x,ys,eu,hy,q1⟩=>by
  subst eu;cases r1 with
  |cons r q' =>
  cases q';rcases hy with hy|hy
  ·obtain⟨p,zs,rfl,h1,h2⟩:=vM w1 r hy
   exact⟨p,zs,rfl, .inl (SqL.of h1),λl hl=>k _ _ _ _ _ (l1.trans (.push hl)) (zG w1 hl h2).1 (zG w1 hl h2).2 q1⟩
  ·obtain⟨p,zs,rfl,h1,h2⟩:=zz w1 r hy
   exact⟨p,zs,rfl, .inr (SqT.of h1),λl hl=>k _ _ _ _ _ (l1.trans (.push hl)) (zG w1 hl h2).1 (zG w1 hl h2).2 q1⟩⟩
def JQ(G:List T->(T->Prop)->Prop)(ul:UA):UE:=λρ M Q=>ul ρ M λus M1=>∃ts,frzs (frzN 6 M1) us=some ts/\G ts λt=>(∃x,vt t=some x)/\Q (.p t) M1
theorem KD(ha:ZA n tl ul):ZE (zT (spP G) [] E tl) (JQ G ul):=⟨λA ι σ H ρ M Qu Q w e q k =>
 ha.h A ι σ H ρ M _ _ w e q λus M1 ι1 vs H1 l1 w1 hn r1 ⟨ts,et,q1⟩=>by
  rw[UR];refine⟨A,ts,_,w1.dom,kA r1 (λv u t r e=>Qx w1 r e) et,q1,λt v H2 s r2 ⟨⟨x,hx⟩,q2⟩=>k _ M1 ι1 v H2 (l1.trans s.le) (w1.same s) (.p ?_) q2⟩;cases(RepV.of r2).sc (y:=.non) hx;exact(j5 hx).rep⟩
def Me0S(s:List U->List U->(U->List U->Prop)->Prop)(o:U)(M:MM)(Q:UK):Prop:=∃k us,o=.m k/\M[k]?=some (.lst us)/\s us [] λz us'=>Q z (M.set k (.lst us'))
def uMe0(s:List U->List U->(U->List U->Prop)->Prop)(uo:UE):UE:=λρ M Q=>uo ρ M λo M1=>Me0S s o M1 Q
theorem ce_me0(h:MeL r s)(ha:ZE ta ua):ZE (tBM0 Ξ "list" r ta) (uMe0 s ua):=⟨λA ι σ H ρ M Qu Q w e q k =>
 ha.h A ι σ H ρ M _ _ w e q λo M1 ι1 v H1 l1 w1 r1 ⟨kk,us,eo,hz,q1⟩=>by
  subst eo;cases r1 with
  |m ek =>
  rename_i a;obtain⟨xs1,h1,h2⟩:=w1.obj kk a _ ek hz;have hm:=Uh ek;exact⟨.inl ⟨rfl,xs1,SqL.of h1⟩,h A ι1 H1 M1 kk a xs1 [] us [] _ Q w1 ek h1 hz h2 .nil q1 λz us' zv xs' rx rz qz=>k z _ ι1 zv _ (l1.trans (.put hm)) (w1.put (mo:=.lst us') ek ⟨xs',upd_same,RepUs.le (.put hm) rx⟩) (rz.le (.put hm)) qz⟩⟩
end
section
def SqB(b:Bool)(Ξ:PySem.W.Frag)(H:Hp)(a:Addr)(xs:List V):Prop:=match b with
 |true=>SqL Ξ H a xs
 |false=>SqT Ξ H a xs
def ItB(b:Bool)(h:Heap)(it a:Addr)(i:Nat):Prop:=match b with
 |true=>h.IsListIter it a i
 |false=>h.IsTupleIter it a i
theorem ItB.ex(x:ItB b h it a i):∃o vs,h.get? it=some o/\o.data=.fields vs:=by
 cases b
 ·obtain⟨o,e,_,d⟩:=(show h.IsTupleIter it a i from x); exact⟨o,_,e,d⟩
 ·obtain⟨o,e,_,d⟩:=(show h.IsListIter it a i from x); exact⟨o,_,e,d⟩
theorem ItB.at(x:ItB b h it a i)(k:∀o,h.get? it=some o->h'.get? it=some o):ItB b h' it a i:=by
 cases b
 ·obtain⟨o,e,r⟩:=(show h.IsTupleIter it a i from x); exact⟨o,k o e,r⟩
 ·obtain⟨o,e,r⟩:=(show h.IsListIter it a i from x); exact⟨o,k o e,r⟩
end
section
variable {P:Program} {w:World} {A:Around} {E:Value->Shared->Prop} {s:Shared} {κ:Type} [DecidableEq κ]
def TextT(P:Program)(w:World)(t:Sem Value)(x:Str):Prop:=∀(A:Around)(E:Value->Shared->Prop)(s:Shared)(Q:Value->Shared->Prop),(∀tk t',Q (.str x t') { s with toks:=tk })->wpAny (model P w) A t Q E s
inductive TextPs(P:Program)(w:World):List (Sem Value×Sem Value)->List (Str×Str)->Prop
 |nil:TextPs P w [] []
 |cons {k v:Sem Value} {x y:Str} {ps:List (Sem Value×Sem Value)} {zs:List (Str×Str)} (hk:TextT P w k x) (hv:TextT P w v y) (r:TextPs P w ps zs):TextPs P w ((k,v)::ps) ((x,y)::zs)
theorem TextPs.len(h:TextPs P w ps zs):ps.length=zs.length:=by
 induction h with
 |nil=>rfl
 |cons _ _ _ ih=>rw[Ul,Ul,ih]
inductive TextV:List (Key×Value)->List (Str×Str)->Prop
 |nil:TextV [] []
 |cons {x y:Str} {t:Tok} {l:List (Key×Value)} {zs:List (Str×Str)} (r:TextV l zs):TextV ((.inr x, .str y t)::l) ((x,y)::zs)
theorem TextV.keys(h:TextV l zs):l.map (·.1)=zs.map λz=>Key.inr z.1:=by
 induction h with
 |nil=>rfl
 |cons _ ih=>rw[Uy,Uy,ih]
theorem TextV.len(h:TextV l zs):l.length=zs.length:=by
 have:=congrArg List.length h.keys;simpa using this
end
section
inductive ConstPs:List (Option Expr)->List Expr->List (Str×Str)->Prop
 |nil:ConstPs [] [] []
 |cons {x y:Str} {j j':Nat} {p p':Pos} {ks:List (Option Expr)} {vs:List Expr} {zs:List (Str×Str)} (r:ConstPs ks vs zs):ConstPs (some (.Constant (.str x) j p)::ks) (.Constant (.str y) j' p'::vs) ((x,y)::zs)
theorem ConstPs.all(h:ConstPs ks vs zs):ks.all (·.isSome)=true/\ks.length=vs.length:=by
 induction h with
 |nil=>exact⟨rfl,rfl⟩
 |cons _ ih=>exact⟨by rw[Rp,ih.1]; rfl,by rw[Ul,Ul,ih.2]⟩
theorem TextV.kv(h:TextV l zs):KV (zs.map λz=>((.inr z.1:Key),V.str z.2)) l:=by
 induction h with
 |nil=>exact .nil
 |cons _ ih=>exact .cons ⟨rfl,_,rfl⟩ ih
end
def sNotB:T->T->(T->Prop)->Prop:=λa b Q=>∃x y:Bool,a=.bl x/\b=.bl y/\Q (.bl (x != y))
theorem opl_notB:OpL (λx y H Q=>∃b c:Bool,x=.bl b/\y=.bl c/\Q (.bl (b != c)) H) sNotB:=λA ι H M x y a b Qs Q w r1 r2 ⟨u,v,ea,eb,q⟩ k=>by
 subst ea eb;cases r1 with
 |of r1 =>
 cases r2 with
 |of r2 =>
 cases r1;cases r2;exact⟨u,v,rfl,rfl,k _ ι _ _ (.refl _ _) w (.bl _) q⟩
section
def rMinL(Ξ:PySem.W.Frag):List V->Hp->VK->Prop:=λxs H Q=>∃(l:Addr)(ns:List Int),xs=[.ref l]/\SqL Ξ H l (ns.map V.int)/\0<ns.length/\∀M,M∈ns->(∀a∈ns,M<=a)->Q (.int M) H
theorem Xh(hK:X.K=Ξ)(hc:X.calm=true):xG X (.builtin "min") (rMinL Ξ):=by
 subst hK;intro pins s σ H xs us Q I r h;obtain⟨l,ns,rfl,hl,h0,q⟩:=h;obtain⟨u,rfl,rx⟩:=Xr r;cases rx;obtain⟨its,r',pl,hz⟩:=I.list hl;obtain⟨m,F,W,fin⟩:=I.ledger;exact min_list_N (I.ok.hd hc) F W pl.isList (Yb r') h0 λh' M t tk F' W' hM hall=>⟨.int M,H,fin h' tk F' W',⟨_,rfl⟩,q M hM hall⟩
end
section
theorem ints_inv:∀{ss:List Int}{A:Addr->Prop}{H:Hp}{vs:List V},RepTs A H vs (ss.map T.int)->vs=ss.map V.int
 | [],_,_,_, .nil=>rfl
 |s::ss,_,_,_, .cons r q=>by cases r; rw[ints_inv q]; rfl
def sMinL:List T->(T->Prop)->Prop:=λts Q=>∃ss:List Int,ts=[.lst (ss.map T.int)]/\0<ss.length/\∀M,M∈ss->(∀a∈ss,M<=a)->Q (.int M)
theorem KG:CbL (rMinL Ξ) sMinL:=λA ι H M vs ts Qs Q w r ⟨ss,e,h0,q⟩ k=>by
 subst e;obtain⟨v,ev,r1⟩:=pv1 r;subst ev;obtain⟨p,zs,rfl,h1,h2⟩:=r1.lst_inv;cases ints_inv h2;exact⟨p,ss,rfl,SqL.of h1,h0,λM a b=>k _ ι _ _ (.refl _ _) w (.int M) (q M a b)⟩
end
end L2
namespace L2
open PySem PySem.Spec PyProof.Rows PySem.W
section
theorem ObjOk.there(x:ObjOk P w H h a o):∃u,h.get? a=some u:=by
 cases o with
 |lst xs=>obtain⟨_,_,_,_,e⟩:=x; exact⟨_,e⟩
 |tup xs=>obtain⟨_,_,_,o,e,_⟩:=x; exact⟨_,e⟩
 |dK kvs=>obtain⟨_,_,_,_,o,_,_,e,_⟩:=x; exact⟨_,e⟩
 |dT kvs=>obtain⟨_,_,_,_,o,_,_,e,_⟩:=x; exact⟨_,e⟩
 |set S n=>obtain⟨o,_,_,_,e,_⟩:=x; exact⟨_,e⟩
 |ins C dx fs=>obtain⟨_,_,_,e,_⟩:=x; exact⟨_,e⟩
 |own y=>obtain⟨_,e⟩:=x; exact⟨_,e⟩
 |xd fs=>obtain⟨_,⟨_,_,_,e,_⟩,_⟩:=x; exact⟨_,e⟩
 |rng lo hi=>obtain⟨_,_,_,e⟩:=x; exact⟨_,e⟩
 |frz ob u=>obtain⟨e,_⟩:=x; exact⟨_,e⟩
 |tbl ps=>exact⟨_,x⟩
 |met f y=>exact⟨_,x⟩
 |ext φ=>obtain⟨_,⟨_,e⟩,_⟩:=x; exact⟨_,e⟩
end
section
theorem rel_key(h:(vo P w).is k v=true):RelV (kV k) v:=by
 rcases vc h with⟨i,t,rfl,rfl⟩|⟨x,t,rfl,rfl⟩|⟨rfl,rfl⟩
 ·exact⟨t,rfl⟩
 ·exact⟨t,rfl⟩
 ·rfl
theorem Inv.freeze(I:Inv X pins σ H s)(e:H d=some (.dK kvs)):∃o,s.heap.get? d=some o/\Inv X pins σ (upd H d (.frz o (.dK kvs))) s:=by
 obtain⟨o,ho⟩:=(I.hok d _ e).there;have ne:∀{b:Addr}{u:HO},H b=some u->(∀k,u ≠ .dK k)->b≠d:=λhb hu z=>by
  subst z;rw[e] at hb;cases hb;exact hu _ rfl
 refine⟨o,ho,I.step (ch:=[]) (h':=s.heap) (g':=s.gens) (t':=s.toks) (d':=s.drawn) (λb hb=>nomatch hb) (λb o _ _ _ e _=>e) (λb o _ _ _ e _=>⟨o.slots,e⟩) (λb o' _ _ z=>?_) (λb o _ e=>⟨o,e⟩) (λb xs q=>?_) (λb o u q=>?_) (λb ps q=>⟨#[], ?_⟩) (λm h=>h) (λa u q=>?_) I.bare⟩
 ·rw[upd_ne λz'=>by rw[z',e] at z; cases z]; exact z
 ·rw[upd_ne (ne q λk z=>by cases z)]; exact q
 ·rw[upd_ne (ne q λk z=>by cases z)]; exact q
 ·rw[upd_ne (ne q λk z=>by cases z)]; simpa using q
 ·have own:∀c x,H c=some (.own x)->upd H d (.frz o (.dK kvs)) c=some (.own x):=λc x q=>by rw[upd_ne (ne q λk z=>by cases z)]; exact q
  have tup:∀c xs,H c=some (.tup xs)->upd H d (.frz o (.dK kvs)) c=some (.tup xs):=λc x q=>by rw[upd_ne (ne q λk z=>by cases z)]; exact q
  by_cases ha:a=d
  ·subst ha
   rw[upd_same] at q;cases q;exact⟨ho,(I.hok a _ e).stay (λb u _ q=>q) (λc q=>own c _ q) λc xs q=>tup c xs q⟩
  ·rw[upd_ne ha] at q
   exact(I.hok a u q).stay (λb u _ q=>q) (λc q=>own c _ q) λc xs q=>tup c xs q
def Itd(vals:Bool)(d:Addr)(o:Obj)(kvs:List (Key×V)):It :=
 ⟨λi H=>H d=some (.frz o (.dK kvs))/\i<kvs.length,λi H x H'=>H'=H/\∃k v,kvs[i]?=some (k,v)/\x=(if vals then v else kV k),λi H=>H d=some (.frz o (.dK kvs))/\kvs.length<=i⟩
theorem GN(hep:o.data=.dict es ep)(I:Inv X pins σ H s)(h:H d=some (.frz o (.dK kvs))):∃vs,KV kvs vs/\s.heap.DictAt (vo X.prog X.w) d vs ep:=by
 obtain⟨ho,_,_,vs,rel,o',es',ep',ho',hx,hd,r⟩:=I.hok d _ h;rw[ho] at ho';cases ho';rw[hep] at hd;cases hd;exact⟨vs,rel,o,es,ho,hx,hep,r⟩
theorem Yz(hne:d≠it)(hep:o.data=.dict es ep):Turn P w Ξ tg (Itd false d o kvs) [it] it (λi h=>h.IsKeyIter it d i kvs.length ep) where
 mem:=by simp
 obj:=λi h st b hb=>by
  have e:b=it:=by simpa using hb
  subst e;obtain⟨o,e,c,d⟩:=st;exact⟨o,e,λv z=>by rw[d] at z; cases z⟩
 keep:=λi h h' st k=>st.at λo e=>k it (by simp) o e
 item:=by
  intro X hP hw hK hc i pins s σ H E I hf st hg;subst hP hw hK;obtain⟨hH,hi⟩:=hg;obtain⟨vs,rel,dd⟩:=GN hep I hH;have hl:kvs.length=vs.length:=KV.length rel;rw[hl] at st;obtain⟨f0,f1,f2,f3,f4,f5⟩:=hf it (by simp);have hv:vs[i]?=some (vs[i]'(by lia)):=Uf _;obtain⟨⟨k,v⟩,hk,hkv⟩:∃p,kvs[i]?=some p/\p.1=(vs[i]'(by lia)).1:=by
   have hk:kvs[i]?=some (kvs[i]'hi):=Uf _;exact⟨_,hk,(Paired.get2 rel hk hv).1⟩
  refine wpAny_pyNext_dict_item st dd (k:=(vs[i]'(by lia)).1) (v:=(vs[i]'(by lia)).2) hv λkey h' hkey st' hs'=>?_;have I1:Inv X pins σ H { s with heap:=h' }:=I.turned (t':=s.toks) (λb o hb e=>hs'.extBut b o hb e) f0 f1 f3 f4 f5;rw[<-hl] at st';obtain⟨o,e,c,d⟩:=id st';exact⟨key,rfl,go_of (s:={ s with heap:=h' }) e c d (by decide) ⟨kV k,H,I1,by rw[show k=_ from hkv]; exact rel_key hkey,⟨rfl,k,v,hk,rfl⟩,st',λb hb=>(hf b hb).1⟩⟩
 done:=by
  intro X hP hw hK hc i pins s σ H E I hf st hg;subst hP hw hK;obtain⟨hH,hi⟩:=hg;obtain⟨vs,rel,dd⟩:=GN hep I hH;have hl:kvs.length=vs.length:=KV.length rel;rw[hl] at st;obtain⟨f0,f1,f2,f3,f4,f5⟩:=hf it (by simp);exact wpAny_pyNext_dict_end (I.ok.hd hc) st dd (by first|lia|(simp; lia)) λh' eb=>⟨rfl,I.turned (t':=s.toks) (λb o hb e=>eb b o hb e) f0 f1 f3 f4 f5⟩
 self:=λ_ _ _ _ _ st h=>wpAny_pyIter_keyiter st h
end
section
def iDict(tl:TE):TI:=λσ H R=>tl σ H λx H1=>∃d,x=.ref d/\((∃kvs,H1 d=some (.dK kvs)/\∀o,R (Itd false d o kvs) (upd H1 d (.frz o (.dK kvs))))\/∃o kvs,H1 d=some (.frz o (.dK kvs))/\R (Itd false d o kvs) H1)
theorem qi_dict(hl:QE X l tl):QI X tg l (iDict tl):=⟨by
 intro pins s σ H R I h;refine thn (hl.h pins s σ H _ I h) λv s1 ⟨x,H1,I1,r1,q1⟩=>?_;obtain⟨d,e,q⟩:=q1;subst e;cases r1;have go:∀(o:Obj)(kvs:List (Key×V))(H2:Hp),Inv X pins σ H2 s1->H2 d=some (.frz o (.dK kvs))->R (Itd false d o kvs) H2->wpAny (model X.prog X.w) X.A (pyIter (.ref d)) (PIE X pins σ tg R) X.xe s1:=λo kvs H2 I2 hH q=>by
  obtain⟨ho,hz,hsys,vs,rel,o',es,ep,ho',hx,hd,r⟩:=id (I2.hok d _ hH);rw[ho] at ho';cases ho';obtain⟨vs',rel',dd⟩:=GN hd I2 hH;have hl.h:kvs.length=vs'.length:=KV.length rel';refine wpAny_pyIter_dict hsys dd ?_;rw[<-hl.h];refine⟨s1.heap.objs.size, [s1.heap.objs.size],_,_,H2,rfl,I2.kept (t':=s1.toks) λb o e=>Heap.get?_push_of_some _ e,Yz (UF (Heap.lt_size ho)) hd,⟨_,Heap.get?_push_size _ rfl,rfl,rfl⟩,λb hb=>?_,q⟩;have e:b=s1.heap.objs.size:=by simpa using hb
  subst e;exact I2.fpOk (Uk _) (I2.hok.fresh (Uk _))
 rcases q with⟨kvs,hH,q⟩|⟨o,kvs,hH,q⟩
 ·obtain⟨o,ho,I2⟩:=I1.freeze hH
  exact go o kvs _ I2 upd_same (q o)
 ·exact go o kvs H1 I1 hH q⟩
end
section
def itD(vals:Bool)(k:Nat)(kvs:List (Key×U))(ob:Obj)(gs:List (Key×V)):UIt:=⟨kvs.length,λM=>M[k]?=some (.dF kvs ob gs),λi z=>∃key v,kvs[i]?=some (key,v)/\z=(if vals then v else keyU key)⟩
def DWalkS(vals:Bool)(M:MM)(x:U)(Q:UIt->MM->Prop):Prop:=∃k kvs,x=.m k/\((M[k]?=some (.dK kvs)/\∀ob gs,Q (itD vals k kvs ob gs) (M.set k (.dF kvs ob gs)))\/∃ob gs,M[k]?=some (.dF kvs ob gs)/\Q (itD vals k kvs ob gs) M)
def uDict(vals:Bool)(ua:UE):UI:=λρ M Q=>ua ρ M λx M1=>DWalkS vals M1 x Q
theorem keyU_rep(k:Key):RepU A ι H (kV k) (keyU k):=by
 cases k with
 |inl i=>exact .p (.int i)
 |inr x=>exact .p (.str x)
 |non=>exact .p .non
theorem Gq(ek:ι1[kk]?=some a):ItR A ι1 H1 (Itd vals a ob gs) (itD vals kk kvs ob gs):=by
 intro A' ι2 H2 M2 i l w2 ok;have ek2:ι2[kk]?=some a:=by
  obtain⟨nn,rfl⟩:=l.ext;rw[Ui (Ue.mp ek).1]; exact ek
 obtain⟨h3,h4⟩:=w2.obj kk a _ ek2 ok;have hl:=h4.len;refine⟨λhi=>⟨⟨h3,by rw[hl]; exact hi⟩,λx H' y=>?_⟩,λhi=>⟨h3,by rw[hl]; exact D7 hi.symm⟩⟩;obtain⟨rfl,key,v,hkv,rfl⟩:=y;obtain⟨⟨key',u⟩,hu,e1,ru⟩:=Paired.getL h4 hkv;have e1:key=key':=e1;subst e1;refine⟨_,⟨key,u,hu,rfl⟩, .refl _ _,w2, ?_⟩;cases vals with
 |true=>exact ru
 |false=>exact keyU_rep key
theorem li_dictB(hw:∀σ H R,(ta σ H λx H1=>∃d,x=.ref d/\((∃kvs,H1 d=some (.dK kvs)/\∀o,R (Itd vals d o kvs) (upd H1 d (.frz o (.dK kvs))))\/∃o kvs,H1 d=some (.frz o (.dK kvs))/\R (Itd vals d o kvs) H1))->wi σ H R)(ha:LE ta ua):LI wi (uDict vals ua):=λA ι σ H ρ M Qu R w e q k =>
 hw σ H R (ha A ι σ H ρ M _ _ w e q λx M1 ι1 v H1 l1 w1 r1 ⟨kk,kvs,ex,q1⟩=>by
  subst ex;cases r1 with
  |m ek =>
  rename_i a;have hm:=Uh ek;rcases q1 with⟨em,q1⟩|⟨ob,gs,em,q1⟩
  ·obtain⟨gs,h1,h2⟩:=w1.obj kk a _ ek em
   exact⟨a,rfl, .inl ⟨gs,h1,λo=>k _ _ ι1 _ _ (l1.trans (.put hm)) (w1.put (mo:=.dF kvs o gs) ek ⟨upd_same,Paired.mapP h2 λ_ _ q=>⟨q.1,q.2.le (.put hm)⟩⟩) (Gq ek) (q1 o gs)⟩⟩
  ·obtain⟨h1,h2⟩:=w1.obj kk a _ ek em
   exact⟨a,rfl, .inr ⟨ob,gs,h1,k _ _ ι1 _ _ l1 w1 (Gq ek) q1⟩⟩)
theorem ci_dict(ha:ZE ta ua):ZI (iDict ta) (uDict false ua):=⟨li_dictB (λ_ _ _ h=>h) ha.h⟩
theorem DGet.f{k:Key}(e:H a=some (.frz o (.dK kvs))):DGet H a (kV k) (valV kvs k):=.inl ⟨kvs,k, .inr ⟨o,e⟩,rfl,rfl⟩
def DGetFS(M:MM)(x y:U)(Q:UK):Prop:=∃k kvs ob gs key w,x=.m k/\M[k]?=some (.dF kvs ob gs)/\y=keyU key/\valU kvs key=some w/\Q w M
def uDGetF(ua ub:UE):UE:=λρ M Q=>ua ρ M λx M1=>ub ρ M1 λy M2=>DGetFS M2 x y Q
theorem ce_dgetF(ha:ZE ta ua)(hb:ZE tb ub):ZE (YE ta tb) (uDGetF ua ub):=⟨λA ι σ H ρ M Qu Q w e q k =>
 ha.h A ι σ H ρ M _ _ w e q λx M1 ι1 v H1 l1 w1 r1 q1=>hb.h A ι1 σ H1 ρ M1 _ _ w1 (e.le l1) q1 λy M2 ι2 v2 H2 l2 w2 r2 ⟨kk,kvs,ob,gs,key,z,ex,em,ey,ez,q2⟩=>by
  subst ex ey;have r1':=r1.le l2;cases r1' with
  |m ek =>
  obtain⟨h1,h2⟩:=w2.obj kk _ _ ek em;have hv:=Xs (k:=key) h2;rw[ez] at hv;obtain⟨x',hx,rx⟩:=hv;refine⟨_,x',rfl, ?_,k z M2 ι2 x' H2 (l1.trans l2) w2 rx q2⟩;have:=DGet.f (k:=key) h1;rw[hx] at this;rw[Qr r2];exact this⟩
end
section
def min3(i j k:Int):Int:=if j<i then(if k<j then k else j) else(if k<i then k else i)
theorem W5:min3 i j k<=i/\min3 i j k<=j/\min3 i j k<=k:=by unfold min3; split<;>split<;>lia
theorem Jg:min3 i j k=i\/min3 i j k=j\/min3 i j k=k:=by unfold min3; split<;>split<;>simp
theorem qai(hc:X.calm=true):xG X (.builtin "min") (λxs H Q=>∃i j k,xs=[.int i, .int j, .int k]/\Q (.int (min3 i j k)) H):=by
 intro pins s σ H xs us Q I r h;obtain⟨i,j,k,rfl,q⟩:=h;cases r with
 |cons r1 r =>
 obtain⟨u,w',rfl,⟨t,rfl⟩,⟨t',rfl⟩⟩:=vals2 r;obtain⟨t0,rfl⟩:=r1;refine min_three_ints (I.ok.hd hc) λh' tk kp=>⟨_,H,I.kept kp, ?_,q⟩;unfold min3;by_cases h1:j<i
 ·rw[if_pos h1,if_pos h1]
  by_cases h2:k<j
  ·rw[if_pos h2,if_pos h2]; exact⟨_,rfl⟩
  ·rw[if_neg h2,if_neg h2]; exact⟨_,rfl⟩
 ·rw[if_neg h1,if_neg h1]
  by_cases h2:k<i
  ·rw[if_pos h2,if_pos h2]; exact⟨_,rfl⟩
  ·rw[if_neg h2,if_neg h2]; exact⟨_,rfl⟩
def sMin3:List T->(T->Prop)->Prop:=λts Q=>∃i j k,ts=[.int i, .int j, .int k]/\Q (.int (min3 i j k))
theorem cbl_min3:CbL (λxs H Q=>∃i j k,xs=[.int i, .int j, .int k]/\Q (.int (min3 i j k)) H) sMin3:=λA ι H M vs ts Qs Q w r ⟨i,j,k0,e,q⟩ k=>by
 subst e;cases r with
 |cons r0 r =>
 obtain⟨v,z,ev,r1,r2⟩:=pv2 r;subst ev;cases r0.int_inv; cases r1.int_inv; cases r2.int_inv;exact⟨i,j,k0,rfl,k _ ι _ H (.refl _ _) w (.int _) q⟩
theorem rd_min3:sMin3 [.int i, .int j, .int k] Q=Q (.int (min3 i j k)):=propext ⟨λ⟨_,_,_,e,h⟩=>by cases e; exact h,λh=>⟨i,j,k,rfl,h⟩⟩
end
section
def CatN(x y:U)(M:MM)(Q:UK):Prop:=∃us vs,vg M x=some us/\vg M y=some vs/\us.length+vs.length<=sizeLine/\Q (.m M.length) (M++[.lst (us++vs)])
def uCatN(ua ub:UE):UE:=λρ M Q=>ua ρ M λx M1=>ub ρ M1 λy M2=>CatN x y M2 Q
theorem ce_catN(ha:ZE ta ua)(hb:ZE tb ub):ZE (tOp rCat ta tb) (uCatN ua ub):=⟨λA ι σ H ρ M Qu Q w e q k =>
 ha.h A ι σ H ρ M _ _ w e q λx M1 ι1 v H1 l1 w1 r1 q1=>hb.h A ι1 σ H1 ρ M1 _ _ w1 (e.le l1) q1 λy M2 ι2 v2 H2 l2 w2 r2 ⟨us,vs,hx,hy,hz,q2⟩=>by
  obtain⟨p,xs,rfl,h1,h2⟩:=vM w2 (r1.le l2) hx;obtain⟨p2,ys,rfl,h3,h4⟩:=vM w2 r2 hy;exact⟨p,p2,xs,ys,rfl,rfl,h1,h3,by rw[h2.len,h4.len]; exact hz,λl hl=>k _ _ _ _ _ ((l1.trans l2).trans (.push hl)) (zG w2 hl (h2.app h4)).1 (zG w2 hl (h2.app h4)).2 q2⟩⟩
end
end L2
namespace PySem
theorem Paired.drl{α β:Type}{F:α->β->Prop}:∀{l:List α}{m:List β},Paired F l m->Paired F l.dropLast m.dropLast
 |_,_, .nil=>.nil
 |_,_, .cons _ .nil=>.nil
 |_,_, .cons r (.cons s t)=>.cons r (Paired.drl (.cons s t))
end PySem
namespace L2
open PySem PySem.Spec PyProof.Rows
def sPop:List U->List U->(U->List U->Prop)->Prop:=λus ws Q=>∃y:U,ws=[]/\us[us.length-1]?=some y/\Q y us.dropLast
theorem mel_pop:MeL rPop sPop:=λA ι H M k a xs ys us ws Qs Q w ek h1 h2 rx ry ⟨y,ew,hy,q⟩ kk=>by
 subst ew;cases ry;obtain⟨x,hx,rxy⟩:=Paired.getR rx hy;have hl:=rx.len;exact⟨a,xs,x,rfl,rfl,h1,by rw[hl]; exact hx,kk _ _ _ _ rx.drl rxy q⟩
def sExtend:List U->List U->(U->List U->Prop)->Prop:=λus ws Q=>∃ts:List T,ws=[.p (.lst ts)]/\us.length+ts.length<=sizeLine/\Q (.p .non) (us++ts.map U.p)
theorem jU:MeL Y7 sExtend:=λA ι H M k a xs ys us ws Qs Q w ek h1 h2 rx ry ⟨ts,ew,hz,q⟩ kk=>by
 subst ew;cases ry with
 |cons r ry =>
 cases ry;cases r with
 |p r =>
 obtain⟨b,zs,rfl,_,hb,hr⟩:=r.lst_inv;have hl:=rx.len;have hl2:=hr.len;exact⟨a,b,xs,zs,rfl,rfl,h1,hb,by lia,kk _ _ _ _ (rx.app (RepTs.ups hr)) (.p .non) q⟩
theorem Qf(ha:QE X o ta)(hv:QE X value tv):QS X (.AugAssign (.Attribute o f tpos) .Add value pos) (XZ X.K ta tv rAdd f):=⟨by
 intro pins s σ H D I h;refine wpAny_AugAssign_AttributeAny (thn (ha.h pins s σ H _ I h) λov s1 ⟨x,H1,I1,rx,a,C,dx,fs,v,ex,ea,c,n,l,q⟩=>?_);subst ex;obtain rfl:ov=Value.ref a:=rx;refine Q4 I1 ea c n l λu s2 I2 ru=>thn (hv.h pins s2 σ H1 _ I2 q) λw3 s3 ⟨y,H2,I3,ry,q3⟩=>thn (in_add pins s3 σ H2 v y u w3 _ I3 ru ry q3) λw4 s4 ⟨z,H3,I4,rz,dx',fs',ea',l',q4⟩=>?_;exact QY I4 ea' c n l' rz λs5 I5=>⟨σ,_,I5,q4⟩⟩
def kU(Ξ:PySem.W.Frag)(ua uv:UE)(f:Str):US:=λE ρ M=>ua ρ M λx M1=>∃k C fs i,x=.m k/\M1[k]?=some (.ins C fs)/\Cls Ξ C/\NoAttr Ξ C f/\fs.lookup f=some (.p (.int i)) /\
 uv ρ M1 λy M2=>∃j fs',y=.p (.int j)/\M2[k]?=some (.ins C fs')/\fs'.length<1000/\E.nx ρ (M2.set k (.ins C (Qh f (.p (.int (i+j))) fs')))
theorem QD(ha:ZE ta ua)(hv:ZE tv uv):ZS (XZ Ξ ta tv rAdd f) (kU Ξ ua uv f):=⟨λA ι σ H ρ M D E w e r q =>
 ha.h A ι σ H ρ M _ _ w e q λx M1 ι1 vx H1 l1 w1 r1 ⟨kk,C,fs,i,ex,em,c,na,lk,q1⟩=>by
  subst ex;cases r1 with
  |m ek =>
  rename_i a;obtain⟨dx,gs,h1,h2,h3,h4⟩:=w1.obj kk _ _ ek em;obtain⟨v,hv1,rv⟩:=Kb h4 lk;cases rv with
  |p rv =>
  cases rv;refine⟨a,C,dx,gs, .int i,rfl,h1,c,na,hv1,hv.h A ι1 σ H1 ρ M1 _ _ w1 (e.le l1) q1 λy M2 ι2 vy H2 l2 w2 r2 ⟨j,fs',ey,em2,hz,q2⟩=>?_⟩;subst ey;cases r2 with
  |p r2 =>
  cases r2;have ek2:ι2[kk]?=some a:=by
   obtain⟨nn,rfl,_⟩:=l2.ext;rw[Ui (Ue.mp ek).1]; exact ek
  obtain⟨dx',gs',k1,k2,k3,k4⟩:=w2.obj kk _ _ ek2 em2;have hmem:=Uh ek2;have l4:=l1.trans l2;have hne:dx'≠a:=λz=>by rw[z,k1] at k2; cases k2
  exact⟨i,j,rfl,rfl,dx',gs',k1,by rw[k4.len]; exact hz,r.nx ι2 σ _ ρ _ (l4.trans (.put hmem)) (w2.put (mo:=.ins C (Qh f (.p (.int (i+j))) fs')) ek2 ⟨dx',_,upd_same,by rw[upd_ne hne]; exact k2,k3,Paired.mapP (J3 k4 (.p (.int _))) λ_ _ q=>⟨q.1,q.2.le (.put hmem)⟩⟩) (e.le (l4.trans (.put hmem))) q2⟩⟩
def U.sh(n:Nat):U->U
 |.m k=>.m (n+k)
 |u=>u
def MO.sh(n:Nat):MO->MO
 |.lst us=>.lst (us.map (U.sh n))
 |.tup us=>.tup (us.map (U.sh n))
 |.ins C fs=>.ins C (fs.map λf=>(f.1,f.2.sh n))
 |.dK kvs=>.dK (kvs.map λf=>(f.1,f.2.sh n))
 |.dF kvs ob gs=>.dF (kvs.map λf=>(f.1,f.2.sh n)) ob gs
def U.flat:U->Prop
 |.m _=>True
 |.p t=>∃x,vt t=some x
 |.x _ _ _=>False
def MO.flat:MO->Prop
 |.lst us=>∀u∈us,u.flat
 |.tup us=>∀u∈us,u.flat
 |.ins _ _=>False
 |.dK kvs=>∀f∈kvs,f.2.flat
 |.dF kvs _ _=>∀f∈kvs,f.2.flat
section
theorem RepU.sh(r:RepU A ι' H v u)(f:u.flat):RepU A (ι++ι') H v (u.sh ι.length):=by
 cases r with
 |p r =>
  obtain⟨x,hx⟩:=f;cases(RepV.of r).sc (y:=.non) hx;exact .p (j5 hx).rep
 |m e=>exact .m (by rw[Uq (Nat.le_add_right _ _),U8]; exact e)
 |x h=>exact f.elim
theorem RepUs.sh:∀{vs:List V},RepUs A ι' H vs us->(∀u∈us,u.flat)->RepUs A (ι++ι') H vs (us.map (U.sh ι.length)):=by
 induction us with
 |nil=>intro vs r _; cases r; exact .nil
 |cons u us ih =>
  intro vs r f;cases r with
  |cons a b=>exact .cons (a.sh (f u (.head _))) (ih b λx hx=>f x (.tail _ hx))
theorem RepK.sh:∀{gs:List (Key×V)},Paired (λ(g:Key×V) (f:Key×U)=>g.1=f.1/\RepU A ι' H g.2 f.2) gs kvs->(∀f∈kvs,f.2.flat)->Paired (λ(g:Key×V) (f:Key×U)=>g.1=f.1/\RepU A (ι++ι') H g.2 f.2) gs (kvs.map λf=>(f.1,f.2.sh ι.length)):=by
 induction kvs with
 |nil=>intro gs r _; cases r; exact .nil
 |cons u us ih =>
  intro gs r f;cases r with
  |cons a b=>exact .cons ⟨a.1,a.2.sh (f u (.head _))⟩ (ih b λx hx=>f x (.tail _ hx))
theorem objR_sh(r:ObjR A ι' H a o)(f:o.flat):ObjR A (ι++ι') H a (o.sh ι.length):=by
 cases o with
 |lst us=>obtain⟨vs,e,r⟩:=r; exact⟨vs,e,RepUs.sh r f⟩
 |tup us=>obtain⟨vs,e,r⟩:=r; exact⟨vs,e,RepUs.sh r f⟩
 |ins C fs=>exact f.elim
 |dK kvs=>obtain⟨gs,e,r⟩:=r; exact⟨gs,e,RepK.sh r f⟩
 |dF kvs ob gs=>obtain⟨e,r⟩:=r; exact⟨e,RepK.sh r f⟩
theorem WS(l:Le ι H ι' H')(all:∀x o,H x=some o->H' x=some o)(new:∀x∈ι',x∉ι->H x=none)(r:ObjR A ι H a o):ObjR A ι' H' a o:=by
 cases o with
 |lst us=>obtain⟨vs,e,r⟩:=r; exact⟨vs,all _ _ e,RepUs.le l r⟩
 |tup us=>obtain⟨vs,e,r⟩:=r; exact⟨vs,all _ _ e,RepUs.le l r⟩
 |ins C fs =>
  obtain⟨dx,gs,e,e2,e3,r⟩:=r;exact⟨dx,gs,all _ _ e,all _ _ e2,(λz=>by have:=new dx z e3; rw[e2] at this; cases this),Paired.mapP r λ_ _ q=>⟨q.1,q.2.le l⟩⟩
 |dK kvs=>obtain⟨gs,e,r⟩:=r; exact⟨gs,all _ _ e,Paired.mapP r λ_ _ q=>⟨q.1,q.2.le l⟩⟩
 |dF kvs ob gs=>obtain⟨e,r⟩:=r; exact⟨all _ _ e,Paired.mapP r λ_ _ q=>⟨q.1,q.2.le l⟩⟩
theorem WR(r:ObjR A ι H a o):H a≠none:=by
 cases o with
 |lst us=>obtain⟨vs,e,r⟩:=r; rw[e]; simp
 |tup us=>obtain⟨vs,e,r⟩:=r; rw[e]; simp
 |ins C fs=>obtain⟨dx,gs,e,r⟩:=r; rw[e]; simp
 |dK kvs=>obtain⟨gs,e,r⟩:=r; rw[e]; simp
 |dF kvs ob gs=>obtain⟨e,r⟩:=r; rw[e]; simp
def Yw(G:List U->MM->UK->Prop)(ul:UA):UE:=λρ M Q=>ul ρ M λus M1=>∃ts,frzs (frzN 6 M1) us=some ts/\G (ts.map U.p) [] λu M'=>u.flat/\(∀o∈M',o.flat)/\Q (u.sh M1.length) (M1++M'.map (MO.sh M1.length))
theorem le_callN(ha:LA n tl ul):LE (zT (spU G) [] E tl) (Yw G ul):=λA ι σ H ρ M Qu Q w e q k =>
 ha A ι σ H ρ M _ _ w e q λus M1 ι1 vs H1 l1 w1 hn r1 ⟨ts,et,q1⟩=>by
  rw[UR];have wd0:Wd A [] H1 []:=⟨RZ,rfl,w1.dom,by simp,by simp⟩;have rt:=kA r1 (λv u t r e=>Qx w1 r e) et;refine⟨A, [], [],ts.map U.p,_,wd0,RepTs.ups (Paired.mapP rt λ_ _ q=>q.mono λx o hx ex=>⟨ex,λz=>z.elim hx (by simp)⟩),q1,λu M' ι' v H' l w' r' ⟨uf,mf,q2⟩=>?_⟩;have all:∀x o,H1 x=some o->H' x=some o:=λx o e=>l.fr x o e (by simp);have new:∀x∈ι',H1 x=none:=λx hx=>by
   obtain⟨nn,rfl,hh⟩:=l.ext;exact hh x (by simpa using hx)
  have le:Le ι1 H1 (ι1++ι') H':=⟨⟨ι',rfl,new⟩,λx o e _=>all x o e,l.al⟩;have hl1:=w1.len;have hl2:=w'.len;refine k _ _ (ι1++ι') v H' (l1.trans le) ⟨?_,by rw[Uj,Uj,Ug,hl1,hl2],w'.dom,λx hx=>?_,λi a o hi ho=>?_⟩ (by rw[<-hl1]; exact r'.sh uf) q2
  ·rw[Dp]
   refine⟨w1.nd,w'.nd,λa ha b hb z=>?_⟩;subst z;obtain⟨i,hi⟩:=Dm ha;have hil:=(Ue.mp hi).1;exact WR (w1.obj i a _ hi (Uf (by lia))) (new a hb)
  ·rcases Uu.mp hx with hx|hx
   ·exact w1.na x hx
   ·exact w'.na x hx
  ·by_cases h:i<ι1.length
   ·rw[Ui h] at hi
    rw[Ui (by lia)] at ho;refine WS le all (λx hx hn=>?_) (w1.obj i a o hi ho);rcases Uu.mp hx with hx|hx
    ·exact absurd hx hn
    ·exact new x hx
   ·rw[Uq (by lia)] at hi
    rw[Uq (by lia),Uv, <-hl1] at ho;obtain⟨o',ho',rfl⟩:=UV.mp ho;exact objR_sh (w'.obj _ a o' hi ho') (mf o' (Uh ho'))
theorem ce_callN(ha:ZA n tl ul):ZE (zT (spU G) [] E tl) (Yw G ul):=⟨le_callN ha.h⟩
end
end L2
set_option maxHeartbeats 4000000
namespace Mw
open PySem L2 PyProof.Rows
def Gf(Ξ:PySem.W.Frag){X:Cx}(h:X.K=Ξ:=by rfl):=vU h
def Ua(Ξ:PySem.W.Frag){X:Cx}(h:X.K=Ξ:=by rfl):=qq h
def Ub(Ξ:PySem.W.Frag){X:Cx}(h:X.K=Ξ:=by rfl):=qN h
theorem Wl{k j:Nat}{A:Around}(r:Room k A)(h:j<=k:=by first|decide|exact Uk _):Room j A:=r.mono h
theorem Wm{i:Int}:ZE (tC (.int i)) (uC (.int i)):=ce_c (.int i)
theorem Wr{i:Str}:ZE (tC (.str i)) (uC (.str i)):=ce_c (.str i)
theorem Wu{α:Type}{a:α}{b:Prop}:a=a\/b:=Or.inl rfl
theorem Gd{α:Type}{a:α}{b:Prop}:b\/a=a:=Or.inr rfl
local macro_rules | `(tactic| walk_at "hp") => `(tactic| first|assumption|exact upd_same|(refine xM (by assumption) ?_; walk_at "hp")|(refine kh (by first|assumption|(apply Ne.symm; assumption)) ?_; walk_at "hp"))
local macro_rules | `(tactic| walk_at "go") => `(tactic| repeat (first|(simp only[L2.start,tSeq,Vf,tAsg,tOp,tUn,tVar,tC,qV,gSub,tRet,Zl,tIfS,Zn,tLM,tTru,zT,tBM,tBM0,tRev,j6,xO,JY,ko,km,Vy,kq,rd_pi,tSl,zR,Zm,rd_I,rd_I0,rd_U,Vx,rd_bl,tCB,zS,tNil,tTup,tLst,tYes,tAnd,tOr,tNot,tB,tIf,Zo,tOrV,tNotV,Ve,rd_l1,rd_l2,rd_lr,List.getElem?_cons_zero,List.getElem?_cons_succ,Option.some.injEq,exists_eq_left',List.set_cons_zero,List.set_cons_succ,zr,List.zip_cons_cons,List.zip_nil_left,List.zip_nil_right,List.map_cons,List.map_nil,List.length_cons,List.length_nil,List.replicate,List.append_nil,List.nil_append,List.cons_append,Bool.false_eq_true,if_true,if_false,decide_eq_true_eq,Nat.zero_add,xB,xA])|refine Kc (by walk_at "hp") rfl ?_|refine ixT_at (by walk_at "hp") rfl ?_|refine Kc (by walk_at "hp") at0 ?_|refine setL_at (by walk_at "hp") rfl ?_|refine len_at (by walk_at "hp") ?_|refine Kh (by walk_at "hp") ?_|refine VS (by walk_at "hp") ?_|refine lm_at (by walk_at "hp") ?_|refine it_at (by walk_at "hp") ?_|refine eq_at rfl ?_|refine ne_at rfl ?_))
section
variable {P:Program} {w:World} {Ξ:PySem.W.Frag} {mg:Str->Option Value} {base:Heap}
abbrev sBag:Stmt:=top 50
theorem scBag:FnScope ["script","stir","cell"] ["script"] (qg sBag):=⟨rfl,rfl,rfl,by decide +kernel,rfl,by decide +kernel,by decide +kernel⟩
abbrev X0:Stmt:=top 51
theorem scDraw:FnScope ["bag","many","found"] ["bag","many"] (qg X0):=⟨rfl,rfl,rfl,by decide +kernel,rfl,by decide +kernel,by decide +kernel⟩
structure BagAt(H:Hp)(b:Addr):Prop where
 ex:∃(c:Addr)(ns:List Int)(i a st n:Int),H b=some (.lst [.ref c, .int i, .int a, .int st, .int n])/\H c=some (.lst (ns.map V.int))/\0<=i/\i<=ns.length/\ns.length<=63/\(∀x∈ns,0<=x)/\0<=a/\0<=st/\st<2147483647
def spBag(Ξ:PySem.W.Frag):Sp:=λvs H Q _=>∃(a:Addr)(ns:List Int),vs=[.ref a]/\SqL Ξ H a (ns.map V.int)/\ns.length<=63/\∀(b:Addr)(H':Hp),H b=none->Same H H'->BagAt H' b->Q (.ref b) H'
theorem cut63(ns:List Int)(h:ns.length<=63):cutV (ns.map V.int) none (some 63)=ns.map V.int:=by
 unfold cutV;have e1:HT.sIx (ns.map V.int).length 0 none=0:=rfl;have e2:HT.sIx (ns.map V.int).length (ns.map V.int).length (some 63)=min 63 (ns.map V.int).length:=HT.sIx_nat _ _ 63;rw[e1,e2];simp only[R0,Ug];rw[DT];simp; lia
theorem Kg{ns:List Int}{i:Nat}(h:(ns.map V.int)[i]?=some y):∃z,y=V.int z/\ns[i]?=some z:=by
 rw[Uv] at h;cases e:ns[i]? with
 |none=>rw[e] at h; cases h
 |some z=>rw[e] at h; exact⟨z,(Option.some.inj h).symm,rfl⟩
theorem ok_bag(F:Fun Ξ "_law_bag" "_law_bag" sBag f fd)(N:Nms mg):FnOk P w Ξ mg base CX0 1 f fd ["script"] (spBag Ξ):=by
 refine F.okQ scBag (λvs H Q E h=>?_) (λcdv A outer s H vs Q E hr h=>?_)
 ·obtain⟨a,ns,rfl,_⟩:=h
  rfl
 ·obtain⟨a,ns,rfl,hS,hlen,k⟩:=h
  refine⟨_,(qf (qy (i:=1) scBag.nd rfl Wu qe)
  (qf (j7 PassesOwn.never rfl (vL (Ξ:=Ξ) rfl (vW (Gf Ξ) (qv 0) jQ (vO qe))) (vP (i:=2) scBag.nd rfl Wu)
   (qi (qy (i:=1) scBag.nd rfl Wu (ql zi (ql qO (ql qO (ql zp (qv 1) qe) (ql zi (qv 2) qe)) qe) qe))))
  (qi (qt (qR (qa_c (VC [false,false,false] [] (vL (Ξ:=Ξ) rfl (vW (Gf Ξ) (qv 0) jQ (vO qe))) (λ_ _ _=>(vP (i:=2) scBag.nd rfl Wu)) (λ_ _ _=>VB) (λ_ _ _=>(ql zi (qK kI (by rfl) N.abs b_abs (qa_c (qv 2) qc)) (ql J4 qe qe)))) (qa_c qe (qa_c qe (qa_c (qv 1) (qa_c qe qc)))))))))), ?_⟩
  refine⟨_,rfl,_,rfl,a,_,rfl,hS,λp hp=>?_⟩;rw[cut63 ns hlen];refine⟨p,rfl,⟨_,SqL.of upd_same⟩,for_list (Ξ:=Ξ) (a:=p) (xs:=ns.map V.int) (λi σ H2=>∃(st:Int)(v:Option V),σ=[some (.ref a),some (.int st),v]/\0<=st/\st<2147483647/\H2=upd H p (.lst (ns.map V.int)))
   ⟨17,none,rfl,by decide,by decide,rfl⟩ (λi σ H2 _ ⟨_,_,_,_,_,e⟩=>by rw[e]; exact SqL.of upd_same) ?_ ?_⟩
  ·rintro i y σ H2 hi ⟨st,v,rfl,h0,h1,rfl⟩
   obtain⟨z,rfl,_⟩:=Kg hi
   (simp only[L2.start,tSeq,Vf,tAsg,tOp,tUn,tVar,tC,qV,gSub,tRet,Zl,tIfS,Zn,tLM,tTru,zT,tBM,tBM0,tRev,j6,xO,JY,ko,km,Vy,kq,rd_pi,tSl,zR,Zm,rd_I,rd_I0,rd_U,Vx,rd_bl,tCB,zS,tNil,tTup,tLst,tYes,tAnd,tOr,tNot,tB,tIf,Zo,tOrV,tNotV,Ve,rd_l1,rd_l2,rd_lr,Dh,Ds,Option.some.injEq,exists_eq_left',DR,DS,zr,D8,Rl,D9,Uy,Dy,Ul,U6,List.replicate,UR,Dj,DI,Df,if_true,if_false,decide_eq_true_eq,Dz,xB,xA]);refine⟨.inr ⟨by decide,by decide⟩,by decide,by decide,_,_,rfl,U0 _ (by decide),UU _ (by decide),trivial⟩
  ·rintro σ H2 ⟨st,v,rfl,h0,h1,rfl⟩
   have hS2:SqL Ξ (upd H p (.lst (ns.map V.int))) a (ns.map V.int):=((Same.refl H).upd hp).seq hS;refine⟨_,rfl,_,rfl,a,_,rfl,hS2,λp2 hp2=>?_⟩;rw[cut63 ns hlen];obtain⟨f2,n2⟩:=V3 hp2;refine⟨p2,rfl,⟨_,SqL.of upd_same⟩,λacc hacc=>?_⟩;obtain⟨g1,n3⟩:=V3 hacc;obtain⟨g2,n4⟩:=V3 g1;refine G8 (xs:=ns.map V.int) (λi H3=>∃ys:List Int,H3 acc=some (.lst (ys.map V.int))/\ys.length=i/\(∀y∈ys,0<=y)/\H3 p2=some (.lst (ns.map V.int))/\Same H H3) ?_ ?_ ?_ ?_
   ·exact⟨[],upd_same,rfl,(λ_ h=>nomatch h),xM hacc upd_same,(((Same.refl H).upd hp).upd f2).upd g2⟩
   ·rintro i H3 _ ⟨ys,_,_,_,e,_⟩
    exact SqL.of e
   ·rintro i y H3 hi ⟨ys,e1,e2,e3,e4,e5⟩
    obtain⟨z,rfl,hz⟩:=Kg hi;have hil:i<ns.length:=(Ue.mp hz).1
    (simp only[L2.start,tSeq,Vf,tAsg,tOp,tUn,tVar,tC,qV,gSub,tRet,Zl,tIfS,Zn,tLM,tTru,zT,tBM,tBM0,tRev,j6,xO,JY,ko,km,Vy,kq,rd_pi,tSl,zR,Zm,rd_I,rd_I0,rd_U,Vx,rd_bl,tCB,zS,tNil,tTup,tLst,tYes,tAnd,tOr,tNot,tB,tIf,Zo,tOrV,tNotV,Ve,rd_l1,rd_l2,rd_lr,Dh,Ds,Option.some.injEq,exists_eq_left',DR,DS,zr,D8,Rl,D9,Uy,Dy,Ul,U6,List.replicate,UR,Dj,DI,Df,if_true,if_false,decide_eq_true_eq,Dz,xB,xA]);refine⟨⟨by(repeat (first|exact ExtS.nl|refine ExtS.sm ?_|refine ExtS.no ?_)),trivial⟩,⟨by decide,by decide,by decide⟩,by decide,ys.map V.int,e1,vj (by simp; lia),ys++[(if z<0 then -z else z) % 10^(60:Int).toNat], ?_,by simp[e2], ?_,kh n3.symm e4,e5.upd g2⟩
    ·rw[upd_same,Um]; rfl
    ·intro y hy
     rcases Uu.mp hy with h|h
     ·exact e3 y h
     ·rw[Us.mp h]; exact U0 _ (by decide)
   ·rintro H3 ⟨ys,e1,e2,e3,e4,e5⟩
    rw[Ug] at e2
    (simp only[L2.start,tSeq,Vf,tAsg,tOp,tUn,tVar,tC,qV,gSub,tRet,Zl,tIfS,Zn,tLM,tTru,zT,tBM,tBM0,tRev,j6,xO,JY,ko,km,Vy,kq,rd_pi,tSl,zR,Zm,rd_I,rd_I0,rd_U,Vx,rd_bl,tCB,zS,tNil,tTup,tLst,tYes,tAnd,tOr,tNot,tB,tIf,Zo,tOrV,tNotV,Ve,rd_l1,rd_l2,rd_lr,Dh,Ds,Option.some.injEq,exists_eq_left',DR,DS,zr,D8,Rl,D9,Uy,Dy,Ul,U6,List.replicate,UR,Dj,DI,Df,if_true,if_false,decide_eq_true_eq,Dz,xB,xA]);refine⟨by decide,λb hb=>?_⟩;refine k b _ (e5.free hb) (e5.upd (e5.free hb)) ⟨acc,ys,0,0,st,0,upd_same,xM hb e1,by decide,by lia,by lia,e3,by decide,h0,h1⟩
def spDraw:Sp:=λvs H Q _=>∃(b:Addr)(many:Int),vs=[.ref b, .int many]/\BagAt H b/\0<many/\many.natAbs.log2<9000/\∀(found:Int)(H':Hp),0<=found->found<many->BagAt H' b->(∀x,x≠b->H' x=H x)->Q (.int found) H'
theorem KH{H:Hp}{ns:List Int}{i a st n:Int}(hb:H b=some (.lst [.ref c, .int i, .int a, .int st, .int n]))(hc:H c=some (.lst (ns.map V.int))):c≠b:=by
 intro e;subst e;rw[hb] at hc;injection hc with hc
 injection hc with hc
 cases ns with
 |nil=>cases hc
 |cons z r=>cases hc
theorem ok_draw(F:Fun Ξ "_law_draw" "_law_draw" X0 f fd)(N:Nms mg):FnOk P w Ξ mg base CX0 1 f fd ["bag","many"] spDraw:=by
 refine F.okQ scDraw (λvs H Q E h=>?_) (λcdv A outer s H vs Q E hr h=>?_)
 ·obtain⟨b,m,rfl,_⟩:=h
  rfl
 ·obtain⟨b,many,rfl,⟨c,ns,i,a,st,n,hb,hc,i0,i1,hl,hns,a0,s0,s1⟩,m0,mb,k⟩:=h
  have hcb:=KH hb hc;refine⟨_,(qf (vG (X5 (Zx (qw vD (qH (Ua Ξ) (qv 0) qe (λ_ _=>rfl)) qe (qA _)) (Qe (qw xX (qH (Ua Ξ) (qv 0) qe (λ_ _=>rfl)) (qK vq (by rfl) N.len jx (qa_c (qH (Ua Ξ) (qv 0) qe (λ_ _=>rfl)) qc)) (qA _)))))
   (qf (zd (qH (Ua Ξ) (qH (Ua Ξ) (qv 0) qe (λ_ _=>rfl)) (qH (Ua Ξ) (qv 0) qe (λ_ _=>rfl)) (λ_ _=>rfl)) (zw (qv 0) qe vK))
   (qi (zd (ql qO (qH (Ua Ξ) (qv 0) qe (λ_ _=>rfl)) qe) (zw (qv 0) qe vK))))
   (qi (vG (qw vD (qH (Ua Ξ) (qv 0) qe (λ_ _=>rfl)) qe (qA _))
    (qf (zd (ql qO (qH (Ua Ξ) (qv 0) qe (λ_ _=>rfl)) qe) (zw (qv 0) qe vK))
    (qf (zd (ql zi (ql qO (ql qO (ql qO (ql J4 (qH (Ua Ξ) (qv 0) qe (λ_ _=>rfl)) qe) (ql zp qe (qH (Ua Ξ) (qv 0) qe (λ_ _=>rfl)))) (ql zp qe (qH (Ua Ξ) (qv 0) qe (λ_ _=>rfl)))) qe) qe) (zw (qv 0) qe vK))
    (qi (qt (ql zi (ql zF (qH (Ua Ξ) (qv 0) qe (λ_ _=>rfl)) qe) (qv 1))))))
    qP)))
  (qf (qy (i:=2) scDraw.nd rfl Wu (ql zi (qH (Ua Ξ) (qv 0) qe (λ_ _=>rfl)) (qv 1)))
  (qf (zd (ql zF (qH (Ua Ξ) (qv 0) qe (λ_ _=>rfl)) (qv 1)) (zw (qv 0) qe vK))
  (qi (qt (qv 2)))))), ?_⟩
  walk_at "go";have fin:∀(z:Int)(H':Hp)(i' a' st' n':Int),0<=z->H' b=some (.lst [.ref c, .int i', .int (z / many), .int st', .int n'])->(∀x,x≠b->H' x=H x)->0<=i'->i'<=ns.length->0<=st'->st'<2147483647->Q (.int (z % many)) H':=λz H' i' a' st' n' hz e1 e2 e3 e4 e5 e6 =>
   k _ _ (U0 _ (by lia)) (UU _ m0) ⟨c,ns,i',z / many,st',n',e1,by rw[e2 c hcb]; exact hc,e3,e4,hl,hns,RF hz (by lia),e5,e6⟩ e2
  refine ite2 (λha=>?_) (λha=>?_)
  ·walk_at "go"
   refine ite2 (λhi=>?_) (λhi=>?_)
   ·rw[Ug] at hi
    obtain⟨j,rfl⟩:∃j:Nat,i=(j:Int):=⟨i.toNat,by lia⟩;have hj:j<ns.length:=by lia
    walk_at "go";refine Kc hc (j4 (v:=.int ns[j]) (by rw[Uv,Uf hj]; rfl)) ?_;walk_at "go";refine⟨m0, ?_⟩;walk_at "go";refine⟨⟨m0,mb⟩, ?_⟩;walk_at "go";exact fin _ _ (j+1) 0 st n (hns _ (Rv hj)) upd_same (λx hx=>by rw[upd_ne hx,upd_ne hx,upd_ne hx]) (by lia) (by lia) s0 s1
   ·walk_at "go"
    rw[if_pos ha];walk_at "go";refine⟨⟨by decide,by decide,by lia⟩, ?_⟩;walk_at "go";refine⟨.inl ⟨by decide,by decide⟩, ?_⟩;walk_at "go";refine⟨.inl ⟨by decide,by decide⟩,by decide, ?_⟩;walk_at "go";refine⟨⟨by decide,by decide⟩,m0, ?_⟩;refine k _ _ (U0 _ (by lia)) (UU _ m0) ⟨c,ns,i,a,_,n+1,upd_same, ?_,i0,i1,hl,hns,a0,U0 _ (by decide),UU _ (by decide)⟩ λx hx=>?_
    ·walk_at "hp"
    ·rw[upd_ne hx,upd_ne hx]
  ·walk_at "go"
   rw[if_neg ha];walk_at "go";refine⟨m0, ?_⟩;walk_at "go";refine⟨⟨m0,mb⟩, ?_⟩;walk_at "go";exact fin _ _ i 0 st n a0 upd_same (λx hx=>by rw[upd_ne hx]) i0 i1 s0 s1
def jr(H:Hp)(b c:Addr):Prop:=∃r,H b=some (.lst (.ref c::r))
theorem Z3(h:H b=some (.lst (.ref c::r)))(h':H' b=some (.lst (.ref c::r'))):∀c',jr H b c'->jr H' b c':=λc' ⟨q,e⟩=>by
 rw[h] at e;injection e with e
 injection e with e
 injection e with e _
 injection e with e
 subst e;exact⟨r',h'⟩
theorem head_inj(h:jr H b c)(h':jr H b c'):c=c':=by
 obtain⟨q,e⟩:=h;obtain⟨q',e'⟩:=h';rw[e] at e';injection e' with e'
 injection e' with e'
 injection e' with e' _
 injection e'
def YI:Sp:=λvs H Q _=>∃(b:Addr)(many:Int),vs=[.ref b, .int many]/\BagAt H b/\0<many/\many.natAbs.log2<9000/\∀(found:Int)(H':Hp),0<=found->found<many->BagAt H' b->(∀x,x≠b->H' x=H x)->(∀c,jr H b c->jr H' b c)->Q (.int found) H'
theorem BagAt.put(h:BagAt H b)(hh:jr H b c0)(n1:p≠b)(n2:p≠c0):BagAt (L2.upd H p o) b:=by
 obtain⟨c,ns,i,a,st,n,hb,hc,r⟩:=h.ex;have e:c0=c:=by
  obtain⟨q,e⟩:=hh;rw[hb] at e;injection e with e
  injection e with e
  injection e with e _
  injection e with e
  exact e.symm
 subst e;exact⟨c0,ns,i,a,st,n,kh n1.symm hb,kh n2.symm hc,r⟩
theorem J5(F:Fun Ξ "_law_draw" "_law_draw" X0 f fd)(N:Nms mg):FnOk P w Ξ mg base CX0 1 f fd ["bag","many"] YI:=by
 refine F.okQ scDraw (λvs H Q E h=>?_) (λcdv A outer s H vs Q E hr h=>?_)
 ·obtain⟨b,m,rfl,_⟩:=h
  rfl
 ·obtain⟨b,many,rfl,⟨c,ns,i,a,st,n,hb,hc,i0,i1,hl,hns,a0,s0,s1⟩,m0,mb,k⟩:=h
  have hcb:=KH hb hc;refine⟨_,(qf (vG (X5 (Zx (qw vD (qH (Ua Ξ) (qv 0) qe (λ_ _=>rfl)) qe (qA _)) (Qe (qw xX (qH (Ua Ξ) (qv 0) qe (λ_ _=>rfl)) (qK vq (by rfl) N.len jx (qa_c (qH (Ua Ξ) (qv 0) qe (λ_ _=>rfl)) qc)) (qA _)))))
   (qf (zd (qH (Ua Ξ) (qH (Ua Ξ) (qv 0) qe (λ_ _=>rfl)) (qH (Ua Ξ) (qv 0) qe (λ_ _=>rfl)) (λ_ _=>rfl)) (zw (qv 0) qe vK))
   (qi (zd (ql qO (qH (Ua Ξ) (qv 0) qe (λ_ _=>rfl)) qe) (zw (qv 0) qe vK))))
   (qi (vG (qw vD (qH (Ua Ξ) (qv 0) qe (λ_ _=>rfl)) qe (qA _))
    (qf (zd (ql qO (qH (Ua Ξ) (qv 0) qe (λ_ _=>rfl)) qe) (zw (qv 0) qe vK))
    (qf (zd (ql zi (ql qO (ql qO (ql qO (ql J4 (qH (Ua Ξ) (qv 0) qe (λ_ _=>rfl)) qe) (ql zp qe (qH (Ua Ξ) (qv 0) qe (λ_ _=>rfl)))) (ql zp qe (qH (Ua Ξ) (qv 0) qe (λ_ _=>rfl)))) qe) qe) (zw (qv 0) qe vK))
    (qi (qt (ql zi (ql zF (qH (Ua Ξ) (qv 0) qe (λ_ _=>rfl)) qe) (qv 1))))))
    qP)))
  (qf (qy (i:=2) scDraw.nd rfl Wu (ql zi (qH (Ua Ξ) (qv 0) qe (λ_ _=>rfl)) (qv 1)))
  (qf (zd (ql zF (qH (Ua Ξ) (qv 0) qe (λ_ _=>rfl)) (qv 1)) (zw (qv 0) qe vK))
  (qi (qt (qv 2)))))), ?_⟩
  walk_at "go";have fin:∀(z:Int)(H':Hp)(i' a' st' n':Int),0<=z->H' b=some (.lst [.ref c, .int i', .int (z / many), .int st', .int n'])->(∀x,x≠b->H' x=H x)->0<=i'->i'<=ns.length->0<=st'->st'<2147483647->Q (.int (z % many)) H':=λz H' i' a' st' n' hz e1 e2 e3 e4 e5 e6 =>
   k _ _ (U0 _ (by lia)) (UU _ m0) ⟨c,ns,i',z / many,st',n',e1,by rw[e2 c hcb]; exact hc,e3,e4,hl,hns,RF hz (by lia),e5,e6⟩ e2 (Z3 hb e1)
  refine ite2 (λha=>?_) (λha=>?_)
  ·walk_at "go"
   refine ite2 (λhi=>?_) (λhi=>?_)
   ·rw[Ug] at hi
    obtain⟨j,rfl⟩:∃j:Nat,i=(j:Int):=⟨i.toNat,by lia⟩;have hj:j<ns.length:=by lia
    walk_at "go";refine Kc hc (j4 (v:=.int ns[j]) (by rw[Uv,Uf hj]; rfl)) ?_;walk_at "go";refine⟨m0, ?_⟩;walk_at "go";refine⟨⟨m0,mb⟩, ?_⟩;walk_at "go";exact fin _ _ (j+1) 0 st n (hns _ (Rv hj)) upd_same (λx hx=>by rw[upd_ne hx,upd_ne hx,upd_ne hx]) (by lia) (by lia) s0 s1
   ·walk_at "go"
    rw[if_pos ha];walk_at "go";refine⟨⟨by decide,by decide,by lia⟩, ?_⟩;walk_at "go";refine⟨.inl ⟨by decide,by decide⟩, ?_⟩;walk_at "go";refine⟨.inl ⟨by decide,by decide⟩,by decide, ?_⟩;walk_at "go";refine⟨⟨by decide,by decide⟩,m0, ?_⟩;refine k _ _ (U0 _ (by lia)) (UU _ m0) ⟨c,ns,i,a,_,n+1,upd_same, ?_,i0,i1,hl,hns,a0,U0 _ (by decide),UU _ (by decide)⟩ (λx hx=>by rw[upd_ne hx,upd_ne hx]) (Z3 hb upd_same);walk_at "hp"
  ·walk_at "go"
   rw[if_neg ha];walk_at "go";refine⟨m0, ?_⟩;walk_at "go";refine⟨⟨m0,mb⟩, ?_⟩;walk_at "go";exact fin _ _ i 0 st n a0 upd_same (λx hx=>by rw[upd_ne hx]) i0 i1 s0 s1
def MB(M:MM)(k:Nat)(o:MO)(L:List MO):MM:=M.set k o++L
theorem MB_len:(MB M k o L).length=M.length+L.length:=by unfold MB; rw[Uj,Ut]
theorem MB_new:MB M k o L++[x]=MB M k o (L++[x]):=by unfold MB; rw[UL]
theorem MB_get:(MB M k o L)[M.length+i]?=L[i]?:=by
 unfold MB;rw[Uq (by rw[Ut]; lia),Ut,U8]
theorem zu(h:L[i]?=some x:=by rfl):(MB M k o L)[M.length+i]?=some x:=MB_get.trans h
theorem MB_set:(MB M k o L).set (M.length+i) x=MB M k o (L.set i x):=by
 unfold MB;rw[List.set_append_right _ _ (by rw[Ut]; lia),Ut,U8]
theorem Xo(h:k<M.length):(MB M k o L)[k]?=some o:=by
 unfold MB;rw[Ui (by rw[Ut]; exact h),Uw h]
theorem xr(h:k<M.length):(MB M k o L).set k o'=MB M k o' L:=by
 unfold MB;rw[DZ _ _ (by rw[Ut]; exact h),RG]
theorem jg:(MB M k o L).take M.length=M.set k o:=by
 unfold MB;rw[RH (by rw[Ut])]
theorem jz(h:M[k]?=some o):k<M.length/\M=MB M k o []:=by
 refine⟨(Ue.mp h).1, ?_⟩;unfold MB;rw[UR];obtain⟨hk,rfl⟩:=Ue.mp h;rw[RJ]
theorem jf(h:PurO o):xL M (MB M k o L):=λi x hi e=>by
 unfold MB at e;rw[Ui (by rw[Ut]; exact hi)] at e;by_cases hk:k=i
 ·subst hk
  rw[Uw hi] at e;cases e;exact .inr h
 ·rw[Uz hk] at e
  exact .inl e
structure BagO(o:MO):Prop where
 ex:∃(ns:List Int)(i a st n:Int),o=.lst [.p (qU ns), .p (.int i), .p (.int a), .p (.int st), .p (.int n)]/\0<=i/\i<=ns.length/\ns.length<=63/\(∀x∈ns,0<=x)/\0<=a/\0<=st/\st<2147483647
theorem BagO.pur(h:BagO o):PurO o:=by
 obtain⟨ns,i,a,st,n,rfl,_⟩:=h.ex;exact⟨[qU ns, .int i, .int a, .int st, .int n],rfl⟩
def VZ:List U->MM->UK->Prop:=λus M Q=>∃(k:Nat)(o:MO)(many:Int),us=[.m k, .p (.int many)]/\M[k]?=some o/\BagO o/\0<many/\many.natAbs.log2<9000/\∀(found:Int)(o':MO),0<=found->found<many->BagO o'->Q (.p (.int found)) (M.set k o')
theorem vk(hk:k<M.length)(B:BagO o)(h0:0<many)(h1:many.natAbs.log2<9000)(q:∀(found:Int)(o':MO),0<=found->found<many->BagO o'->Q (.p (.int found)) (MB M k o' L)):VZ [.m k, .p (.int many)] (MB M k o L) Q :=
 ⟨k,o,many,rfl,Xo hk,B,h0,h1,λf o' f0 f1 B'=>by rw[xr hk]; exact q f o' f0 f1 B'⟩
theorem ints_inv(r:RepT A H v (qU ns)):∃p,v=.ref p/\¬A p/\H p=some (.lst (ns.map V.int)):=by
 obtain⟨p,vs,rfl,na,h,q⟩:=r.lst_inv;refine⟨p,rfl,na, ?_⟩;have:vs=ns.map V.int:=by
  clear h r na
  induction ns generalizing vs with
  |nil=>cases q; rfl
  |cons n ns ih =>
   cases q with
   |cons a b=>cases a; rw[ih _ b]; rfl
 rw[h,this]
theorem Kd(na:¬A p)(h:H p=some (.lst (ns.map V.int))):RepT A H (.ref p) (qU ns):=by
 refine .lstP na h ?_
 induction ns with
 |nil=>exact .nil
 |cons n ns ih=>exact .cons (.int n) (by
   clear h ih
   induction ns with
   |nil=>exact .nil
   |cons n ns ih=>exact .cons (.int n) ih)
theorem bag_obj(hb:BagO o)(r:ObjR A ι H b o):BagAt H b/\∃c,jr H b c/\¬Av A ι c/\∃ns:List Int,H c=some (.lst (ns.map V.int)):=by
 obtain⟨ns,i,a,st,n,rfl,k⟩:=hb.ex;obtain⟨vs,h,q⟩:=r;cases q with
 |cons q1 q =>
 cases q with
 |cons q2 q =>
 cases q with
 |cons q3 q =>
 cases q with
 |cons q4 q =>
 cases q with
 |cons q5 q =>
 cases q;cases q1 with
 |p q1 =>
 obtain⟨c,rfl,nc,hc⟩:=ints_inv q1;cases q2 with
 |p q2 =>
 cases q3 with
 |p q3 =>
 cases q4 with
 |p q4 =>
 cases q5 with
 |p q5 =>
 cases q2; cases q3; cases q4; cases q5;exact⟨⟨c,ns,i,a,st,n,h,hc,k⟩,c,⟨_,h⟩,nc,ns,hc⟩
theorem KI(B:BagAt H b)(hd:jr H b c)(nc:¬Av A ι c):∃o,BagO o/\ObjR A ι H b o/\∃x,H b=some x/\∀H',H' b=some x->(∀y z,H y=some z->y≠b->H' y=some z)->ObjR A ι H' b o:=by
 obtain⟨c',ns,i,a,st,n,h,hc,k⟩:=B.ex;have:c=c':=head_inj hd ⟨_,h⟩;subst this;have ncb:c≠b:=KH h hc;refine⟨_,⟨ns,i,a,st,n,rfl,k⟩,⟨_,h, .cons (.p (Kd nc hc)) (.cons (.p (.int _)) (.cons (.p (.int _)) (.cons (.p (.int _)) (.cons (.p (.int _)) .nil))))⟩,_,h,λH' e f=>⟨_,e, .cons (.p (Kd nc (f _ _ hc ncb))) (.cons (.p (.int _)) (.cons (.p (.int _)) (.cons (.p (.int _)) (.cons (.p (.int _)) .nil))))⟩⟩
theorem ok_drawU(F:Fun Ξ "_law_draw" "_law_draw" X0 f fd)(N:Nms mg):FnOk P w Ξ mg base CX0 1 f fd ["bag","many"] (spU VZ):=by
 refine(J5 F N).imp λvs H Q E h=>?_;obtain⟨A,ι,M,us,Qu,w1,r,⟨k,o,many,rfl,em,hb,h0,h1,q⟩,kk⟩:=h;cases r with
 |cons r1 r =>
 cases r with
 |cons r2 r =>
 cases r;cases r2 with
 |p r2 =>
 cases r2;cases r1 with
 |m ek =>
 rename_i b;have ro:=w1.obj k b o ek em;obtain⟨B,c,hd,nc,ns,hcs⟩:=bag_obj hb ro;refine⟨b,many,rfl,B,h0,h1,λfound H' f0 f1 B' fr hdk=>?_⟩;have hd':=hdk c hd;have hmem:=Uh ek;obtain⟨o',hb',ro',x,hx,_⟩:=KI (A:=A) (ι:=ι) B' hd' nc;have eH:H'=L2.upd H b x:=by
  funext y;by_cases z:y=b
  ·subst z; rw[L2.upd_same]; exact hx
  ·rw[L2.upd_ne z]; exact fr y z
 subst eH;exact kk _ _ ι _ _ (.put hmem) (w1.put ek ro') (.p (.int _)) (q found o' f0 f1 hb')
theorem up1{R:T->Prop}:(∃t,U.p a=.p t/\R t)=R a:=propext ⟨λ⟨_,e,h⟩=>by cases e; exact h,λh=>⟨a,rfl,h⟩⟩
theorem Yr{ts:List T}(hz:ts.length<=sizeLine)(Iv:Nat->List T->MM->Prop)(h0:Iv 0 [] M)(hk:∀i acc M2,Iv i acc M2->M2[k]?=some (.lst (ts.map U.p)))(hs:∀i t acc M2,ts[i]?=some t->acc.length<=i->Iv i acc M2->ug (.p t) ρ0 M2 λρ4 M4=>ut ρ4 M4 λb M5=>if b=true then ua ρ4 M5 λz M6=>∃t,z=.p t/\Iv (i+1) (acc++[t]) M6 else Iv (i+1) acc M5)(hd:∀acc M2,Iv ts.length acc M2->Q (.p (.lst acc)) M2):UComp (itU (.m k) (ts.map U.p)) ug ut ua ρ0 M Q:=by
 refine⟨by simpa[itU] using hz,Iv,h0,λi acc M2 hi ha h=>⟨by show vg M2 (.m k)=_; simp[vg,hk i acc M2 h],λu hu=>?_⟩,λacc M2 h=>⟨by show vg M2 (.m k)=_; simp[vg,hk _ acc M2 h],hd acc M2 (by simpa[itU] using h)⟩⟩;have hu:(ts.map U.p)[i]?=some u:=hu;rw[Uv] at hu;cases e:ts[i]? with
 |none=>rw[e] at hu; cases hu
 |some t=>rw[e] at hu; cases hu; exact hs i t acc M2 e ha h
theorem get_map{α β:Type}{f:α->β}{l:List α}{i:Nat}{y:β}(h:(l.map f)[i]?=some y):∃x,l[i]?=some x/\y=f x:=by
 rw[Uv] at h;cases e:l[i]? with
 |none=>rw[e] at h; cases h
 |some n=>rw[e] at h; cases h; exact⟨n,rfl,rfl⟩
theorem t2_at(h:v3 M u=some [a,b])(q:R a b):T2S M u R:=⟨a,b,h,q⟩
theorem t3_at(h:v3 M u=some [a,b,c])(q:R a b c):T3S M u R:=⟨a,b,c,h,q⟩
theorem slm_at(e:M[k]?=some (.lst (ts.map U.p)))(q:Q (.p (.lst (cutT ts l h))) M):SlS M (.m k) l h Q:=⟨ts,by simp[sn,e],q⟩
theorem useq(h:a { E with nx:=b E } ρ M):uSeq a b E ρ M:=h
local macro_rules | `(tactic| walk_at "us") => `(tactic| first|walk_at "vs" |simp only[uSeq])
local macro_rules | `(tactic| walk_at "u") => `(tactic| repeat (first|walk_at "us" |refine vI rfl ?_|refine vI at0 ?_|refine vI at1 ?_|refine ixt_at rfl ?_|refine t2_at rfl ?_|refine t3_at rfl ?_|refine W7 rfl ?_|refine jV rfl ?_|refine W7 zu ?_|refine jV zu ?_))
local macro_rules | `(tactic| walk_at "vs") => `(tactic| simp only[xI,uNext,uAsg,Yt,rd_name2,rd_name3,rd_var,rd_varS,uC,uCons,uNil,rd_op,rd_opS,rd_sI,rd_sI0,rd_eqI,rd_neI,rd_eqS,rd_neS,rd_eqB,rd_neB,uIsN,Jm,rd_intS,rd_blS,rd_neg,rd_bits,rd_b,rd_andV,rd_orV,rd_notV,uAnd,uOr,uNot,uIf,rd_chain,rd_chP,rd_ch,rd_pur0,rd_purC,Y4,rd_tup,rd_lst,uNew,uNewT,rd_ix,rd_sns0,rd_snsC,rd_cb,rd_abs',rd_min',rd_max',rd_int',rd_intB,rd_len,rd_lenP,rd_sl,rd_slS,rd_part,Y5,rd_cat,rd_str,rd_iter,rd_iterP,rd_rng1,uFor,uComp,K3,rd_t2,rd_t3,rd_callP,rd_callS,rd_callU,rd_me,rd_app,uDrop,uRet,uRetN,uIfS,uYes,ss,uIsi,uIsi2,isU,isT,uIxK,uInK,vt,uDNew,rd_din,rd_dput,rd_idxK,rd_lrng2,rd_sub,rd_par,rd_par3,rd_p2,rd_p3,rd_name4,rd_t4,rd_fld,Y6,rd_meth,rd_make,Y3,Bool.or_true,Bool.true_or,Bool.or_false,Bool.false_or,uIfC,iteT_int,iteT_str,rd_rev,rd_revP,up1,GO,Q6,MO.lst.injEq,rd_dget,JN,MB_new,MB_len,MB_get,MB_set,Option.some.injEq,List.map_cons,List.map_nil,List.length_cons,List.length_nil,List.replicate,List.append_nil,List.nil_append,List.cons_append,List.getElem?_cons_zero,List.getElem?_cons_succ,List.set_cons_zero,List.set_cons_succ,List.zip_cons_cons,List.zip_nil_left,List.zip_nil_right,Bool.false_eq_true,if_true,if_false,decide_eq_true_eq,decide_true,decide_false,Bool.not_true,Bool.not_false,true_and,and_true,Nat.reduceAdd,Nat.reduceSub,Nat.zero_add,exists_eq_left'])
local macro_rules | `(tactic| walk_at "v") => `(tactic| repeat (first|with_reducible refine useq ?_|walk_at "vs" | ((with_reducible refine gdIx ?_); first|refine vI rfl ?_|refine vI at0 ?_|refine vI at1 ?_|refine ixt_at rfl ?_)|((with_reducible refine gdT2 ?_); refine t2_at rfl ?_)|((with_reducible refine gdT3 ?_); refine t3_at rfl ?_)|((with_reducible refine gdMe ?_); first|refine W7 rfl ?_|refine W7 zu ?_)|((with_reducible refine gdLen ?_); first|refine jV rfl ?_|refine jV zu ?_)))
abbrev Mk3:=Str×Int×Int
def on(word:Int)(m:Mk3):Bool:=decide (word % 2^m.2.1.toNat=m.2.2)
def Wd(ms:List Mk3):Prop:=∀m∈ms,0<=m.2.1/\m.2.1<=1000
theorem qZ(k:Nat):(0:Int)<2^k:=Int.pow_pos (by decide)
theorem vm{α:Type}{l:List α}{i:Nat}{x:α}(h:l[i]?=some x):l.take (i+1)=l.take i++[x]:=by
 obtain⟨hi,e⟩:=Ue.mp h;rw[List.take_succ_eq_append_getElem hi,e]
def OfKind(ms:List Mk3)(kind:Str)(m:Mk3):Prop:=∃rest,ms.filter (λm=>decide (m.1=kind))=m::rest
def kg:List Str:=["small","far","pair","sign","one"]
abbrev Nd:=Int×Int
def Disj(a b:Nd):Prop:=∀x:Int,¬(x % 2^a.1.toNat=a.2/\x % 2^b.1.toNat=b.2)
theorem Disj.symm(h:Disj a b):Disj b a:=λx ⟨p,q⟩=>h x ⟨q,p⟩
def NdOk(a:Nd):Prop:=0<=a.1/\a.1<=60/\0<=a.2/\a.2<2^a.1.toNat
theorem jT{x:Int}(h:a<=b):x % 2^b % 2^a=x % 2^a:=by
 refine Int.emod_emod_of_dvd x ?_;obtain⟨c,rfl⟩:=Nat.exists_eq_add_of_le h;exact⟨2^c,R6 ..⟩
def zH(a:Nd)(s:Int):Nd:=(a.1+1,a.2+s*2^a.1.toNat)
theorem qaa(ha:NdOk a)(h:x % 2^(zH a s).1.toNat=(zH a s).2):x % 2^a.1.toNat=a.2:=by
 have e:(zH a s).1.toNat=a.1.toNat+1:=by show(a.1+1).toNat=_; have:=ha.1; lia
 rw[e] at h;rw[<-jT (R4 a.1.toNat),h];show(a.2+s*2^a.1.toNat) % 2^a.1.toNat=a.2;rw[Bk,Int.add_mul_emod_self_left];exact U7 ha.2.2.1 ha.2.2.2
theorem Q9(ha:NdOk a)(h:Disj a b):Disj (zH a s) b:=λx ⟨p,q⟩=>h x ⟨qaa ha p,q⟩
theorem G9(hs:s≠t):Disj (zH a s) (zH a t):=λx ⟨p,q⟩=>by
 rw[show(zH a t).1=(zH a s).1 from rfl,p] at q;have:(a.2+s*2^a.1.toNat)=a.2+t*2^a.1.toNat:=q;have h2:s*2^a.1.toNat=t*2^a.1.toNat:=by lia
 exact hs (Int.eq_of_mul_eq_mul_right (Ra (qZ _)) h2)
theorem Ky(ha:NdOk a)(h59:a.1<=59)(hs:s=0\/s=1):NdOk (zH a s):=by
 obtain⟨h1,h2,h3,h4⟩:=ha;have e:(a.1+1).toNat=a.1.toNat+1:=by lia
 refine⟨by show 0<=a.1+1; lia,by show a.1+1<=60; lia, ?_, ?_⟩
 ·show 0<=a.2+s*2^a.1.toNat
  have:=qZ a.1.toNat;rcases hs with rfl|rfl<;>lia
 ·show a.2+s*2^a.1.toNat<2^(a.1+1).toNat
  rw[e,Int.pow_succ];rcases hs with rfl|rfl<;>lia
theorem Qy(h:a.2 % 2^(min a.1.toNat b.1.toNat)≠b.2 % 2^(min a.1.toNat b.1.toNat)):Disj a b:=λx ⟨p,q⟩=>by
 refine h ?_;rw[<-p, <-q,jT (Nat.min_le_left _ _),jT (Nat.min_le_right _ _)]
theorem Q1{α:Type}:∀{l:List α}{i:Nat}{x:α},l[i]?=some x->l.Perm (x::l.eraseIdx i)
 | [],_,_,h=>by simp at h
 |y::l,0,x,h=>by simp at h; subst h; simp
 |y::l,i+1,x,h=>by
  have:=Q1 (l:=l) (i:=i) (x:=x) (by simpa using h);exact(List.Perm.cons y this).trans (List.Perm.swap ..)
def need(kind:Str):Int:=if kind = "sign" then 7 else if kind = "small" then 2 else if kind = "one" then 2 else 3
structure Right(bits:Int)(ms:List Mk3):Prop where
 b:8<=bits/\bits<=32
 n:ms.length=5
 k:(ms.map (·.1)).Perm kg
 w:∀m∈ms,1<=m.2.1/\m.2.1<=bits-need m.1
 p:∀m∈ms,0<=m.2.2/\m.2.2<2^m.2.1.toNat
 d:ms.Pairwise λm m'=>Disj m.2 m'.2
theorem vY(k:Str):2<=need k:=by unfold need; split<;>(try split)<;>(try split)<;>decide
theorem Right.wd(r:Right bits ms):Wd ms:=λm hm=>by
 have:=r.w m hm;have h2:=vY m.1;have:=r.b;lia
theorem Right.kind(r:Right bits ms){kind:Str}(h:kind∈kg):∃m,OfKind ms kind m:=by
 have:kind∈ms.map (·.1):=r.k.mem_iff.mpr h;obtain⟨m,hm,e⟩:=UW.mp this;cases q:ms.filter (λm=>decide (m.1=kind)) with
 |nil =>
  have:m∈ms.filter (λm=>decide (m.1=kind)):=UB.mpr ⟨hm,by simp[e]⟩;rw[q] at this; cases this
 |cons m0 rest=>exact⟨m0,rest,q⟩
theorem Right.of_perm(r:Right bits ms)(h:ms.Perm ns):Right bits ns :=
 ⟨r.b,h.length_eq.symm.trans r.n,(h.map _).symm.trans r.k,λm hm=>r.w m (h.mem_iff.mpr hm),λm hm=>r.p m (h.mem_iff.mpr hm),(h.pairwise_iff λh=>h.symm).mp r.d⟩
theorem log2_lt{n:Int}(h0:0<n)(h1:n<2^62):n.natAbs.log2<9000:=by
 have:n.natAbs.log2<62:=(Bm (by lia)).mpr (by lia);lia
def T0:List Nd:=[(1,0),(2,1),(3,3),(4,7),(4,15)]
def T1:List Nd:=[(1,0),(3,1),(3,3),(3,5),(3,7)]
def T2:List Nd:=[(2,0),(2,1),(2,2),(3,3),(3,7)]
def Tbl(bits:Int)(t:List Nd):Prop:=t=T0\/t=T1\/(t=T2/\9<=bits)
def xm(mask:Int)(n:Nd):Nd:=(n.1,Builtin.bitXor n.2 mask % 2^n.1.toNat)
def fm(mask:Int)(o:Str)(n:Nd):Mk3:=(o,xm mask n)
def cnt(bits:Int)(t:List Nd):Nat:=(t.filter λn=>decide (n.1<=bits-7)).length
theorem cnt_pos(hb:8<=bits)(h:Tbl bits t):0<cnt bits t:=by
 unfold cnt;refine D4.mpr λe=>?_;rcases h with rfl|rfl|⟨rfl,h9⟩
 ·have:((1,0):Nd)∈T0.filter λn=>decide (n.1<=bits-7):=UB.mpr ⟨by decide,by simp; lia⟩
  rw[e] at this; cases this
 ·have:((1,0):Nd)∈T1.filter λn=>decide (n.1<=bits-7):=UB.mpr ⟨by decide,by simp; lia⟩
  rw[e] at this; cases this
 ·have:((2,0):Nd)∈T2.filter λn=>decide (n.1<=bits-7):=UB.mpr ⟨by decide,by simp; lia⟩
  rw[e] at this; cases this
theorem Vd(h:Tbl bits t):t.length=5:=by rcases h with rfl|rfl|⟨rfl,_⟩<;>rfl
theorem tbl_w(h:Tbl bits t):∀n∈t,1<=n.1/\n.1<=4:=by rcases h with rfl|rfl|⟨rfl,_⟩<;>decide
theorem tbl_sign(hb:8<=bits)(h:Tbl bits t)(ha:at'<cnt bits t)(hn:t[at']?=some n):n.1<=bits-7:=by
 by_cases h11:11<=bits
 ·have:=(tbl_w h n (Uh hn)).2
  lia
 ·have hl:at'<5:=by
   have:=(Ue.mp hn).1;rw[Vd h] at this;exact this
  have key:∀b∈([8,9,10]:List Int),∀t∈[T0,T1,T2],∀i∈List.range 5,i<cnt b t->∀n∈t[i]?,n.1<=b-7:=by decide +kernel
  have hbm:bits∈([8,9,10]:List Int):=by
   rcases(show bits=8\/bits=9\/bits=10 by lia) with rfl|rfl|rfl<;>decide
  have htm:t∈[T0,T1,T2]:=by rcases h with rfl|rfl|⟨rfl,_⟩<;>simp
  exact key bits hbm t htm at' (Di.mpr hl) ha n hn
theorem tbl_disj(h:Tbl bits t)(m0:0<=mask)(m1:mask<16):(t.map (xm mask)).Pairwise Disj:=by
 have key:∀k∈List.range 16,∀t∈[T0,T1,T2],(t.map (xm (k:Int))).Pairwise λa b=>a.2 % 2^(min a.1.toNat b.1.toNat)≠b.2 % 2^(min a.1.toNat b.1.toNat):=by decide +kernel
 obtain⟨k,rfl⟩:∃k:Nat,mask=(k:Int):=⟨mask.toNat,by lia⟩;have htm:t∈[T0,T1,T2]:=by rcases h with rfl|rfl|⟨rfl,_⟩<;>simp
 exact(key k (Di.mpr (by lia)) t htm).imp λh=>Qy h
def four:List Str:=["small","far","pair","one"]
theorem WV{k:Str}(h:k ≠ "sign"):need k<=3:=by unfold need; rw[if_neg h]; split<;>(try split)<;>decide
theorem kJ:∀{os:List Str}{t:List Nd},os.length=t.length->(List.zipWith (fm mask) os t).map (·.2)=t.map (xm mask)
 | [], [],_=>rfl
 |o::os,n::t,h=>by
  have:=kJ (mask:=mask) (os:=os) (t:=t) (by simpa using h);simp only[Rx,Uy,this]; rfl
theorem kL:∀{os:List Str}{t:List Nd},os.length=t.length->(List.zipWith (fm mask) os t).map (·.1)=os
 | [], [],_=>rfl
 |o::os,n::t,h=>by
  have:=kL (mask:=mask) (os:=os) (t:=t) (by simpa using h);simp only[Rx,Uy,this]; rfl
theorem Yd{ks:List Str}(hb:8<=bits/\bits<=32)(h:Tbl bits t)(m0:0<=mask)(m1:mask<16)(hk:ks.Perm four)(ha:at'<cnt bits t)(ha4:at'<=4) :
  Right bits (List.zipWith (fm mask) (ks.take at'++(["sign"]:List Str)++ks.drop at') t):=by
 have hk4:ks.length=4:=hk.length_eq;have hol:(ks.take at'++(["sign"]:List Str)++ks.drop at').length=t.length:=by
  rw[Vd h]; simp only[Uj,UZ,Dv,Ul,U6]; lia
 have hns:∀k∈ks,k ≠ "sign" := λk hkm=>by
  have:k∈four:=hk.mem_iff.mp hkm;intro e; subst e; exact absurd this (by decide +kernel)
 have hget:∀m∈List.zipWith (fm mask) (ks.take at'++(["sign"]:List Str)++ks.drop at') t,∃i o n,(ks.take at'++(["sign"]:List Str)++ks.drop at')[i]?=some o/\t[i]?=some n/\m=fm mask o n:=λm hm=>by
  obtain⟨i,hi⟩:=List.mem_iff_getElem?.mp hm;rw[List.getElem?_zipWith_eq_some] at hi;obtain⟨o,n,h1,h2,h3⟩:=hi;exact⟨i,o,n,h1,h2,h3.symm⟩
 refine⟨hb, ?_, ?_,λm hm=>?_,λm hm=>?_, ?_⟩
 ·rw[List.length_zipWith,hol,Bi,Vd h]
 ·rw[kL hol]
  have p1:(ks.take at'++(["sign"]:List Str)++ks.drop at').Perm ("sign" :: (ks.take at'++ks.drop at')):=by
   rw[UL]; exact List.perm_middle
  rw[RK] at p1;exact p1.trans ((List.Perm.cons _ hk).trans (by decide +kernel))
 ·obtain⟨i,o,n,h1,h2,rfl⟩:=hget m hm
  have hw:=tbl_w h n (Uh h2);show 1<=n.1/\n.1<=bits-need o;by_cases ho:o = "sign"
  ·have hi:i=at':=by
    have hl:(ks.take at').length=at':=by simp; lia
    rcases Nat.lt_trichotomy i at' with z|z|z
    ·rw[UL,Ui (by lia)] at h1
     have:o∈ks:=Dn (Uh h1);exact absurd ho (hns o this)
    ·exact z
    ·rw[Uq (by simp; lia)] at h1
     have:o∈ks:=D0 (Uh h1);exact absurd ho (hns o this)
   subst hi;have:=tbl_sign hb.1 h ha h2;rw[ho];have e7:need "sign" = 7:=by decide +kernel
   rw[e7]; lia
  ·have:=WV ho
   lia
 ·obtain⟨i,o,n,h1,h2,rfl⟩:=hget m hm
  exact⟨U0 _ (Ra (qZ _)),UU _ (qZ _)⟩
 ·have:=tbl_disj h m0 m1
  rw[<-kJ hol,Rm] at this;exact this
def L0:List Str:=["small","far","pair","one"]
def L1:List Str:=["far","one","small","pair"]
def rot(L:List Str)(α:Nat):List Str:=((L++L).drop α).take 4
theorem rot_perm(h:L=L0\/L=L1)(ha:α<4):(rot L α).Perm four:=by
 have key:∀L∈[L0,L1],∀α∈List.range 4,(rot L α).Perm four:=by decide +kernel
 exact key L (by rcases h with rfl|rfl<;>simp) α (Di.mpr ha)
structure LInv(bits:Int)(KS:List Str)(i:Nat)(ns:List Nd)(ms:List Mk3):Prop where
 ok:∀n∈ns,NdOk n
 low:∃n∈ns,n.1<=i
 len:ns.length<=1+31*i
 kinds:ms.map (·.1)=KS.take i
 w:∀m∈ms,1<=m.2.1/\m.2.1<=bits-need m.1
 p:∀m∈ms,NdOk m.2
 d:(ns++ms.map (·.2)).Pairwise Disj
structure WInv(i:Nat)(w0:Int)(c:Nd)(ns:List Nd)(ms:List Mk3):Prop where
 cok:NdOk c
 w:w0<=c.1
 ok:∀n∈ns,NdOk n
 low:(∃n∈ns,n.1<=i+1)\/(c.1=w0/\w0<=i)
 len:(ns.length:Int)<=31*i+c.1
 d:(c::(ns++ms.map (·.2))).Pairwise Disj
theorem LInv.pick(h:LInv bits KS i ns ms)(hj:ns[j]?=some n):WInv i n.1 n (ns.eraseIdx j) ms:=by
 have hp:=Q1 hj;have hn:n∈ns:=Uh hj;have hl:=hp.length_eq;have:=h.len;have hok:=h.ok n hn;refine⟨hok,Bn _,λm hm=>h.ok m (List.mem_of_mem_eraseIdx hm), ?_, ?_, ?_⟩
 ·obtain⟨m,hm,hw⟩:=h.low
  rcases Up.mp (hp.mem_iff.mp hm) with rfl|z
  ·exact .inr ⟨rfl,hw⟩
  ·exact .inl ⟨m,z,by lia⟩
 ·have:=hok.1
  simp only[Ul] at hl;lia
 ·exact((hp.append_right (ms.map (·.2))).pairwise_iff λh=>h.symm).mp h.d
theorem WInv.step(h:WInv i w0 c ns ms)(hs:s=0\/s=1)(h59:c.1<=59):WInv i w0 (zH c s) (ns++[zH c (1-s)]) ms:=by
 have hs':1-s=0\/1-s=1:=by lia
 obtain⟨dc,dr⟩:=U4.mp h.d;have cw:(zH c s).1=c.1+1:=rfl;refine⟨Ky h.cok h59 hs,by rw[cw]; have:=h.w; lia,λn hn=>?_, ?_, ?_, ?_⟩
 ·rcases Uu.mp hn with z|z
  ·exact h.ok n z
  ·rw[Us.mp z]; exact Ky h.cok h59 hs'
 ·rcases h.low with⟨n,hn,hw⟩|⟨e,hw⟩
  ·exact .inl ⟨n,UH _ hn,hw⟩
  ·exact .inl ⟨zH c (1-s),UJ _ (Us.mpr rfl),by show c.1+1<=_; lia⟩
 ·have:=h.len
  rw[cw,Uj,Dd];push_cast; lia
 ·have p1:(zH c s::(ns++[zH c (1-s)]++ms.map (·.2))).Perm (zH c s::zH c (1-s)::(ns++ms.map (·.2))):=by
   refine List.Perm.cons _ ?_;rw[UL];exact List.perm_middle
  refine(p1.pairwise_iff λh=>h.symm).mpr ?_;refine U4.mpr ⟨λn hn=>?_,U4.mpr ⟨λn hn=>Q9 h.cok (dc n hn),dr⟩⟩;rcases Up.mp hn with rfl|z
  ·exact G9 (by lia)
  ·exact Q9 h.cok (dc n z)
theorem WInv.fin(h:WInv i w0 c ns ms)(h0:LInv bits KS i ns0 ms)(hk:KS[i]?=some kind)(hg:c.1=goal)(hw:w0<goal)(h1:1<=goal)(h2:goal<=bits-need kind)(h31:goal<=31) :
  LInv bits KS (i+1) ns (ms++[(kind,c)]):=by
 have hl:=h.len;refine⟨h.ok, ?_, ?_, ?_,λm hm=>?_,λm hm=>?_, ?_⟩
 ·rcases h.low with⟨n,hn,hw'⟩|⟨e,_⟩
  ·exact⟨n,hn,by push_cast; exact hw'⟩
  ·lia
 ·lia
 ·rw[Um,h0.kinds,vm hk]; rfl
 ·rcases Uu.mp hm with z|z
  ·exact h0.w m z
  ·rw[Us.mp z]; exact⟨by show 1<=c.1; lia,by show c.1<=bits-need kind; lia⟩
 ·rcases Uu.mp hm with z|z
  ·exact h0.p m z
  ·rw[Us.mp z]; exact h.cok
 ·rw[Um, <-UL]
  have p1:(ns++ms.map (·.2)++[c]).Perm (c::(ns++ms.map (·.2))):=RL;exact(p1.pairwise_iff λh=>h.symm).mpr h.d
theorem LInv.right(h:LInv bits KS 5 ns ms)(hK:KS.Perm kg)(hb:8<=bits/\bits<=32):Right bits ms:=by
 have hl:KS.length=5:=hK.length_eq;have hk:ms.map (·.1)=KS:=by rw[h.kinds,DT (by lia)]
 refine⟨hb, ?_,by rw[hk]; exact hK,h.w,λm hm=>⟨(h.p m hm).2.2.1,(h.p m hm).2.2.2⟩, ?_⟩
 ·have:=congrArg List.length hk
  rw[Ug,hl] at this;exact this
 ·have:=(DG.mp h.d).2.1
  rw[Rm] at this;exact this
theorem ks_low{α i:Nat}(hb:8<=bits)(hp:(rot L α).Perm four)(hk:(("sign" : Str)::rot L α)[i]?=some kind):(i:Int)<bits-need kind/\kind∈kg/\i<5:=by
 have hl:(rot L α).length=4:=hp.length_eq;cases i with
 |zero =>
  simp at hk; subst hk;have e7:need "sign" = 7:=by decide +kernel
  rw[e7];exact⟨by lia,by decide +kernel,by lia⟩
 |succ i =>
  simp at hk;have hm:kind∈four:=hp.mem_iff.mp (Uh hk);have hi:=(Ue.mp hk).1;have hns:kind ≠ "sign" := λe=>by subst e; exact absurd hm (by decide +kernel)
  have:=WV hns;have sub:∀k∈four,k∈kg:=by decide +kernel
  exact⟨by push_cast; lia,sub kind hm,by lia⟩
theorem Km{α:Type}[DecidableEq α]:∀{l:List α}{x:α},x∈l->∃j:Nat,l[j]?=some x/\∀m:Nat,m<j->l[m]?≠some x
 | [],_,h=>by cases h
 |y::l,x,h=>by
  by_cases e:y=x
  ·exact⟨0,by simp[e],λm hm=>by lia⟩
  ·have:x∈l:=by
    rcases Up.mp h with z|z
    ·exact absurd z.symm e
    ·exact z
   obtain⟨j,h1,h2⟩:=Km this;refine⟨j+1,by simpa using h1,λm hm=>?_⟩;cases m with
   |zero=>simpa using e
   |succ m=>simpa using h2 m (by lia)
theorem OfKind.mem(h:OfKind ms kind m):m∈ms:=by
 obtain⟨rest,e⟩:=h;have:m∈ms.filter (λm=>decide (m.1=kind)):=by rw[e]; exact UN
 exact(UB.mp this).1
theorem OfKind.is(h:OfKind ms kind m):m.1=kind:=by
 obtain⟨rest,e⟩:=h;have:m∈ms.filter (λm=>decide (m.1=kind)):=by rw[e]; exact UN
 exact of_decide_eq_true (UB.mp this).2
def Qm(m:Mk3):T:=.tup [.str m.1, .int m.2.1, .int m.2.2]
def layT(bits:Int)(ms:List Mk3):T:=.tup [.int bits, .lst (ms.map Qm)]
def ndT(n:Nd):T:=.tup [.int n.1, .int n.2]
def XB(ks:List Str):T:=.lst (ks.map T.str)
theorem Ku{α:Type}{f:α->T}{xs:List α}{a b:Nat}(h1:a<=b)(h2:b<=xs.length):cutT (xs.map f) (some (a:Int)) (some (b:Int))=((xs.drop a).take (b-a)).map f:=by
 unfold cutT;have e1:HT.sIx (xs.map f).length 0 (some (a:Int))=min a (xs.map f).length:=HT.sIx_nat _ _ a;have e2:HT.sIx (xs.map f).length (xs.map f).length (some (b:Int))=min b (xs.map f).length:=HT.sIx_nat _ _ b;rw[e1,e2];simp only[Ug];rw[Dq (show a<=xs.length by lia),Dq h2,Bb,Bc]
theorem Xc{α:Type}{f:α->T}{xs:List α}{a:Nat}(h:a<=xs.length):cutT (xs.map f) none (some (a:Int))=(xs.take a).map f:=by
 unfold cutT;have e1:HT.sIx (xs.map f).length 0 none=0:=rfl;have e2:HT.sIx (xs.map f).length (xs.map f).length (some (a:Int))=min a (xs.map f).length:=HT.sIx_nat _ _ a;rw[e1,e2];simp only[Ug,R0,Nat.sub_zero,Dq h,Bb]
theorem Xd{α:Type}{f:α->T}{xs:List α}{a:Nat}(h:a<=xs.length):cutT (xs.map f) (some (a:Int)) none=(xs.drop a).map f:=by
 unfold cutT;have e1:HT.sIx (xs.map f).length 0 (some (a:Int))=min a (xs.map f).length:=HT.sIx_nat _ _ a;have e2:HT.sIx (xs.map f).length (xs.map f).length none=(xs.map f).length:=rfl;rw[e1,e2];simp only[Ug,Dq h];rw[DT (by simp),Bc]
theorem atT{α:Type}{f:α->T}{xs:List α}{i:Nat}{x:α}(h:xs[i]?=some x):atI (xs.map f) (i:Int)=some (f x):=j4 (by rw[Uv,h]; rfl)
abbrev xU:Stmt:=top 52
theorem scFullLaying:FnScope ["bag","bits","order","rows","some","mask","at"] ["bag","bits","order"] (qg xU):=⟨rfl,rfl,rfl,by decide +kernel,rfl,by decide +kernel,by decide +kernel⟩
theorem VN:(["bag","bits","order","rows","some","mask","at","one"]:List Str).Nodup:=by decide +kernel
theorem VM:(["bag","bits","order","rows","some","mask","at","k"]:List Str).Nodup:=by decide +kernel
def gFull:List U->MM->UK->Prop:=λus M Q=>∃(k:Nat)(o:MO)(bits:Int)(ks:List Str),us=[.m k, .p (.int bits), .p (XB ks)]/\M[k]?=some o/\BagO o/\ks.Perm four/\(8<=bits/\bits<=32)/\∀(o':MO)(ms:List Mk3),BagO o'->Right bits ms->Q (.p (layT bits ms)) (M.set k o')
theorem ok_fullU(F:Fun Ξ "_law_full_laying" "_law_full_laying" xU f fd)(N:Nms mg)(DDraw:Def P w Ξ mg base "_law_draw" 1 ["bag","many"] (spU VZ)):FnOk P w Ξ mg base CX0 2 f fd ["bag","bits","order"] (spU gFull):=by
 refine F.zV scFullLaying (λus M Qu h=>?_) (λcdv A outer s H E hr=>?_)
 ·obtain⟨_,_,_,_,rfl,_⟩:=h
  rfl
 refine⟨_,(qf (qy (i:=3) scFullLaying.nd rfl Wu (qR (qa_c (qR (qa_c (qS (qa_c qe (qa_c qe qc))) (qa_c (qS (qa_c qe (qa_c qe qc))) (qa_c (qS (qa_c qe (qa_c qe qc))) (qa_c (qS (qa_c qe (qa_c qe qc))) (qa_c (qS (qa_c qe (qa_c qe qc))) qc)))))) (qa_c (qR (qa_c (qS (qa_c qe (qa_c qe qc))) (qa_c (qS (qa_c qe (qa_c qe qc))) (qa_c (qS (qa_c qe (qa_c qe qc))) (qa_c (qS (qa_c qe (qa_c qe qc))) (qa_c (qS (qa_c qe (qa_c qe qc))) qc)))))) qc))))
  (qf (vN (QP PySem.F.slot_list_append PySem.F.type_list_append zm (qv 3) (qa_c (qR (qa_c (qS (qa_c qe (qa_c qe qc))) (qa_c (qS (qa_c qe (qa_c qe qc))) (qa_c (qS (qa_c qe (qa_c qe qc))) (qa_c (qS (qa_c qe (qa_c qe qc))) (qa_c (qS (qa_c qe (qa_c qe qc))) qc)))))) qc)))
  (qf (qy (i:=4) scFullLaying.nd rfl Gd (qH (Ua Ξ) (qv 3) (qm DDraw (Wl hr) (qa_c (qv 0) (qa_c (ql qO qe (vH jw (by rfl) N.int qam (qa_c (vC op_gt (qv 1) qe (qA _)) qc))) qc))) (λ_ _=>rfl)))
  (qf (qy (i:=5) scFullLaying.nd rfl Gd (qm DDraw (Wl hr) (qa_c (qv 0) (qa_c qe qc))))
  (qf (qy (i:=6) scFullLaying.nd rfl Wu (qm DDraw (Wl hr) (qa_c (qv 0) (qa_c (qK vq (by rfl) N.len jx (qa_c (VC [false,true,false,false,false,false,false] ["one"] (vL (Ξ:=Ξ) rfl (qv 4)) (λ_ _ _=>(vP (i:=7) VN rfl Wu)) (λ_ _ _=>jP (qw op_le (qH (Ub Ξ) (qv 7) qe (λ_ _=>rfl)) (ql vp (qv 1) qe) (qA _))) (λ_ _ _=>(qv 7))) qc)) qc))))
  (qf (qy (i:=2) scFullLaying.nd rfl Gd (ql jn (ql jn (vW (Gf Ξ) (qv 2) jQ (vO (qv 6))) (qR (qa_c qD qc))) (vW (Gf Ξ) (qv 2) (vO (qv 6)) jQ)))
  (qi (qt (qS (qa_c (qv 1) (qa_c (VC [false,false,true,false,true,true,false] ["k"] (Qg rfl N.range (qa_c qe qc)) (λ_ _ _=>(vP (i:=7) VM rfl Wu)) (λ_ _ _=>VB) (λ_ _ _=>(qS (qa_c (qH (Ua Ξ) (qv 2) (qv 7) (λ_ _=>rfl)) (qa_c (qH (Ub Ξ) (qH (Ua Ξ) (qv 4) (qv 7) (λ_ _=>rfl)) qe (λ_ _=>rfl)) (qa_c (ql zi (ql op_xor (qH (Ub Ξ) (qH (Ua Ξ) (qv 4) (qv 7) (λ_ _=>rfl)) qe (λ_ _=>rfl)) (qv 5)) (ql vS qe (qH (Ub Ξ) (qH (Ua Ξ) (qv 4) (qv 7) (λ_ _=>rfl)) qe (λ_ _=>rfl)))) qc)))))) qc))))))))))),_,(qh (qx (ju (qa (vn (qa (qT (qa Wm (qa Wm qd))) (qa (qT (qa Wm (qa Wm qd))) (qa (qT (qa Wm (qa Wm qd))) (qa (qT (qa Wm (qa Wm qd))) (qa (qT (qa Wm (qa Wm qd))) qd)))))) (qa (vn (qa (qT (qa Wm (qa Wm qd))) (qa (qT (qa Wm (qa Wm qd))) (qa (qT (qa Wm (qa Wm qd))) (qa (qT (qa Wm (qa Wm qd))) (qa (qT (qa Wm (qa Wm qd))) qd)))))) qd))) (qk 3))
   (qh (vR (QU zk (qb 3) (qa (vn (qa (qT (qa Wm (qa Wm qd))) (qa (qT (qa Wm (qa Wm qd))) (qa (qT (qa Wm (qa Wm qd))) (qa (qT (qa Wm (qa Wm qd))) (qa (qT (qa Wm (qa Wm qd))) qd)))))) qd)))
   (qh (qx (vE (qb 3) (qF (qa (qb 0) (qa (qj (qr λ_ _=>.int _) Wm (zB Ze (qa (qj (qr λ_ _=>.bl _) (qb 1) Wm) qd))) qd)))) (qk 4))
   (qh (qx (qF (qa (qb 0) (qa Wm qd))) (qk 5))
   (qh (qx (qF (qa (qb 0) (qa (xo (qa (xp (zo (qb 4)) (zI 7) (qC (qj (qr λ_ _=>.bl _) (vi (qb 7) Wm) (qj (qr λ_ _=>.int _) (qb 1) Wm))) (qb 7)) qd)) qd))) (qk 6))
   (qh (qx (qj xh (qj xh (Zc (qb 2) Za (v7 (qb 6))) (vn (qa Wr qd))) (Zc (qb 2) (v7 (qb 6)) Za)) (qk 2))
   (qB (qT (qa (qb 1) (qa (xp (JD (qa Wm qd)) (zI 7) G4 (qT (qa (vE (qb 2) (qb 7)) (qa (vi (vE (qb 4) (qb 7)) Wm) (qa (qj (qW λ_ _=>.int _) (qj (qr λ_ _=>.int _) (vi (vE (qb 4) (qb 7)) Wm) (qb 5)) (qj (qW λ_ _=>.int _) Wm (vi (vE (qb 4) (qb 7)) Wm))) qd))))) qd)))))))))),λus M M1 Qu e1 h=>?_⟩
 obtain⟨k,o,bits,ks,rfl,em,hB,hk,hb,post⟩:=h;obtain⟨hkl,eM⟩:=jz em;rw[e1.trans eM];nofun;refine⟨by show 2<sizeLine; decide, ?_⟩;have hmany:(2:Int)<=2+(if 8<bits then 1 else 0)/\(2:Int)+(if 8<bits then 1 else 0)<=3:=by split<;>lia
 refine vk hkl hB (by lia) (log2_lt (by lia) (by lia)) λd o1 d0 d1 B1=>?_;have hpick:∃t,atI [U.p (.lst (T0.map ndT)), .p (.lst (T1.map ndT)), .p (.lst (T2.map ndT))] d=some (.p (.lst (t.map ndT)))/\Tbl bits t:=by
  rcases(show d=0\/d=1\/d=2 by lia) with rfl|rfl|rfl
  ·exact⟨T0,rfl, .inl rfl⟩
  ·exact⟨T1,rfl, .inr (.inl rfl)⟩
  ·exact⟨T2,rfl, .inr (.inr ⟨rfl,by split at d1<;>lia⟩)⟩
 obtain⟨t,hat,hT⟩:=hpick;refine K8 (by simp only[vg,MB_get]; rfl) hat ?_;refine vk hkl B1 (by decide) (by decide) λmask o2 m0 m1 B2=>?_;have ht5:=Vd hT;nofun;refine v9 (by rw[Ug,ht5]; decide) (λi acc M'=>M'=MB M k o2 [MO.lst [U.p (.lst (T0.map ndT)), .p (.lst (T1.map ndT)), .p (.lst (T2.map ndT))]]/\acc=((t.take i).filter λn=>decide (n.1<=bits-7)).map ndT) ⟨rfl,rfl⟩ ?_ ?_
 ·rintro i x acc M' hx _ ⟨rfl,rfl⟩
  obtain⟨n,hn,rfl⟩:∃n,t[i]?=some n/\x=ndT n:=by
   rw[Uv] at hx;cases e:t[i]? with
   |none=>rw[e] at hx; cases hx
   |some n=>rw[e] at hx; cases hx; exact⟨n,rfl,rfl⟩
  nofun;rw[vm hn,U9,Um];refine ite2 (λhh=>?_) (λhh=>?_)<;>simp[hh]
 ·rintro acc M' ⟨rfl,rfl⟩
  rw[Ug,U2];nofun;have hcl:(((t.filter λn=>decide (n.1<=bits-7)).map ndT).length:Int)=(cnt bits t:Int):=by rw[Ug]; rfl
  rw[hcl];have hcp:=cnt_pos hb.1 hT;have hc5:cnt bits t<=5:=by
   have:=DA (λn:Nd=>decide (n.1<=bits-7)) t;rw[ht5] at this;exact this
  refine vk hkl B2 (by lia) (log2_lt (by lia) (by lia)) λα o3 α0 α1 B3=>?_;obtain⟨at',rfl⟩:∃j:Nat,α=(j:Int):=⟨α.toNat,by lia⟩;have hk4:ks.length=4:=hk.length_eq;have ha4:at'<=4:=by lia
  unfold XB;nofun;rw[Xc (by lia),Xd (by lia)];have hright:=Yd (mask:=mask) hb hT m0 m1 hk (by lia) ha4;have hlo:(ks.take at'++(["sign"]:List Str)++ks.drop at').length=5:=by simp; lia
  have em2:(ks.take at').map T.str++[T.str "sign"]++(ks.drop at').map T.str=(ks.take at'++(["sign"]:List Str)++ks.drop at').map T.str:=by simp
  refine⟨by simp; exact U1 (vj (by lia)),by simp; exact U1 (vj (by lia)),YZ (by decide) (by decide) ?_⟩;rw[em2];generalize ks.take at'++(["sign"]:List Str)++ks.drop at'=os at hright hlo ⊢;refine Yq (by decide) (λi acc M'=>M'=MB M k o3 [MO.lst [U.p (.lst (T0.map ndT)), .p (.lst (T1.map ndT)), .p (.lst (T2.map ndT))]]/\acc=((List.zipWith (fm mask) os t).take i).map Qm) ⟨rfl,rfl⟩ ?_ ?_
  ·rintro i acc M' hi _ ⟨rfl,rfl⟩
   have hi5:i<5:=hi;have hoi:os[i]?=some (os[i]'(by lia)):=Uf _;have hti:t[i]?=some (t[i]'(by lia)):=Uf _;have hw:=tbl_w hT _ (Uh hti);have hz:(List.zipWith (fm mask) os t)[i]?=some (fm mask (os[i]'(by lia)) (t[i]'(by lia))):=by
    rw[List.getElem?_zipWith,hoi,hti]
   nofun;refine vI (atT hoi) ?_;refine vI (atT hti) ?_;nofun;refine vI (atT hti) ?_;nofun;refine vI (atT hti) ?_;nofun;refine⟨⟨by lia,by lia,by decide⟩, ?_, ?_⟩
   ·rw[UM]; exact qZ _
   ·rw[vm hz,Um,UM]
    rfl
  ·rintro acc M' ⟨rfl,rfl⟩
   have e5:(Int.toNat 5)=(List.zipWith (fm mask) os t).length:=by rw[hright.n]<;>rfl
   rw[e5,U2];nofun;refine⟨jf B3.pur, ?_⟩;rw[jg];exact post o3 _ B3 hright
abbrev XY:Stmt:=top 53
theorem scLaying:FnScope ["bag","bits","kinds","at","most","free","marks","kind","some","width","pattern","goal","side","turn"] ["bag"] (qg XY):=⟨rfl,rfl,rfl,by decide +kernel,rfl,by decide +kernel,by decide +kernel⟩
theorem WX:(["bag","bits","kinds","at","most","free","marks","kind","some","width","pattern","goal","side","turn","node"]:List Str).Nodup:=by decide +kernel
def Ju:List U->MM->UK->Prop:=λus M Q=>∃(k:Nat)(o:MO),us=[.m k]/\M[k]?=some o/\BagO o/\∀(o':MO)(bits:Int)(ms:List Mk3),BagO o'->Right bits ms->Q (.p (layT bits ms)) (M.set k o')
abbrev ZQ(bits:Int):List (Key×U):=[(.inr "sign", .p (.int (bits-7))),(.inr "small", .p (.int (bits-2))),(.inr "one", .p (.int (bits-2))),(.inr "far", .p (.int (bits-3))),(.inr "pair", .p (.int (bits-3)))]
theorem W3(h:kind∈kg):valU (xK [] (ZQ bits)) (.inr kind)=some (.p (.int (bits-need kind))):=by
 have e:xK [] (ZQ bits)=ZQ bits:=rfl;rw[e];have h':kind = "small" \/ kind = "far" \/ kind = "pair" \/ kind = "sign" \/ kind = "one" := by simpa[kg] using h
 rcases h' with rfl|rfl|rfl|rfl|rfl<;>rfl
theorem nd_eqT:EqT (n+1) (ndT a) (ndT b) (decide (a=b)):=by
 have h:=EqT.tup (n:=n) (xs:=[.int a.1, .int a.2]) (ys:=[.int b.1, .int b.2]) (e:=λj=>if j=0 then decide (a.1=b.1) else decide (a.2=b.2)) (λj x y hx hy=>by
  match j,hx,hy with
  |0,hx,hy =>
   cases hx; cases hy;have:=EqT.flat (n:=n) (a:=.int a.1) (b:=.int b.1) rfl rfl;rw[show eqV (.int a.1) (.int b.1)=decide (a.1=b.1) by simp[eqV,RM]] at this; exact this
  |1,hx,hy =>
   cases hx; cases hy;have:=EqT.flat (n:=n) (a:=.int a.2) (b:=.int b.2) rfl rfl;rw[show eqV (.int a.2) (.int b.2)=decide (a.2=b.2) by simp[eqV,RM]] at this; exact this
  |j+2,hx,_=>cases hx)
 have e:((List.range (min [T.int a.1,T.int a.2].length [T.int b.1,T.int b.2].length)).all (λj=>if j=0 then decide (a.1=b.1) else decide (a.2=b.2))&&[T.int a.1,T.int a.2].length==[T.int b.1,T.int b.2].length)=decide (a=b):=by
  obtain⟨a1,a2⟩:=a;obtain⟨b1,b2⟩:=b;simp[RN]
 rw[e] at h;exact h
theorem KW(F:Fun Ξ "_law_laying" "_law_laying" XY f fd)(N:Nms mg)(DDraw:Def P w Ξ mg base "_law_draw" 1 ["bag","many"] (spU VZ))(DFullLaying:Def P w Ξ mg base "_law_full_laying" 2 ["bag","bits","order"] (spU gFull)):FnOk P w Ξ mg base CX0 3 f fd ["bag"] (spU Ju):=by
 refine F.zV scLaying (λus M Qu h=>?_) (λcdv A outer s H E hr=>?_)
 ·obtain⟨_,_,rfl,_⟩:=h
  rfl
 refine⟨_,(qf (qy (i:=1) scLaying.nd rfl Wu (qH (Ua Ξ) (qR (qa_c qe (qa_c qe (qa_c qe (qa_c qe (qa_c qe (qa_c qe (qa_c qe (qa_c (ql qO qe (qm DDraw (Wl hr) (qa_c (qv 0) (qa_c qe qc)))) qc))))))))) (qm DDraw (Wl hr) (qa_c (qv 0) (qa_c qe qc))) (λ_ _=>rfl)))
  (qf (qy (i:=2) scLaying.nd rfl Wu (ql op_rep (qH (Ua Ξ) (qR (qa_c (qR (qa_c qD (qa_c qD (qa_c qD (qa_c qD qc))))) (qa_c (qR (qa_c qD (qa_c qD (qa_c qD (qa_c qD qc))))) qc))) (qm DDraw (Wl hr) (qa_c (qv 0) (qa_c qe qc))) (λ_ _=>rfl)) qe))
  (qf (qy (i:=3) scLaying.nd rfl Wu (qm DDraw (Wl hr) (qa_c (qv 0) (qa_c qe qc))))
  (qf (vG (qw vD (qm DDraw (Wl hr) (qa_c (qv 0) (qa_c qe qc))) qe (qA _))
   (qi (qt (qm DFullLaying (Wl hr) (qa_c (qv 0) (qa_c (qv 1) (qa_c (vW (Gf Ξ) (qv 2) (vO (qv 3)) (vO (ql qO (qv 3) qe))) qc))))))
   qP)
  (qf (qy (i:=4) scLaying.nd rfl Gd (qe_disp (jl qD (ql vp (qv 1) qe) (jl qD (ql vp (qv 1) qe) (jl qD (ql vp (qv 1) qe) (jl qD (ql vp (qv 1) qe) (jl qD (ql vp (qv 1) qe) qps_nil))))) rfl rfl (λz=>nomatch z) (by decide)))
  (qf (qy (i:=5) scLaying.nd rfl Wu (qR (qa_c (qS (qa_c qe (qa_c qe qc))) qc)))
  (qf (qy (i:=6) scLaying.nd rfl Wu (qR qc))
  (qf (j7 PassesOwn.never rfl (vL (Ξ:=Ξ) rfl (ql jn (qR (qa_c qD qc)) (vW (Gf Ξ) (qv 2) (vO (qv 3)) (vO (ql qO (qv 3) qe))))) (vP (i:=7) scLaying.nd rfl Gd)
   (qf (qs_lc (i:=8) [false,false,false,false,true,false,false,true,false,false,false,false,false,false] ["node"] scLaying.nd rfl rfl (vL (Ξ:=Ξ) rfl (qv 5)) (λ_ _ _=>(vP (i:=14) WX rfl Wu)) (λ_ _ _=>jP (qw xX (qH (Ub Ξ) (qv 14) qe (λ_ _=>rfl)) (X7 (Jn hr) (qv 4) (qv 7) (λ_ _=>rfl)) (qA _))) (λ_ _ _=>(qv 14)))
   (qf (zd (qH (Ua Ξ) (qv 8) (qm DDraw (Wl hr) (qa_c (qv 0) (qa_c (qK vq (by rfl) N.len jx (qa_c (qv 8) qc)) qc))) (λ_ _=>rfl)) (We (Ξ:=Ξ) (i:=9) (j:=10) rfl scLaying.nd rfl rfl rfl Wu Wu Wu Wu))
   (qf (vN (QP PySem.F.slot_list_remove PySem.F.type_list_remove (K1 (Ξ:=Ξ) rfl hr.units) (qv 5) (qa_c (qS (qa_c (qv 9) (qa_c (qv 10) qc))) qc)))
   (qf (qy (i:=11) scLaying.nd rfl Wu (qK (QJ rfl) (by rfl) N.min Yj (qa_c (X7 (Jn hr) (qv 4) (qv 7) (λ_ _=>rfl)) (qa_c (ql qO (qv 9) (qH (Ua Ξ) (qR (qa_c qe (qa_c qe (qa_c qe (qa_c qe (qa_c (ql qO qe (qm DDraw (Wl hr) (qa_c (qv 0) (qa_c qe qc)))) qc)))))) (qm DDraw (Wl hr) (qa_c (qv 0) (qa_c qe qc))) (λ_ _=>rfl))) qc))))
   (qf (kr PassesOwn.never (qw xX (qv 9) (qv 11) (qA _))
    (qf (qy (i:=12) scLaying.nd rfl Wu (qm DDraw (Wl hr) (qa_c (qv 0) (qa_c qe qc))))
    (qf (vN (QP PySem.F.slot_list_append PySem.F.type_list_append zm (qv 5) (qa_c (qS (qa_c (ql qO (qv 9) qe) (qa_c (ql qO (qv 10) (ql vS (ql vp qe (qv 12)) (qv 9))) qc))) qc)))
    (qf (qy (i:=10) scLaying.nd rfl Wu (ql qO (qv 10) (ql vS (qv 12) (qv 9))))
    (qi (qy (i:=9) scLaying.nd rfl Wu (ql qO (qv 9) qe)))))))
   (qi (vN (QP PySem.F.slot_list_append PySem.F.type_list_append zm (qv 6) (qa_c (qS (qa_c (qv 7) (qa_c (qv 9) (qa_c (qv 10) qc)))) qc))))))))))
  (qf (qy (i:=13) scLaying.nd rfl Wu (qm DDraw (Wl hr) (qa_c (qv 0) (qa_c qe qc))))
  (qi (qt (qS (qa_c (qv 1) (qa_c (ql jn (vW (Gf Ξ) (qv 6) (vO (qv 13)) jQ) (vW (Gf Ξ) (qv 6) jQ (vO (qv 13)))) qc)))))))))))))),_,(qh (qx (vE (vn (qa Wm (qa Wm (qa Wm (qa Wm (qa Wm (qa Wm (qa Wm (qa (qj (qr λ_ _=>.int _) Wm (qF (qa (qb 0) (qa Wm qd)))) qd))))))))) (qF (qa (qb 0) (qa Wm qd)))) (qk 1))
   (qh (qx (qj opl_rep (vE (vn (qa (vn (qa Wr (qa Wr (qa Wr (qa Wr qd))))) (qa (vn (qa Wr (qa Wr (qa Wr (qa Wr qd))))) qd))) (qF (qa (qb 0) (qa Wm qd)))) Wm) (qk 2))
   (qh (qx (qF (qa (qb 0) (qa Wm qd))) (qk 3))
   (qh (vz (qC (qj qX (qF (qa (qb 0) (qa Wm qd))) Wm))
   (qB (qF (qa (qb 0) (qa (qb 1) (qa (Zc (qb 2) (v7 (qb 3)) (v7 (qj (qr λ_ _=>.int _) (qb 3) Wm))) qd)))))
   qM)
   (qh (qx (ce_disp (QF Wr (qj (qr λ_ _=>.int _) (qb 1) Wm) (QF Wr (qj (qr λ_ _=>.int _) (qb 1) Wm) (QF Wr (qj (qr λ_ _=>.int _) (qb 1) Wm) (QF Wr (qj (qr λ_ _=>.int _) (qb 1) Wm) (QF Wr (qj (qr λ_ _=>.int _) (qb 1) Wm) cp_nil)))))) (qk 4))
   (qh (qx (ju (qa (qT (qa Wm (qa Wm qd))) qd)) (qk 5))
   (qh (qx (ju qd) (qk 6))
   (qh (QC (zo (qj xh (vn (qa Wr qd)) (Zc (qb 2) (v7 (qb 3)) (v7 (qj (qr λ_ _=>.int _) (qb 3) Wm))))) (qk 7)
   (qh (qx (xp (zo (qb 5)) (zI 14) (qC (qj (qr λ_ _=>.bl _) (vi (qb 14) Wm) (qah (qb 4) (qb 7)))) (qb 14)) (qk 8))
   (qh (qx (vE (qb 8) (qF (qa (qb 0) (qa (xo (qa (qb 8) qd)) qd)))) (Zb 9 10))
   (qh (vR (QU K2 (qb 5) (qa (qT (qa (qb 9) (qa (qb 10) qd))) qd)))
   (qh (qx (zB JE (qa (qah (qb 4) (qb 7)) (qa (qj (qr λ_ _=>.int _) (qb 9) (vE (vn (qa Wm (qa Wm (qa Wm (qa Wm (qa (qj (qr λ_ _=>.int _) Wm (qF (qa (qb 0) (qa Wm qd)))) qd)))))) (qF (qa (qb 0) (qa Wm qd))))) qd))) (qk 11))
   (qh (kH (qC (qj (qr λ_ _=>.bl _) (qb 9) (qb 11)))
   (qh (qx (qF (qa (qb 0) (qa Wm qd))) (qk 12))
   (qh (vR (QU zk (qb 5) (qa (qT (qa (qj (qr λ_ _=>.int _) (qb 9) Wm) (qa (qj (qr λ_ _=>.int _) (qb 10) (qj (qW λ_ _=>.int _) (qj (qr λ_ _=>.int _) Wm (qb 12)) (qb 9))) qd))) qd)))
   (qh (qx (qj (qr λ_ _=>.int _) (qb 10) (qj (qW λ_ _=>.int _) (qb 12) (qb 9))) (qk 10))
   (qx (qj (qr λ_ _=>.int _) (qb 9) Wm) (qk 9))))))
   (vR (QU zk (qb 6) (qa (qT (qa (qb 7) (qa (qb 9) (qa (qb 10) qd)))) qd)))))))))
   (qh (qx (qF (qa (qb 0) (qa Wm qd))) (qk 13))
   (qB (qT (qa (qb 1) (qa (qj xh (Zc (qb 6) (v7 (qb 13)) Za) (Zc (qb 6) Za (v7 (qb 13)))) qd))))))))))))),λus M M1 Qu e1 h=>?_⟩
 obtain⟨k,o,rfl,em,hB,post⟩:=h;obtain⟨hkl,eM⟩:=jz em;rw[e1.trans eM];nofun;refine vk hkl hB (by decide) (by decide) λe o1 e0 e1 B1=>?_;nofun;refine vk hkl B1 (by decide) (by decide) λd o2 d0 d1 B2=>?_;have hbits:∃bits:Int,atI [T.int 8, .int 9, .int 10, .int 12, .int 16, .int 24, .int 32, .int (8+e)] d=some (.int bits)/\8<=bits/\bits<=32:=by
  rcases(show d=0\/d=1\/d=2\/d=3\/d=4\/d=5\/d=6\/d=7 by lia) with rfl|rfl|rfl|rfl|rfl|rfl|rfl|rfl
  ·exact⟨_,rfl,by decide,by decide⟩
  ·exact⟨_,rfl,by decide,by decide⟩
  ·exact⟨_,rfl,by decide,by decide⟩
  ·exact⟨_,rfl,by decide,by decide⟩
  ·exact⟨_,rfl,by decide,by decide⟩
  ·exact⟨_,rfl,by decide,by decide⟩
  ·exact⟨_,rfl,by decide,by decide⟩
  ·exact⟨_,rfl,by lia,by lia⟩
 obtain⟨bits,hbt,hb0,hb1⟩:=hbits;refine vI hbt ?_;nofun;refine vk hkl B2 (by decide) (by decide) λd2 o3 d20 d21 B3=>?_;obtain⟨L,hat2,hL⟩:∃L,atI [XB L0,XB L1] d2=some (XB L)/\(L=L0\/L=L1):=by
  rcases(show d2=0\/d2=1 by lia) with rfl|rfl
  ·exact⟨L0,rfl, .inl rfl⟩
  ·exact⟨L1,rfl, .inr rfl⟩
 refine vI hat2 ?_;nofun;have hL8:(L++L).length=8:=by rcases hL with rfl|rfl<;>rfl
 refine⟨L.map T.str,2,rfl,rfl,by decide,by decide,(by rcases hL with rfl|rfl<;>(show 4*2<=sizeLine; decide)), ?_⟩;have hflat:(List.replicate (2:Int).toNat (L.map T.str)).flatten=(L++L).map T.str:=by rcases hL with rfl|rfl<;>rfl
 rw[hflat];refine vk hkl B3 (by decide) (by decide) λα o4 α0 α1 B4=>?_;obtain⟨at',rfl⟩:∃j:Nat,α=(j:Int):=⟨α.toNat,by lia⟩;have ha:at'<4:=by lia
 have hrp:=rot_perm (α:=at') hL ha;have hrl:(rot L at').length=4:=hrp.length_eq;have hcut:cutT ((L++L).map T.str) (some (at':Int)) (some ((at':Int)+4))=(rot L at').map T.str:=by
  have e4:(at':Int)+4=((at'+4:Nat):Int):=by lia
  rw[e4,Ku (by lia) (by lia),show at'+4-at'=4 by lia];rfl
 nofun;refine vk hkl B4 (by decide) (by decide) λd4 o5 d40 d41 B5=>?_;nofun;rw[hcut];refine ite2 (λ_=>?_) (λ_=>?_)
 ·refine⟨k,o5,bits,rot L at',rfl,Xo hkl,B5,hrp,⟨hb0,hb1⟩,λo6 ms B6 hR=>?_⟩
  rw[xr hkl];nofun;refine⟨jf B6.pur, ?_⟩;rw[jg];exact post o6 bits ms B6 hR
 simp only[uDisp];nofun;refine⟨ZQ bits,rfl,by show 5<=15; decide, ?_⟩;refine⟨by simp[hrl]; exact U1 (vj (by decide)), ?_⟩;refine kO (ts:=((("sign" : Str)::rot L at').map T.str)) (λi ρ M'=>∃(o:MO)(ns:List Nd)(ms:List Mk3)(x7 x8 x9 x10 x11 x12 x13:Option U),ρ=[some (.m k),some (.p (.int bits)),some (.p (.lst ((L++L).map T.str))),some (.p (.int at')),some (.m (M.length+0)),some (.m (M.length+1)),some (.m (M.length+2)),x7,x8,x9,x10,x11,x12,x13]/\M'=MB M k o [.dK (xK [] (ZQ bits)), .lst ((ns.map ndT).map U.p), .lst ((ms.map Qm).map U.p)]/\BagO o/\LInv bits (("sign" : Str)::rot L at') i ns ms) ?_ ?_ ?_
 ·refine⟨o5, [(0,0)], [],_,_,_,_,_,_,_,rfl,rfl,B5,⟨?_,⟨(0,0),by simp,by decide⟩,by decide,rfl,(λ_ h=>nomatch h),(λ_ h=>nomatch h),by simp⟩⟩
  intro n hn;rw[Us.mp hn];exact⟨by decide,by decide,by decide,by decide⟩
 ·rintro i y ρ M' hi ⟨o,ns,ms,x7,x8,x9,x10,x11,x12,x13,rfl,rfl,B6,LI⟩
  obtain⟨kind,hki,rfl⟩:=get_map hi;obtain⟨hlow,hk5,hi5⟩:=ks_low hb0 hrp hki;have hval:=W3 (bits:=bits) hk5;have hneed:=vY kind;have hnl:=LI.len;nofun;refine iter_at (zu rfl) ?_;refine Yr (by rw[Ug]; exact U1 (vj (by lia))) (λj acc M2=>M2=MB M k o [.dK (xK [] (ZQ bits)), .lst ((ns.map ndT).map U.p), .lst ((ms.map Qm).map U.p)]/\acc=((ns.take j).filter λn=>decide (n.1<bits-need kind)).map ndT) ⟨rfl,rfl⟩ (λj acc M2 ⟨e,_⟩=>by rw[e]; exact zu rfl) ?_ ?_
  ·rintro j y acc M2 hj _ ⟨rfl,rfl⟩
   obtain⟨n,hn,rfl⟩:=get_map hj;nofun;refine Kt (zu rfl) hval ?_;nofun;rw[vm hn,U9,Um];refine ite2 (λhh=>?_) (λhh=>?_)<;>simp[hh]
  ·rintro acc M2 ⟨rfl,rfl⟩
   rw[Ug,U2];generalize hfs:(ns.filter λn=>decide (n.1<bits-need kind))=fs;have hpos:0<fs.length:=by
    obtain⟨n,hn,hw⟩:=LI.low;have:n∈fs:=by rw[<-hfs]; exact UB.mpr ⟨hn,by simp; lia⟩
    exact DU this
   have hfl:fs.length<=200:=by
    rw[<-hfs];have:=DA (λn:Nd=>decide (n.1<bits-need kind)) ns;lia
   nofun;rw[Ug];refine vk hkl B6 (by lia) (log2_lt (by lia) (by lia)) λd o7 d0 d1 B7=>?_;obtain⟨jj,rfl⟩:∃j:Nat,d=(j:Int):=⟨d.toNat,by lia⟩;have hjj:fs[jj]?=some (fs[jj]'(by lia)):=Uf _;generalize fs[jj]'(by lia)=n at hjj;have hnf:=UB.mp (show n∈ns.filter λn=>decide (n.1<bits-need kind) by rw[hfs]; exact Uh hjj);have hnw:n.1<bits-need kind:=by simpa using hnf.2
   have hnok:=LI.ok n hnf.1;refine vI (atT hjj) ?_;nofun;obtain⟨j,hj,hjm⟩:=Km hnf.1;have hjl:=(Ue.mp hj).1;refine⟨ns.map ndT,ndT n,j,λm=>decide (ns[m]?=some n),rfl,rfl,by rw[Ug]; exact hjl,by simp[hj],λm hm=>by simp[hjm m hm],λm z hm hz=>?_, ?_⟩
   ·obtain⟨nm,hnm,rfl⟩:=get_map hz
    have e9:decide (ns[m]?=some n)=decide (nm=n):=by
     rw[hnm];by_cases e:nm=n<;>simp[e]
    show EqT 20 _ _ (decide (ns[m]?=some n));rw[e9];exact nd_eqT
   have W0:=LI.pick hj;rw[<-ZR];nofun;refine Kt (zu rfl) hval ?_;nofun;refine vk hkl B7 (by decide) (by decide) λe o8 e0 e1 B8=>?_;nofun;refine vk hkl B8 (by decide) (by decide) λd5 o9 d50 d51 B9=>?_;have hdel:∃δ:Int,atI [T.int 1, .int 1, .int 2, .int 3, .int (1+e)] d5=some (.int δ)/\1<=δ/\δ<=30:=by
    rcases(show d5=0\/d5=1\/d5=2\/d5=3\/d5=4 by lia) with rfl|rfl|rfl|rfl|rfl
    ·exact⟨_,rfl,by decide,by decide⟩
    ·exact⟨_,rfl,by decide,by decide⟩
    ·exact⟨_,rfl,by decide,by decide⟩
    ·exact⟨_,rfl,by decide,by decide⟩
    ·exact⟨_,rfl,by lia,by lia⟩
   obtain⟨δ,hδ,δ0,δ1⟩:=hdel;refine vI hδ ?_;nofun;obtain⟨g,hgE,hg1,hg2⟩:∃g:Int,(if n.1+δ<bits-need kind then n.1+δ else bits-need kind)=g/\n.1<g/\g<=bits-need kind:=⟨_,rfl,by split<;>lia,by split<;>lia⟩;rw[hgE];have hn0':=hnok.1;refine⟨λm ρ M'=>∃(o:MO)(c:Nd)(ns2:List Nd)(x12:Option U),m=(g-c.1).toNat/\ρ=[some (.m k),some (.p (.int bits)),some (.p (.lst ((L++L).map T.str))),some (.p (.int at')),some (.m (M.length+0)),some (.m (M.length+1)),some (.m (M.length+2)),some (.p (.str kind)),some (.p (.lst (fs.map ndT))),some (.p (.int c.1)),some (.p (.int c.2)),some (.p (.int g)),x12,x13]/\M'=MB M k o [.dK (xK [] (ZQ bits)), .lst ((ns2.map ndT).map U.p), .lst ((ms.map Qm).map U.p)]/\BagO o/\c.1<=g/\WInv i n.1 c ns2 ms,⟨_,o9,n,ns.eraseIdx j,_,rfl,rfl,rfl,B9,by lia,W0⟩, ?_⟩;rintro m ρ M' ⟨o10,c,ns2,y12,rfl,rfl,rfl,B10,hcg,WI⟩;have hcok:=WI.cok;have hwl:=WI.len;have hww:=WI.w;have hc0:=hcok.1;nofun;refine ite2 (λhlt=>?_) (λhge=>?_)
   ·refine⟨λρ'' M''=>∃m',m'<(g-c.1).toNat/\∃(o:MO)(c:Nd)(ns2:List Nd)(x12:Option U),m'=(g-c.1).toNat/\ρ''=[some (.m k),some (.p (.int bits)),some (.p (.lst ((L++L).map T.str))),some (.p (.int at')),some (.m (M.length+0)),some (.m (M.length+1)),some (.m (M.length+2)),some (.p (.str kind)),some (.p (.lst (fs.map ndT))),some (.p (.int c.1)),some (.p (.int c.2)),some (.p (.int g)),x12,x13]/\M''=MB M k o [.dK (xK [] (ZQ bits)), .lst ((ns2.map ndT).map U.p), .lst ((ms.map Qm).map U.p)]/\BagO o/\c.1<=g/\WInv i n.1 c ns2 ms,λ_ _ h=>h, ?_⟩
    nofun;refine vk hkl B10 (by decide) (by decide) λsd o11 s0 s1 B11=>?_;nofun;refine⟨⟨by lia,by lia,by lia⟩, ?_⟩;nofun;refine⟨by rw[Ug,Ug]; exact vj (by lia), ?_⟩;refine⟨⟨by lia,by lia,by lia⟩, ?_⟩;refine⟨(g-(c.1+1)).toNat,by lia,o11,zH c sd,ns2++[zH c (1-sd)],_,rfl,rfl, ?_,B11,by show c.1+1<=g; lia,WI.step (by lia) (by lia)⟩;rw[Um,Um];rfl
   ·have hce:c.1=g:=by lia
    nofun;have h2:=congrArg List.length LI.kinds;rw[Ug,UZ] at h2;refine⟨by rw[Ug,Ug]; exact vj (by lia), ?_⟩;refine⟨o10,ns2,ms++[(kind,c)],_,_,_,_,_,_,_,rfl, ?_,B10,WI.fin LI hki hce (by lia) (by lia) (by lia) (by lia)⟩;rw[Um,Um];rfl
 ·rintro ρ M' ⟨o,ns,ms,x7,x8,x9,x10,x11,x12,x13,rfl,rfl,B6,LI⟩
  have h5:((("sign" : Str)::rot L at').map T.str).length=5:=by simp[hrl]
  rw[h5] at LI;have hKp:(("sign" : Str)::rot L at').Perm kg:=(List.Perm.cons _ hrp).trans (by decide +kernel);have hR:=LI.right hKp ⟨hb0,hb1⟩;have hn5:=hR.n;nofun;refine vk hkl B6 (by decide) (by decide) λtu o7 t0 t1 B7=>?_;obtain⟨tn,rfl⟩:∃j:Nat,tu=(j:Int):=⟨tu.toNat,by lia⟩;nofun;refine slm_at (zu rfl) ?_;refine slm_at (zu rfl) ?_;rw[Xd (by lia),Xc (by lia)];nofun;have pm:ms.Perm (ms.drop tn++ms.take tn):=by
   have:=RL (l₁:=ms.take tn) (l₂:=ms.drop tn);rw[RK] at this;exact this
  refine⟨by simp; exact U1 (vj (by lia)),jf B7.pur, ?_⟩;rw[jg, <-Um];exact post o7 bits _ B7 (hR.of_perm pm)
def VW:List T->(T->Prop)->Prop:=λts Q=>∃(bits:Int)(ms:List Mk3)(kind:Str)(m:Mk3),ts=[layT bits ms, .str kind]/\ms.length<=900/\OfKind ms kind m/\Q (Qm m)
def Qw:List T->(T->Prop)->Prop:=λts Q=>∃(bits:Int)(ms:List Mk3)(kind:Str)(m:Mk3),ts=[layT bits ms, .str kind]/\ms.length<=900/\OfKind ms kind m/\Q (.int (bits-m.2.1))
abbrev Vq:Stmt:=top 9
theorem YN:FnScope ["laying","kind"] ["laying","kind"] (qg Vq):=⟨rfl,rfl,rfl,by decide +kernel,rfl,by decide +kernel,by decide +kernel⟩
theorem KZ:(["laying","kind","mark"]:List Str).Nodup:=by decide +kernel
theorem ZD(F:Fun Ξ "mark_for" "mark_for" Vq f fd):FnOk P w Ξ mg base CX0 1 f fd ["laying","kind"] (spP VW):=by
 refine F.zP YN (λts Qt h=>?_) (λcdv A outer s H E hr=>?_)
 ·obtain⟨_,_,_,_,rfl,_⟩:=h
  rfl
 refine⟨_,(qi (qt (qH (Ua Ξ) (VC [false,true] ["mark"] (vL (Ξ:=Ξ) rfl (qH (Ub Ξ) (qv 0) qe (λ_ _=>rfl))) (λ_ _ _=>(vP (i:=2) KZ rfl Wu)) (λ_ _ _=>jP (qw vD (qH (Ub Ξ) (qv 2) qe (λ_ _=>rfl)) (qv 1) (qA _))) (λ_ _ _=>(qv 2))) qe (λ_ _=>rfl)))),_,(qB (vE (xp (zo (vi (qb 0) Wm)) (zI 2) (qC (qj qX (vi (qb 2) Wm) (qb 1))) (qb 2)) Wm)),λts Qt h=>?_⟩;obtain⟨bits,ms,kind,m,rfl,hl,⟨rest,hm⟩,q⟩:=h;nofun;refine v9 (by rw[Ug]; exact U1 (vj (by lia))) (λi acc M'=>M'=[]/\acc=((ms.take i).filter λm=>decide (m.1=kind)).map Qm) ⟨rfl,rfl⟩ ?_ ?_
 ·rintro i x acc M' hx _ ⟨rfl,rfl⟩
  obtain⟨n,hn,rfl⟩:=get_map hx;nofun;rw[vm hn,U9,Um];refine ite2 (λhh=>?_) (λhh=>?_)<;>simp[hh]
 ·rintro acc M' ⟨rfl,rfl⟩
  rw[Ug,U2,hm];nofun;exact q
abbrev sMark:Stmt:=top 55
theorem scMark:FnScope ["laying","kind"] ["laying","kind"] (qg sMark):=⟨rfl,rfl,rfl,by decide +kernel,rfl,by decide +kernel,by decide +kernel⟩
theorem ndMark1:(["laying","kind","one"]:List Str).Nodup:=by decide +kernel
theorem ZF(F:Fun Ξ "_law_mark" "_law_mark" sMark f fd):FnOk P w Ξ mg base CX0 1 f fd ["laying","kind"] (spP VW):=by
 refine F.zP scMark (λts Qt h=>?_) (λcdv A outer s H E hr=>?_)
 ·obtain⟨_,_,_,_,rfl,_⟩:=h
  rfl
 refine⟨_,(qi (qt (qH (Ua Ξ) (VC [false,true] ["one"] (vL (Ξ:=Ξ) rfl (qH (Ub Ξ) (qv 0) qe (λ_ _=>rfl))) (λ_ _ _=>(vP (i:=2) ndMark1 rfl Wu)) (λ_ _ _=>jP (qw vD (qH (Ub Ξ) (qv 2) qe (λ_ _=>rfl)) (qv 1) (qA _))) (λ_ _ _=>(qv 2))) qe (λ_ _=>rfl)))),_,(qB (vE (xp (zo (vi (qb 0) Wm)) (zI 2) (qC (qj qX (vi (qb 2) Wm) (qb 1))) (qb 2)) Wm)),λts Qt h=>?_⟩;obtain⟨bits,ms,kind,m,rfl,hl,⟨rest,hm⟩,q⟩:=h;nofun;refine v9 (by rw[Ug]; exact U1 (vj (by lia))) (λi acc M'=>M'=[]/\acc=((ms.take i).filter λm=>decide (m.1=kind)).map Qm) ⟨rfl,rfl⟩ ?_ ?_
 ·rintro i x acc M' hx _ ⟨rfl,rfl⟩
  obtain⟨n,hn,rfl⟩:=get_map hx;nofun;rw[vm hn,U9,Um];refine ite2 (λhh=>?_) (λhh=>?_)<;>simp[hh]
 ·rintro acc M' ⟨rfl,rfl⟩
  rw[Ug,U2,hm];nofun;exact q
abbrev Qc:Stmt:=top 10
theorem KO:FnScope ["laying","kind"] ["laying","kind"] (qg Qc):=⟨rfl,rfl,rfl,by decide +kernel,rfl,by decide +kernel,by decide +kernel⟩
theorem VI(F:Fun Ξ "load_bits" "load_bits" Qc f fd)(DMarkFor:Def P w Ξ mg base "mark_for" 1 ["laying","kind"] (spP VW)):FnOk P w Ξ mg base CX0 2 f fd ["laying","kind"] (spP Qw):=by
 refine F.zP KO (λts Qt h=>?_) (λcdv A outer s H E hr=>?_)
 ·obtain⟨_,_,_,_,rfl,_⟩:=h
  rfl
 refine⟨_,(qi (qt (ql vp (qH (Ub Ξ) (qv 0) qe (λ_ _=>rfl)) (qH (Ub Ξ) (qm DMarkFor (Wl hr) (qa_c (qv 0) (qa_c (qv 1) qc))) qe (λ_ _=>rfl))))),_,(qB (qj (qr λ_ _=>.int _) (vi (qb 0) Wm) (vi (qo (qa (qb 0) (qa (qb 1) qd))) Wm))),λts Qt h=>?_⟩;obtain⟨bits,ms,kind,m,rfl,hl,hm,q⟩:=h;nofun;refine⟨bits,ms,kind,m,rfl,hl,hm, ?_⟩;nofun;exact q
abbrev sLoad:Stmt:=top 56
theorem scLoad:FnScope ["laying","kind"] ["laying","kind"] (qg sLoad):=⟨rfl,rfl,rfl,by decide +kernel,rfl,by decide +kernel,by decide +kernel⟩
theorem ZH(F:Fun Ξ "_law_load" "_law_load" sLoad f fd)(DMark:Def P w Ξ mg base "_law_mark" 1 ["laying","kind"] (spP VW)):FnOk P w Ξ mg base CX0 2 f fd ["laying","kind"] (spP Qw):=by
 refine F.zP scLoad (λts Qt h=>?_) (λcdv A outer s H E hr=>?_)
 ·obtain⟨_,_,_,_,rfl,_⟩:=h
  rfl
 refine⟨_,(qi (qt (ql vp (qH (Ub Ξ) (qv 0) qe (λ_ _=>rfl)) (qH (Ub Ξ) (qm DMark (Wl hr) (qa_c (qv 0) (qa_c (qv 1) qc))) qe (λ_ _=>rfl))))),_,(qB (qj (qr λ_ _=>.int _) (vi (qb 0) Wm) (vi (qo (qa (qb 0) (qa (qb 1) qd))) Wm))),λts Qt h=>?_⟩;obtain⟨bits,ms,kind,m,rfl,hl,hm,q⟩:=h;nofun;refine⟨bits,ms,kind,m,rfl,hl,hm, ?_⟩;nofun;exact q
abbrev Vr:Stmt:=top 7
theorem YO:FnScope ["marks","word"] ["marks","word"] (qg Vr):=⟨rfl,rfl,rfl,by decide +kernel,rfl,by decide +kernel,by decide +kernel⟩
theorem K0:(["marks","word","kind","width","pattern"]:List Str).Nodup:=by decide +kernel
def VY:List T->(T->Prop)->Prop:=λts Q=>∃(ms:List Mk3)(word:Int),ts=[.lst (ms.map Qm), .int word]/\Wd ms/\ms.length<=900/\Q (XB ((ms.filter (on word)).map (·.1)))
theorem ZJ(F:Fun Ξ "kinds_on" "kinds_on" Vr f fd):FnOk P w Ξ mg base CX0 1 f fd ["marks","word"] (spP VY):=by
 refine F.zP YO (λts Qt h=>?_) (λcdv A outer s H E hr=>?_)
 ·obtain⟨_,_,rfl,_⟩:=h
  rfl
 refine⟨_,(qi (qt (VC [false,true] ["kind","width","pattern"] (vL (Ξ:=Ξ) rfl (qv 0)) (λ_ _ _=>(Wc (Ξ:=Ξ) (i:=2) (j:=3) (k:=4) rfl K0 rfl rfl rfl rfl Wu Wu Wu Gd Gd Gd)) (λ_ _ _=>jP (qw vD (ql zi (qv 1) (ql vS qe (qv 3))) (qv 4) (qA _))) (λ_ _ _=>(qv 2))))),_,(qB (xp (zo (qb 0)) (Xf 2 3 4) (qC (qj qX (qj (qW λ_ _=>.int _) (qb 1) (qj (qW λ_ _=>.int _) Wm (qb 3))) (qb 4))) (qb 2))),λts Qt h=>?_⟩;obtain⟨ms,word,rfl,hw,hl,q⟩:=h;nofun;refine v9 (by rw[Ug]; exact U1 (vj (by lia))) (λi acc M'=>M'=[]/\acc=(((ms.take i).filter (on word)).map (·.1)).map T.str) ⟨rfl,rfl⟩ ?_ ?_
 ·rintro i x acc M' hx _ ⟨rfl,rfl⟩
  obtain⟨m,hm,rfl⟩:=get_map hx;have hmw:=hw m (Uh hm);nofun;refine⟨⟨by lia,by lia,by decide⟩, ?_, ?_⟩
  ·rw[UM]; exact qZ _
  rw[vm hm,U9,Um,Um,UM];refine ite2 (λhh=>?_) (λhh=>?_)<;>simp[on,hh]
 ·rintro acc M' ⟨rfl,rfl⟩
  rw[Ug,U2];nofun;exact q
abbrev XW:Stmt:=top 8
theorem scMarkOf:FnScope ["laying","word","kinds"] ["laying","word"] (qg XW):=⟨rfl,rfl,rfl,by decide +kernel,rfl,by decide +kernel,by decide +kernel⟩
def xZ(word:Int)(ms:List Mk3):T:=match ms.filter (on word) with
 | []=>.non
 |m::_=>.str m.1
def xl:List T->(T->Prop)->Prop:=λts Q=>∃(bits:Int)(ms:List Mk3)(word:Int),ts=[layT bits ms, .int word]/\Wd ms/\ms.length<=900/\Q (xZ word ms)
theorem Jd(F:Fun Ξ "mark_of" "mark_of" XW f fd)(DKindsOn:Def P w Ξ mg base "kinds_on" 1 ["marks","word"] (spP VY)):FnOk P w Ξ mg base CX0 2 f fd ["laying","word"] (spP xl):=by
 refine F.zP scMarkOf (λts Qt h=>?_) (λcdv A outer s H E hr=>?_)
 ·obtain⟨_,_,_,rfl,_⟩:=h
  rfl
 refine⟨_,(qf (qy (i:=2) scMarkOf.nd rfl Wu (qm DKindsOn (Wl hr) (qa_c (qH (Ub Ξ) (qv 0) qe (λ_ _=>rfl)) (qa_c (qv 1) qc))))
  (qi (qt (vX (Zy (Ξ:=Ξ) rfl (qv 2) (λ_=>rfl)) (qH (Ua Ξ) (qv 2) qe (λ_ _=>rfl)) xJ)))),_,(qh (qx (qo (qa (vi (qb 0) Wm) (qa (qb 1) qd))) (qk 2))
   (qB (Zd (ct_tru (qb 2)) (vE (qb 2) Wm) (ce_c .non)))),λts Qt h=>?_⟩
 obtain⟨bits,ms,word,rfl,hw,hl,q⟩:=h;nofun;refine⟨ms,word,rfl,hw,hl, ?_⟩;unfold xZ at q;unfold XB;cases e:ms.filter (on word) with
 |nil =>
  rw[e] at q;simp only[uTru];nofun;refine⟨false,rfl, ?_⟩;nofun;exact q
 |cons m r =>
  rw[e] at q;simp only[uTru];nofun;refine⟨true,rfl, ?_⟩;nofun;exact q
abbrev XX:Stmt:=top 27
theorem scLoadOf:FnScope ["laying","word","kind"] ["laying","word","kind"] (qg XX):=⟨rfl,rfl,rfl,by decide +kernel,rfl,by decide +kernel,by decide +kernel⟩
def VX:List T->(T->Prop)->Prop:=λts Q=>∃(bits:Int)(ms:List Mk3)(word:Int)(kind:Str)(m:Mk3),ts=[layT bits ms, .int word, .str kind]/\ms.length<=900/\OfKind ms kind m/\0<=m.2.1/\Q (.int (word / 2^m.2.1.toNat))
theorem Je(F:Fun Ξ "load_of" "load_of" XX f fd)(DMarkFor:Def P w Ξ mg base "mark_for" 1 ["laying","kind"] (spP VW)):FnOk P w Ξ mg base CX0 2 f fd ["laying","word","kind"] (spP VX):=by
 refine F.zP scLoadOf (λts Qt h=>?_) (λcdv A outer s H E hr=>?_)
 ·obtain⟨_,_,_,_,_,rfl,_⟩:=h
  rfl
 refine⟨_,(qi (qt (ql Wy (qv 1) (qH (Ub Ξ) (qm DMarkFor (Wl hr) (qa_c (qv 0) (qa_c (qv 2) qc))) qe (λ_ _=>rfl))))),_,(qB (qj (qW λ_ _=>.int _) (qb 1) (vi (qo (qa (qb 0) (qa (qb 2) qd))) Wm))),λts Qt h=>?_⟩;obtain⟨bits,ms,word,kind,m,rfl,hl,hm,h0,q⟩:=h;nofun;refine⟨bits,ms,kind,m,rfl,hl,hm, ?_⟩;nofun;exact⟨h0,q⟩
abbrev XV:Stmt:=top 28
theorem scMarked:FnScope ["laying","kind","load","mark"] ["laying","kind","load"] (qg XV):=⟨rfl,rfl,rfl,by decide +kernel,rfl,by decide +kernel,by decide +kernel⟩
def Jt:List T->(T->Prop)->Prop:=λts Q=>∃(bits:Int)(ms:List Mk3)(kind:Str)(load:Int)(m:Mk3),ts=[layT bits ms, .str kind, .int load]/\ms.length<=900/\OfKind ms kind m/\0<=m.2.1/\m.2.1<=1000/\load.natAbs<2^64/\Q (.int (load*2^m.2.1.toNat+m.2.2))
theorem KU(F:Fun Ξ "marked" "marked" XV f fd)(DMarkFor:Def P w Ξ mg base "mark_for" 1 ["laying","kind"] (spP VW)):FnOk P w Ξ mg base CX0 2 f fd ["laying","kind","load"] (spP Jt):=by
 refine F.zP scMarked (λts Qt h=>?_) (λcdv A outer s H E hr=>?_)
 ·obtain⟨_,_,_,_,_,rfl,_⟩:=h
  rfl
 refine⟨_,(qf (qy (i:=3) scMarked.nd rfl Wu (qm DMarkFor (Wl hr) (qa_c (qv 0) (qa_c (qv 1) qc))))
  (qi (qt (ql qO (ql vS (qv 2) (qH (Ub Ξ) (qv 3) qe (λ_ _=>rfl))) (qH (Ub Ξ) (qv 3) qe (λ_ _=>rfl)))))),_,(qh (qx (qo (qa (qb 0) (qa (qb 1) qd))) (qk 3))
   (qB (qj (qr λ_ _=>.int _) (qj (qW λ_ _=>.int _) (qb 2) (vi (qb 3) Wm)) (vi (qb 3) Wm)))),λts Qt h=>?_⟩
 obtain⟨bits,ms,kind,load,m,rfl,hl,hm,h0,h1,h2,q⟩:=h;nofun;refine⟨bits,ms,kind,m,rfl,hl,hm, ?_⟩;nofun;refine⟨⟨h0,by lia,h2⟩, ?_⟩;nofun;exact q
abbrev Vp:Stmt:=top 29
theorem YM:FnScope ["bits","load"] ["bits","load"] (qg Vp):=⟨rfl,rfl,rfl,by decide +kernel,rfl,by decide +kernel,by decide +kernel⟩
def kY(s load:Int):Int:=if 2^(s-1).toNat<=load then load-2^s.toNat else load
def VT:List T->(T->Prop)->Prop:=λts Q=>∃(s load:Int),ts=[.int s, .int load]/\1<=s/\s<=1000/\Q (.int (kY s load))
theorem ZC(F:Fun Ξ "small_of" "small_of" Vp f fd):FnOk P w Ξ mg base CX0 1 f fd ["bits","load"] (spP VT):=by
 refine F.zP YM (λts Qt h=>?_) (λcdv A outer s H E hr=>?_)
 ·obtain⟨_,_,rfl,_⟩:=h
  rfl
 refine⟨_,(qi (qt (vX (qw op_ge (qv 1) (ql vS qe (ql vp (qv 0) qe)) (qA _)) (ql vp (qv 1) (ql vS qe (qv 0))) (qv 1)))),_,(qB (Zd (qC (qj (qr λ_ _=>.bl _) (qb 1) (qj (qW λ_ _=>.int _) Wm (qj (qr λ_ _=>.int _) (qb 0) Wm)))) (qj (qr λ_ _=>.int _) (qb 1) (qj (qW λ_ _=>.int _) Wm (qb 0))) (qb 1))),λts Qt h=>?_⟩;obtain⟨sb,load,rfl,h0,h1,q⟩:=h;nofun;unfold kY at q;refine⟨⟨by lia,by lia,by decide⟩, ?_⟩;rw[UM];refine ite2 (λhh=>?_) (λhh=>?_)
 ·rw[if_pos hh] at q
  refine⟨⟨by lia,by lia,by decide⟩, ?_⟩;rw[UM];exact q
 ·rw[if_neg hh] at q
  exact q
theorem ZN:∀{ms:List Mk3}{m m':Mk3},(ms.map (·.1)).Nodup->m∈ms->m'∈ms->m.1=m'.1->m=m'
 | [],_,_,_,h,_,_=>nomatch h
 |x::ms,m,m',hn,h,h',e=>by
  obtain⟨n1,n2⟩:=Dc.mp (show(x.1::ms.map (·.1)).Nodup from hn);rcases Up.mp h with z|h
  ·rcases Up.mp h' with z'|h'
   ·rw[z,z']
   ·exact absurd (UW.mpr ⟨m',h',by rw[<-e,z]⟩) n1
  ·rcases Up.mp h' with z'|h'
   ·exact absurd (UW.mpr ⟨m,h,by rw[e,z']⟩) n1
   ·exact ZN n2 h h' e
theorem Right.ofKind(r:Right bits ms)(hm:m∈ms):OfKind ms m.1 m:=by
 have hk:m.1∈kg:=r.k.mem_iff.mp (UW.mpr ⟨m,hm,rfl⟩);obtain⟨m',h'⟩:=r.kind hk;have nd:(ms.map (·.1)).Nodup:=r.k.nodup_iff.mpr (by decide);have:m'=m:=ZN nd h'.mem hm h'.is;rw[<-this] at h' ⊢;exact h'
def three3:List Str:=["none","no","yes"]
theorem Xy{j:Nat}(h:three3[j]?=some t):∀m,m<j->three3[m]?≠some t:=by
 have hj:j<3:=(Ue.mp h).1;intro m hm;rcases(show j=1\/j=2 by lia) with rfl|rfl
 ·have:m=0:=by lia
  subst this;simp[three3] at h ⊢;subst h; decide
 ·simp[three3] at h
  subst h;rcases(show m=0\/m=1 by lia) with rfl|rfl<;>simp[three3]<;>decide
def zQ(bits:Int)(m:Mk3)(load:Int):Int:=load % 2^(bits-m.2.1).toNat*2^m.2.1.toNat+m.2.2
abbrev Vo:Stmt:=top 30
theorem scWorthOf:FnScope ["laying","word","kind","load"] ["laying","word"] (qg Vo):=⟨rfl,rfl,rfl,by decide +kernel,rfl,by decide +kernel,by decide +kernel⟩
def Ym(bits:Int)(m:Mk3)(load:Int):T:=if m.1 = "small" then .int (kY (bits-m.2.1) load) else if m.1 = "one" then(if load<3 then .str (three3.getD load.toNat "none") else .non) else if m.1 = "sign" /\ 128<=load then .non else .tup [.str m.1, .int load]
def Zf(bits:Int)(ms:List Mk3)(word:Int):T:=match ms.filter (on word) with
 | []=>.non
 |m::_=>Ym bits m (word / 2^m.2.1.toNat)
def VR:List T->(T->Prop)->Prop:=λts Q=>∃(bits:Int)(ms:List Mk3)(word:Int),ts=[layT bits ms, .int word]/\Right bits ms/\0<=word/\Q (Zf bits ms word)
theorem ZB(F:Fun Ξ "worth_of" "worth_of" Vo f fd)(N:Nms mg)(T3:Tup3 Ξ mg "THREE" three "none" "no" "yes")(GSigns:GInt mg "SIGNS" 128)(DMarkOf:Def P w Ξ mg base "mark_of" 2 ["laying","word"] (spP xl))(DLoadOf:Def P w Ξ mg base "load_of" 2 ["laying","word","kind"] (spP VX))(DSmallOf:Def P w Ξ mg base "small_of" 1 ["bits","load"] (spP VT))(DLoadBits:Def P w Ξ mg base "load_bits" 2 ["laying","kind"] (spP Qw)):FnOk P w Ξ mg base CX0 3 f fd ["laying","word"] (spP VR):=by
 refine F.zP scWorthOf (λts Qt h=>?_) (λcdv A outer s H E hr=>?_)
 ·obtain⟨_,_,_,rfl,_⟩:=h
  rfl
 refine⟨_,(qf (qy (i:=2) scWorthOf.nd rfl Wu (qm DMarkOf (Wl hr) (qa_c (qv 0) (qa_c (qv 1) qc))))
  (qf (vG (qw Wz (qv 2) xJ (qA _))
   (qi (qt xJ))
   qP)
  (qf (qy (i:=3) scWorthOf.nd rfl Wu (qm DLoadOf (Wl hr) (qa_c (qv 0) (qa_c (qv 1) (qa_c (qv 2) qc)))))
  (qf (vG (qw vD (qv 2) qD (qA _))
   (qi (qt (qm DSmallOf (Wl hr) (qa_c (qm DLoadBits (Wl hr) (qa_c (qv 0) (qa_c (qv 2) qc))) (qa_c (qv 3) qc)))))
   qP)
  (qf (vG (qw vD (qv 2) qD (qA _))
   (qi (qt (vX (qw xX (qv 3) (qK (Yi (Ξ:=Ξ) rfl) (by rfl) N.len jx (qa_c (X6 (v:=.ref three) rfl T3.mg rfl) qc)) (qA _)) (qH (Ub Ξ) (X6 (v:=.ref three) rfl T3.mg rfl) (qv 3) (λ_ _=>rfl)) xJ)))
   qP)
  (qf (vG (X5 (Zx (qw vD (qv 2) qD (qA _)) (Qe (qw op_ge (qv 3) (xW GSigns rfl) (qA _)))))
   (qi (qt xJ))
   qP)
  (qi (qt (qS (qa_c (qv 2) (qa_c (qv 3) qc))))))))))),_,(qh (qx (qo (qa (qb 0) (qa (qb 1) qd))) (qk 2))
   (qh (vz (qC (qae (qb 2)))
   (qB (ce_c .non))
   qM)
   (qh (qx (qo (qa (qb 0) (qa (qb 1) (qa (qb 2) qd)))) (qk 3))
   (qh (vz (qC (qj qX (qb 2) Wr))
   (qB (qo (qa (qo (qa (qb 0) (qa (qb 2) qd))) (qa (qb 3) qd))))
   qM)
   (qh (vz (qC (qj qX (qb 2) Wr))
   (qB (Zd (qC (qj (qr λ_ _=>.bl _) (qb 3) (ce_lenK T3.kt))) (ce_ixK T3.kt (YK [_,_,_]) (qb 3)) (ce_c .non)))
   qM)
   (qh (vz (G6 (qC (qj qX (qb 2) Wr)) (qC (qj (qr λ_ _=>.bl _) (qb 3) Wm)))
   (qB (ce_c .non))
   qM)
   (qB (qT (qa (qb 2) (qa (qb 3) qd)))))))))),λts Qt h=>?_⟩
 obtain⟨bits,ms,word,rfl,hR,hw0,q⟩:=h;have hb1:=hR.b;have hn5:=hR.n;nofun;refine⟨bits,ms,word,rfl,hR.wd,by lia, ?_⟩;unfold Zf at q;unfold xZ;cases e:ms.filter (on word) with
 |nil =>
  rw[e] at q;nofun;exact q
 |cons m r =>
  rw[e] at q;have hmem:m∈ms:=(UB.mp (by rw[e]; exact UN)).1;have hmk:=hR.ofKind hmem;have hmw:=hR.w m hmem;have hnd:=vY m.1;simp only at q;generalize hld:word / 2^m.2.1.toNat=load at q;have hl0:0<=load:=by rw[<-hld]; exact RF hw0 (RO (qZ _))
  unfold Ym at q;nofun;refine⟨bits,ms,word,m.1,m,rfl,by lia,hmk,by lia, ?_⟩;rw[hld];nofun;refine ite2 (λh1=>?_) (λh1=>?_)
  ·rw[if_pos h1] at q
   refine⟨bits,ms,m.1,m,rfl,by lia,hmk, ?_⟩;nofun;refine⟨bits-m.2.1,load,rfl,by lia,by lia, ?_⟩;nofun;exact q
  rw[if_neg h1] at q;refine ite2 (λh2=>?_) (λh2=>?_)
  ·rw[if_pos h2] at q
   refine ite2 (λh3=>?_) (λh3=>?_)
   ·rw[if_pos (show load<3 by lia)] at q
    rcases(show load=0\/load=1\/load=2 by lia) with rfl|rfl|rfl
    ·exact⟨_,rfl,q⟩
    ·exact⟨_,rfl,q⟩
    ·exact⟨_,rfl,q⟩
   ·rw[if_neg (show ¬load<3 by lia)] at q
    exact q
  rw[if_neg h2] at q;refine ite2 (λh3=>?_) (λh3=>?_)
  ·refine ite2 (λh4=>?_) (λh4=>?_)
   ·rw[if_pos ⟨h3,h4⟩] at q
    exact q
   ·rw[if_neg (λz=>h4 z.2)] at q
    nofun;exact q
  ·rw[if_neg (λz=>h3 z.1)] at q
   nofun;exact q
abbrev XO:Stmt:=top 31
theorem scWordOf:FnScope ["laying","worth"] ["laying","worth"] (qg XO):=⟨rfl,rfl,rfl,by decide +kernel,rfl,by decide +kernel,by decide +kernel⟩
inductive WorthT:T->Str->Int->Prop
 |int (n:Int):WorthT (.int n) "small" n
 |one {t:Str} {j:Nat} (h:three3[j]?=some t):WorthT (.str t) "one" j
 |tup {kind:Str} (load:Int):WorthT (.tup [.str kind, .int load]) kind load
def xk:List T->(T->Prop)->Prop:=λts Q=>∃(bits:Int)(ms:List Mk3)(t:T)(kind:Str)(load:Int)(m:Mk3),ts=[layT bits ms,t]/\ms.length<=900/\WorthT t kind load/\OfKind ms kind m/\0<=m.2.1/\0<=bits-m.2.1/\bits<=60/\((∃n,t=.int n)\/(0<=load/\load<2^(bits-m.2.1).toNat))/\Q (.int (zQ bits m load))
theorem pow60{s:Int}(h:s<=60):(2:Int)^s.toNat<=2^60:=by
 have:(2:Nat)^s.toNat<=2^60:=Da (by decide) (by lia);exact_mod_cast this
theorem Jc(F:Fun Ξ "word_of" "word_of" XO f fd)(N:Nms mg)(T3:Tup3 Ξ mg "THREE" three "none" "no" "yes")(DMarked:Def P w Ξ mg base "marked" 2 ["laying","kind","load"] (spP Jt))(DLoadBits:Def P w Ξ mg base "load_bits" 2 ["laying","kind"] (spP Qw)):FnOk P w Ξ mg base CX0 3 f fd ["laying","worth"] (spP xk):=by
 refine F.zP scWordOf (λts Qt h=>?_) (λcdv A outer s H E hr=>?_)
 ·obtain⟨_,_,_,_,_,_,rfl,_⟩:=h
  rfl
 refine⟨_,(qf (vG (xg (qK (Xi (Ξ:=Ξ) rfl) (by rfl) N.isinstance kc (qa_c (qv 1) (qa_c (Wg (v:=.ty "int") (by rfl) N.int qam rfl) qc))))
   (qi (qt (qm DMarked (Wl hr) (qa_c (qv 0) (qa_c qD (qa_c (ql zi (qv 1) (ql vS qe (qm DLoadBits (Wl hr) (qa_c (qv 0) (qa_c qD qc))))) qc))))))
   qP)
  (qf (vG (xg (qK (Xi (Ξ:=Ξ) rfl) (by rfl) N.isinstance kc (qa_c (qv 1) (qa_c (Wg (v:=.ty "str") (by rfl) N.str b_str rfl) qc))))
   (qi (qt (qm DMarked (Wl hr) (qa_c (qv 0) (qa_c qD (qa_c (qe_bm PySem.F.plainAttrs_tuple PySem.F.slot_tuple_index PySem.F.type_tuple_index (WZ (Ξ:=Ξ) rfl T3) (X6 (v:=.ref three) rfl T3.mg rfl) (qa_c (qv 1) qc)) qc))))))
   qP)
  (qi (qt (qm DMarked (Wl hr) (qa_c (qv 0) (qa_c (qH (Ub Ξ) (qv 1) qe (λ_ _=>rfl)) (qa_c (qH (Ub Ξ) (qv 1) qe (λ_ _=>rfl)) qc)))))))),_,(qh (vz (ct_b (ce_isi .int (qb 1)))
   (qB (qo (qa (qb 0) (qa Wr (qa (qj (qW λ_ _=>.int _) (qb 1) (qj (qW λ_ _=>.int _) Wm (qo (qa (qb 0) (qa Wr qd))))) qd)))))
   qM)
   (qh (vz (ct_b (ce_isi .str (qb 1)))
   (qB (qo (qa (qb 0) (qa Wr (qa (ce_idxK T3 (qa (qb 1) qd)) qd)))))
   qM)
   (qB (qo (qa (qb 0) (qa (vi (qb 1) Wm) (qa (vi (qb 1) Wm) qd))))))),λts Qt h=>?_⟩
 obtain⟨bits,ms,t,kind,load,m,rfl,hl,hwt,hm,h0,h1,h60,hb,q⟩:=h;have hp:=qZ (bits-m.2.1).toNat;have hp60:=pow60 (s:=bits-m.2.1) (by lia);unfold zQ at q;cases hwt with
 |int n =>
  have hlt:=UU load hp;have hnn:=U0 load (Ra hp);nofun;refine⟨bits,ms,"small", m,rfl,hl,hm, ?_⟩;nofun;refine⟨⟨h1,by lia,by decide⟩,by rw[UM]; exact hp, ?_⟩;rw[UM];refine⟨bits,ms,"small", _,m,rfl,hl,hm,h0,by lia,by lia, ?_⟩;nofun;exact q
 | @one t j hj =>
  have hj3:j<3:=(Ue.mp hj).1;obtain⟨g0,g1⟩:0<=(j:Int)/\(j:Int)<2^(bits-m.2.1).toNat:=hb.resolve_left λ⟨_,z⟩=>by cases z
  nofun;refine⟨t,j,rfl,hj,Xy hj, ?_⟩;nofun;refine⟨bits,ms,"one", _,m,rfl,hl,hm,h0,by lia,by lia, ?_⟩;rw[U7 g0 g1] at q;nofun;exact q
 |tup load =>
  obtain⟨g0,g1⟩:0<=load/\load<2^(bits-m.2.1).toNat:=hb.resolve_left λ⟨_,z⟩=>by cases z
  nofun;refine⟨bits,ms,kind,load,m,rfl,hl,hm,h0,by lia,by lia, ?_⟩;rw[U7 g0 g1] at q;nofun;exact q
def lcnt(bits n:Int):Nat:=(Builtin.Int.intBits n+bits.toNat-1) / bits.toNat
def lim(b a i:Nat):Int:=((a / 2^(b*i) % 2^b:Nat):Int)
def zy(bits n:Int):List Int:=(List.range (lcnt bits n)).map (lim bits.toNat n.natAbs)
theorem xw(hb:1<=bits)(i:Nat):0<n.natAbs / 2^(bits.toNat*i)↔i<lcnt bits n:=by
 have hb':0<bits.toNat:=by lia
 have h1:0<n.natAbs / 2^(bits.toNat*i)↔¬n.natAbs<2^(bits.toNat*i):=by
  rw[Nat.div_pos_iff];have:=Nat.pow_pos (n:=bits.toNat*i) (show 0<2 by decide);lia
 rw[h1, <-intBits_le_iff];unfold lcnt;rw[<-Nat.succ_le_iff,Nat.le_div_iff_mul_le hb',Nat.succ_mul,Nat.mul_comm i];lia
theorem Jj(h:Bt m n)(hb:1<=bits)(h60:bits<=60):lcnt bits n<=m+60:=by
 unfold lcnt;have:=h.bits;refine UC (Nat.div_le_self _ _) ?_;lia
theorem Qp:a / 2^(b*i) / 2^b=a / 2^(b*(i+1)):=by
 rw[Ry, <-Rq];rfl
theorem JH(n:Int):(if n<0 then -n else n)=(n.natAbs:Int):=by split<;>lia
theorem bits_abs(n:Int):Builtin.Int.intBits (n.natAbs:Int)=Builtin.Int.intBits n:=by
 apply Nat.le_antisymm
 ·exact intBits_le_iff.mpr (by rw[Rb]; exact intBits_le_iff.mp (Uk _))
 ·refine intBits_le_iff.mpr ?_
  have:=intBits_le_iff.mp (Uk (Builtin.Int.intBits (n.natAbs:Int)));rw[Rb] at this;exact this
theorem lcnt_int(hb:1<=bits):((Builtin.Int.intBits n:Int)+bits-1) / bits=(lcnt bits n:Int):=by
 obtain⟨b,rfl⟩:∃b:Nat,bits=(b:Int):=⟨bits.toNat,by lia⟩;unfold lcnt;rw[DV];have e:(Builtin.Int.intBits n:Int)+(b:Int)-1=((Builtin.Int.intBits n+b-1:Nat):Int):=by lia
 rw[e];exact_mod_cast rfl
theorem pow_cast(k:Nat):(1:Int)*2^k=((2^k:Nat):Int):=by rw[UM]; simp
def v8(bits n:Int):Int:=4*(lcnt bits n:Int)+(if n<0 then 2 else 0)
def xc(bits n:Int):List Int:=v8 bits n::zy bits n
theorem zb:(xc bits n).length=lcnt bits n+1:=by
 unfold xc; rw[Ul]; unfold zy; rw[Ug,Rn]
theorem xi(hb:1<=bits)(hn:n≠0):0<lcnt bits n:=by
 refine(xw hb 0).mp ?_;rw[Nat.mul_zero,Nat.pow_zero,Nat.div_one];lia
theorem bt_of(h0:0<=n)(h1:n<2^k):Bt k n:=by
 unfold Bt;obtain⟨a,rfl⟩:∃a:Nat,n=(a:Int):=⟨n.toNat,by lia⟩;rw[Rb];have:(a:Int)<((2^k:Nat):Int):=by push_cast; exact h1
 exact_mod_cast this
def qL(s n:Int):Bool:=decide (-(2^(s-1).toNat)<=n/\n<2^(s-1).toNat)
abbrev Vs:Stmt:=top 32
theorem scIsSmall:FnScope ["laying","n","half"] ["laying","n"] (qg Vs):=⟨rfl,rfl,rfl,by decide +kernel,rfl,by decide +kernel,by decide +kernel⟩
def ky:List T->(T->Prop)->Prop:=λts Q=>∃(bits:Int)(ms:List Mk3)(n:Int)(m:Mk3),ts=[layT bits ms, .int n]/\ms.length<=900/\OfKind ms "small" m/\1<=bits-m.2.1/\bits-m.2.1<=60/\Q (.bl (qL (bits-m.2.1) n))
theorem ZK(F:Fun Ξ "is_small" "is_small" Vs f fd)(DLoadBits:Def P w Ξ mg base "load_bits" 2 ["laying","kind"] (spP Qw)):FnOk P w Ξ mg base CX0 3 f fd ["laying","n"] (spP ky):=by
 refine F.zP scIsSmall (λts Qt h=>?_) (λcdv A outer s H E hr=>?_)
 ·obtain⟨_,_,_,_,rfl,_⟩:=h
  rfl
 refine⟨_,(qf (qy (i:=2) scIsSmall.nd rfl Wu (ql vS qe (ql vp (qm DLoadBits (Wl hr) (qa_c (qv 0) (qa_c qD qc))) qe)))
  (qi (qt (J0 op_le xX (qe_un un_neg (qv 2)) (qv 1) (qv 2))))),_,(qh (qx (qj (qW λ_ _=>.int _) Wm (qj (qr λ_ _=>.int _) (qo (qa (qb 0) (qa Wr qd))) Wm)) (qk 2))
   (qB (KC (qr λ_ _=>.bl _) (qr λ_ _=>.bl _) (ce_neg (qb 2)) (qb 1) (qb 2)))),λts Qt h=>?_⟩
 obtain⟨bits,ms,n,m,rfl,hl,hm,s0,s1,q⟩:=h;nofun;refine⟨bits,ms,"small", m,rfl,hl,hm, ?_⟩;nofun;refine⟨⟨by lia,by lia,by decide⟩, ?_⟩;rw[UM];unfold qL at q;generalize(2:Int)^(bits-m.2.1-1).toNat=half at q ⊢;by_cases h1 : -half<=n
 ·rw[if_pos h1]
  simpa only[h1,true_and] using q
 ·rw[if_neg h1]
  simpa only[h1,false_and,decide_false] using q
theorem Ke{l:List Str}:inV (.str z) (l.map V.str)=decide (z∈l):=by
 unfold inV;rw[List.any_map]
 induction l with
 |nil=>rfl
 |cons a l ih =>
  rw[Dr,ih];show(decide (a=z)||decide (z∈l))=_;by_cases h:a=z
  ·simp[h]
  ·simp[h,Ne.symm h]
theorem zn{p:Prop}[Decidable p]{a b:Prop}(h:¬p)(q:b):if p then a else b:=by rw[if_neg h]; exact q
theorem v5{p:Prop}[Decidable p]{a b:Prop}(h:p)(q:a):if p then a else b:=by rw[if_pos h]; exact q
def va(x:Int):Int:=if x=1 then 3 else x / 4+1
def valL(b:Nat):List Int->Int
 | []=>0
 |l::ls=>l+2^b*valL b ls
def limI(os:List Int)(k:Nat)(x:Int):List Int:=(os.drop (k+1)).take (x / 4).toNat
def numI(b:Nat)(os:List Int)(k:Nat)(x:Int):Int:=if x % 4=0 then valL b (limI os k x) else -(valL b (limI os k x))
def WdsOk(bits:Int)(os:List Int):Prop:=∀x∈os,0<=x/\x<2^bits.toNat
theorem Yo:∀{L:List Int},(∀x∈L,0<=x/\x<2^b)->0<=valL b L/\valL b L<2^(b*L.length)
 | [],_=>⟨Bn _,by unfold valL; exact qZ _⟩
 |l::L,h=>by
  have h1:=h l (.head _);have h2:=Yo (L:=L) λx hx=>h x (.tail _ hx);have hp:=qZ b;unfold valL;have e:(2:Int)^(b*(l::L).length)=2^b*2^(b*L.length):=by rw[Ul,RP,RD,R6]
  rw[e];generalize(2:Int)^(b*L.length)=z at *;generalize(2:Int)^b=p at *;generalize valL b L=v at *;have h3:0<=p*v:=R1 (by lia) h2.1;have h4:p*(v+1)<=p*z:=Int.mul_le_mul_of_nonneg_left (by lia) (by lia);rw[Int.mul_add,Int.mul_one] at h4;lia
abbrev XR:Stmt:=top 16
theorem scSizeAt:FnScope ["outside","address","head"] ["outside","address"] (qg XR):=⟨rfl,rfl,rfl,by decide +kernel,rfl,by decide +kernel,by decide +kernel⟩
def Q5:List T->(T->Prop)->Prop:=λts Q=>∃(os:List Int)(k:Nat)(x:Int),ts=[qU os, .int k]/\os[k]?=some x/\Q (.int (va x))
theorem ok_sizeG(F:Fun Ξ "size_at" "size_at" XR f fd)(GHead:GInt mg "PAIR_HEAD" 1)(GSize:GInt mg "PAIR_SIZE" 3):FnOk P w Ξ mg base CX0 1 f fd ["outside","address"] (spP Q5):=by
 refine F.zP scSizeAt (λts Qt h=>?_) (λcdv A outer s H E hr=>?_)
 ·obtain⟨_,_,_,rfl,_⟩:=h
  rfl
 refine⟨_,(qf (qy (i:=2) scSizeAt.nd rfl Wu (qH (Ua Ξ) (qv 0) (qv 1) (λ_ _=>rfl)))
  (qi (qt (vX (qw vD (qv 2) (xW GHead rfl) (qA _)) (xW GSize rfl) (ql qO (ql zF (qv 2) qe) qe))))),_,(qh (qx (vE (qb 0) (qb 1)) (qk 2))
   (qB (Zd (qC (qj qX (qb 2) Wm)) Wm (qj (qr λ_ _=>.int _) (qj (qW λ_ _=>.int _) (qb 2) Wm) Wm)))),λts Qt h=>?_⟩
 obtain⟨os,k,x,rfl,hx,q⟩:=h;symm;refine vI (atT hx) ?_;symm;unfold va at q;refine ite2 (λz=>?_) (λz=>⟨⟨by decide,by decide⟩, ?_⟩)
 ·rw[if_pos z] at q; exact q
 ·rw[if_neg z] at q; exact q
abbrev Qb:Stmt:=top 17
theorem scNumberAt:FnScope ["laying","outside","address","amount","limb"] ["laying","outside","address"] (qg Qb):=⟨rfl,rfl,rfl,by decide +kernel,rfl,by decide +kernel,by decide +kernel⟩
def gNumG:List T->(T->Prop)->Prop:=λts Q=>∃(bits:Int)(ms:List Mk3)(os:List Int)(k:Nat)(x:Int),ts=[layT bits ms,qU os, .int k]/\os[k]?=some x/\4<=x/\k+va x<=os.length/\os.length<=1000/\1<=bits/\bits<=60/\WdsOk bits os/\Q (.int (numI bits.toNat os k x))
theorem limI_len{os:List Int}{k:Nat}(h4:4<=x)(he:k+va x<=os.length):(limI os k x).length=(x / 4).toNat:=by
 unfold limI;unfold va at he;rw[if_neg (by lia)] at he;rw[UZ,Dv];lia
theorem ok_numG(F:Fun Ξ "number_at" "number_at" Qb f fd)(N2:Nms2 mg)(DSizeAt:Def P w Ξ mg base "size_at" 1 ["outside","address"] (spP Q5)):FnOk P w Ξ mg base CX0 2 f fd ["laying","outside","address"] (spP gNumG):=by
 refine F.zP scNumberAt (λts Qt h=>?_) (λcdv A outer s H E hr=>?_)
 ·obtain⟨_,_,_,_,_,rfl,_⟩:=h
  rfl
 refine⟨_,(qf (qy (i:=3) scNumberAt.nd rfl Wu qe)
  (qf (j7 PassesOwn.never rfl (qi_revK (Ξ:=Ξ) rfl rfl N2.reversed (qa_c (vW (Gf Ξ) (qv 1) (vO (ql qO (qv 2) qe)) (vO (ql qO (qv 2) (qm DSizeAt (Wl hr) (qa_c (qv 1) (qa_c (qv 2) qc)))))) qc)) (vP (i:=4) scNumberAt.nd rfl Wu)
   (qi (qy (i:=3) scNumberAt.nd rfl Wu (ql qO (ql op_shlB (qv 3) (qH (Ub Ξ) (qv 0) qe (λ_ _=>rfl))) (qv 4)))))
  (qi (qt (vX (qw vD (ql zi (qH (Ua Ξ) (qv 1) (qv 2) (λ_ _=>rfl)) qe) qe (qA _)) (qv 3) (qe_un un_neg (qv 3))))))),_,(qh (qx Wm (qk 3))
   (qh (QC (ci_rev (qa (Zc (qb 1) (v7 (qj (qr λ_ _=>.int _) (qb 2) Wm)) (v7 (qj (qr λ_ _=>.int _) (qb 2) (qo (qa (qb 1) (qa (qb 2) qd)))))) qd)) (qk 4)
   (qx (qj (qr λ_ _=>.int _) (qj (qW λ_ _=>.int _) (qb 3) (vi (qb 0) Wm)) (qb 4)) (qk 3)))
   (qB (Zd (qC (qj qX (qj (qW λ_ _=>.int _) (vE (qb 1) (qb 2)) Wm) Wm)) (qb 3) (ce_neg (qb 3)))))),λts Qt h=>?_⟩
 obtain⟨bits,ms,os,k,x,rfl,hx,h4,he,hz,b0,b1,hw,q⟩:=h;have hs:va x=x / 4+1:=by unfold va; rw[if_neg (by lia)]
 have hll:=limI_len h4 he;have hlw:∀y∈limI os k x,0<=y/\y<2^bits.toNat:=λy hy=>hw y (D0 (Dn hy));symm;refine⟨os,k,x,rfl,hx, ?_⟩;symm;have e1:(k:Int)+1=((k+1:Nat):Int):=by push_cast; rfl
 have e2:(k:Int)+va x=((k+1+(x / 4).toNat:Nat):Int):=by rw[hs]; push_cast; lia
 have hcut:cutT (os.map T.int) (some ((k:Int)+1)) (some ((k:Int)+va x))=(limI os k x).map T.int:=by
  rw[e1,e2,Ku (by lia) (by rw[hs] at he; lia)]
  congr 1;unfold limI
  congr 1;lia
 rw[hcut];generalize hL:limI os k x=L at *;refine ufor_rev (λi ρ M'=>M'=[]/\∃x4,ρ=[some (.p (layT bits ms)),some (.p (qU os)),some (.p (.int k)),some (.p (.int (valL bits.toNat (L.drop (L.length-i))))),x4]) ⟨rfl,none,by rw[Nat.sub_zero,List.drop_length]; rfl⟩ ?_ ?_
 ·rintro i y ρ M' hi hy ⟨rfl,x4,rfl⟩
  rw[Ug] at hi hy;obtain⟨l,hl,rfl⟩:=get_map hy;symm;have hd:L.drop (L.length-(i+1))=l::L.drop (L.length-i):=by
   obtain⟨h1,h2⟩:=Ue.mp hl;rw[show L.length-(i+1)=L.length-1-i by lia,List.drop_eq_getElem_cons h1,h2]
   congr 2;lia
  have hv:=Yo (b:=bits.toNat) (L:=L.drop (L.length-i)) λy hy=>hlw y (D0 hy);refine⟨⟨by lia,by lia, ?_⟩,some (.p (.int l)), ?_⟩
  ·have h1:(valL bits.toNat (L.drop (L.length-i))).natAbs<2^(bits.toNat*(L.drop (L.length-i)).length):=by
    have:=hv.2;have e:((2^(bits.toNat*(L.drop (L.length-i)).length):Nat):Int)=2^(bits.toNat*(L.drop (L.length-i)).length):=by simp
    lia
   refine Ux h1 (Da (by decide) ?_);have h2:(L.drop (L.length-i)).length<=1000:=by
    rw[Dv];lia
   have h3:bits.toNat<=60:=by lia
   exact UC (Nat.mul_le_mul h3 h2) (by decide)
  ·rw[hd,show valL bits.toNat (l::L.drop (L.length-i))=l+2^bits.toNat*valL bits.toNat (L.drop (L.length-i)) from rfl,Bl l,Bk]
 ·rintro ρ M' ⟨rfl,x4,rfl⟩
  rw[Ug,DL,R0];symm;refine vI (atT hx) ?_;symm;refine⟨by decide, ?_⟩;unfold numI at q;rw[hL] at q;refine ite2 (λz=>?_) (λz=>?_)
  ·rw[if_pos z] at q
   exact q
  ·rw[if_neg z] at q
   exact q
def Q2(x:Int):Bool:=decide (x=1)||(decide (4<=x)&&decide (x % 2=0))
def xF(bits sm:Int)(os:List Int)(k:Nat)(x:Int):Option Str :=
 if Q2 x=false then some "head" else if(os.length:Int)<k+va x then some "end" else if x=1 then none else if os[k+(x / 4).toNat]?=some 0 then some "limb" else if qL sm (numI bits.toNat os k x)=true then some "small" else none
def thF(bad:Nat->Option Str)(sz:Nat->Nat)(len:Nat)(k:Nat):Option (Str×Int)×List Nat :=
 if h:k<len/\0<sz k then
  match bad k with
  |some w=>(some (w,8+k), [])
  |none=>((thF bad sz len (k+sz k)).1,k::(thF bad sz len (k+sz k)).2)
 else(none, [])
termination_by len-k
decreasing_by all_goals lia
def badK(bits sm:Int)(os:List Int)(k:Nat):Option Str:=(os[k]?).bind (xF bits sm os k)
def szK(os:List Int)(k:Nat):Nat:=(va ((os[k]?).getD 1)).toNat
def thI(bits sm:Int)(os:List Int):Nat->Option (Str×Int)×List Nat:=thF (badK bits sm os) (szK os) os.length
theorem kX{os:List Int}(h:os.length<=k):thI bits sm os k=(none, []):=by
 unfold thI thF;rw[dif_neg (by lia)]
theorem zJ{os:List Int}(h:xF bits sm os k x=none):2<=va x/\k+va x<=os.length/\Q2 x=true:=by
 unfold xF at h;split at h
 ·cases h
 rename_i h1;split at h
 ·cases h
 rename_i h2;have hh:Q2 x=true:=by simpa using h1
 refine⟨?_,by lia,hh⟩;unfold va;unfold Q2 at hh;split
 ·lia
 ·rename_i h3
  simp[h3] at hh;lia
theorem thI_bad{os:List Int}{w:Str}(hx:os[k]?=some x)(h0:0<=x)(h:xF bits sm os k x=some w):thI bits sm os k=(some (w,(8:Int)+k), []):=by
 have hk:=(Ue.mp hx).1;have hb:badK bits sm os k=some w:=by unfold badK; rw[hx]; exact h
 have hs:0<szK os k:=by
  unfold szK;rw[hx];show 0<(va x).toNat;unfold va;split<;>lia
 unfold thI thF;rw[dif_pos ⟨hk,hs⟩,hb]
theorem Zj{os:List Int}(hx:os[k]?=some x)(h:xF bits sm os k x=none):thI bits sm os k=((thI bits sm os (k+(va x).toNat)).1,k::(thI bits sm os (k+(va x).toNat)).2):=by
 have hk:=(Ue.mp hx).1;have hb:badK bits sm os k=none:=by unfold badK; rw[hx]; exact h
 have he:szK os k=(va x).toNat:=by unfold szK; rw[hx]; rfl
 have hs:=(zJ h).1
 conv=>lhs; unfold thI thF
 rw[dif_pos ⟨hk,by rw[he]; lia⟩,hb,he];rfl
theorem Zk{os:List Int}:∀(n k:Nat),os.length-k<=n->∀j∈(thI bits sm os k).2,k<=j/\j<os.length/\∃x,os[j]?=some x/\xF bits sm os j x=none
 |n,k,hn=>λj hj=>by
  by_cases hk:k<os.length
  ·obtain⟨x,hx⟩:∃x,os[k]?=some x:=⟨_,Uf hk⟩
   cases hb:xF bits sm os k x with
   |none =>
    have hs:=zJ hb;rw[Zj hx hb] at hj;rcases Up.mp hj with rfl|hj
    ·exact⟨Uk _,hk,x,hx,hb⟩
    ·match n,hn with
     |0,hn=>lia
     |n+1,hn =>
      obtain⟨h1,h2⟩:=Zk n (k+(va x).toNat) (by lia) j hj;exact⟨by lia,h2⟩
   |some w =>
    have:(thI bits sm os k).2=[]:=by
     unfold thI thF;split
     ·have hbk:badK bits sm os k=some w:=by unfold badK; rw[hx]; exact hb
      rw[hbk]
     ·rfl
    rw[this] at hj;cases hj
  ·rw[kX (by lia)] at hj
   cases hj
theorem thI_nd{os:List Int}:∀(n k:Nat),os.length-k<=n->(thI bits sm os k).2.Pairwise (· < ·)
 |n,k,hn=>by
  by_cases hk:k<os.length
  ·obtain⟨x,hx⟩:∃x,os[k]?=some x:=⟨_,Uf hk⟩
   cases hb:xF bits sm os k x with
   |none =>
    have hs:=zJ hb;rw[Zj hx hb]
    match n,hn with
    |0,hn=>lia
    |n+1,hn =>
     refine U4.mpr ⟨λj hj=>?_,thI_nd n (k+(va x).toNat) (by lia)⟩;have:=(Zk _ _ (Uk _) j hj).1;lia
   |some w =>
    have:(thI bits sm os k).2=[]:=by
     unfold thI thF;split
     ·have hbk:badK bits sm os k=some w:=by unfold badK; rw[hx]; exact hb
      rw[hbk]
     ·rfl
    rw[this];exact .nil
  ·rw[kX (by lia)]
   exact .nil
structure Hds(os:List Int)(hs:List Nat):Prop where
 ex:∃bits sm,(thI bits sm os 0).1=none/\(thI bits sm os 0).2=hs
 w:∀x∈os,0<=x
 z:os.length<=1000
theorem jc(e:M[k]?=some (.lst (l.map U.p))):frzN (n+1) M (.m k)=some (.lst l):=by simp only[frzN,e]; rw[V0 (λ_=>Q6)]; rfl
theorem Hds.at{os:List Int}(h:Hds os hs):∀k∈hs,∃x,os[k]?=some x/\k+va x<=os.length/\Q2 x=true:=λk hk=>by
 obtain⟨bits,sm,_,rfl⟩:=h.ex;obtain⟨_,_,x,hx,hb⟩:=Zk _ _ (Uk _) k hk;exact⟨x,hx,(zJ hb).2⟩
theorem Hds.lt{os:List Int}(h:Hds os hs):hs.Pairwise (· < ·):=by
 obtain⟨bits,sm,_,rfl⟩:=h.ex;exact thI_nd _ _ (Uk _)
theorem Hds.len{os:List Int}(h:Hds os hs):hs.length<=1000:=by
 have h1:∀(l:List Nat)(a b:Nat),l.Pairwise (· < ·)->(∀x∈l,a<=x/\x<b)->l.length<=b-a:=by
  intro l
  induction l with
  |nil=>intro a b _ _; exact UY _
  |cons y l ih =>
   intro a b hp hm;rw[U4] at hp;have:=ih (y+1) b hp.2 λx hx=>⟨hp.1 x hx,(hm x (.tail _ hx)).2⟩;have h2:=hm y (.head _);rw[Ul];lia
 have:=h1 hs 0 os.length h.lt λk hk=>by
  obtain⟨x,hx,_⟩:=h.at k hk;exact⟨UY _,(Ue.mp hx).1⟩
 have:=h.z;lia
abbrev Vu:Stmt:=top 35
theorem scHeadsIn:FnScope ["outside","heads","address"] ["outside"] (qg Vu):=⟨rfl,rfl,rfl,by decide +kernel,rfl,by decide +kernel,by decide +kernel⟩
def GM:List T->(T->Prop)->Prop:=λts Q=>∃(os:List Int)(hs:List Nat),ts=[qU os]/\Hds os hs/\Q (.lst (hs.map λ(k:Nat)=>T.int k))
theorem ok_heads(F:Fun Ξ "heads_in" "heads_in" Vu f fd)(N:Nms mg)(DSizeAt:Def P w Ξ mg base "size_at" 1 ["outside","address"] (spP Q5)):FnOk P w Ξ mg base CX0 2 f fd ["outside"] (spP GM):=by
 refine F.zP scHeadsIn (λts Qt h=>?_) (λcdv A outer s H E hr=>?_)
 ·obtain⟨_,_,rfl,_⟩:=h
  rfl
 refine⟨_,(qf (qy (i:=1) scHeadsIn.nd rfl Wu (qR qc))
  (qf (qy (i:=2) scHeadsIn.nd rfl Wu qe)
  (qf (kr PassesOwn.never (qw xX (qv 2) (qK vq (by rfl) N.len jx (qa_c (qv 0) qc)) (qA _))
   (qf (vN (QP PySem.F.slot_list_append PySem.F.type_list_append zm (qv 1) (qa_c (qv 2) qc)))
   (qi (qs_aug (i:=2) scHeadsIn.nd rfl Wu (qm DSizeAt (Wl hr) (qa_c (qv 0) (qa_c (qv 2) qc))) ip_add))))
  (qi (qt (qv 1)))))),_,(qh (qx (ju qd) (qk 1))
   (qh (qx Wm (qk 2))
   (qh (kH (qC (qj (qr λ_ _=>.bl _) (qb 2) (xo (qa (qb 0) qd))))
   (qh (vR (QU zk (qb 1) (qa (qb 2) qd)))
   (cs_aug (qo (qa (qb 0) (qa (qb 2) qd))))))
   (qB (qb 1))))),λts Qt h=>?_⟩
 obtain⟨os,hs,rfl,⟨⟨bits,sm,hn,hh⟩,hw,hz⟩,q⟩:=h;symm;refine⟨λd ρ M=>∃(k:Nat)(gs:List Nat),d=os.length-k/\ρ=[some (.p (qU os)),some (.m 0),some (.p (.int k))]/\M=[.lst ((gs.map λ(j:Nat)=>T.int j).map U.p)]/\(thI bits sm os k).1=none/\gs++(thI bits sm os k).2=hs/\gs.length<=k,⟨_,0, [],rfl,rfl,rfl,hn,hh,Uk _⟩, ?_⟩;rintro d ρ M ⟨k,gs,rfl,rfl,rfl,h1,h2,h3⟩;symm;rw[Ug];refine ite2 (λhl=>?_) (λhl=>?_)
 ·have hl:k<os.length:=by lia
  obtain⟨x,hx⟩:∃x,os[k]?=some x:=⟨_,Uf hl⟩;have hxw:=hw x (Uh hx);have hb:xF bits sm os k x=none:=by
   cases hb:xF bits sm os k x with
   |none=>rfl
   |some w=>rw[thI_bad hx hxw hb] at h1; cases h1
  have hs2:=zJ hb;rw[Zj hx hb] at h1 h2;refine⟨λρ M=>ρ=[some (.p (qU os)),some (.m 0),some (.p (.int ((k+(va x).toNat:Nat):Int)))]/\M=[.lst (((gs++[k]).map λ(j:Nat)=>T.int j).map U.p)], ?_, ?_⟩
  ·rintro ρ' M' ⟨rfl,rfl⟩
   exact⟨os.length-(k+(va x).toNat),by lia,k+(va x).toNat,gs++[k],rfl,rfl,rfl,h1,by rw[UL]; exact h2,by rw[Uj]; show gs.length+1<=_; lia⟩
  ·symm
   refine⟨by rw[Ug,Ug,sizeLine_eq]; lia, ?_⟩;simp only[uAug];symm;have e:(k:Int)+va x=((k+(va x).toNat:Nat):Int):=by push_cast; lia
   refine⟨_,rfl,os,k,x,rfl,hx,_,rfl,by rw[e], ?_⟩;rw[Um,Um];rfl
 ·rw[kX (by lia)] at h2
  rw[UR] at h2;subst h2;symm;exact⟨_,jc rfl,q⟩
def kindAt(os:List Int)(k:Nat):Str:=if os[k]?=some 1 then "pair" else "far"
def hkv(os:List Int)(hs:List Nat):List (Key×U):=hs.map λ(k:Nat)=>(Key.inl (k:Int),U.p (.str (kindAt os k)))
theorem J1(h:∀kv∈kvs,kv.1≠k):putU kvs k v=kvs++[(k,v)]:=by
 unfold putU;rw[if_neg];intro z;obtain⟨kv,hkv,e⟩:=List.any_eq_true.mp z;exact h kv hkv (of_decide_eq_true e)
theorem pw_take{hs:List Nat}(h:hs.Pairwise (· < ·))(hk:hs[i]?=some k):∀j∈hs.take i,j≠k:=λj hj=>by
 obtain⟨n,hn⟩:=Dm hj;have hni:n<i:=by
  have:=(Ue.mp hn).1;rw[UZ] at this;lia
 rw[List.getElem?_take,if_pos hni] at hn;obtain⟨h1,rfl⟩:=Ue.mp hn;obtain⟨h2,rfl⟩:=Ue.mp hk;exact UF (List.pairwise_iff_getElem.mp h n i h1 h2 hni)
abbrev jO:Stmt:=top 33
theorem scAddressOf:FnScope ["laying","word","kind"] ["laying","word"] (qg jO):=⟨rfl,rfl,rfl,by decide +kernel,rfl,by decide +kernel,by decide +kernel⟩
def xq(word:Int)(ms:List Mk3):Option (Str×Int):=match ms.filter (on word) with
 | []=>none
 |m::_=>if m.1 = "far" \/ m.1 = "pair" then some (m.1,word / 2^m.2.1.toNat) else none
def Yk:Option (Str×Int)->T
 |none=>.non
 |some p=>.int p.2
def gAddr:List T->(T->Prop)->Prop:=λts Q=>∃(bits:Int)(ms:List Mk3)(word:Int),ts=[layT bits ms, .int word]/\Right bits ms/\Q (Yk (xq word ms))
theorem ok_addr(F:Fun Ξ "address_of" "address_of" jO f fd)(DMarkOf:Def P w Ξ mg base "mark_of" 2 ["laying","word"] (spP xl))(DLoadOf:Def P w Ξ mg base "load_of" 2 ["laying","word","kind"] (spP VX)):FnOk P w Ξ mg base CX0 3 f fd ["laying","word"] (spP gAddr):=by
 refine F.zP scAddressOf (λts Qt h=>?_) (λcdv A outer s H E hr=>?_)
 ·obtain⟨_,_,_,rfl,_⟩:=h
  rfl
 refine⟨_,(qf (qy (i:=2) scAddressOf.nd rfl Wu (qm DMarkOf (Wl hr) (qa_c (qv 0) (qa_c (qv 1) qc))))
  (qi (qt (vX (qw (op_inK (Ξ:=Ξ) rfl) (qv 2) (qS (qa_c qD (qa_c qD qc))) (by with_unfolding_all rfl)) (qm DLoadOf (Wl hr) (qa_c (qv 0) (qa_c (qv 1) (qa_c (qv 2) qc)))) xJ)))),_,(qh (qx (qo (qa (qb 0) (qa (qb 1) qd))) (qk 2))
   (qB (Zd (qC (qj opl_in (qb 2) (qT (qa Wr (qa Wr qd))))) (qo (qa (qb 0) (qa (qb 1) (qa (qb 2) qd)))) (ce_c .non)))),λts Qt h=>?_⟩
 obtain⟨bits,ms,word,rfl,hR,q⟩:=h;symm;refine⟨bits,ms,word,rfl,hR.wd,by rw[hR.n]; decide, ?_⟩;unfold xq at q;unfold xZ;cases e:ms.filter (on word) with
 |nil =>
  rw[e] at q;symm;refine⟨_,_,_,rfl,rfl,rfl,⟨_,rfl, ?_⟩⟩;exact zn (by decide +kernel) q
 |cons m r =>
  rw[e] at q;have hmem:m∈ms:=(UB.mp (by rw[e]; exact UN)).1;have hmk:=hR.ofKind hmem;have hmw:=hR.wd m hmem;symm;refine⟨_,_,_,rfl,rfl,rfl,⟨_,rfl, ?_⟩⟩;have ei:inV (V.str m.1) [V.str "far", V.str "pair"]=decide (m.1 = "far" \/ m.1 = "pair"):=by
   rw[show([V.str "far", V.str "pair"]:List V)=(["far","pair"]:List Str).map V.str from rfl,Ke];exact decide_eq_decide.mpr ⟨λz=>by rcases Up.mp z with z|z; exact .inl z; exact .inr (Us.mp z),λz=>by rcases z with z|z; rw[z]; exact .head _; rw[z]; exact .tail _ (.head _)⟩
  show if inV (V.str m.1) [V.str "far", V.str "pair"]=true then _ else _
  rw[ei];refine ite2 (λh=>?_) (λh=>?_)
  ·have h:=of_decide_eq_true h
   rw[show(match m::r with | []=>none|m::_=>if m.1 = "far" \/ m.1 = "pair" then some (m.1,word / 2^m.2.1.toNat) else none)=some (m.1,word / 2^m.2.1.toNat) from if_pos h] at q;exact⟨bits,ms,word,m.1,m,rfl,by rw[hR.n]; decide,hmk,hmw.1,q⟩
  ·have h:¬(m.1 = "far" \/ m.1 = "pair"):=λz=>h (decide_eq_true z)
   rw[show(match m::r with | []=>none|m::_=>if m.1 = "far" \/ m.1 = "pair" then some (m.1,word / 2^m.2.1.toNat) else none)=none from if_neg h] at q;exact q
def wOf(ms:List Mk3)(kind:Str):Int:=match ms.filter (λm=>decide (m.1=kind)) with
 |m::_=>m.2.1
 | []=>0
theorem kN(h:OfKind ms kind m):wOf ms kind=m.2.1:=by
 obtain⟨r,e⟩:=h;unfold wOf;rw[e]
def xD(bits:Int)(ms:List Mk3)(room:Int):Int:=min3 room (2^(bits-wOf ms "far").toNat) (2^(bits-wOf ms "pair").toNat)
theorem wOf_le(hR:Right bits ms)(h:kind∈kg):1<=wOf ms kind/\2<=bits-wOf ms kind/\bits-wOf ms kind<=31:=by
 obtain⟨m,hm⟩:=hR.kind h;rw[kN hm];have hmm:m∈ms:=by
  obtain⟨rest,hr⟩:=hm;exact(UB.mp (by rw[hr]; exact .head _)).1
 have h1:=hR.w m hmm;have h2:=vY m.1;have h3:=hR.b;lia
abbrev xb:Stmt:=top 47
theorem Vn:FnScope ["laying","room"] ["laying","room"] (qg xb):=⟨rfl,rfl,rfl,by decide +kernel,rfl,by decide +kernel,by decide +kernel⟩
def gMost:List T->(T->Prop)->Prop:=λts Q=>∃(bits:Int)(ms:List Mk3)(room:Int),ts=[layT bits ms, .int room]/\Right bits ms/\Q (.int (xD bits ms room))
theorem ok_most(F:Fun Ξ "most_outside" "most_outside" xb f fd)(N:Nms mg)(DLoadBits:Def P w Ξ mg base "load_bits" 2 ["laying","kind"] (spP Qw)):FnOk P w Ξ mg base CX0 3 f fd ["laying","room"] (spP gMost):=by
 refine F.zP Vn (λts Qt h=>?_) (λcdv A outer s H E hr=>?_)
 ·obtain⟨_,_,_,rfl,_⟩:=h
  rfl
 refine⟨_,(qi (qt (qK (qai rfl) (by rfl) N.min Yj (qa_c (qv 1) (qa_c (ql vS qe (qm DLoadBits (Wl hr) (qa_c (qv 0) (qa_c qD qc)))) (qa_c (ql vS qe (qm DLoadBits (Wl hr) (qa_c (qv 0) (qa_c qD qc)))) qc)))))),_,(qB (zB cbl_min3 (qa (qb 1) (qa (qj (qW λ_ _=>.int _) Wm (qo (qa (qb 0) (qa Wr qd)))) (qa (qj (qW λ_ _=>.int _) Wm (qo (qa (qb 0) (qa Wr qd)))) qd))))),λts Qt h=>?_⟩;obtain⟨bits,ms,room,rfl,hR,q⟩:=h;obtain⟨m1,hm1⟩:=hR.kind (kind := "far") (by decide +kernel);obtain⟨m2,hm2⟩:=hR.kind (kind := "pair") (by decide +kernel);have h1:=wOf_le hR (kind := "far") (by decide +kernel);have h2:=wOf_le hR (kind := "pair") (by decide +kernel);have hl:ms.length<=900:=by rw[hR.n]; decide
 unfold xD at q;rw[kN hm1] at q h1;rw[kN hm2] at q h2;symm;refine⟨bits,ms,_,m1,rfl,hl,hm1, ?_⟩;symm;refine⟨⟨by lia,by lia,by decide⟩,bits,ms,_,m2,rfl,hl,hm2, ?_⟩;symm;refine⟨⟨by lia,by lia,by decide⟩, ?_⟩;simp only[rd_min3,UM];symm;exact q
def pwI(os:List Int)(k:Nat):List Int:=if os[k]?=some 1 then(os.drop (k+1)).take 2 else[]
theorem G3{os:List Int}(h:a<=b)(hb:b<=os.length):cutT (os.map T.int) (some (a:Int)) (some (b:Int))=((os.drop a).take (b-a)).map T.int:=by
 unfold cutT;rw[HT.sIx_nat,HT.sIx_nat,Ug,Dq hb,Dq (UC h hb),Bb,Bc]
abbrev zZ:Stmt:=top 36
theorem Vk:FnScope ["outside","address"] ["outside","address"] (qg zZ):=⟨rfl,rfl,rfl,by decide +kernel,rfl,by decide +kernel,by decide +kernel⟩
def Kk:List T->(T->Prop)->Prop:=λts Q=>∃(os:List Int)(k:Nat)(x:Int),ts=[qU os, .int k]/\os[k]?=some x/\k+va x<=os.length/\Q (qU (pwI os k))
theorem ok_pairW(F:Fun Ξ "pair_words_at" "pair_words_at" zZ f fd)(GHead:GInt mg "PAIR_HEAD" 1):FnOk P w Ξ mg base CX0 1 f fd ["outside","address"] (spP Kk):=by
 refine F.zP Vk (λts Qt h=>?_) (λcdv A outer s H E hr=>?_)
 ·obtain⟨_,_,_,rfl,_⟩:=h
  rfl
 refine⟨_,(qi (qt (vX (qw vD (qH (Ua Ξ) (qv 0) (qv 1) (λ_ _=>rfl)) (xW GHead rfl) (qA _)) (vW (Gf Ξ) (qv 0) (vO (ql qO (qv 1) qe)) (vO (ql qO (qv 1) qe))) (qR qc)))),_,(qB (Zd (qC (qj qX (vE (qb 0) (qb 1)) Wm)) (Zc (qb 0) (v7 (qj (qr λ_ _=>.int _) (qb 1) Wm)) (v7 (qj (qr λ_ _=>.int _) (qb 1) Wm))) (vn qd))),λts Qt h=>?_⟩;obtain⟨os,k,x,rfl,hx,he,q⟩:=h;symm;refine vI (atT hx) ?_;symm;unfold pwI at q;refine ite2 (λz=>?_) (λz=>?_)
 ·subst z
  rw[if_pos hx] at q;symm;have e1:((k:Int)+1)=((k+1:Nat):Int):=by push_cast; rfl
  have e3:((k:Int)+3)=((k+3:Nat):Int):=by push_cast; rfl
  rw[e1,e3,G3 (by lia) (by unfold va at he; rw[if_pos rfl] at he; lia),show k+3-(k+1)=2 by lia];exact q
 ·rw[if_neg (by rw[hx]; exact λy=>z (Option.some.inj y))] at q
  symm;exact q
def K7(ms:List Mk3)(word:Int)(k:Nat):Prop:=∃s,xq word ms=some (s,(k:Int))
inductive Rch(ms:List Mk3)(ws os:List Int):Nat->Prop
 |of {word:Int} {k:Nat}:word∈ws->K7 ms word k->Rch ms ws os k
 |to {j k:Nat} {word:Int}:Rch ms ws os j->word∈pwI os j->K7 ms word k->Rch ms ws os k
structure SI(bits:Int)(ms:List Mk3)(ws os:List Int)(hs:List Nat):Prop where
 R:Right bits ms
 h:Hds os hs
 w:∀word∈ws,∀s a,xq word ms=some (s,a)->∃k∈hs,a=(k:Int)
 o:∀j∈hs,∀word∈pwI os j,∀s a,xq word ms=some (s,a)->∃k∈hs,a=(k:Int)
 n:ws.length<=1000
theorem Qj:∀{ks hs:List Nat},ks.Nodup->(∀k∈ks,k∈hs)->ks.length<=hs.length
 | [],_,_,_=>UY _
 |k::ks,hs,h1,h2=>by
  have hk:=h2 k (.head _);rw[Dc] at h1;have:=Qj (hs:=hs.erase k) h1.2 λx hx=>(List.mem_erase_of_ne (λz:x=k=>h1.1 (z▸hx))).mpr (h2 x (.tail _ hx));rw[List.length_erase_of_mem hk] at this;have:=DU hk;rw[Ul];lia
def xE(ks:List Nat):List (Key×U):=ks.map λ(k:Nat)=>(Key.inl (k:Int),U.p (.bl true))
theorem ZZ{k:Nat}:(valU (xE ks) (.inl (k:Int))).isSome=decide (k∈ks):=by
 induction ks with
 |nil=>rfl
 |cons j ks ih =>
  unfold xE valU at ih ⊢;rw[Uy,De];by_cases h:j=k
  ·subst h
   simp
  ·have h1:¬((Key.inl (j:Int):Key)=Key.inl (k:Int)):=λz=>h (by injection z with z; exact_mod_cast z)
   simp only[h1,decide_false];rw[ih];simp[Ne.symm h]
theorem Gk{k:Nat}(h:k∉ks):putU (xE ks) (.inl (k:Int)) (.p (.bl true))=xE (ks++[k]):=by
 rw[J1]
 ·unfold xE
  rw[Um];rfl
 ·intro kv hkv z
  obtain⟨j,hj,rfl⟩:=UW.mp hkv;have z:(Key.inl (j:Int):Key)=Key.inl (k:Int):=z;injection z with z
  exact h ((by exact_mod_cast z:j=k)▸hj)
abbrev zY:Stmt:=top 39
theorem scReachedFrom:FnScope ["laying","words","outside","reached","waiting","address"] ["laying","words","outside"] (qg zY):=⟨rfl,rfl,rfl,by decide +kernel,rfl,by decide +kernel,by decide +kernel⟩
def GH:List U->MM->UK->Prop:=λus M Q=>∃(bits:Int)(ms:List Mk3)(ws os:List Int)(hs:List Nat),us=[.p (layT bits ms), .p (qU ws), .p (qU os)]/\SI bits ms ws os hs/\∀ks:List Nat,ks.Nodup->(∀k,k∈ks↔Rch ms ws os k)->(∀k∈ks,k∈hs)->Q (.m M.length) (M++[.dK (xE ks), .lst []])
structure RI(ms:List Mk3)(ws os:List Int)(hs:List Nat)(ks:List Nat)(L:List Int):Prop where
 nd:ks.Nodup
 r:∀k∈ks,k∈hs/\Rch ms ws os k
 f:∀x∈L,x∈ws\/∃j∈ks,x∈pwI os j
 c:∀x k,(x∈ws\/∃j∈ks,x∈pwI os j)->K7 ms x k->k∈ks\/x∈L
 l:L.length<=ws.length+2*ks.length
theorem VD{os:List Int}:(pwI os k).length<=2:=by
 unfold pwI;split
 ·rw[UZ]; lia
 ·exact UY _
theorem last_of{l:List Int}(h:l≠[]):∃x,l[l.length-1]?=some x/\x∈l/\l=l.dropLast++[x]:=by
 have hp:=D4.mpr h;refine⟨l[l.length-1],Uf (by lia),Rv _, ?_⟩;have:=List.dropLast_concat_getLast h;rw[List.getLast_eq_getElem] at this;exact this.symm
theorem ok_reach(F:Fun Ξ "reached_from" "reached_from" zY f fd)(N:Nms mg)(DAddressOf:Def P w Ξ mg base "address_of" 3 ["laying","word"] (spP gAddr))(DPairWordsAt:Def P w Ξ mg base "pair_words_at" 1 ["outside","address"] (spP Kk)):FnOk P w Ξ mg base CX0 4 f fd ["laying","words","outside"] (spU GH):=by
 refine F.zU scReachedFrom (λus M Qu h=>?_) (λcdv A outer s H E hr=>?_)
 ·obtain⟨_,_,_,_,_,rfl,_⟩:=h
  rfl
 refine⟨_,(qf (qy (i:=3) scReachedFrom.nd rfl Wu Wf)
  (qf (qy (i:=4) scReachedFrom.nd rfl Wu (vH vJ (by rfl) N.list QK (qa_c (qv 1) qc)))
  (qf (kr PassesOwn.never (Zy (Ξ:=Ξ) rfl (qv 4) (λ_=>rfl))
   (qf (qy (i:=5) scReachedFrom.nd rfl Wu (qm DAddressOf (Wl hr) (qa_c (qv 0) (qa_c (qe_bm0 PySem.F.plainAttrs_list PySem.F.slot_list_pop PySem.F.type_list_pop mt_pop (qv 4)) qc))))
   (qi (vG (X5 (Zx (qw op_notN (qv 5) xJ (qA _)) (Qe (Wa (Jn hr) (qv 5) (qv 3)))))
    (qf (Wb (Jn hr) (qv 3) (qv 5) KP)
    (qi (vN (QP PySem.F.slot_list_extend PySem.F.type_list_extend Qk (qv 4) (qa_c (qm DPairWordsAt (Wl hr) (qa_c (qv 2) (qa_c (qv 5) qc))) qc)))))
    qP))))
  (qi (qt (qv 3)))))),_,(qh (qx qag (qk 3))
   (qh (qx (KB (qa (qb 1) qd)) (qk 4))
   (qh (kH (ct_tru (qb 4))
   (qh (qx (qo (qa (qb 0) (qa (ce_me0 mel_pop (qb 4)) qd))) (qk 5))
   (vz (G6 (qC (ce_notN (qb 5))) (ct_b (qaf (qb 5) (qb 3))))
   (qh (G7 (qb 3) (qb 5) (ce_c (.bl _)))
   (vR (QU jU (qb 4) (qa (qo (qa (qb 2) (qa (qb 5) qd))) qd))))
   qM)))
   (qB (qb 3))))),λus M Qu h=>?_⟩
 obtain⟨bits,ms,ws,os,hs,rfl,hS,q⟩:=h;symm;simp only[JO];symm;refine⟨_,_,rfl, .inl rfl, ?_⟩;symm;have hl1:(M++[MO.dK []]).length=M.length+1:=by simp
 rw[hl1,UL];refine⟨λd ρ M'=>∃(ks:List Nat)(L:List Int)(x5:Option U),d=L.length+3*(hs.length-ks.length)/\ρ=[some (.p (layT bits ms)),some (.p (qU ws)),some (.p (qU os)),some (.m M.length),some (.m (M.length+1)),x5]/\M'=M++[.dK (xE ks), .lst ((L.map T.int).map U.p)]/\RI ms ws os hs ks L,⟨_, [],ws,_,rfl,rfl,rfl,⟨RZ,(λk z=>nomatch z),(λx h=>.inl h),(λx k h _=>.inr (h.elim id λ⟨j,z,_⟩=>nomatch z)),by simp⟩⟩, ?_⟩;rintro d ρ M' ⟨ks,L,x5,rfl,rfl,rfl,I⟩;have hkl:=Qj I.nd λk hk=>(I.r k hk).1;have hhl:=hS.h.len;have hn:=hS.n;have g0:∀a b:MO,(M++[a,b])[M.length]?=some a:=λa b=>by simp
 have g1:∀a b:MO,(M++[a,b])[M.length+1]?=some b:=λa b=>by simp
 have t0:∀a b c:MO,(M++[a,b]).set M.length c=M++[c,b]:=λa b c=>by simp
 have t1:∀a b c:MO,(M++[a,b]).set (M.length+1) c=M++[a,c]:=λa b c=>by simp
 symm;simp only[rd_tru];symm;refine⟨!((L.map T.int).map U.p).isEmpty,by simp only[truU,g1], ?_⟩;refine ite2 (λhL=>?_) (λhL=>?_)
 ·have hL:L≠[]:=λz=>by rw[z] at hL; cases hL
  obtain⟨x,hx,hxm,hxl⟩:=last_of hL;have hxU:((L.map T.int).map U.p)[((L.map T.int).map U.p).length-1]?=some (.p (.int x)):=by rw[Ug,Ug,Uv,Uv,hx]; rfl
  have hdl:((L.map T.int).map U.p).dropLast=((L.dropLast.map T.int).map U.p):=by rw[List.map_dropLast,List.map_dropLast]
  have hll:L.length=L.dropLast.length+1:=by rw[RV]; have:=D4.mpr hL; lia
  refine⟨λρ M''=>∃(ks':List Nat)(L':List Int)(x5':Option U),L'.length+3*(hs.length-ks'.length)<L.length+3*(hs.length-ks.length)/\ρ=[some (.p (layT bits ms)),some (.p (qU ws)),some (.p (qU os)),some (.m M.length),some (.m (M.length+1)),x5']/\M''=M++[.dK (xE ks'), .lst ((L'.map T.int).map U.p)]/\RI ms ws os hs ks' L', ?_, ?_⟩
  ·rintro ρ' M'' ⟨ks',L',x5',h1,rfl,rfl,I'⟩
   exact⟨_,h1,ks',L',x5',rfl,rfl,rfl,I'⟩
  ·symm
   simp only[uMe0];symm;refine⟨_,_,rfl,g1 _ _,_,rfl,hxU, ?_⟩;dsimp only;rw[t1,hdl];symm;refine⟨bits,ms,x,rfl,hS.R, ?_⟩;have skip:(∀k,K7 ms x k->k∈ks)->RI ms ws os hs ks L.dropLast:=λh=>by
    refine⟨I.nd,I.r,λy hy=>I.f y (Dn (by rw[RQ] at hy; exact hy)),λy k h1 h2=>?_,by have:=I.l; lia⟩;rcases I.c y k h1 h2 with z|z
    ·exact .inl z
    ·rw[hxl] at z
     rcases Uu.mp z with z|z
     ·exact .inr z
     ·rw[Us.mp z] at h2
      exact .inl (h k h2)
   cases ea:xq x ms with
   |none =>
    unfold Yk;symm;exact⟨ks,L.dropLast,_,by lia,rfl,rfl,skip λk ⟨s,z⟩=>by rw[ea] at z; cases z⟩
   |some p =>
    obtain⟨sk,a⟩:=p;obtain⟨k,hk,rfl⟩:∃k∈hs,a=(k:Int):=by
     rcases I.f x hxm with z|⟨j,hj,z⟩
     ·exact hS.w x z sk a ea
     ·exact hS.o j (I.r j hj).1 x z sk a ea
    have hlk:∀j,K7 ms x j->j=k:=λj ⟨s,z⟩=>by rw[ea] at z; cases z; rfl
    unfold Yk;symm;refine GV (g0 _ _) ?_;rw[ZZ];symm;refine ite2 (λhin=>?_) (λhin=>?_)
    ·have hin:k∉ks:=by simpa using hin
     obtain⟨y,hy,hye,_⟩:=hS.h.at k hk;have hkl2:=Qj (ks:=k::ks) (Dc.mpr ⟨hin,I.nd⟩) λj hj=>by
      rcases Up.mp hj with rfl|hj
      ·exact hk
      ·exact(I.r j hj).1
     rw[Ul] at hkl2;have hrk:Rch ms ws os k:=by
      rcases I.f x hxm with z|⟨j,hj,z⟩
      ·exact .of z ⟨sk,ea⟩
      ·exact .to (I.r j hj).2 z ⟨sk,ea⟩
     have hl:=I.l;symm;refine Kp (g0 _ _) (by unfold xE; rw[Ug,sizeLine_eq]; lia) ?_;rw[Gk hin,t0];symm;refine⟨_,rfl,⟨_,g1 _ _⟩, ?_⟩;symm;refine⟨os,k,y,rfl,hy,hye, ?_⟩;symm;refine⟨_,g1 _ _,_,rfl, ?_, ?_⟩
     ·simp only[Ug]; have:=VD (os:=os) (k:=k); rw[sizeLine_eq]; lia
     dsimp only;rw[t1, <-Um, <-Um];refine⟨ks++[k],L.dropLast++pwI os k,_, ?_,rfl,rfl, ?_⟩
     ·have:=VD (os:=os) (k:=k)
      rw[Uj,Uj];show _+3*(hs.length-(ks.length+1))<_;lia
     ·refine⟨?_,λj hj=>?_,λz hz=>?_,λz j h1 h2=>?_, ?_⟩
      ·rw[Dp]
       exact⟨I.nd,by simp,λa ha b hb z=>hin (by rw[Us.mp hb] at z; exact z▸ha)⟩
      ·rcases Uu.mp hj with hj|hj
       ·exact I.r j hj
       ·rw[Us.mp hj]; exact⟨hk,hrk⟩
      ·rcases Uu.mp hz with hz|hz
       ·rcases I.f z (Dn (by rw[RQ] at hz; exact hz)) with u|⟨j,hj,u⟩
        ·exact .inl u
        ·exact .inr ⟨j,UH _ hj,u⟩
       ·exact .inr ⟨k,by simp,hz⟩
      ·have old:(z∈ws\/∃j∈ks,z∈pwI os j)->j∈ks++[k]\/z∈L.dropLast++pwI os k:=λh1=>by
        rcases I.c z j h1 h2 with u|u
        ·exact .inl (UH _ u)
        ·rw[hxl] at u
         rcases Uu.mp u with u|u
         ·exact .inr (UH _ u)
         ·rw[Us.mp u] at h2
          exact .inl (by rw[hlk j h2]; simp)
       rcases h1 with u|⟨i,hi,u⟩
       ·exact old (.inl u)
       ·rcases Uu.mp hi with hi|hi
        ·exact old (.inr ⟨i,hi,u⟩)
        ·rw[Us.mp hi] at u
         exact .inr (UJ _ u)
      ·have:=VD (os:=os) (k:=k)
       rw[Uj,Uj];show _<=_+2*(ks.length+1);lia
    ·have hin:k∈ks:=by simpa using hin
     exact⟨ks,L.dropLast,_,by lia,rfl,rfl,skip λj z=>hlk j z▸hin⟩
 ·have hL:L=[]:=by
   cases L with
   |nil=>rfl
   |cons=>exact absurd rfl hL
  subst hL;symm;refine q ks I.nd (λk=>⟨λhk=>(I.r k hk).2,λhk=>?_⟩) λk hk=>(I.r k hk).1;have cl:∀x k,(x∈ws\/∃j∈ks,x∈pwI os j)->K7 ms x k->k∈ks:=λx k h1 h2=>(I.c x k h1 h2).elim id λz=>nomatch z
  induction hk with
  |of h1 h2=>exact cl _ _ (.inl h1) h2
  |to _ h1 h2 ih=>exact cl _ _ (.inr ⟨_,ih,h1⟩) h2
theorem YA{os:List Int}:∀(n k:Nat),os.length-k<=n->(thI bits sm os k).2.Pairwise (λa b=>a+szK os a<=b)
 |n,k,hn=>by
  by_cases hk:k<os.length
  ·obtain⟨x,hx⟩:∃x,os[k]?=some x:=⟨_,Uf hk⟩
   cases hb:xF bits sm os k x with
   |none =>
    have hs:=zJ hb;rw[Zj hx hb]
    match n,hn with
    |0,hn=>lia
    |n+1,hn =>
     refine U4.mpr ⟨λj hj=>?_,YA n (k+(va x).toNat) (by lia)⟩;have:=(Zk _ _ (Uk _) j hj).1;have e:szK os k=(va x).toNat:=by unfold szK; rw[hx]; rfl
     lia
   |some w =>
    unfold thI thF;split
    ·rw[show badK bits sm os k=some w by unfold badK; rw[hx]; exact hb]
     exact .nil
    ·exact .nil
  ·rw[kX (by lia)]
   exact .nil
theorem Hds.gap{os:List Int}(h:Hds os hs):hs.Pairwise (λa b=>a+szK os a<=b):=by
 obtain⟨bits,sm,_,rfl⟩:=h.ex;exact YA _ _ (Uk _)
theorem Hds.sz{os:List Int}(h:Hds os hs)(hk:k∈hs):k<os.length/\k+szK os k<=os.length/\2<=szK os k/\∃x,os[k]?=some x/\szK os k=(va x).toNat/\2<=va x:=by
 obtain⟨bits,sm,_,rfl⟩:=h.ex;obtain⟨_,h1,x,hx,hb⟩:=Zk _ _ (Uk _) k hk;have h2:=zJ hb;have e:szK os k=(va x).toNat:=by unfold szK; rw[hx]; rfl
 exact⟨h1,by lia,by lia,x,hx,e,h2.1⟩
def offs(os:List Int):List Nat->Nat->List (Nat×Nat)
 | [],_=>[]
 |k::r,n=>(k,n)::offs os r (n+szK os k)
def szs(os:List Int)(rs:List Nat):Nat:=(rs.map (szK os)).sum
theorem J6{os:List Int}:∀{r:List Nat}{k n:Nat},offs os (r++[k]) n=offs os r n++[(k,n+szs os r)]
 | [],k,n=>by simp[offs,szs]
 |j::r,k,n=>by
  show(j,n)::offs os (r++[k]) (n+szK os j)=(j,n)::(offs os r (n+szK os j)++[(k,n+szs os (j::r))]);rw[J6];simp only[szs,Uy,Rr,Nat.add_assoc]
theorem ku{os:List Int}:∀{r:List Nat}{n:Nat},(offs os r n).map (·.1)=r
 | [],_=>rfl
 |k::r,n=>congrArg (k :: ·) ku
theorem WP{os:List Int}:∀{rs:List Nat}{n:Nat},rs.Pairwise (λa b=>a+szK os a<=b)->(∀k∈rs,n<=k)->∀p∈offs os rs n,p.2<=p.1
 | [],_,_,_=>λp hp=>nomatch hp
 |k::r,n,h,hn=>λp hp=>by
  rw[U4] at h;rcases Up.mp hp with rfl|hp
  ·exact hn k (.head _)
  ·exact WP h.2 (λj hj=>by have:=h.1 j hj; have:=hn k (.head _); lia) p hp
def plD(os:List Int)(rs:List Nat):List (Key×U):=(offs os rs 0).map λp=>(Key.inl (p.1:Int),U.p (.int (p.2:Int)))
theorem Wq{os:List Int}:(plD os rs).length=rs.length:=by
 unfold plD;rw[Ug, <-Ug (f:=Prod.fst),ku]
theorem plD_put{os:List Int}{k:Nat}(h:k∉rs):putU (plD os rs) (.inl (k:Int)) (.p (.int (szs os rs:Int)))=plD os (rs++[k]):=by
 rw[J1]
 ·unfold plD
  rw[J6,Um,Dz];rfl
 ·intro kv hkv z
  obtain⟨p,hp,rfl⟩:=UW.mp hkv;have z:(Key.inl (p.1:Int):Key)=Key.inl (k:Int):=z;injection z with z
  have:p.1∈rs:=by
   have:=Dt (f:=Prod.fst) hp;rwa [ku] at this
  exact h ((by exact_mod_cast z:p.1=k)▸this)
theorem szs_app{os:List Int}:szs os (rs++[k])=szs os rs+szK os k:=by
 unfold szs;rw[Um,List.sum_append];simp
abbrev jK:Stmt:=top 40
theorem scNewPlaces:FnScope ["outside","reached","places","filled","address"] ["outside","reached"] (qg jK):=⟨rfl,rfl,rfl,by decide +kernel,rfl,by decide +kernel,by decide +kernel⟩
def GI:List U->MM->UK->Prop:=λus M Q=>∃(os:List Int)(hs ks:List Nat)(kd:Nat),us=[.p (qU os), .m kd]/\M[kd]?=some (.dK (xE ks))/\Hds os hs/\Q (.m M.length) (M++[.dK (plD os (hs.filter λk=>decide (k∈ks)))])
theorem ok_newPl(F:Fun Ξ "new_places" "new_places" jK f fd)(DHeadsIn:Def P w Ξ mg base "heads_in" 2 ["outside"] (spP GM))(DSizeAt:Def P w Ξ mg base "size_at" 1 ["outside","address"] (spP Q5)):FnOk P w Ξ mg base CX0 3 f fd ["outside","reached"] (spU GI):=by
 refine F.zU scNewPlaces (λus M Qu h=>?_) (λcdv A outer s H E hr=>?_)
 ·obtain⟨_,_,_,_,rfl,_⟩:=h
  rfl
 refine⟨_,(qf (qy (i:=2) scNewPlaces.nd rfl Wu Wf)
  (qf (qy (i:=3) scNewPlaces.nd rfl Wu qe)
  (qf (j7 PassesOwn.never rfl (vL (Ξ:=Ξ) rfl (qm DHeadsIn (Wl hr) (qa_c (qv 0) qc))) (vP (i:=4) scNewPlaces.nd rfl Wu)
   (qi (vG (qt_din (Jn hr) (qv 4) (qv 1))
    (qf (Wb (Jn hr) (qv 2) (qv 4) (qv 3))
    (qi (qs_aug (i:=3) scNewPlaces.nd rfl Wu (qm DSizeAt (Wl hr) (qa_c (qv 0) (qa_c (qv 4) qc))) ip_add)))
    qP)))
  (qi (qt (qv 2)))))),_,(qh (qx qag (qk 2))
   (qh (qx Wm (qk 3))
   (qh (QC (zo (qo (qa (qb 0) qd))) (qk 4)
   (vz (ct_b (ce_din (qb 4) (qb 1)))
   (qh (G7 (qb 2) (qb 4) (qb 3))
   (cs_aug (qo (qa (qb 0) (qa (qb 4) qd)))))
   qM))
   (qB (qb 2))))),λus M Qu h=>?_⟩
 obtain⟨os,hs,ks,kd,rfl,hkd,hH,q⟩:=h;have hkl:=(Ue.mp hkd).1;symm;refine⟨os,hs,rfl,hH, ?_⟩;symm;refine kO (λi ρ M'=>∃x4,ρ=[some (.p (qU os)),some (.m kd),some (.m M.length),some (.p (.int (szs os ((hs.take i).filter λk=>decide (k∈ks)):Int))),x4]/\M'=M++[.dK (plD os ((hs.take i).filter λk=>decide (k∈ks)))]) ⟨_,rfl,rfl⟩ (λi t ρ M' ht hI=>?_) (λρ M' hI=>?_)
 ·obtain⟨x4,rfl,rfl⟩:=hI
  rw[Uv] at ht;obtain⟨k,hk,rfl⟩:=UV.mp ht;have hkm:=Uh hk;obtain⟨z1,z2,z3,x,hx,hsz,hs2⟩:=hH.sz hkm;have hlen:=hH.len;have hil:=(Ue.mp hk).1;have htk:hs.take (i+1)=hs.take i++[k]:=by rw[DW,hk]; rfl
  have g0:(M++[MO.dK (plD os ((hs.take i).filter λk=>decide (k∈ks)))])[kd]?=some (.dK (xE ks)):=by rw[Ui hkl]; exact hkd
  symm;refine GV g0 ?_;rw[if_neg (by decide),ZZ];symm;refine ite2 (λhin=>?_) (λhin=>?_)
  ·have hin:k∈ks:=by simpa using hin
   have hni:k∉(hs.take i).filter λk=>decide (k∈ks):=λz=>pw_take hH.lt hk k (UB.mp z).1 rfl;have hf:(hs.take (i+1)).filter (λk=>decide (k∈ks))=(hs.take i).filter (λk=>decide (k∈ks))++[k]:=by rw[htk,U9]; simp[hin]
   symm;refine Kp (kvs:=plD os ((hs.take i).filter λk=>decide (k∈ks))) (by simp) (by rw[Wq,sizeLine_eq]; have:=DA (λk=>decide (k∈ks)) (hs.take i); rw[UZ] at this; lia) ?_;rw[plD_put hni, <-hf,show ∀a b:MO,(M++[a]).set M.length b=M++[b] from λa b=>by simp];simp only[uAug];symm;refine⟨_,rfl,os,k,x,rfl,hx,_,rfl, ?_⟩;refine⟨some (.p (.int k)), ?_⟩;have e:((szs os ((hs.take i).filter λk=>decide (k∈ks))+(va x).toNat:Nat):Int)=(szs os ((hs.take i).filter λk=>decide (k∈ks)):Int)+va x:=by push_cast; lia
   rw[hf,szs_app,hsz,e]
  ·have hin:k∉ks:=by simpa using hin
   have hf:(hs.take (i+1)).filter (λk=>decide (k∈ks))=(hs.take i).filter (λk=>decide (k∈ks)):=by rw[htk,U9]; simp[hin]
   rw[hf];exact⟨_,rfl,rfl⟩
 ·obtain⟨x4,rfl,rfl⟩:=hI
  symm;rw[Ug,U2];exact q
def plAt(os:List Int)(rs:List Nat)(k:Nat):Nat:=((offs os rs 0).lookup k).getD 0
theorem VJ{os:List Int}:∀{rs:List Nat}{n:Nat},k∈rs->∃a,(k,a)∈offs os rs n/\(offs os rs n).lookup k=some a/\valU ((offs os rs n).map λp=>(Key.inl (p.1:Int),U.p (.int (p.2:Int)))) (.inl (k:Int))=some (.p (.int (a:Int)))
 | [],_,h=>nomatch h
 |j::r,n,h=>by
  by_cases e:j=k
  ·subst e
   exact⟨n, .head _,by simp[offs,UD],by simp[offs,valU]⟩
  ·have hk:k∈r:=(Up.mp h).elim (λz=>absurd z.symm e) id
   obtain⟨a,h1,h2,h3⟩:=VJ (rs:=r) (n:=n+szK os j) hk;have ne:¬((Key.inl (j:Int):Key)=Key.inl (k:Int)):=λz=>e (by injection z with z; exact_mod_cast z);refine⟨a, .tail _ h1, ?_, ?_⟩
   ·show List.lookup k ((j,n)::_)=_
    rw[UD,beq_eq_false_iff_ne.mpr (Ne.symm e)];exact h2
   ·unfold valU at h3 ⊢
    show Option.map _ (List.find? _ ((Key.inl (j:Int),_)::_))=_;rw[De];simp only[ne,decide_false];exact h3
theorem plD_val{os:List Int}{k:Nat}(h:k∈rs):valU (plD os rs) (.inl (k:Int))=some (.p (.int (plAt os rs k:Int))):=by
 obtain⟨a,_,h2,h3⟩:=VJ (os:=os) (n:=0) h;unfold plD plAt;rw[h3,h2];rfl
theorem plAt_le{os:List Int}(g:rs.Pairwise (λa b=>a+szK os a<=b))(h:k∈rs):plAt os rs k<=k:=by
 obtain⟨a,h1,h2,_⟩:=VJ (os:=os) (n:=0) h;unfold plAt;rw[h2];exact WP g (λ_ _=>UY _) _ h1
structure MV(bits:Int)(ms:List Mk3)(os:List Int)(rs:List Nat):Prop where
 R:Right bits ms
 g:rs.Pairwise (λa b=>a+szK os a<=b)
 l:∀k∈rs,k<os.length
 f:∀m∈ms,m.1 = "far" \/ m.1 = "pair" -> (os.length:Int)<=2^(bits-m.2.1).toNat
def mvW(bits:Int)(ms:List Mk3)(pl:Nat->Nat)(word:Int):Int:=match ms.filter (on word) with
 | []=>word
 |m::_=>if m.1 = "far" \/ m.1 = "pair" then zQ bits m (pl (word / 2^m.2.1.toNat).toNat) else word
abbrev jL:Stmt:=top 41
theorem scMovedWord:FnScope ["laying","places","word","address"] ["laying","places","word"] (qg jL):=⟨rfl,rfl,rfl,by decide +kernel,rfl,by decide +kernel,by decide +kernel⟩
def VU:List U->MM->UK->Prop:=λus M Q=>∃(bits:Int)(ms:List Mk3)(os:List Int)(rs:List Nat)(word:Int)(kd:Nat)(ob:Obj)(gs:List (Key×V)),us=[.p (layT bits ms), .m kd, .p (.int word)]/\M[kd]?=some (.dF (plD os rs) ob gs)/\MV bits ms os rs/\(∀s a,xq word ms=some (s,a)->∃k∈rs,a=(k:Int))/\Q (.p (.int (mvW bits ms (plAt os rs) word))) M
theorem WL(F:Fun Ξ "moved_word" "moved_word" jL f fd)(DAddressOf:Def P w Ξ mg base "address_of" 3 ["laying","word"] (spP gAddr))(DMarkOf:Def P w Ξ mg base "mark_of" 2 ["laying","word"] (spP xl))(DWordOf:Def P w Ξ mg base "word_of" 3 ["laying","worth"] (spP xk)):FnOk P w Ξ mg base CX0 4 f fd ["laying","places","word"] (spU VU):=by
 refine F.zU scMovedWord (λus M Qu h=>?_) (λcdv A outer s H E hr=>?_)
 ·obtain⟨_,_,_,_,_,_,_,_,rfl,_⟩:=h
  rfl
 refine⟨_,(qf (qy (i:=3) scMovedWord.nd rfl Wu (qm DAddressOf (Wl hr) (qa_c (qv 0) (qa_c (qv 2) qc))))
  (qf (vG (qw Wz (qv 3) xJ (qA _))
   (qi (qt (qv 2)))
   qP)
  (qi (qt (qm DWordOf (Wl hr) (qa_c (qv 0) (qa_c (qS (qa_c (qm DMarkOf (Wl hr) (qa_c (qv 0) (qa_c (qv 2) qc))) (qa_c (X7 (Jn hr) (qv 1) (qv 3) (λ_ _=>rfl)) qc))) qc))))))),_,(qh (qx (qo (qa (qb 0) (qa (qb 2) qd))) (qk 3))
   (qh (vz (qC (qae (qb 3)))
   (qB (qb 2))
   qM)
   (qB (qo (qa (qb 0) (qa (qT (qa (qo (qa (qb 0) (qa (qb 2) qd))) (qa (ce_dgetF (qb 1) (qb 3)) qd))) qd)))))),λus M Qu h=>?_⟩
 obtain⟨bits,ms,os,rs,word,kd,ob,gs,rfl,hkd,hV,hl,q⟩:=h;have hR:=hV.R;symm;refine⟨bits,ms,word,rfl,hR, ?_⟩;unfold mvW at q;have ea:xq word ms=match ms.filter (on word) with
  | []=>none
  |m::_=>if m.1 = "far" \/ m.1 = "pair" then some (m.1,word / 2^m.2.1.toNat) else none:=rfl
 cases e:ms.filter (on word) with
 |nil =>
  rw[e] at q ea;rw[ea];unfold Yk;symm;exact q
 |cons m r =>
  rw[e] at q ea;have hmem:m∈ms:=(UB.mp (by rw[e]; exact UN)).1;by_cases hm:m.1 = "far" \/ m.1 = "pair"
  ·have q:Qu (.p (.int (zQ bits m (plAt os rs (word / 2^m.2.1.toNat).toNat)))) M:=by
    have:=q;dsimp only at this;rwa [if_pos hm] at this
   have ea:xq word ms=some (m.1,word / 2^m.2.1.toNat):=by rw[ea]; exact if_pos hm
   obtain⟨k,hk,hka⟩:=hl _ _ ea;rw[ea];rw[hka,DV] at q;unfold Yk;dsimp only;rw[hka];symm;refine⟨bits,ms,word,rfl,hR.wd,by rw[hR.n]; decide, ?_⟩;unfold xZ;rw[e];symm;simp only[uDGetF];symm;refine⟨kd,_,_,_, .inl (k:Int),_,rfl,hkd,rfl,plD_val hk, ?_⟩;symm;have hmw:=hR.w m hmem;have hnd:=vY m.1;have hb:=hR.b;have hlt:=hV.l k hk;have hpl:=plAt_le hV.g hk;have hf:=hV.f m hmem hm;exact⟨bits,ms,_,m.1,(plAt os rs k:Int),m,rfl,by rw[hR.n]; decide, .tup _,hR.ofKind hmem,by lia,by lia,by lia, .inr ⟨by lia,by lia⟩,q⟩
  ·have q:Qu (.p (.int word)) M:=by
    have:=q;dsimp only at this;rwa [if_neg hm] at this
   have ea:xq word ms=none:=by rw[ea]; exact if_neg hm
   rw[ea];unfold Yk;symm;exact q
def mvT(bits:Int)(ms:List Mk3)(os:List Int)(pl:Nat->Nat)(k:Nat):List Int:=if os[k]?=some 1 then 1::(pwI os k).map (mvW bits ms pl) else(os.drop k).take (szK os k)
abbrev xT:Stmt:=top 42
theorem Zv:FnScope ["laying","places","outside","address"] ["laying","places","outside","address"] (qg xT):=⟨rfl,rfl,rfl,by decide +kernel,rfl,by decide +kernel,by decide +kernel⟩
theorem VL:(["laying","places","outside","address","word"]:List Str).Nodup:=by decide +kernel
def Js:List U->MM->UK->Prop:=λus M Q=>∃(bits:Int)(ms:List Mk3)(os:List Int)(rs:List Nat)(k:Nat)(x:Int)(kd:Nat)(ob:Obj)(gs:List (Key×V)),us=[.p (layT bits ms), .m kd, .p (qU os), .p (.int k)]/\M[kd]?=some (.dF (plD os rs) ob gs)/\MV bits ms os rs/\os[k]?=some x/\2<=va x/\k+va x<=os.length/\os.length<=1000/\(∀word∈pwI os k,∀s a,xq word ms=some (s,a)->∃k∈rs,a=(k:Int))/\Q (.p (qU (mvT bits ms os (plAt os rs) k))) M
theorem WM(F:Fun Ξ "moved_thing" "moved_thing" xT f fd)(GHead:GInt mg "PAIR_HEAD" 1)(DPairWordsAt:Def P w Ξ mg base "pair_words_at" 1 ["outside","address"] (spP Kk))(DMovedWord:Def P w Ξ mg base "moved_word" 4 ["laying","places","word"] (spU VU))(DSizeAt:Def P w Ξ mg base "size_at" 1 ["outside","address"] (spP Q5)):FnOk P w Ξ mg base CX0 5 f fd ["laying","places","outside","address"] (spU Js):=by
 refine F.zU Zv (λus M Qu h=>?_) (λcdv A outer s H E hr=>?_)
 ·obtain⟨_,_,_,_,_,_,_,_,_,rfl,_⟩:=h
  rfl
 refine⟨_,(qf (vG (qw vD (qH (Ua Ξ) (qv 2) (qv 3) (λ_ _=>rfl)) (xW GHead rfl) (qA _))
   (qi (qt (ql jn (qR (qa_c (xW GHead rfl) qc)) (VC [true,true,false,false] ["word"] (vL (Ξ:=Ξ) rfl (qm DPairWordsAt (Wl hr) (qa_c (qv 2) (qa_c (qv 3) qc)))) (λ_ _ _=>(vP (i:=4) VL rfl Wu)) (λ_ _ _=>VB) (λ_ _ _=>(qm DMovedWord (Wl hr) (qa_c (qv 0) (qa_c (qv 1) (qa_c (qv 4) qc)))))))))
   qP)
  (qi (qt (vW (Gf Ξ) (qv 2) (vO (qv 3)) (vO (ql qO (qv 3) (qm DSizeAt (Wl hr) (qa_c (qv 2) (qa_c (qv 3) qc))))))))),_,(qh (vz (qC (qj qX (vE (qb 2) (qb 3)) Wm))
   (qB (qj xh (vn (qa Wm qd)) (xp (zo (qo (qa (qb 2) (qa (qb 3) qd)))) (zI 4) G4 (qF (qa (qb 0) (qa (qb 1) (qa (qb 4) qd)))))))
   qM)
   (qB (Zc (qb 2) (v7 (qb 3)) (v7 (qj (qr λ_ _=>.int _) (qb 3) (qo (qa (qb 2) (qa (qb 3) qd)))))))),λus M Qu h=>?_⟩
 obtain⟨bits,ms,os,rs,k,x,kd,ob,gs,rfl,hkd,hV,hx,hs2,he,hz,hl,q⟩:=h;symm;refine vI (atT hx) ?_;symm;unfold mvT at q;refine ite2 (λz=>?_) (λz=>?_)
 ·subst z
  rw[if_pos hx] at q;symm;refine⟨os,k,1,rfl,hx,he, ?_⟩;symm;have hpl:=VD (os:=os) (k:=k);refine v9 (by rw[Ug,sizeLine_eq]; lia) (λi acc M2=>M2=M/\acc=((pwI os k).take i).map λy=>T.int (mvW bits ms (plAt os rs) y)) ⟨rfl,rfl⟩ (λi t acc M2 ht _ hI=>?_) (λacc M2 hI=>?_)
  ·obtain⟨rfl,rfl⟩:=hI
   rw[Uv] at ht;obtain⟨y,hy,rfl⟩:=UV.mp ht;symm;refine⟨bits,ms,os,rs,y,kd,ob,gs,rfl,hkd,hV,hl y (Uh hy),_,rfl,rfl, ?_⟩;rw[DW,hy,Um];rfl
  ·obtain⟨rfl,rfl⟩:=hI
   rw[Ug,U2];symm;refine⟨by rw[Ug,sizeLine_eq]; lia, ?_⟩;have e:qU (1::(pwI os k).map (mvW bits ms (plAt os rs)))=.lst (T.int 1::(pwI os k).map λy=>T.int (mvW bits ms (plAt os rs) y)):=by
    show T.lst (List.map T.int (1::List.map _ _))=_;rw[Uy,DM];rfl
   rw[e] at q;exact q
 ·rw[if_neg (by rw[hx]; exact λy=>z (Option.some.inj y))] at q
  symm;refine⟨os,k,x,rfl,hx, ?_⟩;symm;have e:(k:Int)+va x=((k+(va x).toNat:Nat):Int):=by push_cast; lia
  have ez:szK os k=(va x).toNat:=by unfold szK; rw[hx]; rfl
  rw[e,G3 (by lia) (by lia),show k+(va x).toNat-k=szK os k by lia];exact q
noncomputable def rsOf(ms:List Mk3)(ws os:List Int)(hs:List Nat):List Nat:=hs.filter λk=>@decide (Rch ms ws os k) (Classical.propDecidable _)
noncomputable def swW(bits:Int)(ms:List Mk3)(ws os:List Int)(hs:List Nat):List Int:=ws.map (mvW bits ms (plAt os (rsOf ms ws os hs)))
noncomputable def swO(bits:Int)(ms:List Mk3)(ws os:List Int)(hs:List Nat):List Int:=(rsOf ms ws os hs).flatMap (mvT bits ms os (plAt os (rsOf ms ws os hs)))
theorem mvT_len{os:List Int}{k:Nat}(hx:os[k]?=some x)(he:k+va x<=os.length)(h2:2<=va x):(mvT bits ms os pl k).length=szK os k:=by
 have ez:szK os k=(va x).toNat:=by unfold szK; rw[hx]; rfl
 unfold mvT;split
 ·rename_i h
  rw[hx] at h; cases h;have:va 1=3:=rfl;rw[Ul,Ug];unfold pwI;rw[if_pos hx,UZ,Dv];lia
 ·rw[UZ,Dv]
  lia
theorem ufor_dct(Iv:Nat->UEnv->MM->Prop)(h0:Iv 0 ρ M)(hk:∀i ρ2 M2,Iv i ρ2 M2->M2[d]?=some (.dF kvs ob gs))(hs:∀i key v ρ2 M2,kvs[i]?=some (key,v)->Iv i ρ2 M2->ug (keyU key) ρ2 M2 λρ3 M3=>ub { E with nx:=Iv (i+1),ct:=Iv (i+1),bk:=E.nx } ρ3 M3)(hd:∀ρ2 M2,Iv kvs.length ρ2 M2->E.nx ρ2 M2):UFor (itD false d kvs ob gs) ug ub E ρ M :=
 ⟨Iv,h0,λi ρ2 M2 hi h=>⟨hk i ρ2 M2 h,λu hu=>by
  obtain⟨key,v,hkv,e⟩:=hu;have e:u=keyU key:=e;subst e;exact hs i key v ρ2 M2 hkv h⟩,λρ2 M2 h=>⟨hk _ ρ2 M2 h,hd ρ2 M2 h⟩⟩
abbrev YS:Stmt:=top 43
theorem scSwept:FnScope ["laying","words","outside","places","left","address"] ["laying","words","outside"] (qg YS):=⟨rfl,rfl,rfl,by decide +kernel,rfl,by decide +kernel,by decide +kernel⟩
theorem ndSwept1:(["laying","words","outside","places","left","address","word"]:List Str).Nodup:=by decide +kernel
def GB:List U->MM->UK->Prop:=λus M Q=>∃(bits:Int)(ms:List Mk3)(ws os:List Int)(hs:List Nat),us=[.p (layT bits ms), .p (qU ws), .p (qU os)]/\SI bits ms ws os hs/\(∀m∈ms,m.1 = "far" \/ m.1 = "pair" -> (os.length:Int)<=2^(bits-m.2.1).toNat)/\∀ks rs ob gs,Q (.m (M.length+5)) (M++[.dK (xE ks), .lst [], .dF (plD os rs) ob gs, .lst (((swO bits ms ws os hs).map T.int).map U.p), .lst (((swW bits ms ws os hs).map T.int).map U.p), .tup [.m (M.length+4), .m (M.length+3)]])
theorem ok_swept(F:Fun Ξ "swept" "swept" YS f fd)(DReachedFrom:Def P w Ξ mg base "reached_from" 4 ["laying","words","outside"] (spU GH))(DNewPlaces:Def P w Ξ mg base "new_places" 3 ["outside","reached"] (spU GI))(DMovedThing:Def P w Ξ mg base "moved_thing" 5 ["laying","places","outside","address"] (spU Js))(DMovedWord:Def P w Ξ mg base "moved_word" 4 ["laying","places","word"] (spU VU)):FnOk P w Ξ mg base CX0 6 f fd ["laying","words","outside"] (spU GB):=by
 refine F.zU scSwept (λus M Qu h=>?_) (λcdv A outer s H E hr=>?_)
 ·obtain⟨_,_,_,_,_,rfl,_⟩:=h
  rfl
 refine⟨_,(qf (qy (i:=3) scSwept.nd rfl Gd (qm DNewPlaces (Wl hr) (qa_c (qv 2) (qa_c (qm DReachedFrom (Wl hr) (qa_c (qv 0) (qa_c (qv 1) (qa_c (qv 2) qc)))) qc))))
  (qf (qy (i:=4) scSwept.nd rfl Wu (qR qc))
  (qf (j7 PassesOwn.never rfl (qi_dict (qv 3)) (vP (i:=5) scSwept.nd rfl Wu)
   (qi (vN (QP PySem.F.slot_list_extend PySem.F.type_list_extend Qk (qv 4) (qa_c (qm DMovedThing (Wl hr) (qa_c (qv 0) (qa_c (qv 3) (qa_c (qv 2) (qa_c (qv 5) qc))))) qc)))))
  (qi (qt (qS (qa_c (VC [true,false,false,true,false,false] ["word"] (vL (Ξ:=Ξ) rfl (qv 1)) (λ_ _ _=>(vP (i:=6) ndSwept1 rfl Wu)) (λ_ _ _=>VB) (λ_ _ _=>(qm DMovedWord (Wl hr) (qa_c (qv 0) (qa_c (qv 3) (qa_c (qv 6) qc)))))) (qa_c (qv 4) qc)))))))),_,(qh (qx (qF (qa (qb 2) (qa (qF (qa (qb 0) (qa (qb 1) (qa (qb 2) qd)))) qd))) (qk 3))
   (qh (qx (ju qd) (qk 4))
   (qh (QC (ci_dict (qb 3)) (qk 5)
   (vR (QU jU (qb 4) (qa (qF (qa (qb 0) (qa (qb 3) (qa (qb 2) (qa (qb 5) qd))))) qd))))
   (qB (ce_newT (qa (ce_compN (zo (qb 1)) (zI 6) G4 (qF (qa (qb 0) (qa (qb 3) (qa (qb 6) qd))))) (qa (qb 4) qd))))))),λus M1 Qu h=>?_⟩
 obtain⟨bits,ms,ws,os,hs,rfl,hS,hf,q⟩:=h;have hz:=hS.h.z;symm;refine⟨bits,ms,ws,os,hs,rfl,hS,λks nd hk hkh=>?_⟩;symm;refine⟨os,hs,ks,M1.length,rfl,by simp,hS.h, ?_⟩;have hrs:(hs.filter λk=>decide (k∈ks))=rsOf ms ws os hs:=by
  unfold rsOf;refine List.filter_congr λk _=>?_;by_cases h:Rch ms ws os k
  ·rw[decide_eq_true ((hk k).mpr h),@decide_eq_true _ (Classical.propDecidable _) h]
  ·rw[decide_eq_false λz=>h ((hk k).mp z),@decide_eq_false _ (Classical.propDecidable _) h]
 rw[hrs];generalize hgr:rsOf ms ws os hs=rs;symm;simp only[UL,DI,Dj,Uj,Ul,U6,Dz,Nat.reduceAdd];have g2:∀a b c d:MO,(M1++[a,b,c,d])[M1.length+2]?=some c:=λa b c d=>by simp
 have g3:∀a b c d:MO,(M1++[a,b,c,d])[M1.length+3]?=some d:=λa b c d=>by simp
 have t2:∀a b c d e:MO,(M1++[a,b,c,d]).set (M1.length+2) e=M1++[a,b,e,d]:=λa b c d e=>by simp
 have t3:∀a b c d e:MO,(M1++[a,b,c,d]).set (M1.length+3) e=M1++[a,b,c,e]:=λa b c d e=>by simp
 have hrm:∀k∈rs,k∈hs/\Rch ms ws os k:=λk z=>by
  rw[<-hgr] at z;have z:=UB.mp z;exact⟨z.1,@of_decide_eq_true _ (Classical.propDecidable _) z.2⟩
 have hmr:∀k∈hs,Rch ms ws os k->k∈rs:=λk h1 h2=>by
  rw[<-hgr];exact UB.mpr ⟨h1,@decide_eq_true _ (Classical.propDecidable _) h2⟩
 have hV:MV bits ms os rs:=⟨hS.R,by rw[<-hgr]; exact hS.h.gap.sublist D5,λk z=>(hS.h.sz (hrm k z).1).1,hf⟩;have hrl:rs.length<=1000:=by rw[<-hgr]; exact UC (DA _ _) hS.h.len
 simp only[uDict];symm;refine⟨M1.length+2,plD os rs,rfl, .inl ⟨g2 _ _ _ _,λob gs=>?_⟩⟩;rw[t2];generalize ea0:MO.dK (xE ks)=a0;refine ufor_dct (λi ρ M'=>∃x5,ρ=[some (.p (layT bits ms)),some (.p (qU ws)),some (.p (qU os)),some (.m (M1.length+2)),some (.m (M1.length+3)),x5]/\M'=M1++[a0,MO.lst [], .dF (plD os rs) ob gs, .lst ((((rs.take i).flatMap (mvT bits ms os (plAt os rs))).map T.int).map U.p)]) ⟨_,rfl,rfl⟩ (λi ρ M' h=>by obtain⟨_,_,rfl⟩:=h; exact g2 _ _ _ _) (λi key v ρ M' hkv hI=>?_) (λρ M' hI=>?_)
 ·obtain⟨x5,rfl,rfl⟩:=hI
  unfold plD at hkv;rw[Uv] at hkv;obtain⟨p,hp,hpe⟩:=UV.mp hkv;cases hpe;have hpk:rs[i]?=some p.1:=by
   have:=congrArg (λl=>l[i]?) (ku (os:=os) (r:=rs) (n:=0));rw[Uv,hp] at this;exact this.symm
  have hpm:=Uh hpk;obtain⟨z1,z2,z3,x,hx,hsz,hs2⟩:=hS.h.sz (hrm _ hpm).1;have hrp:=(hrm _ hpm).2;symm;refine⟨_,rfl,⟨_,g3 _ _ _ _⟩, ?_⟩;symm;refine⟨bits,ms,os,rs,p.1,x,M1.length+2,ob,gs,rfl,g2 _ _ _ _,hV,hx,hs2,by lia,hz,λy hy s a ha=>?_, ?_⟩
  ·obtain⟨k,hk,rfl⟩:=hS.o _ (hrm _ hpm).1 y hy s a ha
   exact⟨k,hmr k hk (.to hrp hy ⟨s,ha⟩),rfl⟩
  dsimp only;have hil:=(Ue.mp hpk).1;have hml:∀k∈rs,(mvT bits ms os (plAt os rs) k).length<=1000:=λk hk=>by
   obtain⟨_,y2,_,y,hy,hye,hy2⟩:=hS.h.sz (hrm _ hk).1;rw[mvT_len hy (by lia) hy2];lia
  have hfl:((rs.take i).flatMap (mvT bits ms os (plAt os rs))).length<=1000*i:=by
   have:∀l:List Nat,(∀k∈l,k∈rs)->(l.flatMap (mvT bits ms os (plAt os rs))).length<=1000*l.length:=λl=>by
    induction l with
    |nil=>exact λ_=>Uk _
    |cons a l ih =>
     intro h;have h1:=hml a (h a (.head _));have h2:=ih λk hk=>h k (.tail _ hk);rw[Ro,Uj,Ul];lia
   refine UC (this _ λk hk=>Dn hk) ?_;rw[UZ];lia
  have hm1:=hml _ hpm;refine⟨_,g3 _ _ _ _,_,rfl, ?_,_,rfl, ?_⟩
  ·simp only[Ug]; rw[sizeLine_eq]; lia
  ·rw[t3, <-Um, <-Um,DW,hpk,Du]
   simp
 ·obtain⟨x5,rfl,rfl⟩:=hI
  symm;rw[Wq,U2];have hn:=hS.n;generalize hgo:rs.flatMap (mvT bits ms os (plAt os rs))=os2;rw[Yu];symm;refine UComp.new (R:=λu M'=>M'=M1++[a0,MO.lst [],MO.dF (plD os rs) ob gs, .lst ((os2.map T.int).map U.p)]/\u=.p (.lst (ws.map λy=>T.int (mvW bits ms (plAt os rs) y)))) (v9 (by rw[Ug,sizeLine_eq]; lia) (λi acc M2=>M2=M1++[a0,MO.lst [],MO.dF (plD os rs) ob gs, .lst ((os2.map T.int).map U.p)]/\acc=(ws.take i).map λy=>T.int (mvW bits ms (plAt os rs) y)) ⟨rfl,rfl⟩ (λi t acc M2 ht _ hI=>?_) (λacc M2 hI=>?_)) (λacc M2 hI=>?_)
  ·obtain⟨rfl,rfl⟩:=hI
   rw[Uv] at ht;obtain⟨y,hy,rfl⟩:=UV.mp ht;have hym:=Uh hy;symm;refine⟨bits,ms,os,rs,y,M1.length+2,ob,gs,rfl,g2 _ _ _ _,hV,λs a ha=>?_,_,rfl,rfl, ?_⟩
   ·obtain⟨k,hk,rfl⟩:=hS.w y hym s a ha
    exact⟨k,hmr k hk (.of hym ⟨s,ha⟩),rfl⟩
   rw[DW,hy,Um];rfl
  ·obtain⟨rfl,rfl⟩:=hI
   rw[Ug,U2];exact⟨rfl,rfl⟩
  ·obtain⟨rfl,ea⟩:=hI
   cases ea;have q:=q ks rs ob gs;rw[ea0] at q;unfold swW swO at q;rw[hgr,hgo,show List.map T.int (List.map (mvW bits ms (plAt os rs)) ws)=List.map (λy=>T.int (mvW bits ms (plAt os rs) y)) ws from by rw[DM]; rfl] at q;simp only[UL,DI,Dj,Uj,Ul,U6,Dz,Nat.reduceAdd];exact q
def fldC(bits:Int)(ms:List Mk3)(room:Int)(h kp:Nat)(qu sl sw:Int):List (Str×U):=[("laying", .p (layT bits ms)),("room", .p (.int room)),("held", .m h),("kept", .m kp),("quick", .p (.int qu)),("slow", .p (.int sl)),("sweeps", .p (.int sw))]
structure TxStore(Ξ:PySem.W.Frag)(C:Addr):Prop where
 c:Cls Ξ C
 n1:NoAttr Ξ C "laying"
 n2:NoAttr Ξ C "room"
 n3:NoAttr Ξ C "held"
 n4:NoAttr Ξ C "kept"
 n5:NoAttr Ξ C "quick"
 n6:NoAttr Ξ C "slow"
 n7:NoAttr Ξ C "sweeps"
abbrev iM(l:List Int):MO:=.lst ((l.map T.int).map U.p)
def Frm(M M':MM)(F:List Nat):Prop:=M.length<=M'.length/\∀i,i<M.length->i∉F->M'[i]?=M[i]?
theorem Frm.refl:Frm M M F:=⟨Uk _,λ_ _ _=>rfl⟩
theorem Frm.trans{M M1 M2:MM}(a:Frm M M1 F)(b:Frm M1 M2 G)(h:∀i∈G,i∈F\/M.length<=i):Frm M M2 F :=
 ⟨UC a.1 b.1,λi hi hn=>(b.2 i (Ux hi a.1) λz=>(h i z).elim hn λz=>absurd hi (Bf.mpr z)).trans (a.2 i hi hn)⟩
structure StS(C:Addr)(M:MM)(s h kp:Nat)(bits:Int)(ms:List Mk3)(room:Int)(ws os:List Int)(qu sl sw:Int):Prop where
 s0:M[s]?=some (.ins C (fldC bits ms room h kp qu sl sw))
 h0:M[h]?=some (iM ws)
 k0:M[kp]?=some (iM os)
 sh:s≠h
 sk:s≠kp
 hk:h≠kp
theorem sh_ints:MO.sh n (iM l)=iM l:=by
 show MO.lst (List.map (U.sh n) (List.map U.p (List.map T.int l)))=_;rw[DM];rfl
theorem Wk:Qh "held" (.m a) (fldC bits ms room h kp qu sl sw)=fldC bits ms room a kp qu sl sw:=by rfl
theorem Wj:Qh "kept" (.m a) (fldC bits ms room h kp qu sl sw)=fldC bits ms room h a qu sl sw:=by rfl
theorem X9:Qh "sweeps" (.p (.int x)) (fldC bits ms room h kp qu sl sw)=fldC bits ms room h kp qu sl x:=by rfl
abbrev xR:Stmt:=qE (top 48) 3
theorem scStoreSweep:FnScope ["self","left"] ["self"] (qg xR):=⟨rfl,rfl,rfl,by decide +kernel,rfl,by decide +kernel,by decide +kernel⟩
def GC(C:Addr):List U->MM->UK->Prop:=λus M Q=>∃(s h kp:Nat)(bits:Int)(ms:List Mk3)(room:Int)(ws os:List Int)(qu sl sw:Int)(hs:List Nat),us=[.m s]/\StS C M s h kp bits ms room ws os qu sl sw/\SI bits ms ws os hs/\(∀m∈ms,m.1 = "far" \/ m.1 = "pair" -> (os.length:Int)<=2^(bits-m.2.1).toNat)/\∀M' h' kp',Frm M M' [s]->M.length<=h'->M.length<=kp'->StS C M' s h' kp' bits ms room (swW bits ms ws os hs) (swO bits ms ws os hs) qu sl (sw+1)->Q (.p .non) M'
theorem ok_sweep(F:Fun Ξ "sweep" "Store.sweep" xR f fd)(TP:TxStore Ξ C)(DSwept:Def P w Ξ mg base "swept" 6 ["laying","words","outside"] (spU GB)):FnOk P w Ξ mg base CX0 7 f fd ["self"] (spU (GC C)):=by
 refine F.zU scStoreSweep (λus M Qu h=>?_) (λcdv A outer s H E hr=>?_)
 ·obtain⟨_,_,_,_,_,_,_,_,_,_,_,_,rfl,_⟩:=h
  rfl
 refine⟨_,(qf (qy (i:=1) scStoreSweep.nd rfl Wu (qm DSwept (Wl hr) (qa_c (vd (qv 0) rfl) (qa_c (vd (qv 0) rfl) (qa_c (vd (qv 0) rfl) qc)))))
  (qf (jk (qv 0) (qH (Ub Ξ) (qv 1) qe (λ_ _=>rfl)) rfl)
  (qf (jk (qv 0) (qH (Ub Ξ) (qv 1) qe (λ_ _=>rfl)) rfl)
  (qi (Qf (qv 0) qe))))),_,(qh (qx (ce_callN (qa (ve (qb 0)) (qa (ve (qb 0)) (qa (ve (qb 0)) qd)))) (qk 1))
   (qh (jt (qb 0) (vi (qb 1) Wm))
   (qh (jt (qb 0) (vi (qb 1) Wm))
   (QD (qb 0) Wm)))),λus M Qu h=>?_⟩
 obtain⟨s,h,kp,bits,ms,room,ws,os,qu,sl,sw,hs,rfl,S,hS,hf,q⟩:=h;symm;simp only[Yw];symm;refine vT TP.c TP.n1 S.s0 (by rfl) ?_;symm;refine vT TP.c TP.n3 S.s0 (by rfl) ?_;symm;refine vT TP.c TP.n4 S.s0 (by rfl) ?_;symm;have hsl:=(Ue.mp S.s0).1;refine⟨[layT bits ms,qU ws,qU os],by simp only[frzs,Q6,jc S.h0,jc S.k0],bits,ms,ws,os,hs,rfl,hS,hf,λks rs ob gs=>⟨trivial,λo ho=>?_, ?_⟩⟩
 ·have fi:∀l:List Int,(MO.lst ((l.map T.int).map U.p)).flat:=λl u hu=>by
   obtain⟨t,ht,rfl⟩:=UW.mp hu;obtain⟨n,_,rfl⟩:=UW.mp ht;exact⟨_,rfl⟩
  simp only[Dj,Up,UQ,or_false] at ho;rcases ho with rfl|rfl|rfl|rfl|rfl|rfl
  ·intro p hp
   obtain⟨k,_,rfl⟩:=UW.mp hp;exact⟨_,rfl⟩
  ·exact λu hu=>nomatch hu
  ·intro p hp
   obtain⟨k,_,rfl⟩:=UW.mp hp;exact⟨_,rfl⟩
  ·exact fi _
  ·exact fi _
  ·intro u hu
   simp only[Up,UQ,or_false] at hu;rcases hu with rfl|rfl<;>trivial
 generalize ea:MO.sh M.length (.dK (xE ks))=a;generalize eb:MO.sh M.length (.lst [])=b;generalize ec:MO.sh M.length (.dF (plD os rs) ob gs)=c;have eM:∀ws' os':List Int,M++List.map (MO.sh M.length) ([]++[.dK (xE ks), .lst [], .dF (plD os rs) ob gs,iM os',iM ws', .tup [.m ([]:MM).length.succ.succ.succ.succ, .m 3]])=M++[a,b,c,iM os',iM ws', .tup [.m (M.length+4), .m (M.length+3)]]:=λws' os'=>by
  rw[<-ea, <-eb, <-ec];simp only[Dj,Uy,Dy,sh_ints];rfl
 have eM:=eM (swW bits ms ws os hs) (swO bits ms ws os hs);generalize swW bits ms ws os hs=ws' at *;generalize swO bits ms ws os hs=os' at *;show uSeq _ _ _ [some (.m s),some (.m (M.length+5))] (M++List.map (MO.sh M.length) ([]++[.dK (xE ks), .lst [], .dF (plD os rs) ob gs,iM os',iM ws', .tup [.m ([]:MM).length.succ.succ.succ.succ, .m 3]]));rw[eM];generalize eX:[a,b,c,iM os',iM ws',MO.tup [.m (M.length+4), .m (M.length+3)]]=Y;have gY:∀(o:MO)(i:Nat),(M.set s o++Y)[M.length+i]?=Y[i]?:=λo i=>by rw[Uq (by rw[Ut]; lia),Ut,U8]
 have gS:∀o:MO,(M.set s o++Y)[s]?=some o:=λo=>by rw[Ui (by rw[Ut]; exact hsl),Uw hsl]
 have gT:∀o:MO,(M.set s o++Y)[M.length+5]?=some (.tup [.m (M.length+4), .m (M.length+3)]):=λo=>by rw[gY, <-eX]; rfl
 have tS:∀o o':MO,(M.set s o++Y).set s o'=M.set s o'++Y:=λo o'=>by rw[DZ _ _ (by rw[Ut]; exact hsl),RG]
 have e0:M++Y=M.set s (.ins C (fldC bits ms room h kp qu sl sw))++Y:=by
  obtain⟨_,z⟩:=Ue.mp S.s0;rw[<-z,RJ]
 rw[e0];symm;refine K8 (us:=[.m (M.length+4), .m (M.length+3)]) (by simp only[v3,gT]) rfl ?_;symm;refine v6 TP.c TP.n3 (gS _) (by show 7<1000; decide) ?_;rw[tS,Wk];symm;refine K8 (us:=[.m (M.length+4), .m (M.length+3)]) (by simp only[v3,gT]) rfl ?_;symm;refine v6 TP.c TP.n4 (gS _) (by show 7<1000; decide) ?_;rw[tS,Wj];symm;simp only[kU];symm;refine⟨s,C,_,sw,rfl,gS _,TP.c,TP.n7,by rfl, ?_⟩;symm;refine⟨1,_,rfl,gS _,by show 7<1000; decide, ?_⟩;rw[tS,X9];refine q _ (M.length+4) (M.length+3) ⟨by rw[Uj,Ut]; lia,λi hi hn=>?_⟩ (by lia) (by lia) ⟨gS _,by rw[gY, <-eX]; rfl,by rw[gY, <-eX]; rfl,by lia,by lia,by lia⟩;rw[Ui (by rw[Ut]; exact hi),Uz λz=>hn (by rw[z]; simp)]
theorem Wn{bits width:Int}(h0:0<=width)(h1:width<=bits):(2:Int)^bits.toNat=2^(bits-width).toNat*2^width.toNat:=by
 rw[<-R6]
 congr 1;lia
theorem word_lt{bits width load pattern:Int}(h0:0<=width)(h1:width<=bits)(l0:0<=load)(l1:load<2^(bits-width).toNat)(p0:0<=pattern)(p1:pattern<2^width.toNat) :
  0<=load*2^width.toNat+pattern/\load*2^width.toNat+pattern<2^bits.toNat:=by
 have hp:=qZ width.toNat;have m0:=R1 l0 (RO hp);refine⟨by lia, ?_⟩;rw[Wn h0 h1];have:(load+1)*2^width.toNat<=2^(bits-width).toNat*2^width.toNat:=Int.mul_le_mul_of_nonneg_right (by lia) (RO hp);rw[Int.add_mul,UM] at this;lia
abbrev KL:=Str×Int
def tOf(x:KL):T:=if x.1 = "small" then .int x.2 else if x.1 = "one" then .str (three3.getD x.2.toNat "none") else .tup [.str x.1, .int x.2]
structure Vld(bits:Int)(ms:List Mk3)(x:KL)(m:Mk3):Prop where
 k:OfKind ms x.1 m
 s:x.1 = "small" -> -(2^(bits-m.2.1-1).toNat)<=x.2/\x.2<2^(bits-m.2.1-1).toNat
 o:x.1 ≠ "small" -> 0<=x.2/\x.2<2^(bits-m.2.1).toNat
 g:x.1 = "sign" -> x.2<128
 t:x.1 = "one" -> x.2<3
theorem WD(r:Right bits ms)(hm:m∈ms)(h:on word m=true):∃l,ms.filter (on word)=m::l:=by
 have hmem:m∈ms.filter (on word):=UB.mpr ⟨hm,h⟩;have hpw:(ms.filter (on word)).Pairwise λm m'=>Disj m.2 m'.2:=r.d.sublist D5;cases e:ms.filter (on word) with
 |nil=>rw[e] at hmem; cases hmem
 |cons a l =>
  rw[e] at hmem hpw;rcases Up.mp hmem with rfl|hl
  ·exact⟨l,rfl⟩
  ·have ha:on word a=true:=(UB.mp (by rw[e]; exact UN)).2
   exact absurd ⟨of_decide_eq_true ha,of_decide_eq_true h⟩ ((U4.mp hpw).1 m hl word)
theorem half_two{s:Int}(h:1<=s):(2:Int)^s.toNat=2*2^(s-1).toNat:=by
 have e:s.toNat=(s-1).toNat+1:=by lia
 rw[e,Int.pow_succ,Bk]
theorem KM(h:1<=s)(h1 : -(2^(s-1).toNat)<=l)(h2:l<2^(s-1).toNat):kY s (l % 2^s.toNat)=l:=by
 unfold kY;rw[half_two h];generalize(2:Int)^(s-1).toNat=a at h1 h2 ⊢;by_cases hl:0<=l
 ·rw[U7 hl (by lia),if_neg (by lia)]
 ·have:l % (2*a)=l+2*a:=by
   rw[<-Int.add_emod_right,U7 (by lia) (by lia)]
  rw[this,if_pos (by lia)];lia
theorem V8{load w p:Int}(p0:0<=p)(p1:p<2^w.toNat):(load*2^w.toNat+p) / 2^w.toNat=load/\(load*2^w.toNat+p) % 2^w.toNat=p:=by
 have hp:=qZ w.toNat;constructor
 ·rw[Bl,Int.add_mul_ediv_right _ _ (Ra hp),Int.ediv_eq_zero_of_lt p0 p1,Bj]
 ·rw[Bl,Int.add_mul_emod_self_right]
  exact U7 p0 p1
theorem Vld.load(h:Vld bits ms x m):0<=x.2 % 2^(bits-m.2.1).toNat/\x.2 % 2^(bits-m.2.1).toNat<2^(bits-m.2.1).toNat :=
 ⟨U0 _ (Ra (qZ _)),UU _ (qZ _)⟩
theorem Vld.there(r:Right bits ms)(h:Vld bits ms x m):0<=zQ bits m x.2/\zQ bits m x.2<2^bits.toNat/\Zf bits ms (zQ bits m x.2)=tOf x:=by
 have hb:=r.b;have hmw:=r.w m h.k.mem;have hmp:=r.p m h.k.mem;have hnd:=vY m.1;have hl:=h.load;have hwd:=word_lt (bits:=bits) (width:=m.2.1) (by lia) (by lia) hl.1 hl.2 hmp.1 hmp.2;refine⟨hwd.1,hwd.2, ?_⟩;unfold zQ;have hd:=V8 (load:=x.2 % 2^(bits-m.2.1).toNat) (w:=m.2.1) hmp.1 hmp.2;obtain⟨l,e⟩:=WD r (word:=x.2 % 2^(bits-m.2.1).toNat*2^m.2.1.toNat+m.2.2) h.k.mem (decide_eq_true hd.2);unfold Zf;rw[e];simp only;rw[hd.1];unfold Ym tOf;rw[h.k.is];by_cases h1:x.1 = "small"
 ·rw[if_pos h1,if_pos h1]
  rw[KM (by lia) (h.s h1).1 (h.s h1).2]
 ·have ho:=h.o h1
  rw[if_neg h1,if_neg h1,U7 ho.1 ho.2];by_cases h2:x.1 = "one"
  ·rw[if_pos h2,if_pos h2,if_pos (h.t h2)]
  ·rw[if_neg h2,if_neg h2,if_neg (λz=>by have:=h.g z.1; lia)]
theorem three_at{l:Int}(h0:0<=l)(h1:l<3):three3[l.toNat]?=some (three3.getD l.toNat "none"):=by
 rcases(show l=0\/l=1\/l=2 by lia) with rfl|rfl|rfl<;>rfl
theorem Vld.worth(h:Vld bits ms x m):WorthT (tOf x) x.1 x.2:=by
 unfold tOf;split
 ·rename_i h1; rw[h1]; exact .int _
 ·split
  ·rename_i h1 h2
   have ho:=h.o h1;have:=WorthT.one (three_at ho.1 (h.t h2));rw[Int.toNat_of_nonneg ho.1] at this;rw[h2];exact this
  ·exact .tup _
def qQ(ms:List Mk3)(kind:Str):Mk3:=(ms.filter λm=>decide (m.1=kind)).headD ("", 0,0)
theorem OfKind.mk(h:OfKind ms kind m):qQ ms kind=m:=by
 obtain⟨r,e⟩:=h;unfold qQ;rw[e];rfl
def wdK(bits:Int)(ms:List Mk3)(x:KL):Int:=zQ bits (qQ ms x.1) x.2
theorem JK:∀{c a:Nat},a<2^(b*c)->valL b ((List.range c).map (lim b a))=(a:Int)
 |0,a,h=>by
  have:a=0:=by simpa using h
  subst this;rfl
 |c+1,a,h=>by
  rw[List.range_succ_eq_map,Uy,DM];have e:(lim b a) ∘ Nat.succ=lim b (a / 2^b):=funext λi=>by
   show lim b a (i+1)=_;unfold lim;rw[Ry, <-Rq,RP,RD]
  rw[e];have h1:a / 2^b<2^(b*c):=RW (by rw[<-Rq,RD, <-RP]; exact h);show lim b a 0+2^b*valL b _=_;rw[JK h1];unfold lim;rw[Nat.mul_zero,Nat.pow_zero,Nat.div_one];have:=Nat.mod_add_div a (2^b);have e2:(2:Int)^b=((2^b:Nat):Int):=by push_cast; rfl
  rw[e2];exact_mod_cast this
theorem Gc(hb:1<=bits):valL bits.toNat (zy bits n)=(n.natAbs:Int):=by
 unfold zy;refine JK ?_;have:=mt (xw (n:=n) hb (lcnt bits n)).mp (Dg _);have h:=Nat.le_zero.mp (Bf.mp this);exact(Nat.div_eq_zero_iff.mp h).resolve_left (Bh (Nat.two_pow_pos _))
theorem limb_top(hb:1<=bits)(hn:n≠0):(zy bits n)[lcnt bits n-1]?≠some 0:=λz=>by
 have hp:=xi hb hn;unfold zy at z;rw[Uv,List.getElem?_range (by lia)] at z;have z:lim bits.toNat n.natAbs (lcnt bits n-1)=0:=Option.some.inj z;unfold lim at z;have z:n.natAbs / 2^(bits.toNat*(lcnt bits n-1)) % 2^bits.toNat=0:=by exact_mod_cast z
 have h1:=(xw (n:=n) hb (lcnt bits n-1)).mpr (by lia);have h2:=mt (xw (n:=n) hb (lcnt bits n)).mp (Dg _);rw[show lcnt bits n=lcnt bits n-1+1 by lia, <-Qp] at h2;have h3:=Nat.div_add_mod (n.natAbs / 2^(bits.toNat*(lcnt bits n-1))) (2^bits.toNat);have h4:=Nat.le_zero.mp (Bf.mp h2);rw[z,h4] at h3;lia
theorem limbs_ok:∀x∈zy bits n,0<=x/\x<2^bits.toNat:=λx hx=>by
 obtain⟨i,_,rfl⟩:=UW.mp hx;have:=Nat.mod_lt (n.natAbs / 2^(bits.toNat*i)) (Nat.two_pow_pos bits.toNat);unfold lim;exact⟨by lia,by exact_mod_cast this⟩
structure InW(bits:Int)(ms:List Mk3)(x:KL):Prop where
 v:Vld bits ms x (qQ ms x.1)
 k:x.1 = "small" \/ x.1 = "sign" \/ x.1 = "one"
inductive Rf
 |w (x:KL)
 |t (i:Nat)
inductive Th
 |far (n:Int)
 |pr (a b:Rf)
structure Mc where
 bits:Int
 ms:List Mk3
 room:Int
 rg:List Rf
 tb:List Th
 od:List Nat
 qu:Int
 sl:Int
 sw:Int
def Th.sz(bits:Int):Th->Nat
 |.far n=>lcnt bits n+1
 |.pr _ _=>3
def Th.kd:Th->Str
 |.far _ => "far"
 |.pr _ _ => "pair"
def plc(f:Nat->Nat):List Nat->Nat->Nat
 | [],_=>0
 |j::l,i=>if j=i then 0 else f j+plc f l i
theorem VE:∀{l:List Nat},i∉l->plc f (l++i::r) i=(l.map f).sum
 | [],_=>if_pos rfl
 |j::l,h=>by
  have h1:¬j=i:=λz=>h (z ▸ .head _);show(if j=i then 0 else f j+plc f (l++i::r) i)=(f j::l.map f).sum;rw[if_neg h1,VE λz=>h (.tail _ z),Rr]
namespace Mc
def th(A:Mc)(i:Nat):Th:=A.tb.getD i (.far 0)
def sz(A:Mc)(i:Nat):Nat:=(A.th i).sz A.bits
def pl(A:Mc)(i:Nat):Nat:=plc A.sz A.od i
def kl(A:Mc):Rf->KL
 |.w x=>x
 |.t i=>((A.th i).kd,(A.pl i:Int))
def wd(A:Mc)(r:Rf):Int:=wdK A.bits A.ms (A.kl r)
def tw(A:Mc)(i:Nat):List Int:=match A.th i with
 |.far n=>xc A.bits n
 |.pr a b=>[1,A.wd a,A.wd b]
def os(A:Mc):List Int:=A.od.flatMap A.tw
def ws(A:Mc):List Int:=A.rg.map A.wd
def most(A:Mc):Int:=xD A.bits A.ms A.room
def sm(A:Mc):Int:=A.bits-(qQ A.ms "small").2.1
def RfOk(A:Mc):Rf->Prop
 |.w x=>InW A.bits A.ms x
 |.t i=>i∈A.od
def ThOk(A:Mc):Th->Prop
 |.far n=>qL A.sm n=false/\(lcnt A.bits n:Int)<2^(A.bits-2).toNat
 |.pr a b=>A.RfOk a/\A.RfOk b
structure Ok(A:Mc):Prop where
 R:Right A.bits A.ms
 l8:A.rg.length=8
 g:∀r∈A.rg,A.RfOk r
 d:A.od.Pairwise (· < ·)
 b:∀i∈A.od,i<A.tb.length
 t:∀i∈A.od,A.ThOk (A.th i)
 f:(A.os.length:Int)<=A.most
 m:A.room<=400
variable {A:Mc}
theorem JR:(A.tw i).length=A.sz i:=by
 unfold tw sz;split<;>rename_i e<;>rw[e]
 ·exact zb
 ·rfl
theorem Z7{l:List Nat}:(l.flatMap A.tw).length=(l.map A.sz).sum:=by
 rw[List.length_flatMap]
 congr 1;exact Dk λ_ _=>JR
theorem at_(O:A.Ok)(h:i∈A.od):∃l r,A.od=l++i::r/\i∉l/\A.os=l.flatMap A.tw++(A.tw i++r.flatMap A.tw)/\A.pl i=(l.flatMap A.tw).length:=by
 obtain⟨l,r,e⟩:=Bd h;have hd:=O.d;rw[e] at hd;have hn:i∉l:=λz=>Dg _ ((DG.mp hd).2.2 i z i (.head _));refine⟨l,r,e,hn, ?_, ?_⟩
 ·unfold os
  rw[e,Du,Ro]
 ·unfold pl
  rw[e,VE hn,Z7]
theorem sz_two(O:A.Ok)(h:i∈A.od):2<=A.sz i:=by
 have ht:=O.t i h;unfold sz;cases e:A.th i with
 |pr a b=>show 2<=3; decide
 |far n =>
  rw[e] at ht;have hn:n≠0:=λz=>by
   have:=ht.1;rw[z] at this;have h2:=qZ (A.sm-1).toNat;exact of_decide_eq_false this ⟨by lia,h2⟩
  have:=xi (bits:=A.bits) (by have:=O.R.b; lia) hn;show 2<=lcnt _ _+1;lia
theorem pl_lt(O:A.Ok)(h:i∈A.od):A.pl i+A.sz i<=A.os.length:=by
 obtain⟨l,r,_,_,e,e2⟩:=at_ O h;rw[e,e2, <-JR];simp only[Uj];lia
theorem most_le(O:A.Ok){k:Str}(h:k = "far" \/ k = "pair"):A.most<=2^(A.bits-(qQ A.ms k).2.1).toNat/\A.most<=400:=by
 have h3:=@W5 A.room (2^(A.bits-wOf A.ms "far").toNat) (2^(A.bits-wOf A.ms "pair").toNat);have hm:=O.m;have e:∀k,k∈kg->(qQ A.ms k).2.1=wOf A.ms k:=λk hk=>by
  obtain⟨m,hm⟩:=O.R.kind hk;rw[hm.mk,kN hm]
 unfold most xD;rcases h with rfl|rfl<;>rw[e _ (by decide)]<;>lia
theorem vld(O:A.Ok)(h:A.RfOk r):Vld A.bits A.ms (A.kl r) (qQ A.ms (A.kl r).1):=by
 cases r with
 |w x=>exact InW.v h
 |t i =>
  have hk:(A.th i).kd = "far" \/ (A.th i).kd = "pair" := by cases A.th i<;>simp[Th.kd]
  obtain⟨m,hm⟩:=O.R.kind (kind:=(A.th i).kd) (by rcases hk with e|e<;>rw[e]<;>decide);have h1:=(most_le O hk).1;have h2:=pl_lt O h;have h3:=sz_two O h;have h4:=O.f;show Vld A.bits A.ms ((A.th i).kd,(A.pl i:Int)) (qQ A.ms (A.th i).kd);rw[hm.mk] at h1 ⊢;refine⟨hm,λz=>?_,λ_=>⟨DN _, ?_⟩,λz=>?_,λz=>?_⟩
  ·have z:(A.th i).kd = "small" := z
   rcases hk with e|e<;>rw[e] at z<;>exact absurd z (by decide)
  ·show(A.pl i:Int)<_
   lia
  ·have z:(A.th i).kd = "sign" := z
   rcases hk with e|e<;>rw[e] at z<;>exact absurd z (by decide)
  ·have z:(A.th i).kd = "one" := z
   rcases hk with e|e<;>rw[e] at z<;>exact absurd z (by decide)
theorem WB(O:A.Ok)(h:A.RfOk r):∃l,A.ms.filter (on (A.wd r))=qQ A.ms (A.kl r).1::l:=by
 have v:=vld O h;have hmp:=O.R.p _ v.k.mem;exact WD O.R v.k.mem (decide_eq_true (V8 hmp.1 hmp.2).2)
theorem mark_wd(O:A.Ok)(h:A.RfOk r):xZ (A.wd r) A.ms=.str (A.kl r).1:=by
 obtain⟨l,e⟩:=WB O h;unfold xZ;rw[e];show T.str (qQ A.ms _).1=_;rw[OfKind.is (vld O h).k]
theorem addr_w(O:A.Ok)(h:InW A.bits A.ms x):xq (A.wd (.w x)) A.ms=none:=by
 obtain⟨l,e⟩:=WB O (r:=.w x) h;unfold xq;rw[e];refine if_neg λz=>?_;have z:(qQ A.ms x.1).1 = "far" \/ (qQ A.ms x.1).1 = "pair" := z;rw[OfKind.is h.v.k] at z;rcases h.k with y|y|y<;>rw[y] at z<;>revert z<;>decide
theorem Xn(O:A.Ok)(h:i∈A.od):xq (A.wd (.t i)) A.ms=some ((A.th i).kd,(A.pl i:Int)):=by
 obtain⟨l,e⟩:=WB O (r:=.t i) h;have v:=vld O (r:=.t i) h;have hk:(A.th i).kd = "far" \/ (A.th i).kd = "pair" := by cases A.th i<;>simp[Th.kd]
 unfold xq;rw[e];have v2:OfKind A.ms (A.th i).kd (qQ A.ms (A.th i).kd):=v.k;have hmp:=O.R.p _ v2.mem;have ho:(0:Int)<=A.pl i/\(A.pl i:Int)<2^(A.bits-(qQ A.ms (A.th i).kd).2.1).toNat:=v.o (by show(A.th i).kd≠_; rcases hk with z|z<;>rw[z]<;>decide);have hd:=(V8 (load:=(A.pl i:Int) % 2^(A.bits-(qQ A.ms (A.th i).kd).2.1).toNat) hmp.1 hmp.2).1;refine(if_pos (by show(qQ A.ms (A.th i).kd).1=_\/(qQ A.ms (A.th i).kd).1=_; rw[OfKind.is v2]; exact hk)).trans ?_;show some ((qQ A.ms (A.th i).kd).1,A.wd (.t i) / 2^(qQ A.ms (A.th i).kd).2.1.toNat)=_;rw[OfKind.is v2,show A.wd (.t i) / 2^(qQ A.ms (A.th i).kd).2.1.toNat=_ from hd,U7 ho.1 ho.2]
theorem xC(O:A.Ok)(h:A.RfOk r)(e:xq (A.wd r) A.ms=some (s,a)):∃i∈A.od,r=.t i/\a=(A.pl i:Int):=by
 cases r with
 |w x=>rw[addr_w O h] at e; cases e
 |t i=>rw[Xn O h] at e; cases e; exact⟨i,h,rfl,rfl⟩
def hd(A:Mc)(i:Nat):Int:=match A.th i with
 |.far n=>v8 A.bits n
 |.pr _ _=>1
theorem tw_hd:∃r,A.tw i=A.hd i::r:=by
 unfold tw hd;split<;>exact⟨_,rfl⟩
theorem small_ne(h:qL s n=false):n≠0:=λz=>by
 rw[z] at h;have h2:=qZ (s-1).toNat;exact of_decide_eq_false h ⟨by lia,h2⟩
theorem head_4{bits n:Int}(hb:1<=bits)(hn:n≠0):4<=v8 bits n/\v8 bits n / 4=lcnt bits n/\v8 bits n % 2=0/\(v8 bits n % 4=0↔0<=n)/\va (v8 bits n)=lcnt bits n+1:=by
 have:=xi hb hn;have h1:4<=v8 bits n/\v8 bits n / 4=lcnt bits n/\v8 bits n % 2=0/\(v8 bits n % 4=0↔0<=n):=by
  unfold v8;split<;>lia
 refine⟨h1.1,h1.2.1,h1.2.2.1,h1.2.2.2, ?_⟩;unfold va;rw[if_neg (by lia),h1.2.1]
theorem lim_at{bits n:Int}(hb:1<=bits)(hn:n≠0):limI (pre++(xc bits n++post)) pre.length (v8 bits n)=zy bits n:=by
 unfold limI;rw[(head_4 hb hn).2.1];show List.take (lcnt bits n) _=_;rw[show pre++(xc bits n++post)=(pre++[v8 bits n])++(zy bits n++post) by simp[xc],RS (by simp),RH (by have:=@zb bits n; unfold xc at this; rw[Ul] at this; lia)]
theorem num_at{bits n:Int}(hb:1<=bits)(hn:n≠0):numI bits.toNat (pre++(xc bits n++post)) pre.length (v8 bits n)=n:=by
 unfold numI;rw[lim_at hb hn,Gc hb];have:=(head_4 (bits:=bits) hb hn).2.2.2.1;split<;>lia
theorem bad_th(O:A.Ok)(h:A.ThOk (A.th i)):xF A.bits A.sm (pre++(A.tw i++post)) pre.length (A.hd i)=none/\(va (A.hd i)).toNat=A.sz i:=by
 have hb:=O.R.b;unfold tw hd sz;cases e:A.th i with
 |pr a b =>
  refine⟨?_,rfl⟩;show xF _ _ (pre++([1,A.wd a,A.wd b]++post)) _ 1=none;unfold xF;rw[if_neg (by decide),if_neg (by simp[va]; lia),if_pos rfl]
 |far n =>
  rw[e] at h;have hn:=small_ne h.1;have h4:=head_4 (bits:=A.bits) (by lia) hn;have hp:=xi (bits:=A.bits) (by lia) hn;refine⟨?_,by show(va (v8 _ _)).toNat=lcnt _ _+1; lia⟩;show xF _ _ (pre++(xc A.bits n++post)) _ (v8 A.bits n)=none;unfold xF;rw[if_neg (by unfold Q2; simp[h4.1,h4.2.2.1]),if_neg,if_neg (by lia),if_neg,num_at (by lia) hn,if_neg (by rw[h.1]; decide)]
  ·rw[h4.2.1]
   show ¬(pre++(xc A.bits n++post))[pre.length+lcnt A.bits n]?=_;rw[Uq (by lia),U8,Ui (by rw[zb]; lia)];show ¬(v8 A.bits n::zy A.bits n)[lcnt A.bits n]?=_;rw[show lcnt A.bits n=lcnt A.bits n-1+1 by lia,Ds];exact limb_top (by lia) hn
  ·rw[h4.2.2.2.2]
   simp only[Uj,zb];lia
theorem JU(O:A.Ok):∀(r l:List Nat),A.od=l++r->(∀i∈r,i∉l)->r.Nodup->thI A.bits A.sm A.os (l.flatMap A.tw).length=(none,r.map A.pl)
 | [],l,e,_,_=>by
  rw[UR] at e;rw[kX (by unfold os; rw[e]; lia)];rfl
 |i::r,l,e,hn,hr=>by
  have hi:i∈A.od:=by rw[e]; simp
  have eo:A.os=l.flatMap A.tw++(A.tw i++r.flatMap A.tw):=by
   unfold os;rw[e,Du,Ro]
  have hb:=bad_th O (O.t i hi) (pre:=l.flatMap A.tw) (post:=r.flatMap A.tw);rw[<-eo] at hb;obtain⟨t,et⟩:=@tw_hd A i;rw[Zj (x:=A.hd i) (by rw[eo,et]; simp) hb.1,hb.2];have ih:=JU O r (l++[i]) (by rw[e]; simp) (λj hj=>by
   have h1:=hn j (.tail _ hj);have h2:j≠i:=λz=>(Dc.mp hr).1 (z▸hj);simp[h1,h2]) (Dc.mp hr).2
  rw[Du,Uj,show([i].flatMap A.tw)=A.tw i by simp,JR] at ih;rw[ih,Uy];refine congrArg (Prod.mk none) ?_;show _::_=_::_
  congr 1;unfold pl;rw[e,VE (hn i (.head _)),Z7]
theorem nd(O:A.Ok):A.od.Nodup:=O.d.imp UF
theorem wd_ok(O:A.Ok)(h:A.RfOk r):0<=A.wd r/\A.wd r<2^A.bits.toNat:=by
 have:=(vld O h).there O.R;exact⟨this.1,this.2.1⟩
theorem tw_ok(O:A.Ok)(h:A.ThOk (A.th i)):∀x∈A.tw i,0<=x/\x<2^A.bits.toNat:=λx hx=>by
 unfold tw at hx;have hb:=O.R.b;have e4:(2:Int)^A.bits.toNat=2^(A.bits-2).toNat*4:=by
  rw[show A.bits.toNat=(A.bits-2).toNat+2 by lia,R6];rfl
 cases e:A.th i with
 |pr a b =>
  rw[e] at hx h;simp only[Up,UQ,or_false] at hx;rcases hx with rfl|rfl|rfl
  ·have:=qZ (A.bits-2).toNat
   lia
  ·exact wd_ok O h.1
  ·exact wd_ok O h.2
 |far n =>
  rw[e] at hx h;rcases Up.mp hx with rfl|hx
  ·have:=h.2
   unfold v8;split<;>lia
  ·exact limbs_ok x hx
theorem os_ok(O:A.Ok):WdsOk A.bits A.os:=λx hx=>by
 obtain⟨i,hi,hx⟩:=List.mem_flatMap.mp hx;exact tw_ok O (O.t i hi) x hx
theorem os_le(O:A.Ok):A.os.length<=400:=by
 have:=(most_le O (k := "far") (.inl rfl)).2;have:=O.f;lia
theorem hds(O:A.Ok):Hds A.os (A.od.map A.pl):=by
 have h:=JU O A.od [] rfl (λ_ _ z=>nomatch z) (nd O);exact⟨⟨_,_,congrArg Prod.fst h,congrArg Prod.snd h⟩,λx hx=>(os_ok O x hx).1,by have:=os_le O; lia⟩
theorem hd_at(O:A.Ok)(h:i∈A.od):A.os[A.pl i]?=some (A.hd i):=by
 obtain⟨l,r,_,_,e,e2⟩:=at_ O h;obtain⟨t,et⟩:=@tw_hd A i;rw[e,e2,et];simp
theorem Wh(O:A.Ok){i:Nat}(h:i∈A.od):pwI A.os (A.pl i)=match A.th i with
 |.far _=>[]
 |.pr a b=>[A.wd a,A.wd b]:=by
 unfold pwI;rw[hd_at O h];obtain⟨l,r,_,_,e,e2⟩:=at_ O h;have ht:=O.t i h;unfold hd;cases et:A.th i with
 |far n =>
  rw[et] at ht;have:=(head_4 (bits:=A.bits) (by have:=O.R.b; lia) (small_ne ht.1)).1;simp only;rw[if_neg (λz=>by have:=Option.some.inj z; lia)]
 |pr a b =>
  rw[show A.tw i=[1,A.wd a,A.wd b] by unfold tw; rw[et]] at e;refine(if_pos rfl).trans ?_;rw[e2,e];show List.take 2 _=[A.wd a,A.wd b];rw[show List.flatMap A.tw l++([1,A.wd a,A.wd b]++List.flatMap A.tw r)=(List.flatMap A.tw l++[1])++([A.wd a,A.wd b]++List.flatMap A.tw r) by simp,RS (by simp)];rfl
theorem si(O:A.Ok):SI A.bits A.ms A.ws A.os (A.od.map A.pl):=by
 refine⟨O.R,hds O,λword hw s a e=>?_,λj hj word hw s a e=>?_,by unfold ws; rw[Ug,O.l8]; decide⟩
 ·obtain⟨r,hr,rfl⟩:=UW.mp hw
  obtain⟨i,hi,_,rfl⟩:=xC O (O.g r hr) e;exact⟨_,Dt hi,rfl⟩
 ·obtain⟨i,hi,rfl⟩:=UW.mp hj
  rw[Wh O hi] at hw;have ht:=O.t i hi;cases et:A.th i with
  |far n=>rw[et] at hw; exact nomatch hw
  |pr x y =>
   rw[et] at hw ht;simp only[Up,UQ,or_false] at hw;rcases hw with rfl|rfl
   ·obtain⟨i,hi,_,rfl⟩:=xC O ht.1 e
    exact⟨_,Dt hi,rfl⟩
   ·obtain⟨i,hi,_,rfl⟩:=xC O ht.2 e
    exact⟨_,Dt hi,rfl⟩
theorem fit(O:A.Ok):∀m∈A.ms,m.1 = "far" \/ m.1 = "pair" -> (A.os.length:Int)<=2^(A.bits-m.2.1).toNat:=λm hm hk=>by
 have:=(most_le O hk).1;rw[(O.R.ofKind hm).mk] at this;have:=O.f;lia
end Mc
theorem QV{f:Nat->Nat}:∀{l:List Nat},((l.filter p).map f).sum<=(l.map f).sum
 | []=>Uk _
 |j::l=>by
  have:=@QV p f l;rw[Ru,Uy,Rr];split
  ·rw[Uy,Rr]; lia
  ·lia
theorem ZM{os:List Int}:∀{l:List Nat}{n:Nat},(∀j∈l,p j=p i->j=i)->(∀j∈l,szK os (p j)=f j)->i∈l->(offs os (l.map p) n).lookup (p i)=some (n+plc f l i)
 | [],_,_,_,h=>nomatch h
 |j::l,n,hp,hf,h=>by
  show List.lookup (p i) ((p j,n)::offs os (l.map p) (n+szK os (p j)))=some (n+if j=i then 0 else f j+plc f l i);rw[UD];by_cases e:j=i
  ·subst e
   rw[if_pos rfl];simp
  ·have:(p i==p j)=false:=beq_eq_false_iff_ne.mpr λz=>e (hp j (.head _) z.symm)
   rw[this,if_neg e];simp only;rw[hf j (.head _),ZM (λj hj=>hp j (.tail _ hj)) (λj hj=>hf j (.tail _ hj)) ((Up.mp h).resolve_left (Ne.symm e)),Nat.add_assoc]
namespace Mc
inductive Rc(A:Mc):Nat->Prop
 |of {i:Nat} : .t i∈A.rg->Rc A i
 |l {i j:Nat} {b:Rf}:Rc A i->A.th i=.pr (.t j) b->Rc A j
 |r {i j:Nat} {a:Rf}:Rc A i->A.th i=.pr a (.t j)->Rc A j
noncomputable def lv(A:Mc):List Nat:=A.od.filter λi=>@decide (A.Rc i) (Classical.propDecidable _)
noncomputable def swp(A:Mc):Mc:={ A with od:=A.lv,sw:=A.sw+1 }
variable {A:Mc}
theorem mem_lv:i∈A.lv↔i∈A.od/\A.Rc i:=by
 unfold lv;rw[UB];simp
theorem X1(O:A.Ok)(h:A.Rc i):i∈A.od:=by
 induction h with
 |of h=>exact O.g _ h
 |l h e ih=>have:=O.t _ ih; rw[e] at this; exact this.1
 |r h e ih=>have:=O.t _ ih; rw[e] at this; exact this.2
theorem pl_inj(O:A.Ok)(hi:i∈A.od)(hj:j∈A.od)(e:A.pl i=A.pl j):i=j:=by
 have hp:=(hds O).lt;rw[Rm] at hp;obtain⟨l,r,e1⟩:=Bd hi;rw[e1] at hp hj;have h1:=DG.mp hp;have h2:=(U4.mp h1.2.1).1;rcases Uu.mp hj with z|z
 ·have:=h1.2.2 j z i (.head _); lia
 ·rcases Up.mp z with z|z
  ·exact z.symm
  ·have:=h2 j z; lia
theorem rch(O:A.Ok):Rch A.ms A.ws A.os k↔∃i,A.Rc i/\k=A.pl i:=by
 constructor
 ·intro h
  induction h with
  |of hw hl =>
   obtain⟨r,hr,rfl⟩:=UW.mp hw;obtain⟨s,e⟩:=hl;obtain⟨i,_,rfl,e'⟩:=xC O (O.g r hr) e;exact⟨i, .of hr,by exact_mod_cast e'⟩
  |to _ hw hl ih =>
   obtain⟨i,hi,rfl⟩:=ih;obtain⟨s,e⟩:=hl;have ht:=O.t i (X1 O hi);rw[Wh O (X1 O hi)] at hw;cases et:A.th i with
   |far n=>rw[et] at hw; exact nomatch hw
   |pr x y =>
    rw[et] at hw ht;simp only[Up,UQ,or_false] at hw;rcases hw with rfl|rfl
    ·obtain⟨j,_,rfl,e'⟩:=xC O ht.1 e
     exact⟨j, .l hi et,by exact_mod_cast e'⟩
    ·obtain⟨j,_,rfl,e'⟩:=xC O ht.2 e
     exact⟨j, .r hi et,by exact_mod_cast e'⟩
 ·rintro⟨i,h,rfl⟩
  induction h with
  |of h=>exact .of (Dt h) ⟨_,Xn O (O.g _ h)⟩
  |l h e ih =>
   have ht:=O.t _ (X1 O h);rw[e] at ht;exact .to ih (by rw[Wh O (X1 O h),e]; exact .head _) ⟨_,Xn O ht.1⟩
  |r h e ih =>
   have ht:=O.t _ (X1 O h);rw[e] at ht;exact .to ih (by rw[Wh O (X1 O h),e]; exact .tail _ (.head _)) ⟨_,Xn O ht.2⟩
theorem rs_of(O:A.Ok):rsOf A.ms A.ws A.os (A.od.map A.pl)=A.lv.map A.pl:=by
 unfold rsOf lv;rw[List.filter_map]
 congr 1;refine List.filter_congr λi hi=>?_;show @decide (Rch _ _ _ (A.pl i)) (Classical.propDecidable _)=@decide (A.Rc i) (Classical.propDecidable _);refine decide_eq_decide.mpr ⟨λh=>?_,λh=>(rch O).mpr ⟨i,h,rfl⟩⟩;obtain⟨j,hj,e⟩:=(rch O).mp h;rw[pl_inj O hi (X1 O hj) e];exact hj
theorem sz_at(O:A.Ok)(h:i∈A.od):szK A.os (A.pl i)=A.sz i:=by
 unfold szK;rw[hd_at O h];exact(bad_th O (O.t i h) (pre:=[]) (post:=[])).2
theorem pl_swp(O:A.Ok)(h:i∈A.lv):plAt A.os (A.lv.map A.pl) (A.pl i)=A.swp.pl i:=by
 unfold plAt;rw[ZM (f:=A.sz) (λj hj=>pl_inj O (mem_lv.mp hj).1 (mem_lv.mp h).1) (λj hj=>sz_at O (mem_lv.mp hj).1) h];show 0+plc A.sz A.lv i=_;rw[Dz];rfl
theorem div_t(O:A.Ok)(h:i∈A.od):A.wd (.t i) / 2^(qQ A.ms (A.th i).kd).2.1.toNat=(A.pl i:Int):=by
 have e:=Xn O h;obtain⟨l,e1⟩:=WB O (r:=.t i) h;unfold xq at e;rw[e1] at e;have e:(if(qQ A.ms (A.th i).kd).1 = "far" \/ (qQ A.ms (A.th i).kd).1 = "pair" then some ((qQ A.ms (A.th i).kd).1,A.wd (.t i) / 2^(qQ A.ms (A.th i).kd).2.1.toNat) else none)=some ((A.th i).kd,(A.pl i:Int)):=e;split at e
 ·exact(Prod.mk.inj (Option.some.inj e)).2
 ·cases e
theorem Y0(h:A.RfOk r)(hr:∀i,r=.t i->A.Rc i):A.swp.RfOk r:=by
 cases r with
 |w x=>exact h
 |t i=>exact mem_lv.mpr ⟨h,hr i rfl⟩
theorem mv_wd(O:A.Ok)(h:A.RfOk r)(h2:A.swp.RfOk r):mvW A.bits A.ms (plAt A.os (A.lv.map A.pl)) (A.wd r)=A.swp.wd r:=by
 obtain⟨l,e⟩:=WB O h;have v:=(vld O h).k;unfold mvW;rw[e];cases r with
 |w x =>
  refine if_neg λz=>?_;have h:InW A.bits A.ms x:=h;have z:(qQ A.ms x.1).1 = "far" \/ (qQ A.ms x.1).1 = "pair" := z;rw[OfKind.is h.v.k] at z;rcases h.k with y|y|y<;>rw[y] at z<;>revert z<;>decide
 |t i =>
  have v:OfKind A.ms (A.th i).kd (qQ A.ms (A.th i).kd):=v;have hk:(A.th i).kd = "far" \/ (A.th i).kd = "pair" := by cases A.th i<;>simp[Th.kd]
  refine(if_pos (by show(qQ A.ms (A.th i).kd).1=_\/(qQ A.ms (A.th i).kd).1=_; rw[OfKind.is v]; exact hk)).trans ?_;show zQ A.bits (qQ A.ms (A.th i).kd) (plAt _ _ (A.wd (.t i) / 2^(qQ A.ms (A.th i).kd).2.1.toNat).toNat)=_;rw[div_t O h,DV,pl_swp O h2];rfl
theorem rg_swp(O:A.Ok):∀r∈A.rg,A.swp.RfOk r:=λr hr=>Y0 (O.g r hr) λi e=>.of (e▸hr)
theorem th_swp(O:A.Ok)(h:i∈A.lv):A.swp.ThOk (A.th i):=by
 obtain⟨h1,h2⟩:=mem_lv.mp h;have ht:=O.t i h1;cases e:A.th i with
 |far n=>rw[e] at ht; exact ht
 |pr a b =>
  rw[e] at ht;exact⟨Y0 ht.1 λj ej=>.l h2 (ej▸e),Y0 ht.2 λj ej=>.r h2 (ej▸e)⟩
theorem ws_swp(O:A.Ok):swW A.bits A.ms A.ws A.os (A.od.map A.pl)=A.swp.ws:=by
 unfold swW;rw[rs_of O];unfold ws;rw[DM];exact Dk λr hr=>mv_wd O (O.g r hr) (rg_swp O r hr)
theorem mv_tw(O:A.Ok)(h:i∈A.lv):mvT A.bits A.ms A.os (plAt A.os (A.lv.map A.pl)) (A.pl i)=A.swp.tw i:=by
 obtain⟨h1,h2⟩:=mem_lv.mp h;have ht:=O.t i h1;have ht2:=th_swp O h;unfold mvT;rw[hd_at O h1,Wh O h1,sz_at O h1];obtain⟨l,r,_,_,e,e2⟩:=at_ O h1;rw[e2];have e3:(A.os.drop (l.flatMap A.tw).length).take (A.sz i)=A.tw i:=by rw[e,RS rfl,RH JR]
 rw[e3];cases et:A.th i with
 |far n =>
  rw[et] at ht;have:=(head_4 (bits:=A.bits) (by have:=O.R.b; lia) (small_ne ht.1)).1;rw[if_neg (λz=>by unfold hd at z; rw[et] at z; have:v8 A.bits n=1:=Option.some.inj z; lia)];unfold tw;rw[show A.swp.th i=A.th i from rfl,et];rfl
 |pr a b =>
  rw[et] at ht ht2;rw[if_pos (by unfold hd; rw[et])];unfold tw;rw[show A.swp.th i=A.th i from rfl,et];show 1::[_,_]=[_,_,_];rw[mv_wd O ht.1 ht2.1,mv_wd O ht.2 ht2.2]
theorem os_swp(O:A.Ok):swO A.bits A.ms A.ws A.os (A.od.map A.pl)=A.swp.os:=by
 unfold swO;rw[rs_of O,List.flatMap_map];show _=A.lv.flatMap A.swp.tw;rw[DY,DY]
 congr 1;exact Dk λi hi=>mv_tw O hi
theorem Wx:A.swp.os.length<=A.os.length:=by
 unfold os;rw[Z7,Z7];exact QV
theorem ok_swp(O:A.Ok):A.swp.Ok:=⟨O.R,O.l8,rg_swp O,O.d.sublist D5,λi hi=>O.b i (mem_lv.mp hi).1,λi hi=>th_swp O hi,by have:=O.f; have:=@Wx A; show(A.swp.os.length:Int)<=A.most; lia,O.m⟩
theorem swp_all(h:∀i∈A.od,A.Rc i):A.swp={ A with sw:=A.sw+1 }:=by
 unfold swp lv;rw[List.filter_eq_self.mpr λi hi=>by simpa using h i hi]
end Mc
theorem Wp:∀{l:List Nat},(∀j∈l,f j=g j)->i∈l->plc f (l++r) i=plc g l i
 | [],_,h=>nomatch h
 |j::l,hf,h=>by
  show(if j=i then 0 else f j+plc f (l++r) i)=if j=i then 0 else g j+plc g l i
  by_cases e:j=i
  ·rw[if_pos e,if_pos e]
  ·rw[if_neg e,if_neg e,hf j (.head _),Wp (λk hk=>hf k (.tail _ hk)) ((Up.mp h).resolve_left (Ne.symm e))]
namespace Mc
variable {A:Mc}
def put(A:Mc)(r:Nat)(x:Rf):Mc:={ A with rg:=A.rg.set r x }
def lay(A:Mc)(r:Nat)(t:Th):Mc:={ A with rg:=A.rg.set r (.t A.tb.length),tb:=A.tb++[t],od:=A.od++[A.tb.length] }
def wt(A:Mc):Th->List Int
 |.far n=>xc A.bits n
 |.pr a b=>[1,A.wd a,A.wd b]
theorem wt_len:(A.wt t).length=t.sz A.bits:=by cases t with
 |far n=>exact zb
 |pr a b=>rfl
theorem ws_put:(A.put r x).ws=A.ws.set r (A.wd x):=RT
theorem ok_put(O:A.Ok)(h:A.RfOk x):(A.put r x).Ok:=by
 refine⟨O.R,by show(A.rg.set r x).length=8; rw[Ut,O.l8],λy hy=>?_,O.d,O.b,O.t,O.f,O.m⟩;rcases Re hy with z|z
 ·exact O.g y z
 ·rw[z]; exact h
variable {r:Nat} {t:Th}
theorem Zi(h:i<A.tb.length):(A.lay r t).th i=A.th i:=by
 unfold th lay;rw[DD,DD,Ui h]
theorem JT:(A.lay r t).th A.tb.length=t:=by
 unfold th lay;rw[DD];simp
theorem sz_lay(O:A.Ok):∀i∈A.od,(A.lay r t).sz i=A.sz i:=λi hi=>by
 unfold sz;rw[Zi (O.b i hi)];rfl
theorem pl_lay(O:A.Ok)(h:i∈A.od):(A.lay r t).pl i=A.pl i:=Wp (sz_lay O) h
theorem new_od(O:A.Ok):A.tb.length∉A.od:=λz=>Dg _ (O.b _ z)
theorem pl_new(O:A.Ok):(A.lay r t).pl A.tb.length=A.os.length:=by
 unfold pl os;show plc _ (A.od++[A.tb.length]) _=_;rw[VE (new_od O),Z7]
 congr 1;exact Dk λi hi=>sz_lay O i hi
theorem kl_lay(O:A.Ok)(h:A.RfOk x):(A.lay r t).kl x=A.kl x:=by
 cases x with
 |w x=>rfl
 |t i =>
  show(((A.lay r t).th i).kd,((A.lay r t).pl i:Int))=((A.th i).kd,(A.pl i:Int));rw[Zi (O.b i h),pl_lay O h]
theorem Yn(O:A.Ok)(h:A.RfOk x):(A.lay r t).wd x=A.wd x:=by
 unfold wd;rw[kl_lay O h];rfl
theorem Y1(h:A.RfOk x):(A.lay r t).RfOk x:=by
 cases x with
 |w x=>exact h
 |t i=>exact UH _ h
theorem wt_lay(O:A.Ok)(h:A.ThOk u):(A.lay r t).wt u=A.wt u:=by
 cases u with
 |far n=>rfl
 |pr a b =>
  show[1,(A.lay r t).wd a,(A.lay r t).wd b]=[1,A.wd a,A.wd b];rw[Yn O h.1,Yn O h.2]
theorem tw_wt:A.tw i=A.wt (A.th i):=by unfold tw wt; rfl
theorem tk_lay(h:A.ThOk u):(A.lay r t).ThOk u:=by
 cases u with
 |far n=>exact h
 |pr a b=>exact⟨Y1 h.1,Y1 h.2⟩
theorem os_lay(O:A.Ok)(ht:A.ThOk t):(A.lay r t).os=A.os++A.wt t:=by
 unfold os;show(A.od++[A.tb.length]).flatMap _=_;rw[Du]
 congr 1
 ·rw[DY,DY]
  congr 1;refine Dk λi hi=>?_;rw[tw_wt,tw_wt,Zi (O.b i hi),wt_lay O (O.t i hi)]
 ·rw[show[A.tb.length].flatMap (A.lay r t).tw=(A.lay r t).tw A.tb.length by simp,tw_wt,JT,wt_lay O ht]
theorem ws_lay(O:A.Ok):(A.lay r t).ws=A.ws.set r (wdK A.bits A.ms (t.kd,(A.os.length:Int))):=by
 have e:(A.lay r t).wd (.t A.tb.length)=wdK A.bits A.ms (t.kd,(A.os.length:Int)):=by
  show wdK A.bits A.ms (((A.lay r t).th A.tb.length).kd,((A.lay r t).pl A.tb.length:Int))=_;rw[JT,pl_new O]
 unfold ws;show(A.rg.set r _).map _=_;rw[RT,e]
 congr 1;exact Dk λx hx=>Yn O (O.g x hx)
theorem ok_lay(O:A.Ok)(ht:A.ThOk t)(hf:(A.os.length:Int)+t.sz A.bits<=A.most):(A.lay r t).Ok:=by
 refine⟨O.R,by show(A.rg.set r _).length=8; rw[Ut,O.l8],λy hy=>?_, ?_,λi hi=>?_,λi hi=>?_, ?_,O.m⟩
 ·rcases Re hy with z|z
  ·exact Y1 (O.g y z)
  ·rw[z]; exact UJ _ (.head _)
 ·refine DG.mpr ⟨O.d,List.pairwise_singleton _ _,λi hi j hj=>?_⟩
  rw[Us.mp hj];exact O.b i hi
 ·show i<(A.tb++[t]).length
  rw[Uj];rcases Uu.mp hi with z|z
  ·have:=O.b i z; lia
  ·rw[Us.mp z]; show _<_+1; lia
 ·rcases Uu.mp hi with z|z
  ·rw[Zi (O.b i z)]; exact tk_lay (O.t i z)
  ·rw[Us.mp z,JT]; exact tk_lay ht
 ·rw[os_lay O ht,Uj,wt_len]
  show _<=A.most;push_cast;exact hf
end Mc
structure StA(C:Addr)(M:MM)(s h kp:Nat)(A:Mc):Prop where
 O:A.Ok
 S:StS C M s h kp A.bits A.ms A.room A.ws A.os A.qu A.sl A.sw
def Nw(M:MM)(h h':Nat):Prop:=h'=h\/M.length<=h'
def Go(C:Addr)(M:MM)(s h kp:Nat)(B:Mc)(Q:MM->Prop):Prop:=∀M' h' kp',Frm M M' [s,h,kp]->Nw M h h'->Nw M kp kp'->StA C M' s h' kp' B->Q M'
theorem Go.here(S:StA C M s h kp A)(g:Go C M s h kp A Q):Q M:=g M h kp .refl (.inl rfl) (.inl rfl) S
theorem Go.step(g:Go C M s h kp B Q)(f:Frm M M' [s,h,kp])(hh:Nw M h h')(hk:Nw M kp kp')(hs:s<M.length):Go C M' s h' kp' B Q:=λM2 h2 k2 f2 a b S=>by
 have nw:∀{x x' y:Nat},Nw M x x'->Nw M' x' y->Nw M x y:=λ{x x' y} p q=>by
  have:=f.1;unfold Nw at *;lia
 refine g M2 h2 k2 (f.trans f2 λi hi=>?_) (nw hh a) (nw hk b) S;simp only[Up,UQ,or_false] at hi ⊢;unfold Nw at *;lia
theorem StA.put(S:StA C M s h kp A)(hx:A.RfOk x):StA C (M.set h (iM (A.ws.set r (A.wd x)))) s h kp (A.put r x):=by
 have hh:=(Ue.mp S.S.h0).1;refine⟨Mc.ok_put S.O hx,by rw[Uz S.S.sh.symm]; exact S.S.s0,by rw[Mc.ws_put]; exact Uw hh,by rw[Uz S.S.hk]; exact S.S.k0,S.S.sh,S.S.sk,S.S.hk⟩
theorem V2(e:h∈F):Frm M (M.set h o) F:=⟨by rw[Ut]; exact Uk _,λi _ hn=>Uz λz:h=i=>hn (z▸e)⟩
theorem zj(D:MDef X.prog X.w X.K X.mg X.base C m k ps sp)(c:Cls X.K C)(he:QE X o ta)(hr:Room k X.A)(ht:eval (.Call (.Attribute o m apos) [] [] pos) X.env=(do
   let ov <-eval o X.env
   standAt apos.atName;let(f,first) <-holding [ov] (getMethod ov m pl)
   callWith pos f first (backTo pos (starEach [] X.env)) (backToKw pos (keywordEach [] X.env))):=by rfl):QE X (.Call (.Attribute o m apos) [] [] pos) (XA C m sp [] E0 ta tNil):=by
 obtain⟨f,fd,h1,h2,h3⟩:=D.ex;exact⟨pe_meth0 he.h c h1 h3 hr h2 .nil pass0 ht⟩
local macro_rules | `(tactic| walk_at "vx") => `(tactic| simp only[zM,kQ,kP,zK,ze,uTry,zN,zL,kR,kW,endX,uAsG,vV])
local macro_rules | `(tactic| walk_at "pk") => `(tactic| (walk_at "v"; repeat ((first|walk_at "vx" |refine zn (by decide) ?_|refine v5 rfl ?_); walk_at "v")))
section
theorem jq(TP:TxStore Ξ C)(S:StA C M s h kp A)(q:Q (.p (layT A.bits A.ms)) M):FldS Ξ "laying" (.m s) M Q:=vT TP.c TP.n1 S.S.s0 (by rfl) q
theorem room_at(TP:TxStore Ξ C)(S:StA C M s h kp A)(q:Q (.p (.int A.room)) M):FldS Ξ "room" (.m s) M Q:=vT TP.c TP.n2 S.S.s0 (by rfl) q
theorem jW(TP:TxStore Ξ C)(S:StA C M s h kp A)(q:Q (.m h) M):FldS Ξ "held" (.m s) M Q:=vT TP.c TP.n3 S.S.s0 (by rfl) q
theorem VP(TP:TxStore Ξ C)(S:StA C M s h kp A)(q:Q (.m kp) M):FldS Ξ "kept" (.m s) M Q:=vT TP.c TP.n4 S.S.s0 (by rfl) q
theorem mS(S:StA C M s h kp A)(hm:(fldC A.bits A.ms A.room h kp A.qu A.sl A.sw).lookup m=none)(q:R):qas C m (.m s) M R:=meth_at S.S.s0 hm q
theorem Gw{i:Nat}(S:StA C M s h kp A)(hq:A.rg[i]?=some x)(q:Q (.p (.int (A.wd x))) M):IxS vg M (.m h) (.p (.int (i:Int))) Q :=
 K8 (us:=((A.ws).map T.int).map U.p) (by simp[vg,S.S.h0]) (j4 (by unfold Mc.ws; simp only[Uv,hq,Option.map_some])) q
theorem Vh(e:M[h]?=some (iM ws))(hr:r<ws.length)(q:R (M.set h (iM (ws.set r x)))):SubS M (.m h) (.p (.int (r:Int))) (.p (.int x)) R:=by
 refine⟨h,_,r,r,rfl,e,rfl, ?_, ?_⟩
 ·unfold ixN
  simp[hr]
 ·rw[<-RT, <-RT]
  exact q
theorem StA.l8(S:StA C M s h kp A):A.ws.length=8:=by unfold Mc.ws; rw[Ug,S.O.l8]
theorem put_at(S:StA C M s h kp A)(hr:r<8)(hx:A.RfOk x)(g:Go C M s h kp (A.put r x) R):SubS M (.m h) (.p (.int (r:Int))) (.p (.int (A.wd x))) R :=
 Vh S.S.h0 (by rw[S.l8]; exact hr) (g _ h kp (V2 (by simp)) (.inl rfl) (.inl rfl) (S.put hx))
theorem StA.lt(S:StA C M s h kp A):s<M.length:=(Ue.mp S.S.s0).1
theorem Xp(R:Right bits ms)(hx:Vld bits ms x (qQ ms x.1))(q:R' (.int (wdK bits ms x))):xk [layT bits ms,tOf x] R':=by
 have hm:=hx.k;have hmw:=R.w _ hm.mem;have hnd:=vY (qQ ms x.1).1;have hb:=R.b;refine⟨bits,ms,tOf x,x.1,x.2,qQ ms x.1,rfl,by have:=R.n; lia,hx.worth,hm,by lia,by lia,by lia, ?_,q⟩;by_cases hs:x.1 = "small"
 ·exact .inl ⟨x.2,by unfold tOf; rw[if_pos hs]⟩
 ·exact .inr (hx.o hs)
theorem YC:tOf ("small", n)=.int n:=by unfold tOf; rw[if_pos rfl]
theorem tOf_none:tOf ("one", 0)=.str "none" := by unfold tOf; rw[if_neg (by decide),if_pos rfl]; rfl
theorem YD{t:Th}:tOf (t.kd,n)=.tup [.str t.kd, .int n]:=by
 unfold tOf;cases t with
 |far=>rfl
 |pr=>rfl
end
abbrev xS:Stmt:=qE (top 48) 4
theorem Zt:FnScope ["self","size"] ["self","size"] (qg xS):=⟨rfl,rfl,rfl,by decide +kernel,rfl,by decide +kernel,by decide +kernel⟩
def GK(C:Addr):List U->MM->UK->Prop:=λus M Q=>∃(s h kp:Nat)(A:Mc)(size:Int),us=[.m s, .p (.int size)]/\StA C M s h kp A/\Q (.p (.bl (decide (A.most<A.os.length+size)))) M
theorem ok_lacks(F:Fun Ξ "lacks" "Store.lacks" xS f fd)(N:Nms mg)(TP:TxStore Ξ C)(DMostOutside:Def P w Ξ mg base "most_outside" 3 ["laying","room"] (spP gMost)):FnOk P w Ξ mg base CX0 4 f fd ["self","size"] (spU (GK C)):=by
 refine F.zU Zt (λus M Qu h=>?_) (λcdv A outer s H E hr=>?_)
 ·obtain⟨_,_,_,_,_,rfl,_⟩:=h
  rfl
 refine⟨_,(qi (qt (vC op_gt (ql qO (qK vq (by rfl) N.len jx (qa_c (vd (qv 0) rfl) qc)) (qv 1)) (qm DMostOutside (Wl hr) (qa_c (vd (qv 0) rfl) (qa_c (vd (qv 0) rfl) qc))) (qA _)))),_,(qB (qj (qr λ_ _=>.bl _) (qj (qr λ_ _=>.int _) (xo (qa (ve (qb 0)) qd)) (qb 1)) (qo (qa (ve (qb 0)) (qa (ve (qb 0)) qd))))),λus M Qu h=>?_⟩;obtain⟨s,h,kp,A,size,rfl,S,q⟩:=h;symm;refine VP TP S ?_;symm;refine jV S.S.k0 ?_;symm;refine jq TP S ?_;symm;refine room_at TP S ?_;symm;refine⟨A.bits,A.ms,A.room,rfl,S.O.R, ?_⟩;symm;simp only[Ug];exact q
abbrev zq:Stmt:=qE (top 48) 5
theorem k8:FnScope ["self","size"] ["self","size"] (qg zq):=⟨rfl,rfl,rfl,by decide +kernel,rfl,by decide +kernel,by decide +kernel⟩
noncomputable def Mc.mk'(A:Mc)(n:Nat):Mc:=if A.most<A.os.length+n then A.swp else A
def Kj(C:Addr):List U->MM->UK->UX->Prop:=λus M Q X=>∃(s h kp:Nat)(A:Mc)(n:Nat),us=[.m s, .p (.int n)]/\StA C M s h kp A/\((((A.mk' n).os.length:Int)+n<=A.most)->Go C M s h kp (A.mk' n) (Q (.p .non)))/\((A.most<((A.mk' n).os.length:Int)+n)->Go C M s h kp (A.mk' n) (X "NoRoom" none))
theorem ok_roomS(F:Fun Ξ "make_room" "Store.make_room" zq f fd)(TStore:Cls Ξ C)(ONoRoom:ExcC Ξ mg "NoRoom" CENoRoom)(MStoreLacks:MDef P w Ξ mg base C "lacks" 4 ["self","size"] (spU (GK C)))(MStoreSweep:MDef P w Ξ mg base C "sweep" 7 ["self"] (spU (GC C))):FnOk P w Ξ mg base (CXe P w) 8 f fd ["self","size"] (spX mg (Kj C)):=by
 refine F.zX k8 (λus M Qu Xu h=>?_) (λcdv A outer s H E hr=>?_)
 ·obtain⟨_,_,_,_,_,rfl,_⟩:=h
  rfl
 refine⟨_,(vA (X4 (vG (xg (qJ MStoreLacks TStore (qv 0) (Wl hr) (qa_c (qv 1) qc)))
   (qi (vN (zj MStoreSweep TStore (qv 0) (Wl hr))))
   qP))
  (vb (VA (xg (qJ MStoreLacks TStore (qv 0) (Wl hr) (qa_c (qv 1) qc)))
   (vb (Vz rfl rfl ONoRoom (qa_c qD qc)))
   Qd))),_,(qh (vz (ct_b (qG (qb 0) (qa (qb 1) qd)))
   (vR (qG (qb 0) qd))
   qM)
   (vz (ct_b (qG (qb 0) (qa (qb 1) qd)))
   (V9 (qa Wr qd))
   qM)),λus M Qu Xu h=>?_⟩
 obtain⟨s,h,kp,A,n,rfl,S,q1,q2⟩:=h;unfold Mc.mk' at q1 q2;symm;refine mS S (by rfl) ?_;symm;refine⟨s,h,kp,A,n,rfl,S, ?_⟩;symm;refine ite2 (λz=>?_) (λz=>?_)
 ·rw[if_pos z] at q1 q2
  symm;refine mS S (by rfl) ?_;symm;refine⟨s,h,kp,A.bits,A.ms,A.room,A.ws,A.os,A.qu,A.sl,A.sw,A.od.map A.pl,rfl,S.S,Mc.si S.O,Mc.fit S.O,λM' h' kp' f1 n1 n2 S'=>?_⟩;rw[Mc.ws_swp S.O,Mc.os_swp S.O] at S';have S2:StA C M' s h' kp' A.swp:=⟨Mc.ok_swp S.O,S'⟩;have f2:Frm M M' [s,h,kp]:=⟨f1.1,λi hi hn=>f1.2 i hi λz=>hn (by simp at z; simp[z])⟩;walk_at "pk";refine mS S2 (by rfl) ?_;walk_at "pk";refine⟨s,h',kp',A.swp,n,rfl,S2, ?_⟩;walk_at "pk";refine ite2 (λz=>?_) (λz=>?_)
  ·walk_at "pk"
   exact⟨by rw[sizeLine_eq]; decide,_,_,_,rfl,rfl,q2 z M' h' kp' f2 (.inr n1) (.inr n2) S2⟩
  ·walk_at "pk"
   exact q1 (Bg.mp z) M' h' kp' f2 (.inr n1) (.inr n2) S2
 ·rw[if_neg z] at q1 q2
  walk_at "pk";refine mS S (by rfl) ?_;walk_at "pk";refine⟨s,h,kp,A,n,rfl,S, ?_⟩;walk_at "pk";exact zn z (Go.here S (q1 (Bg.mp z)))
abbrev jN:Stmt:=top 14
theorem scLimbCount:FnScope ["laying","n","bits"] ["laying","n"] (qg jN):=⟨rfl,rfl,rfl,by decide +kernel,rfl,by decide +kernel,by decide +kernel⟩
def xz:List T->(T->Prop)->Prop:=λts Q=>∃(bits:Int)(ms:List Mk3)(n:Int),ts=[layT bits ms, .int n]/\1<=bits/\bits<=60/\Q (.int (lcnt bits n))
theorem QR(F:Fun Ξ "limb_count" "limb_count" jN f fd)(N:Nms mg):FnOk P w Ξ mg base CX0 1 f fd ["laying","n"] (spP xz):=by
 refine F.zP scLimbCount (λts Qt h=>?_) (λcdv A outer s H E hr=>?_)
 ·obtain⟨_,_,_,rfl,_⟩:=h
  rfl
 refine⟨_,(qf (qy (i:=2) scLimbCount.nd rfl Wu (qH (Ub Ξ) (qv 0) qe (λ_ _=>rfl)))
  (qi (qt (ql zF (ql vp (ql qO (qe_bm0 PySem.F.plainAttrs_int PySem.F.slot_int_bit_length PySem.F.type_int_bit_length mt_bits (qK kI (by rfl) N.abs b_abs (qa_c (qv 1) qc))) (qv 2)) qe) (qv 2))))),_,(qh (qx (vi (qb 0) Wm) (qk 2))
   (qB (qj (qW λ_ _=>.int _) (qj (qr λ_ _=>.int _) (qj (qr λ_ _=>.int _) (ce_bits (zB JF (qa (qb 1) qd))) (qb 2)) Wm) (qb 2)))),λts Qt h=>?_⟩
 obtain⟨bits,ms,n,rfl,b0,b1,q⟩:=h;nofun;rw[JH,bits_abs,lcnt_int b0];exact⟨⟨by lia,log2_lt (by lia) (by lia)⟩,q⟩
abbrev Vt:Stmt:=top 18
theorem YQ:FnScope ["laying","n"] ["laying","n"] (qg Vt):=⟨rfl,rfl,rfl,by decide +kernel,rfl,by decide +kernel,by decide +kernel⟩
def kz:List T->(T->Prop)->Prop:=λts Q=>∃(bits:Int)(ms:List Mk3)(n:Int),ts=[layT bits ms, .int n]/\2<=bits/\bits<=60/\Q (.bl (decide (2^(bits-2).toNat<=(lcnt bits n:Int))))
theorem ZL(F:Fun Ξ "is_great" "is_great" Vt f fd)(DLimbCount:Def P w Ξ mg base "limb_count" 1 ["laying","n"] (spP xz)):FnOk P w Ξ mg base CX0 2 f fd ["laying","n"] (spP kz):=by
 refine F.zP YQ (λts Qt h=>?_) (λcdv A outer s H E hr=>?_)
 ·obtain⟨_,_,_,rfl,_⟩:=h
  rfl
 refine⟨_,(qi (qt (vC op_ge (qm DLimbCount (Wl hr) (qa_c (qv 0) (qa_c (qv 1) qc))) (ql vS qe (ql vp (qH (Ub Ξ) (qv 0) qe (λ_ _=>rfl)) qe)) (qA _)))),_,(qB (qj (qr λ_ _=>.bl _) (qo (qa (qb 0) (qa (qb 1) qd))) (qj (qW λ_ _=>.int _) Wm (qj (qr λ_ _=>.int _) (vi (qb 0) Wm) Wm)))),λts Qt h=>?_⟩;obtain⟨bits,ms,n,rfl,b0,b1,q⟩:=h;nofun;refine⟨bits,ms,n,rfl,by lia,b1, ?_⟩;nofun;refine⟨⟨by lia,by lia,by decide⟩, ?_⟩;rw[UM];exact q
abbrev XS:Stmt:=top 15
theorem scRowsOf:FnScope ["laying","n","bits","count","words","left","limb"] ["laying","n"] (qg XS):=⟨rfl,rfl,rfl,by decide +kernel,rfl,by decide +kernel,by decide +kernel⟩
def gRows:List T->(T->Prop)->Prop:=λts Q=>∃(bits:Int)(ms:List Mk3)(n:Int),ts=[layT bits ms, .int n]/\1<=bits/\bits<=60/\Bt 20000 n/\Q (qU (xc bits n))
theorem ok_rowsU(F:Fun Ξ "rows_of" "rows_of" XS f fd)(N:Nms mg)(DLimbCount:Def P w Ξ mg base "limb_count" 1 ["laying","n"] (spP xz)):FnOk P w Ξ mg base CX0 2 f fd ["laying","n"] (spP gRows):=by
 refine F.zP scRowsOf (λts Qt h=>?_) (λcdv A outer s H E hr=>?_)
 ·obtain⟨_,_,_,rfl,_⟩:=h
  rfl
 refine⟨_,(qf (qy (i:=2) scRowsOf.nd rfl Wu (qH (Ub Ξ) (qv 0) qe (λ_ _=>rfl)))
  (qf (qy (i:=3) scRowsOf.nd rfl Wu (qm DLimbCount (Wl hr) (qa_c (qv 0) (qa_c (qv 1) qc))))
  (qf (qy (i:=4) scRowsOf.nd rfl Wu (qR (qa_c (ql qO (ql zp qe (qv 3)) (vX (qw xX (qv 1) qe (qA _)) qe qe)) qc)))
  (qf (qy (i:=5) scRowsOf.nd rfl Wu (qK kI (by rfl) N.abs b_abs (qa_c (qv 1) qc)))
  (qf (j7 PassesOwn.never rfl (Qg rfl N.range (qa_c (qv 3) qc)) (vP (i:=6) scRowsOf.nd rfl Wu)
   (qf (vN (QP PySem.F.slot_list_append PySem.F.type_list_append zm (qv 4) (qa_c (ql zi (qv 5) (ql vS qe (qv 2))) qc)))
   (qi (qy (i:=5) scRowsOf.nd rfl Wu (ql Wy (qv 5) (qv 2))))))
  (qi (qt (qv 4)))))))),_,(qh (qx (vi (qb 0) Wm) (qk 2))
   (qh (qx (qo (qa (qb 0) (qa (qb 1) qd))) (qk 3))
   (qh (qx (ju (qa (qj (qr λ_ _=>.int _) (qj (qW λ_ _=>.int _) Wm (qb 3)) (ce_ifC (qC (qj (qr λ_ _=>.bl _) (qb 1) Wm)) (.int _) (.int _))) qd)) (qk 4))
   (qh (qx (zB JF (qa (qb 1) qd)) (qk 5))
   (qh (QC (JD (qa (qb 3) qd)) (qk 6)
   (qh (vR (QU zk (qb 4) (qa (qj (qW λ_ _=>.int _) (qb 5) (qj (qW λ_ _=>.int _) Wm (qb 2))) qd)))
   (qx (qj (qW λ_ _=>.int _) (qb 5) (qb 2)) (qk 5))))
   (qB (qb 4))))))),λts Qt h=>?_⟩
 obtain⟨bits,ms,n,rfl,b0,b1,hn,q⟩:=h;have hc:=Jj hn b0 b1;have hsz:20061<sizeLine:=by decide
 nofun;refine⟨bits,ms,n,rfl,b0,b1, ?_⟩;nofun;refine⟨.inl ⟨by decide,by decide⟩, ?_⟩;have hhead:4*(lcnt bits n:Int)+(if n<0 then 2 else 0)=v8 bits n:=rfl;rw[JH,hhead];refine YZ (by lia) (by lia) ?_;refine JM (λi ρ M'=>∃x6,ρ=[some (.p (layT bits ms)),some (.p (.int n)),some (.p (.int bits)),some (.p (.int (lcnt bits n))),some (.m 0),some (.p (.int ((n.natAbs / 2^(bits.toNat*i):Nat):Int))),x6]/\M'=[.lst ((T.int (v8 bits n)::((List.range i).map (lim bits.toNat n.natAbs)).map T.int).map U.p)]) ⟨none,by simp,rfl⟩ ?_ ?_
 ·rintro i ρ M' hi ⟨x6,rfl,rfl⟩
  nofun;refine⟨⟨by lia,by lia,by decide⟩, ?_, ?_⟩
  ·rw[UM]; exact qZ _
  refine⟨by simp; lia,by lia,some (.p (.int i)), ?_, ?_⟩
  ·rw[<-Qp]
   have:((n.natAbs / 2^(bits.toNat*i):Nat):Int) / 2^bits.toNat=((n.natAbs / 2^(bits.toNat*i) / 2^bits.toNat:Nat):Int):=by
    push_cast; rfl
   rw[this]
  ·have:((n.natAbs / 2^(bits.toNat*i):Nat):Int) % (1*2^bits.toNat)=lim bits.toNat n.natAbs i:=by
    unfold lim;rw[pow_cast];exact_mod_cast rfl
   rw[this,RN,Um,Um,Um];rfl
 ·rintro ρ M' ⟨x6,rfl,rfl⟩
  nofun;refine⟨_, ?_,q⟩;simp only[frzN,Dh];rw[show(U.p (T.int (v8 bits n))::List.map U.p (List.map T.int (List.map (lim bits.toNat n.natAbs) (List.range (lcnt bits n:Int).toNat))))=((xc bits n).map T.int).map U.p from rfl,V0 (λ_=>Q6)];rfl
local macro_rules | `(tactic| walk_at "vx") => `(tactic| simp only[zM,kQ,kP,zK,ze,uTry,zN,zL,kR,kW,endX,uAsG,vV])
local macro_rules | `(tactic| walk_at "pk") => `(tactic| (walk_at "v"; repeat ((first|walk_at "vx" |refine zn (by decide) ?_|refine v5 rfl ?_); walk_at "v")))
abbrev k9:Stmt:=qE (top 48) 6
theorem KN:FnScope ["self","r","kind","thing"] ["self","r","kind","thing"] (qg k9):=⟨rfl,rfl,rfl,by decide +kernel,rfl,by decide +kernel,by decide +kernel⟩
def gLayS(C:Addr):List U->MM->UK->Prop:=λus M Q=>∃(s h kp:Nat)(A:Mc)(r:Nat)(t:Th),us=[.m s, .p (.int r), .p (.str t.kd), .p (qU (A.wt t))]/\StA C M s h kp A/\r<8/\A.ThOk t/\2<=t.sz A.bits/\(A.os.length:Int)+t.sz A.bits<=A.most/\Go C M s h kp (A.lay r t) (Q (.p .non))
theorem ok_layS(F:Fun Ξ "lay" "Store.lay" k9 f fd)(N:Nms mg)(TP:TxStore Ξ C)(DWordOf:Def P w Ξ mg base "word_of" 3 ["laying","worth"] (spP xk)):FnOk P w Ξ mg base CX0 4 f fd ["self","r","kind","thing"] (spU (gLayS C)):=by
 refine F.zU KN (λus M Qu h=>?_) (λcdv A outer s H E hr=>?_)
 ·obtain⟨_,_,_,_,_,_,rfl,_⟩:=h
  rfl
 refine⟨_,(qf (zd (qm DWordOf (Wl hr) (qa_c (vd (qv 0) rfl) (qa_c (qS (qa_c (qv 2) (qa_c (qK vq (by rfl) N.len jx (qa_c (vd (qv 0) rfl) qc)) qc))) qc))) (zw (vd (qv 0) rfl) (qv 1) vK))
  (qi (vN (QP PySem.F.slot_list_extend PySem.F.type_list_extend Qk (vd (qv 0) rfl) (qa_c (qv 3) qc))))),_,(qh (qx (qo (qa (ve (qb 0)) (qa (qT (qa (qb 2) (qa (xo (qa (ve (qb 0)) qd)) qd))) qd))) (qab (ve (qb 0)) (qb 1)))
   (vR (QU jU (ve (qb 0)) (qa (qb 3) qd)))),λus M Qu h=>?_⟩
 obtain⟨s,h,kp,A,r,t,rfl,S,hr,ht,h2,hf,g⟩:=h;have hh:=(Ue.mp S.S.h0).1;have hk:=(Ue.mp S.S.k0).1;symm;refine jq TP S ?_;symm;refine VP TP S ?_;symm;refine jV S.S.k0 ?_;symm;simp only[Ug];rw[<-YD];refine Xp S.O.R ?_ ?_
 ·obtain⟨m,hm⟩:=S.O.R.kind (kind:=t.kd) (by cases t<;>(simp only[Th.kd]; decide))
  have hl:=(Mc.most_le S.O (k:=t.kd) (by cases t<;>simp[Th.kd])).1;show Vld _ _ _ (qQ A.ms t.kd);rw[hm.mk] at hl ⊢;refine⟨hm,λz=>?_,λ_=>⟨DN _,by show(A.os.length:Int)<_; lia⟩,λz=>?_,λz=>?_⟩<;>(have z:t.kd=_:=z)<;>cases t<;>exact absurd z (by simp only[Th.kd]; decide)
 symm;refine jW TP S ?_;symm;refine Vh S.S.h0 (by rw[S.l8]; exact hr) ?_;have s1:(M.set h (iM (A.ws.set r (wdK A.bits A.ms (t.kd,(A.os.length:Int))))))[s]?=some (.ins C (fldC A.bits A.ms A.room h kp A.qu A.sl A.sw)):=by rw[Uz S.S.sh.symm]; exact S.S.s0
 have k1:(M.set h (iM (A.ws.set r (wdK A.bits A.ms (t.kd,(A.os.length:Int))))))[kp]?=some (iM A.os):=by rw[Uz S.S.hk]; exact S.S.k0
 symm;refine vT TP.c TP.n4 s1 (by rfl) ?_;symm;refine W7 k1 ?_;symm;have hm:=(Mc.most_le S.O (k := "far") (.inl rfl)).2;have hw:=@Mc.wt_len A t;refine⟨_,k1,_,rfl,by simp only[Ug,sizeLine_eq]; lia, ?_⟩;rw[<-Um, <-Um];refine g _ h kp ((V2 (by simp)).trans (V2 (F:=[s,h,kp]) (by simp)) λi hi=>.inl hi) (.inl rfl) (.inl rfl) ⟨Mc.ok_lay S.O ht hf, ?_, ?_, ?_,S.S.sh,S.S.sk,S.S.hk⟩
 ·rw[Uz S.S.sk.symm]
  exact s1
 ·rw[Uz S.S.hk.symm,Uw hh,Mc.ws_lay S.O]
 ·rw[Uw (by rw[Ut]; exact hk),Mc.os_lay S.O ht]
abbrev zc:Stmt:=qE (top 48) 7
theorem scStoreNumber:FnScope ["self","r","n","thing"] ["self","r","n"] (qg zc):=⟨rfl,rfl,rfl,by decide +kernel,rfl,by decide +kernel,by decide +kernel⟩
noncomputable def Mc.num(A:Mc)(r:Nat)(n:Int):Mc×Bool :=
 if qL A.sm n=true then(A.put r (.w ("small", n)),true)
 else if 2^(A.bits-2).toNat<=(lcnt A.bits n:Int) then(A,false)
 else if((A.mk' (lcnt A.bits n+1)).os.length:Int)+(lcnt A.bits n+1:Nat)<=A.most then((A.mk' (lcnt A.bits n+1)).lay r (.far n),true)
 else(A.mk' (lcnt A.bits n+1),false)
def gNumS(C:Addr):List U->MM->UK->UX->Prop:=λus M Q X=>∃(s h kp:Nat)(A:Mc)(r:Nat)(n:Int),us=[.m s, .p (.int r), .p (.int n)]/\StA C M s h kp A/\r<8/\Bt 20000 n/\((A.num r n).2=true->Go C M s h kp (A.num r n).1 (Q (.p .non)))/\((A.num r n).2=false->Go C M s h kp (A.num r n).1 (X "NoRoom" none))
theorem Mc.mk_keep{A:Mc}:(A.mk' n).bits=A.bits/\(A.mk' n).ms=A.ms/\(A.mk' n).room=A.room:=by unfold Mc.mk'; split<;>exact⟨rfl,rfl,rfl⟩
theorem WK(F:Fun Ξ "number" "Store.number" zc f fd)(N:Nms mg)(TP:TxStore Ξ C)(TStore:Cls Ξ C)(ONoRoom:ExcC Ξ mg "NoRoom" CENoRoom)(DIsSmall:Def P w Ξ mg base "is_small" 3 ["laying","n"] (spP ky))(DWordOf:Def P w Ξ mg base "word_of" 3 ["laying","worth"] (spP xk))(DIsGreat:Def P w Ξ mg base "is_great" 2 ["laying","n"] (spP kz))(DRowsOf:Def P w Ξ mg base "rows_of" 2 ["laying","n"] (spP gRows))(MStoreMakeRoom:MDefX P w Ξ mg base C "make_room" 8 ["self","size"] (spX mg (Kj C)))(MStoreLay:MDef P w Ξ mg base C "lay" 4 ["self","r","kind","thing"] (spU (gLayS C))):FnOk P w Ξ mg base (CXe P w) 9 f fd ["self","r","n"] (spX mg (gNumS C)):=by
 refine F.zX scStoreNumber (λus M Qu Xu h=>?_) (λcdv A outer s H E hr=>?_)
 ·obtain⟨_,_,_,_,_,_,rfl,_⟩:=h
  rfl
 refine⟨_,(vA (X4 (vG (xg (qm DIsSmall (Wl hr) (qa_c (vd (qv 0) rfl) (qa_c (qv 2) qc))))
   (qf (zd (qm DWordOf (Wl hr) (qa_c (vd (qv 0) rfl) (qa_c (qv 2) qc))) (zw (vd (qv 0) rfl) (qv 1) vK))
   (qi qs_retN))
   qP))
  (vA (VA (xg (qm DIsGreat (Wl hr) (qa_c (vd (qv 0) rfl) (qa_c (qv 2) qc))))
   (vb (Vz rfl rfl ONoRoom (qa_c qD qc)))
   Qd)
  (vA (X4 (qy (i:=3) scStoreNumber.nd rfl Wu (qm DRowsOf (Wl hr) (qa_c (vd (qv 0) rfl) (qa_c (qv 2) qc)))))
  (vA (vB (zf (qv 0) TStore MStoreMakeRoom (Wl hr) (qa_c (qK vq (by rfl) N.len jx (qa_c (qv 3) qc)) qc)))
  (vb (X4 (vN (qJ MStoreLay TStore (qv 0) (Wl hr) (qa_c (qv 1) (qa_c qD (qa_c (qv 3) qc))))))))))),_,(qh (vz (ct_b (qo (qa (ve (qb 0)) (qa (qb 2) qd))))
   (qh (qx (qo (qa (ve (qb 0)) (qa (qb 2) qd))) (qab (ve (qb 0)) (qb 1)))
   cs_retN)
   qM)
   (qh (vz (ct_b (qo (qa (ve (qb 0)) (qa (qb 2) qd))))
   (V9 (qa Wr qd))
   qM)
   (qh (qx (qo (qa (ve (qb 0)) (qa (qb 2) qd))) (qk 3))
   (qh (vf (zg (qb 0) (qa (xo (qa (qb 3) qd)) qd)))
   (vR (qG (qb 0) (qa (qb 1) (qa Wr (qa (qb 3) qd))))))))),λus M Qu Xu h=>?_⟩
 obtain⟨s,h,kp,A,r,n,rfl,S,hr,hn,q1,q2⟩:=h;have hb:=S.O.R.b;unfold Mc.num at q1 q2;walk_at "pk";refine jq TP S ?_;walk_at "pk";obtain⟨m,hm⟩:=S.O.R.kind (kind := "small") (by decide);have hmw:=S.O.R.w m hm.mem;have hnd:=vY m.1;have hn5:=S.O.R.n;have esm:A.sm=A.bits-m.2.1:=by unfold Mc.sm; rw[hm.mk]
 refine⟨A.bits,A.ms,n,m,rfl,by lia,hm,by lia,by lia, ?_⟩;rw[<-esm];cases hs:qL A.sm n with
 |true =>
  rw[if_pos hs] at q1 q2;walk_at "pk";refine jq TP S ?_;walk_at "pk";have hx:InW A.bits A.ms ("small", n):=by
   have h1:=of_decide_eq_true hs;rw[esm] at h1;refine⟨?_, .inl rfl⟩;show Vld _ _ _ (qQ A.ms "small");rw[hm.mk];exact⟨hm,λ_=>h1,λz=>absurd rfl z,λz=>absurd z (by dsimp only; decide),λz=>absurd z (by dsimp only; decide)⟩
  have e:=@YC n;rw[<-e];refine Xp S.O.R hx.v ?_;walk_at "pk";refine jW TP S ?_;walk_at "pk";exact put_at (x:=.w ("small", n)) S hr hx (q1 rfl)
 |false =>
  rw[if_neg (by rw[hs]; decide)] at q1 q2;walk_at "pk";refine jq TP S ?_;walk_at "pk";refine⟨A.bits,A.ms,n,rfl,by lia,by lia, ?_⟩;walk_at "pk";refine ite2 (λhg=>?_) (λhg=>?_)
  ·rw[if_pos hg] at q1 q2
   walk_at "pk";exact⟨by rw[sizeLine_eq]; decide,_,_,_,rfl,rfl,Go.here S (q2 rfl)⟩
  rw[if_neg hg] at q1 q2;walk_at "pk";refine jq TP S ?_;walk_at "pk";refine⟨A.bits,A.ms,n,rfl,by lia,by lia,hn, ?_⟩;walk_at "pk";refine mS S (by rfl) ?_;walk_at "pk";rw[Ug,zb];obtain⟨e1,e2,e3⟩:=Mc.mk_keep (A:=A) (n:=lcnt A.bits n+1);have em:(A.mk' (lcnt A.bits n+1)).most=A.most:=by unfold Mc.most; rw[e1,e2,e3]
  have hl:=xi (bits:=A.bits) (by lia) (Mc.small_ne hs);refine⟨s,h,kp,A,lcnt A.bits n+1,rfl,S,λhle M' h' kp' f a b S'=>?_,λhlt M' h' kp' f a b S'=>?_⟩
  ·rw[if_pos hle] at q1
   refine mS S' (by rfl) ?_;refine⟨s,h',kp',A.mk' _,r, .far n,by show _=[_,_,_,U.p (qU (xc _ n))]; rw[e1]; rfl,S',hr, ?_, ?_, ?_,(q1 rfl).step f a b S.lt⟩
   ·refine⟨?_, ?_⟩
    ·unfold Mc.sm at hs ⊢
     rw[e1,e2];exact hs
    ·rw[e1]
     exact D1.mp hg
   ·show 2<=lcnt _ n+1
    rw[e1];lia
   ·rw[em]
    show _+((lcnt _ n+1:Nat):Int)<=_;rw[e1];exact hle
  ·rw[if_neg (D1.mpr hlt)] at q2
   exact⟨_,_,_,rfl,rfl,q2 rfl M' h' kp' f a b S'⟩
local macro_rules | `(tactic| walk_at "vx") => `(tactic| simp only[zM,kQ,kP,zK,ze,uTry,zN,zL,kR,kW,endX,uAsG,vV])
local macro_rules | `(tactic| walk_at "pk") => `(tactic| (walk_at "v"; repeat ((first|walk_at "vx" |refine zn (by decide) ?_|refine v5 rfl ?_); walk_at "v")))
def kS(k:Str):Str:=if k = "small" \/ k = "far" then "number" else k
namespace Mc
def rd(A:Mc):Rf->T
 |.w x=>tOf x
 |.t i=>match A.th i with
  |.far n=>.int n
  |.pr _ _=>.tup [.str "pair", .int (A.pl i)]
def tl(A:Mc):Rf->T
 |.w x=>tOf x
 |.t i=>match A.th i with
  |.far n=>.int n
  |.pr _ _=>.str "pair"
def nv(A:Mc):Rf->Option Int
 |.w x=>if x.1 = "small" then some x.2 else none
 |.t i=>match A.th i with
  |.far n=>some n
  |.pr _ _=>none
def kn(A:Mc)(x:Rf):Str:=kS (A.kl x).1
theorem kn_nv{A:Mc}(h:A.RfOk x):A.kn x = "number" ↔ A.nv x≠none:=by
 cases x with
 |w x =>
  have h:InW A.bits A.ms x:=h;show kS x.1 = "number" ↔ (if x.1 = "small" then some x.2 else none)≠none;rcases h.k with e|e|e<;>rw[e]
  ·exact⟨λ_=>by rw[if_pos rfl]; exact(λz=>nomatch z),λ_=>by decide⟩
  ·exact⟨λz=>absurd z (by decide),λz=>absurd (if_neg (by decide)) z⟩
  ·exact⟨λz=>absurd z (by decide),λz=>absurd (if_neg (by decide)) z⟩
 |t i =>
  show kS (A.th i).kd=_↔(match A.th i with | .far n=>some n | .pr _ _=>none)≠none;cases A.th i with
  |far n=>exact⟨λ_=>(λz=>nomatch z),λ_=>by show kS "far" = "number"; decide⟩
  |pr a b=>exact⟨λz=>absurd z (by show ¬kS "pair" = "number"; decide),λz=>absurd rfl z⟩
theorem tl_nv{A:Mc}(e:A.nv x=some n):A.tl x=.int n:=by
 cases x with
 |w x =>
  have e:(if x.1 = "small" then some x.2 else none)=some n:=e;split at e
  ·rename_i h
   cases e;show tOf x=_;unfold tOf;rw[if_pos h]
  ·cases e
 |t i =>
  have e:(match A.th i with | .far n=>some n | .pr _ _=>none)=some n:=e;show(match A.th i with | .far n=>T.int n | .pr _ _=>T.str "pair")=_;cases et:A.th i with
  |far k=>rw[et] at e; cases e; rfl
  |pr a b=>rw[et] at e; cases e
theorem kn_pair{A:Mc}(h:A.RfOk x):(A.kn x = "pair" -> A.tl x=.str "pair")/\(¬A.kn x = "pair" -> A.tl x=A.rd x):=by
 cases x with
 |w x =>
  have h:InW A.bits A.ms x:=h;refine⟨λz=>?_,λ_=>rfl⟩;have z:kS x.1 = "pair" := z;rcases h.k with e|e|e<;>rw[e] at z<;>exact absurd z (by decide)
 |t i =>
  show(kS (A.th i).kd=_->(match A.th i with | .far n=>T.int n | .pr _ _=>T.str "pair")=_)/\(¬kS (A.th i).kd=_->(match A.th i with | .far n=>T.int n | .pr _ _=>T.str "pair")=(match A.th i with | .far n=>T.int n | .pr _ _=>.tup [.str "pair", .int (A.pl i)]));cases A.th i with
  |far n=>exact⟨λz=>absurd z (by show ¬kS "far" = "pair"; decide),λ_=>rfl⟩
  |pr a b=>exact⟨λ_=>rfl,λz=>absurd (by show kS "pair" = "pair"; decide) z⟩
end Mc
abbrev xP:Stmt:=qE (top 48) 1
theorem Zr:FnScope ["self"] ["self"] (qg xP):=⟨rfl,rfl,rfl,by decide +kernel,rfl,by decide +kernel,by decide +kernel⟩
def Jo(C:Addr):List U->MM->UK->Prop:=λus M Q=>∃(s h kp:Nat)(A:Mc),us=[.m s]/\StA C M s h kp A/\Q (.p (qU A.ws)) M
def gSOut(C:Addr):List U->MM->UK->Prop:=λus M Q=>∃(s h kp:Nat)(A:Mc),us=[.m s]/\StA C M s h kp A/\Q (.p (qU A.os)) M
theorem YJ(e:M[k]?=some (iM l)):sn M (.m k)=some (qU l):=by
 simp only[sn,e];rw[xt];rfl
theorem WE(F:Fun Ξ "words" "Store.words" xP f fd)(N:Nms mg)(TP:TxStore Ξ C):FnOk P w Ξ mg base CX0 1 f fd ["self"] (spU (Jo C)):=by
 refine F.zU Zr (λus M Qu h=>?_) (λcdv A outer s H E hr=>?_)
 ·obtain⟨_,_,_,_,rfl,_⟩:=h
  rfl
 refine⟨_,(qi (qt (vH vJ (by rfl) N.list QK (qa_c (vd (qv 0) rfl) qc)))),_,(qB (zB jv (qa (ve (qb 0)) qd))),λus M Qu h=>?_⟩;obtain⟨s,h,kp,A,rfl,S,q⟩:=h;symm;refine jW TP S ?_;symm;exact⟨_,by rw[sns,YJ S.S.h0]; rfl,_,_,rfl,rfl,q⟩
abbrev zC:Stmt:=qE (top 48) 2
theorem QN:FnScope ["self"] ["self"] (qg zC):=⟨rfl,rfl,rfl,by decide +kernel,rfl,by decide +kernel,by decide +kernel⟩
theorem ok_sout(F:Fun Ξ "outside" "Store.outside" zC f fd)(N:Nms mg)(TP:TxStore Ξ C):FnOk P w Ξ mg base CX0 1 f fd ["self"] (spU (gSOut C)):=by
 refine F.zU QN (λus M Qu h=>?_) (λcdv A outer s H E hr=>?_)
 ·obtain⟨_,_,_,_,rfl,_⟩:=h
  rfl
 refine⟨_,(qi (qt (vH vJ (by rfl) N.list QK (qa_c (vd (qv 0) rfl) qc)))),_,(qB (zB jv (qa (ve (qb 0)) qd))),λus M Qu h=>?_⟩;obtain⟨s,h,kp,A,rfl,S,q⟩:=h;symm;refine VP TP S ?_;symm;exact⟨_,by rw[sns,YJ S.S.k0]; rfl,_,_,rfl,rfl,q⟩
abbrev zW:Stmt:=qE (top 48) 11
theorem Vj:FnScope ["self","q"] ["self","q"] (qg zW):=⟨rfl,rfl,rfl,by decide +kernel,rfl,by decide +kernel,by decide +kernel⟩
def gSInW(C:Addr):List U->MM->UK->Prop:=λus M Q=>∃(s h kp:Nat)(A:Mc)(q:Nat)(x:Rf),us=[.m s, .p (.int q)]/\StA C M s h kp A/\A.rg[q]?=some x/\Q (.p (.bl (decide ((A.kl x).1 = "small")))) M
theorem StA.ok{q:Nat}(S:StA C M s h kp A)(e:A.rg[q]?=some x):A.RfOk x:=S.O.g x (Uh e)
theorem ok_sinw(F:Fun Ξ "in_word" "Store.in_word" zW f fd)(TP:TxStore Ξ C)(DMarkOf:Def P w Ξ mg base "mark_of" 2 ["laying","word"] (spP xl)):FnOk P w Ξ mg base CX0 3 f fd ["self","q"] (spU (gSInW C)):=by
 refine F.zU Vj (λus M Qu h=>?_) (λcdv A outer s H E hr=>?_)
 ·obtain⟨_,_,_,_,_,_,rfl,_⟩:=h
  rfl
 refine⟨_,(qi (qt (vC vD (qm DMarkOf (Wl hr) (qa_c (vd (qv 0) rfl) (qa_c (qH (Ua Ξ) (vd (qv 0) rfl) (qv 1) (λ_ _=>rfl)) qc))) qD (qA _)))),_,(qB (qj qX (qo (qa (ve (qb 0)) (qa (vE (ve (qb 0)) (qb 1)) qd))) Wr)),λus M Qu h=>?_⟩;obtain⟨s,h,kp,A,q',x,rfl,S,hq,q⟩:=h;symm;refine jq TP S ?_;symm;refine jW TP S ?_;symm;refine Gw S hq ?_;symm;have hn:=S.O.R.n;refine⟨A.bits,A.ms,_,rfl,S.O.R.wd,by lia, ?_⟩;rw[Mc.mark_wd S.O (S.ok hq)];symm;exact q
def Gi:List (Str×V):=[("small", .str "number"),("far", .str "number"),("pair", .str "pair"),("sign", .str "sign"),("one", .str "one")]
def kindsT:List (Str×T):=[("small", .str "number"),("far", .str "number"),("pair", .str "pair"),("sign", .str "sign"),("one", .str "one")]
theorem kinds_sc:Paired (λ(a:Str×V) (b:Str×T)=>a.1=b.1/\Sc a.2 b.2) Gi kindsT:=.cons ⟨rfl, .str _⟩ (.cons ⟨rfl, .str _⟩ (.cons ⟨rfl, .str _⟩ (.cons ⟨rfl, .str _⟩ (.cons ⟨rfl, .str _⟩ .nil))))
theorem Gj{A:Mc}(h:A.RfOk x):kindsT.lookup (A.kl x).1=some (.str (A.kn x)):=by
 unfold Mc.kn;cases x with
 |w x =>
  have h:InW A.bits A.ms x:=h;show kindsT.lookup x.1=some (.str (kS x.1));rcases h.k with e|e|e<;>rw[e]<;>rfl
 |t i =>
  show kindsT.lookup (A.th i).kd=some (.str (kS (A.th i).kd));cases A.th i<;>rfl
abbrev jG:Stmt:=qE (top 48) 26
theorem XJ:FnScope ["self","q"] ["self","q"] (qg jG):=⟨rfl,rfl,rfl,by decide +kernel,rfl,by decide +kernel,by decide +kernel⟩
def Z4(C:Addr):List U->MM->UK->Prop:=λus M Q=>∃(s h kp:Nat)(A:Mc)(q:Nat)(x:Rf),us=[.m s, .p (.int q)]/\StA C M s h kp A/\A.rg[q]?=some x/\Q (.p (.str (A.kn x))) M
theorem ok_skind(F:Fun Ξ "kind" "Store.kind" jG f fd)(N:Nms mg)(TP:TxStore Ξ C)(DKinds:KDi Ξ w mg "KINDS_BY_MARK" kd Gi)(DMarkOf:Def P w Ξ mg base "mark_of" 2 ["laying","word"] (spP xl)):FnOk P w Ξ mg base CX0 3 f fd ["self","q"] (spU (Z4 C)):=by
 refine F.zU XJ (λus M Qu h=>?_) (λcdv A outer s H E hr=>?_)
 ·obtain⟨_,_,_,_,_,_,rfl,_⟩:=h
  rfl
 refine⟨_,(qi (qt (qe_kd DKinds rfl (qm DMarkOf (Wl hr) (qa_c (vd (qv 0) rfl) (qa_c (qH (Ua Ξ) (vd (qv 0) rfl) (qv 1) (λ_ _=>rfl)) qc))) (λ_ _=>rfl)))),_,(qB (ce_kd kinds_sc (qo (qa (ve (qb 0)) (qa (vE (ve (qb 0)) (qb 1)) qd))))),λus M Qu h=>?_⟩;obtain⟨s,h,kp,A,q',x,rfl,S,hq,q⟩:=h;symm;unfold uKD;symm;refine jq TP S ?_;symm;refine jW TP S ?_;symm;refine Gw S hq ?_;symm;have hn:=S.O.R.n;refine⟨A.bits,A.ms,_,rfl,S.O.R.wd,by lia, ?_⟩;rw[Mc.mark_wd S.O (S.ok hq)];symm;exact⟨_,_,rfl,Gj (S.ok hq),q⟩
abbrev jI:Stmt:=top 37
theorem scReadWorth:FnScope ["laying","outside","word","worth"] ["laying","outside","word"] (qg jI):=⟨rfl,rfl,rfl,by decide +kernel,rfl,by decide +kernel,by decide +kernel⟩
def GG:List U->MM->UK->Prop:=λus M Q=>∃(kp:Nat)(A:Mc)(x:Rf),us=[.p (layT A.bits A.ms), .m kp, .p (.int (A.wd x))]/\A.Ok/\M[kp]?=some (iM A.os)/\A.RfOk x/\Q (.p (A.rd x)) M
theorem ok_readW(F:Fun Ξ "read_worth" "read_worth" jI f fd)(N:Nms mg)(DWorthOf:Def P w Ξ mg base "worth_of" 3 ["laying","word"] (spP VR))(DMarkOf:Def P w Ξ mg base "mark_of" 2 ["laying","word"] (spP xl))(DNumberAt:Def P w Ξ mg base "number_at" 2 ["laying","outside","address"] (spP gNumG)):FnOk P w Ξ mg base CX0 4 f fd ["laying","outside","word"] (spU GG):=by
 refine F.zU scReadWorth (λus M Qu h=>?_) (λcdv A outer s H E hr=>?_)
 ·obtain⟨_,_,_,rfl,_⟩:=h
  rfl
 refine⟨_,(qf (qy (i:=3) scReadWorth.nd rfl Wu (qm DWorthOf (Wl hr) (qa_c (qv 0) (qa_c (qv 2) qc))))
  (qf (vG (qw vD (qm DMarkOf (Wl hr) (qa_c (qv 0) (qa_c (qv 2) qc))) qD (qA _))
   (qi (qt (qm DNumberAt (Wl hr) (qa_c (qv 0) (qa_c (qv 1) (qa_c (qH (Ub Ξ) (qv 3) qe (λ_ _=>rfl)) qc))))))
   qP)
  (qi (qt (qv 3))))),_,(qh (qx (qo (qa (qb 0) (qa (qb 2) qd))) (qk 3))
   (qh (vz (qC (qj qX (qo (qa (qb 0) (qa (qb 2) qd))) Wr))
   (qB (KD (qa (qb 0) (qa (qb 1) (qa (vi (qb 3) Wm) qd)))))
   qM)
   (qB (qb 3)))),λus M Qu h=>?_⟩
 obtain⟨kp,A,x,rfl,O,hk,hx,q⟩:=h;symm;have v:=Mc.vld O hx;have hth:=v.there O.R;refine⟨A.bits,A.ms,_,rfl,O.R,hth.1, ?_⟩;rw[show Zf A.bits A.ms (A.wd x)=tOf (A.kl x) from hth.2.2];symm;have hn:=O.R.n;refine⟨A.bits,A.ms,_,rfl,O.R.wd,by lia, ?_⟩;rw[Mc.mark_wd O hx];symm;refine ite2 (λz=>?_) (λz=>?_)
 ·cases x with
  |w x =>
   have hx:InW A.bits A.ms x:=hx;have z:x.1 = "far" := z;rcases hx.k with e|e|e<;>rw[e] at z<;>exact absurd z (by decide)
  |t i =>
   have z:(A.th i).kd = "far" := z;have ht:=O.t i hx;obtain⟨l,r,_,_,eo,ep⟩:=Mc.at_ O hx;cases et:A.th i with
   |pr a b=>rw[et] at z; exact absurd z (by simp only[Th.kd]; decide)
   |far n =>
    rw[et] at ht;have hb:=O.R.b;have h4:=Mc.head_4 (bits:=A.bits) (by lia) (Mc.small_ne ht.1);have hd:=Mc.hd_at O hx;have hl:=Mc.pl_lt O hx;have hz:=Mc.os_le O;rw[show A.hd i=v8 A.bits n by unfold Mc.hd; rw[et]] at hd;rw[show A.sz i=lcnt A.bits n+1 by unfold Mc.sz; rw[et]; rfl] at hl;have en:numI A.bits.toNat A.os (A.pl i) (v8 A.bits n)=n:=by
     rw[eo,ep,show A.tw i=xc A.bits n by unfold Mc.tw; rw[et]];exact Mc.num_at (by lia) (Mc.small_ne ht.1)
    rw[show A.rd (.t i)=.int n by unfold Mc.rd; simp only[et]] at q;show _;rw[show A.kl (.t i)=((A.th i).kd,(A.pl i:Int)) from rfl,YD];simp only[JQ];symm;exact⟨[layT A.bits A.ms,qU A.os, .int (A.pl i)],by simp only[frzs,Q6,jc hk],A.bits,A.ms,A.os,A.pl i,v8 A.bits n,rfl,hd,h4.1,by rw[h4.2.2.2.2]; lia,by lia,by lia,by lia,Mc.os_ok O,by rw[en]; exact⟨⟨_,rfl⟩,q⟩⟩
 ·symm
  have e:A.rd x=tOf (A.kl x):=by
   cases x with
   |w x=>rfl
   |t i =>
    have z:¬(A.th i).kd = "far" := z;show(match A.th i with | .far n=>T.int n | .pr _ _=>.tup [.str "pair", .int (A.pl i)])=tOf ((A.th i).kd,(A.pl i:Int));rw[YD];cases et:A.th i with
    |far n=>rw[et] at z; exact absurd rfl z
    |pr a b=>rfl
  rw[<-e];exact q
local macro_rules | `(tactic| walk_at "vx") => `(tactic| simp only[zM,kQ,kP,zK,ze,uTry,zN,zL,kR,kW,endX,uAsG,vV])
local macro_rules | `(tactic| walk_at "pk") => `(tactic| (walk_at "v"; repeat ((first|walk_at "vx" |refine zn (by decide) ?_|refine v5 rfl ?_); walk_at "v")))
abbrev jA:Stmt:=qE (top 48) 27
theorem XC:FnScope ["self","q"] ["self","q"] (qg jA):=⟨rfl,rfl,rfl,by decide +kernel,rfl,by decide +kernel,by decide +kernel⟩
def zO(C:Addr):List U->MM->UK->Prop:=λus M Q=>∃(s h kp:Nat)(A:Mc)(q:Nat)(x:Rf),us=[.m s, .p (.int q)]/\StA C M s h kp A/\A.rg[q]?=some x/\Q (.p (A.tl x)) M
theorem ok_stold(F:Fun Ξ "told" "Store.told" jA f fd)(N:Nms mg)(TP:TxStore Ξ C)(TStore:Cls Ξ C)(MStoreKind:MDef P w Ξ mg base C "kind" 3 ["self","q"] (spU (Z4 C)))(DReadWorth:Def P w Ξ mg base "read_worth" 4 ["laying","outside","word"] (spU GG)):FnOk P w Ξ mg base CX0 5 f fd ["self","q"] (spU (zO C)):=by
 refine F.zU XC (λus M Qu h=>?_) (λcdv A outer s H E hr=>?_)
 ·obtain⟨_,_,_,_,_,_,rfl,_⟩:=h
  rfl
 refine⟨_,(qf (vG (qw vD (qJ MStoreKind TStore (qv 0) (Wl hr) (qa_c (qv 1) qc)) qD (qA _))
   (qi (qt qD))
   qP)
  (qi (qt (qm DReadWorth (Wl hr) (qa_c (vd (qv 0) rfl) (qa_c (vd (qv 0) rfl) (qa_c (qH (Ua Ξ) (vd (qv 0) rfl) (qv 1) (λ_ _=>rfl)) qc))))))),_,(qh (vz (qC (qj qX (qG (qb 0) (qa (qb 1) qd)) Wr))
   (qB Wr)
   qM)
   (qB (qF (qa (ve (qb 0)) (qa (ve (qb 0)) (qa (vE (ve (qb 0)) (qb 1)) qd)))))),λus M Qu h=>?_⟩
 obtain⟨s,h,kp,A,q',x,rfl,S,hq,q⟩:=h;have hp:=Mc.kn_pair (S.ok hq);symm;refine mS S (by rfl) ?_;symm;refine⟨s,h,kp,A,q',x,rfl,S,hq, ?_⟩;symm;refine ite2 (λz=>?_) (λz=>?_)
 ·symm
  rw[hp.1 z] at q;exact q
 symm;refine jq TP S ?_;symm;refine VP TP S ?_;symm;refine jW TP S ?_;symm;refine Gw S hq ?_;symm;exact⟨kp,A,x,rfl,S.O,S.S.k0,S.ok hq,by rw[<-hp.2 z]; exact q⟩
theorem sm1:kZ 1:=by unfold kZ; decide
theorem sm2:kZ 2:=by unfold kZ; decide
abbrev z0:Stmt:=top 20
theorem Vl:FnScope ["store","q","p"] ["store","q","p"] (qg z0):=⟨rfl,rfl,rfl,by decide +kernel,rfl,by decide +kernel,by decide +kernel⟩
def j8(C:Addr):List U->MM->UK->UX->Prop:=λus M Q X=>∃(s h kp:Nat)(A:Mc)(q p:Nat)(x y:Rf),us=[.m s, .p (.int q), .p (.int p)]/\StA C M s h kp A/\A.rg[q]?=some x/\A.rg[p]?=some y/\(∀a b,A.nv x=some a->A.nv y=some b->Q (.p .non) M)/\(A.nv x=none->X "WrongKind" (some 1) M)/\(∀a,A.nv x=some a->A.nv y=none->X "WrongKind" (some 2) M)
theorem ok_needN(F:Fun Ξ "need_numbers" "need_numbers" z0 f fd)(TStore:Cls Ξ C)(DWk:ExcD P w Ξ mg base "WrongKind" CW 1)(MStoreKind:MDef P w Ξ mg base C "kind" 3 ["self","q"] (spU (Z4 C))):FnOk P w Ξ mg base (CXe P w) 4 f fd ["store","q","p"] (spX mg (j8 C)):=by
 refine F.zX Vl (λus M Qu Xu h=>?_) (λcdv A outer s H E hr=>?_)
 ·obtain⟨_,_,_,_,_,_,_,_,rfl,_⟩:=h
  rfl
 refine⟨_,(vA (VA (qw Ja (qJ MStoreKind TStore (qv 0) (Wl hr) (qa_c (qv 1) qc)) qD (qA _))
   (vb (Zw rfl rfl DWk (Wl hr) (qa_c qe qc)))
   Qd)
  (vb (VA (qw Ja (qJ MStoreKind TStore (qv 0) (Wl hr) (qa_c (qv 2) qc)) qD (qA _))
   (vb (Zw rfl rfl DWk (Wl hr) (qa_c qe qc)))
   Qd))),_,(qh (vz (qC (qj Qi (qG (qb 0) (qa (qb 1) qd)) Wr))
   (Xe (qa Wm qd))
   qM)
   (vz (qC (qj Qi (qG (qb 0) (qa (qb 2) qd)) Wr))
   (Xe (qa Wm qd))
   qM)),λus M Qu Xu h=>?_⟩
 obtain⟨s,h,kp,A,q,p,x,y,rfl,S,hq,hp,k1,k2,k3⟩:=h;have ix:=Mc.kn_nv (S.ok hq);have iy:=Mc.kn_nv (S.ok hp);walk_at "pk";refine mS S (by rfl) ?_;walk_at "pk";refine⟨s,h,kp,A,q,x,rfl,S,hq, ?_⟩;walk_at "pk";cases ex:A.nv x with
 |none =>
  refine v5 (by rw[decide_eq_false (λz=>ix.mp z ex)]; rfl) ?_;exact⟨1,rfl,sm1,_,_,_,rfl,rfl,k2 ex⟩
 |some a =>
  rw[ix.mpr (by rw[ex]; exact λz=>nomatch z)];walk_at "pk";refine mS S (by rfl) ?_;walk_at "pk";refine⟨s,h,kp,A,p,y,rfl,S,hp, ?_⟩;walk_at "pk";cases ey:A.nv y with
  |none =>
   refine v5 (by rw[decide_eq_false (λz=>iy.mp z ey)]; rfl) ?_;exact⟨2,rfl,sm2,_,_,_,rfl,rfl,k3 a ex ey⟩
  |some b =>
   rw[iy.mpr (by rw[ey]; exact λz=>nomatch z)];walk_at "pk";exact k1 a b ex ey
abbrev xa:Stmt:=top 21
theorem Vm:FnScope ["store","q","p"] ["store","q","p"] (qg xa):=⟨rfl,rfl,rfl,by decide +kernel,rfl,by decide +kernel,by decide +kernel⟩
def Kl(C:Addr):List U->MM->UK->UX->Prop:=λus M Q X=>∃(s h kp:Nat)(A:Mc)(q p:Nat)(x y:Rf),us=[.m s, .p (.int q), .p (.int p)]/\StA C M s h kp A/\A.rg[q]?=some x/\A.rg[p]?=some y/\(∀a b,A.nv x=some a->A.nv y=some b->b≠0->Q (.p .non) M)/\(A.nv x=none->X "WrongKind" (some 1) M)/\(∀a,A.nv x=some a->A.nv y=none->X "WrongKind" (some 2) M)/\(∀a,A.nv x=some a->A.nv y=some 0->X "Nought" none M)
theorem ok_needD(F:Fun Ξ "need_divisor" "need_divisor" xa f fd)(TStore:Cls Ξ C)(ONought:ExcC Ξ mg "Nought" CENought)(DNeedNumbers:DefX P w Ξ mg base "need_numbers" 4 ["store","q","p"] (spX mg (j8 C)))(MStoreTold:MDef P w Ξ mg base C "told" 5 ["self","q"] (spU (zO C))):FnOk P w Ξ mg base (CXe P w) 6 f fd ["store","q","p"] (spX mg (Kl C)):=by
 refine F.zX Vm (λus M Qu Xu h=>?_) (λcdv A outer s H E hr=>?_)
 ·obtain⟨_,_,_,_,_,_,_,_,rfl,_⟩:=h
  rfl
 refine⟨_,(vA (vB (xV DNeedNumbers (Wl hr) (qa_c (qv 0) (qa_c (qv 1) (qa_c (qv 2) qc)))))
  (vb (VA (qw vD (qJ MStoreTold TStore (qv 0) (Wl hr) (qa_c (qv 2) qc)) qe (qA _))
   (vb (Vz rfl rfl ONought (qa_c qD qc)))
   Qd))),_,(qh (vf (je (qa (qb 0) (qa (qb 1) (qa (qb 2) qd)))))
   (vz (qC (qj qX (qG (qb 0) (qa (qb 2) qd)) Wm))
   (V9 (qa Wr qd))
   qM)),λus M Qu Xu h=>?_⟩
 obtain⟨s,h,kp,A,q,p,x,y,rfl,S,hq,hp,k1,k2,k3,k4⟩:=h;walk_at "pk";refine⟨s,h,kp,A,q,p,x,y,rfl,S,hq,hp,λa b ea eb=>?_,λe=>⟨_,_,_,rfl,rfl,k2 e⟩,λa ea e=>⟨_,_,_,rfl,rfl,k3 a ea e⟩⟩;walk_at "pk";refine mS S (by rfl) ?_;walk_at "pk";refine⟨s,h,kp,A,p,y,rfl,S,hp, ?_⟩;rw[Mc.tl_nv eb];walk_at "pk";refine ite2 (λz=>?_) (λz=>?_)
 ·subst z
  walk_at "pk";exact⟨by rw[sizeLine_eq]; decide,_,_,_,rfl,rfl,k4 a ea eb⟩
 ·walk_at "pk"
  exact k1 a b ea eb z
local macro_rules | `(tactic| walk_at "vx") => `(tactic| simp only[zM,kQ,kP,zK,ze,uTry,zN,zL,kR,kW,endX,uAsG,vV])
local macro_rules | `(tactic| walk_at "pk") => `(tactic| (walk_at "v"; repeat ((first|walk_at "vx" |refine zn (by decide) ?_|refine v5 rfl ?_); walk_at "v")))
theorem JL(I:UEnv->MM->Prop)(h1:∀nx:UEnv->MM->Prop,(∀ρ' M',I ρ' M'->nx ρ' M')->a { E with nx:=nx } ρ M)(h2:∀ρ' M',I ρ' M'->b E ρ' M'):uSeq a b E ρ M:=h1 _ h2
def Rf.isW:Rf->Bool
 |.w x=>decide (x.1 = "small")
 |.t _=>false
namespace Mc
theorem kl_isW{A:Mc}:decide ((A.kl x).1 = "small")=x.isW:=by
 cases x with
 |w x=>rfl
 |t i =>
  show decide ((A.th i).kd = "small")=false;cases A.th i with
  |far n=>show decide (("far" : Str) = "small")=false; decide
  |pr a b=>show decide (("pair" : Str) = "small")=false; decide
def cnt(A:Mc)(b:Bool):Mc:=if b=true then { A with qu:=A.qu+1 } else { A with sl:=A.sl+1 }
noncomputable def two(A:Mc)(r:Nat)(x y:Rf)(n:Int):Mc×Bool:=if(A.num r n).2=true then((A.num r n).1.cnt (x.isW&&y.isW&&qL A.sm n),true) else A.num r n
theorem num_at_r{A:Mc}(O:A.Ok)(hr:r<8)(h:(A.num r n).2=true):∃x,(A.num r n).1.rg[r]?=some x/\x.isW=qL A.sm n:=by
 have hl:∀k,(A.mk' k).rg.length=8:=λk=>by unfold mk'; split<;>exact O.l8
 unfold num at h ⊢;split at h
 ·rename_i hs
  rw[if_pos hs,hs];exact⟨_,Uw (by rw[O.l8]; exact hr),by show decide (("small" : Str) = "small")=true; decide⟩
 rename_i hs;split at h
 ·cases h
 rename_i hg;split at h
 ·rename_i hf
  rw[if_neg hs,if_neg hg,if_pos hf,DX.mpr hs];exact⟨_,Uw (by rw[hl]; exact hr),rfl⟩
 ·cases h
end Mc
theorem StA.cnt(S:StA C M s h kp A)(e:fs=fldC A.bits A.ms A.room h kp (A.cnt b).qu (A.cnt b).sl A.sw):StA C (M.set s (.ins C fs)) s h kp (A.cnt b):=by
 subst e;have hk:(A.cnt b).Ok/\(A.cnt b).bits=A.bits/\(A.cnt b).ms=A.ms/\(A.cnt b).room=A.room/\(A.cnt b).sw=A.sw/\(A.cnt b).ws=A.ws/\(A.cnt b).os=A.os:=by
  have O:=S.O;unfold Mc.cnt;split<;>exact⟨⟨O.R,O.l8,O.g,O.d,O.b,O.t,O.f,O.m⟩,rfl,rfl,rfl,rfl,rfl,rfl⟩
 obtain⟨O,e1,e2,e3,e4,e5,e6⟩:=hk;refine⟨O, ?_, ?_, ?_,S.S.sh,S.S.sk,S.S.hk⟩
 ·rw[e1,e2,e3,e4]
  exact Uw S.lt
 ·rw[e5,Uz S.S.sh]; exact S.S.h0
 ·rw[e6,Uz S.S.sk]; exact S.S.k0
abbrev zl:Stmt:=qE (top 48) 12
theorem scStoreComeOfTwo:FnScope ["self","r","q","p","n","in_words"] ["self","r","q","p","n"] (qg zl):=⟨rfl,rfl,rfl,by decide +kernel,rfl,by decide +kernel,by decide +kernel⟩
def Jp(C:Addr):List U->MM->UK->UX->Prop:=λus M Q X=>∃(s h kp:Nat)(A:Mc)(r q p:Nat)(x y:Rf)(n:Int),us=[.m s, .p (.int r), .p (.int q), .p (.int p), .p (.int n)]/\StA C M s h kp A/\r<8/\A.rg[q]?=some x/\A.rg[p]?=some y/\Bt 20000 n/\((A.two r x y n).2=true->Go C M s h kp (A.two r x y n).1 (Q (.p .non)))/\((A.two r x y n).2=false->Go C M s h kp (A.two r x y n).1 (X "NoRoom" none))
theorem ok_stwo(F:Fun Ξ "come_of_two" "Store.come_of_two" zl f fd)(TP:TxStore Ξ C)(TStore:Cls Ξ C)(MStoreInWord:MDef P w Ξ mg base C "in_word" 3 ["self","q"] (spU (gSInW C)))(MStoreNumber:MDefX P w Ξ mg base C "number" 9 ["self","r","n"] (spX mg (gNumS C))):FnOk P w Ξ mg base (CXe P w) 10 f fd ["self","r","q","p","n"] (spX mg (Jp C)):=by
 refine F.zX scStoreComeOfTwo (λus M Qu Xu h=>?_) (λcdv A outer s H E hr=>?_)
 ·obtain⟨_,_,_,_,_,_,_,_,_,_,rfl,_⟩:=h
  rfl
 refine⟨_,(vA (X4 (qy (i:=5) scStoreComeOfTwo.nd rfl Wu (Q0 (qJ MStoreInWord TStore (qv 0) (Wl hr) (qa_c (qv 2) qc)) (JZ (qJ MStoreInWord TStore (qv 0) (Wl hr) (qa_c (qv 3) qc))))))
  (vA (vB (zf (qv 0) TStore MStoreNumber (Wl hr) (qa_c (qv 1) (qa_c (qv 4) qc))))
  (vb (X4 (vG (X5 (Zx (xg (qv 5)) (Qe (xg (qJ MStoreInWord TStore (qv 0) (Wl hr) (qa_c (qv 1) qc))))))
   (qi (Qf (qv 0) qe))
   (qi (Qf (qv 0) qe))))))),_,(qh (qx (j3 (qG (qb 0) (qa (qb 2) qd)) (qG (qb 0) (qa (qb 3) qd))) (qk 5))
   (qh (vf (zg (qb 0) (qa (qb 1) (qa (qb 4) qd))))
   (vz (G6 (ct_b (qb 5)) (ct_b (qG (qb 0) (qa (qb 1) qd))))
   (QD (qb 0) Wm)
   (QD (qb 0) Wm)))),λus M Qu Xu h=>?_⟩
 obtain⟨s,h,kp,A,r,q,p,x,y,n,rfl,S,hr,hq,hp,hn,q1,q2⟩:=h;unfold Mc.two at q1 q2;refine JL (λρ' M'=>ρ'=[some (.m s),some (.p (.int r)),some (.p (.int q)),some (.p (.int p)),some (.p (.int n)),some (.p (.bl (x.isW&&y.isW)))]/\M'=M) (λnx hnx=>?_) (λρ' M' hI=>?_)
 ·symm
  refine mS S (by rfl) ?_;symm;refine⟨s,h,kp,A,q,x,rfl,S,hq, ?_⟩;rw[Mc.kl_isW];cases ex:x.isW with
  |false =>
   symm;exact hnx _ _ ⟨by rw[ex]; rfl,rfl⟩
  |true =>
   symm;refine mS S (by rfl) ?_;symm;refine⟨s,h,kp,A,p,y,rfl,S,hp, ?_⟩;rw[Mc.kl_isW];symm;exact hnx _ _ ⟨by rw[ex]; rfl,rfl⟩
 obtain⟨rfl,rfl⟩:=hI;walk_at "pk";refine mS S (by rfl) ?_;walk_at "pk";refine⟨s,h,kp,A,r,n,rfl,S,hr,hn,λe M' h' kp' f a b S'=>?_,λe M' h' kp' f a b S'=>?_⟩
 ·rw[if_pos e] at q1
  obtain⟨z,hz,ez⟩:=Mc.num_at_r S.O hr e;generalize(A.num r n).1=B at S' q1 hz;have fin:∀(b:Bool)(fs:List (Str×U)),b=(x.isW&&y.isW&&qL A.sm n)->fs=fldC B.bits B.ms B.room h' kp' (B.cnt b).qu (B.cnt b).sl B.sw->Qu (.p .non) (M'.set s (.ins C fs)):=λc fs hc hf=>by
   subst hc;exact q1 rfl _ h' kp' (f.trans (V2 (F:=[s]) (by simp)) λi hi=>.inl (by simp at hi; simp[hi])) a b (S'.cnt hf)
  cases exy:(x.isW&&y.isW) with
  |false =>
   rw[exy] at fin;walk_at "pk";simp only[kU];walk_at "pk";exact⟨s,C,_,B.sl,rfl,S'.S.s0,TP.c,TP.n6,by rfl,1,_,rfl,S'.S.s0,by show 7<1000; decide,fin _ _ rfl rfl⟩
  |true =>
   rw[exy] at fin;walk_at "pk";refine mS S' (by rfl) ?_;walk_at "pk";refine⟨s,h',kp',B,r,z,rfl,S',hz, ?_⟩;rw[Mc.kl_isW,ez];cases esm:qL A.sm n with
   |false =>
    rw[esm] at fin;walk_at "pk";simp only[kU];walk_at "pk";exact⟨s,C,_,B.sl,rfl,S'.S.s0,TP.c,TP.n6,by rfl,1,_,rfl,S'.S.s0,by show 7<1000; decide,fin _ _ rfl rfl⟩
   |true =>
    rw[esm] at fin;walk_at "pk";simp only[kU];walk_at "pk";exact⟨s,C,_,B.qu,rfl,S'.S.s0,TP.c,TP.n5,by rfl,1,_,rfl,S'.S.s0,by show 7<1000; decide,fin _ _ rfl rfl⟩
 ·rw[if_neg (by rw[e]; decide)] at q2
  exact⟨_,_,_,rfl,rfl,q2 e M' h' kp' f a b S'⟩
def jb(C:Addr)(nt:Bool)(ok:Int->Int->Prop)(op:Int->Int->Int):List U->MM->UK->UX->Prop:=λus M Q X=>∃(s h kp:Nat)(A:Mc)(r q p:Nat)(x y:Rf),us=[.m s, .p (.int r), .p (.int q), .p (.int p)]/\StA C M s h kp A/\r<8/\A.rg[q]?=some x/\A.rg[p]?=some y/\(∀a b,A.nv x=some a->A.nv y=some b->(nt=true->b≠0)->ok a b/\Bt 20000 (op a b)/\((A.two r x y (op a b)).2=true->Go C M s h kp (A.two r x y (op a b)).1 (Q (.p .non)))/\((A.two r x y (op a b)).2=false->Go C M s h kp (A.two r x y (op a b)).1 (X "NoRoom" none)))/\(A.nv x=none->X "WrongKind" (some 1) M)/\(∀a,A.nv x=some a->A.nv y=none->X "WrongKind" (some 2) M)/\(nt=true->∀a,A.nv x=some a->A.nv y=some 0->X "Nought" none M)
theorem VG:OpR X (binaryOp .FloorDiv) (rI (λi j=>j≠0/\Builtin.divisionGoesByPylong i j=false) λi j=>.int (i.fdiv j)):=opI λ_ _ _ _ _ _ _ hc q=>floordiv_int hc.1 q (.inl hc.2)
theorem Jb:OpR X (binaryOp .Mult) (rI IntMulOk λi j=>.int (i*j)):=opI λ_ _ _ _ _ _ _ hc q=>mul_int q hc
local macro_rules | `(tactic| walk_at "vx") => `(tactic| simp only[zM,kQ,kP,zK,ze,uTry,zN,zL,kR,kW,endX,uAsG,vV])
local macro_rules | `(tactic| walk_at "pk") => `(tactic| (walk_at "v"; repeat ((first|walk_at "vx" |refine zn (by decide) ?_|refine v5 rfl ?_); walk_at "v")))
abbrev jD:Stmt:=qE (top 48) 13
theorem XF:FnScope ["self","r","q","p"] ["self","r","q","p"] (qg jD):=⟨rfl,rfl,rfl,by decide +kernel,rfl,by decide +kernel,by decide +kernel⟩
theorem ok_splus(F:Fun Ξ "plus" "Store.plus" jD f fd)(TStore:Cls Ξ C)(DNeedNumbers:DefX P w Ξ mg base "need_numbers" 4 ["store","q","p"] (spX mg (j8 C)))(MStoreTold:MDef P w Ξ mg base C "told" 5 ["self","q"] (spU (zO C)))(MStoreComeOfTwo:MDefX P w Ξ mg base C "come_of_two" 10 ["self","r","q","p","n"] (spX mg (Jp C))):FnOk P w Ξ mg base (CXe P w) 11 f fd ["self","r","q","p"] (spX mg (jb C false (λ_ _=>True) (λa b=>a+b))):=by
 refine F.zX XF (λus M Qu Xu h=>?_) (λcdv A outer s H E hr=>?_)
 ·obtain⟨_,_,_,_,_,_,_,_,_,rfl,_⟩:=h
  rfl
 refine⟨_,(vA (vB (xV DNeedNumbers (Wl hr) (qa_c (qv 0) (qa_c (qv 2) (qa_c (qv 3) qc)))))
  (vb (vB (zf (qv 0) TStore MStoreComeOfTwo (Wl hr) (qa_c (qv 1) (qa_c (qv 2) (qa_c (qv 3) (qa_c (ql qO (qJ MStoreTold TStore (qv 0) (Wl hr) (qa_c (qv 2) qc)) (qJ MStoreTold TStore (qv 0) (Wl hr) (qa_c (qv 3) qc))) qc)))))))),_,(qh (vf (je (qa (qb 0) (qa (qb 2) (qa (qb 3) qd)))))
   (vf (zg (qb 0) (qa (qb 1) (qa (qb 2) (qa (qb 3) (qa (qj (qr λ_ _=>.int _) (qG (qb 0) (qa (qb 2) qd)) (qG (qb 0) (qa (qb 3) qd))) qd))))))),λus M Qu Xu h=>?_⟩
 obtain⟨s,h,kp,A,r,q,p,x,y,rfl,S,hr,hq,hp,k1,k2,k3,k4⟩:=h;walk_at "pk";refine⟨s,h,kp,A,q,p,x,y,rfl,S,hq,hp,λa b ea eb=>?_,λe=>⟨_,_,_,rfl,rfl,k2 e⟩,λa ea e=>⟨_,_,_,rfl,rfl,k3 a ea e⟩⟩;obtain⟨hk,hb3,g1,g2⟩:=k1 a b ea eb λz=>nomatch z;walk_at "pk";refine mS S (by rfl) ?_;walk_at "pk";refine mS S (by rfl) ?_;walk_at "pk";refine⟨s,h,kp,A,q,x,rfl,S,hq, ?_⟩;walk_at "pk";refine mS S (by rfl) ?_;walk_at "pk";refine⟨s,h,kp,A,p,y,rfl,S,hp, ?_⟩;rw[Mc.tl_nv ea,Mc.tl_nv eb];walk_at "pk";exact⟨s,h,kp,A,r,q,p,x,y,_,rfl,S,hr,hq,hp,hb3,g1,λe M' h' kp' f a b S'=>⟨_,_,_,rfl,rfl,g2 e M' h' kp' f a b S'⟩⟩
abbrev jF:Stmt:=qE (top 48) 14
theorem XH:FnScope ["self","r","q","p"] ["self","r","q","p"] (qg jF):=⟨rfl,rfl,rfl,by decide +kernel,rfl,by decide +kernel,by decide +kernel⟩
theorem ok_sless(F:Fun Ξ "less" "Store.less" jF f fd)(TStore:Cls Ξ C)(DNeedNumbers:DefX P w Ξ mg base "need_numbers" 4 ["store","q","p"] (spX mg (j8 C)))(MStoreTold:MDef P w Ξ mg base C "told" 5 ["self","q"] (spU (zO C)))(MStoreComeOfTwo:MDefX P w Ξ mg base C "come_of_two" 10 ["self","r","q","p","n"] (spX mg (Jp C))):FnOk P w Ξ mg base (CXe P w) 11 f fd ["self","r","q","p"] (spX mg (jb C false (λ_ _=>True) (λa b=>a-b))):=by
 refine F.zX XH (λus M Qu Xu h=>?_) (λcdv A outer s H E hr=>?_)
 ·obtain⟨_,_,_,_,_,_,_,_,_,rfl,_⟩:=h
  rfl
 refine⟨_,(vA (vB (xV DNeedNumbers (Wl hr) (qa_c (qv 0) (qa_c (qv 2) (qa_c (qv 3) qc)))))
  (vb (vB (zf (qv 0) TStore MStoreComeOfTwo (Wl hr) (qa_c (qv 1) (qa_c (qv 2) (qa_c (qv 3) (qa_c (ql vp (qJ MStoreTold TStore (qv 0) (Wl hr) (qa_c (qv 2) qc)) (qJ MStoreTold TStore (qv 0) (Wl hr) (qa_c (qv 3) qc))) qc)))))))),_,(qh (vf (je (qa (qb 0) (qa (qb 2) (qa (qb 3) qd)))))
   (vf (zg (qb 0) (qa (qb 1) (qa (qb 2) (qa (qb 3) (qa (qj (qr λ_ _=>.int _) (qG (qb 0) (qa (qb 2) qd)) (qG (qb 0) (qa (qb 3) qd))) qd))))))),λus M Qu Xu h=>?_⟩
 obtain⟨s,h,kp,A,r,q,p,x,y,rfl,S,hr,hq,hp,k1,k2,k3,k4⟩:=h;walk_at "pk";refine⟨s,h,kp,A,q,p,x,y,rfl,S,hq,hp,λa b ea eb=>?_,λe=>⟨_,_,_,rfl,rfl,k2 e⟩,λa ea e=>⟨_,_,_,rfl,rfl,k3 a ea e⟩⟩;obtain⟨hk,hb3,g1,g2⟩:=k1 a b ea eb λz=>nomatch z;walk_at "pk";refine mS S (by rfl) ?_;walk_at "pk";refine mS S (by rfl) ?_;walk_at "pk";refine⟨s,h,kp,A,q,x,rfl,S,hq, ?_⟩;walk_at "pk";refine mS S (by rfl) ?_;walk_at "pk";refine⟨s,h,kp,A,p,y,rfl,S,hp, ?_⟩;rw[Mc.tl_nv ea,Mc.tl_nv eb];walk_at "pk";exact⟨s,h,kp,A,r,q,p,x,y,_,rfl,S,hr,hq,hp,hb3,g1,λe M' h' kp' f a b S'=>⟨_,_,_,rfl,rfl,g2 e M' h' kp' f a b S'⟩⟩
abbrev xQ:Stmt:=qE (top 48) 15
theorem Zs:FnScope ["self","r","q","p"] ["self","r","q","p"] (qg xQ):=⟨rfl,rfl,rfl,by decide +kernel,rfl,by decide +kernel,by decide +kernel⟩
theorem WF(F:Fun Ξ "times" "Store.times" xQ f fd)(TStore:Cls Ξ C)(DNeedNumbers:DefX P w Ξ mg base "need_numbers" 4 ["store","q","p"] (spX mg (j8 C)))(MStoreTold:MDef P w Ξ mg base C "told" 5 ["self","q"] (spU (zO C)))(MStoreComeOfTwo:MDefX P w Ξ mg base C "come_of_two" 10 ["self","r","q","p","n"] (spX mg (Jp C))):FnOk P w Ξ mg base (CXe P w) 11 f fd ["self","r","q","p"] (spX mg (jb C false IntMulOk (λa b=>a*b))):=by
 refine F.zX Zs (λus M Qu Xu h=>?_) (λcdv A outer s H E hr=>?_)
 ·obtain⟨_,_,_,_,_,_,_,_,_,rfl,_⟩:=h
  rfl
 refine⟨_,(vA (vB (xV DNeedNumbers (Wl hr) (qa_c (qv 0) (qa_c (qv 2) (qa_c (qv 3) qc)))))
  (vb (vB (zf (qv 0) TStore MStoreComeOfTwo (Wl hr) (qa_c (qv 1) (qa_c (qv 2) (qa_c (qv 3) (qa_c (ql Jb (qJ MStoreTold TStore (qv 0) (Wl hr) (qa_c (qv 2) qc)) (qJ MStoreTold TStore (qv 0) (Wl hr) (qa_c (qv 3) qc))) qc)))))))),_,(qh (vf (je (qa (qb 0) (qa (qb 2) (qa (qb 3) qd)))))
   (vf (zg (qb 0) (qa (qb 1) (qa (qb 2) (qa (qb 3) (qa (qj (qW λ_ _=>.int _) (qG (qb 0) (qa (qb 2) qd)) (qG (qb 0) (qa (qb 3) qd))) qd))))))),λus M Qu Xu h=>?_⟩
 obtain⟨s,h,kp,A,r,q,p,x,y,rfl,S,hr,hq,hp,k1,k2,k3,k4⟩:=h;walk_at "pk";refine⟨s,h,kp,A,q,p,x,y,rfl,S,hq,hp,λa b ea eb=>?_,λe=>⟨_,_,_,rfl,rfl,k2 e⟩,λa ea e=>⟨_,_,_,rfl,rfl,k3 a ea e⟩⟩;obtain⟨hk,hb3,g1,g2⟩:=k1 a b ea eb λz=>nomatch z;walk_at "pk";refine mS S (by rfl) ?_;walk_at "pk";refine mS S (by rfl) ?_;walk_at "pk";refine⟨s,h,kp,A,q,x,rfl,S,hq, ?_⟩;walk_at "pk";refine mS S (by rfl) ?_;walk_at "pk";refine⟨s,h,kp,A,p,y,rfl,S,hp, ?_⟩;rw[Mc.tl_nv ea,Mc.tl_nv eb];walk_at "pk";refine⟨hk, ?_⟩;exact⟨s,h,kp,A,r,q,p,x,y,_,rfl,S,hr,hq,hp,hb3,g1,λe M' h' kp' f a b S'=>⟨_,_,_,rfl,rfl,g2 e M' h' kp' f a b S'⟩⟩
abbrev jE:Stmt:=qE (top 48) 16
theorem XG:FnScope ["self","r","q","p"] ["self","r","q","p"] (qg jE):=⟨rfl,rfl,rfl,by decide +kernel,rfl,by decide +kernel,by decide +kernel⟩
theorem ok_sover(F:Fun Ξ "over" "Store.over" jE f fd)(TStore:Cls Ξ C)(DNeedDivisor:DefX P w Ξ mg base "need_divisor" 6 ["store","q","p"] (spX mg (Kl C)))(MStoreTold:MDef P w Ξ mg base C "told" 5 ["self","q"] (spU (zO C)))(MStoreComeOfTwo:MDefX P w Ξ mg base C "come_of_two" 10 ["self","r","q","p","n"] (spX mg (Jp C))):FnOk P w Ξ mg base (CXe P w) 11 f fd ["self","r","q","p"] (spX mg (jb C true (λa b=>Builtin.divisionGoesByPylong a b=false) Int.fdiv)):=by
 refine F.zX XG (λus M Qu Xu h=>?_) (λcdv A outer s H E hr=>?_)
 ·obtain⟨_,_,_,_,_,_,_,_,_,rfl,_⟩:=h
  rfl
 refine⟨_,(vA (vB (xV DNeedDivisor (Wl hr) (qa_c (qv 0) (qa_c (qv 2) (qa_c (qv 3) qc)))))
  (vb (vB (zf (qv 0) TStore MStoreComeOfTwo (Wl hr) (qa_c (qv 1) (qa_c (qv 2) (qa_c (qv 3) (qa_c (ql VG (qJ MStoreTold TStore (qv 0) (Wl hr) (qa_c (qv 2) qc)) (qJ MStoreTold TStore (qv 0) (Wl hr) (qa_c (qv 3) qc))) qc)))))))),_,(qh (vf (je (qa (qb 0) (qa (qb 2) (qa (qb 3) qd)))))
   (vf (zg (qb 0) (qa (qb 1) (qa (qb 2) (qa (qb 3) (qa (qj (qW λ_ _=>.int _) (qG (qb 0) (qa (qb 2) qd)) (qG (qb 0) (qa (qb 3) qd))) qd))))))),λus M Qu Xu h=>?_⟩
 obtain⟨s,h,kp,A,r,q,p,x,y,rfl,S,hr,hq,hp,k1,k2,k3,k4⟩:=h;walk_at "pk";refine⟨s,h,kp,A,q,p,x,y,rfl,S,hq,hp,λa b ea eb hz=>?_,λe=>⟨_,_,_,rfl,rfl,k2 e⟩,λa ea e=>⟨_,_,_,rfl,rfl,k3 a ea e⟩,λa ea e=>⟨_,_,_,rfl,rfl,k4 rfl a ea e⟩⟩;obtain⟨hk,hb3,g1,g2⟩:=k1 a b ea eb λ_=>hz;walk_at "pk";refine mS S (by rfl) ?_;walk_at "pk";refine mS S (by rfl) ?_;walk_at "pk";refine⟨s,h,kp,A,q,x,rfl,S,hq, ?_⟩;walk_at "pk";refine mS S (by rfl) ?_;walk_at "pk";refine⟨s,h,kp,A,p,y,rfl,S,hp, ?_⟩;rw[Mc.tl_nv ea,Mc.tl_nv eb];walk_at "pk";refine⟨⟨hz,hk⟩, ?_⟩;exact⟨s,h,kp,A,r,q,p,x,y,_,rfl,S,hr,hq,hp,hb3,g1,λe M' h' kp' f a b S'=>⟨_,_,_,rfl,rfl,g2 e M' h' kp' f a b S'⟩⟩
abbrev jC:Stmt:=qE (top 48) 17
theorem XE:FnScope ["self","r","q","p"] ["self","r","q","p"] (qg jC):=⟨rfl,rfl,rfl,by decide +kernel,rfl,by decide +kernel,by decide +kernel⟩
theorem ok_srest(F:Fun Ξ "rest" "Store.rest" jC f fd)(TStore:Cls Ξ C)(DNeedDivisor:DefX P w Ξ mg base "need_divisor" 6 ["store","q","p"] (spX mg (Kl C)))(MStoreTold:MDef P w Ξ mg base C "told" 5 ["self","q"] (spU (zO C)))(MStoreComeOfTwo:MDefX P w Ξ mg base C "come_of_two" 10 ["self","r","q","p","n"] (spX mg (Jp C))):FnOk P w Ξ mg base (CXe P w) 11 f fd ["self","r","q","p"] (spX mg (jb C true (λ_ _=>True) Int.fmod)):=by
 refine F.zX XE (λus M Qu Xu h=>?_) (λcdv A outer s H E hr=>?_)
 ·obtain⟨_,_,_,_,_,_,_,_,_,rfl,_⟩:=h
  rfl
 refine⟨_,(vA (vB (xV DNeedDivisor (Wl hr) (qa_c (qv 0) (qa_c (qv 2) (qa_c (qv 3) qc)))))
  (vb (vB (zf (qv 0) TStore MStoreComeOfTwo (Wl hr) (qa_c (qv 1) (qa_c (qv 2) (qa_c (qv 3) (qa_c (ql op_modN (qJ MStoreTold TStore (qv 0) (Wl hr) (qa_c (qv 2) qc)) (qJ MStoreTold TStore (qv 0) (Wl hr) (qa_c (qv 3) qc))) qc)))))))),_,(qh (vf (je (qa (qb 0) (qa (qb 2) (qa (qb 3) qd)))))
   (vf (zg (qb 0) (qa (qb 1) (qa (qb 2) (qa (qb 3) (qa (qj (qW λ_ _=>.int _) (qG (qb 0) (qa (qb 2) qd)) (qG (qb 0) (qa (qb 3) qd))) qd))))))),λus M Qu Xu h=>?_⟩
 obtain⟨s,h,kp,A,r,q,p,x,y,rfl,S,hr,hq,hp,k1,k2,k3,k4⟩:=h;walk_at "pk";refine⟨s,h,kp,A,q,p,x,y,rfl,S,hq,hp,λa b ea eb hz=>?_,λe=>⟨_,_,_,rfl,rfl,k2 e⟩,λa ea e=>⟨_,_,_,rfl,rfl,k3 a ea e⟩,λa ea e=>⟨_,_,_,rfl,rfl,k4 rfl a ea e⟩⟩;obtain⟨hk,hb3,g1,g2⟩:=k1 a b ea eb λ_=>hz;walk_at "pk";refine mS S (by rfl) ?_;walk_at "pk";refine mS S (by rfl) ?_;walk_at "pk";refine⟨s,h,kp,A,q,x,rfl,S,hq, ?_⟩;walk_at "pk";refine mS S (by rfl) ?_;walk_at "pk";refine⟨s,h,kp,A,p,y,rfl,S,hp, ?_⟩;rw[Mc.tl_nv ea,Mc.tl_nv eb];walk_at "pk";refine⟨hz, ?_⟩;exact⟨s,h,kp,A,r,q,p,x,y,_,rfl,S,hr,hq,hp,hb3,g1,λe M' h' kp' f a b S'=>⟨_,_,_,rfl,rfl,g2 e M' h' kp' f a b S'⟩⟩
local macro_rules | `(tactic| walk_at "vx") => `(tactic| simp only[zM,kQ,kP,zK,ze,uTry,zN,zL,kR,kW,endX,uAsG,vV])
local macro_rules | `(tactic| walk_at "pk") => `(tactic| (walk_at "v"; repeat ((first|walk_at "vx" |refine zn (by decide) ?_|refine v5 rfl ?_); walk_at "v")))
abbrev zD:Stmt:=qE (top 48) 24
theorem Zu:FnScope ["self","q","p"] ["self","q","p"] (qg zD):=⟨rfl,rfl,rfl,by decide +kernel,rfl,by decide +kernel,by decide +kernel⟩
def GE(C:Addr):List U->MM->UK->UX->Prop:=λus M Q X=>∃(s h kp:Nat)(A:Mc)(q p:Nat)(x y:Rf),us=[.m s, .p (.int q), .p (.int p)]/\StA C M s h kp A/\A.rg[q]?=some x/\A.rg[p]?=some y/\(∀a b,A.nv x=some a->A.nv y=some b->Q (.p (.bl (decide (a<b)))) M)/\(A.nv x=none->X "WrongKind" (some 1) M)/\(∀a,A.nv x=some a->A.nv y=none->X "WrongKind" (some 2) M)
theorem WH(F:Fun Ξ "below" "Store.below" zD f fd)(TStore:Cls Ξ C)(DNeedNumbers:DefX P w Ξ mg base "need_numbers" 4 ["store","q","p"] (spX mg (j8 C)))(MStoreTold:MDef P w Ξ mg base C "told" 5 ["self","q"] (spU (zO C))):FnOk P w Ξ mg base (CXe P w) 6 f fd ["self","q","p"] (spX mg (GE C)):=by
 refine F.zX Zu (λus M Qu Xu h=>?_) (λcdv A outer s H E hr=>?_)
 ·obtain⟨_,_,_,_,_,_,_,_,rfl,_⟩:=h
  rfl
 refine⟨_,(vA (vB (xV DNeedNumbers (Wl hr) (qa_c (qv 0) (qa_c (qv 1) (qa_c (qv 2) qc)))))
  (vb (X4 (qt (vC xX (qJ MStoreTold TStore (qv 0) (Wl hr) (qa_c (qv 1) qc)) (qJ MStoreTold TStore (qv 0) (Wl hr) (qa_c (qv 2) qc)) (qA _)))))),_,(qh (vf (je (qa (qb 0) (qa (qb 1) (qa (qb 2) qd)))))
   (qB (qj (qr λ_ _=>.bl _) (qG (qb 0) (qa (qb 1) qd)) (qG (qb 0) (qa (qb 2) qd))))),λus M Qu Xu h=>?_⟩
 obtain⟨s,h,kp,A,q,p,x,y,rfl,S,hq,hp,k1,k2,k3⟩:=h;walk_at "pk";refine⟨s,h,kp,A,q,p,x,y,rfl,S,hq,hp,λa b ea eb=>?_,λe=>⟨_,_,_,rfl,rfl,k2 e⟩,λa ea e=>⟨_,_,_,rfl,rfl,k3 a ea e⟩⟩;walk_at "pk";refine mS S (by rfl) ?_;walk_at "pk";refine⟨s,h,kp,A,q,x,rfl,S,hq, ?_⟩;walk_at "pk";refine mS S (by rfl) ?_;walk_at "pk";refine⟨s,h,kp,A,p,y,rfl,S,hp, ?_⟩;rw[Mc.tl_nv ea,Mc.tl_nv eb];walk_at "pk";exact k1 a b ea eb
abbrev jB:Stmt:=qE (top 48) 25
theorem XD:FnScope ["self","q","p"] ["self","q","p"] (qg jB):=⟨rfl,rfl,rfl,by decide +kernel,rfl,by decide +kernel,by decide +kernel⟩
def GD(C:Addr):List U->MM->UK->Prop:=λus M Q=>∃(s h kp:Nat)(A:Mc)(q p:Nat)(x y:Rf)(a b:Int),us=[.m s, .p (.int q), .p (.int p)]/\StA C M s h kp A/\A.rg[q]?=some x/\A.rg[p]?=some y/\A.nv x=some a/\A.nv y=some b/\Q (.p (.bl (decide (a=b)))) M
theorem ok_ssame(F:Fun Ξ "same" "Store.same" jB f fd)(TStore:Cls Ξ C)(MStoreKind:MDef P w Ξ mg base C "kind" 3 ["self","q"] (spU (Z4 C)))(MStoreTold:MDef P w Ξ mg base C "told" 5 ["self","q"] (spU (zO C))):FnOk P w Ξ mg base CX0 6 f fd ["self","q","p"] (spU (GD C)):=by
 refine F.zU XD (λus M Qu h=>?_) (λcdv A outer s H E hr=>?_)
 ·obtain⟨_,_,_,_,_,_,_,_,_,_,rfl,_⟩:=h
  rfl
 refine⟨_,(qf (vG (qw vD (qJ MStoreKind TStore (qv 0) (Wl hr) (qa_c (qv 1) qc)) qD (qA _))
   (qi (qt (vC vD (qJ MStoreTold TStore (qv 0) (Wl hr) (qa_c (qv 1) qc)) (qJ MStoreTold TStore (qv 0) (Wl hr) (qa_c (qv 2) qc)) (qA _))))
   qP)
  (qi (qt (vC vD (qH (Ua Ξ) (vd (qv 0) rfl) (qv 1) (λ_ _=>rfl)) (qH (Ua Ξ) (vd (qv 0) rfl) (qv 2) (λ_ _=>rfl)) (qA _))))),_,(qh (vz (qC (qj qX (qG (qb 0) (qa (qb 1) qd)) Wr))
   (qB (qj qX (qG (qb 0) (qa (qb 1) qd)) (qG (qb 0) (qa (qb 2) qd))))
   qM)
   (qB (qj qX (vE (ve (qb 0)) (qb 1)) (vE (ve (qb 0)) (qb 2))))),λus M Qu h=>?_⟩
 obtain⟨s,h,kp,A,q',p',x,y,a,b,rfl,S,hq,hp,ea,eb,q⟩:=h;symm;refine mS S (by rfl) ?_;symm;refine⟨s,h,kp,A,q',x,rfl,S,hq, ?_⟩;rw[(Mc.kn_nv (S.ok hq)).mpr (by rw[ea]; exact λz=>nomatch z)];symm;refine mS S (by rfl) ?_;symm;refine⟨s,h,kp,A,q',x,rfl,S,hq, ?_⟩;symm;refine mS S (by rfl) ?_;symm;refine⟨s,h,kp,A,p',y,rfl,S,hp, ?_⟩;rw[Mc.tl_nv ea,Mc.tl_nv eb];symm;exact q
abbrev jJ:Stmt:=top 46
theorem XN:FnScope ["laying"] ["laying"] (qg jJ):=⟨rfl,rfl,rfl,by decide +kernel,rfl,by decide +kernel,by decide +kernel⟩
def jZ:List T->(T->Prop)->Prop:=λts Q=>∃(bits:Int)(ms:List Mk3),ts=[layT bits ms]/\Q (layT bits ms)
theorem QQ(F:Fun Ξ "own_laying" "own_laying" jJ f fd)(N:Nms mg):FnOk P w Ξ mg base CX0 1 f fd ["laying"] (spP jZ):=by
 refine F.zP XN (λts Qt h=>?_) (λcdv A outer s H E hr=>?_)
 ·obtain⟨_,_,rfl,_⟩:=h
  rfl
 refine⟨_,(qi (qt (qS (qa_c (qH (Ub Ξ) (qv 0) qe (λ_ _=>rfl)) (qa_c (vH vJ (by rfl) N.list QK (qa_c (qH (Ub Ξ) (qv 0) qe (λ_ _=>rfl)) qc)) qc))))),_,(qB (qT (qa (vi (qb 0) Wm) (qa (zB jv (qa (vi (qb 0) Wm) qd)) qd)))),λts Qt h=>?_⟩;obtain⟨bits,ms,rfl,q⟩:=h;unfold layT;symm;exact⟨_,_,rfl,rfl,q⟩
theorem k7{M L:MM}(hs:s<M.length):(M.set s a++L).set s b=M.set s b++L:=by rw[DZ _ _ (by rw[Ut]; exact hs),RG]
theorem jX{M L:MM}(hs:s<M.length):(M.set s a++L)[s]?=some a:=by rw[Ui (by rw[Ut]; exact hs),Uw hs]
def Mc.new(bits:Int)(ms:List Mk3)(room:Int):Mc:=⟨bits,ms,room,List.replicate 8 (.w ("one", 0)), [], [],0,0,0⟩
theorem Gu(R:Right bits ms):InW bits ms ("one", 0):=by
 obtain⟨m,hm⟩:=R.kind (kind := "one") (by decide);refine⟨?_, .inr (.inr rfl)⟩;show Vld _ _ _ (qQ ms "one");rw[hm.mk];exact⟨hm,λz=>absurd z (by dsimp only; decide),λ_=>⟨Bn _,qZ _⟩,λz=>absurd z (by dsimp only; decide),λ_=>by show(0:Int)<3; decide⟩
theorem ok_new(R:Right bits ms)(h0:0<=room)(h4:room<=400):(Mc.new bits ms room).Ok:=by
 refine⟨R,rfl,λr hr=>?_, .nil,(λ_ z=>nomatch z),(λ_ z=>nomatch z), ?_,h4⟩
 ·rw[List.eq_of_mem_replicate hr]
  exact Gu R
 ·show(0:Int)<=xD bits ms room
  unfold xD;have h1:=qZ (bits-wOf ms "far").toNat;have h2:=qZ (bits-wOf ms "pair").toNat;rcases @Jg room (2^(bits-wOf ms "far").toNat) (2^(bits-wOf ms "pair").toNat) with e|e|e<;>lia
abbrev jH:Stmt:=qE (top 48) 0
theorem XM:FnScope ["self","laying","room"] ["self","laying","room"] (qg jH):=⟨rfl,rfl,rfl,by decide +kernel,rfl,by decide +kernel,by decide +kernel⟩
def Ki(C:Addr):List U->MM->UK->Prop:=λus M Q=>∃(s:Nat)(bits:Int)(ms:List Mk3)(room:Int),us=[.m s, .p (layT bits ms), .p (.int room)]/\M[s]?=some (.ins C [])/\Right bits ms/\0<=room/\room<=400/\∀M',Frm M M' [s]->StA C M' s M.length (M.length+1) (Mc.new bits ms room)->M'.length=M.length+2->Q (.p .non) M'
theorem ok_sinit(F:Fun Ξ "__init__" "Store.__init__" jH f fd)(TP:TxStore Ξ C)(GReg:GInt mg "REGISTERS" 8)(DOwnLaying:Def P w Ξ mg base "own_laying" 1 ["laying"] (spP jZ))(DWordOf:Def P w Ξ mg base "word_of" 3 ["laying","worth"] (spP xk)):FnOk P w Ξ mg base CX0 4 f fd ["self","laying","room"] (spU (Ki C)):=by
 refine F.zU XM (λus M Qu h=>?_) (λcdv A outer s H E hr=>?_)
 ·obtain⟨_,_,_,_,rfl,_⟩:=h
  rfl
 refine⟨_,(qf (jk (qv 0) (qm DOwnLaying (Wl hr) (qa_c (qv 1) qc)) rfl)
  (qf (jk (qv 0) (qv 2) rfl)
  (qf (jk (qv 0) (ql op_rep (qR (qa_c (qm DWordOf (Wl hr) (qa_c (qv 1) (qa_c qD qc))) qc)) (xW GReg rfl)) rfl)
  (qf (jk (qv 0) (qR qc) rfl)
  (qf (jk (qv 0) qe rfl)
  (qf (jk (qv 0) qe rfl)
  (qi (jk (qv 0) qe rfl)))))))),_,(qh (jt (qb 0) (qo (qa (qb 1) qd)))
   (qh (jt (qb 0) (qb 2))
   (qh (jt (qb 0) (qac (vn (qa (qo (qa (qb 1) (qa Wr qd))) qd)) Wm))
   (qh (jt (qb 0) (ju qd))
   (qh (jt (qb 0) Wm)
   (qh (jt (qb 0) Wm)
   (jt (qb 0) Wm))))))),λus M Qu h=>?_⟩
 obtain⟨s,bits,ms,room,rfl,em,R,h0,h4,q⟩:=h;have hs:=(Ue.mp em).1;symm;refine⟨bits,ms,rfl, ?_⟩;symm;refine v6 TP.c TP.n1 em (by decide) ?_;symm;refine v6 TP.c TP.n2 (Uw hs) (by show 1<1000; decide) ?_;rw[RG];symm;rw[<-tOf_none];refine Xp R (Gu R).v ?_;symm;refine repN_at (by decide) (by decide) (by show 8<=sizeLine; decide) ?_;refine v6 TP.c TP.n3 (jX hs) (by show 2<1000; decide) ?_;rw[k7 hs];symm;refine v6 TP.c TP.n4 (by rw[UL]; exact jX hs) (by show 3<1000; decide) ?_;rw[UL,k7 hs];symm;refine v6 TP.c TP.n5 (jX hs) (by show 4<1000; decide) ?_;rw[k7 hs];symm;refine v6 TP.c TP.n6 (jX hs) (by show 5<1000; decide) ?_;rw[k7 hs];symm;refine v6 TP.c TP.n7 (jX hs) (by show 6<1000; decide) ?_;rw[k7 hs];symm;simp only[Uj,Ut,Ul,U6,Dz];refine q _ ⟨by rw[Uj,Ut]; lia,λi hi hn=>?_⟩ ⟨ok_new R h0 h4,jX hs, ?_, ?_,by lia,by lia,by lia⟩ (by rw[Uj,Ut]; rfl)
 ·rw[Ui (by rw[Ut]; exact hi),Uz λz=>hn (by rw[z]; simp)]
 ·rw[Uq (by rw[Ut]; exact Uk _),Ut,DL]
  rfl
 ·rw[Uq (by rw[Ut]; lia),Ut,U8]
  rfl
abbrev XU:Stmt:=top 54
theorem scNumber:FnScope ["bag","laying","kind","near","sign"] ["bag","laying"] (qg XU):=⟨rfl,rfl,rfl,by decide +kernel,rfl,by decide +kernel,by decide +kernel⟩
def Jr:List U->MM->UK->Prop:=λus M Q=>∃(k:Nat)(o:MO)(bits:Int)(ms:List Mk3),us=[.m k, .p (layT bits ms)]/\M[k]?=some o/\BagO o/\Right bits ms/\∀(n:Int)(o':MO),BagO o'->Bt 200 n->Q (.p (.int n)) (M.set k o')
theorem KQ(F:Fun Ξ "_law_number" "_law_number" XU f fd)(N:Nms mg)(DDraw:Def P w Ξ mg base "_law_draw" 1 ["bag","many"] (spU VZ))(DLoad:Def P w Ξ mg base "_law_load" 2 ["laying","kind"] (spP Qw)):FnOk P w Ξ mg base CX0 3 f fd ["bag","laying"] (spU Jr):=by
 refine F.zV scNumber (λus M Qu h=>?_) (λcdv A outer s H E hr=>?_)
 ·obtain⟨_,_,_,_,rfl,_⟩:=h
  rfl
 refine⟨_,(qf (qy (i:=2) scNumber.nd rfl Wu (qm DDraw (Wl hr) (qa_c (qv 0) (qa_c qe qc))))
  (qf (vG (qw xX (qv 2) qe (qA _))
   (qi (qt (ql vp (qm DDraw (Wl hr) (qa_c (qv 0) (qa_c qe qc))) qe)))
   qP)
  (qf (qy (i:=3) scNumber.nd rfl Wu (ql vp (qm DDraw (Wl hr) (qa_c (qv 0) (qa_c qe qc))) qe))
  (qf (qy (i:=4) scNumber.nd rfl Wu (ql vp (ql zp (qm DDraw (Wl hr) (qa_c (qv 0) (qa_c qe qc))) qe) qe))
  (qf (vG (qw xX (qv 2) qe (qA _))
   (qi (qt (ql qO (ql zp (qv 4) (ql vS qe (ql vp (qm DLoad (Wl hr) (qa_c (qv 1) (qa_c qD qc))) qe))) (qv 3))))
   qP)
  (qf (vG (qw xX (qv 2) qe (qA _))
   (qi (qt (ql zp (qv 4) (ql qO (ql vS qe (qK (QJ rfl) (by rfl) N.min Yj (qa_c qe (qa_c (ql zp (qH (Ub Ξ) (qv 1) qe (λ_ _=>rfl)) (ql qO qe (qm DDraw (Wl hr) (qa_c (qv 0) (qa_c qe qc))))) qc)))) (qv 3)))))
   qP)
  (qi (qt (ql zp (qv 4) (qm DDraw (Wl hr) (qa_c (qv 0) (qa_c (ql J4 qe qe) qc)))))))))))),_,(qh (qx (qF (qa (qb 0) (qa Wm qd))) (qk 2))
   (qh (vz (qC (qj (qr λ_ _=>.bl _) (qb 2) Wm))
   (qB (qj (qr λ_ _=>.int _) (qF (qa (qb 0) (qa Wm qd))) Wm))
   qM)
   (qh (qx (qj (qr λ_ _=>.int _) (qF (qa (qb 0) (qa Wm qd))) Wm) (qk 3))
   (qh (qx (qj (qr λ_ _=>.int _) (qj (qW λ_ _=>.int _) (qF (qa (qb 0) (qa Wm qd))) Wm) Wm) (qk 4))
   (qh (vz (qC (qj (qr λ_ _=>.bl _) (qb 2) Wm))
   (qB (qj (qr λ_ _=>.int _) (qj (qW λ_ _=>.int _) (qb 4) (qj (qW λ_ _=>.int _) Wm (qj (qr λ_ _=>.int _) (qo (qa (qb 1) (qa Wr qd))) Wm))) (qb 3)))
   qM)
   (qh (vz (qC (qj (qr λ_ _=>.bl _) (qb 2) Wm))
   (qB (qj (qW λ_ _=>.int _) (qb 4) (qj (qr λ_ _=>.int _) (qj (qW λ_ _=>.int _) Wm (zB JE (qa Wm (qa (qj (qW λ_ _=>.int _) (vi (qb 1) Wm) (qj (qr λ_ _=>.int _) Wm (qF (qa (qb 0) (qa Wm qd))))) qd)))) (qb 3))))
   qM)
   (qB (qj (qW λ_ _=>.int _) (qb 4) (qF (qa (qb 0) (qa (qj (qW λ_ _=>.int _) Wm Wm) qd))))))))))),λus M M1 Qu e1 h=>?_⟩
 obtain⟨k,o,bits,ms,rfl,em,hB,hR,post⟩:=h;obtain⟨hkl,eM⟩:=jz em;have hb1:=hR.b;have hn5:=hR.n;obtain⟨m,hm⟩:=hR.kind (kind := "small") (by decide);have hmw:=hR.w m hm.mem;have hnd:=vY m.1;rw[e1.trans eM];have fin:∀(z:Int)(o':MO),BagO o'->Bt 200 z->xL M (MB M k o' [])/\Qu (.p (.int z)) (List.take (List.length M) (MB M k o' [])):=λz o' B h1=>⟨jf B.pur,by rw[jg]; exact post z o' B h1⟩;nofun;refine vk hkl hB (by decide) (by decide) λkd o1 w0 w1 B1=>?_;nofun;refine ite2 (λh1=>?_) (λh1=>?_)
 ·refine vk hkl B1 (by decide) (by decide) λd o2 d0 d1 B2=>?_
  nofun;exact fin _ _ B2 (Bt.small (by lia) (by lia) (by decide))
 refine vk hkl B1 (by decide) (by decide) λd o2 d0 d1 B2=>?_;nofun;refine vk hkl B2 (by decide) (by decide) λd2 o3 d20 d21 B3=>?_;nofun;have hsg:d2*2-1=1\/d2*2-1 = -1:=by lia
 refine⟨.inl ⟨by lia,by lia⟩, ?_⟩;refine ite2 (λh2=>?_) (λh2=>?_)
 ·refine⟨bits,ms,"small", m,rfl,by lia,hm, ?_⟩
  nofun;refine⟨⟨by lia,by lia,by decide⟩, .inl ⟨by lia,by lia⟩, ?_⟩;refine fin _ _ B3 ?_;have e1:=(Bt.pow (bits-m.2.1-1).toNat).sign hsg;have e2:=e1.add (Bt.small (i:=d-2) (n:=62) (by lia) (by lia) (by decide));exact e2.mono (by lia)
 refine ite2 (λh3=>?_) (λh3=>?_)
 ·nofun
  refine vk hkl B3 (by decide) (by decide) λd6 o4 d60 d61 B4=>?_;nofun;have hbm:bits*(1+d6)<=192:=by
   have:bits*(1+d6)<=32*6:=Int.mul_le_mul (by lia) (by lia) (by lia) (by lia);lia
  have hbm0:0<=bits*(1+d6):=R1 (by lia) (by lia);refine⟨.inl ⟨by lia,by lia⟩, ?_⟩;generalize hx:(if bits*(1+d6)<190 then bits*(1+d6) else 190)=x;have hx0:0<=x/\x<=190:=by rw[<-hx]; split<;>lia
  refine⟨⟨by lia,by lia,by decide⟩, .inl ⟨by lia,by lia⟩, ?_⟩;refine fin _ _ B4 ?_;have e2:=(Bt.pow x.toNat).add (Bt.small (i:=d-2) (n:=62) (by lia) (by lia) (by decide));exact(e2.sign hsg).mono (by lia)
 ·nofun
  refine⟨⟨by decide,by decide,by decide⟩, ?_⟩;refine vk hkl B3 (by decide) (by decide +kernel) λx o4 x0 x1 B4=>?_;nofun;refine⟨.inl ⟨by lia,by lia⟩, ?_⟩;have h10:Bt 200 ((10:Int)^Int.toNat 60):=by unfold Bt; decide +kernel
  exact fin _ _ B4 ((h10.nonneg_le x0 (RO x1)).sign hsg)
local macro_rules | `(tactic| walk_at "vx") => `(tactic| simp only[zM,kQ,kP,zK,ze,uTry,zN,zL,kR,kW,endX,uAsG,vV])
local macro_rules | `(tactic| walk_at "pk") => `(tactic| (walk_at "v"; repeat ((first|walk_at "vx" |refine zn (by decide) ?_|refine v5 rfl ?_); walk_at "v")))
section
theorem FnOk.calmU(F:FnOk P w Ξ mg base (CXe P w) k f fd ps (spX mg G))(h:∀us M Qu,G' us M Qu->G us M Qu λ_ _ _=>False):FnOk P w Ξ mg base CX0 k f fd ps (spU G'):=by
 have key:∀vs H Q E,spU G' vs H Q E->spX mg G vs H Q E0:=λvs H Q E ⟨A,ι,M,us,Qu,w0,r0,g,kk⟩ =>
  ⟨A,ι,M,us,Qu,_,w0,r0,h us M Qu g,kk,λ_ _ _ _ _ _ _ _ _ _ _ z=>z⟩
 exact⟨λvs H Q E z=>F.len vs H Q E0 (key vs H Q E z),λA outer s H args us vs Q E hr he hb hv hs=>codeAny_mono (F.run A outer s H args us vs Q E0 hr he hb hv (key vs H Q E hs)) λr s' q=>by
  cases r with
  |error e=>obtain⟨_,_,_,_,_,_,z⟩:=(show CXe P w outer H s E0 e s' from q); exact z.elim
  |ok fl=>cases fl<;>exact q⟩
end
abbrev jM:Stmt:=top 57
theorem scLwIsSmall:FnScope ["laying","n","half"] ["laying","n"] (qg jM):=⟨rfl,rfl,rfl,by decide +kernel,rfl,by decide +kernel,by decide +kernel⟩
def jY:List T->(T->Prop)->Prop:=λts Q=>∃(bits:Int)(ms:List Mk3)(n:Int)(m:Mk3),ts=[layT bits ms, .int n]/\ms.length<=900/\OfKind ms "small" m/\1<=bits-m.2.1/\bits-m.2.1<=60/\Q (.bl (qL (bits-m.2.1) n))
theorem WG(F:Fun Ξ "_law_is_small" "_law_is_small" jM f fd)(DLoad:Def P w Ξ mg base "_law_load" 2 ["laying","kind"] (spP Qw)):FnOk P w Ξ mg base CX0 3 f fd ["laying","n"] (spP jY):=by
 refine F.zP scLwIsSmall (λts Qt h=>?_) (λcdv A outer s H E hr=>?_)
 ·obtain⟨_,_,_,_,rfl,_⟩:=h
  rfl
 refine⟨_,(qf (qy (i:=2) scLwIsSmall.nd rfl Wu (ql vS qe (ql vp (qm DLoad (Wl hr) (qa_c (qv 0) (qa_c qD qc))) qe)))
  (qi (qt (J0 op_le xX (ql vp qe (qv 2)) (qv 1) (qv 2))))),_,(qh (qx (qj (qW λ_ _=>.int _) Wm (qj (qr λ_ _=>.int _) (qo (qa (qb 0) (qa Wr qd))) Wm)) (qk 2))
   (qB (KC (qr λ_ _=>.bl _) (qr λ_ _=>.bl _) (qj (qr λ_ _=>.int _) Wm (qb 2)) (qb 1) (qb 2)))),λts Qt h=>?_⟩
 obtain⟨bits,ms,n,m,rfl,hl,hm,s0,s1,q⟩:=h;symm;refine⟨bits,ms,"small", m,rfl,hl,hm, ?_⟩;symm;refine⟨⟨by lia,by lia,by decide⟩, ?_⟩;rw[UM];unfold qL at q;generalize(2:Int)^(bits-m.2.1-1).toNat=half at q ⊢;rw[Int.zero_sub];by_cases h1 : -half<=n
 ·rw[if_pos h1]
  simpa only[h1,true_and] using q
 ·rw[if_neg h1]
  simpa only[h1,false_and,decide_false] using q
abbrev YT:Stmt:=top 58
theorem scLimbs:FnScope ["laying","n","found","left"] ["laying","n"] (qg YT):=⟨rfl,rfl,rfl,by decide +kernel,rfl,by decide +kernel,by decide +kernel⟩
def GJ:List T->(T->Prop)->Prop:=λts Q=>∃(bits:Int)(ms:List Mk3)(n:Int),ts=[layT bits ms, .int n]/\1<=bits/\bits<=60/\Bt 20000 n/\Q (qU (zy bits n))
theorem WN(F:Fun Ξ "_law_limbs" "_law_limbs" YT f fd)(N:Nms mg):FnOk P w Ξ mg base CX0 1 f fd ["laying","n"] (spP GJ):=by
 refine F.zP scLimbs (λts Qt h=>?_) (λcdv A outer s H E hr=>?_)
 ·obtain⟨_,_,_,rfl,_⟩:=h
  rfl
 refine⟨_,(qf (qy (i:=2) scLimbs.nd rfl Wu (qR qc))
  (qf (qy (i:=3) scLimbs.nd rfl Wu (qK kI (by rfl) N.abs b_abs (qa_c (qv 1) qc)))
  (qf (kr PassesOwn.never (qw op_gt (qv 3) qe (qA _))
   (qf (vN (QP PySem.F.slot_list_append PySem.F.type_list_append zm (qv 2) (qa_c (ql zi (qv 3) (ql vS qe (qH (Ub Ξ) (qv 0) qe (λ_ _=>rfl)))) qc)))
   (qi (qy (i:=3) scLimbs.nd rfl Wu (ql Wy (qv 3) (qH (Ub Ξ) (qv 0) qe (λ_ _=>rfl)))))))
  (qi (qt (qv 2)))))),_,(qh (qx (ju qd) (qk 2))
   (qh (qx (zB JF (qa (qb 1) qd)) (qk 3))
   (qh (kH (qC (qj (qr λ_ _=>.bl _) (qb 3) Wm))
   (qh (vR (QU zk (qb 2) (qa (qj (qW λ_ _=>.int _) (qb 3) (qj (qW λ_ _=>.int _) Wm (vi (qb 0) Wm))) qd)))
   (qx (qj (qW λ_ _=>.int _) (qb 3) (vi (qb 0) Wm)) (qk 3))))
   (qB (qb 2))))),λts Qt h=>?_⟩
 obtain⟨bits,ms,n,rfl,b0,b1,hn,q⟩:=h;have hc:=Jj hn b0 b1;symm;rw[JH];refine⟨λd ρ M=>∃i:Nat,d=lcnt bits n-i/\i<=lcnt bits n/\ρ=[some (.p (layT bits ms)),some (.p (.int n)),some (.m 0),some (.p (.int ((n.natAbs / 2^(bits.toNat*i):Nat):Int)))]/\M=[iM ((List.range i).map (lim bits.toNat n.natAbs))],⟨_,0,rfl,UY _,by simp,rfl⟩, ?_⟩;rintro d ρ M ⟨i,rfl,hi,rfl,rfl⟩;symm;refine ite2 (λhh=>?_) (λhh=>?_)
 ·have hi2:i<lcnt bits n:=(xw b0 i).mp (by exact_mod_cast hh)
  have en:(((n.natAbs / 2^(bits.toNat*i):Nat):Int) / 2^bits.toNat)=((n.natAbs / 2^(bits.toNat*(i+1)):Nat):Int):=by rw[<-Qp]; push_cast; rfl
  refine⟨λρ M=>ρ=[some (.p (layT bits ms)),some (.p (.int n)),some (.m 0),some (.p (.int ((n.natAbs / 2^(bits.toNat*(i+1)):Nat):Int)))]/\M=[iM ((List.range (i+1)).map (lim bits.toNat n.natAbs))], ?_, ?_⟩
  ·rintro ρ' M' ⟨rfl,rfl⟩
   exact⟨lcnt bits n-(i+1),by lia,i+1,rfl,by lia,rfl,rfl⟩
  ·symm
   refine⟨⟨by lia,by lia,by decide⟩,by rw[UM]; exact qZ _,by simp only[Ug,Rn,sizeLine_eq]; lia, ?_⟩;symm;refine⟨by lia,by rw[en], ?_⟩;rw[RN,Um,UM];unfold iM;rw[Um,Um];unfold lim;push_cast;rfl
 ·have ei:i=lcnt bits n:=by
   have:=mt (xw (n:=n) b0 i).mpr (by exact_mod_cast hh);lia
  subst ei;symm;exact⟨_,jc rfl,q⟩
def qI(bits:Int)(ms:List Mk3)(n:Int):List Int:=if qL (bits-(qQ ms "small").2.1) n=true then[] else xc bits n
theorem ki(R:Right bits ms)(q:Q (.bl (qL (bits-(qQ ms "small").2.1) n))):jY [layT bits ms, .int n] Q:=by
 obtain⟨m,hm⟩:=R.kind (kind := "small") (by decide);have hb:=R.b;have hmw:=R.w m hm.mem;have hnd:=vY m.1;have hn:=R.n;rw[hm.mk] at q;exact⟨bits,ms,n,m,rfl,by lia,hm,by lia,by lia,q⟩
abbrev sRows:Stmt:=top 61
theorem scRows:FnScope ["laying","n","limbs"] ["laying","n"] (qg sRows):=⟨rfl,rfl,rfl,by decide +kernel,rfl,by decide +kernel,by decide +kernel⟩
def GF:List T->(T->Prop)->Prop:=λts Q=>∃(bits:Int)(ms:List Mk3)(n:Int),ts=[layT bits ms, .int n]/\Right bits ms/\Bt 20000 n/\Q (qU (qI bits ms n))
theorem ok_rowsI(F:Fun Ξ "_law_rows" "_law_rows" sRows f fd)(N:Nms mg)(DLwIsSmall:Def P w Ξ mg base "_law_is_small" 3 ["laying","n"] (spP jY))(DLimbs:Def P w Ξ mg base "_law_limbs" 1 ["laying","n"] (spP GJ)):FnOk P w Ξ mg base CX0 4 f fd ["laying","n"] (spP GF):=by
 refine F.zP scRows (λts Qt h=>?_) (λcdv A outer s H E hr=>?_)
 ·obtain⟨_,_,_,rfl,_⟩:=h
  rfl
 refine⟨_,(qf (vG (xg (qm DLwIsSmall (Wl hr) (qa_c (qv 0) (qa_c (qv 1) qc))))
   (qi (qt (qR qc)))
   qP)
  (qf (qy (i:=2) scRows.nd rfl Wu (qm DLimbs (Wl hr) (qa_c (qv 0) (qa_c (qv 1) qc))))
  (qi (qt (ql jn (qR (qa_c (ql qO (ql zp qe (qK vq (by rfl) N.len jx (qa_c (qv 2) qc))) (ql zp qe (vH jw (by rfl) N.int qam (qa_c (vC xX (qv 1) qe (qA _)) qc)))) qc)) (qv 2)))))),_,(qh (vz (ct_b (qo (qa (qb 0) (qa (qb 1) qd))))
   (qB (vn qd))
   qM)
   (qh (qx (qo (qa (qb 0) (qa (qb 1) qd))) (qk 2))
   (qB (qj xh (vn (qa (qj (qr λ_ _=>.int _) (qj (qW λ_ _=>.int _) Wm (xo (qa (qb 2) qd))) (qj (qW λ_ _=>.int _) Wm (zB Ze (qa (qj (qr λ_ _=>.bl _) (qb 1) Wm) qd)))) qd)) (qb 2))))),λts Qt h=>?_⟩
 obtain⟨bits,ms,n,rfl,R,hn,q⟩:=h;have hb:=R.b;unfold qI at q;symm;refine ki R ?_;cases hs:qL (bits-(qQ ms "small").2.1) n with
 |true =>
  rw[if_pos hs] at q;symm;exact q
 |false =>
  rw[if_neg (by rw[hs]; decide)] at q;symm;refine⟨bits,ms,n,rfl,by lia,by lia,hn, ?_⟩;symm;have hc:=Jj hn (bits:=bits) (by lia) (by lia);have hl:(zy bits n).length=lcnt bits n:=by unfold zy; rw[Ug,Rn]
  rw[Ug,hl];refine⟨.inl (by decide), .inl (by decide),by rw[sizeLine_eq]; lia, ?_⟩;have e:(4*(lcnt bits n:Int)+2*if n<0 then 1 else 0)=v8 bits n:=by unfold v8; split<;>lia
  rw[e];exact q
abbrev sWord:Stmt:=top 62
theorem scWord:FnScope ["laying","n","address","kind","name","width","pattern","load"] ["laying","n","address"] (qg sWord):=⟨rfl,rfl,rfl,by decide +kernel,rfl,by decide +kernel,by decide +kernel⟩
def kM(bits:Int)(ms:List Mk3)(n a:Int):Int:=wdK bits ms (if qL (bits-(qQ ms "small").2.1) n=true then("small", n) else("far", a))
def GL:List T->(T->Prop)->Prop:=λts Q=>∃(bits:Int)(ms:List Mk3)(n a:Int),ts=[layT bits ms, .int n, .int a]/\Right bits ms/\0<=a/\a<2^(bits-(qQ ms "far").2.1).toNat/\Q (.int (kM bits ms n a))
theorem ok_lword(F:Fun Ξ "_law_word" "_law_word" sWord f fd)(DLwIsSmall:Def P w Ξ mg base "_law_is_small" 3 ["laying","n"] (spP jY))(DMark:Def P w Ξ mg base "_law_mark" 1 ["laying","kind"] (spP VW)):FnOk P w Ξ mg base CX0 4 f fd ["laying","n","address"] (spP GL):=by
 refine F.zP scWord (λts Qt h=>?_) (λcdv A outer s H E hr=>?_)
 ·obtain⟨_,_,_,_,rfl,_⟩:=h
  rfl
 refine⟨_,(qf (qy (i:=3) scWord.nd rfl Wu (vX (xg (qm DLwIsSmall (Wl hr) (qa_c (qv 0) (qa_c (qv 1) qc)))) qD qD))
  (qf (zd (qm DMark (Wl hr) (qa_c (qv 0) (qa_c (qv 3) qc))) (Wc (Ξ:=Ξ) (i:=4) (j:=5) (k:=6) rfl scWord.nd rfl rfl rfl rfl Wu Wu Wu Wu Wu Wu))
  (qf (qy (i:=7) scWord.nd rfl Wu (vX (qw vD (qv 3) qD (qA _)) (ql zi (qv 1) (ql vS qe (ql vp (qH (Ub Ξ) (qv 0) qe (λ_ _=>rfl)) (qv 5)))) (qv 2)))
  (qi (qt (ql qO (ql zp (qv 7) (ql vS qe (qv 5))) (qv 6))))))),_,(qh (qx (ce_ifC (ct_b (qo (qa (qb 0) (qa (qb 1) qd)))) (.str _) (.str _)) (qk 3))
   (qh (qx (qo (qa (qb 0) (qa (qb 3) qd))) (cg_name3 4 5 6))
   (qh (qx (Zd (qC (qj qX (qb 3) Wr)) (qj (qW λ_ _=>.int _) (qb 1) (qj (qW λ_ _=>.int _) Wm (qj (qr λ_ _=>.int _) (vi (qb 0) Wm) (qb 5)))) (qb 2)) (qk 7))
   (qB (qj (qr λ_ _=>.int _) (qj (qW λ_ _=>.int _) (qb 7) (qj (qW λ_ _=>.int _) Wm (qb 5))) (qb 6)))))),λts Qt h=>?_⟩
 obtain⟨bits,ms,n,a,rfl,R,a0,a1,q⟩:=h;have hb:=R.b;have hn5:=R.n;unfold kM wdK zQ at q;symm;refine ki R ?_;cases hs:qL (bits-(qQ ms "small").2.1) n with
 |true =>
  rw[if_pos hs] at q;obtain⟨m,hm⟩:=R.kind (kind := "small") (by decide);have hmw:=R.w m hm.mem;have hnd:=vY m.1;have hp:=qZ m.2.1.toNat;have h60:=pow60 (s:=m.2.1) (by lia);symm;refine⟨bits,ms,"small", m,rfl,by lia,hm, ?_⟩;symm;rw[UM,UM];refine⟨⟨by lia,by lia,by decide⟩,qZ _,⟨by lia,by lia,by decide⟩, .inr ⟨by lia,by lia⟩, ?_⟩;rw[hm.mk] at q;exact q
 |false =>
  rw[if_neg (by rw[hs]; decide)] at q;obtain⟨m,hm⟩:=R.kind (kind := "far") (by decide);have hmw:=R.w m hm.mem;have hnd:=vY m.1;have hp:=qZ m.2.1.toNat;have h60:=pow60 (s:=m.2.1) (by lia);symm;refine⟨bits,ms,"far", m,rfl,by lia,hm, ?_⟩;symm;refine zn (by decide) ?_;rw[UM];refine⟨⟨by lia,by lia,by decide⟩, .inr ⟨by lia,by lia⟩, ?_⟩;rw[hm.mk] at q a1;rw[U7 a0 a1] at q;exact q
abbrev sDue:Stmt:=top 65
theorem scDue:FnScope ["word","a","b"] ["word","a","b"] (qg sDue):=⟨rfl,rfl,rfl,by decide +kernel,rfl,by decide +kernel,by decide +kernel⟩
def Jw:List Str:=["plus","less","times","over","rest"]
def opW(w:Str)(a b:Int):Int:=if w = "plus" then a+b else if w = "less" then a-b else if w = "times" then a*b else if w = "over" then a.fdiv b else a.fmod b
def ntW(w:Str):Prop:=w = "over" \/ w = "rest"
structure OkW(w:Str)(a b:Int):Prop where
 w:w∈Jw
 m:IntMulOk a b
 d:Builtin.divisionGoesByPylong a b=false
 m2:IntMulOk b (a.fdiv b)
def gDue:List T->(T->Prop)->Prop:=λts Q=>∃(w:Str)(a b:Int),ts=[.str w, .int a, .int b]/\OkW w a b/\(ntW w->b=0->Q .non)/\(¬(ntW w/\b=0)->Q (.int (opW w a b)))
theorem ok_due(F:Fun Ξ "_law_due" "_law_due" sDue f fd):FnOk P w Ξ mg base CX0 1 f fd ["word","a","b"] (spP gDue):=by
 refine F.zP scDue (λts Qt h=>?_) (λcdv A outer s H E hr=>?_)
 ·obtain⟨_,_,_,rfl,_⟩:=h
  rfl
 refine⟨_,(qf (vG (qw vD (qv 0) qD (qA _))
   (qi (qt (ql qO (qv 1) (qv 2))))
   qP)
  (qf (vG (qw vD (qv 0) qD (qA _))
   (qi (qt (ql vp (qv 1) (qv 2))))
   qP)
  (qf (vG (qw vD (qv 0) qD (qA _))
   (qi (qt (ql Jb (qv 1) (qv 2))))
   qP)
  (qf (vG (qw vD (qv 2) qe (qA _))
   (qi (qt xJ))
   qP)
  (qi (qt (vX (qw vD (qv 0) qD (qA _)) (ql VG (qv 1) (qv 2)) (ql vp (qv 1) (ql Jb (qv 2) (ql VG (qv 1) (qv 2))))))))))),_,(qh (vz (qC (qj qX (qb 0) Wr))
   (qB (qj (qr λ_ _=>.int _) (qb 1) (qb 2)))
   qM)
   (qh (vz (qC (qj qX (qb 0) Wr))
   (qB (qj (qr λ_ _=>.int _) (qb 1) (qb 2)))
   qM)
   (qh (vz (qC (qj qX (qb 0) Wr))
   (qB (qj (qW λ_ _=>.int _) (qb 1) (qb 2)))
   qM)
   (qh (vz (qC (qj qX (qb 2) Wm))
   (qB (ce_c .non))
   qM)
   (qB (Zd (qC (qj qX (qb 0) Wr)) (qj (qW λ_ _=>.int _) (qb 1) (qb 2)) (qj (qr λ_ _=>.int _) (qb 1) (qj (qW λ_ _=>.int _) (qb 2) (qj (qW λ_ _=>.int _) (qb 1) (qb 2)))))))))),λts Qt h=>?_⟩
 obtain⟨w,a,b,rfl,O,k1,k2⟩:=h;have hw:=O.w;simp only[Jw,Up,UQ,or_false] at hw;have no:∀{v:Str},v ≠ "over" -> v ≠ "rest" -> w=v->Qt (.int (opW w a b)):=λh1 h2 e=>k2 λz=>by
  rw[e] at z;rcases z.1 with z|z
  ·exact h1 z
  ·exact h2 z
 rcases hw with rfl|rfl|rfl|rfl|rfl
 ·walk_at "pk"
  exact no (by decide) (by decide) rfl
 ·walk_at "pk"
  exact no (by decide) (by decide) rfl
 ·walk_at "pk"
  exact⟨O.m,no (by decide) (by decide) rfl⟩
 ·walk_at "pk"
  refine ite2 (λz=>k1 (.inl rfl) z) (λz=>?_);walk_at "pk";exact⟨⟨z,O.d⟩,k2 λy=>z y.2⟩
 ·walk_at "pk"
  refine ite2 (λz=>k1 (.inr rfl) z) (λz=>?_);walk_at "pk";have e:opW "rest" a b=a-b*a.fdiv b:=by
   show a.fmod b=_;have:=Int.fmod_add_mul_fdiv a b;lia
  have:=k2 λy=>z y.2;rw[e] at this;exact⟨⟨z,O.d⟩,O.m2,this⟩
local macro_rules | `(tactic| walk_at "vx") => `(tactic| simp only[zM,kQ,kP,zK,ze,uTry,zN,zL,kR,kW,endX,uAsG,vV])
local macro_rules | `(tactic| walk_at "pk") => `(tactic| (walk_at "v"; repeat ((first|walk_at "vx" |refine zn (by decide) ?_|refine v5 rfl ?_); walk_at "v")))
abbrev sWide:Stmt:=top 60
theorem scWide:FnScope ["bag","least","bits","marks"] ["bag","least"] (qg sWide):=⟨rfl,rfl,rfl,by decide +kernel,rfl,by decide +kernel,by decide +kernel⟩
theorem ndWide1:(["bag","least","bits","marks","kind","width","pattern"]:List Str).Nodup:=by decide +kernel
structure Wide(bits:Int)(ms:List Mk3):Prop where
 R:Right bits ms
 f:∀m∈ms,m.1 = "far" \/ m.1 = "pair" -> 7<=bits-m.2.1
theorem wide16:Wide 16 [("pair", 3,3),("far", 3,1),("sign", 3,5),("small", 1,0),("one", 3,7)]:=by
 refine⟨⟨by decide,rfl,by decide,by decide,by decide, ?_⟩,by decide⟩;refine List.Pairwise.cons (λm' hm=>?_) (List.Pairwise.cons (λm' hm=>?_) (List.Pairwise.cons (λm' hm=>?_) (List.Pairwise.cons (λm' hm=>?_) (List.Pairwise.cons (λm' hm=>nomatch hm) .nil))))
 all_goals
  simp only[Up,UQ,or_false] at hm
  first
   | (rcases hm with rfl|rfl|rfl|rfl<;>exact Qy (by decide))
   | (rcases hm with rfl|rfl|rfl<;>exact Qy (by decide))
   | (rcases hm with rfl|rfl<;>exact Qy (by decide))
   | (subst hm; exact Qy (by decide))
def gWide:List U->MM->UK->Prop:=λus M Q=>∃(k:Nat)(o:MO),us=[.m k, .p (.int 7)]/\M[k]?=some o/\BagO o/\∀(bits:Int)(ms:List Mk3)(o':MO),BagO o'->Wide bits ms->Q (.p (layT bits ms)) (M.set k o')
theorem ok_wide(F:Fun Ξ "_law_wide" "_law_wide" sWide f fd)(N:Nms mg)(DLaying:Def P w Ξ mg base "_law_laying" 3 ["bag"] (spU Ju)):FnOk P w Ξ mg base CX0 4 f fd ["bag","least"] (spU gWide):=by
 refine F.zV scWide (λus M Qu h=>?_) (λcdv A outer s H E hr=>?_)
 ·obtain⟨_,_,rfl,_⟩:=h
  rfl
 refine⟨_,(qf (zd (qm DLaying (Wl hr) (qa_c (qv 0) qc)) (We (Ξ:=Ξ) (i:=2) (j:=3) rfl scWide.nd rfl rfl rfl Gd Wu Wu Wu))
  (qf (vG (qw op_ge (qK (Xh (Ξ:=Ξ) rfl rfl) (by rfl) N.min Yj (qa_c (VC [false,false,true,false] ["kind","width","pattern"] (vL (Ξ:=Ξ) rfl (qv 3)) (λ_ _ _=>(Wc (Ξ:=Ξ) (i:=4) (j:=5) (k:=6) rfl ndWide1 rfl rfl rfl rfl Wu Wu Wu Gd Gd Gd)) (λ_ _ _=>jP (qw (op_inK (Ξ:=Ξ) rfl) (qv 4) (qR (qa_c qD (qa_c qD qc))) (by with_unfolding_all rfl))) (λ_ _ _=>(ql vp (qv 2) (qv 5)))) qc)) (qv 1) (qA _))
   (qi (qt (qS (qa_c (qv 2) (qa_c (qv 3) qc)))))
   qP)
  (qi (qt (qS (qa_c qe (qa_c (qR (qa_c (qS (qa_c qD (qa_c qe (qa_c qe qc)))) (qa_c (qS (qa_c qD (qa_c qe (qa_c qe qc)))) (qa_c (qS (qa_c qD (qa_c qe (qa_c qe qc)))) (qa_c (qS (qa_c qD (qa_c qe (qa_c qe qc)))) (qa_c (qS (qa_c qD (qa_c qe (qa_c qe qc)))) qc)))))) qc))))))),_,(qh (qx (qF (qa (qb 0) qd)) (Zb 2 3))
   (qh (vz (qC (qj (qr λ_ _=>.bl _) (zB KG (qa (xp (zo (qb 3)) (Xf 4 5 6) (qC (qj opl_in (qb 4) (vn (qa Wr (qa Wr qd))))) (qj (qr λ_ _=>.int _) (qb 2) (qb 5))) qd)) (qb 1)))
   (qB (qT (qa (qb 2) (qa (qb 3) qd))))
   qM)
   (qB (qT (qa Wm (qa (vn (qa (qT (qa Wr (qa Wm (qa Wm qd)))) (qa (qT (qa Wr (qa Wm (qa Wm qd)))) (qa (qT (qa Wr (qa Wm (qa Wm qd)))) (qa (qT (qa Wr (qa Wm (qa Wm qd)))) (qa (qT (qa Wr (qa Wm (qa Wm qd)))) qd)))))) qd)))))),λus M M1 Qu e1 h=>?_⟩
 obtain⟨k,o,rfl,em,hB,post⟩:=h;obtain⟨hkl,eM⟩:=jz em;rw[e1.trans eM];nofun;refine⟨k,o,rfl,Xo hkl,hB,λo1 bits ms B1 hR=>?_⟩;rw[xr hkl];have hn5:=hR.n;unfold layT;nofun;refine v9 (by rw[Ug,sizeLine_eq]; lia) (λi acc M'=>M'=MB M k o1 []/\acc=(((ms.take i).filter λ(m:Mk3)=>decide (m.1=("far" : Str)\/m.1=("pair" : Str))).map λ(m:Mk3)=>bits-m.2.1).map T.int) ⟨rfl,rfl⟩ ?_ ?_
 ·rintro i x acc M' hx _ ⟨rfl,rfl⟩
  obtain⟨m,hm,rfl⟩:=get_map hx;unfold Qm;nofun;refine⟨_,_, [.str "far", .str "pair"],rfl,rfl,rfl, ?_⟩;rw[show([.str "far", .str "pair"]:List V)=(["far","pair"]:List Str).map V.str from rfl,Ke];nofun;rw[vm hm,U9,Um,Um];have e:(m.1∈(["far","pair"]:List Str))↔(m.1=("far" : Str)\/m.1=("pair" : Str)):=by simp
  by_cases hk:m.1=("far" : Str)\/m.1=("pair" : Str)
  ·rw[if_pos (e.mpr hk)]
   simp[hk]
  ·rw[if_neg (λz=>hk (e.mp z))]
   simp[hk]
 rintro acc M' ⟨rfl,rfl⟩;rw[Ug,U2];nofun;have hmem:∀z:Int,z∈((ms.filter λ(m:Mk3)=>decide (m.1=("far" : Str)\/m.1=("pair" : Str))).map λ(m:Mk3)=>bits-m.2.1)↔∃m∈ms,(m.1 = "far" \/ m.1 = "pair")/\bits-m.2.1=z:=λz=>by
  simp only[UW,UB,decide_eq_true_eq,and_assoc]
 refine⟨_,rfl, ?_,λz hz hle=>?_⟩
 ·obtain⟨m,hm⟩:=hR.kind (kind := "far") (by decide)
  exact DU ((hmem _).mpr ⟨m,hm.mem, .inl hm.is,rfl⟩)
 nofun;refine ite2 (λh7=>?_) (λh7=>?_)
 ·nofun
  refine⟨jf B1.pur, ?_⟩;rw[jg];exact post bits ms o1 B1 ⟨hR,λm hm hk=>Int.le_trans h7 (hle _ ((hmem _).mpr ⟨m,hm,hk,rfl⟩))⟩
 ·refine⟨jf B1.pur, ?_⟩
  rw[jg];exact post 16 [("pair", 3,3),("far", 3,1),("sign", 3,5),("small", 1,0),("one", 3,7)] o1 B1 wide16
abbrev XT:Stmt:=top 63
theorem scPairOf:FnScope ["bag","laying","a","b"] ["bag","laying"] (qg XT):=⟨rfl,rfl,rfl,by decide +kernel,rfl,by decide +kernel,by decide +kernel⟩
def Jq:List U->MM->UK->Prop:=λus M Q=>∃(k:Nat)(o:MO)(bits:Int)(ms:List Mk3),us=[.m k, .p (layT bits ms)]/\M[k]?=some o/\BagO o/\Right bits ms/\∀(a b:Int)(o':MO),BagO o'->Bt 200 a->Bt 200 b->Q (.p (.tup [.int a, .int b])) (M.set k o')
theorem WJ(F:Fun Ξ "_law_pair_of" "_law_pair_of" XT f fd)(N:Nms mg)(DDraw:Def P w Ξ mg base "_law_draw" 1 ["bag","many"] (spU VZ))(DNumber:Def P w Ξ mg base "_law_number" 3 ["bag","laying"] (spU Jr)):FnOk P w Ξ mg base CX0 4 f fd ["bag","laying"] (spU Jq):=by
 refine F.zV scPairOf (λus M Qu h=>?_) (λcdv A outer s H E hr=>?_)
 ·obtain⟨_,_,_,_,rfl,_⟩:=h
  rfl
 refine⟨_,(qf (qs_par (i:=2) (j:=3) rfl scPairOf.nd rfl rfl (by decide) rfl rfl (qa_c (qm DNumber (Wl hr) (qa_c (qv 0) (qa_c (qv 1) qc))) (qa_c (qm DNumber (Wl hr) (qa_c (qv 0) (qa_c (qv 1) qc))) qc)) rfl)
  (qi (qt (qH (Ua Ξ) (qR (qa_c (qS (qa_c (qv 2) (qa_c (qv 3) qc))) (qa_c (qS (qa_c (qv 2) (qa_c (ql vp (qm DDraw (Wl hr) (qa_c (qv 0) (qa_c qe qc))) qe) qc))) (qa_c (qS (qa_c (qv 2) (qa_c (qv 2) qc))) qc)))) (ql qO (ql zF (qm DDraw (Wl hr) (qa_c (qv 0) (qa_c qe qc))) qe) (vH jw (by rfl) N.int qam (qa_c (vC vD (qm DDraw (Wl hr) (qa_c (qv 0) (qa_c qe qc))) qe (qA _)) qc))) (λ_ _=>rfl))))),_,(qh (cs_par (qa (qF (qa (qb 0) (qa (qb 1) qd))) (qa (qF (qa (qb 0) (qa (qb 1) qd))) qd)))
   (qB (vE (vn (qa (qT (qa (qb 2) (qa (qb 3) qd))) (qa (qT (qa (qb 2) (qa (qj (qr λ_ _=>.int _) (qF (qa (qb 0) (qa Wm qd))) Wm) qd))) (qa (qT (qa (qb 2) (qa (qb 2) qd))) qd)))) (qj (qr λ_ _=>.int _) (qj (qW λ_ _=>.int _) (qF (qa (qb 0) (qa Wm qd))) Wm) (zB Ze (qa (qj qX (qF (qa (qb 0) (qa Wm qd))) Wm) qd)))))),λus M M1 Qu e1 h=>?_⟩
 obtain⟨k,o,bits,ms,rfl,em,hB,hR,post⟩:=h;obtain⟨hkl,eM⟩:=jz em;rw[e1.trans eM];nofun;refine⟨k,o,bits,ms,rfl,Xo hkl,hB,hR,λa o1 B1 ha=>?_⟩;rw[xr hkl];refine⟨k,o1,bits,ms,rfl,Xo hkl,B1,hR,λb o2 B2 hb=>?_⟩;rw[xr hkl];nofun;refine vk hkl B2 (by decide) (by decide) λd o3 d0 d1 B3=>?_;nofun;refine vk hkl B3 (by decide) (by decide) λe o4 e0 e1 B4=>?_;nofun;refine⟨⟨by decide,by decide +kernel⟩, ?_⟩;refine vk hkl B4 (by decide) (by decide) λg o5 g0 g1 B5=>?_;have fin:∀z:Int,Bt 200 z->xL M (MB M k o5 [])/\∃t,frzB M.length 4 (MB M k o5 []) (.p (.tup [.int a, .int z]))=some t/\Qu (.p t) ((MB M k o5 []).take M.length):=λz hz=>⟨jf B5.pur,_,GO,by rw[jg]; exact post a z o5 B5 ha hz⟩;nofun;have hd:Bt 200 (d-3):=Bt.small (by lia) (by lia) (by decide);rcases(show(e / 2+if g=8 then 1 else 0)=0\/(e / 2+if g=8 then 1 else 0)=1\/(e / 2+if g=8 then 1 else 0)=2 by split<;>lia) with z|z|z<;>rw[z]
 ·exact vI rfl (fin _ hb)
 ·exact vI rfl (fin _ hd)
 ·exact vI rfl (fin _ ha)
abbrev YR:Stmt:=top 64
theorem scTried:FnScope ["store","word","r","q","p","told"] ["store","word","r","q","p"] (qg YR):=⟨rfl,rfl,rfl,by decide +kernel,rfl,by decide +kernel,by decide +kernel⟩
def GA(C:Addr):List U->MM->UK->Prop:=λus M Q=>∃(s h kp:Nat)(A:Mc)(v:Str)(r q p:Nat)(x y:Rf)(a b:Int),us=[.m s, .p (.str v), .p (.int r), .p (.int q), .p (.int p)]/\StA C M s h kp A/\r<8/\A.rg[q]?=some x/\A.rg[p]?=some y/\A.nv x=some a/\A.nv y=some b/\OkW v a b/\Bt 20000 (opW v a b)/\(ntW v->b=0->Q (.p (.str "Nought")) M)/\(¬(ntW v/\b=0)->((A.two r x y (opW v a b)).2=true->Go C M s h kp (A.two r x y (opW v a b)).1 (Q (.p (.str ""))))/\((A.two r x y (opW v a b)).2=false->Go C M s h kp (A.two r x y (opW v a b)).1 (Q (.p (.str "NoRoom")))))
theorem ok_tried(F:Fun Ξ "_law_tried" "_law_tried" YR f fd)(TStore:Cls Ξ C)(ONought:ExcC Ξ mg "Nought" CENought)(ONoRoom:ExcC Ξ mg "NoRoom" CENoRoom)(BNought:mg "Nought" = some (.ref CENought))(BNoRoom:mg "NoRoom" = some (.ref CENoRoom))(ENought_Nought:W.exmOne Ξ (.ref CENought) (.ref CENought)=some true)(ENoRoom_Nought:W.exmOne Ξ (.ref CENoRoom) (.ref CENought)=some false)(ENoRoom_NoRoom:W.exmOne Ξ (.ref CENoRoom) (.ref CENoRoom)=some true)(MStorePlus:MDefX P w Ξ mg base C "plus" 11 ["self","r","q","p"] (spX mg (jb C false (λ_ _=>True) (λa b=>a+b))))(MStoreLess:MDefX P w Ξ mg base C "less" 11 ["self","r","q","p"] (spX mg (jb C false (λ_ _=>True) (λa b=>a-b))))(MStoreTimes:MDefX P w Ξ mg base C "times" 11 ["self","r","q","p"] (spX mg (jb C false IntMulOk (λa b=>a*b))))(MStoreOver:MDefX P w Ξ mg base C "over" 11 ["self","r","q","p"] (spX mg (jb C true (λa b=>Builtin.divisionGoesByPylong a b=false) Int.fdiv)))(MStoreRest:MDefX P w Ξ mg base C "rest" 11 ["self","r","q","p"] (spX mg (jb C true (λ_ _=>True) Int.fmod))):FnOk P w Ξ mg base CX0 12 f fd ["store","word","r","q","p"] (spU (GA C)):=by
 refine F.zU scTried (λus M Qu h=>?_) (λcdv A outer s H E hr=>?_)
 ·obtain⟨_,_,_,_,_,_,_,_,_,_,_,_,rfl,_⟩:=h
  rfl
 refine⟨_,(qf (qy (i:=5) scTried.nd rfl Wu qD)
  (qf (qs_try (l:=[("Nought", _),("NoRoom", _)]) ⟨rfl,rfl,rfl,rfl⟩ (λ_ _ =>
   (vb (VA (qw vD (qv 1) qD (qA _))
    (vb (vB (zf (qv 0) TStore MStorePlus (Wl hr) (qa_c (qv 2) (qa_c (qv 3) (qa_c (qv 4) qc))))))
    (vb (VA (qw vD (qv 1) qD (qA _))
     (vb (vB (zf (qv 0) TStore MStoreLess (Wl hr) (qa_c (qv 2) (qa_c (qv 3) (qa_c (qv 4) qc))))))
     (vb (VA (qw vD (qv 1) qD (qA _))
      (vb (vB (zf (qv 0) TStore MStoreTimes (Wl hr) (qa_c (qv 2) (qa_c (qv 3) (qa_c (qv 4) qc))))))
      (vb (VA (qw vD (qv 1) qD (qA _))
       (vb (vB (zf (qv 0) TStore MStoreOver (Wl hr) (qa_c (qv 2) (qa_c (qv 3) (qa_c (qv 4) qc))))))
       (vb (vB (zf (qv 0) TStore MStoreRest (Wl hr) (qa_c (qv 2) (qa_c (qv 3) (qa_c (qv 4) qc)))))))))))))))
   (Gy BNought (λ_=>(qh_hit ONought.b ENought_Nought (λ_=>(qi (qy (i:=5) scTried.nd rfl Wu qD))))) (Gy BNoRoom (λ_=>(qh_miss BNought ENoRoom_Nought (qh_hit ONoRoom.b ENoRoom_NoRoom (λ_=>(qi (qy (i:=5) scTried.nd rfl Wu qD)))))) hh_nil)))
  (qi (qt (qv 5))))),_,(qh (qx Wr (qk 5))
   (qh (cs_try (vz (qC (qj qX (qb 1) Wr))
   (vf (zg (qb 0) (qa (qb 2) (qa (qb 3) (qa (qb 4) qd)))))
   (vz (qC (qj qX (qb 1) Wr))
   (vf (zg (qb 0) (qa (qb 2) (qa (qb 3) (qa (qb 4) qd)))))
   (vz (qC (qj qX (qb 1) Wr))
   (vf (zg (qb 0) (qa (qb 2) (qa (qb 3) (qa (qb 4) qd)))))
   (vz (qC (qj qX (qb 1) Wr))
   (vf (zg (qb 0) (qa (qb 2) (qa (qb 3) (qa (qb 4) qd)))))
   (vf (zg (qb 0) (qa (qb 2) (qa (qb 3) (qa (qb 4) qd))))))))) (Yl (λ_=>(qx Wr (qk 5))) (Yl (λ_=>(qx Wr (qk 5))) zh_nil)))
   (qB (qb 5)))),λus M Qu h=>?_⟩
 obtain⟨s,h,kp,A,v,r,q,p,x,y,a,b,rfl,S,hr,hq,hp,ea,eb,O,hb,k1,k2⟩:=h;have hw:=O.w;simp only[Jw,Up,UQ,or_false] at hw;rcases hw with rfl|rfl|rfl|rfl|rfl
 ·walk_at "pk"
  refine mS S (by rfl) ?_;refine⟨s,h,kp,A,r,q,p,x,y,rfl,S,hr,hq,hp,λa' b' ea' eb' _=>?_,λe=>(by rw[ea] at e; cases e),λa' _ e=>(by rw[eb] at e; cases e),λz=>nomatch z⟩;rw[ea] at ea';rw[eb] at eb';cases ea';cases eb';obtain⟨g1,g2⟩:=k2 λz=>absurd z.1 (by unfold ntW; decide);exact⟨trivial,hb,g1,λe M' h' kp' f a b S'=>⟨_,_,_,_,rfl,rfl,rfl,(by symm; exact g2 e M' h' kp' f a b S')⟩⟩
 ·walk_at "pk"
  refine mS S (by rfl) ?_;refine⟨s,h,kp,A,r,q,p,x,y,rfl,S,hr,hq,hp,λa' b' ea' eb' _=>?_,λe=>(by rw[ea] at e; cases e),λa' _ e=>(by rw[eb] at e; cases e),λz=>nomatch z⟩;rw[ea] at ea';rw[eb] at eb';cases ea';cases eb';obtain⟨g1,g2⟩:=k2 λz=>absurd z.1 (by unfold ntW; decide);exact⟨trivial,hb,g1,λe M' h' kp' f a b S'=>⟨_,_,_,_,rfl,rfl,rfl,(by symm; exact g2 e M' h' kp' f a b S')⟩⟩
 ·walk_at "pk"
  refine mS S (by rfl) ?_;refine⟨s,h,kp,A,r,q,p,x,y,rfl,S,hr,hq,hp,λa' b' ea' eb' _=>?_,λe=>(by rw[ea] at e; cases e),λa' _ e=>(by rw[eb] at e; cases e),λz=>nomatch z⟩;rw[ea] at ea';rw[eb] at eb';cases ea';cases eb';obtain⟨g1,g2⟩:=k2 λz=>absurd z.1 (by unfold ntW; decide);exact⟨O.m,hb,g1,λe M' h' kp' f a b S'=>⟨_,_,_,_,rfl,rfl,rfl,(by symm; exact g2 e M' h' kp' f a b S')⟩⟩
 ·walk_at "pk"
  refine mS S (by rfl) ?_;refine⟨s,h,kp,A,r,q,p,x,y,rfl,S,hr,hq,hp,λa' b' ea' eb' hz=>?_,λe=>(by rw[ea] at e; cases e),λa' _ e=>(by rw[eb] at e; cases e),λ_ a' _ e=>?_⟩
  ·rw[ea] at ea'
   rw[eb] at eb';cases ea';cases eb';obtain⟨g1,g2⟩:=k2 λz=>hz rfl z.2;exact⟨O.d,hb,g1,λe M' h' kp' f a b S'=>⟨_,_,_,_,rfl,rfl,rfl,(by symm; exact g2 e M' h' kp' f a b S')⟩⟩
  ·rw[eb] at e
   cases e;exact⟨_,_,_,_,rfl,rfl,rfl,(by symm; exact k1 (.inl rfl) rfl)⟩
 ·walk_at "pk"
  refine mS S (by rfl) ?_;refine⟨s,h,kp,A,r,q,p,x,y,rfl,S,hr,hq,hp,λa' b' ea' eb' hz=>?_,λe=>(by rw[ea] at e; cases e),λa' _ e=>(by rw[eb] at e; cases e),λ_ a' _ e=>?_⟩
  ·rw[ea] at ea'
   rw[eb] at eb';cases ea';cases eb';obtain⟨g1,g2⟩:=k2 λz=>hz rfl z.2;exact⟨trivial,hb,g1,λe M' h' kp' f a b S'=>⟨_,_,_,_,rfl,rfl,rfl,(by symm; exact g2 e M' h' kp' f a b S')⟩⟩
  ·rw[eb] at e
   cases e;exact⟨_,_,_,_,rfl,rfl,rfl,(by symm; exact k1 (.inr rfl) rfl)⟩
structure Lf(n d:Nat)(t:T):Prop where
 sh:(toD t).showable=true
 ls:(toD t).leavesShort 200=true
 wt:(toD t).weight<=n
 dp:(toD t).depth<=d
theorem Lf.show(h:Lf n d t)(hn:n<=60000)(hd:d<=60):ShowT t :=
 ⟨h.sh,UC h.dp hd,by
  have e:=PyData.shown_le 200 (by decide) _ h.ls;have:=h.wt;rw[sizeLine_eq];lia⟩
theorem Lf.mono(h:Lf n d t)(hn:n<=m)(hd:d<=e):Lf m e t:=⟨h.sh,h.ls,UC h.wt hn,UC h.dp hd⟩
theorem Lf.alls:∀{ts:List T},(∀t∈ts,Lf n d t)->PyData.showableAll (toDs ts)=true/\PyData.leavesShortAll 200 (toDs ts)=true/\PyData.weightAll (toDs ts)<=ts.length*(n+1)/\PyData.depthAll (toDs ts)<=d
 | [],_=>⟨rfl,rfl,UY _,UY _⟩
 |t::ts,h=>by
  obtain⟨h1,h2,h3,h4⟩:=Lf.alls λt' ht=>h t' (UP _ ht);have ht:=h t (UN ..);refine⟨?_, ?_, ?_, ?_⟩
  ·show((toD t).showable&&PyData.showableAll (toDs ts))=true
   rw[ht.sh,h1]; rfl
  ·show((toD t).leavesShort 200&&PyData.leavesShortAll 200 (toDs ts))=true
   rw[ht.ls,h2]; rfl
  ·show(toD t).weight+1+PyData.weightAll (toDs ts)<=_
   have:=ht.wt;rw[Ul,Nat.add_mul,Nat.one_mul];lia
  ·exact Nat.max_le.mpr ⟨ht.dp,h4⟩
theorem Lf.lst(h:∀t∈ts,Lf n d t):Lf (ts.length*(n+1)) (d+1) (.lst ts):=by
 obtain⟨h1,h2,h3,h4⟩:=Lf.alls h;exact⟨h1,h2,h3,Rs h4⟩
theorem Lf.tup(h:∀t∈ts,Lf n d t):Lf (ts.length*(n+1)) (d+1) (.tup ts):=by
 obtain⟨h1,h2,h3,h4⟩:=Lf.alls h;exact⟨h1,h2,h3,Rs h4⟩
theorem Lf.int(h:Bt k i)(hk:k<=590):Lf k 0 (.int i):=by
 have hl:i.natAbs=0\/i.natAbs.log2<k:=by
  by_cases hz:i.natAbs=0
  ·exact .inl hz
  ·exact .inr ((Bm hz).mpr h)
 have h10:i.natAbs<10^199:=Ux h (UC (Da (by decide) hk) (by decide +kernel));have e:=int_text_length_le10 (k:=199) (by decide) h10;have es:(PyData.shown (.int i)).length<=200:=by
  show(Str.ofString (toString i)).length<=200;rw[PySem.ofString_length]; exact e
 refine⟨decide_eq_true (show i.natAbs.log2<1920 from hl.elim (λz=>by rw[z]; decide) (λz=>by lia)),decide_eq_true es, ?_,Uk _⟩;show(if i==0 then 0 else i.natAbs.log2+1)<=k;by_cases hz:i=0
 ·subst hz; exact UY _
 ·have:¬(i==0)=true:=by simpa using hz
  rw[if_neg this];rcases hl with z|z
  ·exact absurd (Int.natAbs_eq_zero.mp z) hz
  ·exact z
theorem Lf.bl:Lf 64 0 (.bl b):=⟨rfl,rfl,UY _,Uk _⟩
theorem Lf.str(h1:(x.cps.toList.all λc=>decide (c<16^8))=true)(h2:x.cps.size<=64):Lf 64 0 (.str x):=⟨rfl,h1,h2,Uk _⟩
theorem qak(ha:Bt n a)(hb:b≠0):Bt (n+1) (a.fdiv b):=by
 unfold Bt at ha ⊢;have key:∀{x y:Int},0<y->x.natAbs<2^n->(x.fdiv y).natAbs<2^(n+1):=λ{x y} hy hx=>by
  rw[DC x (by lia)];have h1:=Int.natAbs_ediv_le_natAbs x y;rw[Nat.pow_succ]; lia
 rcases Be hb with h|h
 ·rw[<-Int.neg_fdiv_neg]
  exact key (by lia) (by rwa [RY])
 ·exact key h ha
theorem bt_fmod{a b:Int}(hb':Bt n b)(hb:b≠0):Bt n (a.fmod b):=by
 unfold Bt at hb' ⊢;rcases Be hb with h|h
 ·have e:a.fmod b = -((-a).fmod (-b)):=by rw[Int.neg_fmod_neg]; lia
  rw[e,RY,DB _ (by lia)];have h1:=U0 (-a) (show -b≠0 by lia);have h2:=UU (-a) (show 0 < -b by lia);lia
 ·rw[DB _ (by lia)]
  have h1:=U0 a hb;have h2:=UU a h;lia
theorem bt_mul(h:Bt n i)(h':Bt m j):Bt (n+m) (i*j):=by
 unfold Bt at h h' ⊢;rw[Int.natAbs_mul,Rq];exact Nat.mul_lt_mul'' h h'
theorem YY:(qI bits ms n).length=if qL (bits-(qQ ms "small").2.1) n=true then 0 else lcnt bits n+1:=by
 unfold qI;split
 ·rfl
 ·exact zb
theorem Gg(hb:8<=bits)(h:Bt k n):lcnt bits n<=(k+7) / 8:=by
 have hk:=h.bits;have h9:8<=bits.toNat:=by lia
 unfold lcnt;have e:k<=8*((k+7) / 8):=by lia
 refine Nat.le_of_lt_succ (RW ?_);show _<bits.toNat*((k+7) / 8+1);have h2:8*((k+7) / 8+1)<=bits.toNat*((k+7) / 8+1):=RX _ h9;have h3:bits.toNat*((k+7) / 8+1)=bits.toNat*((k+7) / 8)+bits.toNat:=RP _ _;have h4:8*((k+7) / 8)<=bits.toNat*((k+7) / 8):=RX _ h9;lia
namespace Mc
variable {A:Mc} {r:Nat} {n:Int}
def set1(A:Mc)(r:Nat)(n:Int):Mc:=if qL A.sm n=true then A.put r (.w ("small", n)) else A.lay r (.far n)
def ref1(A:Mc)(n:Int):Rf:=if qL A.sm n=true then .w ("small", n) else .t A.tb.length
theorem QZ(h:qL A.sm n=true):qI A.bits A.ms n=[]:=if_pos h
theorem kj(h:¬qL A.sm n=true):qI A.bits A.ms n=xc A.bits n:=if_neg h
theorem num_fit(hg:(lcnt A.bits n:Int)<2^(A.bits-2).toNat)(hf:(A.os.length:Int)+(qI A.bits A.ms n).length<=A.most):A.num r n=(A.set1 r n,true):=by
 unfold num set1;by_cases hs:qL A.sm n=true
 ·rw[if_pos hs,if_pos hs]
 ·rw[kj hs,zb] at hf
  have e:A.mk' (lcnt A.bits n+1)=A:=if_neg (Bg.mpr hf);rw[if_neg hs,if_neg hs,if_neg (D1.mpr hg),e,if_pos hf]
theorem small_in(O:A.Ok)(hs:qL A.sm n=true):InW A.bits A.ms ("small", n):=by
 obtain⟨m,hm⟩:=O.R.kind (kind := "small") (by decide);have h1:=of_decide_eq_true hs;unfold sm at h1;refine⟨?_, .inl rfl⟩;show Vld _ _ _ (qQ A.ms "small");have hk:OfKind A.ms "small" (qQ A.ms "small"):=by rw[hm.mk]; exact hm
 exact⟨hk,λ_=>h1,λz=>absurd rfl z,λz=>absurd z (by dsimp only; decide),λz=>absurd z (by dsimp only; decide)⟩
theorem ok_set1(O:A.Ok)(hg:(lcnt A.bits n:Int)<2^(A.bits-2).toNat)(hf:(A.os.length:Int)+(qI A.bits A.ms n).length<=A.most):(A.set1 r n).Ok:=by
 unfold set1;by_cases hs:qL A.sm n=true
 ·rw[if_pos hs]; exact ok_put O (small_in O hs)
 ·rw[if_neg hs]
  rw[kj hs,zb] at hf;exact ok_lay O ⟨DX.mpr hs,hg⟩ hf
theorem os_set1(O:A.Ok)(hg:(lcnt A.bits n:Int)<2^(A.bits-2).toNat):(A.set1 r n).os=A.os++qI A.bits A.ms n:=by
 unfold set1;by_cases hs:qL A.sm n=true
 ·rw[if_pos hs,QZ hs,UR]; rfl
 ·rw[if_neg hs,kj hs,os_lay O (t:=.far n) ⟨DX.mpr hs,hg⟩]; rfl
theorem ws_set1(O:A.Ok):(A.set1 r n).ws=A.ws.set r (kM A.bits A.ms n A.os.length):=by
 unfold set1 kM;by_cases hs:qL A.sm n=true
 ·have h2:qL (A.bits-(qQ A.ms "small").2.1) n=true:=hs
  rw[if_pos hs,if_pos h2,ws_put]; rfl
 ·have h2:¬qL (A.bits-(qQ A.ms "small").2.1) n=true:=hs
  rw[if_neg hs,if_neg h2,ws_lay O]; rfl
theorem nv_set1(O:A.Ok)(h:A.RfOk x):(A.set1 r n).nv x=A.nv x:=by
 unfold set1;by_cases hs:qL A.sm n=true
 ·rw[if_pos hs]; cases x<;>rfl
 ·rw[if_neg hs]
  cases x with
  |w x=>rfl
  |t i =>
   show(match(A.lay r (.far n)).th i with | .far n=>some n | .pr _ _=>none)=(match A.th i with | .far n=>some n | .pr _ _=>none);rw[Zi (O.b i h)]
theorem rg_set1:(A.set1 r n).rg=A.rg.set r (A.ref1 n):=by
 unfold set1 ref1;by_cases hs:qL A.sm n=true
 ·rw[if_pos hs,if_pos hs]; rfl
 ·rw[if_neg hs,if_neg hs]; rfl
theorem nv_ref1:(A.set1 r n).nv (A.ref1 n)=some n:=by
 unfold set1 ref1;by_cases hs:qL A.sm n=true
 ·rw[if_pos hs,if_pos hs]
  show(if(("small" : Str),n).1 = "small" then some n else none)=some n;rw[if_pos rfl]
 ·rw[if_neg hs,if_neg hs]
  show(match(A.lay r (.far n)).th A.tb.length with | .far n=>some n | .pr _ _=>none)=some n;rw[JT]
theorem isW_ref1:(A.ref1 n).isW=qL A.sm n:=by
 unfold ref1;by_cases hs:qL A.sm n=true
 ·rw[if_pos hs,hs]; show decide (("small" : Str) = "small")=true; decide
 ·rw[if_neg hs,DX.mpr hs]; rfl
theorem od_set1(h:i∈(A.set1 r n).od):i∈A.od\/A.ref1 n=.t i:=by
 unfold set1 at h;unfold ref1;by_cases hs:qL A.sm n=true
 ·rw[if_pos hs] at h; exact .inl h
 ·rw[if_neg hs] at h ⊢
  rcases Uu.mp h with z|z
  ·exact .inl z
  ·rw[Us.mp z]; exact .inr rfl
theorem kp_set1:(A.set1 r n).bits=A.bits/\(A.set1 r n).ms=A.ms/\(A.set1 r n).room=A.room/\(A.set1 r n).qu=A.qu/\(A.set1 r n).sl=A.sl/\(A.set1 r n).sw=A.sw:=by
 unfold set1;split<;>exact⟨rfl,rfl,rfl,rfl,rfl,rfl⟩
theorem num_lack(ha:∀i∈A.od,A.Rc i)(hg:(lcnt A.bits n:Int)<2^(A.bits-2).toNat)(h0:(A.os.length:Int)<=A.most)(hf:A.most<(A.os.length:Int)+(qI A.bits A.ms n).length):A.num r n=({ A with sw:=A.sw+1 },false):=by
 unfold num;by_cases hs:qL A.sm n=true
 ·rw[QZ hs] at hf
  simp at hf;lia
 ·rw[kj hs,zb] at hf
  have e:A.mk' (lcnt A.bits n+1)={ A with sw:=A.sw+1 }:=by
   unfold mk';rw[if_pos hf,swp_all ha]
  rw[if_neg hs,if_neg (D1.mpr hg),e];exact if_neg (D1.mpr hf)
end Mc
structure Two(A:Mc)(bits:Int)(ms:List Mk3)(room a b:Int)(q p:Nat)(x y:Rf):Prop where
 O:A.Ok
 e1:A.bits=bits
 e2:A.ms=ms
 e3:A.room=room
 c:A.qu=0/\A.sl=0/\A.sw=0
 o:A.os=qI bits ms a++qI bits ms b
 hx:A.rg[q]?=some x
 hy:A.rg[p]?=some y
 nx:A.nv x=some a
 ny:A.nv y=some b
 wx:x.isW=qL (bits-(qQ ms "small").2.1) a
 wy:y.isW=qL (bits-(qQ ms "small").2.1) b
 rc:∀i∈A.od,A.Rc i
theorem W1(W:Wide bits ms)(h1:k<=room)(h2:k<=128):k<=xD bits ms room:=by
 have key:∀kind,kind∈kg->(kind=("far" : Str)\/kind=("pair" : Str))->(128:Int)<=2^(bits-wOf ms kind).toNat:=λkind hk hf=>by
  obtain⟨m,hm⟩:=W.R.kind hk;have:=W.f m hm.mem (by rw[hm.is]; exact hf);rw[kN hm];have:(2:Nat)^7<=2^(bits-m.2.1).toNat:=Da (by decide) (by lia);exact_mod_cast this
 have k1:=key "far" (by decide) (.inl rfl);have k2:=key "pair" (by decide) (.inr rfl);unfold xD;rcases @Jg room (2^(bits-wOf ms "far").toNat) (2^(bits-wOf ms "pair").toNat) with e|e|e<;>lia
theorem Kn(hb:8<=bits)(h:Bt k n)(hk:k<=480):(lcnt bits n:Int)<2^(bits-2).toNat:=by
 have h1:=Gg hb h;have:(2:Nat)^6<=2^(bits-2).toNat:=Da (by decide) (by lia);have:(64:Int)<=2^(bits-2).toNat:=by exact_mod_cast this
 lia
theorem zE(hb:8<=bits)(h:Bt k n):(qI bits ms n).length<=(k+7) / 8+1:=by
 have:=Gg hb h;rw[YY];split<;>lia
theorem mk_two(W:Wide bits ms)(ha:Bt 200 a)(hb:Bt 200 b)(hr:((qI bits ms a).length:Int)+(qI bits ms b).length<=room)(h4:room<=400)(hq:q<8)(hp:p<8)(hne:p≠q) :
  (Mc.new bits ms room).num q a=((Mc.new bits ms room).set1 q a,true)/\((Mc.new bits ms room).set1 q a).num p b=(((Mc.new bits ms room).set1 q a).set1 p b,true)/\∃x y,Two (((Mc.new bits ms room).set1 q a).set1 p b) bits ms room a b q p x y:=by
 have h8:=W.R.b;have la:=zE (ms:=ms) h8.1 ha;have lb:=zE (ms:=ms) h8.1 hb;have O0:=ok_new W.R (room:=room) (by lia) h4;have f0:(((Mc.new bits ms room).os.length:Int))+(qI bits ms a).length<=(Mc.new bits ms room).most:=by
  show(0:Int)+_<=xD bits ms room;exact W1 W (by lia) (by lia)
 have ga:=Kn h8.1 ha (by decide);have gb:=Kn h8.1 hb (by decide);have O1:=Mc.ok_set1 (r:=q) O0 ga f0;have eo1:=Mc.os_set1 (r:=q) O0 ga;obtain⟨b1,b2,b3,b4,b5,b6⟩:=@Mc.kp_set1 (Mc.new bits ms room) q a;generalize eA:(Mc.new bits ms room).set1 q a=A at O1 eo1 b1 b2 b3 b4 b5 b6 ⊢;have eo1:A.os=qI bits ms a:=eo1;have b1:A.bits=bits:=b1;have b2:A.ms=ms:=b2;have b3:A.room=room:=b3;have f1:(A.os.length:Int)+(qI A.bits A.ms b).length<=A.most:=by
  rw[eo1,b1,b2];unfold Mc.most;rw[b1,b2,b3];exact W1 W hr (by lia)
 have gb':(lcnt A.bits b:Int)<2^(A.bits-2).toNat:=by rw[b1]; exact gb
 have erg:A.rg=(List.replicate 8 (.w ("one", 0))).set q ((Mc.new bits ms room).ref1 a):=by rw[<-eA]; exact Mc.rg_set1
 have hx:A.rg[q]?=some ((Mc.new bits ms room).ref1 a):=by rw[erg]; exact Uw (by rw[RB]; exact hq)
 have nx:A.nv ((Mc.new bits ms room).ref1 a)=some a:=by rw[<-eA]; exact Mc.nv_ref1
 have od:∀i∈A.od,(Mc.new bits ms room).ref1 a=.t i:=λi hi=>by
  rw[<-eA] at hi;exact(Mc.od_set1 hi).elim (λz=>nomatch z) id
 have c1:=@Mc.kp_set1 A p b;have hx2:(A.set1 p b).rg[q]?=some ((Mc.new bits ms room).ref1 a):=by rw[Mc.rg_set1,Uz hne]; exact hx
 have hy2:(A.set1 p b).rg[p]?=some (A.ref1 b):=by rw[Mc.rg_set1]; exact Uw (by rw[O1.l8]; exact hp)
 refine⟨by rw[Mc.num_fit ga f0,eA],Mc.num_fit gb' f1,(Mc.new bits ms room).ref1 a,A.ref1 b, ?_⟩;refine⟨Mc.ok_set1 O1 gb' f1,c1.1.trans b1,c1.2.1.trans b2,c1.2.2.1.trans b3,⟨c1.2.2.2.1.trans b4,c1.2.2.2.2.1.trans b5,c1.2.2.2.2.2.trans b6⟩, ?_,hx2,hy2, ?_,Mc.nv_ref1,Mc.isW_ref1, ?_,λi hi=>?_⟩
 ·rw[Mc.os_set1 O1 gb',eo1,b1,b2]
 ·rw[Mc.nv_set1 O1 (O1.g _ (Uh hx))]; exact nx
 ·rw[Mc.isW_ref1]
  unfold Mc.sm;rw[b1,b2]
 ·rcases Mc.od_set1 hi with z|z
  ·exact .of (Uh (hx2.trans (by rw[od i z])))
  ·exact .of (Uh (hy2.trans (by rw[z])))
theorem two_two(D:Two A bits ms room a b q p x y)(h8:8<=bits)(hn:Bt 400 n) :
  (((qI bits ms a++qI bits ms b).length:Int)+(qI bits ms n).length<=xD bits ms room->(A.two r x y n)=((A.set1 r n).cnt (qL (bits-(qQ ms "small").2.1) a&&qL (bits-(qQ ms "small").2.1) b&&qL (bits-(qQ ms "small").2.1) n),true)/\(A.set1 r n).Ok) /\
  (xD bits ms room<((qI bits ms a++qI bits ms b).length:Int)+(qI bits ms n).length->A.two r x y n=({ A with sw:=A.sw+1 },false)):=by
 have em:A.most=xD bits ms room:=by unfold Mc.most; rw[D.e1,D.e2,D.e3]
 have es:A.sm=bits-(qQ ms "small").2.1:=by unfold Mc.sm; rw[D.e1,D.e2]
 have g:(lcnt A.bits n:Int)<2^(A.bits-2).toNat:=by rw[D.e1]; exact Kn h8 hn (by decide)
 refine⟨λhf=>?_,λhf=>?_⟩
 ·have f1:(A.os.length:Int)+(qI A.bits A.ms n).length<=A.most:=by rw[em,D.o,D.e1,D.e2]; exact hf
  refine⟨?_,Mc.ok_set1 D.O g f1⟩;unfold Mc.two;rw[Mc.num_fit g f1,D.wx,D.wy,es];exact if_pos rfl
 ·have f1:A.most<(A.os.length:Int)+(qI A.bits A.ms n).length:=by rw[em,D.o,D.e1,D.e2]; exact hf
  unfold Mc.two;rw[Mc.num_lack D.rc g D.O.f f1];exact if_neg (show ¬(false=true) by decide)
theorem bt_opW(ha:Bt 200 a)(hb:Bt 200 b):Bt 400 (opW v a b):=by
 unfold opW;split
 ·exact(ha.add hb).mono (by decide)
 split
 ·exact(ha.sub hb).mono (by decide)
 split
 ·exact bt_mul ha hb
 split
 ·by_cases z:b=0
  ·subst z; rw[Int.fdiv_zero]; unfold Bt; decide +kernel
  ·exact(qak ha z).mono (by decide)
 ·by_cases z:b=0
  ·subst z; rw[Int.fmod_zero]; exact ha.mono (by decide)
  ·exact(bt_fmod hb z).mono (by decide)
theorem okW_of(hv:v∈Jw)(ha:Bt 200 a)(hb:Bt 200 b):OkW v a b:=by
 have hf:Bt 201 (a.fdiv b):=by
  by_cases z:b=0
  ·subst z; rw[Int.fdiv_zero]; unfold Bt; decide +kernel
  ·exact qak ha z
 refine⟨hv, .of_bits (UC ha.bits (by decide)) (UC hb.bits (by decide)),Ri ?_, .of_bits (UC hb.bits (by decide)) (UC hf.bits (by decide))⟩;by_cases z:b.natAbs=0
 ·rw[z]; decide
 ·exact Nat.lt_trans ((Bm z).mpr hb) (by decide)
local macro_rules | `(tactic| walk_at "vx") => `(tactic| simp only[zM,kQ,kP,zK,ze,uTry,zN,zL,kR,kW,endX,uAsG,vV])
local macro_rules | `(tactic| walk_at "pk") => `(tactic| (walk_at "v"; repeat ((first|walk_at "vx" |refine zn (by decide) ?_|refine v5 rfl ?_); walk_at "v")))
def gNumC(C:Addr):List U->MM->UK->Prop:=λus M Q=>gNumS C us M Q λ_ _ _=>False
def gBelC(C:Addr):List U->MM->UK->Prop:=λus M Q=>GE C us M Q λ_ _ _=>False
theorem ok_numC(F:Fun Ξ "number" "Store.number" zc f fd)(N:Nms mg)(TP:TxStore Ξ C)(TStore:Cls Ξ C)(ONoRoom:ExcC Ξ mg "NoRoom" CENoRoom)(DIsSmall:Def P w Ξ mg base "is_small" 3 ["laying","n"] (spP ky))(DWordOf:Def P w Ξ mg base "word_of" 3 ["laying","worth"] (spP xk))(DIsGreat:Def P w Ξ mg base "is_great" 2 ["laying","n"] (spP kz))(DRowsOf:Def P w Ξ mg base "rows_of" 2 ["laying","n"] (spP gRows))(MStoreMakeRoom:MDefX P w Ξ mg base C "make_room" 8 ["self","size"] (spX mg (Kj C)))(MStoreLay:MDef P w Ξ mg base C "lay" 4 ["self","r","kind","thing"] (spU (gLayS C))):FnOk P w Ξ mg base CX0 9 f fd ["self","r","n"] (spU (gNumC C)):=FnOk.calmU (WK F N TP TStore ONoRoom DIsSmall DWordOf DIsGreat DRowsOf MStoreMakeRoom MStoreLay) λ_ _ _ h=>h
theorem ok_belC(F:Fun Ξ "below" "Store.below" zD f fd)(TStore:Cls Ξ C)(DNeedNumbers:DefX P w Ξ mg base "need_numbers" 4 ["store","q","p"] (spX mg (j8 C)))(MStoreTold:MDef P w Ξ mg base C "told" 5 ["self","q"] (spU (zO C))):FnOk P w Ξ mg base CX0 6 f fd ["self","q","p"] (spU (gBelC C)):=FnOk.calmU (WH F TStore DNeedNumbers MStoreTold) λ_ _ _ h=>h
abbrev YV:Stmt:=top 59
theorem scAlike:FnScope ["found","due"] ["found","due"] (qg YV):=⟨rfl,rfl,rfl,by decide +kernel,rfl,by decide +kernel,by decide +kernel⟩
def Jv:List T->(T->Prop)->Prop:=λts Q=>∃t:T,ts=[t,t]/\ShowT t/\Q (.bl true)
theorem WO(F:Fun Ξ "_law_alike" "_law_alike" YV f fd)(NRepr:mg "repr" = none):FnOk P w Ξ mg base CX0 1 f fd ["found","due"] (spP Jv):=by
 refine F.zP scAlike (λts Qt h=>?_) (λcdv A outer s H E hr=>?_)
 ·obtain⟨_,rfl,_⟩:=h
  rfl
 refine⟨_,(qi (qt (vC vD (qK (Xg hr.gd hr.units) (by rfl) NRepr b_repr (qa_c (qv 0) qc)) (qK (Xg hr.gd hr.units) (by rfl) NRepr b_repr (qa_c (qv 1) qc)) (qA _)))),_,(qB (qj qX (zB KF (qa (qb 0) qd)) (zB KF (qa (qb 1) qd)))),λts Qt h=>?_⟩;obtain⟨t,rfl,ht,q⟩:=h;symm;rw[Y2];refine⟨ht, ?_⟩;symm;rw[Y2];refine⟨ht, ?_⟩;symm;exact q
theorem V4:flD (n+2) (qU l):=λx hx=>by
 obtain⟨i,_,rfl⟩:=UW.mp hx;trivial
theorem StA.mv(S:StA C M s h kp A)(f:∀i,i<M.length->M'[i]?=M[i]?):StA C M' s h kp A:=by
 have l:=λ{i:Nat} {o:MO} (e:M[i]?=some o)=>(Ue.mp e).1;exact⟨S.O,(f s (l S.S.s0)).trans S.S.s0,(f h (l S.S.h0)).trans S.S.h0,(f kp (l S.S.k0)).trans S.S.k0,S.S.sh,S.S.sk,S.S.hk⟩
theorem Mc.cnt_eq{A:Mc}:(A.cnt b).ws=A.ws/\(A.cnt b).os=A.os/\(A.cnt b).rg=A.rg/\(∀{x:Rf},(A.cnt b).nv x=A.nv x)/\(A.cnt b).qu=A.qu+(if b=true then 1 else 0)/\(A.cnt b).sl=A.sl+(if b=true then 0 else 1)/\(A.cnt b).sw=A.sw:=by
 unfold Mc.cnt;cases b
 ·refine⟨rfl,rfl,rfl,λ{x}=>by cases x<;>rfl, ?_,rfl,rfl⟩
  show A.qu=A.qu+0;lia
 ·refine⟨rfl,rfl,rfl,λ{x}=>by cases x<;>rfl,rfl, ?_,rfl⟩
  show A.sl=A.sl+0;lia
theorem bt33{bits z:Int}(hb:bits<=32)(h0:0<=z)(h1:z<2^bits.toNat):Bt 33 z:=(bt_of h0 h1).mono (by lia)
theorem wd_bt{A:Mc}(O:A.Ok)(h:A.RfOk x):Bt 33 (A.wd x):=by
 have:=Mc.wd_ok O h;exact bt33 O.R.b.2 this.1 this.2
theorem os_bt{A:Mc}(O:A.Ok):∀z∈A.os,Bt 33 z:=λz hz=>by
 have:=Mc.os_ok O z hz;exact bt33 O.R.b.2 this.1 this.2
theorem rows_nil:(List.map T.int (qI bits ms n)).isEmpty=qL (bits-(qQ ms "small").2.1) n:=by
 unfold qI;cases qL (bits-(qQ ms "small").2.1) n<;>rfl
theorem frz_due:frzN 6 (M++[iM X]++[iM Y]++[.lst [.p (.str t), .m M.length, .m (M++[iM X]).length, .p (.int a), .p (.int b), .p (.int c), .p (.int d)]]) (.m (M++[iM X]++[iM Y]).length)=some (.lst [.str t,qU X,qU Y, .int a, .int b, .int c, .int d]):=by
 have key:∀Z:MO,(M++[iM X]++[iM Y]++[Z])[M.length]?=some (iM X)/\(M++[iM X]++[iM Y]++[Z])[(M++[iM X]).length]?=some (iM Y)/\(M++[iM X]++[iM Y]++[Z])[(M++[iM X]++[iM Y]).length]?=some Z:=λZ=>by simp
 obtain⟨g0,g1,g2⟩:=key (.lst [.p (.str t), .m M.length, .m (M++[iM X]).length, .p (.int a), .p (.int b), .p (.int c), .p (.int d)]);generalize(M++[iM X]++[iM Y]++[MO.lst [.p (.str t), .m M.length, .m (M++[iM X]).length, .p (.int a), .p (.int b), .p (.int c), .p (.int d)]])=M' at g0 g1 g2 ⊢;generalize(M++[iM X]++[iM Y]).length=k2 at g2 ⊢;have e:frzN 6 M' (.m k2)=(frzs (frzN 5 M') [.p (.str t), .m M.length, .m (M++[iM X]).length, .p (.int a), .p (.int b), .p (.int c), .p (.int d)]).map T.lst:=by simp only[frzN,g2]
 rw[e];simp only[frzs,Q6,jc g0,jc g1];rfl
theorem Ka(hf:OfKind ms "far" mf)(hp:OfKind ms "pair" mp)(hz:z∈[room,2^(bits-mf.2.1).toNat,2^(bits-mp.2.1).toNat])(hle:∀a∈[room,2^(bits-mf.2.1).toNat,2^(bits-mp.2.1).toNat],z<=a):z=xD bits ms room:=by
 unfold xD;rw[kN hf,kN hp];have h1:=hle room (by simp);have h2:=hle (2^(bits-mf.2.1).toNat) (by simp);have h3:=hle (2^(bits-mp.2.1).toNat) (by simp);simp only[Up,UQ,or_false] at hz;have l:=@W5 room (2^(bits-mf.2.1).toNat) (2^(bits-mp.2.1).toNat);rcases @Jg room (2^(bits-mf.2.1).toNat) (2^(bits-mp.2.1).toNat) with e|e|e<;>lia
abbrev Qa:Stmt:=top 66
theorem scOneRight:FnScope ["laying","word","a","b","r","more","rows","room","store","ahead","n","told","counts","new","most","words","quick","found"] ["laying","word","a","b","r","more"] (qg Qa):=⟨rfl,rfl,rfl,by decide +kernel,rfl,by decide +kernel,by decide +kernel⟩
def gOneR:List T->(T->Prop)->Prop:=λts Q=>∃(bits:Int)(ms:List Mk3)(v:Str)(a b:Int)(r:Nat)(more:Int),ts=[layT bits ms, .str v, .int a, .int b, .int r, .int more]/\Wide bits ms/\v∈Jw/\Bt 200 a/\Bt 200 b/\r<8/\0<=more/\more<=400/\Q (.bl true)
theorem ok_oneR(F:Fun Ξ "_law_one_right" "_law_one_right" Qa f fd)(N:Nms mg)(TP:TxStore Ξ C)(TStore:Cls Ξ C)(KStore:MkDef P w Ξ mg base C "Store" 4 ["self","laying","room"] (spU (Ki C)))(MStoreNumber:MDef P w Ξ mg base C "number" 9 ["self","r","n"] (spU (gNumC C)))(MStoreBelow:MDef P w Ξ mg base C "below" 6 ["self","q","p"] (spU (gBelC C)))(MStoreWords:MDef P w Ξ mg base C "words" 1 ["self"] (spU (Jo C)))(MStoreOutside:MDef P w Ξ mg base C "outside" 1 ["self"] (spU (gSOut C)))(MStoreTold:MDef P w Ξ mg base C "told" 5 ["self","q"] (spU (zO C)))(DLoad:Def P w Ξ mg base "_law_load" 2 ["laying","kind"] (spP Qw))(DLwIsSmall:Def P w Ξ mg base "_law_is_small" 3 ["laying","n"] (spP jY))(DRows:Def P w Ξ mg base "_law_rows" 4 ["laying","n"] (spP GF))(DWord:Def P w Ξ mg base "_law_word" 4 ["laying","n","address"] (spP GL))(DDue:Def P w Ξ mg base "_law_due" 1 ["word","a","b"] (spP gDue))(DTried:Def P w Ξ mg base "_law_tried" 12 ["store","word","r","q","p"] (spU (GA C)))(DAlike:Def P w Ξ mg base "_law_alike" 1 ["found","due"] (spP Jv)):FnOk P w Ξ mg base CX0 13 f fd ["laying","word","a","b","r","more"] (spP gOneR):=by
 refine F.zP scOneRight (λts Qt h=>?_) (λcdv A outer s H E hr=>?_)
 ·obtain⟨_,_,_,_,_,_,_,rfl,_⟩:=h
  rfl
 refine⟨_,(qf (qy (i:=6) scOneRight.nd rfl Wu (ql jn (qm DRows (Wl hr) (qa_c (qv 0) (qa_c (qv 2) qc))) (qm DRows (Wl hr) (qa_c (qv 0) (qa_c (qv 3) qc)))))
  (qf (qy (i:=7) scOneRight.nd rfl Wu (qK (QJ rfl) (by rfl) N.min Yj (qa_c qe (qa_c (ql qO (qK vq (by rfl) N.len jx (qa_c (qv 6) qc)) (qv 5)) qc))))
  (qf (qy (i:=8) scOneRight.nd rfl Wu (qe_mk KStore (Wl hr) rfl (qa_c (qv 0) (qa_c (qv 7) qc))))
  (qf (vN (qJ MStoreNumber TStore (qv 8) (Wl hr) (qa_c qe (qa_c (qv 2) qc))))
  (qf (vN (qJ MStoreNumber TStore (qv 8) (Wl hr) (qa_c qe (qa_c (qv 3) qc))))
  (qf (qy (i:=9) scOneRight.nd rfl Wu (qR (qa_c (vH vJ (by rfl) N.list QK (qa_c (zj MStoreWords TStore (qv 8) (Wl hr)) qc)) (qa_c (vH vJ (by rfl) N.list QK (qa_c (zj MStoreOutside TStore (qv 8) (Wl hr)) qc)) qc))))
  (qf (vG (X5 (Y9 (qw (op_neLK (Ξ:=Ξ) rfl hr.units) (qH (Ua Ξ) (qv 9) qe (λ_ _=>rfl)) (qv 6) (qA _)) (Y9 (qw Ja (qJ MStoreTold TStore (qv 8) (Wl hr) (qa_c qe qc)) (qv 2) (qA _)) (Y9 (qw Ja (qJ MStoreTold TStore (qv 8) (Wl hr) (qa_c qe qc)) (qv 3) (qA _)) (qw_or1 (qw Ja (qJ MStoreBelow TStore (qv 8) (Wl hr) (qa_c qe (qa_c qe qc))) (vC xX (qv 2) (qv 3) (qA _)) (qA _)))))))
   (qi (qt KP))
   qP)
  (qf (qy (i:=10) scOneRight.nd rfl Wu (qm DDue (Wl hr) (qa_c (qv 1) (qa_c (qv 2) (qa_c (qv 3) qc)))))
  (qf (qy (i:=11) scOneRight.nd rfl Wu (qm DTried (Wl hr) (qa_c (qv 8) (qa_c (qv 1) (qa_c (qv 4) (qa_c qe (qa_c qe qc)))))))
  (qf (vG (qw Wz (qv 10) xJ (qA _))
   (qf (qy (i:=12) scOneRight.nd rfl Wu (qR (qa_c (vd (qv 8) rfl) (qa_c (vd (qv 8) rfl) (qa_c (vd (qv 8) rfl) qc)))))
   (qi (qt (Q0 (vC vD (qv 11) qD (qA _)) (Q0 (vC (VH (Ξ:=Ξ) rfl hr.units) (qR (qa_c (zj MStoreWords TStore (qv 8) (Wl hr)) (qa_c (zj MStoreOutside TStore (qv 8) (Wl hr)) qc))) (qv 9) (qA _)) (JZ (vC (VH (Ξ:=Ξ) rfl hr.units) (qv 12) (qR (qa_c qe (qa_c qe (qa_c qe qc)))) (qA _))))))))
   qP)
  (qf (qy (i:=13) scOneRight.nd rfl Wu (qm DRows (Wl hr) (qa_c (qv 0) (qa_c (qv 10) qc))))
  (qf (qy (i:=14) scOneRight.nd rfl Wu (qK (Xh (Ξ:=Ξ) rfl rfl) (by rfl) N.min Yj (qa_c (qR (qa_c (qv 7) (qa_c (ql vS qe (qm DLoad (Wl hr) (qa_c (qv 0) (qa_c qD qc)))) (qa_c (ql vS qe (qm DLoad (Wl hr) (qa_c (qv 0) (qa_c qD qc)))) qc)))) qc)))
  (qf (vG (qw op_gt (ql qO (qK vq (by rfl) N.len jx (qa_c (qv 6) qc)) (qK vq (by rfl) N.len jx (qa_c (qv 13) qc))) (qv 14) (qA _))
   (qi (qt (Q0 (vC vD (qv 11) qD (qA _)) (JZ (vC (VH (Ξ:=Ξ) rfl hr.units) (qR (qa_c (zj MStoreWords TStore (qv 8) (Wl hr)) (qa_c (zj MStoreOutside TStore (qv 8) (Wl hr)) (qa_c (vd (qv 8) rfl) qc)))) (ql jn (qv 9) (qR (qa_c qe qc))) (qA _))))))
   qP)
  (qf (qy (i:=15) scOneRight.nd rfl Wu (vH vJ (by rfl) N.list QK (qa_c (qH (Ua Ξ) (qv 9) qe (λ_ _=>rfl)) qc)))
  (qf (zd (qm DWord (Wl hr) (qa_c (qv 0) (qa_c (qv 10) (qa_c (qK vq (by rfl) N.len jx (qa_c (qv 6) qc)) qc)))) (zw (qv 15) (qv 4) vK))
  (qf (qy (i:=16) scOneRight.nd rfl Wu (vH jw (by rfl) N.int qam (qa_c (Q0 (qm DLwIsSmall (Wl hr) (qa_c (qv 0) (qa_c (qv 2) qc))) (Q0 (qm DLwIsSmall (Wl hr) (qa_c (qv 0) (qa_c (qv 3) qc))) (JZ (vC (VH (Ξ:=Ξ) rfl hr.units) (qv 13) (qR qc) (qA _))))) qc)))
  (qf (qy (i:=17) scOneRight.nd rfl Wu (qR (qa_c (qv 11) (qa_c (zj MStoreWords TStore (qv 8) (Wl hr)) (qa_c (zj MStoreOutside TStore (qv 8) (Wl hr)) (qa_c (vd (qv 8) rfl) (qa_c (vd (qv 8) rfl) (qa_c (vd (qv 8) rfl) (qa_c (qJ MStoreTold TStore (qv 8) (Wl hr) (qa_c (qv 4) qc)) qc)))))))))
  (qi (qt (qm DAlike (Wl hr) (qa_c (qv 17) (qa_c (qR (qa_c qD (qa_c (qv 15) (qa_c (ql jn (qv 6) (qv 13)) (qa_c (qv 16) (qa_c (ql vp qe (qv 16)) (qa_c qe (qa_c (qv 10) qc)))))))) qc)))))))))))))))))))))),_,(qh (qx (qj xh (qo (qa (qb 0) (qa (qb 2) qd))) (qo (qa (qb 0) (qa (qb 3) qd)))) (qk 6))
   (qh (qx (zB JE (qa Wm (qa (qj (qr λ_ _=>.int _) (xo (qa (qb 6) qd)) (qb 5)) qd))) (qk 7))
   (qh (qx (qad (qa (qb 0) (qa (qb 7) qd))) (qk 8))
   (qh (vR (qG (qb 8) (qa Wm (qa (qb 2) qd))))
   (qh (vR (qG (qb 8) (qa Wm (qa (qb 3) qd))))
   (qh (qx (vn (qa (zB jv (qa (qG (qb 8) qd) qd)) (qa (zB jv (qa (qG (qb 8) qd) qd)) qd))) (qk 9))
   (qh (vz (G5 (qC (qj opl_neL (vE (qb 9) Wm) (qb 6))) (G5 (qC (qj Qi (qG (qb 8) (qa Wm qd)) (qb 2))) (G5 (qC (qj Qi (qG (qb 8) (qa Wm qd)) (qb 3))) (qC (qj Qi (qG (qb 8) (qa Wm (qa Wm qd))) (qj (qr λ_ _=>.bl _) (qb 2) (qb 3)))))))
   (qB (ce_c (.bl _)))
   qM)
   (qh (qx (qo (qa (qb 1) (qa (qb 2) (qa (qb 3) qd)))) (qk 10))
   (qh (qx (qF (qa (qb 8) (qa (qb 1) (qa (qb 4) (qa Wm (qa Wm qd)))))) (qk 11))
   (qh (vz (qC (qae (qb 10)))
   (qh (qx (vn (qa (ve (qb 8)) (qa (ve (qb 8)) (qa (ve (qb 8)) qd)))) (qk 12))
   (qB (j3 (qj qX (qb 11) Wr) (j3 (qj VF (vn (qa (qG (qb 8) qd) (qa (qG (qb 8) qd) qd))) (qb 9)) (qj VF (qb 12) (vn (qa Wm (qa Wm (qa Wm qd)))))))))
   qM)
   (qh (qx (qo (qa (qb 0) (qa (qb 10) qd))) (qk 13))
   (qh (qx (zB KG (qa (vn (qa (qb 7) (qa (qj (qW λ_ _=>.int _) Wm (qo (qa (qb 0) (qa Wr qd)))) (qa (qj (qW λ_ _=>.int _) Wm (qo (qa (qb 0) (qa Wr qd)))) qd)))) qd)) (qk 14))
   (qh (vz (qC (qj (qr λ_ _=>.bl _) (qj (qr λ_ _=>.int _) (xo (qa (qb 6) qd)) (xo (qa (qb 13) qd))) (qb 14)))
   (qB (j3 (qj qX (qb 11) Wr) (qj VF (vn (qa (qG (qb 8) qd) (qa (qG (qb 8) qd) (qa (ve (qb 8)) qd)))) (qj xh (qb 9) (vn (qa Wm qd))))))
   qM)
   (qh (qx (KB (qa (vE (qb 9) Wm) qd)) (qk 15))
   (qh (qx (qo (qa (qb 0) (qa (qb 10) (qa (xo (qa (qb 6) qd)) qd)))) (qab (qb 15) (qb 4)))
   (qh (qx (zB Ze (qa (j3 (qo (qa (qb 0) (qa (qb 2) qd))) (j3 (qo (qa (qb 0) (qa (qb 3) qd))) (qj VF (qb 13) (vn qd)))) qd)) (qk 16))
   (qh (qx (vn (qa (qb 11) (qa (qG (qb 8) qd) (qa (qG (qb 8) qd) (qa (ve (qb 8)) (qa (ve (qb 8)) (qa (ve (qb 8)) (qa (qG (qb 8) (qa (qb 4) qd)) qd)))))))) (qk 17))
   (qB (KD (qa (qb 17) (qa (ju (qa Wr (qa (qb 15) (qa (ce_catN (qb 6) (qb 13)) (qa (qb 16) (qa (qj (qr λ_ _=>.int _) Wm (qb 16)) (qa Wm (qa (qb 10) qd)))))))) qd))))))))))))))))))))),λts Qt h=>?_⟩
 obtain⟨bits,ms,v,a,b,r,more,rfl,W,hv,ha,hb,hr8,m0,m1,q⟩:=h;have h8:=W.R.b;have la:=zE (ms:=ms) h8.1 ha;have lb:=zE (ms:=ms) h8.1 hb;symm;refine⟨bits,ms,a,rfl,W.R,ha.mono (by decide),bits,ms,b,rfl,W.R,hb.mono (by decide), ?_⟩;symm;refine⟨by simp only[Ug,sizeLine_eq]; lia, ?_⟩;symm;simp only[<-Um,Ug];have lR:(qI bits ms a++qI bits ms b).length=(qI bits ms a).length+(qI bits ms b).length:=Uj;have eRT:(T.lst (List.map T.int (qI bits ms a++qI bits ms b)))=qU (qI bits ms a++qI bits ms b):=rfl;generalize hroom:(if((qI bits ms a++qI bits ms b).length:Int)+more<400 then((qI bits ms a++qI bits ms b).length:Int)+more else 400)=room;have hr1:((qI bits ms a++qI bits ms b).length:Int)<=room/\room<=400:=by rw[<-hroom]; split<;>lia
 refine⟨0,bits,ms,room,rfl,rfl,W.R,by lia,by lia,λM1 f1 S1 l1=>⟨rfl, ?_⟩⟩;obtain⟨n1,n2,x,y,D⟩:=mk_two W ha hb (by lia) hr1.2 (q:=1) (p:=2) (by decide) (by decide) (by decide);symm;refine mS S1 (by rfl) ?_;symm;refine⟨0,_,_,_,1,a,rfl,S1,by decide,ha.mono (by decide), ?_,λe=>by rw[n1] at e; cases e⟩;rw[n1];intro _ M2 h2 k2 f2 _ _ S2;symm;refine mS S2 (by rfl) ?_;symm;refine⟨0,_,_,_,2,b,rfl,S2,by decide,hb.mono (by decide), ?_,λe=>by rw[n2] at e; cases e⟩;rw[n2];intro _ M3 h3 k3 f3 _ _ S3;generalize((Mc.new bits ms room).set1 1 a).set1 2 b=A at D S3;have S3:StA C M3 0 h3 k3 A:=S3;symm;refine mS S3 (by rfl) ?_;symm;refine⟨0,_,_,_,rfl,S3, ?_⟩;symm;refine⟨_,_,rfl,rfl, ?_⟩;symm;refine mS S3 (by rfl) ?_;symm;refine⟨0,_,_,_,rfl,S3, ?_⟩;symm;refine⟨_,_,rfl,rfl, ?_⟩;symm;have eo:=D.o;rw[eo];refine eqInts ?_;simp only[decide_true,if_true,Bool.not_true];walk_at "pk";refine mS S3 (by rfl) ?_;walk_at "pk";refine⟨0,_,_,_,1,x,rfl,S3,D.hx, ?_⟩;rw[Mc.tl_nv D.nx];walk_at "pk";refine mS S3 (by rfl) ?_;walk_at "pk";refine⟨0,_,_,_,2,y,rfl,S3,D.hy, ?_⟩;rw[Mc.tl_nv D.ny];walk_at "pk";refine mS S3 (by rfl) ?_;walk_at "pk";refine⟨0,_,_,_,1,2,x,y,rfl,S3,D.hx,D.hy,λa' b' ea eb=>?_,λe=>(by rw[D.nx] at e; cases e),λ_ _ e=>(by rw[D.ny] at e; cases e)⟩;rw[D.nx] at ea;rw[D.ny] at eb;cases ea;cases eb;walk_at "pk";have hO:=okW_of hv ha hb;have hbn:=bt_opW (v:=v) ha hb;refine⟨v,a,b,rfl,hO,λhnt hz=>?_,λhnt=>?_⟩
 ·walk_at "pk"
  refine⟨0,_,_,_,v,r,1,2,x,y,a,b,rfl,S3,hr8,D.hx,D.hy,D.nx,D.ny,hO,hbn.mono (by decide),λ_ _=>?_,λz=>absurd ⟨hnt,hz⟩ z⟩;walk_at "pk";refine vT TP.c TP.n5 S3.S.s0 (by rfl) ?_;walk_at "pk";refine vT TP.c TP.n6 S3.S.s0 (by rfl) ?_;walk_at "pk";refine vT TP.c TP.n7 S3.S.s0 (by rfl) ?_;walk_at "pk";refine mS S3 (by rfl) ?_;walk_at "pk";refine⟨0,_,_,_,rfl,S3, ?_⟩;walk_at "pk";refine mS S3 (by rfl) ?_;walk_at "pk";refine⟨0,_,_,_,rfl,S3, ?_⟩;rw[eo];walk_at "pk";refine Ko (λz hz=>?_) ?_
  ·simp only[Up,UQ,or_false] at hz
   rcases hz with rfl|rfl
   ·exact V4
   ·exact V4
  walk_at "pk";rw[D.c.1,D.c.2.1,D.c.2.2];refine eqInts (ns:=[0,0,0]) (ms:=[0,0,0]) ?_;exact q
 ·walk_at "pk"
  refine⟨0,_,_,_,v,r,1,2,x,y,a,b,rfl,S3,hr8,D.hx,D.hy,D.nx,D.ny,hO,hbn.mono (by decide),λz1 z2=>absurd ⟨z1,z2⟩ hnt,λ_=>?_⟩;generalize opW v a b=n at hbn ⊢;obtain⟨t1,t2⟩:=two_two D h8.1 (r:=r) hbn;obtain⟨mf,hmf⟩:=W.R.kind (kind := "far") (by decide);obtain⟨mp,hmp⟩:=W.R.kind (kind := "pair") (by decide);have wf:=W.R.w mf hmf.mem;have wp:=W.R.w mp hmp.mem;have nf:=vY mf.1;have np:=vY mp.1;have hn5:=W.R.n;by_cases hfit:((qI bits ms a++qI bits ms b).length:Int)+(qI bits ms n).length<=xD bits ms room
  ·obtain⟨e,O4⟩:=t1 hfit
   rw[e];refine⟨λ_ M4 h4 k4 f4 _ _ S4=>?_,λz=>nomatch z⟩;walk_at "pk";refine⟨bits,ms,n,rfl,W.R,hbn.mono (by decide), ?_⟩;walk_at "pk";refine⟨bits,ms,"far", mf,rfl,by lia,hmf, ?_⟩;walk_at "pk";refine⟨⟨by lia,by lia,by decide⟩, ?_⟩;refine⟨bits,ms,"pair", mp,rfl,by lia,hmp, ?_⟩;walk_at "pk";refine⟨⟨by lia,by lia,by decide⟩, ?_⟩;rw[UM,UM];refine⟨[room,2^(bits-mf.2.1).toNat,2^(bits-mp.2.1).toNat],rfl,by simp,λz hz hle=>?_⟩;have ez:=Ka hmf hmp hz hle;subst ez;walk_at "pk";simp only[Ug];refine zn (Bg.mpr hfit) ?_;walk_at "pk";simp only[JO];walk_at "pk";refine⟨_,_,rfl, .inl rfl, ?_⟩;have hlR:((qI bits ms a++qI bits ms b).length:Int)<2^(bits-(qQ ms "far").2.1).toNat:=by
    have h7:=W.f mf hmf.mem (.inl hmf.is);have:(2:Nat)^7<=2^(bits-mf.2.1).toNat:=Da (by decide) (by lia);have:(128:Int)<=2^(bits-mf.2.1).toNat:=by exact_mod_cast this
    rw[hmf.mk];lia
   walk_at "pk";refine⟨bits,ms,n,((qI bits ms a++qI bits ms b).length:Int),by simp only[Ug],W.R,DN _,hlR, ?_⟩;walk_at "pk";refine Vh (ws:=A.ws) (by simp) (by rw[S3.l8]; exact hr8) ?_;generalize esa:qL (bits-(qQ ms "small").2.1) a=sa at S4;generalize esb:qL (bits-(qQ ms "small").2.1) b=sb at S4;generalize esn:qL (bits-(qQ ms "small").2.1) n=sn at S4;have S4:StA C M4 0 h4 k4 ((A.set1 r n).cnt (sa&&sb&&sn)):=S4;have eM:((M4++[MO.lst (List.map U.p (List.map T.int A.ws))]).set M4.length (iM (A.ws.set r (kM bits ms n ((qI bits ms a++qI bits ms b).length:Int)))))=M4++[iM (A.ws.set r (kM bits ms n ((qI bits ms a++qI bits ms b).length:Int)))]:=by simp
   rw[eM];have S5:=S4.mv (M':=M4++[iM (A.ws.set r (kM bits ms n ((qI bits ms a++qI bits ms b).length:Int)))]) λi hi=>Ui hi;have gn:(lcnt A.bits n:Int)<2^(A.bits-2).toNat:=by rw[D.e1]; exact Kn h8.1 hbn (by decide)
   obtain⟨c1,c2,c3,c4,c5,c6,c7⟩:=Mc.cnt_eq (A:=A.set1 r n) (b:=sa&&sb&&sn);obtain⟨_,_,_,d4,d5,d6⟩:=@Mc.kp_set1 A r n;have ew:((A.set1 r n).cnt (sa&&sb&&sn)).ws=A.ws.set r (kM bits ms n ((qI bits ms a++qI bits ms b).length:Int)):=by rw[c1,Mc.ws_set1 D.O,D.e1,D.e2,eo]
   have eO:((A.set1 r n).cnt (sa&&sb&&sn)).os=qI bits ms a++qI bits ms b++qI bits ms n:=by rw[c2,Mc.os_set1 D.O gn,D.e1,D.e2,eo]
   have erg:((A.set1 r n).cnt (sa&&sb&&sn)).rg[r]?=some (A.ref1 n):=by rw[c3,Mc.rg_set1]; exact Uw (by rw[D.O.l8]; exact hr8)
   have env:((A.set1 r n).cnt (sa&&sb&&sn)).nv (A.ref1 n)=some n:=by rw[c4]; exact Mc.nv_ref1
   have eq':((A.set1 r n).cnt (sa&&sb&&sn)).qu=if(sa&&sb&&sn)=true then 1 else 0:=by rw[c5,d4,D.c.1,Bj]
   have el':((A.set1 r n).cnt (sa&&sb&&sn)).sl=1-if(sa&&sb&&sn)=true then 1 else 0:=by rw[c6,d5,D.c.2.1]; split<;>rfl
   have es':((A.set1 r n).cnt (sa&&sb&&sn)).sw=0:=by rw[c7,d6,D.c.2.2]
   generalize(A.set1 r n).cnt (sa&&sb&&sn)=B at S5 ew eO erg env eq' el' es';have ln:=zE (ms:=ms) h8.1 hbn;have w8:∀z∈A.ws.set r (kM bits ms n ((qI bits ms a++qI bits ms b).length:Int)),Bt 33 z:=by
    rw[<-ew];intro z hz;obtain⟨x',hx',rfl⟩:=UW.mp hz;exact wd_bt S5.O (S5.O.g x' hx')
   have w9:∀z∈qI bits ms a++qI bits ms b++qI bits ms n,Bt 33 z:=by
    rw[<-eO];exact os_bt S5.O
   have l8:(A.ws.set r (kM bits ms n ((qI bits ms a++qI bits ms b).length:Int))).length=8:=by rw[Ut]; exact S3.l8
   generalize A.ws.set r (kM bits ms n ((qI bits ms a++qI bits ms b).length:Int))=WW at S5 ew w8 l8 ⊢;refine JL (λρ' M'=>ρ'=[some (.p (layT bits ms)),some (.p (.str v)),some (.p (.int a)),some (.p (.int b)),some (.p (.int r)),some (.p (.int more)),some (.p (qU (qI bits ms a++qI bits ms b))),some (.p (.int room)),some (.m 0),some (.p (.lst [qU A.ws,qU (qI bits ms a++qI bits ms b)])),some (.p (.int n)),some (.p (.str "")),none,some (.p (qU (qI bits ms n))),some (.p (.int (xD bits ms room))),some (.m M4.length),some (.p (.int (if(sa&&sb&&sn)=true then 1 else 0))),none]/\M'=M4++[iM WW]) (λnx hnx=>?_) (λρ' M' hI=>?_)
   ·walk_at "pk"
    refine ki W.R ?_;rw[esa];cases hsa:sa with
    |false =>
     walk_at "pk";exact hnx _ _ ⟨by rw[hsa]; rfl,rfl⟩
    |true =>
     walk_at "pk";refine ki W.R ?_;rw[esb];cases hsb:sb with
     |false =>
      walk_at "pk";exact hnx _ _ ⟨by rw[hsa,hsb]; rfl,rfl⟩
     |true =>
      walk_at "pk";refine eqNil ?_;rw[rows_nil,esn];walk_at "pk";exact hnx _ _ ⟨by rw[hsa,hsb]; cases sn<;>rfl,rfl⟩
   obtain⟨rfl,rfl⟩:=hI;walk_at "pk";refine mS S5 (by rfl) ?_;walk_at "pk";refine⟨0,_,_,_,rfl,S5, ?_⟩;walk_at "pk";refine mS S5 (by rfl) ?_;walk_at "pk";refine⟨0,_,_,_,rfl,S5, ?_⟩;walk_at "pk";refine vT TP.c TP.n5 S5.S.s0 (by rfl) ?_;walk_at "pk";refine vT TP.c TP.n6 S5.S.s0 (by rfl) ?_;walk_at "pk";refine vT TP.c TP.n7 S5.S.s0 (by rfl) ?_;walk_at "pk";refine mS S5 (by rfl) ?_;walk_at "pk";refine⟨0,_,_,_,r,_,rfl,S5,erg, ?_⟩;rw[Mc.tl_nv env];walk_at "pk";simp only[JQ];walk_at "pk";simp only[uCatN];walk_at "pk";refine⟨_,_,rfl,rfl,by simp only[Ug,sizeLine_eq]; lia, ?_⟩;rw[ew,eO,eq',el',es', <-Um, <-Um];refine⟨[.lst [.str "", qU WW,qU (qI bits ms a++qI bits ms b++qI bits ms n), .int (if(sa&&sb&&sn)=true then 1 else 0), .int (1-if(sa&&sb&&sn)=true then 1 else 0), .int 0, .int n], .lst [.str "", qU WW,qU (qI bits ms a++qI bits ms b++qI bits ms n), .int (if(sa&&sb&&sn)=true then 1 else 0), .int (1-if(sa&&sb&&sn)=true then 1 else 0), .int 0, .int n]], ?_,_,rfl, ?_,⟨_,rfl⟩,q⟩
   ·show(match some _,(match frzN 6 _ _,some [] with|some t,some ts=>some (t::ts)|_,_=>none) with|some t,some ts=>some (t::ts)|_,_=>none)=_
    rw[frz_due]
   ·refine(Lf.lst (n:=6800) (d:=1) λt ht=>?_).show (by show 7*6801<=60000; decide) (by decide)
    simp only[Up,UQ,or_false] at ht;have small01:∀z:Int,z=0\/z=1->Lf 6800 1 (.int z):=λz hz=>(Lf.int (k:=62) (Bt.small (by lia) (by lia) (by decide)) (by decide)).mono (by decide) (by decide);have lfi:∀l:List Int,(∀z∈l,Bt 33 z)->l.length<=110->Lf 6800 1 (qU l):=λl hl h=>(Lf.lst (n:=33) (d:=0) λt ht=>by
     obtain⟨z,hz,rfl⟩:=UW.mp ht;exact Lf.int (hl z hz) (by decide)).mono (by rw[Ug]; lia) (by decide)
    rcases ht with rfl|rfl|rfl|rfl|rfl|rfl|rfl
    ·exact(Lf.str (by decide +kernel) (by decide +kernel)).mono (by decide) (by decide)
    ·exact lfi _ w8 (by lia)
    ·exact lfi _ w9 (by rw[Uj]; lia)
    ·exact small01 _ (by split<;>simp)
    ·exact small01 _ (by split<;>simp)
    ·exact small01 _ (.inl rfl)
    ·exact(Lf.int hbn (by decide)).mono (by decide) (by decide)
  ·rw[t2 (D1.mp hfit)]
   refine⟨(λz=>nomatch z),λ_ M4 h4 k4 f4 _ _ S4=>?_⟩;walk_at "pk";refine⟨bits,ms,n,rfl,W.R,hbn.mono (by decide), ?_⟩;walk_at "pk";refine⟨bits,ms,"far", mf,rfl,by lia,hmf, ?_⟩;walk_at "pk";refine⟨⟨by lia,by lia,by decide⟩, ?_⟩;refine⟨bits,ms,"pair", mp,rfl,by lia,hmp, ?_⟩;walk_at "pk";refine⟨⟨by lia,by lia,by decide⟩, ?_⟩;rw[UM,UM];refine⟨[room,2^(bits-mf.2.1).toNat,2^(bits-mp.2.1).toNat],rfl,by simp,λz hz hle=>?_⟩;have ez:=Ka hmf hmp hz hle;subst ez;walk_at "pk";simp only[Ug];refine v5 (D1.mp hfit) ?_;have S4:StA C M4 0 h4 k4 { A with sw:=A.sw+1 }:=S4;walk_at "pk";refine mS S4 (by rfl) ?_;walk_at "pk";refine⟨0,_,_,_,rfl,S4, ?_⟩;walk_at "pk";refine mS S4 (by rfl) ?_;walk_at "pk";refine⟨0,_,_,_,rfl,S4, ?_⟩;walk_at "pk";refine vT TP.c TP.n7 S4.S.s0 (by rfl) ?_;walk_at "pk";refine⟨by rw[sizeLine_eq]; decide, ?_⟩;show sEqL false (.lst [qU A.ws,qU A.os, .int (A.sw+1)]) _ _;rw[eo,D.c.2.2];refine Ko (λz hz=>?_) q;simp only[Up,UQ,or_false] at hz;rcases hz with rfl|rfl|rfl
   ·exact V4
   ·exact V4
   ·trivial
def YH(Ξ:PySem.W.Frag):Sp:=λvs H Q _=>∃(a:Addr)(ns:List Int),vs=[.ref a]/\SqL Ξ H a (ns.map V.int)/\ns.length<=63/\∀H',Q (.bl true) H'
theorem law_okU{st:Stmt}(F:Fun Ξ "law" "law" st f fd)(S:FnScope N ["script"] (qg st))(hN:2<=N.length)(hbody:∀(cdv:Value)(A:Around)(outer:List Env)(s:Shared)(H:Hp)(E:XK),Room k (A.deeper (envOfC "law" (qg st) s.heap.objs.size f cdv)) ->
   ∃tR,QSs (cxOf CX0 P w Ξ mg base N "law" (qg st) f cdv A outer s H E).nox (vQ st) (tSeq (tAsg (zT (spBag Ξ) [] E0 (zS (tVar 0) tNil)) (qV 1)) tR)/\∃uR,ZS tR uR/\∀o,BagO o->uR { nx:=λ_ _=>False,rt:=λz _=>z=.p (.bl true) } (none::some (.m 0)::List.replicate (N.length-2) none) [o]):FnOk P w Ξ mg base CX0 (k+1) f fd ["script"] (YH Ξ):=by
 refine F.okQ S (λvs H Q E h=>?_) (λcdv A outer s H vs Q E hr h=>?_)
 ·obtain⟨_,_,rfl,_⟩:=h
  rfl
 ·obtain⟨a,ns,rfl,hS,hlen,k⟩:=h
  obtain⟨tR,hT,uR,hU,hq⟩:=hbody cdv A outer s H E hr;refine⟨_,hT, ?_⟩;have hN2:L2.start N [.ref a]=some (.ref a)::none::List.replicate (N.length-2) none:=by
   unfold L2.start;obtain⟨m,hm⟩:∃m,N.length=m+2:=⟨N.length-2,by lia⟩;rw[hm];rfl
  rw[hN2];simp only[tSeq,tAsg,zT,zS,tNil,tVar,qV,Dh,Option.some.injEq,exists_eq_left',UR,DR,DS];refine⟨a,ns,rfl,hS,hlen,λb H1 hb s1 B1=>?_⟩;obtain⟨c,ns',i,a',st',n,hbb,hcc,r⟩:=id B1.ex;have ncb:c≠b:=KH hbb hcc;obtain⟨o,hbo,ro,_⟩:=KI (A:=λ_=>False) (ι:=[b]) B1 ⟨_,hbb⟩ (λz=>z.elim id λz=>ncb (by simpa using z));have w1:L2.Wd (λ_=>False) [b] H1 [o]:=⟨by simp,rfl,λx hx=>hx.elim,λx _ z=>z,λk a2 o2 e1 e2=>by
   match k,e1,e2 with
   |0,e1,e2=>cases e1; cases e2; exact ro
   |k+1,e1,_=>simp at e1⟩
  have env:EnvR (λ_=>False) [b] H1 (some (.ref a)::some (.ref b)::List.replicate (N.length-2) none) (none::some (.m 0)::List.replicate (N.length-2) none):=by
   refine .cons (λu e=>by cases e) (.cons (λu e=>by cases e; exact⟨_,rfl, .m rfl⟩) ?_);generalize N.length-2=m
   induction m with
   |zero=>exact .nil
   |succ m ih=>exact .cons (λu e=>by cases e) ih
  refine hU.h (λ_=>False) [b] _ H1 _ [o] _ { nx:=λ_ _=>False,rt:=λz _=>z=.p (.bl true) } w1 env ⟨λ_ _ _ _ _ _ _ _ q=>q.elim,λι v H2 u M _ _ ru q=>?_,λ_ _ _ _ _ _ _ _ q=>q.elim,λ_ _ _ _ _ _ _ _ q=>q.elim⟩ (hq o hbo);have q:u=.p (.bl true):=q;subst q;cases ru with
  |p r=>cases r; exact k H2
theorem drawL(B:BagO o)(h0:0<many)(h1:many.natAbs.log2<9000)(q:∀(found:Int)(o':MO),0<=found->found<many->BagO o'->Q (.p (.int found)) (o'::L)):VZ [.m 0, .p (.int many)] (o::L) Q :=
 ⟨0,o,many,rfl,rfl,B,h0,h1,λf o' f0 f1 B'=>q f o' f0 f1 B'⟩
local macro_rules | `(tactic| walk_at "vx") => `(tactic| simp only[zM,kQ,kP,zK,ze,uTry,zN,zL,kR,kW,endX,uAsG,vV])
local macro_rules | `(tactic| walk_at "pk") => `(tactic| (walk_at "v"; repeat ((first|walk_at "vx" |refine zn (by decide) ?_|refine v5 rfl ?_); walk_at "v")))
theorem head_of{o:MO}(e:M[0]?=some o):∃L,M=o::L:=by
 cases M with
 |nil=>cases e
 |cons a L=>cases e; exact⟨L,rfl⟩
abbrev sLaw:Stmt:=top 67
theorem scLaw:FnScope ["script","bag","laying","k","a","b","word","r","more","store"] ["script"] (qg sLaw):=⟨rfl,rfl,rfl,by decide +kernel,rfl,by decide +kernel,by decide +kernel⟩
theorem ok_lawU(F:Fun Ξ "law" "law" sLaw f fd)(N:Nms mg)(TStore:Cls Ξ C)(KStore:MkDef P w Ξ mg base C "Store" 4 ["self","laying","room"] (spU (Ki C)))(MStoreNumber:MDef P w Ξ mg base C "number" 9 ["self","r","n"] (spU (gNumC C)))(MStoreSame:MDef P w Ξ mg base C "same" 6 ["self","q","p"] (spU (GD C)))(DBag:Def P w Ξ mg base "_law_bag" 1 ["script"] (spBag Ξ))(DDraw:Def P w Ξ mg base "_law_draw" 1 ["bag","many"] (spU VZ))(DWide:Def P w Ξ mg base "_law_wide" 4 ["bag","least"] (spU gWide))(DPairOf:Def P w Ξ mg base "_law_pair_of" 4 ["bag","laying"] (spU Jq))(DOneRight:Def P w Ξ mg base "_law_one_right" 13 ["laying","word","a","b","r","more"] (spP gOneR)):FnOk P w Ξ mg base CX0 14 f fd ["script"] (YH Ξ):=by
 refine law_okU F scLaw (by decide) (λcdv A outer s H E hr=>?_);refine⟨_,(qf (qy (i:=1) scLaw.nd rfl Wu (qm DBag (Wl hr) (qa_c (qv 0) qc)))
  (qf (qy (i:=2) scLaw.nd rfl Wu (qm DWide (Wl hr) (qa_c (qv 1) (qa_c qe qc))))
  (qf (j7 PassesOwn.never rfl (Qg rfl N.range (qa_c (ql qO qe (qm DDraw (Wl hr) (qa_c (qv 1) (qa_c qe qc)))) qc)) (vP (i:=3) scLaw.nd rfl Wu)
   (qf (zd (qm DPairOf (Wl hr) (qa_c (qv 1) (qa_c (qv 2) qc))) (We (Ξ:=Ξ) (i:=4) (j:=5) rfl scLaw.nd rfl rfl rfl Wu Wu Wu Wu))
   (qf (j7 PassesOwn.never rfl (vL (Ξ:=Ξ) rfl (qR (qa_c qD (qa_c qD (qa_c qD (qa_c qD (qa_c qD qc))))))) (vP (i:=6) scLaw.nd rfl Wu)
    (qf (qs_par (i:=7) (j:=8) rfl scLaw.nd rfl rfl (by decide) rfl rfl (qa_c (qm DDraw (Wl hr) (qa_c (qv 1) (qa_c qe qc))) (qa_c (qH (Ua Ξ) (qR (qa_c qe (qa_c (qm DDraw (Wl hr) (qa_c (qv 1) (qa_c qe qc))) qc))) (qm DDraw (Wl hr) (qa_c (qv 1) (qa_c qe qc))) (λ_ _=>rfl)) qc)) rfl)
    (qi (vG (qt_not (xg (qm DOneRight (Wl hr) (qa_c (qv 2) (qa_c (qv 6) (qa_c (qv 4) (qa_c (qv 5) (qa_c (qv 7) (qa_c (qv 8) qc)))))))))
     (qi (qt KP))
     qP))))
   (qf (qy (i:=9) scLaw.nd rfl Wu (qe_mk KStore (Wl hr) rfl (qa_c (qv 2) (qa_c qe qc))))
   (qf (vN (qJ MStoreNumber TStore (qv 9) (Wl hr) (qa_c qe (qa_c (qv 4) qc))))
   (qf (vN (qJ MStoreNumber TStore (qv 9) (Wl hr) (qa_c qe (qa_c (qv 5) qc))))
   (qi (vG (X5 (Y9 (qw Ja (qJ MStoreSame TStore (qv 9) (Wl hr) (qa_c qe (qa_c qe qc))) (vC vD (qv 4) (qv 5) (qA _)) (qA _)) (Y9 (qw Ja (qJ MStoreSame TStore (qv 9) (Wl hr) (qa_c qe (qa_c qe qc))) (vC vD (qv 4) (qv 5) (qA _)) (qA _)) (qw_or1 (qw op_notB (qJ MStoreSame TStore (qv 9) (Wl hr) (qa_c qe (qa_c qe qc))) KP (qA _))))))
    (qi (qt KP))
    qP))))))))
  (qi (qt KP))))),_,(qh (qx (qF (qa (qb 1) (qa Wm qd))) (qk 2))
   (qh (QC (JD (qa (qj (qr λ_ _=>.int _) Wm (qF (qa (qb 1) (qa Wm qd)))) qd)) (qk 3)
   (qh (qx (qF (qa (qb 1) (qa (qb 2) qd))) (Zb 4 5))
   (qh (QC (zo (vn (qa Wr (qa Wr (qa Wr (qa Wr (qa Wr qd))))))) (qk 6)
   (qh (cs_par (qa (qF (qa (qb 1) (qa Wm qd))) (qa (vE (vn (qa Wm (qa (qF (qa (qb 1) (qa Wm qd))) qd))) (qF (qa (qb 1) (qa Wm qd)))) qd)))
   (vz (ct_not (ct_b (qo (qa (qb 2) (qa (qb 6) (qa (qb 4) (qa (qb 5) (qa (qb 7) (qa (qb 8) qd)))))))))
   (qB (ce_c (.bl _)))
   qM)))
   (qh (qx (qad (qa (qb 2) (qa Wm qd))) (qk 9))
   (qh (vR (qG (qb 9) (qa Wm (qa (qb 4) qd))))
   (qh (vR (qG (qb 9) (qa Wm (qa (qb 5) qd))))
   (vz (G5 (qC (qj Qi (qG (qb 9) (qa Wm (qa Wm qd))) (qj qX (qb 4) (qb 5)))) (G5 (qC (qj Qi (qG (qb 9) (qa Wm (qa Wm qd))) (qj qX (qb 4) (qb 5)))) (qC (qj opl_notB (qG (qb 9) (qa Wm (qa Wm qd))) (ce_c (.bl _))))))
   (qB (ce_c (.bl _)))
   qM)))))))
   (qB (ce_c (.bl _))))),λo hB=>?_⟩
 show uSeq _ _ _ [none,some (.m 0),none,none,none,none,none,none,none,none] _;walk_at "pk";refine⟨0,o,rfl,rfl,hB,λbits ms o1 B1 W=>?_⟩;show uSeq _ _ _ _ [o1];walk_at "pk";refine drawL B1 (by decide) (by decide) λd1 o2 d10 d11 B2=>?_;walk_at "pk";refine YZ (by lia) (by lia) ?_;refine JM (λ_ ρ M=>∃(o:MO)(L:MM)(x3 x4 x5 x6 x7 x8 x9:Option U),BagO o/\M=o::L/\ρ=[none,some (.m 0),some (.p (layT bits ms)),x3,x4,x5,x6,x7,x8,x9]) ⟨o2, [],_,_,_,_,_,_,_,B2,rfl,rfl⟩ (λi ρ2 M2 hi hI=>?_) (λρ2 M2 hI=>?_)
 ·obtain⟨o3,L,x3,x4,x5,x6,x7,x8,x9,B3,rfl,rfl⟩:=hI
  walk_at "pk";refine⟨0,o3,bits,ms,rfl,rfl,B3,W.R,λa b o4 B4 ha hb=>?_⟩;show T2S (o4::L) _ _;walk_at "pk";refine kO (λ_ ρ M=>∃(o:MO)(x6 x7 x8:Option U),BagO o/\M=o::L/\ρ=[none,some (.m 0),some (.p (layT bits ms)),some (.p (.int i)),some (.p (.int a)),some (.p (.int b)),x6,x7,x8,x9]) ⟨o4,_,_,_,B4,rfl,rfl⟩ ?_ ?_
  ·rintro j t ρ M hj ⟨o5,x6,x7,x8,B5,rfl,rfl⟩
   obtain⟨v,hv,rfl⟩:∃v,Jw[j]?=some v/\t=T.str v:=get_map (l:=Jw) hj;walk_at "pk";refine drawL B5 (by decide) (by decide) λr' o6 r0 r1 B6=>?_;obtain⟨r,rfl⟩:∃n:Nat,r'=n:=⟨r'.toNat,by lia⟩;refine drawL B6 (by decide) (by decide) λd o7 d0 d1 B7=>?_;walk_at "pk";refine drawL B7 (by decide) (by decide) λe o8 e0 e1 B8=>?_;have fin:∀m:Int,0<=m->m<=400->gOneR [layT bits ms, .str v, .int a, .int b, .int r, .int m] λt_1=>BlS (U.p t_1) λb_1=>if(!b_1)=true then U.p (T.bl false)=U.p (T.bl true) else ∃o x6 x7 x8,BagO o/\(o8::L)=o::L/\[none,some (U.m 0),some (U.p (layT bits ms)),some (U.p (T.int ↑i)),some (U.p (T.int a)),some (U.p (T.int b)),some (U.p (.str v)),some (U.p (.int r)),some (U.p (.int m)),x9]=[none,some (U.m 0),some (U.p (layT bits ms)),some (U.p (T.int ↑i)),some (U.p (T.int a)),some (U.p (T.int b)),x6,x7,x8,x9]:=λm m0 m1=>by
    refine⟨bits,ms,v,a,b,r,m,rfl,W,Uh hv,ha,hb,by lia,m0,m1, ?_⟩;walk_at "pk";exact⟨o8,_,_,_,B8,rfl,rfl⟩
   rcases(show e=0\/e=1 by lia) with rfl|rfl
   ·refine vI rfl ?_
    walk_at "pk";exact fin 400 (by decide) (by decide)
   ·refine vI rfl ?_
    walk_at "pk";exact fin d d0 (by lia)
  ·rintro ρ M ⟨o5,x6,x7,x8,B5,rfl,rfl⟩
   walk_at "pk";have h8:=W.R.b;have la:=zE (ms:=ms) h8.1 ha;have lb:=zE (ms:=ms) h8.1 hb;obtain⟨n1,n2,x,y,D⟩:=mk_two W ha hb (room:=400) (by lia) (by lia) (q:=5) (p:=6) (by decide) (by decide) (by decide);refine⟨L.length+1,bits,ms,400,rfl,by simp,W.R,by decide,by decide,λM1 f1 S1 l1=>⟨rfl, ?_⟩⟩;have z1:M1[0]?=some o5:=(f1.2 0 (by simp) (by simp)).trans (by simp);have len1:0<(o5::(L++[MO.ins C []])).length:=by simp
   walk_at "pk";refine mS S1 (by rfl) ?_;walk_at "pk";refine⟨_,_,_,_,5,a,rfl,S1,by decide,ha.mono (by decide), ?_,λe=>by rw[n1] at e; cases e⟩;rw[n1];intro _ M2 h2 k2 f2 w1 w2 S2;have z2:M2[0]?=some o5:=(f2.2 0 (by rw[l1]; lia) (by simp)).trans z1;walk_at "pk";refine mS S2 (by rfl) ?_;walk_at "pk";refine⟨_,_,_,_,6,b,rfl,S2,by decide,hb.mono (by decide), ?_,λe=>by rw[n2] at e; cases e⟩;rw[n2];intro _ M3 h3 k3 f3 _ _ S3;have z3:M3[0]?=some o5:=(f3.2 0 (Ue.mp z2).1 (by
    unfold Nw at w1 w2;simp only[Up,UQ,or_false];simp only[Ul] at w1 w2 l1;lia)).trans z2
   generalize((Mc.new bits ms 400).set1 5 a).set1 6 b=A at D S3;have S3:StA C M3 (L.length+1) h3 k3 A:=S3;obtain⟨L3,rfl⟩:=head_of z3;walk_at "pk";refine mS S3 (by rfl) ?_;walk_at "pk";refine⟨_,_,_,_,5,6,x,y,a,b,rfl,S3,D.hx,D.hy,D.nx,D.ny, ?_⟩;walk_at "pk";refine mS S3 (by rfl) ?_;walk_at "pk";refine⟨_,_,_,_,6,5,y,x,b,a,rfl,S3,D.hy,D.hx,D.ny,D.nx, ?_⟩;rw[show decide (b=a)=decide (a=b) from decide_eq_decide.mpr ⟨Eq.symm,Eq.symm⟩];walk_at "pk";refine mS S3 (by rfl) ?_;walk_at "pk";refine⟨_,_,_,_,5,5,x,x,a,a,rfl,S3,D.hx,D.hx,D.nx,D.nx, ?_⟩;rw[decide_eq_true rfl];walk_at "pk";refine⟨true,true,rfl,rfl, ?_⟩;walk_at "pk";exact⟨o5,L3,_,_,_,_,_,_,_,B5,rfl,rfl⟩
 ·obtain⟨o3,L,x3,x4,x5,x6,x7,x8,x9,B3,rfl,rfl⟩:=hI
  walk_at "pk"
--@XI
abbrev XQ:Stmt:=qE (top 3) 0
theorem scWkInit:FnScope ["self","part"] ["self","part"] (qg XQ):=⟨rfl,rfl,rfl,by decide +kernel,rfl,by decide +kernel,by decide +kernel⟩
theorem ok_winit(F:Fun Ξ "__init__" "WrongKind.__init__" XQ f fd)(ck:ExcK Ξ C f)(na:NoAttr Ξ C "part")(ib:InitB Ξ mg "WordError" B):FnOk P w Ξ mg base CX0 1 f fd ["self","part"] (spI C):=by
 refine F.okQ scWkInit (λvs H Q E h=>?_) (λcdv A outer s H vs Q E hr h=>?_)
 ·obtain⟨_,_,rfl,_⟩:=h
  rfl
 refine⟨_,(qf (qs_initB ck ib (qa_c (qv 0) (qa_c (qe_fs3 (by decide) (by decide) (qv 1)) qc)))
  (qi (qs_setX ck na (qv 0) (qv 1)))), ?_⟩
 obtain⟨a,n,rfl,hn,ha,q⟩:=h;refine⟨.ref a,rfl, .int n,rfl,n,rfl,hn.1,hn.2.1,a,none,_,rfl,ha,by show 1<=1000; decide, ?_⟩;refine⟨.int n,rfl, .ref a,rfl,a,rfl,ha,λd hd=>q d hd⟩
end
end Mw
local macro_rules | `(tactic| walk_at "fk") => `(tactic| (refine' L2.fun_mk ?l ?c ?k; (case l=>k_is); (case c=>k_is); (case k=>k_is)))
local macro_rules | `(tactic| walk_at "fg") => `(tactic| (refine' ⟨?n, ?m⟩; (case n=>show _=_; k_is); (case m=>walk_at "fk")))
namespace Mw
open PySem L2
structure FG(K:PySem.W.Frag)(x:Str)(s:Stmt)(f:Addr)(d:FuncData):Prop where
 a:W.nsIn K mainGlobals x=some (some (.ref f))
 F:Fun K x x s f d
theorem ln1{α:Type}:∀{l:List α},l.length=1->∃a,l=[a]
 | [a],_=>⟨a,rfl⟩
theorem ln2{α:Type}:∀{l:List α},l.length=2->∃a b,l=[a,b]
 | [a,b],_=>⟨a,b,rfl⟩
theorem ln3{α:Type}:∀{l:List α},l.length=3->∃a b c,l=[a,b,c]
 | [a,b,c],_=>⟨a,b,c,rfl⟩
theorem ln4{α:Type}:∀{l:List α},l.length=4->∃a b c d,l=[a,b,c,d]
 | [a,b,c,d],_=>⟨a,b,c,d,rfl⟩
theorem ln5{α:Type}:∀{l:List α},l.length=5->∃a b c d e,l=[a,b,c,d,e]
 | [a,b,c,d,e],_=>⟨a,b,c,d,e,rfl⟩
abbrev Uc(K:PySem.W.Frag)(x:Str)(v:Value):=W.nsIn K mainGlobals x=some (some v)
abbrev Ud(K:PySem.W.Frag)(x:Str):=W.nsIn K mainGlobals x=some none
theorem all_mk{l:PySem.W.OpenLaw}{w:World}{K:PySem.W.Frag}{h:Heap}{mg:Str->Option Value}{fa f1 f2 f3 f4 f5 f6 f7 f8 f9 f10 f11 f12 f13 f14 f15 f16 f17 f18 f19 f20 f21 f22 f23 f24 f25 f26 f27 f28 f29 f30 f31 f32 f33 f34 f35 f36 f37 f38 f39 f40 f41 f42 f43 f44 f45 f46 f47 f48 f49 f50 f51 f52 f53 f54 f55 f56 f57 f58 f59 f60 f61 f62 f63 f64 f65 f66 f67 f68 f69 C1 CENought CENoRoom CEWk CEWordError:Addr}(X:K.In h)(G:h.Ns mainGlobals mg)(hfa:mg "law" = some (.ref fa)){d1 d2 d3 d4 d5 d6 d7 d8 d9 d10 d11 d12 d13 d14 d15 d16 d17 d18 d19 d20 d21 d22 d23 d24 d25 d26 d27 d28 d29 d30 d31 d32 d33 d34 d35 d36 d37 d38 d39 d40 d41 d42 d43 d44 d45 d46 d47 d48 d49 d50 d51 d52 d53 d54 d55 d56 d57 d58 d59 d60 d61 d62 d63 d64 d65 d66 d67 d68 d69:FuncData}{ft1:Addr}{tn1:Nat}{tsl1:Array (Option Value)}{tk1_0 tk1_1 tk1_2:Tok}{gk1:Tok}{gk2:Tok}{gk3:Tok}{gk4:Tok}{fd_1:Addr}{ke1:Nat}{ka1_0 kb1_0 ka1_1 kb1_1 ka1_2 kb1_2 ka1_3 kb1_3 ka1_4 kb1_4:Tok}(ca1:Uc K "Store" (.ref C1))(cb1:W.plainGet K C1 Str.empty=true)(cc1:W.hasDictIn K C1=true)(cd1:W.plainOver K C1=true)(ce1:W.findIn K (.ref C1) "__setattr__" = some (some (.builtin "object.__setattr__")))(cf1:W.makesIn K C1=true)(cg1:W.keepIn K (.ref C1)=true)(ch1_1:W.findIn K (.ref C1) "laying" = some none)(ch1_2:W.findIn K (.ref C1) "room" = some none)(ch1_3:W.findIn K (.ref C1) "held" = some none)(ch1_4:W.findIn K (.ref C1) "kept" = some none)(ch1_5:W.findIn K (.ref C1) "quick" = some none)(ch1_6:W.findIn K (.ref C1) "slow" = some none)(ch1_7:W.findIn K (.ref C1) "sweeps" = some none)(xaNought:Uc K "Nought" (.ref CENought))(xaNoRoom:Uc K "NoRoom" (.ref CENoRoom))(xoNought:W.excIn K CENought [.type "ValueError", .type "Exception", .type "BaseException", .type "object"] "ValueError.__new__" = true)(xoNoRoom:W.excIn K CENoRoom [.type "ValueError", .type "Exception", .type "BaseException", .type "object"] "ValueError.__new__" = true)(xaWk:Uc K "WrongKind" (.ref CEWk))(xaWordError:Uc K "WordError" (.ref CEWordError))(ENought_Nought:W.exmOne K (.ref CENought) (.ref CENought)=some true)(ENoRoom_Nought:W.exmOne K (.ref CENoRoom) (.ref CENought)=some false)(ENoRoom_NoRoom:W.exmOne K (.ref CENoRoom) (.ref CENoRoom)=some true)(A1:FG K "_law_bag" sBag f1 d1)(A2:FG K "_law_draw" X0 f2 d2)(A3:FG K "_law_draw" X0 f3 d3)(A4:FG K "_law_draw" X0 f4 d4)(A5:FG K "_law_full_laying" xU f5 d5)(A6:FG K "_law_laying" XY f6 d6)(A7:FG K "mark_for" Vq f7 d7)(A8:FG K "_law_mark" sMark f8 d8)(A9:FG K "load_bits" Qc f9 d9)(A10:FG K "_law_load" sLoad f10 d10)(A11:FG K "kinds_on" Vr f11 d11)(A12:FG K "mark_of" XW f12 d12)(A13:FG K "load_of" XX f13 d13)(A14:FG K "marked" XV f14 d14)(A15:FG K "small_of" Vp f15 d15)(A16:FG K "worth_of" Vo f16 d16)(A17:FG K "word_of" XO f17 d17)(A18:FG K "is_small" Vs f18 d18)(A19:FG K "size_at" XR f19 d19)(A20:FG K "number_at" Qb f20 d20)(A21:FG K "heads_in" Vu f21 d21)(A22:FG K "address_of" jO f22 d22)(A23:FG K "most_outside" xb f23 d23)(A24:FG K "pair_words_at" zZ f24 d24)(A25:FG K "reached_from" zY f25 d25)(A26:FG K "new_places" jK f26 d26)(A27:FG K "moved_word" jL f27 d27)(A28:FG K "moved_thing" xT f28 d28)(A29:FG K "swept" YS f29 d29)(a30:W.findIn K (.ref C1) "sweep" = some (some (.ref f30)))(n30:W.isFn K (.ref f30)=true)(F30:Fun K "sweep" "Store.sweep" xR f30 d30)(a31:W.findIn K (.ref C1) "lacks" = some (some (.ref f31)))(n31:W.isFn K (.ref f31)=true)(F31:Fun K "lacks" "Store.lacks" xS f31 d31)(a32:W.findIn K (.ref C1) "make_room" = some (some (.ref f32)))(n32:W.isFn K (.ref f32)=true)(F32:Fun K "make_room" "Store.make_room" zq f32 d32)(A33:FG K "limb_count" jN f33 d33)(A34:FG K "is_great" Vt f34 d34)(A35:FG K "rows_of" XS f35 d35)(a36:W.findIn K (.ref C1) "lay" = some (some (.ref f36)))(n36:W.isFn K (.ref f36)=true)(F36:Fun K "lay" "Store.lay" k9 f36 d36)(a37:W.findIn K (.ref C1) "number" = some (some (.ref f37)))(n37:W.isFn K (.ref f37)=true)(F37:Fun K "number" "Store.number" zc f37 d37)(a38:W.findIn K (.ref C1) "words" = some (some (.ref f38)))(n38:W.isFn K (.ref f38)=true)(F38:Fun K "words" "Store.words" xP f38 d38)(a39:W.findIn K (.ref C1) "outside" = some (some (.ref f39)))(n39:W.isFn K (.ref f39)=true)(F39:Fun K "outside" "Store.outside" zC f39 d39)(a40:W.findIn K (.ref C1) "in_word" = some (some (.ref f40)))(n40:W.isFn K (.ref f40)=true)(F40:Fun K "in_word" "Store.in_word" zW f40 d40)(a41:W.findIn K (.ref C1) "kind" = some (some (.ref f41)))(n41:W.isFn K (.ref f41)=true)(F41:Fun K "kind" "Store.kind" jG f41 d41)(A42:FG K "read_worth" jI f42 d42)(a43:W.findIn K (.ref C1) "told" = some (some (.ref f43)))(n43:W.isFn K (.ref f43)=true)(F43:Fun K "told" "Store.told" jA f43 d43)(a44:W.findIn K (.ref CEWk) "__init__" = some (some (.ref f44)))(F44:Fun K "__init__" "WrongKind.__init__" XQ f44 d44)(A45:FG K "need_numbers" z0 f45 d45)(A46:FG K "need_divisor" xa f46 d46)(a47:W.findIn K (.ref C1) "come_of_two" = some (some (.ref f47)))(n47:W.isFn K (.ref f47)=true)(F47:Fun K "come_of_two" "Store.come_of_two" zl f47 d47)(a48:W.findIn K (.ref C1) "plus" = some (some (.ref f48)))(n48:W.isFn K (.ref f48)=true)(F48:Fun K "plus" "Store.plus" jD f48 d48)(a49:W.findIn K (.ref C1) "less" = some (some (.ref f49)))(n49:W.isFn K (.ref f49)=true)(F49:Fun K "less" "Store.less" jF f49 d49)(a50:W.findIn K (.ref C1) "times" = some (some (.ref f50)))(n50:W.isFn K (.ref f50)=true)(F50:Fun K "times" "Store.times" xQ f50 d50)(a51:W.findIn K (.ref C1) "over" = some (some (.ref f51)))(n51:W.isFn K (.ref f51)=true)(F51:Fun K "over" "Store.over" jE f51 d51)(a52:W.findIn K (.ref C1) "rest" = some (some (.ref f52)))(n52:W.isFn K (.ref f52)=true)(F52:Fun K "rest" "Store.rest" jC f52 d52)(a53:W.findIn K (.ref C1) "same" = some (some (.ref f53)))(n53:W.isFn K (.ref f53)=true)(F53:Fun K "same" "Store.same" jB f53 d53)(A54:FG K "own_laying" jJ f54 d54)(a55:W.findIn K (.ref C1) "__init__" = some (some (.ref f55)))(n55:W.isFn K (.ref f55)=true)(F55:Fun K "__init__" "Store.__init__" jH f55 d55)(A56:FG K "_law_number" XU f56 d56)(A57:FG K "_law_is_small" jM f57 d57)(A58:FG K "_law_limbs" YT f58 d58)(A59:FG K "_law_rows" sRows f59 d59)(A60:FG K "_law_word" sWord f60 d60)(A61:FG K "_law_due" sDue f61 d61)(A62:FG K "_law_wide" sWide f62 d62)(A63:FG K "_law_pair_of" XT f63 d63)(A64:FG K "_law_tried" YR f64 d64)(a65:W.findIn K (.ref C1) "number" = some (some (.ref f65)))(n65:W.isFn K (.ref f65)=true)(F65:Fun K "number" "Store.number" zc f65 d65)(a66:W.findIn K (.ref C1) "below" = some (some (.ref f66)))(n66:W.isFn K (.ref f66)=true)(F66:Fun K "below" "Store.below" zD f66 d66)(A67:FG K "_law_alike" YV f67 d67)(A68:FG K "_law_one_right" Qa f68 d68)(A69:FG K "law" sLaw f69 d69)(xk1Wk:W.excInI K CEWk f44=true)(xk2Wk:W.findIn K (.ref CEWk) "__setattr__" = some (some (.builtin "object.__setattr__")))(xk3Wk:W.excOver K CEWk=true)(xk4Wk:W.findIn K (.ref CEWk) "__getattribute__" = some (some (.builtin "BaseException.__getattribute__")))(xk5Wk:W.findIn K (.ref CEWk) "__getattr__" = some none)(xk6Wk:W.mroIn K CEWk (.type "BaseException")=some true)(xk7Wk:W.hasDictIn K CEWk=true)(xk8Wk:W.findIn K (.ref CEWk) "part" = some none)(xb1WordError:W.specialIn K (.ref CEWordError) "__getattribute__" = some (some (.builtin "type.__getattribute__")))(xb2WordError:W.readsIn K CEWordError (.type "type")=true)(xb3WordError:W.findCls K (.ref CEWordError) (.type "type") "__init__" = some (.val (.builtin "ValueError.__init__")))(ynNRepr:Ud K "repr")(y1:Ud K "reversed")(z1:Ud K "abs")(z2:Ud K "len")(z3:Ud K "min")(z4:Ud K "max")(z5:Ud K "sum")(z6:Ud K "sorted")(z7:Ud K "all")(z8:Ud K "any")(z9:Ud K "isinstance")(z10:Ud K "range")(z11:Ud K "int")(z12:Ud K "list")(z13:Ud K "str")(z14:Ud K "bool")(z15:Ud K "tuple")(z16:Ud K "zip")(z17:Ud K "enumerate")(z18:Ud K "dict")(p1:Uc K "THREE" (.ref ft1))(q1:K.lookup ft1=some ⟨.type "tuple", none, .seq #[.str "none" tk1_0, .str "no" tk1_1, .str "yes" tk1_2] tn1,tsl1⟩)(g1:W.nsIn K mainGlobals "SIGNS" = some (some (.int 128 gk1)))(g2:W.nsIn K mainGlobals "REGISTERS" = some (some (.int 8 gk2)))(g3:W.nsIn K mainGlobals "PAIR_HEAD" = some (some (.int 1 gk3)))(g4:W.nsIn K mainGlobals "PAIR_SIZE" = some (some (.int 3 gk4)))(kg1:Uc K "KINDS_BY_MARK" (.ref fd_1))(kl1:K.lookup fd_1=some ⟨.type "dict", none, .dict (([("small", ka1_0, .str "number" kb1_0),("far", ka1_1, .str "number" kb1_1),("pair", ka1_2, .str "pair" kb1_2),("sign", ka1_3, .str "sign" kb1_3),("one", ka1_4, .str "one" kb1_4)]:List (Str×Tok×Value)).map (entD w.params)).toArray ke1, #[]⟩) :
  ∃fd:FuncData,(∀(s:Shared)(v:Value),BindsTo s fd ⟨[v], []⟩ [("script", v)])/\∀base:Heap,K.In base->base.Ns mainGlobals mg->FnOk l.prog w K mg base CX0 14 fa fd ["script"] (YH K):=by
 have e:=hfa.symm.trans (W.mg_of X G A69.a);cases e;have mo:=λ{x:Str} {v:Value} (a:W.nsIn K mainGlobals x=some (some v))=>W.mg_of X G a;have mn:=λ{x:Str} (a:W.nsIn K mainGlobals x=some none)=>W.mg_none_of X G a;have N:Nms mg:=⟨mn z1,mn z2,mn z3,mn z4,mn z5,mn z6,mn z7,mn z8,mn z9,mn z10,mn z11,mn z12,mn z13,mn z14,mn z15,mn z16,mn z17,mn z18⟩;have T3:Tup3 K mg "THREE" ft1 "none" "no" "yes" := ⟨mo p1,_,_,_,_,_,q1⟩;have N2:Nms2 mg:=⟨mn y1⟩;have GSigns:GInt mg "SIGNS" 128:=⟨_,mo g1⟩;have GReg:GInt mg "REGISTERS" 8:=⟨_,mo g2⟩;have GHead:GInt mg "PAIR_HEAD" 1:=⟨_,mo g3⟩;have GSize:GInt mg "PAIR_SIZE" 3:=⟨_,mo g4⟩;have DKinds:KDi K w mg "KINDS_BY_MARK" fd_1 Gi:=⟨mo kg1,_,_,kl1,by show(["small","far","pair","sign","one"]:List Str).Nodup; decide +kernel, .cons ⟨rfl,_,rfl⟩ (.cons ⟨rfl,_,rfl⟩ (.cons ⟨rfl,_,rfl⟩ (.cons ⟨rfl,_,rfl⟩ (.cons ⟨rfl,_,rfl⟩ (.nil)))))⟩;have TStore:Cls K C1:=⟨cb1,cc1,cd1,ce1⟩;have XStore:TxStore K C1:=⟨TStore,ch1_1,ch1_2,ch1_3,ch1_4,ch1_5,ch1_6,ch1_7⟩;have ONought:ExcC K mg "Nought" CENought:=⟨mo xaNought,xoNought⟩;have ONoRoom:ExcC K mg "NoRoom" CENoRoom:=⟨mo xaNoRoom,xoNoRoom⟩;have CWk:ExcK K CEWk f44:=⟨xk1Wk,xk2Wk,xk3Wk,xk4Wk,xk5Wk,xk6Wk,xk7Wk⟩;have AWk:NoAttr K CEWk "part" := xk8Wk;have BWk:=mo xaWk;have IWordError:InitB K mg "WordError" CEWordError:=⟨mo xaWordError,xb1WordError,xb2WordError,xb3WordError⟩;have BNought:=mo xaNought;have BNoRoom:=mo xaNoRoom;have NRepr:=mn ynNRepr;have b1:=A1.F.binds (ps:=["script"]) λ_ _ _ _ _ _ _ h=>by obtain⟨_,rfl⟩:=ln1 h; rfl
 have b2:=A2.F.binds (ps:=["bag","many"]) λ_ _ _ _ _ _ _ h=>by obtain⟨_,_,rfl⟩:=ln2 h; rfl
 have b3:=A3.F.binds (ps:=["bag","many"]) λ_ _ _ _ _ _ _ h=>by obtain⟨_,_,rfl⟩:=ln2 h; rfl
 have b4:=A4.F.binds (ps:=["bag","many"]) λ_ _ _ _ _ _ _ h=>by obtain⟨_,_,rfl⟩:=ln2 h; rfl
 have b5:=A5.F.binds (ps:=["bag","bits","order"]) λ_ _ _ _ _ _ _ h=>by obtain⟨_,_,_,rfl⟩:=ln3 h; rfl
 have b6:=A6.F.binds (ps:=["bag"]) λ_ _ _ _ _ _ _ h=>by obtain⟨_,rfl⟩:=ln1 h; rfl
 have b7:=A7.F.binds (ps:=["laying","kind"]) λ_ _ _ _ _ _ _ h=>by obtain⟨_,_,rfl⟩:=ln2 h; rfl
 have b8:=A8.F.binds (ps:=["laying","kind"]) λ_ _ _ _ _ _ _ h=>by obtain⟨_,_,rfl⟩:=ln2 h; rfl
 have b9:=A9.F.binds (ps:=["laying","kind"]) λ_ _ _ _ _ _ _ h=>by obtain⟨_,_,rfl⟩:=ln2 h; rfl
 have b10:=A10.F.binds (ps:=["laying","kind"]) λ_ _ _ _ _ _ _ h=>by obtain⟨_,_,rfl⟩:=ln2 h; rfl
 have b11:=A11.F.binds (ps:=["marks","word"]) λ_ _ _ _ _ _ _ h=>by obtain⟨_,_,rfl⟩:=ln2 h; rfl
 have b12:=A12.F.binds (ps:=["laying","word"]) λ_ _ _ _ _ _ _ h=>by obtain⟨_,_,rfl⟩:=ln2 h; rfl
 have b13:=A13.F.binds (ps:=["laying","word","kind"]) λ_ _ _ _ _ _ _ h=>by obtain⟨_,_,_,rfl⟩:=ln3 h; rfl
 have b14:=A14.F.binds (ps:=["laying","kind","load"]) λ_ _ _ _ _ _ _ h=>by obtain⟨_,_,_,rfl⟩:=ln3 h; rfl
 have b15:=A15.F.binds (ps:=["bits","load"]) λ_ _ _ _ _ _ _ h=>by obtain⟨_,_,rfl⟩:=ln2 h; rfl
 have b16:=A16.F.binds (ps:=["laying","word"]) λ_ _ _ _ _ _ _ h=>by obtain⟨_,_,rfl⟩:=ln2 h; rfl
 have b17:=A17.F.binds (ps:=["laying","worth"]) λ_ _ _ _ _ _ _ h=>by obtain⟨_,_,rfl⟩:=ln2 h; rfl
 have b18:=A18.F.binds (ps:=["laying","n"]) λ_ _ _ _ _ _ _ h=>by obtain⟨_,_,rfl⟩:=ln2 h; rfl
 have b19:=A19.F.binds (ps:=["outside","address"]) λ_ _ _ _ _ _ _ h=>by obtain⟨_,_,rfl⟩:=ln2 h; rfl
 have b20:=A20.F.binds (ps:=["laying","outside","address"]) λ_ _ _ _ _ _ _ h=>by obtain⟨_,_,_,rfl⟩:=ln3 h; rfl
 have b21:=A21.F.binds (ps:=["outside"]) λ_ _ _ _ _ _ _ h=>by obtain⟨_,rfl⟩:=ln1 h; rfl
 have b22:=A22.F.binds (ps:=["laying","word"]) λ_ _ _ _ _ _ _ h=>by obtain⟨_,_,rfl⟩:=ln2 h; rfl
 have b23:=A23.F.binds (ps:=["laying","room"]) λ_ _ _ _ _ _ _ h=>by obtain⟨_,_,rfl⟩:=ln2 h; rfl
 have b24:=A24.F.binds (ps:=["outside","address"]) λ_ _ _ _ _ _ _ h=>by obtain⟨_,_,rfl⟩:=ln2 h; rfl
 have b25:=A25.F.binds (ps:=["laying","words","outside"]) λ_ _ _ _ _ _ _ h=>by obtain⟨_,_,_,rfl⟩:=ln3 h; rfl
 have b26:=A26.F.binds (ps:=["outside","reached"]) λ_ _ _ _ _ _ _ h=>by obtain⟨_,_,rfl⟩:=ln2 h; rfl
 have b27:=A27.F.binds (ps:=["laying","places","word"]) λ_ _ _ _ _ _ _ h=>by obtain⟨_,_,_,rfl⟩:=ln3 h; rfl
 have b28:=A28.F.binds (ps:=["laying","places","outside","address"]) λ_ _ _ _ _ _ _ h=>by obtain⟨_,_,_,_,rfl⟩:=ln4 h; rfl
 have b29:=A29.F.binds (ps:=["laying","words","outside"]) λ_ _ _ _ _ _ _ h=>by obtain⟨_,_,_,rfl⟩:=ln3 h; rfl
 have b30:=F30.binds (ps:=["self"]) λ_ _ _ _ _ _ _ h=>by obtain⟨_,rfl⟩:=ln1 h; rfl
 have b31:=F31.binds (ps:=["self","size"]) λ_ _ _ _ _ _ _ h=>by obtain⟨_,_,rfl⟩:=ln2 h; rfl
 have b32:=F32.binds (ps:=["self","size"]) λ_ _ _ _ _ _ _ h=>by obtain⟨_,_,rfl⟩:=ln2 h; rfl
 have b33:=A33.F.binds (ps:=["laying","n"]) λ_ _ _ _ _ _ _ h=>by obtain⟨_,_,rfl⟩:=ln2 h; rfl
 have b34:=A34.F.binds (ps:=["laying","n"]) λ_ _ _ _ _ _ _ h=>by obtain⟨_,_,rfl⟩:=ln2 h; rfl
 have b35:=A35.F.binds (ps:=["laying","n"]) λ_ _ _ _ _ _ _ h=>by obtain⟨_,_,rfl⟩:=ln2 h; rfl
 have b36:=F36.binds (ps:=["self","r","kind","thing"]) λ_ _ _ _ _ _ _ h=>by obtain⟨_,_,_,_,rfl⟩:=ln4 h; rfl
 have b37:=F37.binds (ps:=["self","r","n"]) λ_ _ _ _ _ _ _ h=>by obtain⟨_,_,_,rfl⟩:=ln3 h; rfl
 have b38:=F38.binds (ps:=["self"]) λ_ _ _ _ _ _ _ h=>by obtain⟨_,rfl⟩:=ln1 h; rfl
 have b39:=F39.binds (ps:=["self"]) λ_ _ _ _ _ _ _ h=>by obtain⟨_,rfl⟩:=ln1 h; rfl
 have b40:=F40.binds (ps:=["self","q"]) λ_ _ _ _ _ _ _ h=>by obtain⟨_,_,rfl⟩:=ln2 h; rfl
 have b41:=F41.binds (ps:=["self","q"]) λ_ _ _ _ _ _ _ h=>by obtain⟨_,_,rfl⟩:=ln2 h; rfl
 have b42:=A42.F.binds (ps:=["laying","outside","word"]) λ_ _ _ _ _ _ _ h=>by obtain⟨_,_,_,rfl⟩:=ln3 h; rfl
 have b43:=F43.binds (ps:=["self","q"]) λ_ _ _ _ _ _ _ h=>by obtain⟨_,_,rfl⟩:=ln2 h; rfl
 have b44:=F44.binds (ps:=["self","part"]) λ_ _ _ _ _ _ _ h=>by obtain⟨_,_,rfl⟩:=ln2 h; rfl
 have b45:=A45.F.binds (ps:=["store","q","p"]) λ_ _ _ _ _ _ _ h=>by obtain⟨_,_,_,rfl⟩:=ln3 h; rfl
 have b46:=A46.F.binds (ps:=["store","q","p"]) λ_ _ _ _ _ _ _ h=>by obtain⟨_,_,_,rfl⟩:=ln3 h; rfl
 have b47:=F47.binds (ps:=["self","r","q","p","n"]) λ_ _ _ _ _ _ _ h=>by obtain⟨_,_,_,_,_,rfl⟩:=ln5 h; rfl
 have b48:=F48.binds (ps:=["self","r","q","p"]) λ_ _ _ _ _ _ _ h=>by obtain⟨_,_,_,_,rfl⟩:=ln4 h; rfl
 have b49:=F49.binds (ps:=["self","r","q","p"]) λ_ _ _ _ _ _ _ h=>by obtain⟨_,_,_,_,rfl⟩:=ln4 h; rfl
 have b50:=F50.binds (ps:=["self","r","q","p"]) λ_ _ _ _ _ _ _ h=>by obtain⟨_,_,_,_,rfl⟩:=ln4 h; rfl
 have b51:=F51.binds (ps:=["self","r","q","p"]) λ_ _ _ _ _ _ _ h=>by obtain⟨_,_,_,_,rfl⟩:=ln4 h; rfl
 have b52:=F52.binds (ps:=["self","r","q","p"]) λ_ _ _ _ _ _ _ h=>by obtain⟨_,_,_,_,rfl⟩:=ln4 h; rfl
 have b53:=F53.binds (ps:=["self","q","p"]) λ_ _ _ _ _ _ _ h=>by obtain⟨_,_,_,rfl⟩:=ln3 h; rfl
 have b54:=A54.F.binds (ps:=["laying"]) λ_ _ _ _ _ _ _ h=>by obtain⟨_,rfl⟩:=ln1 h; rfl
 have b55:=F55.binds (ps:=["self","laying","room"]) λ_ _ _ _ _ _ _ h=>by obtain⟨_,_,_,rfl⟩:=ln3 h; rfl
 have b56:=A56.F.binds (ps:=["bag","laying"]) λ_ _ _ _ _ _ _ h=>by obtain⟨_,_,rfl⟩:=ln2 h; rfl
 have b57:=A57.F.binds (ps:=["laying","n"]) λ_ _ _ _ _ _ _ h=>by obtain⟨_,_,rfl⟩:=ln2 h; rfl
 have b58:=A58.F.binds (ps:=["laying","n"]) λ_ _ _ _ _ _ _ h=>by obtain⟨_,_,rfl⟩:=ln2 h; rfl
 have b59:=A59.F.binds (ps:=["laying","n"]) λ_ _ _ _ _ _ _ h=>by obtain⟨_,_,rfl⟩:=ln2 h; rfl
 have b60:=A60.F.binds (ps:=["laying","n","address"]) λ_ _ _ _ _ _ _ h=>by obtain⟨_,_,_,rfl⟩:=ln3 h; rfl
 have b61:=A61.F.binds (ps:=["word","a","b"]) λ_ _ _ _ _ _ _ h=>by obtain⟨_,_,_,rfl⟩:=ln3 h; rfl
 have b62:=A62.F.binds (ps:=["bag","least"]) λ_ _ _ _ _ _ _ h=>by obtain⟨_,_,rfl⟩:=ln2 h; rfl
 have b63:=A63.F.binds (ps:=["bag","laying"]) λ_ _ _ _ _ _ _ h=>by obtain⟨_,_,rfl⟩:=ln2 h; rfl
 have b64:=A64.F.binds (ps:=["store","word","r","q","p"]) λ_ _ _ _ _ _ _ h=>by obtain⟨_,_,_,_,_,rfl⟩:=ln5 h; rfl
 have b65:=F65.binds (ps:=["self","r","n"]) λ_ _ _ _ _ _ _ h=>by obtain⟨_,_,_,rfl⟩:=ln3 h; rfl
 have b66:=F66.binds (ps:=["self","q","p"]) λ_ _ _ _ _ _ _ h=>by obtain⟨_,_,_,rfl⟩:=ln3 h; rfl
 have b67:=A67.F.binds (ps:=["found","due"]) λ_ _ _ _ _ _ _ h=>by obtain⟨_,_,rfl⟩:=ln2 h; rfl
 have b68:=A68.F.binds (ps:=["laying","word","a","b","r","more"]) λ_ _ _ _ _ _ us hl=>match us,hl with | [_,_,_,_,_,_],_=>rfl
 refine⟨d69,λs v=>?_,λbase _ _=>?_⟩
 ·obtain⟨_,_,_,_,_,_,_,_,_,rfl,_⟩:=A69.F.ex
  exact .of_eq rfl
 have DBag:Def l.prog w K mg base "_law_bag" 1 ["script"] (spBag K):=⟨f1,_,mo A1.a,A1.F.kp,b1,ok_bag A1.F N⟩;have DDraw:Def l.prog w K mg base "_law_draw" 1 ["bag","many"] spDraw:=⟨f2,_,mo A2.a,A2.F.kp,b2,ok_draw A2.F N⟩;have DDraw:Def l.prog w K mg base "_law_draw" 1 ["bag","many"] YI:=⟨f3,_,mo A3.a,A3.F.kp,b3,J5 A3.F N⟩;have DDraw:Def l.prog w K mg base "_law_draw" 1 ["bag","many"] (spU VZ):=⟨f4,_,mo A4.a,A4.F.kp,b4,ok_drawU A4.F N⟩;have DFullLaying:Def l.prog w K mg base "_law_full_laying" 2 ["bag","bits","order"] (spU gFull):=⟨f5,_,mo A5.a,A5.F.kp,b5,ok_fullU A5.F N DDraw⟩;have DLaying:Def l.prog w K mg base "_law_laying" 3 ["bag"] (spU Ju):=⟨f6,_,mo A6.a,A6.F.kp,b6,KW A6.F N DDraw DFullLaying⟩;have DMarkFor:Def l.prog w K mg base "mark_for" 1 ["laying","kind"] (spP VW):=⟨f7,_,mo A7.a,A7.F.kp,b7,ZD A7.F⟩;have DMark:Def l.prog w K mg base "_law_mark" 1 ["laying","kind"] (spP VW):=⟨f8,_,mo A8.a,A8.F.kp,b8,ZF A8.F⟩;have DLoadBits:Def l.prog w K mg base "load_bits" 2 ["laying","kind"] (spP Qw):=⟨f9,_,mo A9.a,A9.F.kp,b9,VI A9.F DMarkFor⟩;have DLoad:Def l.prog w K mg base "_law_load" 2 ["laying","kind"] (spP Qw):=⟨f10,_,mo A10.a,A10.F.kp,b10,ZH A10.F DMark⟩;have DKindsOn:Def l.prog w K mg base "kinds_on" 1 ["marks","word"] (spP VY):=⟨f11,_,mo A11.a,A11.F.kp,b11,ZJ A11.F⟩;have DMarkOf:Def l.prog w K mg base "mark_of" 2 ["laying","word"] (spP xl):=⟨f12,_,mo A12.a,A12.F.kp,b12,Jd A12.F DKindsOn⟩;have DLoadOf:Def l.prog w K mg base "load_of" 2 ["laying","word","kind"] (spP VX):=⟨f13,_,mo A13.a,A13.F.kp,b13,Je A13.F DMarkFor⟩;have DMarked:Def l.prog w K mg base "marked" 2 ["laying","kind","load"] (spP Jt):=⟨f14,_,mo A14.a,A14.F.kp,b14,KU A14.F DMarkFor⟩;have DSmallOf:Def l.prog w K mg base "small_of" 1 ["bits","load"] (spP VT):=⟨f15,_,mo A15.a,A15.F.kp,b15,ZC A15.F⟩;have DWorthOf:Def l.prog w K mg base "worth_of" 3 ["laying","word"] (spP VR):=⟨f16,_,mo A16.a,A16.F.kp,b16,ZB A16.F N T3 GSigns DMarkOf DLoadOf DSmallOf DLoadBits⟩;have DWordOf:Def l.prog w K mg base "word_of" 3 ["laying","worth"] (spP xk):=⟨f17,_,mo A17.a,A17.F.kp,b17,Jc A17.F N T3 DMarked DLoadBits⟩;have DIsSmall:Def l.prog w K mg base "is_small" 3 ["laying","n"] (spP ky):=⟨f18,_,mo A18.a,A18.F.kp,b18,ZK A18.F DLoadBits⟩;have DSizeAt:Def l.prog w K mg base "size_at" 1 ["outside","address"] (spP Q5):=⟨f19,_,mo A19.a,A19.F.kp,b19,ok_sizeG A19.F GHead GSize⟩;have DNumberAt:Def l.prog w K mg base "number_at" 2 ["laying","outside","address"] (spP gNumG):=⟨f20,_,mo A20.a,A20.F.kp,b20,ok_numG A20.F N2 DSizeAt⟩;have DHeadsIn:Def l.prog w K mg base "heads_in" 2 ["outside"] (spP GM):=⟨f21,_,mo A21.a,A21.F.kp,b21,ok_heads A21.F N DSizeAt⟩;have DAddressOf:Def l.prog w K mg base "address_of" 3 ["laying","word"] (spP gAddr):=⟨f22,_,mo A22.a,A22.F.kp,b22,ok_addr A22.F DMarkOf DLoadOf⟩;have DMostOutside:Def l.prog w K mg base "most_outside" 3 ["laying","room"] (spP gMost):=⟨f23,_,mo A23.a,A23.F.kp,b23,ok_most A23.F N DLoadBits⟩;have DPairWordsAt:Def l.prog w K mg base "pair_words_at" 1 ["outside","address"] (spP Kk):=⟨f24,_,mo A24.a,A24.F.kp,b24,ok_pairW A24.F GHead⟩;have DReachedFrom:Def l.prog w K mg base "reached_from" 4 ["laying","words","outside"] (spU GH):=⟨f25,_,mo A25.a,A25.F.kp,b25,ok_reach A25.F N DAddressOf DPairWordsAt⟩;have DNewPlaces:Def l.prog w K mg base "new_places" 3 ["outside","reached"] (spU GI):=⟨f26,_,mo A26.a,A26.F.kp,b26,ok_newPl A26.F DHeadsIn DSizeAt⟩;have DMovedWord:Def l.prog w K mg base "moved_word" 4 ["laying","places","word"] (spU VU):=⟨f27,_,mo A27.a,A27.F.kp,b27,WL A27.F DAddressOf DMarkOf DWordOf⟩;have DMovedThing:Def l.prog w K mg base "moved_thing" 5 ["laying","places","outside","address"] (spU Js):=⟨f28,_,mo A28.a,A28.F.kp,b28,WM A28.F GHead DPairWordsAt DMovedWord DSizeAt⟩;have DSwept:Def l.prog w K mg base "swept" 6 ["laying","words","outside"] (spU GB):=⟨f29,_,mo A29.a,A29.F.kp,b29,ok_swept A29.F DReachedFrom DNewPlaces DMovedThing DMovedWord⟩;have MStoreSweep:MDef l.prog w K mg base C1 "sweep" 7 ["self"] (spU (GC C1)):=⟨f30,_,⟨a30,n30,F30.kp⟩,b30,ok_sweep F30 XStore DSwept⟩;have MStoreLacks:MDef l.prog w K mg base C1 "lacks" 4 ["self","size"] (spU (GK C1)):=⟨f31,_,⟨a31,n31,F31.kp⟩,b31,ok_lacks F31 N XStore DMostOutside⟩;have MStoreMakeRoom:MDefX l.prog w K mg base C1 "make_room" 8 ["self","size"] (spX mg (Kj C1)):=⟨f32,_,⟨a32,n32,F32.kp⟩,b32,ok_roomS F32 TStore ONoRoom MStoreLacks MStoreSweep⟩;have DLimbCount:Def l.prog w K mg base "limb_count" 1 ["laying","n"] (spP xz):=⟨f33,_,mo A33.a,A33.F.kp,b33,QR A33.F N⟩;have DIsGreat:Def l.prog w K mg base "is_great" 2 ["laying","n"] (spP kz):=⟨f34,_,mo A34.a,A34.F.kp,b34,ZL A34.F DLimbCount⟩;have DRowsOf:Def l.prog w K mg base "rows_of" 2 ["laying","n"] (spP gRows):=⟨f35,_,mo A35.a,A35.F.kp,b35,ok_rowsU A35.F N DLimbCount⟩;have MStoreLay:MDef l.prog w K mg base C1 "lay" 4 ["self","r","kind","thing"] (spU (gLayS C1)):=⟨f36,_,⟨a36,n36,F36.kp⟩,b36,ok_layS F36 N XStore DWordOf⟩;have MStoreNumber:MDefX l.prog w K mg base C1 "number" 9 ["self","r","n"] (spX mg (gNumS C1)):=⟨f37,_,⟨a37,n37,F37.kp⟩,b37,WK F37 N XStore TStore ONoRoom DIsSmall DWordOf DIsGreat DRowsOf MStoreMakeRoom MStoreLay⟩;have MStoreWords:MDef l.prog w K mg base C1 "words" 1 ["self"] (spU (Jo C1)):=⟨f38,_,⟨a38,n38,F38.kp⟩,b38,WE F38 N XStore⟩;have MStoreOutside:MDef l.prog w K mg base C1 "outside" 1 ["self"] (spU (gSOut C1)):=⟨f39,_,⟨a39,n39,F39.kp⟩,b39,ok_sout F39 N XStore⟩;have MStoreInWord:MDef l.prog w K mg base C1 "in_word" 3 ["self","q"] (spU (gSInW C1)):=⟨f40,_,⟨a40,n40,F40.kp⟩,b40,ok_sinw F40 XStore DMarkOf⟩;have MStoreKind:MDef l.prog w K mg base C1 "kind" 3 ["self","q"] (spU (Z4 C1)):=⟨f41,_,⟨a41,n41,F41.kp⟩,b41,ok_skind F41 N XStore DKinds DMarkOf⟩;have DReadWorth:Def l.prog w K mg base "read_worth" 4 ["laying","outside","word"] (spU GG):=⟨f42,_,mo A42.a,A42.F.kp,b42,ok_readW A42.F N DWorthOf DMarkOf DNumberAt⟩;have MStoreTold:MDef l.prog w K mg base C1 "told" 5 ["self","q"] (spU (zO C1)):=⟨f43,_,⟨a43,n43,F43.kp⟩,b43,ok_stold F43 N XStore TStore MStoreKind DReadWorth⟩;have DWk:ExcD l.prog w K mg base "WrongKind" CEWk 1:=⟨mo xaWk,f44,_,CWk,b44,ok_winit F44 CWk AWk IWordError⟩;have DNeedNumbers:DefX l.prog w K mg base "need_numbers" 4 ["store","q","p"] (spX mg (j8 C1)):=⟨f45,_,mo A45.a,A45.F.kp,b45,ok_needN A45.F TStore DWk MStoreKind⟩;have DNeedDivisor:DefX l.prog w K mg base "need_divisor" 6 ["store","q","p"] (spX mg (Kl C1)):=⟨f46,_,mo A46.a,A46.F.kp,b46,ok_needD A46.F TStore ONought DNeedNumbers MStoreTold⟩;have MStoreComeOfTwo:MDefX l.prog w K mg base C1 "come_of_two" 10 ["self","r","q","p","n"] (spX mg (Jp C1)):=⟨f47,_,⟨a47,n47,F47.kp⟩,b47,ok_stwo F47 XStore TStore MStoreInWord MStoreNumber⟩;have MStorePlus:MDefX l.prog w K mg base C1 "plus" 11 ["self","r","q","p"] (spX mg (jb C1 false (λ_ _=>True) (λa b=>a+b))):=⟨f48,_,⟨a48,n48,F48.kp⟩,b48,ok_splus F48 TStore DNeedNumbers MStoreTold MStoreComeOfTwo⟩;have MStoreLess:MDefX l.prog w K mg base C1 "less" 11 ["self","r","q","p"] (spX mg (jb C1 false (λ_ _=>True) (λa b=>a-b))):=⟨f49,_,⟨a49,n49,F49.kp⟩,b49,ok_sless F49 TStore DNeedNumbers MStoreTold MStoreComeOfTwo⟩;have MStoreTimes:MDefX l.prog w K mg base C1 "times" 11 ["self","r","q","p"] (spX mg (jb C1 false IntMulOk (λa b=>a*b))):=⟨f50,_,⟨a50,n50,F50.kp⟩,b50,WF F50 TStore DNeedNumbers MStoreTold MStoreComeOfTwo⟩;have MStoreOver:MDefX l.prog w K mg base C1 "over" 11 ["self","r","q","p"] (spX mg (jb C1 true (λa b=>Builtin.divisionGoesByPylong a b=false) Int.fdiv)):=⟨f51,_,⟨a51,n51,F51.kp⟩,b51,ok_sover F51 TStore DNeedDivisor MStoreTold MStoreComeOfTwo⟩;have MStoreRest:MDefX l.prog w K mg base C1 "rest" 11 ["self","r","q","p"] (spX mg (jb C1 true (λ_ _=>True) Int.fmod)):=⟨f52,_,⟨a52,n52,F52.kp⟩,b52,ok_srest F52 TStore DNeedDivisor MStoreTold MStoreComeOfTwo⟩;have MStoreSame:MDef l.prog w K mg base C1 "same" 6 ["self","q","p"] (spU (GD C1)):=⟨f53,_,⟨a53,n53,F53.kp⟩,b53,ok_ssame F53 TStore MStoreKind MStoreTold⟩;have DOwnLaying:Def l.prog w K mg base "own_laying" 1 ["laying"] (spP jZ):=⟨f54,_,mo A54.a,A54.F.kp,b54,QQ A54.F N⟩;have KStore:MkDef l.prog w K mg base C1 "Store" 4 ["self","laying","room"] (spU (Ki C1)):=⟨f55,_,⟨cf1,a55,n55,cg1⟩,mo ca1,b55,ok_sinit F55 XStore GReg DOwnLaying DWordOf⟩;have DNumber:Def l.prog w K mg base "_law_number" 3 ["bag","laying"] (spU Jr):=⟨f56,_,mo A56.a,A56.F.kp,b56,KQ A56.F N DDraw DLoad⟩;have DLwIsSmall:Def l.prog w K mg base "_law_is_small" 3 ["laying","n"] (spP jY):=⟨f57,_,mo A57.a,A57.F.kp,b57,WG A57.F DLoad⟩;have DLimbs:Def l.prog w K mg base "_law_limbs" 1 ["laying","n"] (spP GJ):=⟨f58,_,mo A58.a,A58.F.kp,b58,WN A58.F N⟩;have DRows:Def l.prog w K mg base "_law_rows" 4 ["laying","n"] (spP GF):=⟨f59,_,mo A59.a,A59.F.kp,b59,ok_rowsI A59.F N DLwIsSmall DLimbs⟩;have DWord:Def l.prog w K mg base "_law_word" 4 ["laying","n","address"] (spP GL):=⟨f60,_,mo A60.a,A60.F.kp,b60,ok_lword A60.F DLwIsSmall DMark⟩;have DDue:Def l.prog w K mg base "_law_due" 1 ["word","a","b"] (spP gDue):=⟨f61,_,mo A61.a,A61.F.kp,b61,ok_due A61.F⟩;have DWide:Def l.prog w K mg base "_law_wide" 4 ["bag","least"] (spU gWide):=⟨f62,_,mo A62.a,A62.F.kp,b62,ok_wide A62.F N DLaying⟩;have DPairOf:Def l.prog w K mg base "_law_pair_of" 4 ["bag","laying"] (spU Jq):=⟨f63,_,mo A63.a,A63.F.kp,b63,WJ A63.F N DDraw DNumber⟩;have DTried:Def l.prog w K mg base "_law_tried" 12 ["store","word","r","q","p"] (spU (GA C1)):=⟨f64,_,mo A64.a,A64.F.kp,b64,ok_tried A64.F TStore ONought ONoRoom BNought BNoRoom ENought_Nought ENoRoom_Nought ENoRoom_NoRoom MStorePlus MStoreLess MStoreTimes MStoreOver MStoreRest⟩;have MStoreNumber:MDef l.prog w K mg base C1 "number" 9 ["self","r","n"] (spU (gNumC C1)):=⟨f65,_,⟨a65,n65,F65.kp⟩,b65,ok_numC F65 N XStore TStore ONoRoom DIsSmall DWordOf DIsGreat DRowsOf MStoreMakeRoom MStoreLay⟩;have MStoreBelow:MDef l.prog w K mg base C1 "below" 6 ["self","q","p"] (spU (gBelC C1)):=⟨f66,_,⟨a66,n66,F66.kp⟩,b66,ok_belC F66 TStore DNeedNumbers MStoreTold⟩;have DAlike:Def l.prog w K mg base "_law_alike" 1 ["found","due"] (spP Jv):=⟨f67,_,mo A67.a,A67.F.kp,b67,WO A67.F NRepr⟩;have DOneRight:Def l.prog w K mg base "_law_one_right" 13 ["laying","word","a","b","r","more"] (spP gOneR):=⟨f68,_,mo A68.a,A68.F.kp,b68,ok_oneR A68.F N XStore TStore KStore MStoreNumber MStoreBelow MStoreWords MStoreOutside MStoreTold DLoad DLwIsSmall DRows DWord DDue DTried DAlike⟩;exact ok_lawU A69.F N TStore KStore MStoreNumber MStoreSame DBag DDraw DWide DPairOf DOneRight
theorem walk{l:PySem.W.OpenLaw}{q:Program}{loose:List Str}{XP:(Str->Option Value)->Heap->Prop}{YP:World->Heap->Prop}{d:DefRec}{K:Params->PySem.W.Frag}(hn:l.most=some 63)(hdf:d.params.defaults=[])(hY:∀(w:World)(h:Heap),YP w h->(K w.params).In h)(F:∀(w:World)(mg:Str->Option Value)(fa:Addr)(h:Heap),(K w.params).In h->h.Ns mainGlobals mg->mg d.name=some (.ref fa) ->
   ∃fd:FuncData,(∀(s:Shared)(u:Value),BindsTo s fd ⟨[u], []⟩ [("script", u)])/\∀base:Heap,(K w.params).In base->base.Ns mainGlobals mg->FnOk l.prog w (K w.params) mg base CX0 14 fa fd ["script"] (YH (K w.params))) :
  PySem.W.WalkO q loose XP YP l.row.toRowW d [] (λf vs=>PySem.call f vs) :=
 L2.walk_of (n:=63) (k:=14) (x := "script") (CX:=λ_=>CX0) (sp:=λw=>YH (K w.params)) hn (by decide) hdf ⟨rfl,by decide,by decide,rfl⟩ hY F (λ_ _ a ns hl _ hS=>⟨a,ns,rfl,hS,hl,λ_=>rfl⟩) λ_ _ _ _ _ z=>z
end Mw
open PySem PySem.W PyProof.Rows
set_option maxRecDepth 100000 in
set_option maxHeartbeats 0 in
theorem PySem.Challenge.cw_markwords_k32_numbers_of_two_holds : PySem.Challenge.rw_markwords_k32_numbers_of_two.Holds := by
 w_on; o_law
 refine Hd.close (q:=Mx.vw) (loose:=Mx.ls) (lv:=Mx.lv) (H:=kHook Mx.K Mx.KA Mx.K_as) (N:=7468) Mx.hLf9 (by rfl) (by rfl) (by rfl) (by rfl) (by assumption) (by decide +kernel) ⟨rfl,rfl,rfl,rfl,rfl,by decide +kernel⟩ ?hw ?hc
 case hw=>w_witness2
 k_fill
 refine Mw.walk (l:=PySem.Challenge.rw_markwords_k32_numbers_of_two) rfl rfl (fun w h Y=>PySem.W.kIn_of Y) ?F
 case F =>
  intro w mg fa h KX G hmg
  refine' Mw.all_mk KX G hmg ?ca1 ?cb1 ?cc1 ?cd1 ?ce1 ?cf1 ?cg1 ?ch1_1 ?ch1_2 ?ch1_3 ?ch1_4 ?ch1_5 ?ch1_6 ?ch1_7 ?xaNought ?xaNoRoom ?xoNought ?xoNoRoom ?xaWk ?xaWordError ?ENought_Nought ?ENoRoom_Nought ?ENoRoom_NoRoom ?A1 ?A2 ?A3 ?A4 ?A5 ?A6 ?A7 ?A8 ?A9 ?A10 ?A11 ?A12 ?A13 ?A14 ?A15 ?A16 ?A17 ?A18 ?A19 ?A20 ?A21 ?A22 ?A23 ?A24 ?A25 ?A26 ?A27 ?A28 ?A29 ?a30 ?n30 ?F30 ?a31 ?n31 ?F31 ?a32 ?n32 ?F32 ?A33 ?A34 ?A35 ?a36 ?n36 ?F36 ?a37 ?n37 ?F37 ?a38 ?n38 ?F38 ?a39 ?n39 ?F39 ?a40 ?n40 ?F40 ?a41 ?n41 ?F41 ?A42 ?a43 ?n43 ?F43 ?a44 ?F44 ?A45 ?A46 ?a47 ?n47 ?F47 ?a48 ?n48 ?F48 ?a49 ?n49 ?F49 ?a50 ?n50 ?F50 ?a51 ?n51 ?F51 ?a52 ?n52 ?F52 ?a53 ?n53 ?F53 ?A54 ?a55 ?n55 ?F55 ?A56 ?A57 ?A58 ?A59 ?A60 ?A61 ?A62 ?A63 ?A64 ?a65 ?n65 ?F65 ?a66 ?n66 ?F66 ?A67 ?A68 ?A69 ?xk1Wk ?xk2Wk ?xk3Wk ?xk4Wk ?xk5Wk ?xk6Wk ?xk7Wk ?xk8Wk ?xb1WordError ?xb2WordError ?xb3WordError ?ynNRepr ?y1 ?z1 ?z2 ?z3 ?z4 ?z5 ?z6 ?z7 ?z8 ?z9 ?z10 ?z11 ?z12 ?z13 ?z14 ?z15 ?z16 ?z17 ?z18 ?p1 ?q1 ?g1 ?g2 ?g3 ?g4 ?kg1 ?kl1
  (case ca1|cb1|cc1|cd1|ce1|cf1|cg1|ch1_1|ch1_2|ch1_3|ch1_4|ch1_5|ch1_6|ch1_7|xaNought|xaNoRoom|xaWk|xaWordError|a30|n30|a31|n31|a32|n32|a36|n36|a37|n37|a38|n38|a39|n39|a40|n40|a41|n41|a43|n43|a44|a47|n47|a48|n48|a49|n49|a50|n50|a51|n51|a52|n52|a53|n53|a55|n55|a65|n65|a66|n66|ynNRepr|y1|z1|z2|z3|z4|z5|z6|z7|z8|z9|z10|z11|z12|z13|z14|z15|z16|z17|z18|p1|q1|g1|g2|g3|g4|kg1|kl1=>show _=_;k_is)
  (case xoNought|xoNoRoom|ENought_Nought|ENoRoom_Nought|ENoRoom_NoRoom|xk1Wk|xk2Wk|xk3Wk|xk4Wk|xk5Wk|xk6Wk|xk7Wk|xk8Wk|xb1WordError|xb2WordError|xb3WordError=>kernel_rfl)
  (case A1|A2|A3|A4|A5|A6|A7|A8|A9|A10|A11|A12|A13|A14|A15|A16|A17|A18|A19|A20|A21|A22|A23|A24|A25|A26|A27|A28|A29|A33|A34|A35|A42|A45|A46|A54|A56|A57|A58|A59|A60|A61|A62|A63|A64|A67|A68|A69=>walk_at "fg")
  (case F30|F31|F32|F36|F37|F38|F39|F40|F41|F43|F44|F47|F48|F49|F50|F51|F52|F53|F55|F65|F66=>walk_at "fk")
