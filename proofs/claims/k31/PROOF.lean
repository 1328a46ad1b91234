import PyProof.Rows.All
import Wide.All
import OpenK.AllK
import Wide.FinOn
import Lean
import PyProof.EqAt
import PyProof.EqKinds
import PyProof.TupleCall
import PyProof.NeKinds
import PyProof.RulesTry
import PyProof.ExcArgsOwn
import PyProof.InstStoreFacts
import PyProof.ExcInit
import PyProof.ExcClass3
import KE.KTryMore
import PyProof.NsDelKeeps
import PyProof.RulesAs
import PyProof.InstEq
import PyProof.Rows.EqMixed
import PyProof.FactsAll.tuple_1
import PySem.Challenge.RW_markwords_k31_a_store_begins
set_option Elab.async false
set_option linter.all false
set_option maxRecDepth 100000
set_option maxHeartbeats 8000000
set_option compiler.extract_closed false
local macro_rules | `(tactic| lia) => `(tactic| first | lia (config := {}) | omega)
local macro_rules | `(tactic| symm) => `(tactic| walk_at "v")
local macro_rules | `(tactic| nofun) => `(tactic| walk_at "u")
def Ue:=@List.getElem?_eq_some_iff
def Uf:=@List.getElem?_eq_getElem
def Ug:=@List.getElem?_append_left
def Uh:=@List.length_map
def Ui:=@List.mem_of_getElem?
def Uj:=@List.length_append
def Uk:=@Nat.le_refl
def Ul:=@List.getElem?_set_ne
def Um:=@List.length_cons
def Uo:=@List.getElem?_append_right
def Up:=@List.size_toArray
def Uq:=@List.length_set
def Ur:=@List.getElem?_set_self
def Us:=@List.append_assoc
def Ut:=@Bool.false_ne_true
def Uu:=@List.mem_singleton
def Uv:=@List.mem_cons
def Uw:=@List.mem_append
def Ux:=@List.map_append
def Uy:=@Nat.lt_of_lt_of_le
def Uz:=@List.getElem?_map
def UB:=@List.map_cons
def UC:=@Nat.add_sub_cancel_left
def UD:=@List.mem_append_left
def UF:=@List.lookup_cons
def UH:=@Nat.ne_of_lt
def UJ:=@List.mem_filter
def UL:=@Nat.le_trans
def UM:=@List.mem_append_right
def UN:=@List.mem_cons_self
def UP:=@List.length_nil
def UQ:=@List.mem_map
def UR:=@List.mem_cons_of_mem
def UU:=@Int.le_refl
def UV:=@List.nil_append
def UW:=@Nat.zero_le
def UY:=@Option.map_eq_some_iff
def UZ:=@List.append_nil
def U0:=@List.length_take
def U1:=@List.cons_append
def U2:=@Nat.le_of_lt
def U3:=@Int.emod_lt_of_pos
def U4:=@List.pairwise_cons
def U5:=@PySem.W.kia_one
def U6:=@Int.emod_nonneg
def U7:=@List.take_length
def U8:=@List.not_mem_nil
def U9:=@List.filterMap_cons
def Da:=@Int.one_mul
def Db:=@List.map_congr_left
def Dc:=@List.nodup_cons
def Dd:=@List.getElem?_cons_zero
def De:=@List.replicate_succ
def Df:=@Int.emod_eq_of_lt
def Dg:=@List.length_singleton
def Dh:=@List.find?_cons
def Di:=@Nat.zero_add
def Dj:=@List.mem_filterMap
def Dk:=@Bool.false_eq_true
def Dl:=@List.filter_append
def Dm:=@Nat.lt_irrefl
def Dn:=@List.nodup_append
def Do:=@List.mem_map_of_mem
def Dp:=@List.flatMap_append
def Dq:=@List.getD_eq_getElem?_getD
def Dr:=@PySem.W.methodCall_KW
def Ds:=@List.set_append_right
def Dt:=@List.mem_range
def Du:=@Nat.pow_le_pow_right
def Dv:=@List.getElem?_of_mem
def Dw:=@List.mem_of_mem_take
def Dx:=@Int.toNat_natCast
def Dy:=@List.reverse_cons
def Dz:=@List.flatten_cons
def DA:=@Nat.min_eq_left
def DB:=@List.any_cons
def DC:=@List.getElem?_cons_succ
def DD:=@List.length_drop
def DF:=@Bool.and_eq_true
def DG:=@Nat.le_add_right
def DH:=@List.flatMap_def
def DI:=@PySem.W.callWith_K
def DJ:=@Nat.sub_self
def DL:=@List.length_filter_le
def DM:=@PySem.W.hideAll_none
def DN:=@List.set_append_left
def DO:=@List.pairwise_append
def DP:=@Nat.succ_le_succ
def DQ:=@List.all_eq_true
def DR:=@PySem.W.hideAll_get
def DS:=@List.map_nil
def DT:=@List.map_map
def DU:=@List.getElem?_replicate
def DV:=@List.eraseIdx_cons_succ
def DW:=@List.set_cons_zero
def DX:=@List.set_cons_succ
def DY:=@List.take_of_length_le
def DZ:=@List.take_add_one
def D0:=@List.flatMap_cons
def D1:=@List.nodup_nil
def D2:=@List.set_getElem_self
def D3:=@List.mem_of_mem_drop
def D4:=@Bool.eq_iff_iff
def Ra:=@PySem.W.plainGet_of
def Rb:=@List.take_left'
def Re:=@List.length_pos_iff
def Rg:=@List.filter_sublist
def Rh:=@Int.fdiv_eq_ediv_of_nonneg
def Ri:=@Array.append_assoc
def Rj:=@Int.natCast_nonneg
def Rk:=@Nat.le_of_eq
def Rl:=@List.zip_cons_cons
def Rm:=@List.zip_nil_right
def Rn:=@List.set_set
def Ro:=@Int.ne_of_gt
def Rp:=@List.getElem?_eq_none_iff
def Rq:=@List.mem_or_eq_of_mem_set
def Rr:=@List.getElem?_take_of_lt
def Rs:=@Option.isSome_map
def Ru:=@PyProof.noPylong_of_log2
def Rv:=@Nat.le_succ_of_le
def Rw:=@List.length_range
def Rx:=@Bool.not_eq_true'
def Ry:=@List.zip_nil_left
def Rz:=@List.pairwise_map
def RA:=@List.eq_of_mem_replicate
def RB:=@List.all_cons
def RC:=@List.sum_cons
def RD:=@PySem.W.mg_of
def RE:=@List.filter_cons
def RF:=@List.ext_getElem
def RG:=@List.getElem_mem
def RH:=@PySem.W.cellsFrom_some
def RJ:=@List.range_succ_eq_map
def RK:=@List.zipWith_cons_cons
def RL:=@List.length_pos_of_mem
def RM:=@Nat.div_div_eq_div_mul
def RN:=@Nat.eq_of_beq_eq_true
def RO:=@List.of_mem_zip
def RP:=@List.length_replicate
def RQ:=@List.foldl_cons
def RS:=@Nat.add_comm
def RT:=@Option.map_some
def RU:=@Int.ediv_nonneg
def RV:=@List.take_append_drop
def RW:=@List.perm_append_comm
def RX:=@Bool.beq_eq_decide_eq
def RY:=@List.dropLast_eq_take
def RZ:=@List.drop_left'
def R0:=@List.map_set
def R1:=@Bool.and_eq_true_iff
def R3:=@List.length_dropLast
def R4:=@List.drop_zero
def R5:=@Array.length_toList
def R6:=@Nat.le_succ
def R7:=@List.length_reverse
def R8:=@Array.getElem?_push
def R9:=@Int.pow_add
def Ba:=@PySem.W.of_hideAll
def Bb:=@Array.find?_toList
def Bc:=@Nat.lt_of_le_of_lt
def Bd:=@List.contains_cons
def Be:=@List.map_take
def Bf:=@List.map_drop
def Bg:=@Int.natAbs_natCast
def Bh:=@Nat.add_assoc
def Bi:=@List.append_of_mem
def Bj:=@Int.lt_of_lt_of_le
def Bk:=@Nat.not_lt
def Bl:=@Nat.ne_of_gt
def Bm:=@Nat.min_self
def Bn:=@Int.zero_add
def Bo:=@Int.mul_comm
def Bp:=@Int.le_of_lt
def Bq:=@Nat.mul_succ
def Br:=@Int.add_comm
def Bs:=@Nat.pow_add
namespace L2
open PySem PySem.Spec PyProof.Rows
def qr(s:Stmt)(j:Nat):Stmt:=match s with
 |.ClassDef _ _ _ body _ _ _ _ _ _ _=>body.getD j (.Pass ⟨0,0,0,0⟩)
 |_=>.Pass ⟨0,0,0,0⟩
def zR(s:Stmt):Arguments:=match s with
 |.FunctionDef _ a _ _ _ _ _ _ _ _=>a
 |_=>{ posonlyargs:=[],args:=[],vararg:=none,kwonlyargs:=[],kw_defaults:=[],kwarg:=none,defaults:=[] }
def vz(s:Stmt):List Stmt:=match s with
 |.FunctionDef _ _ b _ _ _ _ _ _ _=>b
 |_=>[]
def qg(s:Stmt):Scope:=match s with
 |.FunctionDef _ _ _ _ _ _ sc _ _ _=>sc
 |_=>{ kind:=.function,names:=[],isGenerator:=false,isCoroutine:=false }
end L2
namespace Hd
open PySem PySem.W PySem.Calls PyProof.Rows
def topT(tb:String->Option Builtin)(p:Program)(w:World)(m:Nat)(an:Option Value):Nat->SharedT->Thread->Option SharedT
 |0,_,_=>none
 |k+1,s,t=>match through t with
  |true=>some s
  |false=>match stepOk m an t with
   |false=>none
   |true=>match stepT (denote tb) p w s t with
    |some (s1,t1)=>topT tb p w m an k s1 t1
    |none=>none
theorem Km :
  ∀{k:Nat}{s r:SharedT}{t:Thread},topT tb p w m an k s t=some r->topRun tb p w m an k s.abs t=some r.abs
 |0,_,_,_,h=>by cases h
 |k+1,s,r,t,h=>by
  unfold topT at h;unfold topRun;cases ht:through t with
  |true=>rw[ht] at h; cases h; rfl
  |false =>
   rw[ht] at h;cases hk:stepOk m an t with
   |false=>rw[hk] at h; cases h
   |true =>
    rw[hk] at h;cases hs:stepT (denote tb) p w s t with
    |none=>rw[hs] at h; cases h
    |some x =>
     obtain⟨s1,t1⟩:=x;rw[hs] at h;rw[stepT_spec hs];exact Km h
noncomputable def bootT(P:Params):BT :=
 .node (boot_o_0 P) (.node (boot_o_1 P) (.node (boot_o_3 P) (.node (boot_o_7 P) .nil .nil) .nil) (.node (boot_o_5 P) (.node (boot_o_9 P) .nil .nil) .nil))
  (.node (boot_o_2 P) (.node (boot_o_4 P) (.node (boot_o_8 P) .nil .nil) .nil) (.node (boot_o_6 P) (.node (boot_o_10 P) .nil .nil) .nil))
abbrev bootL:Life:={}
theorem qaS(P:Params):boot_heap P=absHeap (bootT P) 11 bootL:=by kernel_rfl
noncomputable def S0(w:World)(os:OsState):SharedT:=⟨bootT w.params,11,bootL, #[],boot_drawn,boot_toks,os⟩
noncomputable def Look(p q:Program)(loose:List Str)(Xt:Shared->Bool){α:Type}(Yf:Shared->α)(w:World)(s:Shared) :=
 ((staticsOk (importedModules p.main.body) (boot_heap w.params) s.heap&&namesBound p s.heap&&gensDone s&&laidKept (boot_heap w.params) s.heap),openSeen q loose (importedModules p.main.body) Xt true s,Yf s)
theorem left_of{p q:Program}{loose:List Str}{Xt:Shared->Bool}{α:Type}{Yf:Shared->α}{Ya:World->α}{N M:Nat}(e:opening p=plainProg p.main.scope.names)(hN:Nat.ble 600 N=true)(f:∀s,fenceModules? p s=some s)(le:Nat.ble M N=true)(run:∀w os,(topT treeTable p w 11 (some (.ref 6)) M (S0 w os) (topStub p)).map (λs=>Look p q loose Xt Yf w s.abs)=some (true,openGood q loose,Ya w))(hs:∀P:Params,((boot_heap P).isNs mainGlobals,(boot_heap P).nsMap mainGlobals "__annotations__")=(true,some (.ref 6))):LeftO p q loose Xt Yf Ya N:=λw=>by
 obtain⟨⟨h,gs,d,k,os⟩,e1,e2⟩:=UY.mp (boot_open e hN f w);obtain⟨rfl,rfl,rfl,rfl⟩:h=boot_heap w.params/\gs=Array.mk []/\d=boot_drawn/\k=boot_toks:=by simpa using e2
 obtain⟨z1,z3⟩:_/\_:=by simpa only[Prod.mk.injEq] using hs w.params
 obtain⟨r,r1,r2⟩:=UY.mp (run w os);obtain⟨l1,l2,l3⟩:_/\_/\_:=by simpa only[Look,Prod.mk.injEq] using r2
 have r3:=topRun_mono (N-M) _ _ _ _ (Km r1);rw[show M+(N-M)=N by have:=Nat.le_of_ble_eq_true le; lia] at r3;have a:(S0 w os).abs=⟨boot_heap w.params, #[],boot_drawn,boot_toks,os⟩:=by rw[qaS]; rfl
 rw[a] at r3;have t:topFrom treeTable p w N ⟨boot_heap w.params, #[],boot_drawn,boot_toks,os⟩=some r.abs:=by
  unfold topFrom;dsimp only;rw[z1,z3,show(boot_heap w.params).objs.size=11 from rfl,r3];show(match staticsOk (importedModules p.main.body) (boot_heap w.params) r.abs.heap&&namesBound p r.abs.heap&&gensDone r.abs&&laidKept (boot_heap w.params) r.abs.heap with|true=>_|false=>_)=_;rw[l1]
 unfold openEnds;rw[e1];show(topFrom treeTable p w N _).map _=_;rw[t];exact congrArg some (Prod.ext l2 l3)
def fill(f:Nat->Obj):List Nat->Frag->List Obj
 | [],_=>[]
 |i::r, []=>f i::fill f r []
 |i::r,(a,o)::Ξ=>match Nat.beq a i with
  |true=>o::fill f r Ξ
  |false=>f i::fill f r ((a,o)::Ξ)
theorem Zh:∀{r:List Nat}{Ξ:Frag},(∀p∈Ξ,f p.1=p.2)->fill f r Ξ=r.map f
 | [],_,_=>rfl
 |i::r, [],h=>congrArg (f i :: ·) (Zh h)
 |i::r,(a,o)::Ξ,h=>by
  unfold fill;cases e:Nat.beq a i with
  |true =>
   cases RN e;exact(congrArg (· :: fill f r Ξ) (h (i,o) (.head _)).symm).trans (congrArg (f i :: ·) (Zh λp m=>h p (.tail _ m)))
  |false=>exact congrArg (f i :: ·) (Zh h)
noncomputable def BR(P:Params):Frag:=[(0,boot_o_0 P),(1,boot_o_1 P),(4,boot_o_4 P),(5,boot_o_5 P),(6,boot_o_6 P),(7,boot_o_7 P),(8,boot_o_8 P),(9,boot_o_9 P),(10,boot_o_10 P)]
def ins(x:Nat×Obj):Frag->Frag
 | []=>[x]
 |y::r=>match Nat.ble x.1 y.1 with
  |true=>x::y::r
  |false=>y::ins x r
def KX(Ξ R:Frag):Frag:=R.foldr ins Ξ
def E0:Obj:=⟨.none,none, .fields #[], #[]⟩
noncomputable def SE(Ξ R:Frag)(Q:List Nat)(n:Nat)(f:Nat->Obj)(l:Life)(d:Drawn)(k:Nat)(os:OsState):Shared:=⟨⟨(fill (λi=>match Q.any (Nat.beq i) with|true=>E0|false=>f i) (List.range n) (KX Ξ R)).toArray,l⟩, #[],d,k,os⟩
theorem SE_is{s:SharedT}(h:(s.n,s.gens,Q.map s.tree.get,(KX Ξ R).map λp=>s.tree.get p.1)=(n, #[],Q.map (λ_=>some E0),(KX Ξ R).map λp=>some p.2)):s.abs=SE Ξ R Q n (λi=>(s.tree.get i).getD default) s.life s.drawn s.toks s.os:=by
 obtain⟨T,m,l,g,d,k,os⟩:=s;obtain⟨rfl,rfl,h2,h3⟩:m=n/\g=#[]/\_/\_:=by simpa only[Prod.mk.injEq] using h
 show Shared.mk (absHeap T m l) _ _ _ _=Shared.mk _ _ _ _ _;have q:(λi=>match Q.any (Nat.beq i) with|true=>E0|false=>(T.get i).getD default)=λi=>(T.get i).getD default:=funext λi=>by
  cases e:Q.any (Nat.beq i) with
  |false=>rfl
  |true =>
   obtain⟨j,hj,x⟩:=List.any_eq_true.mp e;cases RN x;show E0=(T.get i).getD default;rw[List.map_inj_left.mp h2 i hj]; rfl
 unfold absHeap BT.list;show _=Shared.mk ⟨(fill (λi=>match Q.any (Nat.beq i) with|true=>E0|false=>(T.get i).getD default) _ _).toArray,_⟩ _ _ _ _;rw[q,Zh λp m=>by show(T.get p.1).getD default=_; rw[List.map_inj_left.mp h3 p m]; rfl]
noncomputable def LkA(p q:Program)(w:World)(s:Shared):=((staticsOk (importedModules p.main.body) (boot_heap w.params) s.heap&&namesBound p s.heap&&gensDone s&&laidKept (boot_heap w.params) s.heap),seen ((recsOf q).map (·.name)) (ownsOf q) [] { s with gens:=#[] },s.heap.bltView)
noncomputable def GdA(q:Program):=(true,expectedOf q,bltViewBooted)
noncomputable def LkB(p q:Program)(loose:List Str)(Xt:Shared->Bool)(s:Shared):=(s.heap.keysOk (looseW q loose) ((recsOf q).map (·.name)) ((litsOf q).map (·.1)) ((clssOf q (looseW q loose)).map (·.name))&&s.heap.accountedOkI (importedModules p.main.body)&&s.heap.isNs mainGlobals&&s.heap.isNs builtinsNs&&tablesOk q s.heap&&Xt s&&(if true then s.gens.size==0 else !leftWithCleanup s.gens))
noncomputable def LkD(q:Program)(loose:List Str)(s:Shared):=(pinSeenD q (drecsOf q) s,plainSeenE q (looseW q loose) s,plainSeenD q loose s,wideSeen q s,clsSeenW q loose s)
noncomputable def GdD(q:Program)(loose:List Str):=(pinGoodD (drecsOf q),plainGoodE q (looseW q loose),plainGoodD q loose,wideGood q,clsGoodW q loose)
theorem look3{p q:Program}{loose:List Str}{Xt:Shared->Bool}{α:Type}{Yf:Shared->α}{w:World}{y:α}{s:Shared}(hA:LkA p q w s=GdA q)(hB:(LkB p q loose Xt s,tabsOk q s)=(true,true))(hD:LkD q loose s=GdD q loose)(hC:Yf s=y):Look p q loose Xt Yf w s=(true,openGood q loose,y) :=
 Prod.ext (congrArg (·.1) hA) (Prod.ext (Prod.ext (congrArg (·.2.1) hA) (Prod.ext (congrArg (·.2.2) hA) (Prod.ext (congrArg (·.1) hB) (Prod.ext (congrArg (·.2) hB) hD)))) hC)
theorem left_ofE{Ξ R:Params->Frag}{as:∀P,KA=(Ξ P).map (·.1)}(e:opening p=plainProg p.main.scope.names)(hN:Nat.ble 600 N=true)(f:∀s,fenceModules? p s=some s)(le:Nat.ble M N=true)(run:∀w os,(topT treeTable p w 11 (some (.ref 6)) M (S0 w os) (topStub p)).map (λs=>(s.n,s.gens,Q.map s.tree.get,(KX (Ξ w.params) (R w.params)).map λp=>s.tree.get p.1))=some (n, #[],Q.map (λ_=>some E0),(KX (Ξ w.params) (R w.params)).map λp=>some p.2))(look:∀w f l d k os,Look p q loose Xt (kHook Ξ KA as).obs w (SE (Ξ w.params) (R w.params) Q n f l d k os)=(true,openGood q loose,(kHook Ξ KA as).val w))(hs:∀P:Params,((boot_heap P).isNs mainGlobals,(boot_heap P).nsMap mainGlobals "__annotations__")=(true,some (.ref 6))):LeftO p q loose Xt (kHook Ξ KA as).obs (kHook Ξ KA as).val N :=
 left_of e hN f le (λw os=>by
  obtain⟨r,r1,r2⟩:=UY.mp (run w os);rw[r1];exact congrArg some ((congrArg _ (SE_is r2)).trans (look w _ _ _ _ _))) hs
theorem boot_main(P:Params):((boot_heap P).isNs mainGlobals,(boot_heap P).nsMap mainGlobals "__annotations__")=(true,some (.ref 6)):=by kernel_rfl
end Hd
namespace Hd
open PySem PySem.W PySem.Calls PyProof.Rows
theorem close{H:Hook}(left:LeftO r.prog q loose (λs=>xlAt q lv s&&recOk (RowW.records (OpenRow.toRowW r)) s) H.obs H.val N)(h1:defOf q r.name=some (d,kwd))(h2:r.prog.theDef r.name=some (d.params,d.body,d.scope))(h3:kwWritten? d.params.kwonlyargs d.params.kw_defaults=some kwd)(h4:(!r.writes||r.records.isEmpty)=true)(h5:r.wellSaid=true)(h6:(chainsOk q&&opensWell r.prog&&(frees r.toRowW&&r.within.isEmpty))=true)(h7:r.prog.bare)(hw:r.toRowW.promised)(hc:WalkO q loose (XL q lv) H.says r.toRowW d kwd λf vs=>PySem.call f vs):r.Holds :=
 holds_open left H.of H.keeps (λs z=>xl_of s (R1.mp z).1) XL.keeps h1 h2 h3 (λs z=>recFacts_of (R1.mp z).2) h4 h5 h6 h7 hw hc
end Hd
namespace Mw
open PySem L2
def top(i:Nat):Stmt:=PySem.Challenge.pw_markwords_k31_a_store_begins.main.body.getD i (.Pass ⟨0,0,0,0⟩)
end Mw
theorem PySem.W.Fast.te13284508909471653622:True:=True.intro
def PySem.W.Fast.tw17669408593628902460:PySem.Program:=PySem.Challenge.pw_markwords_k31_a_store_begins
theorem PySem.W.Fast.te17669408593628902460:PySem.Challenge.pw_markwords_k31_a_store_begins=PySem.W.Fast.tw17669408593628902460:=rfl
namespace Mx
open PySem PySem.W PySem.Calls PyProof.Rows L2 Mw
abbrev kC(n q:Str)(t l a:Nat)(x7:Int)(r8:Nat)(b9:Bool)(r11:Nat)(v12 v13 v14:Value)(r15 t16 t18:Nat):Obj:=⟨.type "code", none,(.fields #[.str n t, .str q (t+1), .str "/claim/cut.py" (t+2), .int l 0, .int a 0, .int 0 0, .int 0 0, .int x7 0, .ref r8, .bool b9, .int 181 0, .ref r11,v12,v13,v14, .ref r15, .int t16 0, .int l 0, .str "/claim/cut.py" t18]), #[]⟩
abbrev kF(n q:Str)(s:Stmt)(m:Value)(c:Nat):Obj:=⟨.type "function", none,(.func (W.fnOf n q (zR s) (vz s) (qg s) .none .none .none m none (.ref c) .none)), #[]⟩
abbrev kT(l:List Value):Obj:=⟨.type "tuple", none,(.seq l.toArray 0), #[]⟩
abbrev kD(n q:Str)(t l a:Nat)(x:Int)(r u:Nat):Obj:=kC n q t l a x r true (r+1) .none (.ref (r+2)) (.ref (r+3)) (r+4) u (u+1)
abbrev kd(n:Str):=kD n n
abbrev kn(n:Str)(t l a:Nat)(x:Int)(r u:Nat):Obj:=kC n n t l a x r true (r+1) .none .none .none (r+2) u (u+1)
abbrev kx:List Value:=[.type "ValueError", .type "Exception", .type "BaseException", .type "object"]
abbrev kK(n:Str)(b m:List Value)(s:Nat)(l:List Value)(c:Option Value)(t u:Nat)(w:String):Obj:=⟨.type "type", none,(.cls { name:=n,bases:=b,mro:=m,ns:=s,qualname:=n,hasDict:=true,slotNames:=[],subclasses:=l,abstract:=false,collection:=none,hasDel:=false }), #[c,none,some (.str n t),some (.str n u),some (.builtin w),some (.bool true)]⟩
abbrev kE(l:List DictEntry)(n:Nat):Obj:=⟨.type "dict", none,(.dict l.toArray n), #[]⟩
abbrev kf(n:Str):=kF n n
abbrev y0:Value:=.str "__main__" 164
abbrev y1:Value:=.str "markwords.errors" 194
abbrev y2:Value:=.str "markwords.layings" 271
abbrev y3:Value:=.str "markwords.limbs" 302
abbrev y4:Value:=.str "markwords.needs" 358
abbrev y5:Value:=.str "markwords.words" 388
abbrev y6:Value:=.str "markwords.things" 459
abbrev y7:Value:=.str "markwords.sweeping" 488
abbrev y8:Value:=.str "markwords.store" 535
abbrev y9:Value:=.str "law_markwords_k31_a_store_begins" 858
abbrev oE(P:Params)(n:Str)(t:Nat)(v:Value):DictEntry:=⟨PyData.keyHash P n, .str n t,v⟩
abbrev o(P:Params)(n:Str)(t a:Nat):=oE P n t (.ref a)
noncomputable def K:Params->Frag:=λP =>
(nat_lit 2,⟨.none,none,(.dict #[] 0), #[]⟩) ::
(nat_lit 3,kE [oE P "__name__" 165 (.str "law_markwords_k31_a_store_begins" 858),oE P "__doc__" 166 (.none),oE P "__package__" 167 (.none),oE P "__loader__" 168 (.builtin "__main__.__loader__#opaque"),oE P "__spec__" 169 (.none),o P "__annotations__" 170 6,o P "__builtins__" 171 4,oE P "__file__" 173 (.str "/claim/cut.py" 172),oE P "__cached__" 174 (.none),o P "_wall" 193 21,o P "WordError" 213 31,o P "WrongKind" 238 51,o P "Nought" 254 63,o P "NoRoom" 270 75,o P "kinds_on" 278 82,o P "mark_of" 287 89,o P "mark_for" 293 94,o P "load_bits" 301 101,oE P "PAIR_HEAD" 305 (.int (1) 304),oE P "PAIR_SIZE" 307 (.int (3) 306),o P "limb_count" 316 108,o P "rows_of" 329 115,o P "size_at" 338 122,o P "number_at" 349 129,o P "is_great" 357 136,o P "need_numbers" 368 143,o P "need_divisor" 377 150,o P "need_pair" 385 157,oE P "REGISTERS" 387 (.int (8) 386),o P "THREE" 393 158,oE P "SIGNS" 395 (.int (128) 394),o P "load_of" 404 165,o P "marked" 414 172,o P "small_of" 422 179,o P "worth_of" 432 186,o P "word_of" 440 193,o P "is_small" 449 200,o P "address_of" 458 207,o P "heads_in" 469 214,o P "pair_words_at" 477 221,o P "read_worth" 487 228,o P "reached_from" 501 235,o P "new_places" 512 242,o P "moved_word" 522 249,o P "moved_thing" 528 254,o P "swept" 534 259,o P "KINDS_BY_MARK" 552 260,o P "own_laying" 559 267,o P "most_outside" 567 274,o P "Store" 846 480,o P "store_of" 857 491,o P "_law_bag" 865 496,o P "_law_draw" 874 503,o P "_law_full_laying" 880 508,o P "_law_laying" 886 513,o P "_law_number" 897 520,o P "_law_mark" 903 525,o P "_law_load" 911 532,o P "_law_is_small" 920 539,o P "_law_alike" 928 546,o P "_law_seen" 936 553,o P "_law_begun" 947 560,o P "_law_lists_own" 960 567,o P "_law_some_deeds" 969 574,o P "law" 989 581] 65) ::
(nat_lit 20,kd "_wall" 187 1 1 3 15 191) ::
(nat_lit 21,kf "_wall" (top 0) y0 20) ::
(nat_lit 22,kT [.type "ValueError"]) ::
(nat_lit 29,kT []) ::
(nat_lit 30,kE [oE P "__module__" 203 (.str "markwords.errors" 194),oE P "__firstlineno__" 207 (.int (5) 206),o P "__static_attributes__" 208 29,o P "__weakref__" 210 32,oE P "__doc__" 211 (.none)] 3) ::
(nat_lit 31,kK "WordError" [.type "ValueError"] (.ref 31::kx) 30 [.ref 51, .ref 63, .ref 75] (some (.ref 22)) 196 204 "ValueError.__new__") ::
(nat_lit 32,⟨.type "getset_descriptor", none,(.fields #[.str "__weakref__" 209, .ref 31, .builtin "ExceptionGroup.__weakref__", .none]), #[]⟩) ::
(nat_lit 35,kT [.ref 31]) ::
(nat_lit 47,kD "__init__" "WrongKind.__init__" 226 9 2 3 42 231) ::
(nat_lit 48,kF "__init__" "WrongKind.__init__" (qr (top 3) 0) y1 47) ::
(nat_lit 49,kT [.str "part" 234]) ::
(nat_lit 50,kE [oE P "__module__" 221 (.str "markwords.errors" 194),oE P "__firstlineno__" 225 (.int (7) 224),o P "__init__" 233 48,o P "__static_attributes__" 235 49,oE P "__doc__" 236 (.none)] 2) ::
(nat_lit 51,kK "WrongKind" [.ref 31] (.ref 51 :: .ref 31::kx) 50 [] (some (.ref 35)) 214 222 "ValueError.__new__") ::
(nat_lit 54,kT [.ref 31]) ::
(nat_lit 61,kT []) ::
(nat_lit 62,kE [oE P "__module__" 246 (.str "markwords.errors" 194),oE P "__firstlineno__" 250 (.int (12) 249),o P "__static_attributes__" 251 61,oE P "__doc__" 252 (.none)] 2) ::
(nat_lit 63,kK "Nought" [.ref 31] (.ref 63 :: .ref 31::kx) 62 [] (some (.ref 54)) 239 247 "ValueError.__new__") ::
(nat_lit 66,kT [.ref 31]) ::
(nat_lit 73,kT []) ::
(nat_lit 74,kE [oE P "__module__" 262 (.str "markwords.errors" 194),oE P "__firstlineno__" 266 (.int (14) 265),o P "__static_attributes__" 267 73,oE P "__doc__" 268 (.none)] 2) ::
(nat_lit 75,kK "NoRoom" [.ref 31] (.ref 75 :: .ref 31::kx) 74 [] (some (.ref 66)) 255 263 "ValueError.__new__") ::
(nat_lit 81,kn "kinds_on" 273 17 2 3 78 276) ::
(nat_lit 82,kf "kinds_on" (top 7) y2 81) ::
(nat_lit 88,kd "mark_of" 279 19 2 3 83 285) ::
(nat_lit 89,kf "mark_of" (top 8) y2 88) ::
(nat_lit 93,kn "mark_for" 288 22 2 3 90 291) ::
(nat_lit 94,kf "mark_for" (top 9) y2 93) ::
(nat_lit 100,kd "load_bits" 294 24 2 3 95 299) ::
(nat_lit 101,kf "load_bits" (top 10) y2 100) ::
(nat_lit 107,kd "limb_count" 308 29 2 3 102 314) ::
(nat_lit 108,kf "limb_count" (top 14) y3 107) ::
(nat_lit 114,kd "rows_of" 317 32 2 3 109 327) ::
(nat_lit 115,kf "rows_of" (top 15) y3 114) ::
(nat_lit 121,kd "size_at" 330 41 2 3 116 336) ::
(nat_lit 122,kf "size_at" (top 16) y3 121) ::
(nat_lit 128,kd "number_at" 339 44 3 3 123 347) ::
(nat_lit 129,kf "number_at" (top 17) y3 128) ::
(nat_lit 135,kd "is_great" 350 49 2 3 130 355) ::
(nat_lit 136,kf "is_great" (top 18) y3 135) ::
(nat_lit 142,kd "need_numbers" 360 52 3 3 137 366) ::
(nat_lit 143,kf "need_numbers" (top 20) y4 142) ::
(nat_lit 149,kd "need_divisor" 369 57 3 3 144 375) ::
(nat_lit 150,kf "need_divisor" (top 21) y4 149) ::
(nat_lit 156,kd "need_pair" 378 61 2 3 151 383) ::
(nat_lit 157,kf "need_pair" (top 22) y4 156) ::
(nat_lit 158,kT [.str "none" 390, .str "no" 391, .str "yes" 392]) ::
(nat_lit 164,kd "load_of" 396 68 3 3 159 402) ::
(nat_lit 165,kf "load_of" (top 27) y5 164) ::
(nat_lit 171,kd "marked" 405 70 3 3 166 412) ::
(nat_lit 172,kf "marked" (top 28) y5 171) ::
(nat_lit 178,kd "small_of" 415 73 2 3 173 420) ::
(nat_lit 179,kf "small_of" (top 29) y5 178) ::
(nat_lit 185,kd "worth_of" 423 75 2 3 180 430) ::
(nat_lit 186,kf "worth_of" (top 30) y5 185) ::
(nat_lit 192,kd "word_of" 433 87 2 3 187 438) ::
(nat_lit 193,kf "word_of" (top 31) y5 192) ::
(nat_lit 199,kd "is_small" 441 93 2 3 194 447) ::
(nat_lit 200,kf "is_small" (top 32) y5 199) ::
(nat_lit 206,kd "address_of" 450 96 2 3 201 456) ::
(nat_lit 207,kf "address_of" (top 33) y5 206) ::
(nat_lit 213,kd "heads_in" 461 100 1 3 208 467) ::
(nat_lit 214,kf "heads_in" (top 35) y6 213) ::
(nat_lit 220,kd "pair_words_at" 470 107 2 3 215 475) ::
(nat_lit 221,kf "pair_words_at" (top 36) y6 220) ::
(nat_lit 227,kd "read_worth" 478 109 3 3 222 485) ::
(nat_lit 228,kf "read_worth" (top 37) y6 227) ::
(nat_lit 234,kd "reached_from" 490 115 3 3 229 499) ::
(nat_lit 235,kf "reached_from" (top 39) y7 234) ::
(nat_lit 241,kd "new_places" 502 124 2 3 236 510) ::
(nat_lit 242,kf "new_places" (top 40) y7 241) ::
(nat_lit 248,kd "moved_word" 513 132 3 3 243 520) ::
(nat_lit 249,kf "moved_word" (top 41) y7 248) ::
(nat_lit 253,kn "moved_thing" 523 137 4 3 250 526) ::
(nat_lit 254,kf "moved_thing" (top 42) y7 253) ::
(nat_lit 258,kn "swept" 529 141 3 3 255 532) ::
(nat_lit 259,kf "swept" (top 43) y7 258) ::
(nat_lit 260,kE [oE P "small" 537 (.str "number" 538),oE P "far" 539 (.str "number" 540),oE P "pair" 541 (.str "pair" 542),oE P "sign" 543 (.str "sign" 544),oE P "one" 545 (.str "one" 546)] 5) ::
(nat_lit 266,kd "own_laying" 553 149 1 3 261 557) ::
(nat_lit 267,kf "own_laying" (top 46) y8 266) ::
(nat_lit 273,kd "most_outside" 560 151 2 3 268 565) ::
(nat_lit 274,kf "most_outside" (top 47) y8 273) ::
(nat_lit 287,kD "__init__" "Store.__init__" 580 155 3 3 282 586) ::
(nat_lit 288,kF "__init__" "Store.__init__" (qr (top 48) 0) y8 287) ::
(nat_lit 294,kD "words" "Store.words" 589 164 1 3 289 593) ::
(nat_lit 295,kF "words" "Store.words" (qr (top 48) 1) y8 294) ::
(nat_lit 301,kD "outside" "Store.outside" 596 167 1 3 296 600) ::
(nat_lit 302,kF "outside" "Store.outside" (qr (top 48) 2) y8 301) ::
(nat_lit 308,kD "sweep" "Store.sweep" 603 170 1 3 303 608) ::
(nat_lit 309,kF "sweep" "Store.sweep" (qr (top 48) 3) y8 308) ::
(nat_lit 315,kD "lacks" "Store.lacks" 611 176 2 3 310 616) ::
(nat_lit 316,kF "lacks" "Store.lacks" (qr (top 48) 4) y8 315) ::
(nat_lit 322,kD "make_room" "Store.make_room" 619 179 2 3 317 624) ::
(nat_lit 323,kF "make_room" "Store.make_room" (qr (top 48) 5) y8 322) ::
(nat_lit 329,kD "lay" "Store.lay" 627 185 4 3 324 634) ::
(nat_lit 330,kF "lay" "Store.lay" (qr (top 48) 6) y8 329) ::
(nat_lit 336,kD "number" "Store.number" 637 189 3 3 331 644) ::
(nat_lit 337,kF "number" "Store.number" (qr (top 48) 7) y8 336) ::
(nat_lit 343,kD "sign" "Store.sign" 647 199 3 3 338 653) ::
(nat_lit 344,kF "sign" "Store.sign" (qr (top 48) 8) y8 343) ::
(nat_lit 350,kD "one" "Store.one" 656 202 3 3 345 662) ::
(nat_lit 351,kF "one" "Store.one" (qr (top 48) 9) y8 350) ::
(nat_lit 357,kD "copy" "Store.copy" 665 205 3 3 352 671) ::
(nat_lit 358,kF "copy" "Store.copy" (qr (top 48) 10) y8 357) ::
(nat_lit 364,kD "in_word" "Store.in_word" 674 208 2 3 359 679) ::
(nat_lit 365,kF "in_word" "Store.in_word" (qr (top 48) 11) y8 364) ::
(nat_lit 371,kD "come_of_two" "Store.come_of_two" 682 211 5 3 366 691) ::
(nat_lit 372,kF "come_of_two" "Store.come_of_two" (qr (top 48) 12) y8 371) ::
(nat_lit 378,kD "plus" "Store.plus" 694 219 4 3 373 701) ::
(nat_lit 379,kF "plus" "Store.plus" (qr (top 48) 13) y8 378) ::
(nat_lit 385,kD "less" "Store.less" 704 223 4 3 380 711) ::
(nat_lit 386,kF "less" "Store.less" (qr (top 48) 14) y8 385) ::
(nat_lit 392,kD "times" "Store.times" 714 227 4 3 387 721) ::
(nat_lit 393,kF "times" "Store.times" (qr (top 48) 15) y8 392) ::
(nat_lit 399,kD "over" "Store.over" 724 231 4 3 394 731) ::
(nat_lit 400,kF "over" "Store.over" (qr (top 48) 16) y8 399) ::
(nat_lit 406,kD "rest" "Store.rest" 734 235 4 3 401 741) ::
(nat_lit 407,kF "rest" "Store.rest" (qr (top 48) 17) y8 406) ::
(nat_lit 413,kD "pair" "Store.pair" 744 239 4 3 408 751) ::
(nat_lit 414,kF "pair" "Store.pair" (qr (top 48) 18) y8 413) ::
(nat_lit 420,kD "pair_in" "Store.pair_in" 754 243 2 3 415 759) ::
(nat_lit 421,kF "pair_in" "Store.pair_in" (qr (top 48) 19) y8 420) ::
(nat_lit 427,kD "first" "Store.first" 762 247 3 3 422 768) ::
(nat_lit 428,kF "first" "Store.first" (qr (top 48) 20) y8 427) ::
(nat_lit 434,kD "second" "Store.second" 771 250 3 3 429 777) ::
(nat_lit 435,kF "second" "Store.second" (qr (top 48) 21) y8 434) ::
(nat_lit 441,kD "set_first" "Store.set_first" 780 253 3 3 436 786) ::
(nat_lit 442,kF "set_first" "Store.set_first" (qr (top 48) 22) y8 441) ::
(nat_lit 448,kD "set_second" "Store.set_second" 789 256 3 3 443 795) ::
(nat_lit 449,kF "set_second" "Store.set_second" (qr (top 48) 23) y8 448) ::
(nat_lit 455,kD "below" "Store.below" 798 259 3 3 450 804) ::
(nat_lit 456,kF "below" "Store.below" (qr (top 48) 24) y8 455) ::
(nat_lit 462,kD "same" "Store.same" 807 262 3 3 457 813) ::
(nat_lit 463,kF "same" "Store.same" (qr (top 48) 25) y8 462) ::
(nat_lit 469,kD "kind" "Store.kind" 816 265 2 3 464 821) ::
(nat_lit 470,kF "kind" "Store.kind" (qr (top 48) 26) y8 469) ::
(nat_lit 476,kD "told" "Store.told" 824 268 2 3 471 829) ::
(nat_lit 477,kF "told" "Store.told" (qr (top 48) 27) y8 476) ::
(nat_lit 478,kT [.str "held" 832, .str "kept" 833, .str "laying" 834, .str "quick" 835, .str "room" 836, .str "slow" 837, .str "sweeps" 838]) ::
(nat_lit 479,kE [oE P "__module__" 575 (.str "markwords.store" 535),oE P "__firstlineno__" 579 (.int (153) 578),o P "__init__" 588 288,o P "words" 595 295,o P "outside" 602 302,o P "sweep" 610 309,o P "lacks" 618 316,o P "make_room" 626 323,o P "lay" 636 330,o P "number" 646 337,o P "sign" 655 344,o P "one" 664 351,o P "copy" 673 358,o P "in_word" 681 365,o P "come_of_two" 693 372,o P "plus" 703 379,o P "less" 713 386,o P "times" 723 393,o P "over" 733 400,o P "rest" 743 407,o P "pair" 753 414,o P "pair_in" 761 421,o P "first" 770 428,o P "second" 779 435,o P "set_first" 788 442,o P "set_second" 797 449,o P "below" 806 456,o P "same" 815 463,o P "kind" 823 470,o P "told" 831 477,o P "__static_attributes__" 839 478,o P "__dict__" 841 481,o P "__weakref__" 843 482,oE P "__doc__" 844 (.none)] 4) ::
(nat_lit 480,kK "Store" [.type "object"] [.ref 480, .type "object"] 479 [] none 568 576 "object.__new__") ::
(nat_lit 481,⟨.type "getset_descriptor", none,(.fields #[.str "__dict__" 840, .ref 480, .builtin "function.__dict__", .builtin "function.__dict__#set"]), #[]⟩) ::
(nat_lit 482,⟨.type "getset_descriptor", none,(.fields #[.str "__weakref__" 842, .ref 480, .builtin "ExceptionGroup.__weakref__", .none]), #[]⟩) ::
(nat_lit 490,kd "store_of" 847 272 4 3 485 855) ::
(nat_lit 491,kf "store_of" (top 49) y8 490) ::
(nat_lit 495,kn "_law_bag" 860 278 1 3 492 863) ::
(nat_lit 496,kf "_law_bag" (top 51) y9 495) ::
(nat_lit 502,kd "_law_draw" 866 283 2 3 497 872) ::
(nat_lit 503,kf "_law_draw" (top 52) y9 502) ::
(nat_lit 507,kn "_law_full_laying" 875 294 3 3 504 878) ::
(nat_lit 508,kf "_law_full_laying" (top 53) y9 507) ::
(nat_lit 512,kn "_law_laying" 881 302 1 3 509 884) ::
(nat_lit 513,kf "_law_laying" (top 54) y9 512) ::
(nat_lit 524,kn "_law_mark" 898 335 2 3 521 901) ::
(nat_lit 525,kf "_law_mark" (top 56) y9 524) ::
(nat_lit 545,kd "_law_alike" 921 342 2 3 540 926) ::
(nat_lit 546,kf "_law_alike" (top 59) y9 545) ::
(nat_lit 552,kd "_law_seen" 929 344 1 3 547 934) ::
(nat_lit 553,kf "_law_seen" (top 60) y9 552) ::
(nat_lit 559,kd "_law_begun" 937 347 2 3 554 945) ::
(nat_lit 560,kf "_law_begun" (top 61) y9 559) ::
(nat_lit 566,kd "_law_lists_own" 948 350 1 3 561 958) ::
(nat_lit 567,kf "_law_lists_own" (top 62) y9 566) ::
(nat_lit 573,kd "_law_some_deeds" 961 361 2 3 568 967) ::
(nat_lit 574,kf "_law_some_deeds" (top 63) y9 573) ::
(nat_lit 580,kd "law" 970 372 1 3 575 987) ::
(nat_lit 581,kf "law" (top 64) y9 580) ::
[]
def KA:List Addr:=[2,3,20,21,22,29,30,31,32,35,47,48,49,50,51,54,61,62,63,66,73,74,75,81,82,88,89,93,94,100,101,107,108,114,115,121,122,128,129,135,136,142,143,149,150,156,157,158,164,165,171,172,178,179,185,186,192,193,199,200,206,207,213,214,220,221,227,228,234,235,241,242,248,249,253,254,258,259,260,266,267,273,274,287,288,294,295,301,302,308,309,315,316,322,323,329,330,336,337,343,344,350,351,357,358,364,365,371,372,378,379,385,386,392,393,399,400,406,407,413,414,420,421,427,428,434,435,441,442,448,449,455,456,462,463,469,470,476,477,478,479,480,481,482,490,491,495,496,502,503,507,508,512,513,524,525,545,546,552,553,559,560,566,567,573,574,580,581]
theorem K_as:∀P,KA=(K P).map (·.1):=λ_=>by kernel_rfl
noncomputable def KR(P:Params):Frag:=Hd.BR P++[(nat_lit 519,kd "_law_number" 887 324 2 3 514 895),(nat_lit 520,kf "_law_number" (top 55) y9 519),(nat_lit 531,kd "_law_load" 904 337 2 3 526 909),(nat_lit 532,kf "_law_load" (top 57) y9 531),(nat_lit 538,kd "_law_is_small" 912 339 2 3 533 918),(nat_lit 539,kf "_law_is_small" (top 58) y9 538)]
def Q:List Nat:=[16,43,79,84,91,96,103,110,117,124,131,138,145,152,160,167,174,181,188,195,202,209,216,223,230,237,244,251,256,262,269,283,290,297,304,311,318,325,332,339,346,353,360,367,374,381,388,395,402,409,416,423,430,437,444,451,458,465,472,486,493,498,505,510,515,522,527,534,541,548,555,562,569,576]
noncomputable def vw:Program:=W.view PySem.Challenge.pw_markwords_k31_a_store_begins [0,2,3,4,5,7,8,9,10,12,13,14,15,16,17,18,20,21,22,23,25,26,27,28,29,30,31,32,33,35,36,37,39,40,41,42,43,45,46,47,48,49,51,52,53,54,55,56,57,58,59,60,61,62,63,64]
def ls:List Str:=["KINDS_BY_MARK"]
def lv:List (Str×WData):=[]
noncomputable def Xt(s:Shared):Bool:=xlAt vw lv s&&recOk (RowW.records (OpenRow.toRowW (OpenLaw.row PySem.Challenge.rw_markwords_k31_a_store_begins))) s
noncomputable def Lf(w:World)(os:OsState):=(Hd.topT treeTable PySem.Challenge.pw_markwords_k31_a_store_begins w 11 (some (.ref 6)) 7264 (Hd.S0 w os) (topStub PySem.Challenge.pw_markwords_k31_a_store_begins)).map (λs=>(s.n,s.gens,Q.map s.tree.get,(Hd.KX (K w.params) (KR w.params)).map λp=>s.tree.get p.1))
noncomputable def Rt(w:World)(_:OsState):Option (Nat×Array GenState×List (Option Obj)×List (Option Obj)):=some (582, #[],Q.map (λ_=>some Hd.E0),(Hd.KX (K w.params) (KR w.params)).map λp=>some p.2)
theorem Lf_is:Lf=Lf:=rfl
theorem Rt_is:Rt=Rt:=rfl
name_quick MwLq for Lf by Lf_is
name_quick MwRq for Rt by Rt_is
theorem run0(w:World):Lf (World.withFollow w "special-get-raises" false)=Rt (World.withFollow w "special-get-raises" false) :=
 (congrFun PySem.W.Fast.MwLq_eq (World.withFollow w "special-get-raises" false)).trans (Eq.trans (by kernel_rfl:PySem.W.Fast.MwLq (World.withFollow w "special-get-raises" false)=PySem.W.Fast.MwRq (World.withFollow w "special-get-raises" false)) (congrFun PySem.W.Fast.MwRq_eq (World.withFollow w "special-get-raises" false)).symm)
theorem run1(w:World):Lf (World.withFollow w "special-get-raises" true)=Rt (World.withFollow w "special-get-raises" true) :=
 (congrFun PySem.W.Fast.MwLq_eq (World.withFollow w "special-get-raises" true)).trans (Eq.trans (by kernel_rfl:PySem.W.Fast.MwLq (World.withFollow w "special-get-raises" true)=PySem.W.Fast.MwRq (World.withFollow w "special-get-raises" true)) (congrFun PySem.W.Fast.MwRq_eq (World.withFollow w "special-get-raises" true)).symm)
theorem run(w:World):Lf w=Rt w:=byRow2 "special-get-raises" (P:=λw=>Lf w=Rt w) run0 run1 w
theorem L_eq(w:World)(os:OsState):Lf w os=(Hd.topT treeTable PySem.Challenge.pw_markwords_k31_a_store_begins w 11 (some (.ref 6)) 7264 (Hd.S0 w os) (topStub PySem.Challenge.pw_markwords_k31_a_store_begins)).map (λs=>(s.n,s.gens,Q.map s.tree.get,(Hd.KX (K w.params) (KR w.params)).map λp=>s.tree.get p.1)):=by delta Lf; exact Eq.refl _
theorem R_eq(w:World)(os:OsState):Rt w os=some (582, #[],Q.map (λ_=>some Hd.E0),(Hd.KX (K w.params) (KR w.params)).map λp=>some p.2):=by delta Rt; exact Eq.refl _
noncomputable def LfA(w:World)(f:Nat->Obj)(l:Life)(d:Drawn)(k:Nat)(os:OsState):=Hd.LkA PySem.Challenge.pw_markwords_k31_a_store_begins vw w (Hd.SE (K w.params) (KR w.params) Q 582 f l d k os)
noncomputable def RtA(w:World)(f:Nat->Obj)(l:Life)(d:Drawn)(k:Nat)(os:OsState):=Hd.GdA vw
theorem LfA_is:LfA=LfA:=rfl
name_quick MwLAq for LfA by LfA_is
theorem RtA_is:RtA=RtA:=rfl
name_quick MwRAq for RtA by RtA_is
theorem lookA(w:World):LfA (w)=RtA (w) :=
 (congrFun PySem.W.Fast.MwLAq_eq (w)).trans (Eq.trans (by kernel_rfl:PySem.W.Fast.MwLAq (w)=PySem.W.Fast.MwRAq (w)) (congrFun PySem.W.Fast.MwRAq_eq (w)).symm)
theorem HA_eq(w:World)(f:Nat->Obj)(l:Life)(d:Drawn)(k:Nat)(os:OsState):Hd.LkA PySem.Challenge.pw_markwords_k31_a_store_begins vw w (Hd.SE (K w.params) (KR w.params) Q 582 f l d k os)=Hd.GdA vw:=Eq.trans (by delta LfA; exact Eq.refl _:_=LfA w f l d k os) ((congrFun (congrFun (congrFun (congrFun (congrFun (lookA w) f) l) d) k) os).trans (by delta RtA; exact Eq.refl _))
noncomputable def LfB(w:World)(f:Nat->Obj)(l:Life)(d:Drawn)(k:Nat)(os:OsState):=(λs=>(Hd.LkB PySem.Challenge.pw_markwords_k31_a_store_begins vw ls Xt s,tabsOk vw s)) (Hd.SE (K w.params) (KR w.params) Q 582 f l d k os)
noncomputable def RtB(w:World)(f:Nat->Obj)(l:Life)(d:Drawn)(k:Nat)(os:OsState):=(true,true)
theorem LfB_is:LfB=LfB:=rfl
name_quick MwLBq for LfB by LfB_is
theorem lookB(w:World):LfB w=RtB w:=(congrFun PySem.W.Fast.MwLBq_eq w).trans (by kernel_rfl)
theorem HB_eq(w:World)(f:Nat->Obj)(l:Life)(d:Drawn)(k:Nat)(os:OsState):(λs=>(Hd.LkB PySem.Challenge.pw_markwords_k31_a_store_begins vw ls Xt s,tabsOk vw s)) (Hd.SE (K w.params) (KR w.params) Q 582 f l d k os)=(true,true):=Eq.trans (by delta LfB; exact Eq.refl _:_=LfB w f l d k os) ((congrFun (congrFun (congrFun (congrFun (congrFun (lookB w) f) l) d) k) os).trans (by delta RtB; exact Eq.refl _))
noncomputable def LfD(w:World)(f:Nat->Obj)(l:Life)(d:Drawn)(k:Nat)(os:OsState):=Hd.LkD vw ls (Hd.SE (K w.params) (KR w.params) Q 582 f l d k os)
noncomputable def RtD(w:World)(f:Nat->Obj)(l:Life)(d:Drawn)(k:Nat)(os:OsState):=Hd.GdD vw ls
theorem LfD_is:LfD=LfD:=rfl
name_quick MwLDq for LfD by LfD_is
theorem RtD_is:RtD=RtD:=rfl
name_quick MwRDq for RtD by RtD_is
theorem lookD(w:World):LfD (w)=RtD (w) :=
 (congrFun PySem.W.Fast.MwLDq_eq (w)).trans (Eq.trans (by kernel_rfl:PySem.W.Fast.MwLDq (w)=PySem.W.Fast.MwRDq (w)) (congrFun PySem.W.Fast.MwRDq_eq (w)).symm)
theorem HD_eq(w:World)(f:Nat->Obj)(l:Life)(d:Drawn)(k:Nat)(os:OsState):Hd.LkD vw ls (Hd.SE (K w.params) (KR w.params) Q 582 f l d k os)=Hd.GdD vw ls:=Eq.trans (by delta LfD; exact Eq.refl _:_=LfD w f l d k os) ((congrFun (congrFun (congrFun (congrFun (congrFun (lookD w) f) l) d) k) os).trans (by delta RtD; exact Eq.refl _))
noncomputable def LfC(w:World)(f:Nat->Obj)(l:Life)(d:Drawn)(k:Nat)(os:OsState):=(kHook K KA K_as).obs (Hd.SE (K w.params) (KR w.params) Q 582 f l d k os)
noncomputable def RtC(w:World)(f:Nat->Obj)(l:Life)(d:Drawn)(k:Nat)(os:OsState):=(kHook K KA K_as).val w
theorem LfC_is:LfC=LfC:=rfl
name_quick MwLCq for LfC by LfC_is
theorem RtC_is:RtC=RtC:=rfl
name_quick MwRCq for RtC by RtC_is
theorem lookC(w:World):LfC (w)=RtC (w) :=
 (congrFun PySem.W.Fast.MwLCq_eq (w)).trans (Eq.trans (by kernel_rfl:PySem.W.Fast.MwLCq (w)=PySem.W.Fast.MwRCq (w)) (congrFun PySem.W.Fast.MwRCq_eq (w)).symm)
theorem HC_eq(w:World)(f:Nat->Obj)(l:Life)(d:Drawn)(k:Nat)(os:OsState):(kHook K KA K_as).obs (Hd.SE (K w.params) (KR w.params) Q 582 f l d k os)=(kHook K KA K_as).val w:=Eq.trans (by delta LfC; exact Eq.refl _:_=LfC w f l d k os) ((congrFun (congrFun (congrFun (congrFun (congrFun (lookC w) f) l) d) k) os).trans (by delta RtC; exact Eq.refl _))
theorem hLf9:LeftO PySem.Challenge.pw_markwords_k31_a_store_begins vw ls Xt (kHook K KA K_as).obs (kHook K KA K_as).val 7264 :=
 Hd.left_ofE (R:=KR) (Q:=Q) (M:=7264) (n:=582) (by kernel_rfl) (by decide) (λ_=>by kernel_rfl) (by decide) (λw os=>(L_eq w os).symm.trans ((congrFun (run w) os).trans (R_eq w os))) (λw f l d k os=>Hd.look3 (HA_eq w f l d k os) (HB_eq w f l d k os) (HD_eq w f l d k os) (HC_eq w f l d k os)) Hd.boot_main
end Mx
namespace L2
open PySem PySem.Spec PyProof.Rows
section
theorem Jv(h:Q 4238894112 { s with toks:=s.toks+1 }):wpAny (model prog w) A (pyHash .none) Q E s:=by
 unfold pyHash;have hv:[Value.none].any Value.onHeap=false:=rfl;refine wpAny_bind ?_;rw[cRoomFor,if_neg (by rw[hv]; exact Ut)];refine wpAny_pure ?_;refine wpAny_bind (wpAny_specialOf (typeIs_none s) F.slot_NoneType_hash.lookup ?_);show wpAny _ _ (if(some (Value.builtin "NoneType.__hash__")==some Value.none)=true then _ else _) Q E s;rw[if_neg (by rw[beq_builtin_none]; exact Ut)];refine wpAny_bind (wpAny_specialOf (typeIs_none s) F.slot_NoneType_hash.lookup ?_);show wpAny _ _ (callSpecialIfBoundUnlessNone? .none "__hash__" _ >>= _) Q E s;refine wpAny_bind (wpAny_callSpecialIfBoundUnlessNone?_slot (typeIs_none s) F.slot_NoneType_hash
  (wpAny_call_entry F.slot_NoneType_hash (typeIs_none s) F.entry_NoneType_hash
   (show wpAny _ _ (do ret (<-mkInt 4238894112)) _ _ s from wpAny_ret_mkInt ?_) (F.args_NoneType_hash_1 _)))
 show wpAny _ _ (if(decide (-(2:Int)^63<=4238894112)&&decide ((4238894112:Int)<2^63))=true then _ else _) Q E _;rw[if_pos (by decide)];exact wpAny_pure h
end
inductive Key where
 |inl (i:Int)|inr (x:Str)|non
 deriving DecidableEq
def JF:Key->Value->Bool
 |.inl k,v=>Value.isInt k v
 |.inr x,v=>Value.isStrOf x v
 |.non, .none=>true
 |.non,_=>false
def keyH(w:World):Key->Int
 |.inl k=>hashInt k
 |.inr x=>hashStr w x
 |.non=>4238894112
theorem qU:∀{k:Key}{v:Value},JF k v=true->(∃i t,k=Key.inl i/\v=Value.int i t)\/(∃x t,k=Key.inr x/\v=Value.str x t)\/(k=Key.non/\v=Value.none)
 |.inl i,v,h=>by
  obtain⟨t,e⟩:=Value.isInt_shape (k:=i) (v:=v) h;exact .inl ⟨i,t,rfl,e⟩
 |.inr x,v,h=>by
  obtain⟨t,e⟩:=Value.isStrOf_shape (x:=x) (v:=v) h;exact .inr (.inl ⟨x,t,rfl,e⟩)
 |.non,v,h=>by
  cases v<;>first|exact .inr (.inr ⟨rfl,rfl⟩)|exact absurd h (by simp[JF])
theorem GV(i:Int)(t:Tok):JF (.inl i) (.int i t)=true:=by simp[JF,Value.isInt]
theorem GU(x:Str)(t:Tok):JF (.inr x) (.str x t)=true:=by simp[JF,Value.isStrOf]
theorem key_ll(a b:Int):decide ((Key.inl a:Key)=Key.inl b)=(a==b):=by
 by_cases e:a=b
 ·subst e; simp
 ·have h:¬(Key.inl a:Key)=Key.inl b:=λq=>e (Key.inl.inj q)
  rw[decide_eq_false h];exact(beq_eq_false_iff_ne.mpr e).symm
theorem key_rr(a b:Str):decide ((Key.inr a:Key)=Key.inr b)=decide (a=b):=by
 by_cases e:a=b
 ·subst e; simp
 ·have h:¬(Key.inr a:Key)=Key.inr b:=λq=>e (Key.inr.inj q)
  rw[decide_eq_false h,decide_eq_false e]
theorem key_lr(a:Int)(b:Str):decide ((Key.inl a:Key)=Key.inr b)=false:=decide_eq_false (λq=>nomatch q)
theorem key_rl(a:Str)(b:Int):decide ((Key.inr a:Key)=Key.inl b)=false:=decide_eq_false (λq=>nomatch q)
def vm(prog:Program)(w:World):PySem.KeyKind prog w Key where
 is:=JF
 hash:=keyH w
 inj:=λv a b ha hb=>by
  rcases qU ha with⟨i,t,rfl,rfl⟩|⟨x,t,rfl,rfl⟩|⟨rfl,rfl⟩
  ·rcases qU hb with⟨j,u,rfl,e⟩|⟨y,u,rfl,e⟩|⟨rfl,e⟩
   ·injection e with e1 _; rw[e1]
   ·exact nomatch e
   ·exact nomatch e
  ·rcases qU hb with⟨j,u,rfl,e⟩|⟨y,u,rfl,e⟩|⟨rfl,e⟩
   ·exact nomatch e
   ·injection e with e1 _; rw[e1]
   ·exact nomatch e
  ·rcases qU hb with⟨j,u,rfl,e⟩|⟨y,u,rfl,e⟩|⟨rfl,e⟩
   ·exact nomatch e
   ·exact nomatch e
   ·rfl
 byValue:=λk v h=>by
  rcases qU h with⟨i,t,rfl,rfl⟩|⟨x,t,rfl,rfl⟩|⟨rfl,rfl⟩<;>rfl
 pyHash:=λhv h=>by
  rcases qU hv with⟨i,t,rfl,rfl⟩|⟨x,t,rfl,rfl⟩|⟨rfl,rfl⟩
  ·exact wpAny_pyHash_int h
  ·exact wpAny_pyHash_str h
  ·exact Jv h
 eqBool:=λhu hv h=>by
  rcases qU hu with⟨i,t,rfl,rfl⟩|⟨x,t,rfl,rfl⟩|⟨rfl,rfl⟩
  ·rcases qU hv with⟨j,u,rfl,rfl⟩|⟨y,u,rfl,rfl⟩|⟨rfl,rfl⟩
   ·rw[key_ll] at h; exact wpAny_eqBool_int h
   ·rw[key_lr] at h; exact SeqAt.EqAt.int_str i t y u _ _ _ _ h
   ·exact SeqAt.EqAt.int_none i t _ _ _ _ h
  ·rcases qU hv with⟨j,u,rfl,rfl⟩|⟨y,u,rfl,rfl⟩|⟨rfl,rfl⟩
   ·rw[key_rl] at h; exact SeqAt.EqAt.str_int x t j u _ _ _ _ h
   ·rw[key_rr] at h; exact wpAny_eqBool_str h
   ·exact SeqAt.EqAt.str_none x t _ _ _ _ h
  ·rcases qU hv with⟨j,u,rfl,rfl⟩|⟨y,u,rfl,rfl⟩|⟨rfl,rfl⟩
   ·exact SeqAt.EqAt.none_int j u _ _ _ _ h
   ·exact SeqAt.EqAt.none_str y u _ _ _ _ h
   ·exact SeqAt.EqAt.same .none _ _ _ _ h
 «strs»:=λk x t v h=>by
  rcases qU h with⟨i,u,rfl,e⟩|⟨y,u,rfl,e⟩|⟨rfl,e⟩
  ·exact nomatch e
  ·injection e with e1 _
   subst e1;cases v<;>rfl
  ·exact nomatch e
theorem JC(prog:Program)(w:World)(i:Int)(t:Tok):(vm prog w).is (.inl i) (.int i t)=true:=GV i t
theorem jh(prog:Program)(w:World)(x:Str)(t:Tok):(vm prog w).is (.inr x) (.str x t)=true:=GU x t
inductive V where
 |non|bl (b:Bool)|int (i:Int)|str (x:Str)|byt (b:Array UInt8)|flt (b:UInt64)|ref (a:Addr)|ty (n:String)
 deriving DecidableEq
def RelV:V->Value->Prop
 |.non,u=>u=Value.none
 |.bl b,u=>u=Value.bool b
 |.int i,u=>∃t,u=Value.int i t
 |.str x,u=>∃t,u=Value.str x t
 |.byt b,u=>∃t,u=Value.bytes b t
 |.flt b,u=>∃t,u=Value.float b t
 |.ref a,u=>u=Value.ref a
 |.ty n,u=>u=Value.type n
abbrev Vals:List V->List Value->Prop:=Paired RelV
theorem Vals.length(r:Vals xs us):xs.length=us.length:=Paired.length r
theorem Vals.get:∀{xs:List V}{us:List Value}{i:Nat}{x:V},Vals xs us->xs[i]?=some x->∃u,us[i]?=some u/\RelV x u
 |_,_,_,_, .nil,e=>by simp at e
 |_,_,0,_, .cons r _,e=>by simp at e; subst e; exact⟨_,rfl,r⟩
 |_,_,i+1,x, .cons _ t,e=>by
  obtain⟨u,h1,h2⟩:=Vals.get (i:=i) (x:=x) t (by simpa using e);exact⟨u,by simpa using h1,h2⟩
theorem Vals.set(r:RelV x u):∀{xs:List V}{us:List Value}(i:Nat),Vals xs us->Vals (xs.set i x) (us.set i u)
 |_,_,_, .nil=>.nil
 |_,_,0, .cons _ t=>.cons r t
 |_,_,i+1, .cons q t=>.cons q (Vals.set r i t)
theorem Vals.append:∀{xs ys:List V}{us ws:List Value},Vals xs us->Vals ys ws->Vals (xs++ys) (us++ws)
 |_,_,_,_, .nil,s=>s
 |_,_,_,_, .cons r t,s=>.cons r (Vals.append t s)
theorem Vals.take:∀{xs:List V}{us:List Value}(n:Nat),Vals xs us->Vals (xs.take n) (us.take n)
 |_,_,0,_=>.nil
 |_,_,_+1, .nil=>.nil
 |_,_,n+1, .cons r t=>.cons r (Vals.take n t)
theorem Vals.drop:∀{xs:List V}{us:List Value}(n:Nat),Vals xs us->Vals (xs.drop n) (us.drop n)
 |_,_,0,r=>r
 |_,_,_+1, .nil=>.nil
 |_,_,n+1, .cons _ t=>Vals.drop n t
def RelO:Option V->Option Value->Prop
 |some v,some u=>RelV v u
 |none,none=>True
 |_,_=>False
def KV{κ:Type}:List (κ×V)->List (κ×Value)->Prop:=Paired λ(p:κ×V) (q:κ×Value)=>p.1=q.1/\RelV p.2 q.2
def kV:Key->V
 |.inl i=>.int i
 |.inr x=>.str x
 |.non=>.non
inductive HO where
  |lst (xs:List V)
  |tup (xs:List V)
  |dK (kvs:List (Key×V))|dT (kvs:List (List Key×V))
  |set (S:Int->Bool) (n:Nat)
  |ins (C dx:Addr) (fs:List (Str×V))
  |own (x:Addr)
  |xd (fs:List (Str×V))
  |met (f x:Addr)
  |rng (lo hi:Int)
  |frz (o:Obj) (u:HO)
  |tbl (ps:Array Value)
  |ext (φ:Heap->Prop)
abbrev Hp:=Addr->Option HO
def upd(H:Hp)(a:Addr)(o:HO):Hp:=λb=>if b=a then some o else H b
theorem upd_same:upd H a o a=some o:=by unfold upd; rw[if_pos rfl]
theorem upd_ne(h:b≠a):upd H a o b=H b:=by unfold upd; rw[if_neg h]
theorem ne_of{H:Hp}(h:H a=some o)(h':H b=some u)(d:o≠u):a≠b:=by
 intro e; subst e; rw[h] at h'; exact d (Option.some.inj h')
theorem qS{H:Hp}(h:H a=some o)(h':H b=none):a≠b:=by
 intro e; subst e; rw[h] at h'; cases h'
section
variable (P:Program) (w:World)
def ObjOk(H:Hp)(h:Heap)(a:Addr):HO->Prop
 |.lst xs=>xs.length<=sizeLine/\∃(its:List Value)(n:Nat),Vals xs its/\h.get? a=some { cls:=.type "list", data:=.seq its.toArray n }
 |.tup xs=>xs.length<=sizeLine/\∃its:List Value,Vals xs its/\IsTup h a its.toArray
 |.dK kvs=>kvs.length<=sizeLine/\(a==sysModules)=false/\∃vs,KV kvs vs/\h.DictOf (vm P w) a vs
 |.dT kvs=>kvs.length<=sizeLine/\(a==sysModules)=false/\∃xs:List (List Key×Addr×Value),
   Paired (λ(p:List Key×V) (q:List Key×Addr×Value)=>p.1=q.1/\H q.2.1=some (.tup (p.1.map kV))/\RelV p.2 q.2.2) kvs xs /\
   ∃o es ep,h.get? a=some o/\o.ExactDict/\o.data=.dict es ep/\es.toList=xs.map (entryOfKey (tupleKind (vm P w)))/\(xs.map (·.1)).Nodup
 |.set S n=>h.SetOf (intKind P w) a S n
 |.ins C dx fs=>H dx=some (.own a)/\fs.length<=1000/\dx≠a/\h.get? a=some (W.instObj C dx) /\
   ∃mA,h.Ns1 dx mA/\(∀f,RelO (fs.lookup f) (mA f))/\PySem.Within mA (fs.map (·.1))
 |.own _=>∃o,h.get? a=some o
 |.xd fs=>∃mA,h.Ns1 a mA/\∀f,RelO (fs.lookup f) (mA f)
 |.rng lo hi=>∃t u v,h.get? a=some { cls:=.type "range", data:=.fields #[.int lo t, .int hi u, .int 1 v] }
 |.frz o u=>h.get? a=some o/\ObjOk H h a u
 |.tbl ps=>h.get? a=some { cls:=.none,data:=.fields ps }
 |.met f x=>h.get? a=some (W.methodObj (.ref f) (.ref x))
 |.ext φ=>φ h/\(∃o,h.get? a=some o)/\∀h1 h2:Heap,φ h1->(∀o,h1.get? a=some o->h2.get? a=some o)->φ h2
def HOk(H:Hp)(h:Heap):Prop:=∀a o,H a=some o->ObjOk P w H h a o
end
section
theorem ObjOk.lt(x:ObjOk P w H h a o):a<h.objs.size:=by
 cases o with
 |lst xs=>obtain⟨_,_,_,_,e⟩:=x; exact Heap.lt_size e
 |tup xs=>obtain⟨_,_,_,p⟩:=x; exact p.lt
 |dK kvs=>obtain⟨_,_,_,_,o,_,_,e,_⟩:=x; exact Heap.lt_size e
 |dT kvs=>obtain⟨_,_,_,_,o,_,_,e,_⟩:=x; exact Heap.lt_size e
 |set S n=>obtain⟨o,_,_,_,e,_⟩:=x; exact Heap.lt_size e
 |ins C dx fs=>obtain⟨_,_,_,e,_⟩:=x; exact Heap.lt_size e
 |own y=>obtain⟨_,e⟩:=x; exact Heap.lt_size e
 |xd fs=>obtain⟨_,⟨_,_,_,e,_⟩,_⟩:=x; exact Heap.lt_size e
 |rng lo hi=>obtain⟨_,_,_,e⟩:=x; exact Heap.lt_size e
 |frz ob u=>obtain⟨e,_⟩:=x; exact Heap.lt_size e
 |tbl ps=>exact Heap.lt_size (show h.get? a=some _ from x)
 |met f y=>exact Heap.lt_size (show h.get? a=some _ from x)
 |ext φ=>obtain⟨_,⟨_,e⟩,_⟩:=x; exact Heap.lt_size e
theorem Paired.mapP{α β:Type}{F G:α->β->Prop}:∀{l₁:List α}{l₂:List β},Paired F l₁ l₂->(∀a b,F a b->G a b)->Paired G l₁ l₂
 |_,_, .nil,_=>.nil
 |_,_, .cons r t,f=>.cons (f _ _ r) (Paired.mapP t f)
theorem ObjOk.stay(x:ObjOk P w H h a o)(k:∀b u,(b=a\/H b=some (.own a))->h.get? b=some u->h'.get? b=some u)(ho:∀b,H b=some (.own a)->H' b=some (.own a))(ht:∀b xs,H b=some (.tup xs)->H' b=some (.tup xs)):ObjOk P w H' h' a o:=by
 induction o with
 |lst xs=>obtain⟨z,its,n,r,e⟩:=x; exact⟨z,its,n,r,k _ _ (.inl rfl) e⟩
 |tup xs=>obtain⟨z,its,r,ob,e,c⟩:=x; exact⟨z,its,r,ob,k _ _ (.inl rfl) e,c⟩
 |dK kvs=>obtain⟨z,y,vs,r,ob,es,ep,e,c⟩:=x; exact⟨z,y,vs,r,ob,es,ep,k _ _ (.inl rfl) e,c⟩
 |dT kvs =>
  obtain⟨z,y,xs,r,ob,es,ep,e,c⟩:=x;exact⟨z,y,xs,Paired.mapP r λp q z=>⟨z.1,ht _ _ z.2.1,z.2.2⟩,ob,es,ep,k _ _ (.inl rfl) e,c⟩
 |set S n=>obtain⟨ob,es,ep,t,e,c⟩:=x; exact⟨ob,es,ep,t,k _ _ (.inl rfl) e,c⟩
 |ins C dx fs =>
  obtain⟨d,z,ne,e,mA,⟨od,es,ep,e2,c⟩,r⟩:=x;exact⟨ho _ d,z,ne,k _ _ (.inl rfl) e,mA,⟨od,es,ep,k _ _ (.inr d) e2,c⟩,r⟩
 |own y=>obtain⟨ob,e⟩:=x; exact⟨ob,k _ _ (.inl rfl) e⟩
 |xd fs=>obtain⟨mA,⟨od,es,ep,e,c⟩,r⟩:=x; exact⟨mA,⟨od,es,ep,k _ _ (.inl rfl) e,c⟩,r⟩
 |rng lo hi=>obtain⟨t,u,v,e⟩:=x; exact⟨t,u,v,k _ _ (.inl rfl) e⟩
 |frz ob u ih=>obtain⟨e,q⟩:=x; exact⟨k _ _ (.inl rfl) e,ih q⟩
 |tbl ps =>
  have e:h.get? a=some { cls:=.none,data:=.fields ps }:=x;show h'.get? a=some { cls:=.none,data:=.fields ps };exact k a _ (.inl rfl) e
 |met f y =>
  have e:h.get? a=some (W.methodObj (.ref f) (.ref y)):=x;show h'.get? a=some (W.methodObj (.ref f) (.ref y));exact k a _ (.inl rfl) e
 |ext φ=>obtain⟨p,⟨o,e⟩,st⟩:=x; exact⟨st _ _ p λo q=>k _ _ (.inl rfl) q,⟨o,k _ _ (.inl rfl) e⟩,st⟩
theorem HOk.lt(x:HOk P w H h)(e:H a=some o):a<h.objs.size:=(x a o e).lt
theorem HOk.fresh(x:HOk P w H h)(e:h.objs.size<=a):H a=none:=by
 cases q:H a with
 |none=>rfl
 |some u=>exact absurd (Uy (x.lt q) e) (Dm _)
theorem HOk.kept(x:HOk P w H h)(k:∀b u,h.get? b=some u->h'.get? b=some u):HOk P w H h':=λa o e =>
 (x a o e).stay (λb u _ q=>k b u q) (λ_ q=>q) λ_ _ q=>q
theorem HOk.laid(x:HOk P w H h)(k:∀b u,h.get? b=some u->h'.get? b=some u)(hp:h.objs.size<=a)(new:ObjOk P w (upd H a o) h' a o):HOk P w (upd H a o) h':=λb u e=>by
 have hn:=x.fresh hp;by_cases hb:b=a
 ·subst hb; rw[upd_same] at e; cases e; exact new
 ·rw[upd_ne hb] at e
  exact(x b u e).stay (λc v _ q=>k c v q) (λc q=>by rw[upd_ne (qS q hn)]; exact q) λc xs q=>by rw[upd_ne (qS q hn)]; exact q
end
def Rd(H:Hp)(a:Addr)(u:HO):Prop:=H a=some u\/∃o,H a=some (.frz o u)
theorem Rd.ok(r:Rd H a u)(x:HOk P w H h):ObjOk P w H h a u:=by
 rcases r with r|⟨o,r⟩
 ·exact x a u r
 ·obtain⟨_,q⟩:=x a _ r
  exact q
def Mut:Option HO->Prop
 |some (.lst _)=>True
 |some (.dK _)=>True
 |some (.dT _)=>True
 |some (.set _ _)=>True
 |some (.ins _ _ _)=>True
 |some (.ext _)=>True
 |_=>False
section
theorem HOk.write(ok:HOk P w H h)(mu:Mut (H x))(he:e=x\/H e=some (.own x))(k:∀b u,b≠e->h.get? b=some u->h'.get? b=some u)(heo:∃u,h'.get? e=some u)(new:ObjOk P w (upd H x o') h' x o'):HOk P w (upd H x o') h':=λb u q=>by
 have nown:∀c y,H c=some (.own y)->c≠x:=λc y r z=>by subst z; rw[r] at mu; exact mu
 have ntup:∀c xs,H c=some (.tup xs)->c≠x:=λc xs r z=>by subst z; rw[r] at mu; exact mu
 by_cases hb:b=x
 ·subst hb; rw[upd_same] at q; cases q; exact new
 ·rw[upd_ne hb] at q
  by_cases hbe:b=e
  ·have q':H b=some (.own x):=by
    rcases he with z|z
    ·exact absurd (hbe.trans z) hb
    ·rw[hbe]; exact z
   rw[q] at q'; cases q';obtain⟨v,hv⟩:=heo;exact⟨v,by rw[hbe]; exact hv⟩
  ·refine(ok b u q).stay (λc v hc r=>k c v ?_ r) (λc r=>by rw[upd_ne (nown c b r)]; exact r) λc xs r=>by rw[upd_ne (ntup c xs r)]; exact r
   rcases hc with rfl|hc
   ·exact hbe
   ·rintro rfl
    rcases he with z|z
    ·exact nown c b hc z
    ·rw[hc] at z; cases z; exact hb rfl
end
structure Un(fs ex:List Addr)(H H':Hp)(h h':Heap):Prop where
 keep:∀b o,h.get? b=some o->H b=none->b∉fs->b∉ex->h'.get? b=some o
 slot:∀b o,h.get? b=some o->H b=none->b∈fs->b∉ex->∃sl,h'.get? b=some { o with slots:=sl }
 free:∀b o,h.get? b=some o->H b=none->b∉ex->H' b=none
 there:∀b o,h.get? b=some o->b∉ex->∃o',h'.get? b=some o'
 tups:∀b xs,H b=some (.tup xs)->H' b=some (.tup xs)
 frzs:∀b o u,H b=some (.frz o u)->H' b=some (.frz o u)
 tbls:∀b ps,H b=some (.tbl ps)->∃more,H' b=some (.tbl (ps++more))
section
theorem Un.any(u:Un fs ex H H1 h h1)(q:h.get? b=some ob)(n:H b=none)(hx:b∉ex):∃sl,h1.get? b=some { ob with slots:=sl }:=by
 by_cases hb:b∈fs
 ·exact u.slot b ob q n hb hx
 ·exact⟨ob.slots,u.keep b ob q n hb hx⟩
theorem Un.trans(a:Un fs ex H H1 h h1)(b:Un fs ex H1 H2 h1 h2):Un fs ex H H2 h h2 where
 keep:=λc ob q n hc hx=>b.keep c ob (a.keep c ob q n hc hx) (a.free c ob q n hx) hc hx
 slot:=λc ob q n hc hx=>by
  obtain⟨sl,e1⟩:=a.slot c ob q n hc hx;obtain⟨sl',e2⟩:=b.slot c _ e1 (a.free c ob q n hx) hc hx;exact⟨sl',e2⟩
 free:=λc ob q n hx=>by
  obtain⟨o',e1⟩:=a.there c ob q hx;exact b.free c o' e1 (a.free c ob q n hx) hx
 there:=λc ob q hx=>by
  obtain⟨o',e1⟩:=a.there c ob q hx;exact b.there c o' e1 hx
 tups:=λc xs q=>b.tups c xs (a.tups c xs q)
 frzs:=λc ob xs q=>b.frzs c ob xs (a.frzs c ob xs q)
 tbls:=λc ps q=>by
  obtain⟨m1,e1⟩:=a.tbls c ps q;obtain⟨m2,e2⟩:=b.tbls c _ e1;exact⟨m1++m2,by rw[e2,Ri]⟩
theorem Un.kept(k:∀b u,h.get? b=some u->h'.get? b=some u):Un fs ex H H h h' :=
 ⟨λb ob q _ _ _=>k b ob q,λb ob q _ _ _=>⟨ob.slots,k b ob q⟩,λ_ _ _ n _=>n,λb ob q _=>⟨ob,k b ob q⟩,λ_ _ q=>q,λ_ _ _ q=>q,λ_ ps q=>⟨#[],by rw[q]; simp⟩⟩
theorem Un.refl:Un fs ex H H h h:=Un.kept λ_ _ q=>q
theorem Un.laid(k:∀b u,h.get? b=some u->h'.get? b=some u)(hp:h.objs.size<=a)(hn:H a=none):Un fs ex H (upd H a o) h h' where
 keep:=λb u q _ _ _=>k b u q
 slot:=λb u q _ _ _=>⟨u.slots,k b u q⟩
 free:=λb u q n _=>by rw[upd_ne (UH (Uy (Heap.lt_size q) hp))]; exact n
 there:=λb u q _=>⟨u,k b u q⟩
 tups:=λb xs q=>by rw[upd_ne (qS q hn)]; exact q
 frzs:=λb u xs q=>by rw[upd_ne (qS q hn)]; exact q
 tbls:=λb ps q=>⟨#[],by rw[upd_ne (qS q hn),q]; simp⟩
theorem Un.write(mu:Mut (H x))(he:e=x\/H e=some (.own x))(k:∀b u,b≠e->h.get? b=some u->h'.get? b=some u)(heo:∃u,h'.get? e=some u):Un fs ex H (upd H x o) h h':=by
 have hx:∀b,H b=none->b≠x:=λb n z=>by subst z; rw[n] at mu; exact mu
 have hb:∀b,H b=none->b≠e:=λb n z=>by
  subst z;rcases he with r|r
  ·exact hx b n r
  ·rw[n] at r; cases r
 have hm:∀b u,H b=some u->¬Mut (some u)->b≠x:=λb u q nm z=>by subst z; rw[q] at mu; exact nm mu
 refine⟨λb u q n _ _=>k b u (hb b n) q,λb u q n _ _=>⟨u.slots,k b u (hb b n) q⟩,λb u q n _=>by rw[upd_ne (hx b n)]; exact n,λb u q _=>?_,
  λb xs q=>by rw[upd_ne (hm b _ q λz=>z)]; exact q,λb u xs q=>by rw[upd_ne (hm b _ q λz=>z)]; exact q,λb ps q=>⟨#[],by rw[upd_ne (hm b _ q λz=>z),q]; simp⟩⟩
 by_cases hbe:b=e
 ·subst hbe; exact heo
 ·exact⟨u,k b u hbe q⟩
theorem Un.mono(u:Un fs ex H H1 h h1)(hs:∀b∈fs,b∈fs')(hx:∀b∈ex,b∈ex'):Un fs' ex' H H1 h h1 :=
 ⟨λb ob q n hb he=>u.keep b ob q n (λz=>hb (hs b z)) λz=>he (hx b z),λ_ _ q n _ he=>u.any q n λz=>he (hx _ z),λb ob q n he=>u.free b ob q n λz=>he (hx b z),λb ob q he=>u.there b ob q λz=>he (hx b z),u.tups,u.frzs,u.tbls⟩
end
def trk(h:Heap)(H:Hp):List Addr:=(List.range h.objs.size).filter λa=>(H a).isSome
def hidT(h:Heap)(H:Hp):Heap:=W.hideAll h (trk h H)
theorem G6(h:Heap)(H:Hp):(hidT h H).objs.size=h.objs.size:=W.hideAll_size _ _
theorem hidT_get(e:h.get? b=some o)(n:H b=none):(hidT h H).get? b=some o :=
 DR _ e λhm=>by
  have q:(H b).isSome=true:=(UJ.mp hm).2;rw[n] at q; simp at q
theorem of_hidT(e:(hidT h H).get? b=some o):h.get? b=some o/\H b=none:=by
 have e':h.get? b=some o:=Ba (trk h H) e;refine⟨e', ?_⟩;cases q:H b with
 |none=>rfl
 |some x =>
  have hm:b∈trk h H:=UJ.mpr ⟨Dt.mpr (Heap.lt_size e'),by simp[q]⟩;have z:(hidT h H).get? b=none:=DM (trk h H) hm;rw[z] at e; cases e
def allNews(g h:Heap)(L:Addr):List (Addr×Obj):=(List.range h.objs.size).filterMap λa=>if a=L\/(g.get? a).isSome=true then none else(h.get? a).map λo=>(a,o)
def rest(g h:Heap)(L d:Addr):List (Addr×Obj):=(allNews g h L).filter λp=>decide (p.1≠d)
structure Mod(Ξ:PySem.W.Frag)(mg:Str->Option Value)(base:Heap):Prop where
 kin:Ξ.In base
 glob:base.Ns mainGlobals mg
 blt:∃mb,base.Ns builtinsNs mb/\∀x:Str,x ≠ "__name__" -> mb x=bootBuiltins x
 nolimit:base.NoLimit
structure Cx where
 prog:Program
 w:World
 K:PySem.W.Frag
 mg:Str->Option Value
 base:Heap
 A:Around
 N:List Str
 s₀:Shared
 H₀:Hp
 env:Env
 outer:List Env
 stack:List Env
 ex:List Addr
 fn:Str->Bool
 calm:Bool
 pn:List (Addr×Obj)
 xe:Value->Shared->Prop
def frs(l:List Env):List Addr:=l.filterMap (·.frame)
abbrev Cx.fs(X:Cx):List Addr:=frs X.outer
def Vis(sc:Scope)(x:Str):Prop:=sc.names.lookup x=some .local\/sc.names.lookup x=some .cell\/sc.names.lookup x=some .free
def Loc(sc:Scope)(x:Str):Prop:=sc.names.lookup x=some .local\/sc.names.lookup x=some .cell
def Look(env:Env)(h:Heap)(m:Str->Option Value)(x:Str)(u:Value):Prop :=
 (env.kindOf x=some .local/\m x=some u)\/((env.kindOf x=some .cell\/env.kindOf x=some .free)/\∃c,env.cells.lookup x=some c/\h.IsCell c (some u))
structure Cx.Ok(X:Cx):Prop where
 mod:Mod X.K X.mg X.base
 kind:X.env.scope.kind=.function
 glob:X.env.globals=mainGlobals
 blt:X.env.builtins=builtinsNs
 above:X.s₀.heap.objs.size<=X.env.locals
 inj:∀x y c,X.env.cells.lookup x=some c->X.env.cells.lookup y=some c->x=y
 has:∀x,(X.env.kindOf x=some .cell\/X.env.kindOf x=some .free)->∃c,X.env.cells.lookup x=some c
 cab:∀x c,X.fn x=true->X.env.cells.lookup x=some c->X.s₀.heap.objs.size<=c
 hd:X.calm=true->X.A.handled=none
 frames:X.A.frames=some X.stack
 stk:X.stack=X.outer\/(X.stack=X.env::X.outer/\X.env.frame=some X.env.locals)
 exf:∀b∈X.ex,b≠X.env.locals/\∀x c,X.env.cells.lookup x=some c->c≠b
 bs:∀b o,X.base.get? b=some o->X.s₀.heap.get? b=some o/\X.H₀ b=none
 bsz:X.base.objs.size<=X.s₀.heap.objs.size
 noex:∀b o,X.base.get? b=some o->b∉X.ex
 exfs:∀b∈X.ex,b∉X.fs
 funs:X.s₀.heap.FunFrames X.base X.outer
 frf:∀b∈X.fs,X.H₀ b=none
structure Inv(X:Cx)(pins:List (Addr×Obj))(σ:List (Option V))(H:Hp)(s:Shared):Prop where
 ok:X.Ok
 os:s.os=X.s₀.os
 bare:AllBare s.gens
 base:Un X.fs X.ex X.H₀ H X.s₀.heap s.heap
 loc:∃m,s.heap.Ns X.env.locals m/\∀(i:Nat)(x:Str)(v:V),X.N[i]?=some x->σ[i]?=some (some v)->Vis X.env.scope x->∃u,RelV v u/\Look X.env s.heap m x u
 cell:∀x c,X.env.cells.lookup x=some c->∃v,s.heap.IsCell c v
 free:H X.env.locals=none
 freeC:∀x c,X.env.cells.lookup x=some c->H c=none
 pin:∀p∈X.pn++pins,s.heap.get? p.1=some p.2/\H p.1=none/\p.1≠X.env.locals/\p.1∉X.fs/\∀v,p.2.data ≠ .cell v
 hok:HOk X.prog X.w H s.heap
 len:σ.length=X.N.length
section
theorem Cx.Ok.nofr{X:Cx}(ok:X.Ok)(e:X.base.get? b=some o):b∉X.fs:=λhb=>by
 have:=(ok.funs.mem hb).1;rw[e] at this; cases this
theorem Inv.bs(I:Inv X pins σ H s):∀b o,X.base.get? b=some o->s.heap.get? b=some o/\H b=none:=λb o e =>
 ⟨I.base.keep b o (I.ok.bs b o e).1 (I.ok.bs b o e).2 (I.ok.nofr e) (I.ok.noex b o e),I.base.free b o (I.ok.bs b o e).1 (I.ok.bs b o e).2 (I.ok.noex b o e)⟩
theorem Inv.bk(I:Inv X pins σ H s):∀b o,X.base.get? b=some o->s.heap.get? b=some o:=λb o e=>(I.bs b o e).1
theorem Inv.mod(I:Inv X pins σ H s):Mod X.K X.mg X.base:=I.ok.mod
theorem Inv.kIn(I:Inv X pins σ H s):X.K.In s.heap:=I.ok.mod.kin.keeps I.bk
theorem Inv.fr(I:Inv X pins σ H s):∃m,Fr X.base X.env.locals s.heap m :=
 let⟨m,hn,_⟩:=I.loc
 ⟨m,hn,I.bk,UL I.ok.bsz I.ok.above⟩
theorem Inv.lt(I:Inv X pins σ H s):X.env.locals<s.heap.objs.size:=let⟨_,hn,_⟩:=I.loc; hn.lt
theorem Inv.sz(I:Inv X pins σ H s):X.s₀.heap.objs.size<=s.heap.objs.size:=UL I.ok.above (U2 I.lt)
theorem Inv.nofs(I:Inv X pins σ H s)(h:s.heap.objs.size<=a):a∉X.fs:=λhb=>by
 obtain⟨_,o,ho,_⟩:=I.ok.funs.mem hb;exact absurd (Uy (Heap.lt_size ho) (UL I.sz h)) (Dm _)
theorem Inv.cne(I:Inv X pins σ H s):∀x c,X.env.cells.lookup x=some c->c≠X.env.locals:=λx c e z=>by
 obtain⟨v,o,ho,hd⟩:=I.cell x c e;obtain⟨m,⟨o',es,ep,ho',hd',_⟩,_⟩:=I.loc;rw[z,ho'] at ho; cases ho; rw[hd'] at hd; cases hd
theorem Inv.funs(I:Inv X pins σ H s):s.heap.FunFrames X.base X.outer:=by
 have all:∀(l:List Env),(∀b∈frs l,b∈X.fs)->X.s₀.heap.FunFrames X.base l->s.heap.FunFrames X.base l:=by
  intro l
  induction l with
  |nil=>intro _ _; trivial
  |cons env r ih =>
   intro hs hl;obtain⟨hk,⟨L,o,hf,hn,ho,hd⟩,hr⟩:=hl;have hL:L∈X.fs:=hs L (by unfold frs; rw[U9,hf]; exact UN);obtain⟨sl,e⟩:=I.base.slot L o ho (I.ok.frf L hL) hL λz=>I.ok.exfs L z hL;exact⟨hk,⟨L,_,hf,hn,e,hd⟩,ih (λb hb=>hs b (by unfold frs; rw[U9,hf]; exact UR _ hb)) hr⟩
 exact all X.outer (λ_ hb=>hb) I.ok.funs
theorem Inv.stack(I:Inv X pins σ H s):s.heap.FunFrames X.base X.stack:=by
 rcases I.ok.stk with e|⟨e,hf⟩
 ·rw[e]; exact I.funs
 ·rw[e]
  obtain⟨m,hn,_⟩:=I.loc;refine .cons (by rw[I.ok.kind]; decide) hf hn ?_ I.funs;exact Heap.get?_none_of_le (UL I.ok.bsz I.ok.above)
theorem Inv.stkSub(I:Inv X pins σ H s):∀b∈frs X.stack,b∈X.env.locals::X.fs:=λb hb=>by
 rcases I.ok.stk with e|⟨e,hf⟩
 ·rw[e] at hb; exact UR _ hb
 ·rw[e] at hb
  unfold frs at hb;rw[U9,hf] at hb;exact hb
theorem Inv.stkFree(I:Inv X pins σ H s):∀b∈frs X.stack,H b=none:=λb hb=>by
 rcases Uv.mp (I.stkSub b hb) with e|hb
 ·rw[e]; exact I.free
 ·obtain⟨_,o,ho,_⟩:=I.ok.funs.mem hb
  exact I.base.free b o ho (I.ok.frf b hb) λz=>I.ok.exfs b z hb
theorem Inv.step{ch:List Addr}(I:Inv X pins σ H s)(hch:∀b∈ch,(b∈X.ex\/X.s₀.heap.objs.size<=b)/\b≠X.env.locals/\(∀x c,X.env.cells.lookup x=some c->c≠b)/\∀p∈X.pn++pins,p.1≠b)(keep:∀b o,b≠X.env.locals->b∉X.fs->b∉ch->s.heap.get? b=some o->H b=none->h'.get? b=some o)(slot:∀b o,b≠X.env.locals->b∈X.fs->b∉ch->s.heap.get? b=some o->H b=none->∃sl,h'.get? b=some { o with slots:=sl })(free:∀b o,b∉ch->s.heap.get? b=some o->H b=none->H' b=none)(there:∀b o,b∉ch->s.heap.get? b=some o->∃o',h'.get? b=some o')(tups:∀b xs,H b=some (.tup xs)->H' b=some (.tup xs))(frzs:∀b o u,H b=some (.frz o u)->H' b=some (.frz o u))(tbls:∀b ps,H b=some (.tbl ps)->∃more,H' b=some (.tbl (ps++more)))(ns:∀m,s.heap.Ns X.env.locals m->h'.Ns X.env.locals m)(hok:HOk X.prog X.w H' h')(hg:AllBare g') :
  Inv X pins σ H' { s with heap:=h',gens:=g',drawn:=d',toks:=t' }:=by
 have neL:∀b o,X.s₀.heap.get? b=some o->b≠X.env.locals:=λb o e=>UH (Uy (Heap.lt_size e) I.ok.above);have neC:∀b o,X.s₀.heap.get? b=some o->b∉X.ex->b∉ch:=λb o e hx hb=>by
  rcases(hch b hb).1 with z|z
  ·exact hx z
  ·exact absurd (Uy (Heap.lt_size e) z) (Dm _)
 have cellK:∀x c,X.env.cells.lookup x=some c->∀v,s.heap.IsCell c v->h'.IsCell c v:=λx c e v ⟨o,ho,hd⟩=>by
  have nch:c∉ch:=λz=>(hch c z).2.2.1 x c e rfl;by_cases hc:c∈X.fs
  ·obtain⟨sl,q⟩:=slot c o (I.cne x c e) hc nch ho (I.freeC x c e)
   exact⟨_,q,hd⟩
  ·exact⟨o,keep c o (I.cne x c e) hc nch ho (I.freeC x c e),hd⟩
 refine⟨I.ok,I.os,hg,⟨λb o e n hb hx=>?_,λb o e n hb hx=>?_,λb o e n hx=>?_,λb o e hx=>?_,λb xs e=>tups b xs (I.base.tups b xs e),λb o xs e=>frzs b o xs (I.base.frzs b o xs e),λb ps e=>?_⟩, ?_,λx c e=>?_, ?_,λx c e=>?_,λp hp=>?_,hok,I.len⟩
 ·exact keep b o (neL b o e) hb (neC b o e hx) (I.base.keep b o e n hb hx) (I.base.free b o e n hx)
 ·obtain⟨sl,e1⟩:=I.base.slot b o e n hb hx
  obtain⟨sl',e2⟩:=slot b _ (neL b o e) hb (neC b o e hx) e1 (I.base.free b o e n hx);exact⟨sl',e2⟩
 ·obtain⟨o',e1⟩:=I.base.there b o e hx
  exact free b o' (neC b o e hx) e1 (I.base.free b o e n hx)
 ·obtain⟨o',e1⟩:=I.base.there b o e hx
  exact there b o' (neC b o e hx) e1
 ·obtain⟨m1,e1⟩:=I.base.tbls b ps e
  obtain⟨m2,e2⟩:=tbls b _ e1;exact⟨m1++m2,by rw[e2,Ri]⟩
 ·obtain⟨m,hn,hl⟩:=I.loc
  refine⟨m,ns m hn,λi x v e1 e2 e3=>?_⟩;obtain⟨u,r,l⟩:=hl i x v e1 e2 e3;refine⟨u,r, ?_⟩;rcases l with l|⟨k,c,e,z⟩
  ·exact .inl l
  ·exact .inr ⟨k,c,e,cellK x c e _ z⟩
 ·obtain⟨v,z⟩:=I.cell x c e
  exact⟨v,cellK x c e v z⟩
 ·obtain⟨m,⟨o,_,_,ho,_⟩,_⟩:=I.loc
  exact free _ o (λz=>(hch _ z).2.1 rfl) ho I.free
 ·obtain⟨v,o,ho,hd⟩:=I.cell x c e
  exact free c o (λz=>(hch c z).2.2.1 x c e rfl) ho (I.freeC x c e)
 ·obtain⟨e,n,ne,nf,d⟩:=I.pin p hp
  have nch:p.1∉ch:=λz=>(hch p.1 z).2.2.2 p hp rfl;exact⟨keep p.1 p.2 ne nf nch e n,free p.1 p.2 nch e n,ne,nf,d⟩
theorem Inv.un(I:Inv X pins σ H s)(u:Un X.fs [] H H' s.heap h')(hok:HOk X.prog X.w H' h'):Inv X pins σ H' { s with heap:=h',toks:=t' }:=by
 obtain⟨m,⟨o,es,ep,ho,r⟩,_⟩:=id I.loc;obtain⟨sl,hL⟩:=u.any ho I.free (by simp);exact I.step (g':=s.gens) (d':=s.drawn) (ch:=[]) (λ_ z=>nomatch z) (λb o _ hb _ e n=>u.keep b o e n hb (by simp)) (λb o _ hb _ e n=>u.slot b o e n hb (by simp)) (λb o _ e n=>u.free b o e n (by simp)) (λb o _ e=>u.there b o e (by simp)) u.tups u.frzs u.tbls (λm' hm=>by
  obtain⟨o',es',ep',ho',r'⟩:=hm;rw[ho] at ho'; cases ho';exact⟨_,es',ep',hL,r'⟩) hok I.bare
theorem Inv.call(I:Inv X pins σ H s)(u:Un (frs X.stack) ch H H' s.heap h')(hok:HOk X.prog X.w H' h')(hg:AllBare g')(hch:∀b∈ch,(b∈X.ex\/X.s₀.heap.objs.size<=b)/\b≠X.env.locals/\(∀x c,X.env.cells.lookup x=some c->c≠b)/\∀p∈X.pn++pins,p.1≠b) :
  Inv X pins σ H' { s with heap:=h',gens:=g',drawn:=d',toks:=t' }:=by
 obtain⟨m,⟨o,es,ep,ho,r⟩,_⟩:=id I.loc;obtain⟨sl,hL⟩:=u.any ho I.free λz=>(hch _ z).2.1 rfl;exact I.step (ch:=ch) hch (λb o hL hb hc e n=>u.keep b o e n (λz=>(Uv.mp (I.stkSub b z)).elim hL hb) hc) (λb o _ _ hc e n=>u.any e n hc) (λb o hc e n=>u.free b o e n hc) (λb o hc e=>u.there b o e hc) u.tups u.frzs u.tbls (λm' hm=>by
  obtain⟨o',es',ep',ho',r'⟩:=hm;rw[ho] at ho'; cases ho';exact⟨_,es',ep',hL,r'⟩) hok hg
theorem Inv.turned(I:Inv X pins σ H s)(k:∀b o,b≠it->s.heap.get? b=some o->h'.get? b=some o)(hn:H it=none)(hL:it≠X.env.locals)(h1:it∈X.ex\/X.s₀.heap.objs.size<=it)(h2:∀x c,X.env.cells.lookup x=some c->c≠it)(h3:∀p∈X.pn++pins,p.1≠it):Inv X pins σ H { s with heap:=h',toks:=t' }:=by
 have nit:∀b u,H b=some u->b≠it:=λb u e z=>by rw[z,hn] at e; cases e
 refine I.step (g':=s.gens) (d':=s.drawn) (ch:=[it]) (λb hb=>?_) (λb o _ _ hc e _=>k b o (λz=>hc (by simp[z])) e) (λb o _ _ hc e _=>⟨o.slots,k b o (λz=>hc (by simp[z])) e⟩) (λ_ _ _ _ n=>n)
  (λb o hc e=>⟨o,k b o (λz=>hc (by simp[z])) e⟩) (λ_ _ e=>e) (λ_ _ _ e=>e) (λb ps e=>⟨#[],by rw[e]; simp⟩) (λm hm=>?_) (λb u e=>?_) I.bare
 ·have e:b=it:=by simpa using hb
  subst e;exact⟨h1,hL,h2,h3⟩
 ·obtain⟨o,es,ep,ho,r⟩:=hm
  exact⟨o,es,ep,k _ o (Ne.symm hL) ho,r⟩
 ·refine(I.hok b u e).stay (λc v hc q=>k c v ?_ q) (λ_ q=>q) λ_ _ q=>q
  rcases hc with z|z
  ·rw[z]; exact nit b u e
  ·exact nit c _ z
theorem Inv.tok(I:Inv X pins σ H s)(t:Nat):Inv X pins σ H { s with toks:=t }:=I.un (h':=s.heap) (t':=t) Un.refl I.hok
theorem Inv.kept(I:Inv X pins σ H s)(k:∀b u,s.heap.get? b=some u->h'.get? b=some u):Inv X pins σ H { s with heap:=h',toks:=t' }:=I.un (Un.kept k) (I.hok.kept k)
theorem Inv.laid(I:Inv X pins σ H s)(k:∀b u,s.heap.get? b=some u->h'.get? b=some u)(hp:s.heap.objs.size<=a)(new:ObjOk X.prog X.w (upd H a o) h' a o) :
  Inv X pins σ (upd H a o) { s with heap:=h',toks:=t' }:=I.un (Un.laid k hp (I.hok.fresh hp)) (I.hok.laid k hp new)
theorem Inv.write(I:Inv X pins σ H s)(mu:Mut (H x))(he:e=x\/H e=some (.own x))(k:∀b u,b≠e->s.heap.get? b=some u->h'.get? b=some u)(heo:∃u,h'.get? e=some u)(new:ObjOk X.prog X.w (upd H x o) h' x o):Inv X pins σ (upd H x o) { s with heap:=h',toks:=t' }:=I.un (Un.write mu he k heo) (I.hok.write mu he k heo new)
theorem Inv.weak(I:Inv X pins σ H s)(hl:σ'.length=σ.length)(w:∀(i:Nat) v,σ'[i]?=some (some v)->σ[i]?=some (some v)):Inv X pins σ' H s :=
 ⟨I.ok,I.os,I.bare,I.base,let⟨m,hn,hl'⟩:=I.loc; ⟨m,hn,λi x v e1 e2 e3=>hl' i x v e1 (w i v e2) e3⟩,I.cell,I.free,I.freeC,I.pin,I.hok,hl.trans I.len⟩
theorem Inv.pins_of(I:Inv X pins σ H s)(h:∀p∈pins',s.heap.get? p.1=some p.2/\H p.1=none/\p.1≠X.env.locals/\p.1∉X.fs/\∀v,p.2.data ≠ .cell v):Inv X pins' σ H s :=
 ⟨I.ok,I.os,I.bare,I.base,I.loc,I.cell,I.free,I.freeC,λp hp=>(Uw.mp hp).elim (λz=>I.pin p (UD _ z)) (h p),I.hok,I.len⟩
theorem KF{N:List Str}(hN:N.Nodup){i j:Nat}(a:N[i]?=some x)(b:N[j]?=some x):i=j:=by
 obtain⟨h1,e1⟩:=Ue.mp a;obtain⟨h2,e2⟩:=Ue.mp b;exact(List.getElem_inj hN).mp (e1.trans e2.symm)
theorem ZF(I:Inv X pins σ H s)(hN:X.N.Nodup)(hi:X.N[i]?=some x)(hx:Loc X.env.scope x)(r:RelV v u)(h:∀s',Inv X pins (σ.set i (some v)) H s'->(∃a,Heap.SameBut a s.heap s'.heap/\(a=X.env.locals\/X.env.cells.lookup x=some a))->Q () s')(hf:X.fn x=true\/X.env.scope.names.lookup x=some .local:=by first|exact .inl rfl|exact .inr rfl|assumption):wpAny M A (storeName X.env x u) Q E s:=by
 obtain⟨m,hn,hl⟩:=id I.loc;have hcls:(X.env.scope.kind == .class||(X.env.scope.kind == .module&&X.env.locals != X.env.globals))=false:=by rw[I.ok.kind]; rfl
 have hiσ:i<σ.length:=by rw[I.len]; exact(Ue.mp hi).1
 have cne:=I.cne;have tracked:∀{a:Addr}{h':Heap},(∃o,s.heap.get? a=some o/\H a=none)->Heap.SameBut a s.heap h'->HOk X.prog X.w H h':=λ{a h'} ha hs b ob e=>by
  obtain⟨_,_,hfree⟩:=ha;refine(I.hok b ob e).stay (λc w' hc q=>(hs.2 c ?_).trans q) (λ_ q=>q) λ_ _ q=>q;rintro rfl;rcases hc with rfl|hc
  ·rw[hfree] at e; cases e
  ·rw[hfree] at hc; cases hc
 rcases hx with hk|hk
 ·refine wpAny_storeName_local hk hn (λh' hn' hs=>?_) hcls
  obtain⟨oL,_,_,hoL,_⟩:=id hn;refine h _ ⟨I.ok,I.os,I.bare,⟨λb o e n hb hx=>?_,λb o e n hb hx=>?_,I.base.free,λb o e hx=>?_,I.base.tups,I.base.frzs,I.base.tbls⟩,⟨_,hn',λj y v' e1 e2 e3=>?_⟩,λy c e=>?_,I.free,I.freeC,λp hp=>?_,tracked ⟨oL,hoL,I.free⟩ hs,by simpa using I.len⟩ ⟨_,hs, .inl rfl⟩
  ·exact(hs.2 b (UH (Uy (Heap.lt_size e) I.ok.above))).trans (I.base.keep b o e n hb hx)
  ·obtain⟨sl,e1⟩:=I.base.slot b o e n hb hx
   exact⟨sl,(hs.2 b (UH (Uy (Heap.lt_size e) I.ok.above))).trans e1⟩
  ·obtain⟨o',e1⟩:=I.base.there b o e hx
   exact⟨o',(hs.2 b (UH (Uy (Heap.lt_size e) I.ok.above))).trans e1⟩
  ·by_cases hj:j=i
   ·subst hj
    rw[hi] at e1; cases e1;rw[Ur hiσ] at e2;cases e2;exact⟨u,r, .inl ⟨hk,by simp⟩⟩
   ·rw[Ul (Ne.symm hj)] at e2
    obtain⟨u',r',q⟩:=hl j y v' e1 e2 e3;refine⟨u',r', ?_⟩;rcases q with⟨k,e⟩|⟨k,c,e,z⟩
    ·refine .inl ⟨k, ?_⟩
     have:y≠x:=λe=>hj (KF hN e1 (e▸hi));simp[this,e]
    ·exact .inr ⟨k,c,e,z.sameBut hs (cne y c e)⟩
  ·obtain⟨w',z⟩:=I.cell y c e
   exact⟨w',z.sameBut hs (cne y c e)⟩
  ·obtain⟨e,n,ne,nf,d⟩:=I.pin p hp
   exact⟨(hs.2 p.1 ne).trans e,n,ne,nf,d⟩
 ·have hfn:X.fn x=true:=by
   rcases hf with z|z
   ·exact z
   ·rw[z] at hk; cases hk
  obtain⟨c,hc⟩:=I.ok.has x (.inl hk);obtain⟨w',z⟩:=I.cell x c hc;refine wpAny_storeName_cell I.ok.kind hk hc z (λh' hc' hs=>?_);obtain⟨oc,hoc,hocd⟩:=id z;refine h { s with heap:=h' } ⟨I.ok,I.os,I.bare,⟨λb o e n hb hx=>?_,λb o e n hb hx=>?_,I.base.free,λb o e hx=>?_,I.base.tups,I.base.frzs,I.base.tbls⟩,⟨m,hn.sameBut hs (Ne.symm (cne x c hc)),λj y v' e1 e2 e3=>?_⟩,λy c' e=>?_,I.free,I.freeC,λp hp=>?_,tracked ⟨oc,hoc,I.freeC x c hc⟩ hs,by simpa using I.len⟩ ⟨c,hs, .inr hc⟩
  ·exact(hs.2 b (UH (Uy (Heap.lt_size e) (I.ok.cab x c hfn hc)))).trans (I.base.keep b o e n hb hx)
  ·obtain⟨sl,e1⟩:=I.base.slot b o e n hb hx
   exact⟨sl,(hs.2 b (UH (Uy (Heap.lt_size e) (I.ok.cab x c hfn hc)))).trans e1⟩
  ·obtain⟨o',e1⟩:=I.base.there b o e hx
   exact⟨o',(hs.2 b (UH (Uy (Heap.lt_size e) (I.ok.cab x c hfn hc)))).trans e1⟩
  ·by_cases hj:j=i
   ·subst hj
    rw[hi] at e1; cases e1;rw[Ur hiσ] at e2;cases e2;exact⟨u,r, .inr ⟨.inl hk,c,hc,hc'⟩⟩
   ·rw[Ul (Ne.symm hj)] at e2
    obtain⟨u',r',q⟩:=hl j y v' e1 e2 e3;refine⟨u',r', ?_⟩;rcases q with q|⟨k,c',e,z'⟩
    ·exact .inl q
    ·refine .inr ⟨k,c',e,z'.sameBut hs ?_⟩
     rintro rfl;exact hj (KF hN e1 (I.ok.inj _ _ _ e hc▸hi))
  ·by_cases hcc:c'=c
   ·subst hcc; exact⟨_,hc'⟩
   ·obtain⟨w2,z2⟩:=I.cell y c' e
    exact⟨w2,z2.sameBut hs hcc⟩
  ·obtain⟨e,n,ne,nf,d⟩:=I.pin p hp
   refine⟨(hs.2 p.1 ?_).trans e,n,ne,nf,d⟩;intro q;rw[q,hoc] at e;have q':oc=p.2:=Option.some.inj e;exact d w' (by rw[<-q']; exact hocd)
theorem xC(I:Inv X pins σ H s)(hN:X.N.Nodup)(hi:X.N[i]?=some x)(hx:Loc X.env.scope x)(r:RelV v u)(h:∀s',Inv X pins (σ.set i (some v)) H s'->Q () s')(hf:X.fn x=true\/X.env.scope.names.lookup x=some .local:=by first|exact .inl rfl|exact .inr rfl|assumption):wpAny M A (storeName X.env x u) Q E s :=
 ZF I hN hi hx r (λs' I' _=>h s' I') hf
theorem Inv.call'(I:Inv X pins σ H s)(ho:s'.os=s.os)(u:Un (frs X.stack) ch H H' s.heap s'.heap)(hok:HOk X.prog X.w H' s'.heap)(hg:AllBare s'.gens)(hch:∀b∈ch,(b∈X.ex\/X.s₀.heap.objs.size<=b)/\b≠X.env.locals/\(∀x c,X.env.cells.lookup x=some c->c≠b)/\∀p∈X.pn++pins,p.1≠b):Inv X pins σ H' s':=by
 obtain⟨h',g',d',t',o'⟩:=s';have e:o'=s.os:=ho;subst e;exact I.call (g':=g') (t':=t') (d':=d') u hok hg hch
end
abbrev XK:=Value->Option Addr->Hp->Prop
abbrev St:=List (Option V)
abbrev VK:=V->Hp->Prop
abbrev TE:=St->Hp->VK->Prop
abbrev TT:=St->Hp->(Bool->Hp->Prop)->Prop
abbrev TA:=St->Hp->(List V->Hp->Prop)->Prop
structure Ends where
 nx:St->Hp->Prop
 rt:VK
 bk:St->Hp->Prop:=λ_ _=>False
 ct:St->Hp->Prop:=λ_ _=>False
abbrev TS:=Ends->St->Hp->Prop
def EP(X:Cx)(pins:List (Addr×Obj))(σ:St)(Q:VK)(u:Value)(s':Shared):Prop:=∃v H',Inv X pins σ H' s'/\RelV v u/\Q v H'
def TP(X:Cx)(pins:List (Addr×Obj))(σ:St)(Q:Bool->Hp->Prop)(b:Bool)(s':Shared):Prop:=∃H',Inv X pins σ H' s'/\Q b H'
def AP(X:Cx)(pins:List (Addr×Obj))(σ:St)(Q:List V->Hp->Prop)(us:List Value)(s':Shared):Prop:=∃vs H',Inv X pins σ H' s'/\Vals vs us/\Q vs H'
def SP(X:Cx)(pins:List (Addr×Obj))(D:Ends)(f:Flow)(s':Shared):Prop :=
 match f with
 |.next=>∃σ' H',Inv X pins σ' H' s'/\D.nx σ' H'
 |.brk=>∃σ' H',Inv X pins σ' H' s'/\D.bk σ' H'
 |.cont=>∃σ' H',Inv X pins σ' H' s'/\D.ct σ' H'
 |.ret u=>∃v σ' H',Inv X pins σ' H' s'/\RelV v u/\D.rt v H'
def PE(X:Cx)(e:Expr)(t:TE):Prop :=
 ∀(pins:List (Addr×Obj))(s:Shared)(σ:St)(H:Hp)(Q:VK),Inv X pins σ H s->t σ H Q->wpAny (model X.prog X.w) X.A (eval e X.env) (EP X pins σ Q) X.xe s
def PT(X:Cx)(e:Expr)(t:TT):Prop :=
 ∀(pins:List (Addr×Obj))(s:Shared)(σ:St)(H:Hp)(Q:Bool->Hp->Prop),Inv X pins σ H s->t σ H Q->wpAny (model X.prog X.w) X.A (isTrue e X.env (eval e X.env)) (TP X pins σ Q) X.xe s
def PW(X:Cx)(e:Expr)(t:TT):Prop :=
 ∀(whole:Sem Value)(pins:List (Addr×Obj))(s:Shared)(σ:St)(H:Hp)(Q:Bool->Hp->Prop),Inv X pins σ H s->t σ H Q->wpAny (model X.prog X.w) X.A (isTrue e X.env whole) (TP X pins σ Q) X.xe s
theorem PW.pt(h:PW X e t):PT X e t:=h _
def PA(X:Cx)(es:List Expr)(t:TA):Prop :=
 ∀(pos:Pos)(pins:List (Addr×Obj))(s:Shared)(σ:St)(H:Hp)(Q:List V->Hp->Prop),Inv X pins σ H s->t σ H Q->wpAny (model X.prog X.w) X.A (spliced (backTo pos (starEach es X.env))) (AP X pins σ Q) X.xe s
def PS(X:Cx)(st:Stmt)(t:TS):Prop :=
 ∀(pins:List (Addr×Obj))(s:Shared)(σ:St)(H:Hp)(D:Ends),Inv X pins σ H s->t D σ H->wpAny (model X.prog X.w) X.A (exec st X.env) (SP X pins D) X.xe s
def PSs(X:Cx)(st:List Stmt)(t:TS):Prop :=
 ∀(pins:List (Addr×Obj))(s:Shared)(σ:St)(H:Hp)(D:Ends),Inv X pins σ H s->t D σ H->wpAny (model X.prog X.w) X.A (execs st X.env) (SP X pins D) X.xe s
theorem thn{α:Type}{t:Sem α}{Q Q':α->Shared->Prop}{M:Model}{A:Around}{E:Value->Shared->Prop}{s:Shared}(h:wpAny M A t Q E s)(hQ:∀a s,Q a s->Q' a s):wpAny M A t Q' E s:=wpAny_mono h hQ λ_ _ x=>x
section
variable {X:Cx}
def tVar(i:Nat):TE:=λσ H Q=>∃v,σ[i]?=some (some v)/\Q v H
def tC(v:V):TE:=λ_ H Q=>Q v H
theorem pe_var(hN:X.N[i]?=some x)(hv:Vis X.env.scope x)(hd:(x==("__debug__" : Str))=false:=by decide)(hcd:(x==("__classdict__" : Str))=false:=by decide):PE X (.Name x pos) (tVar i):=by
 intro pins s σ H Q I h;obtain⟨v,e,h⟩:=h;obtain⟨m,hn,hl⟩:=I.loc;obtain⟨u,r,l⟩:=hl i x v hN e hv;have fin:EP X pins σ Q u s:=⟨v,H,I,r,h⟩;rcases l with⟨hk,hm⟩|⟨hk,c,hc,hcell⟩
 ·exact wpAny_Name (wpAny_loadName_local I.ok.kind hk hn hm fin) hd
 ·rcases hk with hk|hk
  ·exact wpAny_Name (wpAny_loadName_cell I.ok.kind hk hc hcell fin) hd
  ·exact wpAny_Name (wpAny_loadName_free I.ok.kind hk hc hcell fin hcd) hd
theorem pe_int:PE X (.Constant (.int i) j pos) (tC (.int i)):=λ_ _ _ H _ I h=>wpAny_Constant_int ⟨.int i,H,I.tok _,⟨_,rfl⟩,h⟩
theorem pe_bl:PE X (.Constant (.bool b) j pos) (tC (.bl b)):=λ_ _ _ H _ I h=>Constant_bool ⟨.bl b,H,I,rfl,h⟩
theorem pe_non:PE X (.Constant .none j pos) (tC .non):=λ_ _ _ H _ I h=>Constant_none ⟨.non,H,I,rfl,h⟩
theorem pe_str:PE X (.Constant (.str x) j pos) (tC (.str x)):=λ_ _ _ H _ I h=>Calls.Constant_str ⟨.str x,H,I.tok _,⟨_,rfl⟩,h⟩
def Gl(X:Cx)(x:Str):Prop:=X.env.kindOf x=some .globalImplicit
theorem zM(I:Inv X pins σ H s)(hg:Gl X x)(hm:X.mg x=some u)(h:Q u s)(hd:(x==("__debug__" : Str))=false:=by decide):wpAny (model X.prog X.w) X.A (eval (.Name x pos) X.env) Q E s :=
 Calls.Name_function_global I.ok.kind hg (Calls.loadGlobal_global (by rw[I.ok.glob]; exact I.mod.glob.keeps I.bk) hm h) hd
theorem Xl(I:Inv X pins σ H s)(hg:Gl X x)(hm:X.mg x=none)(hv:bootBuiltins x=some u)(h:Q u s)(hn:x ≠ "__name__" := by decide)(hd:(x==("__debug__" : Str))=false:=by decide):wpAny (model X.prog X.w) X.A (eval (.Name x pos) X.env) Q E s:=by
 obtain⟨mb,h1,h2⟩:=I.mod.blt;exact Calls.Name_function_global I.ok.kind hg (Calls.loadGlobal_builtin (by rw[I.ok.glob]; exact I.mod.glob.keeps I.bk) hm (by rw[I.ok.blt]; exact h1.keeps I.bk) ((h2 x hn).trans hv) h) hd
theorem W5(hg:Gl X x)(hm:X.mg x=some u)(r:RelV v u)(hd:(x==("__debug__" : Str))=false:=by decide):PE X (.Name x pos) (tC v) :=
 λ_ _ _ H _ I h=>zM I hg hm ⟨v,H,I,r,h⟩ hd
variable {a b:Expr} {ta tb:TE} {pos:Pos}
def PC(X:Cx)(op:CmpOp)(a b:Expr)(t:TE):Prop :=
 ∀(pins:List (Addr×Obj))(s:Shared)(σ:St)(H:Hp)(Q:VK),Inv X pins σ H s->t σ H Q ->
  wpAny (model X.prog X.w) X.A (eval a X.env) (λv s₁=>wpAny (model X.prog X.w) X.A (eval b X.env) (λu s₂=>wpAny (model X.prog X.w) X.A (compareOp op v u) (EP X pins σ Q) X.xe s₂) X.xe s₁) X.xe s
def tB(t:TE):TT:=λσ H Q=>t σ H λx H1=>∃c,x=.bl c/\Q c H1
theorem pt_cmp(h:PC X op a b t)(h1:behindInMarks op b=false:=by first|exact nobehind _ (by decide) (by decide)|rfl):PT X (.Compare a [op] [b] pos) (tB t):=by
 intro pins s σ H Q I hw;refine wpAny_isTrue_Compare1 (thn (h pins s σ H _ I hw) λv s1 h1=>thn h1 λu s2 h2=>thn h2 λc s3 ⟨x,H1,I1,r1,q1⟩=>?_) h1;obtain⟨d,rfl,q⟩:=q1;cases r1;exact wpAny_truthy_bool ⟨H1,I1,q⟩
variable {tA tB':TT} {rest:List Expr}
def tAnd(t u:TT):TT:=λσ H Q=>t σ H λc H1=>if c=true then u σ H1 Q else Q false H1
def tOr(t u:TT):TT:=λσ H Q=>t σ H λc H1=>if c=true then Q true H1 else u σ H1 Q
def tNot(t:TT):TT:=λσ H Q=>t σ H λc H1=>Q (!c) H1
def ZD(ta tb:TE):TE:=λσ H Q=>ta σ H λx H1=>∃c,x=.bl c/\if c=true then tb σ H1 Q else Q (.bl false) H1
def tOrV(ta tb:TE):TE:=λσ H Q=>ta σ H λx H1=>∃c,x=.bl c/\if c=true then Q (.bl true) H1 else tb σ H1 Q
def tNotV(ta:TE):TE:=λσ H Q=>ta σ H λx H1=>∃c,x=.bl c/\Q (.bl (!c)) H1
def tIf(t:TT)(ta tb:TE):TE:=λσ H Q=>t σ H λc H1=>if c=true then ta σ H1 Q else tb σ H1 Q
end
def SqL(Ξ:PySem.W.Frag)(H:Hp)(a:Addr)(xs:List V):Prop :=
 Rd H a (.lst xs) \/
  ∃(o:Obj)(its:Array Value)(n:Nat),Ξ.lookup a=some o/\o.cls=.type "list" /\ o.dict=none/\o.data=.seq its n/\its.size<=sizeLine/\Vals xs its.toList
def SqT(Ξ:PySem.W.Frag)(H:Hp)(a:Addr)(xs:List V):Prop :=
 Rd H a (.tup xs) \/
  ∃(o:Obj)(its:Array Value)(n:Nat),Ξ.lookup a=some o/\o.cls=.type "tuple" /\ o.data=.seq its n/\its.size<=sizeLine/\Vals xs its.toList
def absV:Value->Option V
 |.none=>some .non
 |.bool b=>some (.bl b)
 |.int i _=>some (.int i)
 |.str x _=>some (.str x)
 |.bytes b _=>some (.byt b)
 |.float b _=>some (.flt b)
 |.ref a=>some (.ref a)
 |.type n=>some (.ty n)
 |_=>none
theorem RelV.abs(r:RelV x u):absV u=some x:=by
 cases x with
 |non=>cases r; rfl
 |bl _=>cases r; rfl
 |int _=>obtain⟨t,rfl⟩:=r; rfl
 |str _=>obtain⟨t,rfl⟩:=r; rfl
 |byt _=>obtain⟨t,rfl⟩:=r; rfl
 |flt _=>obtain⟨t,rfl⟩:=r; rfl
 |ref _=>cases r; rfl
 |ty _=>cases r; rfl
theorem RelV.inj(r:RelV x u)(q:RelV y u):x=y:=Option.some.inj (r.abs.symm.trans q.abs)
theorem Vals.inj:∀{xs ys:List V}{us:List Value},Vals xs us->Vals ys us->xs=ys
 |_,_,_, .nil, .nil=>rfl
 |_,_,_, .cons r t, .cons r' t'=>by rw[r.inj r',Vals.inj t t']
section
theorem SqL.of(h:H a=some (.lst xs)):SqL Ξ H a xs:=.inl (.inl h)
theorem SqT.of(h:H a=some (.tup xs)):SqT Ξ H a xs:=.inl (.inl h)
theorem Inv.list(I:Inv X pins σ H s)(h:SqL X.K H a xs):∃its:List Value,Vals xs its/\PlainL s.heap a its.toArray/\xs.length<=sizeLine:=by
 rcases h with h|⟨o,its,n,hk,hc,hd,hs,hz,r⟩
 ·obtain⟨z,its,n,r,e⟩:=h.ok I.hok
  exact⟨its,r,⟨_,n,e,rfl,rfl,rfl⟩,z⟩
 ·refine⟨its.toList,r,⟨o,n,I.kIn a o hk,hc,hd,by simpa using hs⟩, ?_⟩
  have e:=r.length;simp only[R5] at e;lia
theorem Inv.tuple(I:Inv X pins σ H s)(h:SqT X.K H a xs):∃its:List Value,Vals xs its/\IsTup s.heap a its.toArray/\xs.length<=sizeLine:=by
 rcases h with h|⟨o,its,n,hk,hc,hs,hz,r⟩
 ·obtain⟨z,its,r,p⟩:=h.ok I.hok
  exact⟨its,r,p,z⟩
 ·refine⟨its.toList,r,⟨o,I.kIn a o hk,hc,n,by simpa using hs⟩, ?_⟩
  have e:=r.length;simp only[R5] at e;lia
theorem Inv.list_inj(I:Inv X pins σ H s)(h:SqL X.K H a xs)(h':SqL X.K H a ys):xs=ys:=by
 obtain⟨its,r,⟨o,n,e,_,_,d⟩,_⟩:=I.list h;obtain⟨its',r',⟨o',n',e',_,_,d'⟩,_⟩:=I.list h';rw[e] at e'; cases e';rw[d] at d';injection d' with d1 _
 have:its=its':=by simpa using congrArg Array.toList d1
 subst this;exact r.inj r'
end
abbrev Cx.wish(X:Cx)(E:Value->Shared->Prop):Cx:={ X with xe:=E }
abbrev Cx.nox(X:Cx):Cx:=X.wish λ_ _=>False
theorem Cx.Ok.wish{X:Cx}(ok:X.Ok)(E:Value->Shared->Prop):(X.wish E).Ok :=
 ⟨ok.mod,ok.kind,ok.glob,ok.blt,ok.above,ok.inj,ok.has,ok.cab,ok.hd,ok.frames,ok.stk,ok.exf,ok.bs,ok.bsz,ok.noex,ok.exfs,ok.funs,ok.frf⟩
theorem Cx.Ok.unwish{X:Cx}(ok:(X.wish E).Ok):X.Ok :=
 ⟨ok.mod,ok.kind,ok.glob,ok.blt,ok.above,ok.inj,ok.has,ok.cab,ok.hd,ok.frames,ok.stk,ok.exf,ok.bs,ok.bsz,ok.noex,ok.exfs,ok.funs,ok.frf⟩
section
theorem Inv.wish(I:Inv X pins σ H s)(E:Value->Shared->Prop):Inv (X.wish E) pins σ H s:=⟨I.ok.wish E,I.os,I.bare,I.base,I.loc,I.cell,I.free,I.freeC,I.pin,I.hok,I.len⟩
theorem Inv.unwish(I:Inv (X.wish E) pins σ H s):Inv X pins σ H s:=⟨I.ok.unwish,I.os,I.bare,I.base,I.loc,I.cell,I.free,I.freeC,I.pin,I.hok,I.len⟩
theorem SP.unwish(h:SP (X.wish E) pins D f s'):SP X pins D f s':=by
 cases f with
 |next=>obtain⟨σ',H',I,q⟩:=h; exact⟨σ',H',I.unwish,q⟩
 |brk=>obtain⟨σ',H',I,q⟩:=h; exact⟨σ',H',I.unwish,q⟩
 |cont=>obtain⟨σ',H',I,q⟩:=h; exact⟨σ',H',I.unwish,q⟩
 |ret u=>obtain⟨v,σ',H',I,r,q⟩:=h; exact⟨v,σ',H',I.unwish,r,q⟩
theorem PE.nox(h:PE X.nox e t):PE X e t:=λpins s σ H Q I hw =>
 wpAny_mono (h pins s σ H Q (I.wish _) hw) (λ_ _ ⟨v,H',I',r,q⟩=>⟨v,H',I'.unwish,r,q⟩) λ_ _ z=>False.elim z
theorem PT.nox(h:PT X.nox e t):PT X e t:=λpins s σ H Q I hw =>
 wpAny_mono (h pins s σ H Q (I.wish _) hw) (λ_ _ ⟨H',I',q⟩=>⟨H',I'.unwish,q⟩) λ_ _ z=>False.elim z
theorem PSs.nox{st:List Stmt}(h:PSs X.nox st t):PSs X st t:=λpins s σ H D I hw =>
 wpAny_mono (h pins s σ H D (I.wish _) hw) (λ_ _ q=>q.unwish) λ_ _ z=>False.elim z
end
section
def Vx:TS:=λD σ H=>D.nx σ H
def tSeq(t u:TS):TS:=λD σ H=>t { D with nx:=u D } σ H
theorem pss_nil:PSs X [] Vx:=λ_ _ σ H _ I h=>wpAny_execs_nil ⟨σ,H,I,h⟩
theorem Inv.quiet(I:Inv X pins σ H s):interactive X.env=false:=by simp[interactive,I.ok.kind]
def ZC(te:TE):TS:=λD σ H=>te σ H λ_ H1=>D.nx σ H1
def tRet(te:TE):TS:=λD σ H=>te σ H D.rt
def Zz:TS:=λD _ H=>D.rt .non H
theorem ps_retN:PS X (.Return none pos) Zz:=λ_ _ σ H _ I h=>wpAny_Return_none ⟨.non,σ,H,I,rfl,h⟩
def tIfS(c:TT)(t u:TS):TS:=λD σ H=>c σ H λb H1=>if b=true then t D σ H1 else u D σ H1
end
abbrev TG:=V->St->Hp->(St->Hp->Prop)->Prop
abbrev TGs:=List V->St->Hp->(St->Hp->Prop)->Prop
def PG(X:Cx)(target:Expr)(t:TG):Prop :=
 ∀(pins:List (Addr×Obj))(s:Shared)(σ:St)(H:Hp)(v:V)(u:Value)(Q:St->Hp->Prop),Inv X pins σ H s->RelV v u->t v σ H Q ->
  wpAny (model X.prog X.w) X.A (assign target X.env u) (λ_ s'=>∃σ' H',Inv X pins σ' H' s'/\Q σ' H') X.xe s
def PGs(X:Cx)(ts:List Expr)(t:TGs):Prop :=
 ∀(pins:List (Addr×Obj))(s:Shared)(σ:St)(H:Hp)(vs:List V)(us:List Value)(Q:St->Hp->Prop),Inv X pins σ H s->Vals vs us->t vs σ H Q ->
  wpAny (model X.prog X.w) X.A (assignInOrder ((assignEach ts X.env).map (·.2)) us) (λ_ s'=>∃σ' H',Inv X pins σ' H' s'/\Q σ' H') X.xe s
abbrev TSet:=V->V->V->Hp->(Hp->Prop)->Prop
def PSet(X:Cx)(t:TSet):Prop :=
 ∀(pins:List (Addr×Obj))(s:Shared)(σ:St)(H:Hp)(o i v:V)(ov iv u:Value)(Q:Hp->Prop),Inv X pins σ H s->RelV o ov->RelV i iv->RelV v u->t o i v H Q ->
  wpAny (model X.prog X.w) X.A (setItem ov iv u) (λ_ s'=>∃H',Inv X pins σ H' s'/\Q H') X.xe s
abbrev TIp:=V->V->Hp->VK->Prop
def PIp(X:Cx)(op:Operator)(t:TIp):Prop :=
 ∀(pins:List (Addr×Obj))(s:Shared)(σ:St)(H:Hp)(x y:V)(v u:Value)(Q:VK),Inv X pins σ H s->RelV x v->RelV y u->t x y H Q ->
  wpAny (model X.prog X.w) X.A (inplaceOp op v u) (EP X pins σ Q) X.xe s
section
def qM(i:Nat):TG:=λv σ H Q=>Q (σ.set i (some v)) H
theorem j7(hN:X.N.Nodup)(hi:X.N[i]?=some x)(hx:Loc X.env.scope x)(hf:X.fn x=true\/X.env.scope.names.lookup x=some .local:=by first|exact .inl rfl|exact .inr rfl|assumption):PG X (.Name x pos) (qM i):=by
 intro pins s σ H v u Q I r h;exact wpAny_assign_Name (xC I hN hi hx r (λs' I'=>⟨_,H,I',h⟩) hf)
def gNil:TGs:=λvs σ H Q=>vs=[]/\Q σ H
def vj(t:TG)(u:TGs):TGs:=λvs σ H Q=>∃v r,vs=v::r/\t v σ H λσ' H'=>u r σ' H' Q
theorem Jx:PGs X [] gNil:=by
 intro pins s σ H vs us Q I r h;obtain⟨e,h⟩:=h;subst e;cases r;exact assignInOrder_nil ⟨σ,H,I,h⟩
theorem xE(h1:PG X e t)(h2:PGs X es u)(hs:(assignEach (e::es) X.env).map (·.2)=assign e X.env::(assignEach es X.env).map (·.2):=by rfl):PGs X (e::es) (vj t u):=by
 intro pins s σ H vs us Q I r h;obtain⟨v,vr,e1,h⟩:=h;subst e1;cases r with
 |cons r rr =>
  rw[hs];refine assignInOrder_cons (thn (h1 pins s σ H _ _ _ I r h) λ_ s1 ⟨σ1,H1,I1,q1⟩=>?_);exact h2 pins s1 σ1 H1 _ _ Q I1 rr q1
def gTup(Ξ:PySem.W.Frag)(n:Nat)(t:TGs):TG:=λv σ H Q=>∃a xs,v=.ref a/\SqT Ξ H a xs/\xs.length=n/\t xs σ H Q
theorem W3(hc:X.calm=true)(h:PGs X es t)(hn:(assignEach es X.env).length=n:=by rfl)(hst:(assignEach es X.env).findIdx? (·.1)=none:=by rfl):PG X (.Tuple es k pos) (gTup X.K n t):=by
 intro pins s σ H v u Q I r hw;obtain⟨a,xs,e1,hq,hl,hw⟩:=hw;subst e1;cases r;obtain⟨its,rv,ht,hz⟩:=I.tuple hq;refine assign_Tuple_tuple (I.ok.hd hc) ht (by simp[hn, <-hl,rv.length]) hst λh' hx=>?_;have I1:Inv X pins σ H { s with heap:=h' }:=I.kept (t':=s.toks) λb o e=>hx b o (UH (Heap.lt_size e)) e;exact h pins _ σ H xs _ Q I1 (by simpa using rv) hw
def gSub(to ti:TE)(t:TSet):TG:=λv σ H Q=>to σ H λo H1=>ti σ H1 λi H2=>t o i v H2 λH3=>Q σ H3
def tAsg(te:TE)(g:TG):TS:=λD σ H=>te σ H λx H1=>g x σ H1 D.nx
def tPar(i j:Nat)(ta:TA):TS:=λD σ H=>ta σ H λvs H1=>∃v w,vs=[v,w]/\D.nx ((σ.set i (some v)).set j (some w)) H1
def tAug(i:Nat)(te:TE)(ti:TIp):TS:=λD σ H=>∃x,σ[i]?=some (some x)/\te σ H λy H1=>ti x y H1 λz H2=>D.nx (σ.set i (some z)) H2
def ipI(f:Int->Int->Int):TIp:=λx y H Q=>∃i j,x=.int i/\y=.int j/\Q (.int (f i j)) H
theorem ip_add:PIp X .Add (ipI λi j=>i+j):=by
 intro pins s σ H x y v u Q I r1 r2 h;obtain⟨i,j,e1,e2,q⟩:=h;subst e1; subst e2;obtain⟨t,rfl⟩:=r1;obtain⟨t',rfl⟩:=r2;exact iadd_int ⟨.int _,H,I.tok _,⟨_,rfl⟩,q⟩
end
section
def Kq(c:TT)(tb:TS):TS:=λD σ H=>∃W:Nat->St->Hp->Prop,(∃m,W m σ H)/\∀m σ H,W m σ H ->
 c σ H λb H1=>if b=true then ∃N:St->Hp->Prop,(∀σ' H',N σ' H'->∃m',m'<m/\W m' σ' H')/\tb { D with nx:=N,ct:=N,bk:=D.nx } σ H1 else D.nx σ H1
end
structure It where
 go:Nat->Hp->Prop
 yld:Nat->Hp->V->Hp->Prop
 stop:Nat->Hp->Prop
def FpOk(X:Cx)(pins:List (Addr×Obj))(H:Hp)(b:Addr):Prop :=
 H b=none/\b≠X.env.locals/\b∉X.fs/\(b∈X.ex\/X.s₀.heap.objs.size<=b)/\(∀x c,X.env.cells.lookup x=some c->c≠b)/\∀p∈X.pn++pins,p.1≠b
theorem Inv.fpOk(I:Inv X pins σ H s)(hb:s.heap.objs.size<=b)(hn:H' b=none):FpOk X pins H' b:=by
 refine⟨hn,Bl (Uy I.lt hb),I.nofs hb, .inr (UL I.sz hb),λx c e z=>?_,λp hp z=>?_⟩
 ·obtain⟨v,q⟩:=I.cell x c e
  exact absurd (Uy q.lt (by rw[z]; exact hb)) (Dm _)
 ·exact absurd (Uy (Heap.lt_size (I.pin p hp).1) (by rw[z]; exact hb)) (Dm _)
structure Turn(P:Program)(w:World)(Ξ:PySem.W.Frag)(tg:Expr)(J:It)(fp:List Addr)(it:Addr)(tn:Nat->Heap->Prop):Prop where
 mem:it∈fp
 obj:∀i h,tn i h->∀b∈fp,∃o,h.get? b=some o/\∀v,o.data ≠ .cell v
 keep:∀i h h',tn i h->(∀b∈fp,∀o,h.get? b=some o->h'.get? b=some o)->tn i h'
 item:∀(X:Cx),X.prog=P->X.w=w->X.K=Ξ->X.calm=true->∀(i:Nat)(pins:List (Addr×Obj))(s:Shared)(σ:St)(H:Hp)(E:Value->Shared->Prop),Inv X pins σ H s->(∀b∈fp,FpOk X pins H b)->tn i s.heap->J.go i H ->
  wpAny (model P w) X.A (pyNext (.ref it)) (λr s1=>∃u,r=some u /\
   wpAny (model P w) X.A (letOwnedTupleGo tg (.ref it) u) (λ_ s2=>∃x H',Inv X pins σ H' s2/\RelV x u/\J.yld i H x H'/\tn (i+1) s2.heap/\∀b∈fp,H' b=none) E s1) E s
 done:∀(X:Cx),X.prog=P->X.w=w->X.K=Ξ->X.calm=true->∀(i:Nat)(pins:List (Addr×Obj))(s:Shared)(σ:St)(H:Hp)(E:Value->Shared->Prop),Inv X pins σ H s->(∀b∈fp,FpOk X pins H b)->tn i s.heap->J.stop i H ->
  wpAny (model P w) X.A (pyNext (.ref it)) (λr s1=>r=none/\Inv X pins σ H s1) E s
 self:∀(A:Around)(i:Nat)(s:Shared)(Q:Value->Shared->Prop)(E:Value->Shared->Prop),tn i s.heap->Q (.ref it) s->wpAny (model P w) A (pyIter (.ref it)) Q E s
abbrev TI:=St->Hp->(It->Hp->Prop)->Prop
def PIE(X:Cx)(pins:List (Addr×Obj))(σ:St)(tg:Expr)(R:It->Hp->Prop)(itv:Value)(s2:Shared):Prop :=
 ∃(it:Addr)(fp:List Addr)(tn:Nat->Heap->Prop)(J:It)(H':Hp),itv=.ref it/\Inv X pins σ H' s2/\Turn X.prog X.w X.K tg J fp it tn/\tn 0 s2.heap/\(∀b∈fp,FpOk X pins H' b)/\R J H'
def PI(X:Cx)(tg iter:Expr)(wi:TI):Prop :=
 ∀(pins:List (Addr×Obj))(s:Shared)(σ:St)(H:Hp)(R:It->Hp->Prop),Inv X pins σ H s->wi σ H R ->
  wpAny (model X.prog X.w) X.A (eval iter X.env) (λv s1=>wpAny (model X.prog X.w) X.A (pyIter v) (PIE X pins σ tg R) X.xe s1) X.xe s
theorem go_of(ho:s.heap.get? it=some o)(hc:o.cls=.type n)(hd:o.data=.fields vs)(hn:["enumerate","zip","dict_itemiterator","dict_reverseitemiterator","odict_iterator","itertools.zip_longest","itertools.pairwise"].contains n=false)(hQ:Q () s):wpAny M A (letOwnedTupleGo tg (.ref it) u) Q E s:=by
 unfold letOwnedTupleGo;cases tg<;>first
  |exact wpAny_pure hQ
  | (cases u<;>first
    |exact wpAny_pure hQ
    | (refine wpAny_bind (wpAny_load ho ?_)
       rw[hc,hd];show wpAny M A (if(["enumerate","zip","dict_itemiterator","dict_reverseitemiterator","odict_iterator","itertools.zip_longest","itertools.pairwise"].contains n&&vs[0]?==some (rawInt _))=true then _ else _) Q E s;rw[if_neg (by intro h; rw[hn,Bool.false_and] at h; cases h)];exact wpAny_pure hQ))
def Itl(Ξ:PySem.W.Frag)(a:Addr):It :=
 ⟨λi H=>∃xs x,SqL Ξ H a xs/\xs[i]?=some x,λi H x H'=>H'=H/\∀xs,SqL Ξ H a xs->xs[i]?=some x,λi H=>∃xs,SqL Ξ H a xs/\xs.length<=i⟩
def Itr(lo:Int)(n:Nat):It:=⟨λi _=>i<n,λi H x H'=>H'=H/\x=.int (lo+i),λi _=>n<=i⟩
theorem Y6(a it:Addr):Turn P w Ξ tg (Itl Ξ a) [it] it (λi h=>h.IsListIter it a i) where
 mem:=by simp
 obj:=λi h st b hb=>by
  have e:b=it:=by simpa using hb
  subst e;obtain⟨o,e,c,d⟩:=st;exact⟨o,e,λv z=>by rw[d] at z; cases z⟩
 keep:=λi h h' st k=>st.at λo e=>k it (by simp) o e
 item:=by
  intro X hP hw hK hc i pins s σ H E I hf st hg;subst hP hw hK;obtain⟨xs,x,hq,hx⟩:=hg;obtain⟨its,rv,p,hz⟩:=I.list hq;obtain⟨u,hu,ru⟩:=rv.get hx;obtain⟨f0,f1,f2,f3,f4,f5⟩:=hf it (by simp);refine wpAny_pyNext_list_item st p.isList (x:=u) (by simpa using hu) λh' st' sb=>?_;have I1:Inv X pins σ H { s with heap:=h' }:=I.turned (t':=s.toks) (λb o hb e=>(sb.2 b hb).trans e) f0 f1 f3 f4 f5;obtain⟨o,e,c,d⟩:=id st';exact⟨u,rfl,go_of (s:={ s with heap:=h' }) e c d (by decide) ⟨x,H,I1,ru,⟨rfl,λys hy=>by rw[I.list_inj hy hq]; exact hx⟩,st',λb hb=>(hf b hb).1⟩⟩
 done:=by
  intro X hP hw hK hc i pins s σ H E I hf st hg;subst hP hw hK;obtain⟨xs,hq,hx⟩:=hg;obtain⟨its,rv,p,hz⟩:=I.list hq;obtain⟨f0,f1,f2,f3,f4,f5⟩:=hf it (by simp);have hl:=rv.length;exact wpAny_pyNext_list_end (I.ok.hd hc) st p.isList (by simp; lia) λh' eb=>⟨rfl,I.turned (t':=s.toks) (λb o hb e=>eb b o hb e) f0 f1 f3 f4 f5⟩
 self:=λ_ _ _ _ _ st h=>wpAny_pyIter_listiter st h
theorem Yl(it:Addr)(lo:Int)(n:Nat):Turn P w Ξ tg (Itr lo n) [it] it (λi h=>IsRangeIter h it (lo+(i:Nat)*1) ((n:Int)-(i:Nat)) 1) where
 mem:=by simp
 obj:=λi h st b hb=>by
  have e:b=it:=by simpa using hb
  subst e;exact⟨_,st,λv z=>by
   have z':Data.fields _=Data.cell v:=z;cases z'⟩
 keep:=λi h h' st k=>k it (by simp) _ st
 item:=by
  intro X hP hw hK hc i pins s σ H E I hf st hg;subst hP hw hK;obtain⟨f0,f1,f2,f3,f4,f5⟩:=hf it (by simp);have W:=Walks.range (prog:=X.prog) (w:=X.w) (I.ok.hd hc) it lo 1 n;refine W.item i s _ _ hg st λv h' tk hv st' kk=>?_;obtain⟨t,rfl⟩:=hv;have I1:Inv X pins σ H { s with heap:=h',toks:=tk }:=I.turned (λb o hb e=>kk b o (by simpa using hb) e) f0 f1 f3 f4 f5;refine⟨_,rfl,go_of (s:={ s with heap:=h',toks:=tk }) (n := "range_iterator") st' rfl rfl (by decide) ⟨.int (lo+i),H,I1,⟨t, ?_⟩,⟨rfl,rfl⟩,st',λb hb=>(hf b hb).1⟩⟩;rw[Int.mul_one]
 done:=by
  intro X hP hw hK hc i pins s σ H E I hf st hg;subst hP hw hK;obtain⟨f0,f1,f2,f3,f4,f5⟩:=hf it (by simp);exact wpAny_pyNext_range_end (I.ok.hd hc) st (by have:n<=i:=hg; lia) λh' eb=>⟨rfl,I.turned (t':=s.toks) (λb o hb e=>eb b o hb e) f0 f1 f3 f4 f5⟩
 self:=λ_ _ _ _ _ st h=>wpAny_pyIter_rangeiter st h
section
def YJ(Ξ:PySem.W.Frag)(tl:TE):TI:=λσ H R=>tl σ H λx H1=>∃a,x=.ref a/\(∃xs,SqL Ξ H1 a xs)/\R (Itl Ξ a) H1
theorem pi_list(hl:PE X l tl):PI X tg l (YJ X.K tl):=by
 intro pins s σ H R I h;refine thn (hl pins s σ H _ I h) λv s1 ⟨x,H1,I1,r1,q1⟩=>?_;obtain⟨a,e,⟨xs,hq⟩,q⟩:=q1;subst e;cases r1;obtain⟨its,rv,p,hz⟩:=I1.list hq;refine wpAny_pyIter_list p.isList ?_;refine⟨s1.heap.objs.size, [s1.heap.objs.size],_,_,H1,rfl,I1.kept (t':=s1.toks) λb o e=>Heap.get?_push_of_some _ e,Y6 a _,⟨_,Heap.get?_push_size _ rfl,rfl,rfl⟩,λb hb=>?_,q⟩;have e:b=s1.heap.objs.size:=by simpa using hb
 subst e;exact I1.fpOk (Uk _) (I1.hok.fresh (Uk _))
theorem range_it{lo hi:Int}(I:Inv X pins σ H s)(h1 : -(2^62)<=lo)(h2:lo<2^62)(h3 : -(2^62)<=hi)(h4:hi<2^62)(q:R (Itr lo (hi-lo).toNat) H):wpAny (model X.prog X.w) X.A (pyIter (.ref s.heap.objs.size)) (PIE X pins σ tg R) E { s with heap:=s.heap.push { cls:=.type "range", data:=.fields #[.int lo t, .int hi u, .int 1 v] },toks:=tk }:=by
 refine wpAny_pyIter_range (IsRange.new ..) (small_one h1 h2 h3 h4) ?_;have I1:Inv X pins σ H { s with heap:=s.heap.push { cls:=.type "range", data:=.fields #[.int lo t, .int hi u, .int 1 v] },toks:=tk }:=I.kept λb o e=>Heap.get?_push_of_some _ e;refine⟨(s.heap.push { cls:=.type "range", data:=.fields #[.int lo t, .int hi u, .int 1 v] }).objs.size, [(s.heap.push { cls:=.type "range", data:=.fields #[.int lo t, .int hi u, .int 1 v] }).objs.size],_,_,H,rfl,
  I1.kept (t':=tk) λb o e=>Heap.get?_push_of_some _ e,Yl _ lo (hi-lo).toNat, ?_,λb hb=>?_,q⟩
 ·have e1:lo+((0:Nat):Int)*1=lo:=by simp
  have e2:(((hi-lo).toNat:Nat):Int)-((0:Nat):Int)=Builtin.Range.rangeSize lo hi 1:=by rw[rangeSize_one]; split<;>lia
  show IsRangeIter _ _ (lo+((0:Nat):Int)*1) ((((hi-lo).toNat:Nat):Int)-((0:Nat):Int)) 1;rw[e1,e2];exact Heap.get?_push_size _ rfl
 ·have e:b=(s.heap.push { cls:=.type "range", data:=.fields #[.int lo t, .int hi u, .int 1 v] }).objs.size:=by simpa using hb
  subst e;exact I1.fpOk (Uk _) (I1.hok.fresh (Uk _))
def G5(ta:TA):TI:=λσ H R=>ta σ H λvs H1=>∃j:Int,vs=[.int j] /\ -(2^62)<=j/\j<2^62/\R (Itr 0 j.toNat) H1
def tFor(wi:TI)(g:TG)(tb:TS):TS:=λD σ H=>wi σ H λJ H1=>∃W:Nat->Nat->St->Hp->Prop,(∃m,W 0 m σ H1)/\∀i m σ H,W i m σ H ->
 (J.stop i H/\D.nx σ H)\/(J.go i H/\∃N:St->Hp->Prop,(∀σ' H',N σ' H'->∃m',m'<m/\W (i+1) m' σ' H')/\∀x H',J.yld i H x H'->g x σ H' λσ2 H2=>tb { D with nx:=N,ct:=N,bk:=D.nx } σ2 H2)
def Z1(fp:List Addr)(h:Heap):List (Addr×Obj):=fp.filterMap λb=>(h.get? b).map λo=>(b,o)
theorem xG(hb:b∈fp)(e:h.get? b=some o):(b,o)∈Z1 fp h:=Dj.mpr ⟨b,hb,by rw[e]; rfl⟩
theorem Gu(hp:p∈Z1 fp h):p.1∈fp/\h.get? p.1=some p.2:=by
 obtain⟨b,hb,e⟩:=Dj.mp hp;cases q:h.get? b with
 |none=>rw[q] at e; cases e
 |some o =>
  rw[q] at e;have e':(b,o)=p:=Option.some.inj e;subst e';exact⟨hb,q⟩
theorem Inv.pinned(I:Inv X pins σ H s)(hf:∀b∈fp,FpOk X pins H b)(ho:∀b∈fp,∃o,s.heap.get? b=some o/\∀v,o.data ≠ .cell v):Inv X (pins++Z1 fp s.heap) σ H s :=
 I.pins_of λp hp=>(Uw.mp hp).elim (λz=>I.pin p (UM _ z)) λz=>by
  obtain⟨hb,e⟩:=Gu z;obtain⟨f0,f1,f2,_⟩:=hf p.1 hb;obtain⟨o,e',d⟩:=ho p.1 hb;rw[e] at e'; cases e';exact⟨e,f0,f1,f2,d⟩
theorem Inv.unpinned(I:Inv X (pins++pl) σ H s):Inv X pins σ H s:=I.pins_of λp hp=>I.pin p (UM _ (UD _ hp))
theorem ps_for(hp:PassesOwn (model X.prog X.w) X.A X.env X.xe)(hc:X.calm=true)(hi:PI X tg iter wi)(hg:PG X tg g)(hb:PSs X body tb)(hs:∀x,foldedSetIterable iter X.env x=pure x:=by intro _; rfl):PS X (.For tg iter body [] pos) (tFor wi g tb):=by
 intro pins s σ H D I h;refine wpAny_For (thn (hi pins s σ H _ I h) λv s1 h1=>thn h1 λitv s2 h2=>?_) hs;obtain⟨it,fp,tn,J,H2,e,I2,T,st2,f2,W,⟨m0,w0⟩,turn⟩:=h2;subst e
 -- what stays true of the iterator's objects through the loop
 have stat:∀{H':Hp},(∀b∈fp,H' b=none)->∀b∈fp,FpOk X pins H' b:=λhn b hb=>⟨hn b hb,(f2 b hb).2⟩;refine codeAny_forLoop_any (λn s'=>∃i σ' H',Inv X pins σ' H' s'/\tn i s'.heap/\(∀b∈fp,H' b=none)/\W i n σ' H') ?_ m0 ⟨0,σ,H2,I2,st2,λb hb=>(f2 b hb).1,w0⟩;rintro n s3 ⟨i,σ3,H3,I3,st3,fr3,w3⟩;rcases turn i n σ3 H3 w3 with⟨stop,qn⟩|⟨go,N,hN,step⟩
 ·refine wpAny_passesOwn hp (thn (T.done X rfl rfl rfl hc i pins s3 σ3 H3 X.xe I3 (stat fr3) st3 stop) λr s4 ⟨hr,I4⟩=>?_)
  subst hr;exact wpAny_execs_nil ⟨σ3,H3,I4,qn⟩
 ·refine wpAny_passesOwn hp (thn (T.item X rfl rfl rfl hc i pins s3 σ3 H3 X.xe I3 (stat fr3) st3 go) λr s4 ⟨u,hr,h4⟩=>?_)
  subst hr;refine wpAny_passesOwn hp (thn h4 λ_ s5 ⟨x,H5,I5,r5,y5,st5,fr5⟩=>?_);have I5':=I5.pinned (stat fr5) (T.obj _ _ st5);refine wpAny_passesOwn hp (thn (hg _ s5 σ3 H5 x u _ I5' r5 (step x H5 y5)) λ_ s6 ⟨σ6,H6,I6,q6⟩=>?_);refine wpAny_passesOwn hp (thn (hb _ s6 σ6 H6 _ I6 q6) λf s7 q7=>?_);have again:∀{σ7:St}{H7:Hp},Inv X (pins++Z1 fp s5.heap) σ7 H7 s7->N σ7 H7->∃m,m<n/\∃i σ' H',Inv X pins σ' H' s7/\tn i s7.heap/\(∀b∈fp,H' b=none)/\W i m σ' H':=λ{σ7 H7} I7 n7=>by
   obtain⟨m',hm,w7⟩:=hN σ7 H7 n7;refine⟨m',hm,i+1,σ7,H7,I7.unpinned,T.keep _ _ _ st5 λb hb o e=>(I7.pin (b,o) (UM _ (UM _ (xG hb e)))).1,λb hb=>?_,w7⟩;obtain⟨o,e,d⟩:=T.obj _ _ st5 b hb;exact(I7.pin (b,o) (UM _ (UM _ (xG hb e)))).2.1
  cases f with
  |next=>obtain⟨σ7,H7,I7,n7⟩:=q7; exact again I7 n7
  |cont=>obtain⟨σ7,H7,I7,n7⟩:=q7; exact again I7 n7
  |brk=>obtain⟨σ7,H7,I7,q7⟩:=q7; exact⟨σ7,H7,I7.unpinned,q7⟩
  |ret v=>obtain⟨x7,σ7,H7,I7,r7,q7⟩:=q7; exact⟨x7,σ7,H7,I7.unpinned,r7,q7⟩
end
theorem for_list{g:TG}{tb:TS}{D:Ends}(Pv:Nat->St->Hp->Prop)(h0:Pv 0 σ H)(hl:∀i σ H,i<=xs.length->Pv i σ H->SqL Ξ H a xs)(hs:∀i x σ H,xs[i]?=some x->Pv i σ H->g x σ H λσ2 H2=>tb { D with nx:=Pv (i+1),ct:=Pv (i+1),bk:=D.nx } σ2 H2)(hd:∀σ H,Pv xs.length σ H->D.nx σ H) :
  ∃W:Nat->Nat->St->Hp->Prop,(∃m,W 0 m σ H)/\∀i m σ H,W i m σ H ->
   ((Itl Ξ a).stop i H/\D.nx σ H)\/((Itl Ξ a).go i H/\∃N:St->Hp->Prop,(∀σ' H',N σ' H'->∃m',m'<m/\W (i+1) m' σ' H')/\∀x H',(Itl Ξ a).yld i H x H'->g x σ H' λσ2 H2=>tb { D with nx:=N,ct:=N,bk:=D.nx } σ2 H2):=by
 refine⟨λi m σ H=>m=xs.length-i/\i<=xs.length/\Pv i σ H,⟨xs.length,by simp,UW _,h0⟩, ?_⟩;rintro i m σ H ⟨rfl,hi,p⟩;have q:=hl i σ H hi p;by_cases hlt:i<xs.length
 ·refine .inr ⟨⟨xs,xs[i],q,by simp[hlt]⟩,Pv (i+1),λσ' H' p'=>⟨xs.length-(i+1),by lia,rfl,hlt,p'⟩,λx H' y=>?_⟩
  obtain⟨e,y⟩:=y;subst e;exact hs i x σ _ (y xs q) p
 ·have e:i=xs.length:=by lia
  subst e;exact .inl ⟨⟨xs,q,Uk _⟩,hd σ H p⟩
abbrev R2:=V->V->Hp->VK->Prop
def OpR(X:Cx)(f:Value->Value->Sem Value)(r:R2):Prop :=
 ∀(pins:List (Addr×Obj))(s:Shared)(σ:St)(H:Hp)(x y:V)(v u:Value)(Q:VK),Inv X pins σ H s->RelV x v->RelV y u->r x y H Q ->
  wpAny (model X.prog X.w) X.A (f v u) (EP X pins σ Q) X.xe s
def UnR(X:Cx)(f:Value->Sem Value)(r:V->Hp->VK->Prop):Prop :=
 ∀(pins:List (Addr×Obj))(s:Shared)(σ:St)(H:Hp)(x:V)(v:Value)(Q:VK),Inv X pins σ H s->RelV x v->r x H Q ->
  wpAny (model X.prog X.w) X.A (f v) (EP X pins σ Q) X.xe s
def jv(X:Cx)(f:Value)(r:List V->Hp->VK->Prop):Prop :=
 ∀(pins:List (Addr×Obj))(s:Shared)(σ:St)(H:Hp)(xs:List V)(us:List Value)(Q:VK),Inv X pins σ H s->Vals xs us->r xs H Q ->
  wpAny (model X.prog X.w) X.A (call f us) (EP X pins σ Q) X.xe s
def TruR(X:Cx)(r:V->Hp->(Bool->Hp->Prop)->Prop):Prop :=
 ∀(pins:List (Addr×Obj))(s:Shared)(σ:St)(H:Hp)(x:V)(v:Value)(Q:Bool->Hp->Prop),Inv X pins σ H s->RelV x v->r x H Q ->
  wpAny (model X.prog X.w) X.A (truthy v) (TP X pins σ Q) X.xe s
def tOp(r:R2)(ta tb:TE):TE:=λσ H Q=>ta σ H λx H1=>tb σ H1 λy H2=>r x y H2 Q
def tUn(r:V->Hp->VK->Prop)(ta:TE):TE:=λσ H Q=>ta σ H λx H1=>r x H1 Q
def rI(C:Int->Int->Prop)(g:Int->Int->V):R2:=λx y H Q=>∃i j,x=.int i/\y=.int j/\C i j/\Q (g i j) H
def rI0(g:Int->Int->V):R2:=λx y H Q=>∃i j,x=.int i/\y=.int j/\Q (g i j) H
def rU(g:Int->V):V->Hp->VK->Prop:=λx H Q=>∃i,x=.int i/\Q (g i) H
section
theorem binT(ha:PE X a ta)(hb:PE X b tb){R:V->V->Hp->Prop}(I:Inv X pins σ H s)(h:ta σ H λx H1=>tb σ H1 λy H2=>R x y H2){f:Value->Value->Sem Value}(hf:∀v u s2 x y H2,Inv X pins σ H2 s2->RelV x v->RelV y u->R x y H2->wpAny (model X.prog X.w) X.A (f v u) Q X.xe s2) :
  wpAny (model X.prog X.w) X.A (eval a X.env) (λv s₁=>wpAny (model X.prog X.w) X.A (eval b X.env) (λu s₂=>wpAny (model X.prog X.w) X.A (f v u) Q X.xe s₂) X.xe s₁) X.xe s:=by
 refine thn (ha pins s σ H _ I h) λv s1 ⟨x,H1,I1,r1,q1⟩=>?_;refine thn (hb pins s1 σ H1 _ I1 q1) λu s2 ⟨y,H2,I2,r2,q2⟩=>?_;exact hf v u s2 x y H2 I2 r1 r2 q2
theorem pe_un(ho:UnR X (unaryOp op) r)(ha:PE X a ta):PE X (.UnaryOp op a pos) (tUn r ta):=by
 intro pins s σ H Q I h;exact UnaryOp_ (thn (ha pins s σ H _ I h) λv s1 ⟨x,H1,I1,r1,q1⟩=>ho pins s1 σ H1 x v Q I1 r1 q1)
theorem opI{g:Int->Int->Int}(rule:∀(i j:Int)(t u:Tok)(s:Shared)(Q:Value->Shared->Prop)(E:Value->Shared->Prop),C i j->Q (.int (g i j) s.toks) { s with toks:=s.toks+1 }->wpAny (model X.prog X.w) X.A (f (.int i t) (.int j u)) Q E s) :
  OpR X f (rI C λi j=>.int (g i j)):=by
 intro pins s σ H x y v u Q I rx ry h;obtain⟨i,j,rfl,rfl,hc,q⟩:=h;obtain⟨t,rfl⟩:=rx;obtain⟨t',rfl⟩:=ry;exact rule i j t t' s _ _ hc ⟨.int (g i j),H,I.tok _,⟨_,rfl⟩,q⟩
theorem opI0{g:Int->Int->Int}(rule:∀(i j:Int)(t u:Tok)(s:Shared)(Q:Value->Shared->Prop)(E:Value->Shared->Prop),Q (.int (g i j) s.toks) { s with toks:=s.toks+1 }->wpAny (model X.prog X.w) X.A (f (.int i t) (.int j u)) Q E s) :
  OpR X f (rI0 λi j=>.int (g i j)):=by
 intro pins s σ H x y v u Q I rx ry h;obtain⟨i,j,rfl,rfl,q⟩:=h;obtain⟨t,rfl⟩:=rx;obtain⟨t',rfl⟩:=ry;exact rule i j t t' s _ _ ⟨.int (g i j),H,I.tok _,⟨_,rfl⟩,q⟩
theorem opB0{g:Int->Int->Bool}(rule:∀(i j:Int)(t u:Tok)(s:Shared)(Q:Value->Shared->Prop)(E:Value->Shared->Prop),Q (.bool (g i j)) s->wpAny (model X.prog X.w) X.A (f (.int i t) (.int j u)) Q E s) :
  OpR X f (rI0 λi j=>.bl (g i j)):=by
 intro pins s σ H x y v u Q I rx ry h;obtain⟨i,j,rfl,rfl,q⟩:=h;obtain⟨t,rfl⟩:=rx;obtain⟨t',rfl⟩:=ry;exact rule i j t t' s _ _ ⟨.bl (g i j),H,I,rfl,q⟩
def CPow(i j:Int):Prop:=0<=j/\j<=1000000/\i.natAbs<2^64
def CMul(i j:Int):Prop:=(-(2^64)<i/\i<2^64)\/(-(2^64)<j/\j<2^64)
theorem CMul.ok(h:CMul i j):IntMulOk i j:=by
 rcases h with⟨h1,h2⟩|⟨h1,h2⟩
 ·exact .of_left (intBits_le_64 h1 h2)
 ·exact .of_right (intBits_le_64 h1 h2)
theorem Yk(k:Nat):(0:Int)<=2^k:=by
 rw[two_pow_cast];exact Rj _
theorem qO:OpR X (binaryOp .Add) (rI0 λi j=>.int (i+j)):=opI0 λ_ _ _ _ _ _ _ q=>add_int q
theorem zt:OpR X (binaryOp .Sub) (rI0 λi j=>.int (i-j)):=opI0 λ_ _ _ _ _ _ _ q=>sub_int q
theorem Vi:OpR X (binaryOp .Mult) (rI CMul λi j=>.int (i*j)):=opI λ_ _ _ _ _ _ _ hc q=>mul_int q hc.ok
theorem zu:OpR X (binaryOp .Mod) (rI (λ_ j=>0<j) λi j=>.int (i % j)):=opI λi j _ _ _ _ _ hc q=>by
 have h1:(0:Int)<j:=hc;exact mod_int' (by lia) (by rw[Int.fmod_eq_emod_of_nonneg i (by lia)]; exact q)
theorem op_modN:OpR X (binaryOp .Mod) (rI (λ_ j=>j≠0) λi j=>.int (i.fmod j)):=opI λ_ _ _ _ _ _ _ hc q=>mod_int' hc q
theorem Kz:OpR X (binaryOp .Pow) (rI CPow λi j=>.int (i^j.toNat)):=opI λ_ _ _ _ _ _ _ hc q=>pow_int_small hc.1 hc.2.1 hc.2.2 q
theorem zG:OpR X (binaryOp .LShift) (rI CPow λi j=>.int (i*2^j.toNat)):=opI λ_ _ _ _ _ _ _ hc q=>lshift_int_small hc.1 hc.2.1 hc.2.2 q
theorem op_shr:OpR X (binaryOp .RShift) (rI (λ_ j=>0<=j) λi j=>.int (i / 2^j.toNat)):=opI λi j _ _ _ _ _ hc q =>
 rshift_int hc (by rw[Rh i (Yk _)]; exact q)
theorem op_xor:OpR X (binaryOp .BitXor) (rI0 λi j=>.int (Builtin.bitXor i j)):=opI0 λ_ _ _ _ _ _ _ q=>xor_int q
theorem unI{g:Int->Int}(rule:∀(i:Int)(t:Tok)(s:Shared)(Q:Value->Shared->Prop)(E:Value->Shared->Prop),Q (.int (g i) s.toks) { s with toks:=s.toks+1 }->wpAny (model X.prog X.w) X.A (f (.int i t)) Q E s) :
  UnR X f (rU λi=>.int (g i)):=by
 intro pins s σ H x v Q I rx h;obtain⟨i,rfl,q⟩:=h;obtain⟨t,rfl⟩:=rx;exact rule i t s _ _ ⟨.int (g i),H,I.tok _,⟨_,rfl⟩,q⟩
theorem YX:UnR X (unaryOp .USub) (rU λi=>.int (-i)):=unI λ_ _ _ _ _ q=>neg_int q
end
def scal:V->V->Bool
 |.non, .non=>true | .non, .int _=>true | .int _, .non=>true | .non, .bl _=>true | .bl _, .non=>true | .non, .str _=>true | .str _, .non=>true
 |.int _, .int _=>true | .bl _, .bl _=>true | .str _, .str _=>true | .byt _, .byt _=>true
 |.int _, .str _=>true | .str _, .int _=>true | .bl _, .str _=>true | .str _, .bl _=>true
 |_,_=>false
def rEq:R2:=λx y H Q=>scal x y=true/\Q (.bl (decide (x=y))) H
def rNe:R2:=λx y H Q=>scal x y=true/\Q (.bl (!decide (x=y))) H
theorem qaq:decide (V.int i=V.int j)=(i==j):=by
 rw[D4];simp
theorem dec_bl:decide (V.bl i=V.bl j)=(i==j):=by
 rw[D4];simp
theorem qap:decide (V.str i=V.str j)=(i==j):=by
 rw[D4];simp
theorem qar:decide (V.byt i=V.byt j)=(i.toList==j.toList):=by
 rw[D4];cases i;cases j;simp
section
theorem vd(I:Inv X pins σ H s)(q:Q (.bl k) H)(e:k=k'):EP X pins σ Q (.bool k') s:=by
 subst e;exact⟨.bl k,H,I,rfl,q⟩
theorem zB:OpR X (compareOp .Eq) rEq:=by
 intro pins s σ H x y v u Q I rx ry h;obtain⟨hs,q⟩:=h;cases x with
 |non =>
  cases rx;cases y with
  |non=>cases ry; exact PySem.EqNone.eq_none_none (vd I q (by simp))
  |bl j=>cases ry; exact PySem.EqNone.eq_none_bool (vd I q (by simp))
  |int j=>obtain⟨t',rfl⟩:=ry; exact PySem.EqNone.eq_none_int (vd I q (by simp))
  |str j=>obtain⟨t',rfl⟩:=ry; exact PySem.EqNone.eq_none_str (vd I q (by simp))
  |_=>exact absurd (show false=true from hs) Ut
 |bl i =>
  cases rx;cases y with
  |non=>cases ry; exact PySem.EqNone.eq_bool_none (vd I q (by simp))
  |bl j=>cases ry; exact eq_bool (vd I q dec_bl)
  |str j=>obtain⟨t',rfl⟩:=ry; exact PySem.EqMixed.eq_bool_str (vd I q (by simp))
  |_=>exact absurd (show false=true from hs) Ut
 |int i =>
  obtain⟨t,rfl⟩:=rx;cases y with
  |non=>cases ry; exact PySem.EqNone.eq_int_none (vd I q (by simp))
  |int j=>obtain⟨t',rfl⟩:=ry; exact eq_int (vd I q qaq)
  |str j=>obtain⟨t',rfl⟩:=ry; exact PySem.EqMixed.eq_int_str (vd I q (by simp))
  |_=>exact absurd (show false=true from hs) Ut
 |str i =>
  obtain⟨t,rfl⟩:=rx;cases y with
  |non=>cases ry; exact PySem.EqNone.eq_str_none (vd I q (by simp))
  |bl j=>cases ry; exact PySem.EqMixed.eq_str_bool (vd I q (by simp))
  |int j=>obtain⟨t',rfl⟩:=ry; exact PySem.EqMixed.eq_str_int (vd I q (by simp))
  |str j=>obtain⟨t',rfl⟩:=ry; exact eq_str (vd I q qap)
  |_=>exact absurd (show false=true from hs) Ut
 |byt i =>
  obtain⟨t,rfl⟩:=rx;cases y with
  |byt j=>obtain⟨t',rfl⟩:=ry; exact W.eq_bytes (vd I q qar)
  |_=>exact absurd (show false=true from hs) Ut
 |_=>cases y<;>exact absurd (show false=true from hs) Ut
theorem op_ne:OpR X (compareOp .NotEq) rNe:=by
 intro pins s σ H x y v u Q I rx ry h;obtain⟨hs,q⟩:=h;cases x with
 |non =>
  cases rx;cases y with
  |non=>cases ry; exact PySem.EqNone.ne_none_none (vd I q (by simp))
  |bl j=>cases ry; exact PySem.EqNone.ne_none_bool (vd I q (by simp))
  |int j=>obtain⟨t',rfl⟩:=ry; exact PySem.EqNone.ne_none_int (vd I q (by simp))
  |str j=>obtain⟨t',rfl⟩:=ry; exact PySem.EqNone.ne_none_str (vd I q (by simp))
  |_=>exact absurd (show false=true from hs) Ut
 |bl i =>
  cases rx;cases y with
  |non=>cases ry; exact PySem.EqNone.ne_bool_none (vd I q (by simp))
  |bl j=>cases ry; exact ne_bool (vd I q (congrArg not dec_bl))
  |str j=>obtain⟨t',rfl⟩:=ry; exact PySem.EqMixed.ne_bool_str (vd I q (by simp))
  |_=>exact absurd (show false=true from hs) Ut
 |int i =>
  obtain⟨t,rfl⟩:=rx;cases y with
  |non=>cases ry; exact PySem.EqNone.ne_int_none (vd I q (by simp))
  |int j=>obtain⟨t',rfl⟩:=ry; exact ne_int (vd I q (congrArg not qaq))
  |str j=>obtain⟨t',rfl⟩:=ry; exact PySem.EqMixed.ne_int_str (vd I q (by simp))
  |_=>exact absurd (show false=true from hs) Ut
 |str i =>
  obtain⟨t,rfl⟩:=rx;cases y with
  |non=>cases ry; exact PySem.EqNone.ne_str_none (vd I q (by simp))
  |bl j=>cases ry; exact PySem.EqMixed.ne_str_bool (vd I q (by simp))
  |int j=>obtain⟨t',rfl⟩:=ry; exact PySem.EqMixed.ne_str_int (vd I q (by simp))
  |str j=>obtain⟨t',rfl⟩:=ry; exact ne_str (vd I q (congrArg not qap))
  |_=>exact absurd (show false=true from hs) Ut
 |byt i =>
  obtain⟨t,rfl⟩:=rx;cases y with
  |byt j=>obtain⟨t',rfl⟩:=ry; exact W.ne_bytes (vd I q (congrArg not qar))
  |_=>exact absurd (show false=true from hs) Ut
 |_=>cases y<;>exact absurd (show false=true from hs) Ut
theorem Z3:OpR X (compareOp .Lt) (rI0 λi j=>.bl (decide (i<j))):=opB0 λ_ _ _ _ _ _ _ q=>lt_int q
theorem op_le:OpR X (compareOp .LtE) (rI0 λi j=>.bl (decide (i<=j))):=opB0 λ_ _ _ _ _ _ _ q=>le_int q
theorem op_gt:OpR X (compareOp .Gt) (rI0 λi j=>.bl (decide (j<i))):=opB0 λ_ _ _ _ _ _ _ q=>gt_int q
theorem op_ge:OpR X (compareOp .GtE) (rI0 λi j=>.bl (decide (j<=i))):=opB0 λ_ _ _ _ _ _ _ q=>ge_int q
theorem op_isN:OpR X (compareOp .Is) (λx y H Q=>y=.non/\Q (.bl (decide (x=.non))) H):=by
 intro pins s σ H x y v u Q I rx ry h;obtain⟨rfl,q⟩:=h;cases ry;refine is_none_gen (vd I q ?_);cases x<;>first
  | (cases rx; rfl)
  | (obtain⟨t,rfl⟩:=rx; rfl)
theorem op_notN:OpR X (compareOp .IsNot) (λx y H Q=>y=.non/\Q (.bl (!decide (x=.non))) H):=by
 intro pins s σ H x y v u Q I rx ry h;obtain⟨rfl,q⟩:=h;cases ry;refine isnot_none_gen (vd I q ?_);cases x<;>first
  | (cases rx; rfl)
  | (obtain⟨t,rfl⟩:=rx; rfl)
theorem qI(b:Expr)(h:op ≠ .In:=by decide)(h2:op ≠ .NotIn:=by decide):behindInMarks op b=false:=by
 have e1:(op==CmpOp.In)=false:=by cases op<;>first|rfl|exact absurd rfl h
 have e2:(op==CmpOp.NotIn)=false:=by cases op<;>first|rfl|exact absurd rfl h2
 cases b<;>simp[behindInMarks,e1,e2]
def Vw(t:TE):TT:=λσ H Q=>t σ H λx H'=>∃k,x=.bl k/\Q k H'
def kr(r r':R2)(ta tb tc:TE):TE:=λσ H Q=>ta σ H λx H1=>tb σ H1 λy H2=>r x y H2 λz H3=>∃k,z=.bl k /\
 (if k=true then tc σ H3 λw' H4=>r' y w' H4 Q else Q (.bl false) H3)
def TruV(Ξ:PySem.W.Frag)(x:V)(H:Hp)(k:Bool):Prop :=
 match x with
 |.non=>k=false
 |.bl b=>k=b
 |.int i=>k=(i != 0)
 |.str y=>y.length<=sizeLine/\k=((y.length:Int) != 0)
 |.byt y=>y.size<=sizeLine/\k=((y.size:Int) != 0)
 |.ref p=>(∃xs,SqL Ξ H p xs/\k = !xs.isEmpty)\/(∃xs,SqT Ξ H p xs/\k = !xs.isEmpty)\/∃kvs,H p=some (.dK kvs)/\k = !kvs.isEmpty
 |_=>False
theorem YI{κ:Type}{kvs:List (κ×V)}{vs:List (κ×Value)}(r:KV kvs vs):(!vs.isEmpty) = !kvs.isEmpty:=by
 cases r<;>rfl
theorem Vk(r:Vals xs its):(!its.toArray.isEmpty) = !xs.isEmpty:=by
 cases r<;>simp
theorem Xi:(sizeLine:Nat)<2^63:=by rw[sizeLine_eq]; decide
theorem tru_ok:TruR X (λx H Q=>∃k,TruV X.K x H k/\Q k H):=by
 intro pins s σ H x v Q I rx h;obtain⟨k,e,q⟩:=h;have hl:=Xi;have hs:sizeLine=16777216:=sizeLine_eq;cases x with
 |non =>
  cases rx;have e':k=false:=e;subst e';exact truthy_none ⟨H,I,q⟩
 |bl b =>
  cases rx;have e':k=b:=e;subst e';exact wpAny_truthy_bool ⟨H,I,q⟩
 |int i =>
  obtain⟨t,rfl⟩:=rx;have e':k=(i != 0):=e;subst e';exact PySem.P.truthy_int ⟨H,I,q⟩
 |str y =>
  obtain⟨t,rfl⟩:=rx;obtain⟨hy,e'⟩:y.length<=sizeLine/\k=((y.length:Int) != 0):=e;subst e';exact PySem.P.truthy_str (by lia) ⟨H,I.tok _,q⟩
 |byt y =>
  obtain⟨t,rfl⟩:=rx;obtain⟨hy,e'⟩:y.size<=sizeLine/\k=((y.size:Int) != 0):=e;subst e';exact W.truthy_bytes (by lia) ⟨H,I.tok _,q⟩
 |ref p =>
  cases rx;have e':(∃xs,SqL X.K H p xs/\k = !xs.isEmpty)\/(∃xs,SqT X.K H p xs/\k = !xs.isEmpty)\/∃kvs,H p=some (.dK kvs)/\k = !kvs.isEmpty:=e;rcases e' with⟨xs,hx,e'⟩|⟨xs,hx,e'⟩|⟨kvs,hx,e'⟩
  ·subst e'
   obtain⟨its,r,pl,hz⟩:=I.list hx;have hlen:=r.length;exact wpAny_truthy_list pl.isList (by simp only[Up]; lia) ⟨H,I.tok _,by rw[Vk r]; exact q⟩
  ·subst e'
   obtain⟨its,r,pl,hz⟩:=I.tuple hx;have hlen:=r.length;exact truthy_tuple pl (by simp only[Up]; lia) ⟨H,I.tok _,by rw[Vk r]; exact q⟩
  ·subst e'
   obtain⟨hz,hS,vs,r,m⟩:kvs.length<=sizeLine/\(p==sysModules)=false/\∃vs,KV kvs vs/\s.heap.DictOf (vm X.prog X.w) p vs:=I.hok p _ hx;have hlen:kvs.length=vs.length:=Paired.length r;exact wpAny_truthy_dict hS m (by lia) ⟨H,I.tok _,by rw[YI r]; exact q⟩
 |_=>exact(show False from e).elim
theorem pt_truth(ha:PE X a ta)(he:∀whole,isTrue a X.env whole=(do let v <-whole; standAt a.pos; holding [v] (truthy v))) :
  PT X a (λσ H Q=>ta σ H λx H'=>∃k,TruV X.K x H' k/\Q k H'):=by
 intro pins s σ H Q I h;exact isTrue_plain (thn (ha pins s σ H _ I h) λv s1 ⟨x,H1,I1,r1,q1⟩=>tru_ok pins s1 σ H1 x v Q I1 r1 q1) (he _)
theorem Yj(r:Vals [x] us):∃u,us=[u]/\RelV x u:=by
 cases r with
 |cons r1 r2=>cases r2; exact⟨_,rfl,r1⟩
theorem vals2(r:Vals [x,y] us):∃u w',us=[u,w']/\RelV x u/\RelV y w':=by
 cases r with
 |cons r1 r2 =>
  cases r2 with
  |cons r3 r4=>cases r4; exact⟨_,_,rfl,r1,r3⟩
theorem Zq:jv X (.builtin "abs") (λxs H Q=>∃i,xs=[.int i]/\Q (.int (if i<0 then -i else i)) H):=by
 intro pins s σ H xs us Q I r h;obtain⟨i,rfl,q⟩:=h;obtain⟨u,rfl,t,rfl⟩:=Yj r;exact call_abs_int λu tk=>⟨.int (if i<0 then -i else i),H,I.tok _,⟨_,rfl⟩,q⟩
theorem qaP(hc:X.calm=true):jv X (.builtin "min") (λxs H Q=>∃i j,xs=[.int i, .int j]/\Q (.int (if j<i then j else i)) H):=by
 intro pins s σ H xs us Q I r h;obtain⟨i,j,rfl,q⟩:=h;obtain⟨u,w',rfl,⟨t,rfl⟩,⟨t',rfl⟩⟩:=vals2 r;refine min_two_ints (I.ok.hd hc) λh' tk k=>⟨_,H,I.kept k, ?_,q⟩;by_cases hj:j<i
 ·rw[if_pos hj,if_pos hj]; exact⟨_,rfl⟩
 ·rw[if_neg hj,if_neg hj]; exact⟨_,rfl⟩
theorem qaQ:jv X (.type "int") (λxs H Q=>(∃i,xs=[.int i]/\Q (.int i) H)\/∃k,xs=[.bl k]/\Q (.int (if k then 1 else 0)) H):=by
 intro pins s σ H xs us Q I r h;rcases h with⟨i,rfl,q⟩|⟨k,rfl,q⟩
 ·obtain⟨u,rfl,t,rfl⟩:=Yj r
  exact call_int_int ⟨.int i,H,I,⟨_,rfl⟩,q⟩
 ·obtain⟨u,rfl,r1⟩:=Yj r
  cases r1;exact call_int_bool ⟨.int (if k then 1 else 0),H,I.tok _,⟨_,rfl⟩,q⟩
end
structure ObjM(h:Heap)(x dx C:Addr)(mA:Str->Option Value):Prop where
 obj:h.get? x=some (W.instObj C dx)
 ns:h.Ns1 dx mA
 ne:dx≠x
theorem GK{h:Heap}(n:h.Ns1 dx mA):∃od,h.get? dx=some od/\∀name,W.lookIn name od=some (mA name):=by
 obtain⟨o,es,ep,ho,hd,hk,_,hm⟩:=n;refine⟨o,ho,λname=>?_⟩;have e:=hm name;unfold nsFind findBy at e;rw[<-Bb] at e;unfold W.lookIn;rw[hd];dsimp only;split
 ·rename_i y q
  rw[q] at e;exact congrArg some e
 ·rename_i q
  rw[q] at e;have a:es.toList.any (·.refKey)=false:=by
   rw[List.any_eq_false];intro y hy;obtain⟨z,t,hkey⟩:=hk y (Array.mem_toList_iff.mp hy);simp[DictEntry.refKey,hkey]
  have a':¬es.toList.any (·.refKey)=true:=by rw[a]; exact Ut
  rw[if_neg a'];exact congrArg some e
theorem ObjM.look(I:ObjM h x dx C mA):∃od,PySem.W.InstAt h x (W.instObj C dx) C (some od)/\∀name,W.lookIn name od=some (mA name) :=
 let⟨od,ho,hl⟩:=GK I.ns
 ⟨od,⟨I.obj,rfl,rfl,ho⟩,hl⟩
section
theorem get_map(X:Ξ.In s.heap)(I:ObjM s.heap x dx C mA)(hg:W.plainGet Ξ C name=true)(hh:W.hasDictIn Ξ C=true)(ha:W.findIn Ξ (.ref C) name=some none)(hv:mA name=some v)(hv':W.handedIn v=true)(h:Q v { s with toks:=s.toks+1 }) :
  wpAny (model prog w) A (getAttr (.ref x) name expr) Q E s:=by
 obtain⟨od,J,hl⟩:=I.look;exact W.get_value X J (Ra hg).1 (W.findObj_own hh ha rfl (by rw[hl,hv])) hv' h
theorem get_meth(X:Ξ.In s.heap)(I:ObjM s.heap x dx C mA)(hg:W.plainGet Ξ C name=true)(hf:W.findIn Ξ (.ref C) name=some (some (.ref f)))(ht:W.isFn Ξ (.ref f)=true)(hv:mA name=none)(h:Q (.ref f, [.ref x]) s) :
  wpAny (model prog w) A (getMethod (.ref x) name pl) Q E s:=by
 obtain⟨od,J,hl⟩:=I.look;exact W.method_fn X J (Ra hg).1 (Ra hg).2 hf (beq_iff_eq.mp ht) (by show(W.lookIn name od).map (·.isSome)=some false; rw[hl,hv]; rfl) h
theorem set_map(X:Ξ.In s.heap)(I:ObjM s.heap x dx C mA)(hs:W.findIn Ξ (.ref C) "__setattr__" = some (some (.builtin "object.__setattr__")))(hp:W.plainOver Ξ C=true)(ht:W.takerIn Ξ C name=some none)(hh:W.hasDictIn Ξ C=true)(hw:PySem.Within mA ns)(hsz:ns.length<=sizeLine)(h:∀h',ObjM h' x dx C (λy=>if y=name then some v else mA y)->Heap.SameBut dx s.heap h'->Q () { s with heap:=h',toks:=s.toks+2 }) :
  wpAny (model prog w) A (setAttr (.ref x) name v) Q E s:=by
 obtain⟨od,J,hl⟩:=I.look;refine W.set_plain X J hs (W.osa_open (s:={ s with toks:=s.toks+1 }) (r:=none) X J hp ht λb=>?_);obtain⟨cd,hc,hd'⟩:=W.any_some hh;have hx:s.heap.get? x=some ⟨.ref C,some dx, .plain, #[]⟩:=I.obj;refine wpAny_bind (wpAny_pure (wpAny_bind (wpAny_bind (wpAny_loadPart hx (wpAny_bind (PySem.W.Looks.here (s:={ s with toks:=s.toks+1 }) (W.looks_clsIn X hc) ?_))))));rw[hd'];refine wpAny_pure (a:=some dx) (wpAny_bind (wpAny_pure (wpAny_bind ?_)));refine wpAny_nsSet1 (s:={ s with toks:=s.toks+1 }) I.ns λh' hn2 hs2=>?_;obtain⟨oD,esD,epD,hoD,hdD,hcD⟩:=hn2.count (PySem.Within.cons name v hw);refine wpAny_bind (wpAny_lookBehind hoD (by rw[hdD]; exact pastItsLine_dict (UL hcD (by rw[Um]; lia))) ?_);exact wpAny_pure (h _ ⟨(hs2.2 _ (Ne.symm I.ne)).trans I.obj,hn2,I.ne⟩ hs2)
theorem make_map(X:Ξ.In s.heap)(hm:W.makesIn Ξ C=true)(hi:W.findIn Ξ (.ref C) "__init__" = some (some (.ref f)))(hf:W.typeIn Ξ (.ref f)=some (.type "function"))(h:codeAny (model prog w) (A.under (.builtin "type.__call__" ⟨.ref C::vs,kw⟩)) (.call (.ref f) ⟨.ref (s.heap.objs.size+1)::vs,kw⟩) (PySem.W.InitBack (s.heap.objs.size+1) R)
   { s with heap:=(s.heap.push W.emptyDict).push (W.instObj C s.heap.objs.size) }) :
  codeAny (model prog w) A (.call (.ref C) ⟨vs,kw⟩) R s:=by
 obtain⟨hh,g,d,t,os⟩:=s;exact W.make_core (W.makes_of X hm) (W.looks_findIn X hi) (λself=>W.bind_fn X self hf) (.inl rfl) h
end
def putF(f:Str)(v:V):List (Str×V)->List (Str×V)
 | []=>[(f,v)]
 | (g,x)::r=>if g=f then(g,v)::r else(g,x)::putF f v r
theorem QN(f g:Str)(v:V):∀fs:List (Str×V),(putF f v fs).lookup g=if g=f then some v else fs.lookup g
 | []=>by
  show List.lookup g [(f,v)]=_;by_cases h:g=f
  ·have hb:(g==f)=true:=beq_iff_eq.mpr h
   simp only[List.lookup,hb,if_pos h]
  ·have hb:(g==f)=false:=beq_eq_false_iff_ne.mpr h
   simp only[List.lookup,hb,if_neg h]
 | (k,x)::r=>by
  have ih:=QN f g v r;rw[show putF f v ((k,x)::r)=(if k=f then(k,v)::r else(k,x)::putF f v r) from rfl];by_cases hk:k=f
  ·rw[if_pos hk]
   by_cases h:g=k
   ·have hb:(g==k)=true:=beq_iff_eq.mpr h
    simp only[List.lookup,hb,if_pos (h.trans hk)]
   ·have hb:(g==k)=false:=beq_eq_false_iff_ne.mpr h
    simp only[List.lookup,hb,if_neg (λe:g=f=>h (e.trans hk.symm))]
  ·rw[if_neg hk]
   by_cases h:g=k
   ·have hb:(g==k)=true:=beq_iff_eq.mpr h
    simp only[List.lookup,hb,if_neg (λe:g=f=>hk (h.symm.trans e))]
   ·have hb:(g==k)=false:=beq_eq_false_iff_ne.mpr h
    simp only[List.lookup,hb];exact ih
theorem QQ(f:Str)(v:V):∀fs:List (Str×V),f∈(putF f v fs).map (·.1)/\∀g,g∈fs.map (·.1)->g∈(putF f v fs).map (·.1)
 | []=>⟨by simp[putF],λg h=>by simp at h⟩
 | (k,x)::r=>by
  obtain⟨i1,i2⟩:=QQ f v r;rw[show putF f v ((k,x)::r)=(if k=f then(k,v)::r else(k,x)::putF f v r) from rfl];by_cases hk:k=f
  ·rw[if_pos hk]
   subst hk;exact⟨by simp,λg h=>by simpa using h⟩
  ·rw[if_neg hk]
   refine⟨?_,λg h=>?_⟩
   ·rw[UB]
    exact UR _ i1
   ·rw[UB] at h ⊢
    rcases Uv.mp h with e|e
    ·exact Uv.mpr (.inl e)
    ·exact UR _ (i2 g e)
theorem QP(f:Str)(v:V):∀fs:List (Str×V),(putF f v fs).length<=fs.length+1
 | []=>by simp[putF]
 | (k,x)::r=>by
  have ih:=QP f v r;rw[show putF f v ((k,x)::r)=(if k=f then(k,v)::r else(k,x)::putF f v r) from rfl];by_cases hk:k=f
  ·rw[if_pos hk,Um,Um]; lia
  ·rw[if_neg hk,Um,Um]; lia
theorem RelO.some_of(r:RelO (some v) o):∃u,o=some u/\RelV v u:=by
 cases o with
 |none=>exact(show False from r).elim
 |some u=>exact⟨u,rfl,r⟩
theorem RelO.none_of(r:RelO none o):o=none:=by
 cases o with
 |none=>rfl
 |some u=>exact(show False from r).elim
theorem G7(r:RelV v u):W.handedIn u=true:=by
 cases v with
 |non=>cases(show u=Value.none from r); rfl
 |bl b=>cases(show u=Value.bool b from r); rfl
 |int i=>obtain⟨t,e⟩:=(show ∃t,u=Value.int i t from r); cases e; rfl
 |str x=>obtain⟨t,e⟩:=(show ∃t,u=Value.str x t from r); cases e; rfl
 |byt b=>obtain⟨t,e⟩:=(show ∃t,u=Value.bytes b t from r); cases e; rfl
 |flt b=>obtain⟨t,e⟩:=(show ∃t,u=Value.float b t from r); cases e; rfl
 |ref a=>cases(show u=Value.ref a from r); rfl
 |ty n=>cases(show u=Value.type n from r); rfl
section
theorem Za(hok:HOk P w H h)(e:H a=some (.ins C dx fs)):∃mA,ObjM h a dx C mA/\(∀f,RelO (fs.lookup f) (mA f))/\PySem.Within mA (fs.map (·.1))/\fs.length<=1000/\H dx=some (.own a):=by
 obtain⟨d,z,ne,ob,mA,n,r,q⟩:=(show ObjOk P w H h a (.ins C dx fs) from hok a _ e);exact⟨mA,⟨ob,n,ne⟩,r,q,z,d⟩
end
structure Cls(Ξ:PySem.W.Frag)(C:Addr):Prop where
 pg:W.plainGet Ξ C Str.empty=true
 hd:W.hasDictIn Ξ C=true
 po:W.plainOver Ξ C=true
 sa:W.findIn Ξ (.ref C) "__setattr__" = some (some (.builtin "object.__setattr__"))
theorem Cls.get(c:Cls Ξ C)(f:Str):W.plainGet Ξ C f=true:=c.pg
def NoAttr(Ξ:PySem.W.Frag)(C:Addr)(f:Str):Prop:=W.findIn Ξ (.ref C) f=some none
theorem NoAttr.taker(n:NoAttr Ξ C f):W.takerIn Ξ C f=some none:=by
 unfold W.takerIn;rw[show W.findIn Ξ (.ref C) f=some none from n];rfl
structure Meth(Ξ:PySem.W.Frag)(C:Addr)(m:Str)(f:Addr):Prop where
 at_:W.findIn Ξ (.ref C) m=some (some (.ref f))
 fn:W.isFn Ξ (.ref f)=true
 kp:W.keepIn Ξ (.ref f)=true
section
theorem Vl(I:Inv X pins σ H s)(e:H a=some (.ins C dx fs))(c:Cls X.K C)(n:NoAttr X.K C f)(l:fs.lookup f=some v)(h:∀u s',Inv X pins σ H s'->RelV v u->Q u s'):wpAny (model X.prog X.w) A (getAttr (.ref a) f b) Q E s:=by
 obtain⟨mA,O,r,_,_,_⟩:=Za I.hok e;obtain⟨u,hu,ru⟩:=RelO.some_of (v:=v) (o:=mA f) (by rw[<-l]; exact r f);exact get_map I.kIn O (c.get f) c.hd n hu (G7 ru) (h u _ (I.tok _) ru)
theorem xH(I:Inv X pins σ H s)(e:H a=some (.ins C dx fs))(c:Cls X.K C)(k:Meth X.K C m g)(l:fs.lookup m=none)(h:Q (.ref g, [.ref a]) s):wpAny (model X.prog X.w) A (getMethod (.ref a) m pl) Q E s:=by
 obtain⟨mA,O,r,_,_,_⟩:=Za I.hok e;have hn:mA m=none:=RelO.none_of (by rw[<-l]; exact r m);exact get_meth I.kIn O (c.get m) k.at_ k.fn hn h
theorem Ve(I:Inv X pins σ H s)(e:H a=some (.ins C dx fs))(c:Cls X.K C)(n:NoAttr X.K C f)(hl:fs.length<1000)(ry:RelV y u)(h:∀s',Inv X pins σ (upd H a (.ins C dx (putF f y fs))) s'->Q () s'):wpAny (model X.prog X.w) A (setAttr (.ref a) f u) Q E s:=by
 obtain⟨mA,O,r,wi,_,ho⟩:=Za I.hok e;have hz:(fs.map (·.1)).length<=sizeLine:=by rw[Uh,sizeLine_eq]; lia
 refine set_map I.kIn O c.sa c.po n.taker c.hd wi hz λh' O' sb=>h _ ?_;have hd:∃o,h'.get? dx=some o:=let⟨o,_,_,e',_⟩:=O'.ns; ⟨o,e'⟩;refine I.write (x:=a) (e:=dx) (by rw[e]; exact True.intro) (.inr ho) (λb q hb z=>(sb.2 b hb).trans z) hd ?_;refine⟨by rw[upd_ne O.ne]; exact ho, ?_,O.ne,O'.obj,_,O'.ns,λg=>?_,λg hg=>?_⟩
 ·have:=QP f y fs; lia
 ·show RelO ((putF f y fs).lookup g) (if g=f then some u else mA g)
  rw[QN];by_cases q:g=f
  ·rw[if_pos q,if_pos q]; exact ry
  ·rw[if_neg q,if_neg q]; exact r g
 ·by_cases q:g=f
  ·rw[q]; exact(QQ f y fs).1
  ·refine(QQ f y fs).2 g (wi g λz=>hg ?_)
   show(if g=f then some u else mA g)=none;rw[if_neg q]; exact z
theorem Inv.made(I:Inv X pins σ H s):Inv X pins σ (upd (upd H s.heap.objs.size (.own (s.heap.objs.size+1))) (s.heap.objs.size+1) (.ins C s.heap.objs.size []))
  { s with heap:=(s.heap.push W.emptyDict).push (W.instObj C s.heap.objs.size) }:=by
 have e1:(s.heap.push W.emptyDict).get? s.heap.objs.size=some W.emptyDict:=Heap.get?_push_size s.heap rfl;have e2:((s.heap.push W.emptyDict).push (W.instObj C s.heap.objs.size)).get? (s.heap.objs.size+1)=some (W.instObj C s.heap.objs.size):=by
  have:=Heap.get?_push_size (s.heap.push W.emptyDict) (o:=W.instObj C s.heap.objs.size) rfl;rwa [Heap.size_push] at this
 have e3:(s.heap.push W.emptyDict).Ns s.heap.objs.size (λ_=>none):=⟨W.emptyDict, #[],_,e1,rfl,(λe he=>absurd he (by simp)),λ_=>rfl⟩;have I1:=I.laid (a:=s.heap.objs.size) (o:=.own (s.heap.objs.size+1)) (h':=s.heap.push W.emptyDict) (t':=s.toks) (λb u q=>Heap.get?_push_of_some _ q) (Uk _) ⟨_,e1⟩;refine I1.laid (a:=s.heap.objs.size+1) (o:=.ins C s.heap.objs.size []) (t':=s.toks) (λb u q=>Heap.get?_push_of_some _ q) (Rk (Heap.size_push _ _)) ?_;have ne:s.heap.objs.size≠s.heap.objs.size+1:=UH (Nat.lt_succ_self _);refine⟨by rw[upd_ne ne,upd_same],UW _,ne,e2,λ_=>none,(Heap.Ns1.of_empty e3).at λo q=>Heap.get?_push_of_some _ q,λ_=>True.intro,λy hy=>absurd rfl hy⟩
theorem attr_of(hb:attributeBase e f env (eval e env)=eval e env)(h:wpAny (model prog w) A (eval e env) (λo s₁=>wpAny (model prog w) A (getAttr o f true) Q E s₁) E s):wpAny (model prog w) A (eval (.Attribute e f pos) env) Q E s :=
 Attribute_any_ h (by rw[arm_eval_Attribute,hb])
end
def tFld(Ξ:PySem.W.Frag)(ta:TE)(f:Str):TE:=λσ H Q=>ta σ H λx H1=>∃a C dx fs v,x=.ref a/\H1 a=some (.ins C dx fs)/\Cls Ξ C/\NoAttr Ξ C f/\fs.lookup f=some v/\Q v H1
def sFld(Ξ:PySem.W.Frag)(ta tv:TE)(f:Str):TS:=λD σ H=>tv σ H λy H1=>ta σ H1 λx H2=>∃a C dx fs,x=.ref a/\H2 a=some (.ins C dx fs)/\Cls Ξ C/\NoAttr Ξ C f/\fs.length<1000 /\
 D.nx σ (upd H2 a (.ins C dx (putF f y fs)))
def InOp(X:Cx)(op:Operator)(rd:V->V->Hp->VK->Prop):Prop :=
 ∀(pins:List (Addr×Obj))(s:Shared)(σ:St)(H:Hp)(x y:V)(u v:Value)(Q:VK),Inv X pins σ H s->RelV x u->RelV y v->rd x y H Q->wpAny (model X.prog X.w) X.A (inplaceOp op u v) (EP X pins σ Q) X.xe s
def Jn(Ξ:PySem.W.Frag)(ta tv:TE)(rd:V->V->Hp->VK->Prop)(f:Str):TS:=λD σ H=>ta σ H λx H1=>∃a C dx fs v,x=.ref a/\H1 a=some (.ins C dx fs)/\Cls Ξ C/\NoAttr Ξ C f/\fs.lookup f=some v /\
 tv σ H1 λy H2=>rd v y H2 λz H3=>∃dx' fs',H3 a=some (.ins C dx' fs')/\fs'.length<1000/\D.nx σ (upd H3 a (.ins C dx' (putF f z fs')))
section
def rAdd:V->V->Hp->VK->Prop:=λx y H Q=>∃i j,x=.int i/\y=.int j/\Q (.int (i+j)) H
theorem in_add:InOp X .Add rAdd:=by
 rintro pins s σ H x y u v Q I rx ry ⟨i,j,rfl,rfl,q⟩;obtain⟨t,rfl⟩:=(show ∃t,u=Value.int i t from rx);obtain⟨t',rfl⟩:=(show ∃t',v=Value.int j t' from ry);exact PyProof.Rows.iadd_int ⟨.int (i+j),H,I.tok _,⟨_,rfl⟩,q⟩
end
section
variable {X:Cx} {pins:List (Addr×Obj)} {σ:St} {H:Hp} {s:Shared} {A:Around} {E:Value->Shared->Prop} {Q:Value->Shared->Prop} {c:Value} {b:Bool}
inductive TyOf(Ξ:PySem.W.Frag)(H:Hp):V->Value->Prop where
 |non:TyOf Ξ H .non (.type "NoneType")
 |bl (x:Bool):TyOf Ξ H (.bl x) (.type "bool")
 |int (i:Int):TyOf Ξ H (.int i) (.type "int")
 |str (x:Str):TyOf Ξ H (.str x) (.type "str")
 |flt (x:UInt64):TyOf Ξ H (.flt x) (.type "float")
 |lst {a:Addr} {xs:List V} (e:H a=some (.lst xs)):TyOf Ξ H (.ref a) (.type "list")
 |frz {a:Addr} {o:Obj} {xs:List V} (e:H a=some (.frz o (.lst xs))):TyOf Ξ H (.ref a) (.type "list")
 |tup {a:Addr} {xs:List V} (e:H a=some (.tup xs)):TyOf Ξ H (.ref a) (.type "tuple")
 |dK {a:Addr} {kvs:List (Key×V)} (e:H a=some (.dK kvs)):TyOf Ξ H (.ref a) (.type "dict")
 |dT {a:Addr} {kvs:List (List Key×V)} (e:H a=some (.dT kvs)):TyOf Ξ H (.ref a) (.type "dict")
 |ins {a C dx:Addr} {fs:List (Str×V)} (e:H a=some (.ins C dx fs)) (cl:Cls Ξ C) (ha:W.findIn Ξ (.ref C) "__class__" = some (some (.builtin "object.__class__")))
   (hn:W.specialIn Ξ (.builtin "object.__class__") "__get__" = some (some (.builtin "getset_descriptor.__get__"))) (htk:W.takesIn Ξ (.builtin "object.__class__")=some true)
   (hm:W.mroIn Ξ C (.type "object")=some true):TyOf Ξ H (.ref a) (.ref C)
theorem G1(I:Inv X pins σ H s)(rx:RelV x u)(ty:TyOf X.K H x t)(e:W.kitOne X.K t c=some b)(h:∀tk,Q (.bool b) { s with toks:=tk }) :
  wpAny (model X.prog X.w) A (call (.builtin "isinstance") [u,c]) Q E s:=by
 cases ty with
 |non=>cases(show u=Value.none from rx); exact U5 W.kitx_none I.kIn True.intro e (λz=>nomatch z) h
 |bl y=>cases(show u=Value.bool y from rx); exact U5 W.kitx_bool I.kIn True.intro e (λz=>nomatch z) h
 |int i=>obtain⟨t,q⟩:=(show ∃t,u=Value.int i t from rx); cases q; exact U5 W.kitx_int I.kIn True.intro e (λz=>nomatch z) h
 |str y=>obtain⟨t,q⟩:=(show ∃t,u=Value.str y t from rx); cases q; exact U5 W.kitx_str I.kIn True.intro e (λz=>nomatch z) h
 |flt y=>obtain⟨t,q⟩:=(show ∃t,u=Value.float y t from rx); cases q; exact U5 W.kitx_float I.kIn True.intro e (λz=>nomatch z) h
 | @lst a xs ea =>
  cases(show u=Value.ref a from rx);obtain⟨_,_,n,_,h1⟩:=(show ObjOk X.prog X.w H s.heap a (.lst xs) from I.hok a _ ea);exact U5 W.kitx_list I.kIn ⟨_,h1,rfl⟩ e (λz=>nomatch z) h
 | @frz a ob xs ea =>
  cases(show u=Value.ref a from rx);obtain⟨_,_,_,n,_,h1⟩:=(show ObjOk X.prog X.w H s.heap a (.frz ob (.lst xs)) from I.hok a _ ea);exact U5 W.kitx_list I.kIn ⟨_,h1,rfl⟩ e (λz=>nomatch z) h
 | @tup a xs ea =>
  cases(show u=Value.ref a from rx);obtain⟨_,_,_,p⟩:=(show ObjOk X.prog X.w H s.heap a (.tup xs) from I.hok a _ ea);obtain⟨o,h1,h2,_⟩:=p;exact U5 W.kitx_tuple I.kIn ⟨o,h1,h2⟩ e (λz=>nomatch z) h
 | @dK a kvs ea =>
  cases(show u=Value.ref a from rx);obtain⟨_,_,vs,_,p⟩:=(show ObjOk X.prog X.w H s.heap a (.dK kvs) from I.hok a _ ea);obtain⟨o,es,ep,h1,h2,_⟩:=p;exact U5 W.kitx_dict I.kIn ⟨o,h1,h2.1⟩ e (λz=>nomatch z) h
 | @dT a kvs ea =>
  cases(show u=Value.ref a from rx);obtain⟨_,_,xs,_,o,es,ep,h1,h2,_⟩:=(show ObjOk X.prog X.w H s.heap a (.dT kvs) from I.hok a _ ea);exact U5 W.kitx_dict I.kIn ⟨o,h1,h2.1⟩ e (λz=>nomatch z) h
 | @ins a C dx fs ea cl ha hn htk hm =>
  cases(show u=Value.ref a from rx);obtain⟨mA,O,_⟩:=Za I.hok ea;obtain⟨od,J,_⟩:=O.look;exact U5 (W.kitx_own (cl.get _) cl.hd ha hn htk hm) I.kIn J e (λz=>nomatch z) h
end
structure Room(k:Nat)(A:Around):Prop where
 hd:A.handled=none
 dp:A.depth+3*k+5<recursionLimit
 un:A.units+16*k+200<cLine
 gd:A.guards=some []
theorem Room.mono(r:Room k A)(h:j<=k):Room j A:=⟨r.hd,by have:=r.dp; lia,by have:=r.un; lia,r.gd⟩
theorem Room.deeper(r:Room (k+1) A)(env:Env):Room k (A.deeper env) :=
 ⟨r.hd,by have:=r.dp; show A.depth+1+3*k+5<_; lia,by have:=r.un; show A.units+3+16*k+200<_; lia,r.gd⟩
theorem YG{A:Around}:(A.under (.builtin "type.__call__" ⟨.ref C::us,kw⟩)).depth=A.depth+1:=by
 first|rfl|simp[Around.under,Code.weight,Code.isCreation,Code.isGuard,Code.isCaller,Code.frames,Code.isFrame,guardIds]
theorem YF{A:Around}:(A.under (.builtin "type.__call__" ⟨.ref C::us,kw⟩)).units=A.units+1:=by
 first|rfl|simp[Around.under,Code.cUnits,Code.frames,Code.isFrame]
theorem make_guards{A:Around}:(A.under (.builtin "type.__call__" ⟨.ref C::us,kw⟩)).guards=A.guards:=by
 first|rfl|simp[Around.under,Code.guards,Code.isGuard,guardIds,pushGuards]
theorem Room.make(r:Room (k+1) A)(C:Addr)(us:List Value)(kw:List (Str×Value)):Room k (A.under (.builtin "type.__call__" ⟨.ref C::us,kw⟩)) :=
 ⟨r.hd,by have:=r.dp; rw[YG]; lia,by have:=r.un; rw[YF]; lia,make_guards.trans r.gd⟩
theorem Room.depth(r:Room k A):A.depth<recursionLimit:=by have:=r.dp; lia
theorem Room.units(r:Room k A):A.units+64<cLine:=by have:=r.un; lia
def tNil:TA:=λ_ H Q=>Q [] H
def xh(ta:TE)(tr:TA):TA:=λσ H Q=>ta σ H λx H1=>tr σ H1 λxs H2=>Q (x::xs) H2
section
theorem pa_nil:PA X [] tNil:=λ_ _ _ _ H Q I h=>Calls.spliced_nil ⟨[],H,I, .nil,h⟩
theorem pa_cons(ha:PE X e te)(hr:PA X es t)(hs:starEach (e::es) X.env=(false,eval e X.env)::starEach es X.env:=by rfl):PA X (e::es) (xh te t):=by
 intro pos pins s σ H Q I h;rw[hs];show wpAny _ _ (spliced ((false,eval e X.env)::backTo pos (starEach es X.env))) _ _ s;refine Calls.spliced_cons (thn (ha pins s σ H _ I h) λu s1 ⟨x,H1,I1,r1,q1⟩=>?_);exact thn (hr pos pins s1 σ H1 _ I1 q1) λus s2 ⟨xs,H2,I2,r2,q2⟩=>⟨x::xs,H2,I2, .cons r1 r2,q2⟩
def tTup(t:TA):TE:=λσ H Q=>t σ H λxs H1=>xs.length<=sizeLine/\∀p,H1 p=none->Q (.ref p) (upd H1 p (.tup xs))
def tLst(t:TA):TE:=λσ H Q=>t σ H λxs H1=>xs.length<=sizeLine/\∀p,H1 p=none->Q (.ref p) (upd H1 p (.lst xs))
end
abbrev Sp:=List V->Hp->VK->XK->Prop
abbrev CXT:=List Env->Hp->Shared->XK->Value->Shared->Prop
structure Env0(P:Program)(w:World)(Ξ:PySem.W.Frag)(mg:Str->Option Value)(base:Heap)(A:Around)(outer:List Env)(s:Shared)(H:Hp):Prop where
 frames:A.frames=some outer
 mod:Mod Ξ mg base
 bs:∀b o,base.get? b=some o->s.heap.get? b=some o/\H b=none
 bsz:base.objs.size<=s.heap.objs.size
 funs:s.heap.FunFrames base outer
 frf:∀b∈frs outer,H b=none
 hok:HOk P w H s.heap
 bare:AllBare s.gens
def CE(outer:List Env)(P:Program)(w:World)(H:Hp)(s:Shared)(Q:VK)(u:Value)(s':Shared):Prop :=
 ∃v H',s'.os=s.os/\AllBare s'.gens/\Un (frs outer) [] H H' s.heap s'.heap/\HOk P w H' s'.heap/\RelV v u/\Q v H'
def CR(CX:CXT)(outer:List Env)(P:Program)(w:World)(H:Hp)(s:Shared)(Q:VK)(E:XK)(r:Result)(s':Shared):Prop :=
 match r with
 |.ok (.ret u)=>CE outer P w H s Q u s'
 |.ok _=>False
 |.error e=>CX outer H s E e s'
structure FnOk(P:Program)(w:World)(Ξ:PySem.W.Frag)(mg:Str->Option Value)(base:Heap)(CX:CXT)(k:Nat)(f:Addr)(fd:FuncData)(ps:List Str)(sp:Sp):Prop where
 len:∀vs H Q E,sp vs H Q E->vs.length=ps.length
 run:∀(A:Around)(outer:List Env)(s:Shared)(H:Hp)(args:Args)(us:List Value)(vs:List V)(Q:VK)(E:XK),Room k A->Env0 P w Ξ mg base A outer s H->BindsTo s fd args (ps.zip us)->Vals vs us->sp vs H Q E ->
  codeAny (model P w) A (.call (.ref f) args) (CR CX outer P w H s Q E) s
theorem FnOk.mono(F:FnOk P w Ξ mg base CX j f fd ps sp)(h:j<=k) :
  FnOk P w Ξ mg base CX k f fd ps sp:=⟨F.len,λA outer s H args us vs Q E hr=>F.run A outer s H args us vs Q E (hr.mono h)⟩
theorem FnOk.imp(F:FnOk P w Ξ mg base CX k f fd ps sp)(h:∀vs H Q E,sp' vs H Q E->sp vs H Q E):FnOk P w Ξ mg base CX k f fd ps sp' :=
 ⟨λvs H Q E q=>F.len vs H Q E (h _ _ _ _ q),λA outer s H args us vs Q E hr he hb hv hs=>F.run A outer s H args us vs Q E hr he hb hv (h _ _ _ _ hs)⟩
theorem Env0.make(e:Env0 P w Ξ mg base A outer s H)(C:Addr)(us:List Value)(kw:List (Str×Value)) :
  Env0 P w Ξ mg base (A.under (.builtin "type.__call__" ⟨.ref C::us,kw⟩)) outer s H:=⟨by first|exact e.frames|(simpa[Around.under,Code.envs,Code.isFrame,pushEnvs] using e.frames),e.mod,e.bs,e.bsz,e.funs,e.frf,e.hok,e.bare⟩
section
theorem Inv.env0(I:Inv X pins σ H s):Env0 X.prog X.w X.K X.mg X.base X.A X.stack s H :=
 ⟨I.ok.frames,I.ok.mod,I.bs,UL I.ok.bsz I.sz,I.stack,I.stkFree,I.hok,I.bare⟩
theorem Inv.after(I:Inv X pins σ H s)(h:CE X.stack X.prog X.w H s Q u s'):EP X pins σ Q u s':=by
 obtain⟨v,H',os,bare,un,hok,r,q⟩:=h;obtain⟨hh,g,d,t,os'⟩:=s';obtain rfl:os'=s.os:=os;exact⟨v,H',I.call (h':=hh) (g':=g) (d':=d) (t':=t) (ch:=[]) un hok bare (λb z=>absurd z (by simp)),r,q⟩
end
def xi(sp:Sp)(dvs:List V)(E:XK)(t:TA):TE:=λσ H Q=>t σ H λvs H1=>sp (vs++dvs) H1 Q E
def XZ(C:Addr)(m:Str)(sp:Sp)(dvs:List V)(E:XK)(ta:TE)(t:TA):TE:=λσ H Q=>ta σ H λx H1=>∃a dx fs,x=.ref a/\H1 a=some (.ins C dx fs)/\fs.lookup m=none /\
 t σ H1 λvs H2=>sp (x::(vs++dvs)) H2 Q E
def tMake(C:Addr)(sp:Sp)(dvs:List V)(E:XK)(t:TA):TE:=λσ H Q=>t σ H λvs H1=>∀x dx,H1 x=none->H1 dx=none->dx≠x ->
 sp (.ref x::(vs++dvs)) (upd (upd H1 dx (.own x)) x (.ins C dx [])) (λv H2=>v=.non/\Q (.ref x) H2) E
def Binds(Ξ:PySem.W.Frag)(fd:FuncData)(ps:List Str)(ds:List Value):Prop :=
 ∀(s:Shared)(us:List Value),Ξ.In s.heap->(us++ds).length=ps.length->BindsTo s fd ⟨us, []⟩ (ps.zip (us++ds))
theorem Binds.all(h:∀us:List Value,us.length=ps.length->bindArgs fd ⟨us, []⟩=pure (ps.zip us)):Binds Ξ fd ps []:=λs us _ hl=>by
 rw[UZ] at hl ⊢;exact .of_eq (h us hl)
def Q5(CX:CXT)(X:Cx)(E:XK):Prop:=∀(pins:List (Addr×Obj))(σ:St)(H:Hp)(s:Shared)(e:Value)(s':Shared),Inv X pins σ H s->CX X.stack H s E e s'->X.xe e s'
section
variable {X:Cx} {CX:CXT} {k:Nat} {f C:Addr} {fd:FuncData} {ps:List Str} {sp:Sp} {dvs:List V} {ds:List Value} {E:XK} {x m:Str} {p pos apos:Pos} {e o:Expr} {es:List Expr} {ta:TE} {t:TA}
theorem Wu(F:FnOk X.prog X.w X.K X.mg X.base CX k f fd ps sp)(hr:Room k X.A)(hb:Binds X.K fd ps ds)(hd:Vals dvs ds)(hx:Q5 CX X E)(I:Inv X pins σ H s)(r:Vals vs us)(h:sp (vs++dvs) H Q E):wpAny (model X.prog X.w) X.A (call (.ref f) us) (EP X pins σ Q) X.xe s:=by
 have r2:Vals (vs++dvs) (us++ds):=r.append hd;have hl:(us++ds).length=ps.length:=by rw[<-r2.length]; exact F.len _ _ _ _ h
 refine wpAny_call (codeAny_mono (F.run X.A X.stack s H ⟨us, []⟩ (us++ds) (vs++dvs) Q E hr I.env0 (hb s us I.kIn hl) r2 h) λr s' hq=>?_);cases r with
 |error e=>exact hx pins σ H s e s' I hq
 |ok fl =>
  cases fl with
  |ret u=>exact I.after hq
  |next=>exact False.elim hq
  |brk=>exact False.elim hq
  |cont=>exact False.elim hq
theorem pe_call(F:FnOk X.prog X.w X.K X.mg X.base CX k f fd ps sp)(hr:Room k X.A)(hg:Gl X x)(hm:X.mg x=some (.ref f))(hk:W.keepIn X.K (.ref f)=true)(hb:Binds X.K fd ps ds)(hd:Vals dvs ds)(hx:Q5 CX X E)(ha:PA X (e::es) t)(hdb:(x==("__debug__" : Str))=false:=by decide)(he:starEach (e::es) X.env=(false,eval e X.env)::starEach es X.env:=by rfl)(hpl:(backTo pos (starEach es X.env)).any (·.1)=false:=by rfl) :
  PE X (.Call (.Name x p) (e::es) [] pos) (xi sp dvs E t):=by
 intro pins s σ H Q I h;refine wpAny_Call_Name_kw (zM I hg hm ?_ hdb);refine DI (h₀:=X.base) I.ok.mod.kin hk (thn (ha pos pins s σ H _ I h) λus s1 ⟨vs,H1,I1,r,q⟩=>⟨I1.kIn, ?_⟩) he hpl;exact Wu F hr hb hd hx I1 r q
theorem pe_meth(he:PE X o ta)(c:Cls X.K C)(hm:Meth X.K C m f)(F:FnOk X.prog X.w X.K X.mg X.base CX k f fd ps sp)(hr:Room k X.A)(hb:Binds X.K fd ps ds)(hd:Vals dvs ds)(hx:Q5 CX X E)(ha:PA X (e::es) t)(hst:starEach (e::es) X.env=(false,eval e X.env)::starEach es X.env:=by rfl)(hpl:(backTo pos (starEach es X.env)).any (·.1)=false:=by rfl)(ht:eval (.Call (.Attribute o m apos) (e::es) [] pos) X.env=(do
   let ov <-eval o X.env
   standAt apos.atName;let(f,first) <-holding [ov] (getMethod ov m pl)
   callWith pos f first (backTo pos (starEach (e::es) X.env)) (backToKw pos (keywordEach [] X.env))):=by rfl) :
  PE X (.Call (.Attribute o m apos) (e::es) [] pos) (XZ C m sp dvs E ta t):=by
 intro pins s σ H Q I h;refine Dr (pl:=pl) (thn (he pins s σ H _ I h) λu s1 ⟨x,H1,I1,rx,a,dx,fs,ex,ea,l,q⟩=>?_) ht;subst ex;obtain rfl:u=Value.ref a:=rx;refine xH I1 ea c hm l ?_;refine DI (first:=[.ref a]) (h₀:=X.base) I.ok.mod.kin hm.kp (thn (ha pos pins s1 σ H1 _ I1 q) λus s2 ⟨vs,H2,I2,r,q2⟩=>⟨I2.kIn, ?_⟩) hst hpl;exact Wu (us:=.ref a::us) (vs:=.ref a::vs) F hr hb hd hx I2 (.cons rfl r) q2
theorem pe_meth0(he:PE X o ta)(c:Cls X.K C)(hm:Meth X.K C m f)(F:FnOk X.prog X.w X.K X.mg X.base CX k f fd ps sp)(hr:Room k X.A)(hb:Binds X.K fd ps ds)(hd:Vals dvs ds)(hx:Q5 CX X E)(ht:eval (.Call (.Attribute o m apos) [] [] pos) X.env=(do
   let ov <-eval o X.env
   standAt apos.atName;let(f,first) <-holding [ov] (getMethod ov m pl)
   callWith pos f first (backTo pos (starEach [] X.env)) (backToKw pos (keywordEach [] X.env))):=by rfl) :
  PE X (.Call (.Attribute o m apos) [] [] pos) (XZ C m sp dvs E ta tNil):=by
 intro pins s σ H Q I h;refine Dr (pl:=pl) (thn (he pins s σ H _ I h) λu s1 ⟨x,H1,I1,rx,a,dx,fs,ex,ea,l,q⟩=>?_) ht;subst ex;obtain rfl:u=Value.ref a:=rx;refine xH I1 ea c hm l ?_;exact W.callWith_K0 (first:=[.ref a]) I1.kIn hm.kp (Wu (us:=[.ref a]) (vs:=[.ref a]) F hr hb hd hx I1 (.cons rfl .nil) q)
structure Mk(Ξ:PySem.W.Frag)(C f:Addr):Prop where
 makes:W.makesIn Ξ C=true
 init:W.findIn Ξ (.ref C) "__init__" = some (some (.ref f))
 fn:W.isFn Ξ (.ref f)=true
 kp:W.keepIn Ξ (.ref C)=true
theorem run_make(M:Mk X.K C f)(F:FnOk X.prog X.w X.K X.mg X.base CX k f fd ps sp)(hr:Room (k+1) X.A)(hb:Binds X.K fd ps ds)(hd:Vals dvs ds)(hx:Q5 CX X E)(I:Inv X pins σ H s)(r:Vals vs us)(h:∀x dx,H x=none->H dx=none->dx≠x->sp (.ref x::(vs++dvs)) (upd (upd H dx (.own x)) x (.ins C dx [])) (λv H2=>v=.non/\Q (.ref x) H2) E) :
  wpAny (model X.prog X.w) X.A (call (.ref C) us) (EP X pins σ Q) X.xe s:=by
 have hq:=h (s.heap.objs.size+1) s.heap.objs.size (I.hok.fresh (R6 _)) (I.hok.fresh (Uk _)) (UH (Nat.lt_succ_self _));have I2:=Inv.made (C:=C) I;have r2:Vals (V.ref (s.heap.objs.size+1)::(vs++dvs)) (Value.ref (s.heap.objs.size+1)::(us++ds)):=.cons rfl (r.append hd);have hl:(Value.ref (s.heap.objs.size+1)::us++ds).length=ps.length:=by
  have e:=r2.length;rw[F.len _ _ _ _ hq] at e;exact e.symm
 refine wpAny_call (make_map (f:=f) I.kIn M.makes M.init (beq_iff_eq.mp M.fn) (codeAny_mono (F.run _ X.stack _ _ ⟨Value.ref (s.heap.objs.size+1)::us, []⟩ (Value.ref (s.heap.objs.size+1)::(us++ds)) _ _ E (hr.make C us [])
  (I2.env0.make C us []) (hb _ (Value.ref (s.heap.objs.size+1)::us) I2.kIn hl) r2 hq) λr s' hq'=>?_))
 cases r with
 |error e=>exact hx pins σ _ _ e s' I2 hq'
 |ok fl =>
  cases fl with
  |ret u =>
   obtain⟨v,H',I3,rv,ev,q3⟩:=I2.after hq';subst ev;exact⟨rv,⟨V.ref (s.heap.objs.size+1),H',I3,rfl,q3⟩⟩
  |next=>exact False.elim hq'
  |brk=>exact False.elim hq'
  |cont=>exact False.elim hq'
theorem pe_make(M:Mk X.K C f)(F:FnOk X.prog X.w X.K X.mg X.base CX k f fd ps sp)(hr:Room (k+1) X.A)(hg:Gl X x)(hm:X.mg x=some (.ref C))(hb:Binds X.K fd ps ds)(hd:Vals dvs ds)(hx:Q5 CX X E)(ha:PA X (e::es) t)(hdb:(x==("__debug__" : Str))=false:=by decide)(he:starEach (e::es) X.env=(false,eval e X.env)::starEach es X.env:=by rfl)(hpl:(backTo pos (starEach es X.env)).any (·.1)=false:=by rfl) :
  PE X (.Call (.Name x p) (e::es) [] pos) (tMake C sp dvs E t):=by
 intro pins s σ H Q I h;refine wpAny_Call_Name_kw (zM I hg hm ?_ hdb);refine DI (h₀:=X.base) I.ok.mod.kin M.kp (thn (ha pos pins s σ H _ I h) λus s1 ⟨vs,H1,I1,r,q⟩=>⟨I1.kIn, ?_⟩) he hpl;exact run_make M F hr hb hd hx I1 r q
end
structure FnScope(N P:List Str)(sc:Scope):Prop where
 kind:sc.kind=.function
 co:sc.isCoroutine=false
 gen:sc.isGenerator=false
 nd:N.Nodup
 pre:N.take P.length=P
 par:∀x∈P,sc.names.lookup x=some .local\/sc.names.lookup x=some .cell
 nofree:∀y∈sc.names,y.2 ≠ .free
theorem XM{kindOf:Str->Option NameKind}:∀{binds:List (Str×Value)}{m:Str->Option Value},(∀v,(x,v)∉binds)->bindL kindOf binds m x=m x
 | [],_,_=>rfl
 | (n,v)::r,m,h=>by
  unfold bindL;rw[XM λw hw=>h w (UR _ hw)];split
  ·have:x≠n:=by rintro rfl; exact h v UN
   simp[this]
  ·rfl
theorem XO{kindOf:Str->Option NameKind}:∀{binds:List (Str×Value)}{m:Str->Option Value},(∀v,(x,v)∉binds)->bindC kindOf binds m x=m x
 | [],_,_=>rfl
 | (n,v)::r,m,h=>by
  unfold bindC;rw[XO λw hw=>h w (UR _ hw)];split
  ·rfl
  ·have:x≠n:=by rintro rfl; exact h v UN
   simp[this]
theorem XN{kindOf:Str->Option NameKind}:∀{P:List Str}{vs:List Value}{i:Nat}{m:Str->Option Value},P.Nodup->P[i]?=some x->vs[i]?=some v->kindOf x=some .local ->
  bindL kindOf (P.zip vs) m x=some v
 | [],_,_,_,_,h,_,_=>by simp at h
 |_::_, [],_,_,_,_,h,_=>by simp at h
 |p::P,w::vs,0,m,nd,h1,h2,hk=>by
  simp at h1 h2; subst h1; subst h2;show bindL kindOf ((p,w)::P.zip vs) m p=_;unfold bindL;rw[XM λv hv=>(Dc.mp nd).1 (RO hv).1,if_pos hk];simp
 |p::P,w::vs,i+1,m,nd,h1,h2,hk=>by
  show bindL kindOf ((p,w)::P.zip vs) m x=_;unfold bindL;exact XN (i:=i) (Dc.mp nd).2 (by simpa using h1) (by simpa using h2) hk
theorem XQ{kindOf:Str->Option NameKind}:∀{P:List Str}{vs:List Value}{i:Nat}{m:Str->Option Value},P.Nodup->P[i]?=some x->vs[i]?=some v->kindOf x≠some .local ->
  bindC kindOf (P.zip vs) m x=some v
 | [],_,_,_,_,h,_,_=>by simp at h
 |_::_, [],_,_,_,_,h,_=>by simp at h
 |p::P,w::vs,0,m,nd,h1,h2,hk=>by
  simp at h1 h2; subst h1; subst h2;show bindC kindOf ((p,w)::P.zip vs) m p=_;unfold bindC;rw[XO λv hv=>(Dc.mp nd).1 (RO hv).1,if_neg hk];simp
 |p::P,w::vs,i+1,m,nd,h1,h2,hk=>by
  show bindC kindOf ((p,w)::P.zip vs) m x=_;unfold bindC;exact XQ (i:=i) (Dc.mp nd).2 (by simpa using h1) (by simpa using h2) hk
def start(N:List Str)(vs:List V):St:=vs.map some++List.replicate (N.length-vs.length) none
def cxOf(CX:CXT)(P:Program)(w:World)(Ξ:PySem.W.Frag)(mg:Str->Option Value)(base:Heap)(N:List Str)(qual:Str)(scope:Scope)(f:Addr)(cd:Value)(A:Around)(outer:List Env)(s:Shared)(H:Hp)(E:XK):Cx where
 prog:=P
 w:=w
 K:=Ξ
 mg:=mg
 base:=base
 A:=A.deeper (envOfC qual scope s.heap.objs.size f cd)
 N:=N
 s₀:=s
 H₀:=H
 env:=envOfC qual scope s.heap.objs.size f cd
 outer:=outer
 stack:=envOfC qual scope s.heap.objs.size f cd::outer
 ex:=[]
 calm:=true
 fn:=λ_=>true
 pn:=[]
 xe:=λe s'=>wpAny (model P w) (A.deeper (envOfC qual scope s.heap.objs.size f cd)) (leaving (envOfC qual scope s.heap.objs.size f cd) e) (λ_ s''=>CX outer H s E e s'') (λe' s''=>CX outer H s E e' s'') s'
theorem Yc{sc:Scope}(h:sc.names.lookup x=some .cell):∃c,(cellsFrom n sc.names []).lookup x=some c:=by
 have q:=RH sc.names n [] (.inl h);exact Option.isSome_iff_exists.mp q
theorem G2(S:FnScope N ps scope)(hd:A.handled=none)(e0:Env0 P w Ξ mg base A outer s H)(hl:vs.length=ps.length)(r:Vals vs us)(x:InCallC s s.heap.objs.size (bindL (envOfC qual scope s.heap.objs.size f cd).kindOf (ps.zip us) λ_=>none) (cellsFrom (s.heap.objs.size+1) scope.names []) (bindC (envOfC qual scope s.heap.objs.size f cd).kindOf (ps.zip us) λ_=>none) s1) :
  Inv (cxOf CX P w Ξ mg base N qual scope f cd A outer s H E) [] (start N vs) H s1:=by
 have hpl:ps.length<=N.length:=by have:=congrArg List.length S.pre; rw[U0] at this; lia
 obtain⟨h1,tk,rfl,hk⟩:=x.done;have noA:∀b:Addr,b∉(cxOf CX P w Ξ mg base N qual scope f cd A outer s H E).ex:=λb z=>absurd (show b∈([]:List Addr) from z) (by simp);refine⟨⟨e0.mod,S.kind,rfl,rfl,Uk _,λy z c h1 h2=>?_,λy hy=>?_,λy c _ h=>?_,λ_=>hd,Around.frames_deeper e0.frames, .inr ⟨rfl,rfl⟩,λb z=>absurd z (noA b),e0.bs,e0.bsz,λb _ _=>noA b,λb z=>absurd z (noA b),e0.funs,e0.frf⟩,
  rfl,e0.bare,Un.kept hk,⟨_,x.toInCall.ns,λi y v h1 h2 h3=>?_⟩,λy c h=>⟨_,x.cell y c h⟩,e0.hok.fresh (Uk _),λy c h=>?_,λp hp=>absurd (show p∈([]:List (Addr×Obj)) from hp) (by simp),e0.hok.kept hk, ?_⟩
 ·exact name_of_addr x.apart (PySem.mem_of_lookup h1) (PySem.mem_of_lookup h2)
 ·have hy:scope.names.lookup y=some .cell\/scope.names.lookup y=some .free:=hy
  rcases hy with hy|hy
  ·exact Yc hy
  ·exact absurd rfl (S.nofree _ (PySem.mem_of_lookup hy))
 ·exact U2 (x.above y c (PySem.mem_of_lookup h))
 ·have hi:i<vs.length:=by
   unfold start at h2;by_cases hi:i<vs.length
   ·exact hi
   ·rw[Uo (by simpa using hi)] at h2
    rw[DU] at h2;split at h2<;>cases h2
  have ha:vs[i]?=some v:=by
   unfold start at h2;rw[Ug (by simpa using hi),Uz] at h2;cases e:vs[i]? with
   |none=>rw[e] at h2; cases h2
   |some a=>rw[e] at h2; cases h2; rfl
  obtain⟨u,hu,rv⟩:=r.get ha;have hp:ps[i]?=some y:=by
   rw[<-S.pre,Rr (by lia)]; exact h1
  have ndP:ps.Nodup:=by rw[<-S.pre]; exact S.nd.sublist (List.take_sublist _ _)
  refine⟨u,rv, ?_⟩;rcases S.par y (Ui hp) with k|k
  ·exact .inl ⟨k,XN ndP hp hu k⟩
  ·obtain⟨c,e⟩:=Yc (n:=s.heap.objs.size+1) k
   refine .inr ⟨.inl k,c,e, ?_⟩;have q:=x.cell y c e;rw[XQ ndP hp hu (by show scope.names.lookup y≠_; rw[k]; decide)] at q;exact q
 ·exact e0.hok.fresh (U2 (x.above y c (PySem.mem_of_lookup h)))
 ·unfold start
  show _=N.length;rw[Uj,Uh,RP];lia
theorem fn_of{dV kV doc pm cdv ct oc:Value}(lk:Ξ.lookup f=some ⟨oc,od, .func (W.fnOf name qual params body scope dV kV doc pm an cdv ct),osl⟩)(hcd:W.codeIn Ξ cdv qual=true)(S:FnScope N ps scope)(len:∀vs H Q E,sp vs H Q E->vs.length=ps.length)(hbody:∀(A:Around)(outer:List Env)(s:Shared)(H:Hp)(vs:List V)(Q:VK)(E:XK),Room k (A.deeper (envOfC qual scope s.heap.objs.size f cdv))->sp vs H Q E ->
   ∃t,PSs (cxOf CX P w Ξ mg base N qual scope f cdv A outer s H E) body t/\t { nx:=λ_ H'=>Q .non H',rt:=Q } (start N vs) H) :
  FnOk P w Ξ mg base CX (k+1) f (W.fnOf name qual params body scope dV kV doc pm an cdv ct) ps sp:=by
 refine⟨len,λA outer s H args us vs Q E hr e0 hb r hsp=>?_⟩;have hl:=len _ _ _ _ hsp;have KX:Ξ.In s.heap:=e0.mod.kin.keeps λb o e=>(e0.bs b o e).1;have lim:s.heap.NoLimit:=e0.mod.nolimit.keeps λb o e=>(e0.bs b o e).1;have hkind:∀y∈ps.zip us,scope.names.lookup y.1=some .local\/(scope.names.lookup y.1=some .cell/\((cellsFrom (s.heap.objs.size+1) scope.names []).lookup y.1).isSome=true):=λ⟨n,v⟩ hy=>by
  rcases S.par n (RO hy).1 with q|q
  ·exact .inl q
  ·exact .inr ⟨q,RH _ _ _ (.inl q)⟩
 refine codeAny_call_function hr.depth (KX _ _ lk) rfl S.co S.gen rfl (W.codeRec_of KX hcd) (hb _ _ _ _ ?_);refine wpAny_newFunctionEnv_cells S.kind hkind λenv he s1 x=>?_;subst he;refine⟨lim.keeps x.toInCall.keep,codeAny_func ?_⟩;obtain⟨t,ht,hq⟩:=hbody A outer s H vs Q E (hr.deeper _) hsp;have I:Inv (cxOf CX P w Ξ mg base N qual scope f cdv A outer s H E) [] (start N vs) H s1:=G2 S hr.hd e0 hl r x;refine wpAny_mono (ht [] s1 (start N vs) H _ I hq) (λfl s' hs=>?_) λe s' hs=>hs;have fin:∀{σ':St}{H':Hp}{v:V}{u:Value},Inv (cxOf CX P w Ξ mg base N qual scope f cdv A outer s H E) [] σ' H' s'->RelV v u->Q v H'->CE outer P w H s Q u s' :=
  λ{σ' H' v u} J rv q=>⟨v,H',J.os,J.bare,J.base,J.hok,rv,q⟩
 cases fl with
 |ret u =>
  obtain⟨v,σ',H',J,rv,q⟩:=hs;exact fin J rv q
 |next =>
  obtain⟨σ',H',J,q⟩:=hs;exact fin (v:=V.non) (u:=Value.none) J rfl q
 |brk =>
  obtain⟨_,_,_,q⟩:=hs;exact False.elim q
 |cont =>
  obtain⟨_,_,_,q⟩:=hs;exact False.elim q
section
variable {X:Cx} {x:Str} {p pos:Pos} {e:Expr} {es:List Expr} {t:TA} {id T:String} {r:List V->Hp->VK->Prop}
def tCB(r:List V->Hp->VK->Prop)(t:TA):TE:=λσ H Q=>t σ H λvs H1=>r vs H1 Q
end
end L2
namespace HT
open PySem PyProof.Rows
section
def sIx(n d:Nat):Option Int->Nat
 |none=>d
 |some v=>if v<0 then(v+(n:Int)).toNat else min v.toNat n
theorem sIx_nat(n d k:Nat):sIx n d (some (k:Int))=min k n:=by
 show(if(k:Int)<0 then((k:Int)+(n:Int)).toNat else min (k:Int).toNat n)=min k n;rw[if_neg (by lia),Dx]
end
end HT
namespace L2
open PySem PySem.Spec PyProof.Rows
abbrev TO:=St->Hp->(Option Int->Hp->Prop)->Prop
def PO(X:Cx)(e:Option Expr)(t:TO):Prop :=
 ∀(pins:List (Addr×Obj))(s:Shared)(σ:St)(H:Hp)(Q:Option Int->Hp->Prop),Inv X pins σ H s->t σ H Q ->
  wpAny (model X.prog X.w) X.A (evalPart e X.env) (λu s'=>∃o H',Inv X pins σ H' s'/\IsPart u o/\Q o H') X.xe s
def xg:TO:=λ_ H Q=>Q none H
def ZB(t:TE):TO:=λσ H Q=>t σ H λx H1=>∃i,x=.int i/\Q (some i) H1
section
theorem po_none:PO X none xg:=by
 intro pins s σ H Q I h;rw[evalPart_none];exact wpAny_pure ⟨none,H,I, .none,h⟩
theorem WV(h:PE X e te):PO X (some e) (ZB te):=by
 intro pins s σ H Q I hw;rw[evalPart_some];refine thn (h pins s σ H _ I hw) λu s1 ⟨x,H1,I1,r1,q1⟩=>?_;obtain⟨i,rfl,q⟩:=q1;obtain⟨t,rfl⟩:=r1;exact⟨some i,H1,I1, .int i t,q⟩
def SlR(X:Cx)(r:V->Option Int->Option Int->Hp->VK->Prop):Prop :=
 ∀(pins:List (Addr×Obj))(s:Shared)(σ:St)(H:Hp)(x:V)(v vl vu:Value)(lo hi:Option Int)(sl:Addr)(Q:VK),Inv X pins σ H s->RelV x v->s.heap.IsSliceOf sl vl vu .none->IsPart vl lo->IsPart vu hi->r x lo hi H Q ->
  ∃T id,typeLookup (.type T) "__getitem__" = pure (some (.builtin id))/\s.TypeIs v T/\wpAny (model X.prog X.w) X.A (getItem v (.ref sl)) (EP X pins σ Q) X.xe s
def tSl(r:V->Option Int->Option Int->Hp->VK->Prop)(te:TE)(tl th:TO):TE:=λσ H Q=>te σ H λx H1=>tl σ H1 λl H2=>th σ H2 λu H3=>r x l u H3 Q
def cutV(xs:List V)(lo hi:Option Int):List V:=(xs.drop (HT.sIx xs.length 0 lo)).take (HT.sIx xs.length xs.length hi-HT.sIx xs.length 0 lo)
theorem JV(xs:List V)(lo hi:Option Int):(cutV xs lo hi).length<=xs.length:=by
 unfold cutV;rw[U0,DD];lia
end
def ixN(n:Nat)(i:Int):Option Nat:=if 0<=i then(if i<n then some i.toNat else none) else if -(n:Int)<=i then some (i+n).toNat else none
def atI{α:Type}(xs:List α)(i:Int):Option α:=(ixN xs.length i).bind λj=>xs[j]?
theorem GY(h:ixN n i=some j):seqIndex? i n=some j/\j<n /\ -(n:Int)<=i/\i<n:=by
 unfold ixN at h;by_cases h0:0<=i
 ·rw[if_pos h0] at h
  by_cases h1:i<n
  ·rw[if_pos h1] at h
   have e:i.toNat=j:=Option.some.inj h;exact⟨by rw[seqIndex_of h0 h1,e],by lia,by lia,h1⟩
  ·rw[if_neg h1] at h; cases h
 ·rw[if_neg h0] at h
  by_cases h1 : -(n:Int)<=i
  ·rw[if_pos h1] at h
   have e:(i+n).toNat=j:=Option.some.inj h;exact⟨by rw[seqIndex_neg (by lia) h1,e],by lia,h1,by lia⟩
  ·rw[if_neg h1] at h; cases h
theorem qaU{α:Type}{xs:List α}{i:Int}{v:α}(h:atI xs i=some v):∃j,seqIndex? i xs.length=some j/\xs[j]?=some v/\j<xs.length /\ -(xs.length:Int)<=i/\i<xs.length:=by
 unfold atI at h;cases e:ixN xs.length i with
 |none=>rw[e] at h; cases h
 |some j =>
  rw[e] at h;obtain⟨h1,h2,h3,h4⟩:=GY e;exact⟨j,h1,h,h2,h3,h4⟩
theorem ju{α:Type}{xs:List α}{j:Nat}{v:α}(h:xs[j]?=some v):atI xs (j:Int)=some v:=by
 have hj:j<xs.length:=(Ue.mp h).1;have e:ixN xs.length (j:Int)=some j:=by
  unfold ixN;rw[if_pos (by lia),if_pos (by lia)]; simp
 unfold atI; rw[e]; exact h
def Ka(b:Expr):Prop:=∀o i,subscripted b false o i=operate [o,i] (getItem o i)
def IxR(X:Cx)(r:R2):Prop :=
 ∀(value slice:Expr)(pins:List (Addr×Obj))(s:Shared)(σ:St)(H:Hp)(x y:V)(v u:Value)(Q:VK),Inv X pins σ H s->RelV x v->RelV y u->r x y H Q ->
  subscripted slice false v u=operate [v,u] (getItem v u)->wpAny (model X.prog X.w) X.A (subscriptTail value slice v u) (EP X pins σ Q) X.xe s
def MtR(X:Cx)(id:String)(r:V->List V->Hp->VK->Prop):Prop :=
 ∀(pins:List (Addr×Obj))(s:Shared)(σ:St)(H:Hp)(x:V)(xs:List V)(v:Value)(us:List Value)(Q:VK),Inv X pins σ H s->RelV x v->Vals xs us->r x xs H Q ->
  wpAny (model X.prog X.w) X.A (call (.builtin id) (v::us)) (EP X pins σ Q) X.xe s
section
def rIxL(Ξ:PySem.W.Frag):R2:=λx y H Q=>∃p xs i v,x=.ref p/\y=.int i/\SqL Ξ H p xs/\atI xs i=some v/\Q v H
def rIxT(Ξ:PySem.W.Frag):R2:=λx y H Q=>∃p xs i v,x=.ref p/\y=.int i/\SqT Ξ H p xs/\atI xs i=some v/\Q v H
theorem ix_list:IxR X (rIxL X.K):=by
 intro value slice pins s σ H x y v u Q I rx ry h hs;obtain⟨p,xs,i,z,rfl,rfl,hq,he,q⟩:=h;cases rx;obtain⟨t,rfl⟩:=ry;obtain⟨its,r,pl,hz⟩:=I.list hq;obtain⟨j,h1,h2,h3,h4,h5⟩:=qaU he;obtain⟨w,ew,rw'⟩:=r.get h2;have hl:=r.length;have hn:=Xi;have fin:EP X pins σ Q w s:=⟨z,H,I,rw',q⟩;by_cases h0:0<=i
 ·have hj:i.toNat=j:=by
   rw[seqIndex_of h0 h5] at h1;exact Option.some.inj h1
  exact item_listR pl.isList h0 (by lia) (by rw[hj]; simpa using ew) fin hs
 ·have hj:(i+(its.toArray.size:Int)).toNat=j:=by
   rw[seqIndex_neg (by lia) h4] at h1;rw[Up, <-hl];exact Option.some.inj h1
  exact subscriptTail_builtinR (x:=w) pl.isList.typeIs slot_list_getitem.lookup
   (wpAny_getItem_list_neg (Q:=λr s'=>r=w/\EP X pins σ Q r s') pl.isList (by lia) (by rw[Up]<;>lia) (by lia) (by rw[hj]; simpa using ew) ⟨rfl,fin⟩) hs
theorem ix_tup:IxR X (rIxT X.K):=by
 intro value slice pins s σ H x y v u Q I rx ry h hs;obtain⟨p,xs,i,z,rfl,rfl,hq,he,q⟩:=h;cases rx;obtain⟨t,rfl⟩:=ry;obtain⟨its,r,pl,hz⟩:=I.tuple hq;obtain⟨j,h1,h2,h3,h4,h5⟩:=qaU he;obtain⟨w,ew,rw'⟩:=r.get h2;have hl:=r.length;have hn:=Xi;have fin:EP X pins σ Q w s:=⟨z,H,I,rw',q⟩;exact subscriptTail_builtinR (x:=w) pl.typeIs slot_tuple_getitem.lookup
  (getItem_tuple (j:=j) (Q:=λr s'=>r=w/\EP X pins σ Q r s') pl (by lia) (by lia) (by rw[Up, <-hl]; exact h1) (by simpa using ew) ⟨rfl,fin⟩) hs
theorem YE(its:List Value)(n j:Nat)(u:Value):Obj.mapSeq (·.setIfInBounds j u) { cls:=.type "list", data:=.seq its.toArray n }={ cls:=.type "list", data:=.seq (its.set j u).toArray n }:=by
 simp[Obj.mapSeq]
theorem Inv.lst(I:Inv X pins σ H s)(h:H p=some (.lst xs)) :
  ∃(its:List Value)(n:Nat),Vals xs its/\s.heap.get? p=some { cls:=.type "list", data:=.seq its.toArray n }/\xs.length<=sizeLine:=by
 obtain⟨z,its,n,r,e⟩:=I.hok p _ h;exact⟨its,n,r,e,z⟩
theorem Inv.lstUpd{its its':List Value}(I:Inv X pins σ H s)(h:H p=some (.lst xs))(ho:s.heap.get? p=some { cls:=.type "list", data:=.seq its.toArray n })(hf:f { cls:=.type "list", data:=.seq its.toArray n }={ cls:=.type "list", data:=.seq its'.toArray n' })(r:Vals ys its')(hz:ys.length<=sizeLine)(t:Nat) :
  Inv X pins σ (upd H p (.lst ys)) { s with heap:=s.heap.update p f,toks:=t }:=by
 have e:(s.heap.update p f).get? p=some { cls:=.type "list", data:=.seq its'.toArray n' }:=by
  rw[Heap.get?_update_self f ho (by rw[hf]<;>rfl),hf]
 refine I.write (x:=p) (e:=p) (by rw[h]; trivial) (.inl rfl) (λb u hb q=>(Heap.get?_update_other _ _ (Ne.symm hb)).trans q) ⟨_,e⟩ ?_;exact⟨hz,its',n',r,e⟩
def WD:V->V->V->Hp->(Hp->Prop)->Prop:=λo i v H Q=>∃p xs k j,o=.ref p/\i=.int k/\H p=some (.lst xs)/\ixN xs.length k=some j/\Q (upd H p (.lst (xs.set j v)))
theorem qX:PSet X WD:=by
 intro pins s σ H o i v ov iv u Q I ro ri rv h;obtain⟨p,xs,k,j,rfl,rfl,hp,hj,q⟩:=h;cases ro;obtain⟨t,rfl⟩:=ri;obtain⟨its,n,r,ho,hz⟩:=I.lst hp;obtain⟨h1,h2,h3,h4⟩:=GY hj;have hl:=r.length;have hn:=Xi;have I':Inv X pins σ (upd H p (.lst (xs.set j v))) { s with heap:=s.heap.update p (Obj.mapSeq (·.setIfInBounds j u)) } :=
  I.lstUpd hp ho (YE its n j u) (r.set rv j) (by rw[Uq]; exact hz) s.toks
 by_cases h0:0<=k
 ·have hk:k.toNat=j:=by
   rw[seqIndex_of h0 h4] at h1;exact Option.some.inj h1
  exact W.ki_setAt ho h0 (by lia) (by rw[Up, <-hl]; exact h4) (by rw[hk]; exact⟨_,I',q⟩)
 ·have hk:(k+(its.toArray.size:Int)).toNat=j:=by
   rw[seqIndex_neg (by lia) h3] at h1;rw[Up, <-hl];exact Option.some.inj h1
  exact W.ki_setBack ho (by lia) (by rw[Up, <-hl]; exact h3) (by lia) (by rw[hk]; exact⟨_,I',q⟩)
theorem ZH(lo hi:Option Int)(n:Nat):(sliceBounds lo hi none n).1=((HT.sIx n 0 lo:Nat):Int)/\(sliceBounds lo hi none n).2.1=((HT.sIx n n hi:Nat):Int)/\(sliceBounds lo hi none n).2.2=1:=by
 refine⟨?_, ?_,rfl⟩
 ·cases lo with
  |none=>simp[sliceBounds,HT.sIx]
  |some i =>
   simp only[sliceBounds,HT.sIx,Option.getD_none,show(1:Int)>0 by decide,if_true];by_cases h:i<0
   ·simp only[h,if_true]<;>lia
   ·simp only[h,if_false]<;>lia
 ·cases hi with
  |none=>simp[sliceBounds,HT.sIx]
  |some i =>
   simp only[sliceBounds,HT.sIx,Option.getD_none,show(1:Int)>0 by decide,if_true];by_cases h:i<0
   ·simp only[h,if_true]<;>lia
   ·simp only[h,if_false]<;>lia
theorem Vz(its:List Value)(lo hi:Option Int):slicePick its.toArray lo hi none=((its.drop (HT.sIx its.length 0 lo)).take (HT.sIx its.length its.length hi-HT.sIx its.length 0 lo)).toArray:=by
 obtain⟨h1,h2,h3⟩:=ZH lo hi its.toArray.size;unfold slicePick;rw[h1,h2,h3];simp only[sliceRange_one,pick_run,Up]<;>rfl
def rSlL(Ξ:PySem.W.Frag):V->Option Int->Option Int->Hp->VK->Prop:=λx lo hi H Q=>∃a xs,x=.ref a/\SqL Ξ H a xs/\∀p,H p=none->Q (.ref p) (upd H p (.lst (cutV xs lo hi)))
theorem sl_list:SlR X (rSlL X.K):=by
 intro pins s σ H x v vl vu lo hi sl Q I rx hs pl pu h;obtain⟨a,xs,rfl,hx,q⟩:=h;cases rx;obtain⟨its,r,ht,hz⟩:=I.list hx;have hlen:=r.length;refine⟨"list", _,slot_list_getitem.lookup,ht.isList.typeIs, ?_⟩;refine wpAny_getItem_list_slice ht.isList hs pl pu .none (by simp) ?_ (by rw[Up]<;>lia);rw[Vz, <-hlen];refine⟨.ref s.heap.objs.size,_,I.laid (t':=s.toks) (o:=.lst (cutV xs lo hi)) (λb ob q=>Heap.get?_push_of_some _ q) (Uk _) ?_,rfl,q _ (I.hok.fresh (Uk _))⟩;exact⟨UL (JV xs lo hi) hz,_,0,(r.drop (HT.sIx xs.length 0 lo)).take (HT.sIx xs.length xs.length hi-HT.sIx xs.length 0 lo),Heap.get?_push_size _ rfl⟩
def kH:V->Bool
 |.non=>true
 |.bl _=>true
 |.int _=>true
 |.str _=>true
 |_=>false
def eqV:V->V->Bool
 |.non, .non=>true
 |.bl a, .bl b=>a==b
 |.bl a, .int b=>(if a then 1 else 0)==b
 |.int a, .bl b=>a==(if b then 1 else 0)
 |.int a, .int b=>a==b
 |.str a, .str b=>a==b
 |_,_=>false
theorem XB(ry:RelV y u)(rx:RelV x v)(fy:kH y=true)(fx:kH x=true):SeqAt.EqAt A s u v (eqV y x):=by
 cases y with
 |non =>
  cases ry;cases x with
  |non=>cases rx; exact SeqAt.EqAt.same _
  |bl b=>cases rx; exact SeqAt.EqAt.none_bool b
  |int b=>obtain⟨t,rfl⟩:=rx; exact SeqAt.EqAt.none_int b t
  |str b=>obtain⟨t,rfl⟩:=rx; exact SeqAt.EqAt.none_str b t
  |_=>exact absurd (show false=true from fx) Ut
 |bl a =>
  cases ry;cases x with
  |non=>cases rx; exact SeqAt.EqAt.bool_none a
  |bl b=>cases rx; exact SeqAt.EqAt.bool_bool a b
  |int b=>obtain⟨t,rfl⟩:=rx; exact SeqAt.EqAt.bool_int a b t
  |str b=>obtain⟨t,rfl⟩:=rx; exact SeqAt.EqAt.bool_str a b t
  |_=>exact absurd (show false=true from fx) Ut
 |int a =>
  obtain⟨t',rfl⟩:=ry;cases x with
  |non=>cases rx; exact SeqAt.EqAt.int_none a t'
  |bl b=>cases rx; exact SeqAt.EqAt.int_bool a t' b
  |int b=>obtain⟨t,rfl⟩:=rx; exact SeqAt.EqAt.int_int a t' b t
  |str b=>obtain⟨t,rfl⟩:=rx; exact SeqAt.EqAt.int_str a t' b t
  |_=>exact absurd (show false=true from fx) Ut
 |str a =>
  obtain⟨t',rfl⟩:=ry;cases x with
  |non=>cases rx; exact SeqAt.EqAt.str_none a t'
  |bl b=>cases rx; exact SeqAt.EqAt.str_bool a t' b
  |int b=>obtain⟨t,rfl⟩:=rx; exact SeqAt.EqAt.str_int a t' b t
  |str b=>obtain⟨t,rfl⟩:=rx; exact SeqAt.EqAt.str_str a t' b t
  |_=>exact absurd (show false=true from fx) Ut
 |_=>exact absurd (show false=true from fy) Ut
def eqU(x:V)(u:Value):Bool:=match u with
 |.none=>eqV .non x
 |.bool b=>eqV (.bl b) x
 |.int i _=>eqV (.int i) x
 |.str z _=>eqV (.str z) x
 |_=>false
theorem eqU_of(r:RelV y u)(f:kH y=true):eqU x u=eqV y x:=by
 cases y with
 |non=>cases r; rfl
 |bl b=>cases r; rfl
 |int i=>obtain⟨t,rfl⟩:=r; rfl
 |str z=>obtain⟨t,rfl⟩:=r; rfl
 |_=>exact absurd (show false=true from f) Ut
theorem J0:∀{xs:List V}{us:List Value},Vals xs us->xs.all kH=true->us.any (eqU x)=xs.any λy=>eqV y x
 |_,_, .nil,_=>rfl
 |y::xs,u::us, .cons r t,f=>by
  rw[RB,DF] at f;rw[DB,DB,eqU_of r f.1,J0 t f.2]
theorem V9(rx:RelV x v)(fx:kH x=true):∀{xs:List V}{us:List Value},Vals xs us->xs.all kH=true->∀u∈us,SeqAt.EqAt A s u v (eqU x u)
 |_,_, .nil,_=>λu hu=>by cases hu
 |y::xs,u::us, .cons r t,f=>λu' hu=>by
  rw[RB,DF] at f;rcases Uv.mp hu with rfl|hu
  ·rw[eqU_of r f.1]; exact XB r rx f.1 fx
  ·exact V9 rx fx t f.2 u' hu
def inV(x:V)(xs:List V):Bool:=xs.any λy=>eqV y x
def rIn(Ξ:PySem.W.Frag)(neg:Bool):R2:=λx y H Q=>∃p xs,y=.ref p/\(SqL Ξ H p xs\/SqT Ξ H p xs)/\kH x=true/\xs.all kH=true/\Q (.bl (if neg then !inV x xs else inV x xs)) H
theorem Gd:OpR X (compareOp .In) (rIn X.K false):=by
 intro pins s σ H x y v u Q I rx ry h;obtain⟨p,xs,rfl,hq,fx,fs,q⟩:=h;cases ry;rcases hq with hq|hq
 ·obtain⟨its,r,pl,hz⟩:=I.list hq
  refine SeqAt.in_listAt (eqU x) pl.isList (λw hw=>V9 rx fx r fs w (by simpa using hw)) ⟨.bl _,H,I,rfl, ?_⟩;rw[show its.toArray.any (eqU x)=its.any (eqU x) by simp,J0 r fs];exact q
 ·obtain⟨its,r,pl,hz⟩:=I.tuple hq
  refine SeqAt.in_tupleAt (eqU x) pl (λw hw=>V9 rx fx r fs w (by simpa using hw)) ⟨.bl _,H,I,rfl, ?_⟩;rw[show its.toArray.any (eqU x)=its.any (eqU x) by simp,J0 r fs];exact q
theorem kA:jv X (.builtin "len") (λxs H Q=>∃p ys,xs=[.ref p]/\(SqL X.K H p ys\/SqT X.K H p ys)/\Q (.int ys.length) H):=by
 intro pins s σ H xs us Q I r h;obtain⟨p,ys,rfl,hq,q⟩:=h;obtain⟨u,rfl,rx⟩:=Yj r;cases rx;have hn:=Xi;rcases hq with hq|hq
 ·obtain⟨its,r',pl,hz⟩:=I.list hq
  have hlen:=r'.length;exact Calls.call_len_list pl.isList (by simp only[Up]<;>lia) ⟨.int ys.length,H,I.tok _,⟨s.toks+1,by rw[Up,hlen]⟩,q⟩
 ·obtain⟨its,r',pl,hz⟩:=I.tuple hq
  have hlen:=r'.length;exact len_tuple pl (by simp only[Up]<;>lia) ⟨.int ys.length,H,I.tok _,⟨s.toks+1,by rw[Up,hlen]⟩,q⟩
theorem qP:jv X (.type "list") (λxs H Q=>∃p ys,xs=[.ref p]/\(SqL X.K H p ys\/SqT X.K H p ys)/\∀l,H l=none->Q (.ref l) (upd H l (.lst ys))):=by
 intro pins s σ H xs us Q I r h;obtain⟨p,ys,rfl,hq,q⟩:=h;obtain⟨u,rfl,rx⟩:=Yj r;cases rx;have fin:∀(its:List Value),Vals ys its->ys.length<=sizeLine->∀(h':Heap)(c':Nat),(∀b o',s.heap.get? b=some o'->h'.get? b=some o') ->
   h'.get? s.heap.objs.size=some { cls:=.type "list", dict:=none,data:=.seq its.toArray c',slots:=#[] }->EP X pins σ Q (.ref s.heap.objs.size) { s with heap:=h' }:=λits r' hz h' c' kp e =>
  ⟨.ref s.heap.objs.size,_,I.laid (t':=s.toks) kp (Uk _) (show ObjOk X.prog X.w _ h' _ (.lst ys) from⟨hz,its,c',r',e⟩),rfl,q _ (I.hok.fresh (Uk _))⟩
 rcases hq with hq|hq
 ·obtain⟨its,r',pl,hz⟩:=I.list hq
  have hlen:=r'.length;obtain⟨o,ho,hc,n,hd⟩:=pl.isList;exact call_list_seq p (.inl rfl) ho hc hd (λh' c' kp e=>fin its r' hz h' c' kp e) (by simp only[Up]<;>lia)
 ·obtain⟨its,r',pl,hz⟩:=I.tuple hq
  have hlen:=r'.length;obtain⟨o,ho,hc,n,hd⟩:=pl;exact call_list_seq p (.inr rfl) ho hc hd (λh' c' kp e=>fin its r' hz h' c' kp e) (by simp only[Up]<;>lia)
def tyV(Ξ:PySem.W.Frag)(T:String)(x:V)(H:Hp):Prop:=match x with
 |.str _=>T = "str"
 |.int _=>T = "int"
 |.ref p=>(T = "list" /\ ∃xs,SqL Ξ H p xs)\/(T = "tuple" /\ ∃o,Ξ.lookup p=some o/\o.cls=.type "tuple" /\ o.dict=none) \/
   (T = "dict" /\ ((∃kvs,H p=some (.dK kvs))\/∃kvs,H p=some (.dT kvs)))\/(T = "set" /\ ∃S n,H p=some (.set S n))
 |_=>False
theorem Kk{T:String}(I:Inv X pins σ H s)(r:RelV x v)(ty:tyV X.K T x H) :
  s.TypeIs v T/\∀a,v=.ref a->∃ob,s.heap.get? a=some ob/\ob.dict=none:=by
 cases x with
 |str z =>
  obtain⟨t,rfl⟩:=r;cases(show T = "str" from ty);exact⟨typeIs_str s z t,λ_ e=>nomatch e⟩
 |int i =>
  obtain⟨t,rfl⟩:=r;cases(show T = "int" from ty);exact⟨typeIs_int s i t,λ_ e=>nomatch e⟩
 |ref p =>
  cases r;rcases ty with⟨rfl,xs,hq⟩|⟨rfl,o,hk,hc,hd⟩|⟨rfl,hk⟩|⟨rfl,S,n,hk⟩
  ·obtain⟨its,_,pl,_⟩:=I.list hq
   refine⟨pl.isList.typeIs,λa e=>?_⟩;cases e;obtain⟨o,n,e,c,hd,_⟩:=pl;exact⟨o,e,hd⟩
  ·refine⟨⟨o,I.kIn p o hk,hc⟩,λa e=>?_⟩
   cases e;exact⟨o,I.kIn _ o hk,hd⟩
  ·have z:∃o,s.heap.get? p=some o/\o.ExactDict:=by
    rcases hk with⟨kvs,hk⟩|⟨kvs,hk⟩
    ·obtain⟨_,_,_,_,o,_,_,e,ex,_⟩:=I.hok p _ hk
     exact⟨o,e,ex⟩
    ·obtain⟨_,_,_,_,o,_,_,e,ex,_⟩:=I.hok p _ hk
     exact⟨o,e,ex⟩
   obtain⟨o,e,ex⟩:=z;refine⟨⟨o,e,ex.1⟩,λa e2=>?_⟩;cases e2;exact⟨o,e,ex.2.1⟩
  ·obtain⟨o,_,_,_,e,ex,_⟩:=I.hok p _ hk
   refine⟨⟨o,e,ex.1⟩,λa e2=>?_⟩;cases e2;exact⟨o,e,ex.2.1⟩
 |_=>exact False.elim ty
def tBM0(Ξ:PySem.W.Frag)(T:String)(r:V->List V->Hp->VK->Prop)(to:TE):TE:=λσ H Q=>to σ H λx H1=>tyV Ξ T x H1/\r x [] H1 Q
def tBM(Ξ:PySem.W.Frag)(T:String)(r:V->List V->Hp->VK->Prop)(to:TE)(t:TA):TE:=λσ H Q=>to σ H λx H1=>tyV Ξ T x H1/\t σ H1 λxs H2=>r x xs H2 Q
variable {o e:Expr} {es:List Expr} {to:TE} {t:TA} {name:Str} {apos cpos:Pos} {T id:String} {r:V->List V->Hp->VK->Prop}
end
def MtM(X:Cx)(id:String)(r:V->List V->Hp->VK->Prop):Prop :=
 ∀(pins:List (Addr×Obj))(s:Shared)(σ:St)(H:Hp)(x:V)(xs:List V)(v:Value)(us:List Value)(Q:VK),Inv X pins σ H s->RelV x v->Vals xs us->r x xs H Q ->
  wpAny (model X.prog X.w) X.A (call (.builtin id) (v::us)) (EP X pins σ Q) X.xe s
theorem Vals.one:∀{x:V}{us:List Value},Vals [x] us->∃u,us=[u]/\RelV x u
 |_,_, .cons r .nil=>⟨_,rfl,r⟩
theorem Vals.two:∀{x y:V}{us:List Value},Vals [x,y] us->∃u v,us=[u,v]/\RelV x u/\RelV y v
 |_,_,_, .cons r (.cons q .nil)=>⟨_,_,rfl,r,q⟩
theorem Vals.zero:∀{us:List Value},Vals [] us->us=[]
 |_, .nil=>rfl
theorem Vals.dropLast(h:Vals xs us):Vals xs.dropLast us.dropLast:=by
 induction h with
 |nil=>exact .nil
 |cons r t ih =>
  cases t with
  |nil=>exact .nil
  |cons q t'=>exact .cons r ih
theorem Vals.eraseIdx:∀{xs:List V}{us:List Value}(i:Nat),Vals xs us->Vals (xs.eraseIdx i) (us.eraseIdx i)
 |_,_,_, .nil=>.nil
 |_,_,0, .cons _ t=>t
 |_,_,i+1, .cons r t=>.cons r (Vals.eraseIdx i t)
theorem Vals.reverse(h:Vals xs us):Vals xs.reverse us.reverse:=by
 induction h with
 |nil=>exact .nil
 |cons r t ih=>rw[Dy,Dy]; exact Vals.append ih (.cons r .nil)
theorem Vals.rep(h:Vals xs us):∀k:Nat,Vals (List.replicate k xs).flatten (List.replicate k us).flatten
 |0=>.nil
 |k+1=>by
  rw[De,De,Dz,Dz];exact Vals.append h (Vals.rep h k)
theorem YN{α:Type}(l:List α):l.eraseIdx (l.length-1)=l.dropLast:=by
 induction l with
 |nil=>rfl
 |cons a r ih =>
  cases r with
  |nil=>rfl
  |cons b r =>
   have e:(a::b::r).length-1=((b::r).length-1)+1:=by
    have h1:(a::b::r).length=r.length+2:=rfl;have h2:(b::r).length=r.length+1:=rfl;lia
   rw[e,DV,ih]
   all_goals rfl
theorem Xj{α:Type}:∀(l:List α)(i:Nat),(l.eraseIdx i).length<=l.length
 | [],_=>Uk _
 |_::_,0=>R6 _
 |_::r,i+1=>DP (Xj r i)
theorem Xy(its:List Value):∀(k:Nat)(acc:List Value),
  List.foldl (λx1 x2=>x1++x2) acc.toArray (List.replicate k its.toArray)=(acc++(List.replicate k its).flatten).toArray
 |0,acc=>by simp
 |k+1,acc=>by
  have e:acc.toArray++its.toArray=(acc++its).toArray:=by simp
  have e2:(acc++its)++(List.replicate k its).flatten=acc++(List.replicate (k+1) its).flatten:=by
   rw[De,Dz,Us]
  rw[<-e2, <-Xy its k (acc++its), <-e,De,RQ]
section
theorem Inv.lset{its its':List Value}(I:Inv X pins σ H s)(hH:H l=some (.lst xs))(e:s.heap.get? l=some { cls:=.type "list", data:=.seq its.toArray n })(hf:f its.toArray=its'.toArray)(hv:Vals ys its')(hz:ys.length<=sizeLine) :
  Inv X pins σ (upd H l (.lst ys)) { s with heap:=s.heap.update l (Obj.mapSeq f),toks:=t' }:=by
 have q:=PySem.IsL.update e f;rw[hf] at q;refine I.write (x:=l) (e:=l) (by rw[hH]; exact trivial) (.inl rfl) (λb' u hb hu=>(Heap.get?_update_other s.heap (Obj.mapSeq f) (Ne.symm hb)).trans hu) ⟨_,q⟩ ?_;exact⟨hz,its',_,hv,q⟩
theorem Inv.lnew(I:Inv X pins σ H s)(hv:Vals ys its)(hz:ys.length<=sizeLine) :
  Inv X pins σ (upd H s.heap.objs.size (.lst ys)) { s with heap:=s.heap.push { cls:=.type "list", data:=.seq its.toArray },toks:=t' } :=
 I.laid (λ_ _ q=>Heap.get?_push_of_some _ q) (Uk _) ⟨hz,its,0,hv,Heap.get?_push_size _ rfl⟩
theorem Inv.fresh(I:Inv X pins σ H s):H s.heap.objs.size=none:=I.hok.fresh (Uk _)
theorem Inv.lstM(I:Inv X pins σ H s)(hH:H l=some (.lst xs)):xs.length<=sizeLine/\∃(its:List Value)(n:Nat),Vals xs its/\xs.length=its.length/\s.heap.get? l=some { cls:=.type "list", data:=.seq its.toArray n }:=by
 obtain⟨z,its,n,r,e⟩:=I.hok l _ hH;exact⟨z,its,n,r,r.length,e⟩
theorem KD(h:n<=sizeLine):Builtin.List.listTooLong n=false:=by
 unfold Builtin.List.listTooLong;exact decide_eq_false (by lia)
end
section
def WF:V->List V->Hp->VK->Prop:=λx vs H Q=>∃l xs y,x=.ref l/\vs=[y]/\H l=some (.lst xs)/\xs.length<sizeLine/\Q .non (upd H l (.lst (xs++[y])))
theorem vJ:MtM X "list.append" WF:=by
 intro pins s σ H x vs v us Q I rx rv h;obtain⟨l,xs,y,rfl,rfl,hH,hz,q⟩:=h;cases rx;obtain⟨u,rfl,ru⟩:=rv.one;obtain⟨z,its,n,r,hl,e⟩:=I.lstM hH;refine call_meets F.slot_list_append ⟨_,e,rfl⟩ F.entry_list_append (F.args_list_append_2 _ _) (PySem.list_append l its.toArray n u (by rw[Up]; lia)) ⟨e, ?_⟩;refine⟨.non,_,I.lset (its':=its++[u]) hH e (by simp) (r.append (.cons ru .nil)) ?_,rfl,q⟩;rw[Uj,Dg];lia
def WE:V->List V->Hp->VK->Prop:=λx vs H Q=>∃l b xs zs,x=.ref l/\vs=[.ref b]/\H l=some (.lst xs)/\H b=some (.lst zs)/\xs.length+zs.length<=sizeLine/\Q .non (upd H l (.lst (xs++zs)))
theorem QL:MtM X "list.extend" WE:=by
 intro pins s σ H x vs v us Q I rx rv h;obtain⟨l,b,xs,zs,rfl,rfl,hH,hB,hz,q⟩:=h;cases rx;obtain⟨u,rfl,ru⟩:=rv.one;cases ru;obtain⟨z,its,n,r,hl,e⟩:=I.lstM hH;obtain⟨z2,its2,n2,r2,hl2,e2⟩:=I.lstM hB;have hsz:its.toArray.size+its2.toArray.size<=sizeLine:=by rw[Up,Up]; lia
 have hlong:¬(!its.toArray.isEmpty&&Builtin.List.listTooLong (its.toArray.size+its2.toArray.size))=true:=by
  rw[KD hsz,Bool.and_false];exact Ut
 refine call_meets F.slot_list_extend ⟨_,e,rfl⟩ F.entry_list_extend (F.args_list_extend_2 _ _)
  (AutoSeq1.list_extend_list_list_0 l its.toArray n b its2.toArray n2 hlong (by rw[Up]; lia) (by lia)) ⟨e,e2, ?_⟩
 refine⟨.non,_,I.lset (its':=its++its2) hH e (by simp) (r.append r2) ?_,rfl,q⟩;rw[Uj];lia
def rPop:V->List V->Hp->VK->Prop:=λx vs H Q=>∃l xs y,x=.ref l/\vs=[]/\H l=some (.lst xs)/\xs[xs.length-1]?=some y/\Q y (upd H l (.lst xs.dropLast))
theorem mt_pop:MtM X "list.pop" rPop:=by
 intro pins s σ H x vs v us Q I rx rv h;obtain⟨l,xs,y,rfl,rfl,hH,hy,q⟩:=h;cases rx;have hus:=rv.zero;subst hus;obtain⟨z,its,n,r,hl,e⟩:=I.lstM hH;obtain⟨u,hu,ru⟩:=r.get hy;have hy':its.toArray[its.toArray.size-1]?=some u:=by
  show its.toArray[its.length-1]?=some u;rw[<-Array.getElem?_toList, <-hl];exact hu
 refine call_meets F.slot_list_pop ⟨_,e,rfl⟩ F.entry_list_pop (F.args_list_pop_1 _) (MeetsSeq.list_pop_last l its.toArray n u hy' (by rw[Up]; lia)) ⟨e, ?_⟩;refine⟨y,_,I.lset (its':=its.dropLast) hH e ?_ r.dropLast ?_,ru,q⟩
 ·show its.toArray.eraseIdxIfInBounds (its.toArray.size-1)=its.dropLast.toArray
  rw[Up,List.eraseIdxIfInBounds_toArray,YN]
 ·rw[R3]
  lia
def Kv:V->List V->Hp->VK->Prop:=λx vs H Q=>∃l xs,x=.ref l/\vs=[]/\H l=some (.lst xs)/\Q .non (upd H l (.lst xs.reverse))
theorem j9:MtM X "list.reverse" Kv:=by
 intro pins s σ H x vs v us Q I rx rv h;obtain⟨l,xs,rfl,rfl,hH,q⟩:=h;cases rx;have hus:=rv.zero;subst hus;obtain⟨z,its,n,r,hl,e⟩:=I.lstM hH;refine call_meets F.slot_list_reverse ⟨_,e,rfl⟩ F.entry_list_reverse (F.args_list_reverse_1 _) (AutoSeq1.list_reverse_list_0 l its.toArray n (by rw[Up]; lia)) ⟨e, ?_⟩;refine⟨.non,_,I.lset (its':=its.reverse) hH e (by simp) r.reverse ?_,rfl,q⟩;rw[R7];lia
def rClear:V->List V->Hp->VK->Prop:=λx vs H Q=>∃l xs,x=.ref l/\vs=[]/\H l=some (.lst xs)/\Q .non (upd H l (.lst []))
theorem KG:MtM X "list.clear" rClear:=by
 intro pins s σ H x vs v us Q I rx rv h;obtain⟨l,xs,rfl,rfl,hH,q⟩:=h;cases rx;have hus:=rv.zero;subst hus;obtain⟨z,its,n,r,hl,e⟩:=I.lstM hH;refine call_meets F.slot_list_clear ⟨_,e,rfl⟩ F.entry_list_clear (F.args_list_clear_1 _) (AutoSeq1.list_clear_list_0 l its.toArray n (by rw[Up]; lia)) ⟨e, ?_⟩;exact⟨.non,_,I.lset (its':=[]) (ys:=[]) hH e rfl .nil (UW _),rfl,q⟩
def rCat:R2:=λx y H Q=>∃l b xs zs,x=.ref l/\y=.ref b/\H l=some (.lst xs)/\H b=some (.lst zs)/\xs.length+zs.length<=sizeLine/\∀p,H p=none->Q (.ref p) (upd H p (.lst (xs++zs)))
theorem zH:OpR X (binaryOp .Add) rCat:=by
 intro pins s σ H x y v u Q I rx ry h;obtain⟨l,b,xs,zs,rfl,rfl,hH,hB,hz,q⟩:=h;cases rx;cases ry;obtain⟨z,its,n,r,hl,e⟩:=I.lstM hH;obtain⟨z2,its2,n2,r2,hl2,e2⟩:=I.lstM hB;refine PySem.P.add_list e e2 ?_ (by rw[Up,Up]; lia);have ea:its.toArray++its2.toArray=(its++its2).toArray:=by simp
 rw[ea];exact⟨.ref _,_,I.lnew (t':=s.toks) (r.append r2) (by rw[Uj]; lia),rfl,q _ I.fresh⟩
def rRep:R2:=λx y H Q=>∃l k xs,x=.ref l/\y=.int k/\H l=some (.lst xs) /\ -(2^63)<=k/\k<2^63/\xs.length*k.toNat<=sizeLine /\
 ∀p,H p=none->Q (.ref p) (upd H p (.lst (List.replicate k.toNat xs).flatten))
theorem len_rep{α:Type}(xs:List α)(k:Nat):(List.replicate k xs).flatten.length=k*xs.length:=by
 induction k with
 |zero=>simp
 |succ k ih=>rw[De,Dz,Uj,ih,Nat.succ_mul,RS]
theorem Z2:OpR X (binaryOp .Mult) rRep:=by
 intro pins s σ H x y v u Q I rx ry h;obtain⟨l,k,xs,rfl,rfl,hH,h1,h2,hz,q⟩:=h;cases rx;obtain⟨t,rfl⟩:=ry;obtain⟨z,its,n,r,hl,e⟩:=I.lstM hH;have hlen:its.toArray.size*k.toNat<=sizeLine:=by rw[Up, <-hl]; exact hz
 have hcap:¬its.toArray.size*k.toNat>(2^63-1) / 8:=by
  have:(sizeLine:Nat)<=(2^63-1) / 8:=by decide
  lia
 have hfit:¬(!Builtin.List.listFitsIndex k)=true:=by
  rw[fitsIndex_both h1 h2];exact Ut
 have hlong:¬Builtin.List.listTooLong (its.toArray.size*k.toNat)=true:=by
  rw[KD hlen];exact Ut
 have hnew:List.foldl (λx1 x2=>x1++x2) #[] (List.replicate (if its.toArray.isEmpty=true then 0 else k.toNat) its.toArray)=(List.replicate k.toNat its).flatten.toArray:=by
  have f0:∀m:Nat,List.foldl (λx1 x2=>x1++x2) #[] (List.replicate m its.toArray)=(List.replicate m its).flatten.toArray:=λm=>by
   have:=Xy its m [];rw[UV] at this;exact this
  rw[f0];cases its with
  |nil=>simp
  |cons a r'=>rw[if_neg (by simp)]
 refine wpAny_binaryOp_repeat_ref (T := "list") (U := "int") (by decide) ⟨_,e,rfl⟩ (λs'=>typeIs_int s' k t) noFill_list_mul F.fills_int_mul F.slot_int_rmul repeat_list F.slot_int_index.lookup
  (call_meets F.slot_int_rmul (typeIs_int s k t) F.entry_int_rmul (F.args_int_rmul_2 _ _) (int___rmul___int_list k t l its.toArray n)
   ⟨e,rfl,⟨_,e,rfl⟩,call_meets F.slot_list_mul ⟨_,e,rfl⟩ F.entry_list_mul (F.args_list_mul_2 _ _) (AutoListH.list___mul___list_int_3 l its.toArray n k t hfit hcap hlong) ⟨e, ?_⟩⟩)
 rw[hnew];exact⟨.ref _,_,I.lnew (t':=s.toks) (r.rep k.toNat) (by rw[len_rep,Nat.mul_comm]; exact hz),rfl,q _ I.fresh⟩
end
end L2
namespace Att
open PySem PySem.W PySem.Calls PyProof.Rows
theorem QU:∀(ns:List Int)(vs:List Value),WellAll P h vs (ns.map WData.int)->IntsAre vs ns:=by
 intro ns
 induction ns with
 |nil =>
  intro vs w;rw[DS] at w;cases w;exact .nil
 |cons n ns ih =>
  intro vs w;rw[UB] at w;cases w with
  |cons a b =>
   cases a;exact .cons _ _ (ih _ b)
theorem Wk{l:OpenLaw}(hn:l.most=some n)(hpre:l.row.toRowW.claim.pre args=true)(hwl:WellAll P h vals args) :
  ∃a vs ns,vals=[Value.ref a]/\args=[WData.list (ns.map WData.int)]/\h.get? a=some { cls:=.type "list", data:=.seq vs.toArray }/\IntsAre vs ns/\ns.length<=n:=by
 have hsh:WShape.hasAll [] args [.list .int]=true:=(pre_splitW hpre).1;have hc:l.pre.holds [] { args:=args }=true:=(pre_splitW hpre).2;obtain⟨d,r,rfl,h1,h2⟩:=hasAllW_cons hsh;obtain rfl:=hasAllW_nil h2;obtain⟨xs,rfl,h3⟩:=hasW_list h1;obtain⟨ns,rfl⟩:=items_int h3;have hlen:ns.length<=n:=by
  unfold OpenLaw.pre at hc;have h4:(WTm.not (.lt (.lit (.int (n:Int))) (.len (.arg 0)))).holds [] { args:=[.list (ns.map .int)] }=true:=by
   have h4:=(holds_andW hc).1;rw[hn] at h4;exact h4
  have h5:=condW_of h4 (w_not (w_lt w_lit (w_len_list (w_arg rfl))));rw[Uh] at h5;refine Nat.le_of_not_lt λq=>?_;have q':(n:Int)<((ns.length:Nat):Int):=by lia
  first
   | (rw[decide_eq_true q'] at h5; exact absurd h5 (by decide))
   | (simp at h5; lia)
 cases hwl with
 |cons w1 w2 =>
  cases w2;cases w1 with
  |list ho hall=>exact⟨_,_,ns,rfl,rfl,ho,QU ns _ hall,hlen⟩
theorem WU(l:OpenLaw)(args:List WData):l.row.toRowW.claim.post args (.bool true) args=true :=
 postW_of (r:=l.row.toRowW) (X:=(true==true))
  (show WShape.has [] (.bool true) .bool=true by first|rfl|decide|simp[WShape.has,WShape.arms,WShape.armsAll])
  (show(WTm.eq .res (.lit (.bool true))).value [] { args:=args,res:=some (.bool true),after:=args }=some (.bool (true==true)) from w_eq_bool (w_res rfl) w_lit) rfl
theorem attach_call{l:OpenLaw}(hn:l.most=some n)(hdf:d.params.defaults=[])(call:∀(w:World)(s₀ s₁:Shared)(mg mb:Str->Option Value)(fa:Addr)(o:Obj)(pm cd doc:Value)(a:Addr)(vs:List Value)(ns:List Int),
   Ground q loose [] XP w s₀ mg mb s₁.heap->YP w s₁.heap ->
   s₁.heap.get? fa=some o->o.data=.func (docDef d.name d.params d.body d.scope pm cd doc)->s₁.heap.CodeRec cd d.name->mg d.name=some (.ref fa) ->
   s₁.heap.get? a=some { cls:=.type "list", data:=.seq vs.toArray }->IntsAre vs ns->ns.length<=n->s₁.gens=#[] ->
   codeAny (model l.prog w) callerA (.call (.ref fa) ⟨[.ref a], []⟩) (λr s'=>r=.ok (.ret (.bool true))/\OldK s₁.heap s'.heap/\s'.os=s₁.os/\AllBare s'.gens) s₁) :
  WalkO q loose XP YP l.row.toRowW d [] (λf vs=>PySem.call f vs):=by
 intro w s₀ s₁ mg mb G Y fa o pm cd doc dV kV ho hd hcd hD hmg hg args vals as hpre hlay hrd hwl hlo;obtain rfl:dV=.none:=Dflts.none hD hdf;obtain rfl:kV=.none:=Dflts.noKw hD;obtain⟨a,vs,ns,rfl,rfl,hobj,hints,hlen⟩:=Wk hn hpre hwl;refine enter_call (codeAny_mono (call w s₀ s₁ mg mb fa o pm cd doc a vs ns G Y ho (fd_plain hd) hcd hmg hobj hints hlen hg) λr s' hq=>?_);obtain⟨rfl,h2,h3,h4⟩:=hq;exact⟨.inl ⟨.bool true, .bool true, [],rfl,λ_=>rfl, .bool true,WU l _,λ_=>⟨List.Pairwise.nil,λ_ hm=>(nomatch hm)⟩⟩,h2,h3,h4⟩
end Att
namespace L2
open PySem PySem.Spec PyProof.Rows
theorem Zt:∀{vs:List Value}{ns:List Int},IntsAre vs ns->Vals (ns.map V.int) vs
 |_,_, .nil=>.nil
 |_,_, .cons n t h=>.cons ⟨t,rfl⟩ (Zt h)
def Only(H:Hp):Prop:=∀b,H b=none\/∃o xs,H b=some (.frz o (.lst xs))
theorem law_call(KX:Ξ.In s₁.heap)(hns:s₁.heap.Ns mainGlobals mg)(hb:s₁.heap.Ns builtinsNs mb)(hbb:∀x:Str,x ≠ "__name__" -> mb x=bootBuiltins x)(hlim:s₁.heap.NoLimit)(hg:s₁.gens=#[])(ha:s₁.heap.get? a=some { cls:=.type "list", data:=.seq vs.toArray })(hi:IntsAre vs ns)(hl:ns.length<=sizeLine)(hr:Room k callerA)(F:∀base:Heap,Ξ.In base->base.Ns mainGlobals mg->FnOk P w Ξ mg base CX k fa fd [x] sp)(hbind:∀(s:Shared)(u:Value),BindsTo s fd ⟨[u], []⟩ [(x,u)])(hsp:∀H:Hp,Only H->SqL Ξ H a (ns.map V.int)->sp [.ref a] H (λv _=>v=.bl true) λ_ _ _=>False)(hCX:∀H e s',CX [] H s₁ (λ_ _ _=>False) e s'->False) :
  codeAny (model P w) callerA (.call (.ref fa) ⟨[.ref a], []⟩) (λr s'=>r=.ok (.ret (.bool true))/\OldK s₁.heap s'.heap/\s'.os=s₁.os/\AllBare s'.gens) s₁:=by
 have rv:=Zt hi;have lenV:=hi.length
 -- from an abstract heap in which nothing but the script may be tracked
 have core:∀H:Hp,Only H->SqL Ξ H a (ns.map V.int)->HOk P w H s₁.heap->(∀b,H b≠none->b=a)->(H a≠none->Ξ.lookup a=none) ->
   codeAny (model P w) callerA (.call (.ref fa) ⟨[.ref a], []⟩) (λr s'=>r=.ok (.ret (.bool true))/\OldK s₁.heap s'.heap/\s'.os=s₁.os/\AllBare s'.gens) s₁:=by
  intro H hO hS hok hA hK;have base_of:∀{b:Addr}{o:Obj},s₁.heap.get? b=some o->H b=none->(hidT s₁.heap H).get? b=some o:=λe n=>hidT_get e n;have noA:∀{b:Addr}{o:Obj}{es:Array DictEntry}{ep:Nat},s₁.heap.get? b=some o->o.data=.dict es ep->H b=none:=λ{b o es ep} e d=>by
   cases q:H b with
   |none=>rfl
   |some u =>
    have e':b=a:=hA b (by rw[q]; simp);subst e';rw[ha] at e; cases e;have d':Data.seq vs.toArray _=Data.dict es ep:=d;cases d'
  have nsK:∀{b:Addr}{m:Str->Option Value},s₁.heap.Ns b m->(hidT s₁.heap H).Ns b m:=λ{b m} ⟨o,es,ep,e,d,r⟩=>⟨o,es,ep,base_of e (noA e d),d,r⟩;have hKb:Ξ.In (hidT s₁.heap H):=λb o e=>base_of (KX b o e) (by
   cases q:H b with
   |none=>rfl
   |some u =>
    have e':b=a:=hA b (by rw[q]; simp);subst e';rw[hK (by rw[q]; simp)] at e; cases e)
  have hM:Mod Ξ mg (hidT s₁.heap H):=⟨hKb,nsK hns,⟨mb,nsK hb,hbb⟩,let⟨mc,h1,h2⟩:=hlim; ⟨mc,nsK h1,h2⟩⟩;have e0:Env0 P w Ξ mg (hidT s₁.heap H) callerA [] s₁ H:=⟨rfl,hM,λb o e=>of_hidT e,Rk (G6 _ _),trivial,λb hb=>absurd (show b∈([]:List Addr) from hb) (by simp),hok, .of_eq hg⟩;refine codeAny_mono ((F _ hKb (nsK hns)).run callerA [] s₁ H ⟨[.ref a], []⟩ [.ref a] [.ref a] _ _ hr e0 (hbind s₁ (.ref a)) (.cons rfl .nil) (hsp H hO hS)) λr s' h=>?_;cases r with
  |error e=>exact(hCX H e s' h).elim
  |ok fl =>
   cases fl with
   |next=>exact False.elim h
   |brk=>exact False.elim h
   |cont=>exact False.elim h
   |ret u =>
    obtain⟨v,H',os,bare,un,hok',r',q⟩:=h;have q':v=.bl true:=q;subst q';obtain rfl:u=Value.bool true:=r';refine⟨rfl,OldK.of_keep λb o e=>?_,os,bare⟩;cases q:H b with
    |none=>exact un.keep b o e q (by intro z; exact absurd (show b∈([]:List Addr) from z) (by simp)) (by simp)
    |some u =>
     rcases hO b with z|⟨ob,xs,z⟩
     ·rw[q] at z; cases z
     ·have z2:=un.frzs b ob _ z
      obtain⟨e1,_⟩:=hok b _ z;obtain⟨e2,_⟩:=hok' b _ z2;rw[e] at e1; cases e1;exact e2
 cases hk:Ξ.lookup a with
 |some o =>
  -- the script is one of the module's own objects
  have e:=KX a o hk;rw[ha] at e;cases e;refine core (λ_=>none) (λ_=>.inl rfl) (.inr ⟨_,vs.toArray,_,hk,rfl,rfl,rfl,by rw[Up,lenV]; exact hl,by simpa using rv⟩) (λb u z=>by have z':(none:Option HO)=some u:=z; cases z') (λb z=>absurd rfl z) λz=>absurd rfl z
 |none =>
  refine core (λb=>if b=a then some (.frz { cls:=.type "list", data:=.seq vs.toArray } (.lst (ns.map V.int))) else none) (λb=>?_) (.inl (.inr ⟨{ cls:=.type "list", data:=.seq vs.toArray },if_pos rfl⟩)) (λb u z=>?_) (λb z=>?_) λ_=>hk
  ·by_cases hb:b=a
   ·exact .inr ⟨_,_,if_pos hb⟩
   ·exact .inl (if_neg hb)
  ·by_cases hb:b=a
   ·have z':=(if_pos hb).symm.trans z
    cases z';subst hb;exact⟨ha,by rw[Uh]; exact hl,vs,_,rv,ha⟩
   ·have z':=(if_neg hb).symm.trans z
    cases z'
  ·by_cases hb:b=a
   ·exact hb
   ·exact absurd (if_neg hb) z
theorem walk_of{l:PySem.W.OpenLaw}{Ξ:Params->PySem.W.Frag}{CX:World->CXT}{sp:World->Sp}(hn:l.most=some n)(hn2:n<=sizeLine)(hdf:d.params.defaults=[])(hr:Room k callerA)(hY:∀(w:World)(h:Heap),YP w h->(Ξ w.params).In h)(F:∀(w:World)(mg:Str->Option Value)(fa:Addr)(h:Heap),(Ξ w.params).In h->h.Ns mainGlobals mg->mg d.name=some (.ref fa) ->
   ∃fd:FuncData,(∀(s:Shared)(u:Value),BindsTo s fd ⟨[u], []⟩ [(x,u)]) /\
    ∀base:Heap,(Ξ w.params).In base->base.Ns mainGlobals mg->FnOk l.prog w (Ξ w.params) mg base (CX w) k fa fd [x] (sp w))(hsp:∀(w:World)(H:Hp)(a:Addr)(ns:List Int),ns.length<=n->Only H->SqL (Ξ w.params) H a (ns.map V.int)->sp w [.ref a] H (λv _=>v=.bl true) λ_ _ _=>False)(hCX:∀(w:World)(H:Hp)(s:Shared)(e:Value)(s':Shared),CX w [] H s (λ_ _ _=>False) e s'->False) :
  PySem.W.WalkO q loose XP YP l.row.toRowW d [] (λf vs=>PySem.call f vs):=by
 refine Att.attach_call hn hdf λw s₀ s₁ mg mb fa o pm cd doc a vs ns G Y ho hd hcd hmg hobj hints hlen hg=>?_;have KX:=hY w _ Y;obtain⟨fd,hb,hF⟩:=F w mg fa _ KX G.T.g hmg;exact law_call KX G.T.g G.T.b G.T.builtins G.T.nolimit hg hobj hints (UL hlen hn2) hr hF hb (λH hO hS=>hsp w H a ns hlen hO hS) λH e s'=>hCX w H s₁ e s'
abbrev CX0:CXT:=λ_ _ _ _ _ _=>False
abbrev E0:XK:=λ_ _ _=>False
theorem pass0:Q5 CX0 X E0:=λ_ _ _ _ _ _ _ h=>h.elim
structure Fun(Ξ:PySem.W.Frag)(x qual:Str)(st:Stmt)(f:Addr)(fd:FuncData):Prop where
 ex:∃(oc:Value)(od:Option Addr)(kV doc pm:Value)(an:Option Addr)(cdv ct:Value)(osl:Array (Option Value)),
  fd=W.fnOf x qual (zR st) (vz st) (qg st) .none kV doc pm an cdv ct/\Ξ.lookup f=some ⟨oc,od, .func fd,osl⟩/\W.codeIn Ξ cdv qual=true
 kp:W.keepIn Ξ (.ref f)=true
section
theorem Fun.ok{st:Stmt}(F:Fun Ξ x qual st f fd)(S:FnScope N ps (qg st))(len:∀vs H Q E,sp vs H Q E->vs.length=ps.length)(hbody:∀(cdv:Value)(A:Around)(outer:List Env)(s:Shared)(H:Hp)(vs:List V)(Q:VK)(E:XK),Room k (A.deeper (envOfC qual (qg st) s.heap.objs.size f cdv))->sp vs H Q E ->
   ∃t,PSs (cxOf CX0 P w Ξ mg base N qual (qg st) f cdv A outer s H E).nox (vz st) t/\t { nx:=λ_ H'=>Q .non H',rt:=Q } (start N vs) H):FnOk P w Ξ mg base CX0 (k+1) f fd ps sp:=by
 obtain⟨oc,od,kV,doc,pm,an,cdv,ct,osl,rfl,lk,hcd⟩:=F.ex;refine fn_of lk hcd S len λA outer s H vs Q E hr hsp=>?_;obtain⟨t,h,q⟩:=hbody cdv A outer s H vs Q E hr hsp;exact⟨t,h.nox,q⟩
theorem Fun.binds{st:Stmt}(F:Fun Ξ x qual st f fd)(h:∀(kV doc pm:Value)(an:Option Addr)(cdv ct:Value)(us:List Value),us.length=ps.length->bindArgs (W.fnOf x qual (zR st) (vz st) (qg st) .none kV doc pm an cdv ct) ⟨us, []⟩=pure (ps.zip us)):Binds Ξ fd ps []:=by
 obtain⟨oc,od,kV,doc,pm,an,cdv,ct,osl,rfl,lk,hcd⟩:=F.ex;exact .all (h kV doc pm an cdv ct)
theorem fun_mk{st:Stmt}{kV doc pm cdv ct:Value}(l:Ξ.lookup f=some ⟨oc,od, .func (W.fnOf x qual (zR st) (vz st) (qg st) .none kV doc pm an cdv ct),osl⟩)(c:W.codeIn Ξ cdv qual=true)(k:W.keepIn Ξ (.ref f)=true):Fun Ξ x qual st f (W.fnOf x qual (zR st) (vz st) (qg st) .none kV doc pm an cdv ct):=⟨⟨oc,od,kV,doc,pm,an,cdv,ct,osl,rfl,l,c⟩,k⟩
end
theorem JJ(hr:Room k A):A.units+1<cLine:=Bc (Nat.add_le_add_left (by decide:1<=64) _) hr.units
theorem qV(h:n<=1000):n<sizeLine:=Bc h (by decide)
section
theorem pv(i:Nat)(hN:X.N[i]?=some x:=by rfl)(hv:Vis X.env.scope x:=by first|exact Or.inl rfl|exact Or.inr (Or.inl rfl)|exact Or.inr (Or.inr rfl))(hd:(x==("__debug__" : Str))=false:=by decide)(hcd:(x==("__classdict__" : Str))=false:=by decide):PE X (.Name x pos) (tVar i):=pe_var hN hv hd hcd
end
theorem ite2{c A B:Prop}[Decidable c](h1:c->A)(h2:¬c->B):if c then A else B:=by
 by_cases h:c
 ·rw[if_pos h]
  exact h1 h
 ·rw[if_neg h]
  exact h2 h
def Same(H H':Hp):Prop:=∀b o,H b=some o->H' b=some o
theorem Same.refl(H:Hp):Same H H:=λ_ _ h=>h
theorem Same.trans(a:Same H H1)(b:Same H1 H2):Same H H2:=λc o h=>b c o (a c o h)
theorem Same.free(e:Same H H')(h:H' l=Option.none):H l=Option.none:=by
 cases q:H l with
 |none=>rfl
 |some o =>
  rw[e l o q] at h;cases h
theorem Same.seq(e:Same H H')(h:SqL Ξ H a xs):SqL Ξ H' a xs:=by
 rcases h with(h|⟨o,h⟩)|h
 ·exact .inl (.inl (e _ _ h))
 ·exact .inl (.inr ⟨o,e _ _ h⟩)
 ·exact .inr h
section
variable {κ:Type} [DecidableEq κ]
def valV(kvs:List (κ×V))(k:κ):Option V:=(kvs.find? λkv=>decide (kv.1=k)).map (·.2)
def putK(kvs:List (κ×V))(k:κ)(v:V):List (κ×V) :=
 if(kvs.any λkv=>decide (kv.1=k))=true then kvs.map (λkv=>if kv.1=k then(kv.1,v) else kv) else kvs++[(k,v)]
def dropK(kvs:List (κ×V))(k:κ):List (κ×V):=kvs.filter λkv=>decide (kv.1≠k)
theorem Vt{p:κ×V}{r:List (κ×V)}{k:κ}(e:p.1=k):valV (p::r) k=some p.2:=by simp[valV,Dh,e]
theorem Vu{p:κ×V}{r:List (κ×V)}{k:κ}(e:¬p.1=k):valV (p::r) k=valV r k:=by simp[valV,Dh,e]
theorem Kf(k:κ):∀kvs:List (κ×V),(kvs.any λkv=>decide (kv.1=k))=(valV kvs k).isSome
 | []=>rfl
 |p::r=>by
  rw[DB];by_cases e:p.1=k
  ·simp only[Vt e,decide_eq_true e,Bool.true_or,Option.isSome_some]
  ·rw[Vu e,decide_eq_false e,Bool.false_or]; exact Kf k r
theorem jl(kvs:List (κ×V))(k:κ)(v:V):(putK kvs k v).length<=kvs.length+1:=by
 unfold putK;split
 ·rw[Uh]; lia
 ·rw[Uj,Um,UP]; lia
theorem RelO.isSome_eq(r:RelO o u):o.isSome=u.isSome:=by
 cases o with
 |none=>cases u with
  |none=>rfl
  |some _=>exact(show False from r).elim
 |some _=>cases u with
  |none=>exact(show False from r).elim
  |some _=>rfl
theorem RelO.getD(r:RelO o u)(rd:RelV d d'):RelV (o.getD d) (u.getD d'):=by
 cases o with
 |none=>cases u with
  |none=>exact rd
  |some _=>exact(show False from r).elim
 |some _=>cases u with
  |none=>exact(show False from r).elim
  |some _=>exact r
theorem KV.val{kvs:List (κ×V)}{vs:List (κ×Value)}(r:KV kvs vs)(k:κ):RelO (valV kvs k) (valueAt vs k):=by
 unfold KV at r
 induction r with
 |nil=>exact True.intro
 | @cons p q ps qs h t ih =>
  obtain⟨h1,h2⟩:=h;by_cases e:p.1=k
  ·have e':q.1=k:=h1.symm.trans e
   have b:valueAt (q::qs) k=some q.2:=by simp[valueAt,Dh,e']
   rw[Vt e,b]; exact h2
  ·have e':¬q.1=k:=λz=>e (h1.trans z)
   have b:valueAt (q::qs) k=valueAt qs k:=by simp[valueAt,Dh,e']
   rw[Vu e,b]; exact ih
theorem KV.any{kvs:List (κ×V)}{vs:List (κ×Value)}(r:KV kvs vs)(k:κ):(kvs.any λkv=>decide (kv.1=k))=vs.any λkv=>decide (kv.1=k):=by
 unfold KV at r
 induction r with
 |nil=>rfl
 |cons h t ih=>rw[DB,DB,ih,h.1]
theorem KV.repl{kvs:List (κ×V)}{vs:List (κ×Value)}(r:KV kvs vs)(k:κ){y:V}{u:Value}(ry:RelV y u) :
  KV (kvs.map λkv=>if kv.1=k then(kv.1,y) else kv) (vs.map λkv=>if kv.1=k then(kv.1,u) else kv):=by
 unfold KV at r ⊢
 induction r with
 |nil=>exact .nil
 | @cons p q ps qs h t ih =>
  rw[UB,UB];refine .cons ?_ ih;obtain⟨h1,h2⟩:=h;by_cases e:p.1=k
  ·rw[if_pos e,if_pos (h1.symm.trans e)]; exact⟨h1,ry⟩
  ·rw[if_neg e,if_neg (λz=>e (h1.trans z))]; exact⟨h1,h2⟩
theorem KV.put{kvs:List (κ×V)}{vs:List (κ×Value)}(r:KV kvs vs)(k:κ){y:V}{u:Value}(ry:RelV y u):KV (putK kvs k y) (stored vs k u):=by
 unfold putK stored;rw[r.any k];by_cases e:(vs.any λkv=>decide (kv.1=k))=true
 ·rw[if_pos e,if_pos e]; exact r.repl k ry
 ·rw[if_neg e,if_neg e]; exact Paired.snoc r ⟨rfl,ry⟩
theorem KV.drop{kvs:List (κ×V)}{vs:List (κ×Value)}(r:KV kvs vs)(k:κ):KV (dropK kvs k) (without vs k):=by
 unfold KV at r ⊢;unfold dropK without
 induction r with
 |nil=>exact .nil
 | @cons p q ps qs h t ih =>
  obtain⟨h1,h2⟩:=h;rw[RE,RE];by_cases e:p.1=k
  ·have a:¬decide (p.1≠k)=true:=by simp[e]
   have b:¬decide (q.1≠k)=true:=by simp[h1.symm.trans e]
   rw[if_neg a,if_neg b]; exact ih
  ·have e':¬q.1=k:=λz=>e (h1.trans z)
   have a:decide (p.1≠k)=true:=by simp[e]
   have b:decide (q.1≠k)=true:=by simp[e']
   rw[if_pos a,if_pos b]; exact .cons ⟨h1,h2⟩ ih
theorem KV.length{kvs:List (κ×V)}{vs:List (κ×Value)}(r:KV kvs vs):kvs.length=vs.length:=Paired.length r
end
theorem JG(r:RelV (kV k) u):(vm P w).is k u=true:=by
 cases k with
 |inl i=>obtain⟨t,e⟩:=(show ∃t,u=Value.int i t from r); subst e; exact JC P w i t
 |inr x=>obtain⟨t,e⟩:=(show ∃t,u=Value.str x t from r); subst e; exact jh P w x t
 |non=>cases(show u=Value.none from r); rfl
theorem Xo:∀{ks:List Key}{us:List Value},Vals (ks.map kV) us->ItemsAre (vm P w) ks us
 | [],_,r=>by rw[DS] at r; cases r; exact .nil
 |k::ks,_,r=>by
  rw[UB] at r;cases r with
  |cons h t=>exact .cons (JG h) (Xo t)
abbrev KT(H:Hp):List (List Key×V)->List (List Key×Addr×Value)->Prop:=Paired λp q=>p.1=q.1/\H q.2.1=some (.tup (p.1.map kV))/\RelV p.2 q.2.2
theorem KT.val(r:KT H kvs xs)(k:List Key):RelO (valV kvs k) ((atKey xs k).map (·.2)):=by
 induction r with
 |nil=>exact True.intro
 | @cons p q ps qs h t ih =>
  obtain⟨h1,_,h2⟩:=h;by_cases e:p.1=k
  ·have e':q.1=k:=h1.symm.trans e
   have b:atKey (q::qs) k=some q.2:=by simp[atKey,Dh,e']
   rw[Vt e,b]; exact h2
  ·have e':¬q.1=k:=λz=>e (h1.trans z)
   have b:atKey (q::qs) k=atKey qs k:=by simp[atKey,Dh,e']
   rw[Vu e,b]; exact ih
theorem KT.repl(r:KT H kvs xs)(k:List Key)(ry:RelV y u) :
  KT H (kvs.map λkv=>if kv.1=k then(kv.1,y) else kv) (xs.map (putAt k u)):=by
 induction r with
 |nil=>exact .nil
 | @cons p q ps qs h t ih =>
  rw[UB,UB];refine .cons ?_ ih;obtain⟨h1,h2,h3⟩:=h;unfold putAt;by_cases e:p.1=k
  ·rw[if_pos e,if_pos (h1.symm.trans e)]; exact⟨h1,h2,ry⟩
  ·rw[if_neg e,if_neg (λz=>e (h1.trans z))]; exact⟨h1,h2,h3⟩
theorem KT.put(r:KT H kvs xs)(k:List Key)(hb:H b=some (.tup (k.map kV)))(ry:RelV y u) :
  KT H (putK kvs k y) (storedH xs k b u):=by
 have e:(kvs.any λkv=>decide (kv.1=k))=(atKey xs k).isSome:=by
  rw[Kf,(r.val k).isSome_eq,Rs]
 unfold putK storedH;rw[e];by_cases q:(atKey xs k).isSome=true
 ·rw[if_pos q,if_pos q]; exact r.repl k ry
 ·rw[if_neg q,if_neg q]; exact Paired.snoc r ⟨rfl,hb,ry⟩
theorem KT.keeps(r:KT H kvs xs)(ht:∀b ys,H b=some (.tup ys)->H' b=some (.tup ys)):KT H' kvs xs :=
 Paired.mapP r λ_ _ z=>⟨z.1,ht _ _ z.2.1,z.2.2⟩
section
theorem rd_of(ok:HOk P w H h)(e:Rd H a u):ObjOk P w H h a u:=e.ok ok
theorem qal(ok:HOk P w H h)(e:Rd H a (.dK kvs)):kvs.length<=sizeLine/\(a==sysModules)=false/\∃vs,KV kvs vs/\h.DictOf (vm P w) a vs :=
 show ObjOk P w H h a (.dK kvs) from rd_of ok e
theorem dk_of(ok:HOk P w H h)(e:H a=some (.dK kvs)):kvs.length<=sizeLine/\(a==sysModules)=false/\∃vs,KV kvs vs/\h.DictOf (vm P w) a vs:=qal ok (.inl e)
theorem Xn(ok:HOk P w H h)(e:H a=some (.tup (ks.map kV))):(tupleKind (vm P w)).is h ks a:=by
 obtain⟨_,its,r,o,h1,h2,n,h3⟩:=(show ObjOk P w H h a (.tup (ks.map kV)) from ok a _ e);exact⟨o,its.toArray,n,h1,h2,h3,by simpa using Xo r⟩
theorem qak(ok:HOk P w H h)(e:Rd H a (.dT kvs)):kvs.length<=sizeLine/\(a==sysModules)=false /\
  ∃xs,KT H kvs xs/\h.DictOfH (tupleKind (vm P w)) a xs:=by
 obtain⟨z,y,xs,r,o,es,ep,h1,h2,h3,h4,h5⟩:=(show ObjOk P w H h a (.dT kvs) from rd_of ok e);refine⟨z,y,xs,r,o,es,ep,h1,h2,h3,h4,λx hx=>?_,h5⟩;have all:∀{l:List (List Key×V)}{m:List (List Key×Addr×Value)},KT H l m->∀x∈m,(tupleKind (vm P w)).is h x.1 x.2.1:=by
  intro l m q
  induction q with
  |nil=>intro x hx; exact nomatch hx
  | @cons p q ps qs hq t ih =>
   intro x hx;rcases Uv.mp hx with e|hx
   ·subst e
    exact Xn ok (by rw[<-hq.1]; exact hq.2.1)
   ·exact ih x hx
 exact all r x hx
theorem dt_of(ok:HOk P w H h)(e:H a=some (.dT kvs)):kvs.length<=sizeLine/\(a==sysModules)=false /\
  ∃xs,KT H kvs xs/\h.DictOfH (tupleKind (vm P w)) a xs:=qak ok (.inl e)
end
def DGet(H:Hp)(a:Addr)(y:V)(r:Option V):Prop :=
 (∃kvs k,Rd H a (.dK kvs)/\y=kV k/\r=valV kvs k)\/∃kvs k b,Rd H a (.dT kvs)/\y=.ref b/\H b=some (.tup (k.map kV))/\r=valV kvs k
def DPut(H:Hp)(a:Addr)(y v:V)(H':Hp):Prop :=
 (∃kvs k,H a=some (.dK kvs)/\y=kV k/\kvs.length<sizeLine/\H'=upd H a (.dK (putK kvs k v))) \/
 ∃kvs k b,H a=some (.dT kvs)/\y=.ref b/\H b=some (.tup (k.map kV))/\kvs.length<sizeLine/\H'=upd H a (.dT (putK kvs k v))
theorem DGet.k{k:Key}(e:H a=some (.dK kvs)):DGet H a (kV k) (valV kvs k):=.inl ⟨kvs,k, .inl e,rfl,rfl⟩
theorem DGet.t{k:List Key}(e:H a=some (.dT kvs))(eb:H b=some (.tup (k.map kV))):DGet H a (.ref b) (valV kvs k):=.inr ⟨kvs,k,b, .inl e,rfl,eb,rfl⟩
theorem DPut.k{k:Key}(e:H a=some (.dK kvs))(hl:kvs.length<sizeLine):DPut H a (kV k) v (upd H a (.dK (putK kvs k v))):=.inl ⟨kvs,k,e,rfl,hl,rfl⟩
theorem DPut.t{k:List Key}(e:H a=some (.dT kvs))(eb:H b=some (.tup (k.map kV)))(hl:kvs.length<sizeLine) :
  DPut H a (.ref b) v (upd H a (.dT (putK kvs k v))):=.inr ⟨kvs,k,b,e,rfl,eb,hl,rfl⟩
section
theorem Inv.big(I:Inv X pins σ H s):sysModules<s.heap.objs.size:=by
 have h:mainGlobals<s.heap.objs.size:=(I.mod.glob.keeps I.bk).lt;exact Nat.lt_trans (by decide) h
theorem qat(hu:A.units+1<cLine)(I:Inv X pins σ H s)(g:DGet H a y (some v))(ry:RelV y u)(h:∀w' s',Inv X pins σ H s'->RelV v w'->Q w' s') :
  wpAny (model X.prog X.w) A (getItem (.ref a) u) Q E s:=by
 rcases g with⟨kvs,k,e,ey,l⟩|⟨kvs,k,b,e,ey,eb,l⟩
 ·subst ey
  obtain⟨z,hd,vs,rel,dd⟩:=qal I.hok e;obtain⟨w',hw,rw'⟩:=RelO.some_of (v:=v) (o:=valueAt vs k) (by rw[l]; exact rel.val k);exact wpAny_getItem_of (JG ry) dd.mapOf hw (h w' _ (I.tok _) rw')
 ·subst ey
  cases(show u=Value.ref b from ry);obtain⟨z,hd,xs,rel,dd⟩:=qak I.hok e;obtain⟨w',hw,rw'⟩:=RelO.some_of (v:=v) (o:=(atKey xs k).map (·.2)) (by rw[l]; exact rel.val k);obtain⟨p,hp,hp2⟩:=UY.mp hw;refine wpAny_getItem_heap (tupleKind_room_in1 hu) (Xn I.hok eb) dd hp ?_;rw[hp2];exact h w' _ (I.tok _) rw'
theorem d_in(hu:A.units+1<cLine)(I:Inv X pins σ H s)(g:DGet H a y o)(ry:RelV y u)(h:∀s',Inv X pins σ H s'->Q (.bool o.isSome) s') :
  wpAny (model X.prog X.w) A (compareOp .In u (.ref a)) Q E s:=by
 rcases g with⟨kvs,k,e,ey,l⟩|⟨kvs,k,b,e,ey,eb,l⟩
 ·subst ey
  obtain⟨z,hd,vs,rel,dd⟩:=qal I.hok e;refine wpAny_in_of (JG ry) hd dd.mapOf ?_;rw[<-(rel.val k).isSome_eq, <-l];exact h _ (I.tok _)
 ·subst ey
  cases(show u=Value.ref b from ry);obtain⟨z,hd,xs,rel,dd⟩:=qak I.hok e;refine wpAny_in_heap (tupleKind_room_in1 hu) (Xn I.hok eb) hd dd ?_;have q:=(rel.val k).isSome_eq;rw[Rs] at q;rw[<-q, <-l];exact h _ (I.tok _)
theorem d_notIn(hu:A.units+1<cLine)(I:Inv X pins σ H s)(g:DGet H a y o)(ry:RelV y u)(h:∀s',Inv X pins σ H s'->Q (.bool (!o.isSome)) s') :
  wpAny (model X.prog X.w) A (compareOp .NotIn u (.ref a)) Q E s:=by
 rcases g with⟨kvs,k,e,ey,l⟩|⟨kvs,k,b,e,ey,eb,l⟩
 ·subst ey
  obtain⟨z,hd,vs,rel,dd⟩:=qal I.hok e;refine wpAny_notIn_of (JG ry) hd dd.mapOf ?_;rw[<-(rel.val k).isSome_eq, <-l];exact h _ (I.tok _)
 ·subst ey
  cases(show u=Value.ref b from ry);obtain⟨z,hd,xs,rel,dd⟩:=qak I.hok e;refine wpAny_notIn_heap (tupleKind_room_in1 hu) (Xn I.hok eb) hd dd ?_;have q:=(rel.val k).isSome_eq;rw[Rs] at q;rw[<-q, <-l];exact h _ (I.tok _)
theorem JT(I:Inv X pins σ H s)(mu:Mut (H a))(hs:Heap.SameBut a s.heap h')(he:∃q,h'.get? a=some q)(new:ObjOk X.prog X.w (upd H a ob) h' a ob) :
  Inv X pins σ (upd H a ob) { s with heap:=h',toks:=t' } :=
 I.write (x:=a) (e:=a) mu (.inl rfl) (λb q hb z=>(hs.2 b hb).trans z) he new
theorem dk_new(z:kvs.length<=sizeLine)(hd:(a==sysModules)=false)(rel:KV kvs vs)(dd:h'.DictOf (vm P w) a vs) :
  ObjOk P w H' h' a (.dK kvs):=⟨z,hd,vs,rel,dd⟩
theorem qas(hu:A.units+1<cLine)(I:Inv X pins σ H s)(g:DPut H a y v H')(ry:RelV y u)(rv:RelV v r)(h:∀s',Inv X pins σ H' s'->Q () s') :
  wpAny (model X.prog X.w) A (setItem (.ref a) u r) Q E s:=by
 rcases g with⟨kvs,k,e,ey,l,eH⟩|⟨kvs,k,b,e,ey,eb,l,eH⟩
 ·subst ey eH
  obtain⟨z,hd,vs,rel,dd⟩:=dk_of I.hok e;have hz:vs.length<=sizeLine:=by rw[<-rel.length]; exact z
  have hl:(putK kvs k v).length<=sizeLine:=by have:=jl kvs k v; lia
  refine wpAny_setItem_pairs (hsz:=hz) (JG ry) dd λh' dd' hs=>h _ ?_;have he:∃q,h'.get? a=some q:=let⟨q,_,_,hq,_⟩:=dd'; ⟨q,hq⟩;exact JT I (by rw[e]; exact True.intro) hs he (dk_new hl hd (rel.put k rv) dd')
 ·subst ey eH
  cases(show u=Value.ref b from ry);obtain⟨z,hd,xs,rel,dd⟩:=dt_of I.hok e;have hz:xs.length<=sizeLine:=by rw[<-Paired.length rel]; exact z
  have hl:(putK kvs k v).length<=sizeLine:=by have:=jl kvs k v; lia
  refine wpAny_setItem_heap (hsz:=hz) (tupleKind_room_in1 hu) (Xn I.hok eb) dd λh' dd' hs=>h _ ?_;obtain⟨q,es,ep,hq,h2,h3,h4,_,h5⟩:=dd';refine JT I (by rw[e]; exact True.intro) hs ⟨q,hq⟩ ⟨hl,hd,_,(rel.put k eb rv).keeps λc ys ec=>?_,q,es,ep,hq,h2,h3,h4,h5⟩;rw[upd_ne (ne_of ec e (λz=>nomatch z))];exact ec
end
def NoSl(i:Expr):Prop:=∀ov iv,subscripted i false ov iv=operate [ov,iv] (getItem ov iv)
theorem Wg{prog:Program}{w:World}{A:Around}{E:Value->Shared->Prop}{s:Shared}{env:Env}{value slice:Expr}{pos:Pos}{T id:String}{Q:Value->Shared->Prop}(hl:typeLookup (.type T) "__getitem__" = pure (some (.builtin id)))(hs:NoSl slice)(h:wpAny (model prog w) A (eval value env) (λo s₁=>wpAny (model prog w) A (eval slice env) (λi s₂=>s₂.TypeIs o T/\wpAny (model prog w) A (getItem o i) Q E s₂) E s₁) E s) :
  wpAny (model prog w) A (eval (.Subscript value slice pos) env) Q E s:=by
 refine Subscript_ (wpAny_mono h (λo s₁ h₁=>wpAny_mono h₁ (λi s₂ h₂=>?_) λ_ _ x=>x) λ_ _ x=>x);obtain⟨hT,h₂⟩:=h₂;unfold subscriptTail;refine wpAny_bind ?_;rw[getitemInPython_of_ne hT.not_modules];refine wpAny_bind (wpAny_specialOf hT hl ?_);have fin:wpAny (model prog w) A (subscripted slice false o i) (λr s₃=>wpAny (model prog w) A (letTemporaryGo value o r >>= λ_=>pure r) Q E s₃) E s₂:=by
  rw[hs o i];exact wpAny_operating (wpAny_mono h₂ (λr s₃ h₃=>wpAny_bind (wpAny_letTemporaryGo (wpAny_pure h₃))) λ_ _ x=>x)
 first
  |exact wpAny_pure (wpAny_bind fin)
  |exact wpAny_bind (wpAny_pure (wpAny_bind fin))
  |exact wpAny_bind fin
theorem JS(I:Inv X pins σ H s)(g:DGet H a y o):s.TypeIs (.ref a) "dict" := by
 rcases g with⟨kvs,k,e,_,_⟩|⟨kvs,k,b,e,_,_,_⟩
 ·obtain⟨_,_,vs,_,dd⟩:=qal I.hok e
  exact dd.typeIs
 ·obtain⟨_,_,xs,_,dd⟩:=qak I.hok e
  exact dd.typeIs
def Wf(td ty:TE):TE:=λσ H Q=>td σ H λx H1=>ty σ H1 λy H2=>∃a v,x=.ref a/\DGet H2 a y (some v)/\Q v H2
def tDIn(ty td:TE):TE:=λσ H Q=>ty σ H λy H1=>td σ H1 λx H2=>∃a o,x=.ref a/\DGet H2 a y o/\Q (.bl o.isSome) H2
def Vy(ty td:TE):TE:=λσ H Q=>ty σ H λy H1=>td σ H1 λx H2=>∃a o,x=.ref a/\DGet H2 a y o/\Q (.bl (!o.isSome)) H2
def sDPut(td ty tv:TE):TS:=λD σ H=>tv σ H λv H1=>td σ H1 λx H2=>ty σ H2 λy H3=>∃a H4,x=.ref a/\DPut H3 a y v H4/\D.nx σ H4
section
theorem pc_din(hu:X.A.units+1<cLine)(hi:PE X i ty)(ho:PE X o td):PC X .In i o (tDIn ty td):=by
 intro pins s σ H Q I h;refine thn (hi pins s σ H _ I h) λiv s1 ⟨y,H1,I1,ry,q1⟩=>thn (ho pins s1 σ H1 _ I1 q1) λu s2 ⟨x,H2,I2,rx,a,ov,ex,g,q2⟩=>?_;subst ex;obtain rfl:u=Value.ref a:=rx;exact d_in hu I2 g ry λs3 I3=>⟨.bl ov.isSome,H2,I3,rfl,q2⟩
theorem W7(hu:X.A.units+1<cLine)(hi:PE X i ty)(ho:PE X o td):PC X .NotIn i o (Vy ty td):=by
 intro pins s σ H Q I h;refine thn (hi pins s σ H _ I h) λiv s1 ⟨y,H1,I1,ry,q1⟩=>thn (ho pins s1 σ H1 _ I1 q1) λu s2 ⟨x,H2,I2,rx,a,ov,ex,g,q2⟩=>?_;subst ex;obtain rfl:u=Value.ref a:=rx;exact d_notIn hu I2 g ry λs3 I3=>⟨.bl (!ov.isSome),H2,I3,rfl,q2⟩
end
theorem K3(h:Heap)(hb:sysModules<h.objs.size):ObjOk P w H (h.push { cls:=.type "dict", data:=.dict #[] }) h.objs.size (.dK []) :=
 ⟨UW _,beq_eq_false_iff_ne.mpr (Ne.symm (UH hb)), [], .nil,Heap.DictOf.new h⟩
def Ks:TE:=λ_ H Q=>∀p,H p=none->Q (.ref p) (upd H p (.dK []))
section
end
def Kr:List (TE×TE)->St->Hp->(List (V×V)->Hp->Prop)->Prop
 | [],_,H,Q=>Q [] H
 | (tk,tv)::r,σ,H,Q=>tk σ H λx H1=>tv σ H1 λy H2=>Kr r σ H2 λps H3=>Q ((x,y)::ps) H3
abbrev VV:List (V×V)->List (Value×Value)->Prop:=Paired λp q=>RelV p.1 q.1/\RelV p.2 q.2
def PPs(X:Cx)(pos:Pos)(keys:List (Option Expr))(values:List Expr)(trs:List (TE×TE)):Prop :=
 ∀(pins:List (Addr×Obj))(s:Shared)(σ:St)(H:Hp)(Q:List (V×V)->Hp->Prop),Inv X pins σ H s->Kr trs σ H Q ->
  wpAny (model X.prog X.w) X.A (evalPairs (pairTrees keys values X.env pos)) (λvs s'=>∃ps H',Inv X pins σ H' s'/\VV ps vs/\Q ps H') X.xe s
theorem pps_nil:PPs X pos [] [] []:=λpins s σ H Q I h=>pairTrees_nil_walk ⟨[],H,I, .nil,h⟩
def QM(kvs more:List (Key×V)):List (Key×V):=more.foldl (λacc kv=>putK acc kv.1 kv.2) kvs
theorem KV.merge:∀{more:List (Key×V)}{rs:List (Key×Value)}{kvs:List (Key×V)}{vs:List (Key×Value)},KV more rs->KV kvs vs->KV (QM kvs more) (merged vs rs):=by
 intro more rs kvs vs r;unfold KV at r
 induction r generalizing kvs vs with
 |nil=>intro q; exact q
 | @cons p q ps qs h t ih =>
  intro r0;have e:KV (putK kvs p.1 p.2) (stored vs q.1 q.2):=by
   have:=r0.put p.1 h.2;rw[<-h.1]; exact this
  exact ih e
theorem jC:∀(more kvs:List (Key×V)),(QM kvs more).length<=kvs.length+more.length
 | [],kvs=>by show kvs.length<=kvs.length+0; lia
 |p::r,kvs=>by
  have h1:=jC r (putK kvs p.1 p.2);have h2:=jl kvs p.1 p.2;show(QM (putK kvs p.1 p.2) r).length<=_;rw[Um]; lia
theorem Vs:∀{kvs:List (Key×V)}{ws:List (Value×Value)},VV (kvs.map λkv=>(kV kv.1,kv.2)) ws->∃rs,Carries (vm P w) ws rs/\KV kvs rs
 | [],_,r=>by rw[DS] at r; cases r; exact⟨[],True.intro, .nil⟩
 |p::kvs,_,r=>by
  rw[UB] at r;cases r with
  | @cons a b as bs h t =>
   obtain⟨rs,c,q⟩:=Vs (P:=P) (w:=w) t;obtain⟨b1,b2⟩:=b;exact⟨(p.1,b2)::rs,⟨JG h.1,rfl,c⟩, .cons ⟨rfl,h.2⟩ q⟩
def tDisp(trs:List (TE×TE)):TE:=λσ H Q=>∀p,H p=none->Kr trs σ (upd H p (.dK [])) λps H2=>H2 p=some (.dK [])/\∃kvs:List (Key×V),ps=kvs.map (λkv=>(kV kv.1,kv.2))/\kvs.length<=15/\Q (.ref p) (upd H2 p (.dK (QM [] kvs)))
structure M1(X:Cx)(o:Expr)(m:Str)(apos:Pos)(e:Expr)(cpos:Pos):Prop where
 base:attributeBase o m X.env (eval o X.env)=eval o X.env
 few:((backTo cpos (starEach [e] X.env)).all (λx => !x.1)&&(backToKw cpos (keywordEach [] X.env)).all (λx=>x.1.isSome)
  && decide (([e]:List Expr).length+([]:List Keyword).length+(if([]:List Keyword).isEmpty then 0 else 1)<30))=true
 line:(apos.endLine==cpos.line)=true
 trees:backTo cpos (starEach [e] X.env)=[(false,eval e X.env)]
structure M2(X:Cx)(o:Expr)(m:Str)(apos:Pos)(e f:Expr)(cpos:Pos):Prop where
 base:attributeBase o m X.env (eval o X.env)=eval o X.env
 few:((backTo cpos (starEach [e,f] X.env)).all (λx => !x.1)&&(backToKw cpos (keywordEach [] X.env)).all (λx=>x.1.isSome)
  && decide (([e,f]:List Expr).length+([]:List Keyword).length+(if([]:List Keyword).isEmpty then 0 else 1)<30))=true
 line:(apos.endLine==cpos.line)=true
 trees:backTo cpos (starEach [e,f] X.env)=[(false,eval e X.env),(false,eval f X.env)]
def cxC(X:Cx)(scope:Scope)(cl:List (Str×Addr))(M:List Str)(fp:List Addr)(s:Shared)(H:Hp):Cx :=
 { X with N:=M,s₀:=s,H₀:=H,env:=compEnvC scope cl s.heap.objs.size X.env,outer:=X.stack,stack:=X.stack,ex:=fp,fn:=λ_=>false,pn:=[],xe:=λ_ _=>False }
def zD(bs:List Bool)(n:Nat)(σ:St):St:=(bs.zip σ).map (λp=>if p.1 then p.2 else none)++List.replicate n none
def ExtS(σ τ:St):Prop:=∀(i:Nat) v,σ[i]?=some (some v)->τ[i]?=some (some v)
theorem ExtS.refl(σ:St):ExtS σ σ:=λ_ _ h=>h
theorem ExtS.trans(h:ExtS a b)(k:ExtS b c):ExtS a c:=λi v e=>k i v (h i v e)
theorem ExtS.put(h:ExtS σ τ)(e:σ[i]?=some none):ExtS σ (τ.set i (some v)):=λj w q=>by
 by_cases hj:i=j
 ·subst hj; rw[e] at q; cases q
 ·rw[Ul hj]; exact h j w q
def CompW(J:It)(acc:Addr)(g:TG)(tt:TT)(te:TE)(σ0:St)(H1:Hp)(Q:VK):Prop:=∃W:Nat->Nat->Hp->Prop,(∃m,W 0 m (upd H1 acc (.lst []))) /\
 ∀i m H2,W i m H2->(J.stop i H2/\Q (.ref acc) H2)\/(J.go i H2/\∃N:Hp->Prop,(∀H',N H'->∃m',m'<m/\W (i+1) m' H')/\∀x H3,J.yld i H2 x H3->g x σ0 H3 λσ4 H4=>(ExtS σ0 σ4/\σ4.length=σ0.length)/\tt σ4 H4 λb H5 =>
  if b=true then te σ4 H5 λv H6=>∃ys,H6 acc=some (.lst ys)/\ys.length<sizeLine/\N (upd H6 acc (.lst (ys++[v]))) else N H5)
def xY(wi:TI)(bs:List Bool)(n:Nat)(g:TG)(tt:TT)(te:TE):TE:=λσ H Q=>wi σ H λJ H1=>∀acc,H1 acc=none->CompW J acc g tt te (zD bs n σ) H1 Q
def PTs(X:Cx)(ifs:List Expr)(t:TT):Prop :=
 ∀(pins:List (Addr×Obj))(s:Shared)(σ:St)(H:Hp)(Q:Bool->Hp->Prop),Inv X pins σ H s->t σ H Q ->
  wpAny (model X.prog X.w) X.A (forIn ifs true λc r=>if r=true then do let ok <-isTrue c X.env (eval c X.env); pure (ForInStep.yield ok) else pure (ForInStep.yield r)) (TP X pins σ Q) X.xe s
def tYes:TT:=λ_ H Q=>Q true H
theorem pts_nil:PTs X [] tYes:=λ_ _ _ H _ I h=>wpAny_tests_nil ⟨H,I,h⟩
structure CompS(X:Cx)(scope:Scope)(cl:List (Str×Addr))(bs:List Bool)(ext:List Str):Prop where
 clos:closureFor scope X.env=pure cl
 cell:∀y∈scope.names,y.2 ≠ .cell
 kind:scope.kind=.function
 names:∀y∈scope.names,y.2=.local->scope.names.lookup y.1=some .local
 sub:∀x c,cl.lookup x=some c->X.env.cells.lookup x=some c
 has:∀x,((relabel scope X.env).names.lookup x=some .cell\/(relabel scope X.env).names.lookup x=some .free)->∃c,cl.lookup x=some c
 len:bs.length=X.N.length
 vis:∀(i:Nat) x,X.N[i]?=some x->bs[i]?=some true->Vis (relabel scope X.env) x->(relabel scope X.env).names.lookup x≠some .local/\(X.env.kindOf x=some .cell\/X.env.kindOf x=some .free)/\Vis X.env.scope x
theorem GH(h:bs.length=σ.length):(zD bs n σ).length=σ.length+n:=by
 unfold zD; simp[h]
theorem GI(h:bs.length=σ.length)(e:(zD bs n σ)[i]?=some (some v)):i<σ.length/\bs[i]?=some true/\σ[i]?=some (some v):=by
 unfold zD at e;by_cases hi:i<σ.length
 ·rw[Ug (by simp[h]; exact hi),Uz] at e
  have hb:i<bs.length:=by lia
  rw[Uf (by simp[h]; exact hi)] at e;simp only[List.getElem_zip,RT] at e;split at e
  ·rename_i hb2
   refine⟨hi, ?_, ?_⟩
   ·rw[Uf hb]; rw[hb2]
   ·rw[Uf hi]; exact e
  ·cases e
 ·rw[Uo (by simp[h]; lia),DU] at e
  split at e<;>cases e
section
theorem cxC_ok(S:CompS X scope cl bs ext)(I:Inv X pins σ H s)(hf:∀b∈fp,FpOk X pins H b)(hfs:∀b∈fp,b<s.heap.objs.size) :
  (cxC X scope cl (X.N++ext) fp s H).Ok where
 mod:=I.ok.mod
 kind:=S.kind
 glob:=I.ok.glob
 blt:=I.ok.blt
 above:=Uk _
 inj:=λx y c a b=>I.ok.inj x y c (S.sub x c a) (S.sub y c b)
 has:=S.has
 cab:=λx c h=>nomatch h
 hd:=I.ok.hd
 frames:=I.ok.frames
 stk:=.inl rfl
 exf:=λb hb=>⟨UH (hfs b hb),λx c e=>(hf b hb).2.2.2.2.1 x c (S.sub x c e)⟩
 bs:=I.bs
 bsz:=UL I.ok.bsz I.sz
 noex:=λb o e hb=>by
  rcases(hf b hb).2.2.2.1 with z|z
  ·exact I.ok.noex b o e z
  ·exact absurd (Uy (Uy (Heap.lt_size e) I.ok.bsz) z) (Dm _)
 exfs:=λb hb z=>by
  rcases Uv.mp (I.stkSub b z) with q|q
  ·exact(hf b hb).2.1 q
  ·exact(hf b hb).2.2.1 q
 funs:=I.stack
 frf:=I.stkFree
theorem qav(S:CompS X scope cl bs ext)(I:Inv X pins σ H s)(hf:∀b∈fp,FpOk X pins H b)(hfs:∀b∈fp,b<s.heap.objs.size)(hn:h1.Ns s.heap.objs.size (λ_=>none))(k:∀b o,s.heap.get? b=some o->h1.get? b=some o) :
  Inv (cxC X scope cl (X.N++ext) fp s H) [] (zD bs ext.length σ) H { s with heap:=h1,toks:=t' }:=by
 have hl:bs.length=σ.length:=S.len.trans I.len.symm;have cellk:∀c v,s.heap.IsCell c v->h1.IsCell c v:=λc v ⟨o,ho,hd⟩=>⟨o,k c o ho,hd⟩;refine⟨cxC_ok S I hf hfs,rfl,I.bare,Un.kept k,⟨_,hn,λi x v e1 e2 e3=>?_⟩,λx c e=>?_,I.hok.fresh (Uk _),λx c e=>I.freeC x c (S.sub x c e),λp hp=>absurd hp (by simp[cxC]),I.hok.kept k, ?_⟩
 ·obtain⟨hi,hb,hs⟩:=GI hl e2
  have e1':X.N[i]?=some x:=by
   have e1'':(X.N++ext)[i]?=some x:=e1;rwa [Ug (by have:=I.len; lia)] at e1''
  obtain⟨nl,kk,vv⟩:=S.vis i x e1' hb e3;obtain⟨m,_,hloc⟩:=I.loc;obtain⟨u,r,l⟩:=hloc i x v e1' hs vv;refine⟨u,r, .inr ⟨?_, ?_⟩⟩
  ·rcases e3 with z|z|z
   ·exact absurd z nl
   ·exact .inl z
   ·exact .inr z
  ·have hc:=S.has x (by
    rcases e3 with z|z|z
    ·exact absurd z nl
    ·exact .inl z
    ·exact .inr z)
   obtain⟨c,hc⟩:=hc;rcases l with⟨kl,_⟩|⟨_,c',hc',hcell⟩
   ·rcases kk with z|z<;>(rw[kl] at z; cases z)
   ·rw[S.sub x c hc] at hc'
    cases hc';exact⟨c,hc,cellk c _ hcell⟩
 ·obtain⟨v,z⟩:=I.cell x c (S.sub x c e)
  exact⟨v,cellk c v z⟩
 ·rw[GH hl,I.len]; show _=(X.N++ext).length; simp
theorem qaw(I:Inv X pins σ H s)(hf:∀b∈fp,FpOk X pins H b)(J:Inv (cxC X scope cl (X.N++ext) fp s H) pins' σ' H' s')(sb:Heap.SameBut s.heap.objs.size s'.heap h'):Inv X pins σ H' { s' with heap:=h' }:=by
 have B:Un (frs X.stack) fp H H' s.heap s'.heap:=J.base;have nC:∀b o,s.heap.get? b=some o->b≠s.heap.objs.size:=λb o e=>UH (Heap.lt_size e);refine I.call' (ch:=fp) (s':={ s' with heap:=h' }) J.os ⟨λb o e n hb hx=>?_,λb o e n hb hx=>?_,λb o e n hx=>B.free b o e n hx,λb o e hx=>?_,B.tups,B.frzs,B.tbls⟩ ?_ J.bare λb hb=>⟨(hf b hb).2.2.2.1,(hf b hb).2.1,(hf b hb).2.2.2.2.1,(hf b hb).2.2.2.2.2⟩
 ·exact sb.extBut b o (nC b o e) (B.keep b o e n hb hx)
 ·obtain⟨sl,q⟩:=B.slot b o e n hb hx
  exact⟨sl,sb.extBut b _ (nC b o e) q⟩
 ·obtain⟨o',q⟩:=B.there b o e hx
  exact⟨o',sb.extBut b o' (nC b o e) q⟩
 ·intro a o e
  have fr:H' s.heap.objs.size=none:=J.free;refine(J.hok a o e).stay (λb u hb q=>sb.extBut b u ?_ q) (λ_ q=>q) λ_ _ q=>q;rcases hb with z|z
  ·subst z; intro z; rw[z,fr] at e; cases e
  ·intro z2; rw[z2,fr] at z; cases z
end
section
theorem K7(S:CompS X scope cl bs ext)(hc:X.calm=true)(hi:PI X tg iter wi)(hg:∀fp s H,PG (cxC X scope cl (X.N++ext) fp s H) tg g)(ht:∀fp s H,PTs (cxC X scope cl (X.N++ext) fp s H) ifs tt)(he:∀fp s H,PE (cxC X scope cl (X.N++ext) fp s H) elt te)(hs:∀x,foldedSetIterable iter X.env x=pure x)(I:Inv X pins σ H s)(h:xY wi bs ext.length g tt te σ H Q)(ep:Pos)(hend:∀(acc:Addr)(s2:Shared)(H2:Hp)(fp:List Addr)(σ':St)(H':Hp)(s':Shared),Inv X pins σ H2 s2->(∀b∈fp,FpOk X pins H2 b)->Inv (cxC X scope cl (X.N++ext) fp s2 H2) [] σ' H' s'->Q (.ref acc) H' ->
   compPost (model X.prog X.w) X.A X.xe use RR (.ref acc) s2.heap.objs.size (.ok .next) s') :
  wpAny (model X.prog X.w) X.A (comprehension (.ListComp elt [⟨tg,iter,ifs,0⟩] scope pos) scope X.env ep (newList []) false (eval iter X.env) use) RR X.xe s:=by
 refine wpAny_comprehension_free (use:=use) rfl hs S.clos S.kind S.names (thn (hi pins s σ H _ I h) λv s1 h1=>thn h1 λitv s2 h2=>?_);obtain⟨it,fp,tn,J,H2,e,I2,T,st2,f2,hW⟩:=h2;subst e;refine wpAny_newList ?_ (by decide);have hn2:H2 s2.heap.objs.size=none:=I2.hok.fresh (Uk _);obtain⟨W,⟨m0,w0⟩,turn⟩:=hW s2.heap.objs.size hn2;have I3:=I2.lnew (its:=[]) (ys:=[]) (t':=s2.toks) .nil (UW _);generalize hs3:({ s2 with heap:=s2.heap.push { cls:=.type "list", data:=.seq ([]:List Value).toArray },toks:=s2.toks }:Shared)=s3 at I3;have hsz3:s3.heap.objs.size=s2.heap.objs.size+1:=by rw[<-hs3]; exact Heap.size_push ..
 have k3:∀b o,s2.heap.get? b=some o->s3.heap.get? b=some o:=λb o e=>by rw[<-hs3]; exact Heap.get?_push_of_some _ e
 have fpo:∀b∈fp,b<s2.heap.objs.size:=λb hb=>by obtain⟨o,e,_⟩:=T.obj _ _ st2 b hb; exact Heap.lt_size e
 have f3:∀b∈fp,FpOk X pins (upd H2 s2.heap.objs.size (.lst [])) b:=λb hb=>⟨by rw[upd_ne (UH (fpo b hb))]; exact(f2 b hb).1,(f2 b hb).2⟩;have fps:∀b∈fp,b<s3.heap.objs.size:=λb hb=>by rw[hsz3]; exact Nat.lt_succ_of_lt (fpo b hb)
 have st3:tn 0 s3.heap:=T.keep _ _ _ st2 λb hb o e=>k3 b o e;refine wpAny_newFunctionEnv S.cell (by intro y hy; simp at hy) (λh4 hns4 hsb4=>?_) S.kind;have k4:∀b o,s3.heap.get? b=some o->h4.get? b=some o:=λb o e=>hsb4.extBut b o (UH (Heap.lt_size e)) (Heap.get?_push_of_some _ e);have I4:=qav (ext:=ext) (t':=s3.toks+([]:List (Str×Value)).length) S I3 f3 fps (h1:=h4) hns4 k4;have st4:tn 0 h4:=T.keep _ _ _ st3 λb hb o e=>k4 b o e;generalize hs4:({ s3 with heap:=h4,toks:=s3.toks+([]:List (Str×Value)).length }:Shared)=s4 at I4 ⊢;have st4':tn 0 s4.heap:=by rw[<-hs4]; exact st4
 -- the block
 generalize hY:cxC X scope cl (X.N++ext) fp s3 (upd H2 s2.heap.objs.size (.lst []))=Y at I4;have hYs:∀{H':Hp},(∀b∈fp,H' b=none)->∀b∈fp,FpOk Y [] H' b:=λhn b hb=>by
  subst hY;refine⟨hn b hb,UH (fps b hb),λz=>?_, .inl hb,λx c e=>(f3 b hb).2.2.2.2.1 x c (S.sub x c e),λp hp=>absurd hp (by simp[cxC])⟩;rcases Uv.mp (I3.stkSub b z) with q|q
  ·exact(f3 b hb).2.1 q
  ·exact(f3 b hb).2.2.1 q
 have hgY:PG Y tg g:=by subst hY; exact hg _ _ _
 have htY:PTs Y ifs tt:=by subst hY; exact ht _ _ _
 have heY:PE Y elt te:=by subst hY; exact he _ _ _
 have hYc:Y.calm=true:=by subst hY; exact hc
 have hYm:Y.prog=X.prog/\Y.w=X.w/\Y.K=X.K/\Y.A=X.A/\Y.env=compEnvC scope cl s3.heap.objs.size X.env/\Y.xe=λ_ _=>False:=by subst hY; exact⟨rfl,rfl,rfl,rfl,rfl,rfl⟩
 obtain⟨e1,e2,e3,e4,e5,e6⟩:=hYm;have never:∀{α:Type}{t:Sem α}{Q:α->Shared->Prop}{s:Shared}{E:Value->Shared->Prop},wpAny (model Y.prog Y.w) Y.A t Q Y.xe s->wpAny (model X.prog X.w) X.A t Q E s:=λ{α t Q s E} q=>by
  rw[e1,e2,e4,e6] at q;exact wpAny_mono q (λ_ _ z=>z) λ_ _ z=>z.elim
 have loop:codeAny (model X.prog X.w) X.A (.compLoop (.ListComp elt [⟨tg,iter,ifs,0⟩] scope pos) 0 (.ref it) (.ref s2.heap.objs.size) (compEnvC scope cl s3.heap.objs.size X.env))
   (compPost (model X.prog X.w) X.A X.xe use RR (.ref s2.heap.objs.size) s3.heap.objs.size) s4:=by
  refine codeAny_loop rfl (λn s'=>∃i H',Inv Y [] (zD bs ext.length σ) H' s'/\tn i s'.heap/\(∀b∈fp,H' b=none)/\W i n H') (λn s5 hI=>?_) m0 ⟨0,_,I4,st4',λb hb=>(f3 b hb).1,w0⟩;obtain⟨i,H5,I5,st5,fr5,w5⟩:=hI;show wpAny _ X.A ((compTurn (.ListComp elt [⟨tg,iter,ifs,0⟩] scope pos) 0 (.ref it) (.ref s2.heap.objs.size) (compEnvC scope cl s3.heap.objs.size X.env)).onRaise (λx=>do noteFrame x (compEnvC scope cl s3.heap.objs.size X.env); theTreesLotGoes x)) _ _ s5;refine wpAny_noted ?_;rw[compTurn_list];rcases turn i n H5 w5 with⟨stop,qn⟩|⟨go,N,hN,step⟩
  ·refine wpAny_bind (wpAny_standAt (wpAny_bind ?_))
   have hd:=T.done Y e1 e2 e3 hYc i [] s5 _ H5 (λ_ _=>False) I5 (hYs fr5) st5 stop;rw[e4] at hd;refine wpAny_mono hd (λr s6 ⟨hr,I6⟩=>?_) λ_ _ z=>z.elim;subst hr;subst hY;exact wpAny_pure (hend s2.heap.objs.size s3 _ fp _ H5 s6 I3 f3 I6 qn)
  ·refine wpAny_bind (wpAny_standAt (wpAny_bind ?_))
   have hd:=T.item Y e1 e2 e3 hYc i [] s5 _ H5 (λ_ _=>False) I5 (hYs fr5) st5 go;rw[e4] at hd;refine wpAny_mono hd (λr s6 ⟨u,hr,h6⟩=>?_) λ_ _ z=>z.elim;subst hr;refine wpAny_bind (wpAny_mono h6 (λ_ s7 ⟨x,H7,I7,r7,y7,st7,fr7⟩=>?_) λ_ _ z=>z.elim);have I7':=I7.pinned (hYs fr7) (T.obj _ _ st7);rw[<-e5];refine wpAny_bind (never (thn (hgY _ s7 _ H7 x u _ I7' r7 (step x H7 y7)) λ_ s8 ⟨σ8,H8,I8,⟨hx8,hl8⟩,q8⟩=>?_));refine wpAny_bind (never (thn (htY _ s8 σ8 H8 _ I8 q8) λb s9 ⟨H9,I9,q9⟩=>?_));have again:∀{H10:Hp}{s10:Shared}{m':Nat},Inv Y ([]++Z1 fp s7.heap) σ8 H10 s10->m'<n->W (i+1) m' H10->∃m,m<n/\∃i H',Inv Y [] (zD bs ext.length σ) H' s10/\tn i s10.heap/\(∀b∈fp,H' b=none)/\W i m H':=λ{H10 s10 m'} I10 hm w10=>by
    refine⟨m',hm,i+1,H10,(I10.unpinned).weak hl8.symm hx8,T.keep _ _ _ st7 λb hb o e=>(I10.pin (b,o) (UM _ (UM _ (xG hb e)))).1,λb hb=>?_,w10⟩;obtain⟨o,e,d⟩:=T.obj _ _ st7 b hb;exact(I10.pin (b,o) (UM _ (UM _ (xG hb e)))).2.1
   cases b with
   |false =>
    rw[if_neg Ut] at q9;obtain⟨m',hm,w9⟩:=hN _ q9;exact wpAny_pure ⟨by rw[e5],again I9 hm w9⟩
   |true =>
    rw[if_pos rfl] at q9;refine wpAny_bind (wpAny_bind (never (thn (heY _ s9 σ8 H9 _ I9 q9) λxv s10 ⟨y,H10,I10,r10,ys,hys,hz,n10⟩=>?_)));obtain⟨m',hm,w10⟩:=hN _ n10;refine wpAny_bind (never (thn (vJ (X:=Y) _ s10 σ8 H10 (.ref s2.heap.objs.size) [y] (.ref s2.heap.objs.size) [xv] (λ_ H=>∃m',m'<n/\W (i+1) m' H) I10 rfl (.cons r10 .nil) ⟨_,ys,y,rfl,rfl,hys,hz,m',hm,w10⟩) λ_ s11 ⟨_,H11,I11,_,m2,hm2,w11⟩=>?_));exact wpAny_pure (wpAny_pure ⟨by rw[e5],again I11 hm2 w11⟩)
 exact codeAny_compStart_list loop (T.self X.A 0 s4 _ _ st4' loop)
theorem pe_comp(S:CompS X scope cl bs ext)(hc:X.calm=true)(hi:PI X tg iter wi)(hg:∀fp s H,PG (cxC X scope cl (X.N++ext) fp s H) tg g)(ht:∀fp s H,PTs (cxC X scope cl (X.N++ext) fp s H) ifs tt)(he:∀fp s H,PE (cxC X scope cl (X.N++ext) fp s H) elt te)(hs:∀x,foldedSetIterable iter X.env x=pure x:=by intro _; rfl):PE X (.ListComp elt [⟨tg,iter,ifs,0⟩] scope pos) (xY wi bs ext.length g tt te):=by
 intro pins s σ H Q I h;rw[eval_ListComp];refine K7 (use:=none) S hc hi hg ht he hs I h _ λacc s2 H2 fp σ' H' s' I2 f2 J q=>?_;obtain⟨m,hn,_⟩:=J.loc;exact⟨m,hn,λh' sb=>⟨.ref acc,H',qaw I2 f2 J sb,rfl,q⟩⟩
theorem ps_comp(S:CompS X scope cl bs ext)(hc:X.calm=true)(hN:X.N.Nodup)(hix:X.N[i]?=some x)(hx:X.env.scope.names.lookup x=some .local)(hi:PI X tg iter wi)(hg:∀fp s H,PG (cxC X scope cl (X.N++ext) fp s H) tg g)(ht:∀fp s H,PTs (cxC X scope cl (X.N++ext) fp s H) ifs tt)(he:∀fp s H,PE (cxC X scope cl (X.N++ext) fp s H) elt te)(hsw:swapsWith (.ListComp elt [⟨tg,iter,ifs,0⟩] scope pos) (some (.Name x pos')) spos.line X.env=pure true)(hs:∀x,foldedSetIterable iter X.env x=pure x:=by intro _; rfl):PS X (.Assign [.Name x pos'] (.ListComp elt [⟨tg,iter,ifs,0⟩] scope pos) spos) (tAsg (xY wi bs ext.length g tt te) (qM i)):=by
 intro pins s σ H D I h;rw[exec_Assign_Name_used _ _ _ _ hsw];refine wpAny_bind (wpAny_standAt (wpAny_bind ?_));show wpAny _ X.A (do let _ <-comprehension (.ListComp elt [⟨tg,iter,ifs,0⟩] scope pos) scope X.env _ (newList []) false (eval iter X.env) (some (assign (.Name x pos') X.env))) _ _ s;refine wpAny_bind (wpAny_mono (K7 (use:=some (assign (.Name x pos') X.env)) (RR:=λ_ s'=>SP X pins D .next s') S hc hi hg ht he hs I h _ λacc s2 H2 fp σ' H' s' I2 f2 J q=>?_) (λ_ s' hq=>wpAny_pure (wpAny_pure hq)) λ_ _ e=>e);have I5:Inv X pins σ H' s':=by
  have:=qaw (h':=s'.heap) I2 f2 J (.refl ..);exact this
 show wpAny _ X.A (assign (.Name x pos') X.env (.ref acc)) _ _ s';obtain⟨m,hn,_⟩:=J.loc;have hCL:s2.heap.objs.size≠X.env.locals:=Bl I2.lt;have nC:∀b o,s2.heap.get? b=some o->b≠s2.heap.objs.size:=λb o e=>UH (Heap.lt_size e);have cC:∀y c,X.env.cells.lookup y=some c->c≠s2.heap.objs.size:=λy c e=>by
  obtain⟨v,o,ho,_⟩:=I2.cell y c e;exact nC c o ho
 refine wpAny_assign_Name (ZF I5 hN hix (.inl hx) (v:=.ref acc) rfl (λs6 I6 k6=>?_) (.inr hx));obtain⟨a,sb6,ha⟩:=k6;have haC:a≠s2.heap.objs.size:=by
  rcases ha with z|z
  ·rw[z]; exact hCL.symm
  ·exact cC x a z
 refine⟨m,hn.sameBut sb6 haC.symm,λh' sb=>?_⟩;refine⟨_,H',I6.turned (t':=s6.toks) (it:=s2.heap.objs.size) (λb o hb e=>sb.extBut b o hb e) ?_ hCL (.inr (UL I2.ok.above (U2 I2.lt))) cC λp hp=>?_,q⟩
 ·have fr:H' s2.heap.objs.size=none:=J.free
  exact fr
 ·exact nC p.1 p.2 (I2.pin p hp).1
end
theorem qaE(Pv:Nat->Hp->Prop)(h0:Pv 0 (upd H1 acc (.lst [])))(hl:∀i H,i<=xs.length->Pv i H->SqL Ξ H a xs)(hs:∀i x H,xs[i]?=some x->Pv i H->g x σ0 H λσ4 H4=>(ExtS σ0 σ4/\σ4.length=σ0.length)/\tt σ4 H4 λb H5 =>
   if b=true then te σ4 H5 λv H6=>∃ys,H6 acc=some (.lst ys)/\ys.length<sizeLine/\Pv (i+1) (upd H6 acc (.lst (ys++[v]))) else Pv (i+1) H5)(hd:∀H,Pv xs.length H->Q (.ref acc) H):CompW (Itl Ξ a) acc g tt te σ0 H1 Q:=by
 refine⟨λi m H=>m=xs.length-i/\i<=xs.length/\Pv i H,⟨xs.length,by simp,UW _,h0⟩, ?_⟩;rintro i m H ⟨rfl,hi,p⟩;have q:=hl i H hi p;by_cases hlt:i<xs.length
 ·refine .inr ⟨⟨xs,xs[i],q,by simp[hlt]⟩,Pv (i+1),λH' p'=>⟨xs.length-(i+1),by lia,rfl,hlt,p'⟩,λx H' y=>?_⟩
  obtain⟨e,y⟩:=y;subst e;exact hs i x _ (y xs q) p
 ·have e:i=xs.length:=by lia
  subst e;exact .inl ⟨⟨xs,q,Uk _⟩,hd H p⟩
def clOf(env:Env):List (Str×NameKind)->List (Str×Addr)->List (Str×Addr)
 | [],cs=>cs
 | (n,k)::r,cs=>clOf env r (if(k==NameKind.free)=true then(n,(env.cells.lookup n).getD 0)::cs else cs)
theorem clos_eq(scope:Scope)(h:∀p∈scope.names,p.2=.free->∃c,env.cells.lookup p.1=some c):closureFor scope env=pure (clOf env scope.names []):=by
 unfold closureFor;generalize([]:List (Str×Addr))=cs0;generalize scope.names=ns at h;have key:∀(ns:List (Str×NameKind))(cs:List (Str×Addr)),(∀p∈ns,p.2=.free->∃c,env.cells.lookup p.1=some c) ->
   (forIn ns cs λ(x:Str×NameKind) (r:List (Str×Addr))=>(match x with|(name,kind)=>if(kind==NameKind.free)=true then do let c <-cellOf env name; pure (ForInStep.yield ((name,c)::r)) else pure (ForInStep.yield r):Sem (ForInStep (List (Str×Addr)))))=pure (clOf env ns cs):=by
  intro ns
  induction ns with
  |nil=>intro cs _; rfl
  |cons p r ih =>
   intro cs hp;obtain⟨n,k⟩:=p;rw[List.forIn_cons];by_cases hk:(k==NameKind.free)=true
   ·obtain⟨c,hc⟩:=hp (n,k) UN (by simpa using hk)
    have hcell:cellOf env n=pure c:=by unfold cellOf; rw[hc]
    simp only[hk,if_true,hcell,pure_bind];rw[ih _ λq hq=>hp q (UR _ hq)];have hc':List.lookup n env.cells=some c:=hc;simp[clOf,hk,hc']
   ·simp only[hk,Dk,if_false,pure_bind]
    rw[ih _ λq hq=>hp q (UR _ hq)];simp[clOf,hk]
 have:=key ns cs0 h;rw[show(do
   let mut cs:=cs0
   for (name,kind) in ns do
    if kind == .free then cs:=(name, <-cellOf env name)::cs
   return cs:Sem (List (Str×Addr)))=(forIn ns cs0 λ(x:Str×NameKind) (r:List (Str×Addr))=>(match x with|(name,kind)=>if(kind==NameKind.free)=true then do let c <-cellOf env name; pure (ForInStep.yield ((name,c)::r)) else pure (ForInStep.yield r):Sem (ForInStep (List (Str×Addr))))) >>= pure from rfl]
 rw[this,pure_bind]
theorem K8:∀(ns:List (Str×NameKind))(cs:List (Str×Addr)),(∀p∈ns,p.2=.free->∃c,env.cells.lookup p.1=some c)->(∀x c,cs.lookup x=some c->env.cells.lookup x=some c)->∀x c,(clOf env ns cs).lookup x=some c->env.cells.lookup x=some c
 | [],cs,_,h,x,c,e=>h x c e
 | (n,k)::r,cs,hp,h,x,c,e=>by
  refine K8 r _ (λq hq=>hp q (UR _ hq)) (λy d e'=>?_) x c e;split at e'
  ·rename_i hk
   obtain⟨c',hc⟩:=hp (n,k) UN (by simpa using hk);rw[UF] at e';have hc':List.lookup n env.cells=some c':=hc;rw[hc'] at e';split at e'
   ·rename_i hy
    have hy':y=n:=by simpa using hy
    subst hy';rw[<-e']; exact hc'
   ·exact h y d e'
  ·exact h y d e'
theorem K9:∀(ns:List (Str×NameKind))(cs:List (Str×Addr))(x:Str),((x,NameKind.free)∈ns\/∃c,cs.lookup x=some c)->∃c,(clOf env ns cs).lookup x=some c
 | [],cs,x,h=>by
  rcases h with h|h
  ·cases h
  ·exact h
 | (n,k)::r,cs,x,h=>by
  refine K9 r _ x ?_;rcases h with h|⟨c,h⟩
  ·rcases Uv.mp h with h|h
   ·injection h with h1 h2
    subst h1 h2;right;exact⟨_,by simp[UF]; rfl⟩
   ·exact .inl h
  ·right
   split
   ·rw[UF]
    split
    ·exact⟨_,rfl⟩
    ·exact⟨c,h⟩
   ·exact⟨c,h⟩
def km(scope:Scope)(env:Env)(N:List Str)(bs:List Bool):Bool :=
 scope.names.all (λp=>p.2 != .cell)&&(scope.kind == .function)&&scope.names.all (λp=>p.2 != .local||scope.names.lookup p.1==some .local)&&(bs.length==N.length)
  && scope.names.all (λp=>p.2 != .free||(env.kindOf p.1==some .cell||env.kindOf p.1==some .free))&&(N.zip bs).all (λp => !p.2||scope.names.lookup p.1==some .free)
theorem mem_of_lookup{β:Type}{x:Str}{b:β}:∀{l:List (Str×β)},l.lookup x=some b->(x,b)∈l
 | [],h=>by simp at h
 | (y,c)::r,h=>by
  rw[UF] at h;split at h
  ·rename_i hy
   have:x=y:=by simpa using hy
   subst this; cases h; exact UN
  ·exact UR _ (mem_of_lookup h)
theorem vT{env:Env}:∀{names:List (Str×NameKind)}{x:Str}{k:NameKind},
  (names.map λ(n,k)=>if(k==NameKind.free&&env.scope.kind == .function&&env.kindOf n==some .cell) then(n,NameKind.cell) else(n,k)).lookup x=some k->names.lookup x=some k\/(k=.cell/\names.lookup x=some .free)
 | [],_,_,h=>by simp at h
 | (n,k')::r,x,k,h=>by
  have ih:=@vT env r x k;have h':List.lookup x ((if(k'==NameKind.free&&env.scope.kind == .function&&env.kindOf n==some .cell)=true then(n,NameKind.cell) else(n,k'))::(r.map λ(n,k)=>if(k==NameKind.free&&env.scope.kind == .function&&env.kindOf n==some .cell) then(n,NameKind.cell) else(n,k)))=some k:=h;by_cases hc:(k'==NameKind.free&&env.scope.kind == .function&&env.kindOf n==some .cell)=true
  ·rw[if_pos hc,UF] at h'
   rw[UF];have hf:k'=.free:=by
    cases k'<;>first|rfl|(exfalso; revert hc; simp)
   split at h'
   ·right
    injection h' with h'
    rw[hf];exact⟨h'.symm,rfl⟩
   ·exact ih h'
  ·rw[if_neg hc,UF] at h'
   rw[UF];split at h'
   ·exact .inl h'
   ·exact ih h'
theorem CompS.of(I:Inv X pins σ H s)(h:km scope X.env X.N bs=true):CompS X scope (clOf X.env scope.names []) bs ext:=by
 unfold km at h;simp only[DF,DQ] at h;obtain⟨⟨⟨⟨⟨h1,h2⟩,h3⟩,h4⟩,h5⟩,h6⟩:=h;have hc:∀p∈scope.names,p.2=.free->∃c,X.env.cells.lookup p.1=some c:=λp hp hf=>by
  have:=h5 p hp;rw[hf] at this;refine I.ok.has p.1 ?_;simpa using this
 have nocell:∀{x:Str},scope.names.lookup x≠some .cell:=λ{x} e=>by
  have:=h1 _ (mem_of_lookup e);simp at this
 refine⟨clos_eq scope hc,λy hy=>by simpa using h1 y hy,by simpa using h2,λy hy hl=>?_,λx c e=>K8 scope.names [] hc (λ_ _ z=>by simp at z) x c e,λx hx=>?_,by simpa using h4,λi x hN hb hv=>?_⟩
 ·have:=h3 y hy
  rw[hl] at this;simpa using this
 ·refine K9 scope.names [] x (.inl ?_)
  rcases hx with hx|hx
  ·rcases vT hx with z|⟨_,z⟩
   ·exact absurd z nocell
   ·exact mem_of_lookup z
  ·rcases vT hx with z|⟨z,_⟩
   ·exact mem_of_lookup z
   ·cases z
 ·have hz:(x,true)∈X.N.zip bs:=by
   have:(X.N.zip bs)[i]?=some (x,true):=by
    rw[List.getElem?_zip_eq_some]; exact⟨hN,hb⟩
   exact Ui this
  have hf:=h6 _ hz;have hf:scope.names.lookup x=some .free:=by simpa using hf
  have hk:=h5 _ (mem_of_lookup hf);have hk:X.env.kindOf x=some .cell\/X.env.kindOf x=some .free:=by simpa using hk
  refine⟨λz=>?_,hk, ?_⟩
  ·rcases vT z with q|⟨q,_⟩
   ·rw[hf] at q; cases q
   ·cases q
  ·rcases hk with q|q
   ·exact .inr (.inl q)
   ·exact .inr (.inr q)
section
abbrev cxB(X:Cx)(scope:Scope)(ext:List Str)(fp:List Addr)(s:Shared)(H:Hp):Cx:=cxC X scope (clOf X.env scope.names []) (X.N++ext) fp s H
theorem pe_lc(bs:List Bool)(ext:List Str)(hi:PI X tg iter wi)(hg:∀fp s H,PG (cxB X scope ext fp s H) tg g)(ht:∀fp s H,PTs (cxB X scope ext fp s H) ifs tt)(he:∀fp s H,PE (cxB X scope ext fp s H) elt te)(hk:km scope X.env X.N bs=true:=by rfl)(hc:X.calm=true:=by rfl)(hs:∀x,foldedSetIterable iter X.env x=pure x:=by intro _; rfl) :
  PE X (.ListComp elt [⟨tg,iter,ifs,0⟩] scope pos) (xY wi bs ext.length g tt te):=λpins s σ H Q I h=>pe_comp (CompS.of I hk) hc hi hg ht he hs pins s σ H Q I h
theorem ps_lc(bs:List Bool)(ext:List Str)(hN:X.N.Nodup)(hix:X.N[i]?=some x)(hx:X.env.scope.names.lookup x=some .local)(hi:PI X tg iter wi)(hg:∀fp s H,PG (cxB X scope ext fp s H) tg g)(ht:∀fp s H,PTs (cxB X scope ext fp s H) ifs tt)(he:∀fp s H,PE (cxB X scope ext fp s H) elt te)(hk:km scope X.env X.N bs=true:=by rfl)(hc:X.calm=true:=by rfl)(hsw:swapsWith (.ListComp elt [⟨tg,iter,ifs,0⟩] scope pos) (some (.Name x pos')) spos.line X.env=pure true:=by rfl)(hs:∀x,foldedSetIterable iter X.env x=pure x:=by intro _; rfl) :
  PS X (.Assign [.Name x pos'] (.ListComp elt [⟨tg,iter,ifs,0⟩] scope pos) spos) (tAsg (xY wi bs ext.length g tt te) (qM i)):=λpins s σ H D I h=>ps_comp (CompS.of I hk) hc hN hix hx hi hg ht he hsw hs pins s σ H D I h
end
def CDivB(i j:Int):Prop:=0<j/\j.natAbs.log2<9000
theorem noPyl(h:CDivB i j):Builtin.divisionGoesByPylong i j=false:=Ru h.2
theorem xF:OpR X (binaryOp .FloorDiv) (rI CDivB λi j=>.int (i / j)):=opI λi j _ _ _ _ _ hc q=>by
 refine floordiv_int (by have:=hc.1; lia) ?_ (.inl (noPyl hc));rw[Rh _ (by have:=hc.1; lia)];exact q
section
theorem rd_I:rI C g (.int i) (.int j) H Q=(C i j/\Q (g i j) H) :=
 propext ⟨λ⟨_,_,e1,e2,h⟩=>by cases e1; cases e2; exact h,λh=>⟨i,j,rfl,rfl,h⟩⟩
theorem rd_I0:rI0 g (.int i) (.int j) H Q=Q (g i j) H :=
 propext ⟨λ⟨_,_,e1,e2,h⟩=>by cases e1; cases e2; exact h,λh=>⟨i,j,rfl,rfl,h⟩⟩
theorem rd_U:rU g (.int i) H Q=Q (g i) H :=
 propext ⟨λ⟨_,e1,h⟩=>by cases e1; exact h,λh=>⟨i,rfl,h⟩⟩
theorem VS:Vw t σ H R=t σ H λx H'=>∃k,x=.bl k/\R k H':=rfl
theorem rd_bl{R:Bool->Prop}:(∃k',V.bl k=.bl k'/\R k')=R k:=propext ⟨λ⟨_,e,h⟩=>by cases e; exact h,λh=>⟨k,rfl,h⟩⟩
theorem rd_l1{R:Int->Prop}:(∃j,([V.int i]:List V)=[V.int j]/\R j)=R i:=propext ⟨λ⟨_,e,h⟩=>by cases e; exact h,λh=>⟨i,rfl,h⟩⟩
theorem rd_l2{R:Int->Int->Prop}:(∃i j,([V.int a,V.int b]:List V)=[V.int i,V.int j]/\R i j)=R a b:=propext ⟨λ⟨_,_,e,h⟩=>by cases e; exact h,λh=>⟨a,b,rfl,h⟩⟩
theorem rd_lr{R:Addr->List V->Prop}:(∃p ys,([V.ref a]:List V)=[V.ref p]/\R p ys)=∃ys,R a ys:=propext ⟨λ⟨_,ys,e,h⟩=>by cases e; exact⟨ys,h⟩,λ⟨ys,h⟩=>⟨a,ys,rfl,h⟩⟩
theorem z0(hp:H p=none)(h:H x=some o):upd H p o' x=some o:=by rw[upd_ne (qS h hp)]; exact h
theorem kI(hn:x≠p)(h:H x=some o):upd H p o' x=some o:=by rw[upd_ne hn]; exact h
theorem Zg(h:upd H p o' x=none):H x=none/\x≠p:=by
 have hx:x≠p:=λe=>by subst e; rw[upd_same] at h; cases h
 rw[upd_ne hx] at h;exact⟨h,hx⟩
theorem Same.upd{H:Hp}{H1:Hp}{p:Addr}{o:HO}(s:Same H H1)(h:H p=none):Same H (upd H1 p o):=λb o' e=>by
 rw[upd_ne (qS e h)]; exact s b o' e
theorem ExtS.nl:ExtS [] []:=λ_ _ h=>h
theorem ExtS.no(h:ExtS a b):ExtS (none::a) (x::b):=λi v e=>by
 cases i with
 |zero=>simp at e
 |succ i=>simpa using h i v (by simpa using e)
theorem ExtS.sm(h:ExtS a b):ExtS (x::a) (x::b):=λi v e=>by
 cases i with
 |zero=>simpa using e
 |succ i=>simpa using h i v (by simpa using e)
end
structure Def(P:Program)(w:World)(Ξ:PySem.W.Frag)(mg:Str->Option Value)(base:Heap)(x:Str)(k:Nat)(ps:List Str)(sp:Sp):Prop where
 ex:∃(f:Addr)(fd:FuncData),mg x=some (.ref f)/\W.keepIn Ξ (.ref f)=true/\Binds Ξ fd ps []/\FnOk P w Ξ mg base CX0 k f fd ps sp
section
end
def rIsi(Ξ:PySem.W.Frag):List V->Hp->VK->Prop:=λxs H Q=>∃x n t b,xs=[x, .ty n]/\TyOf Ξ H x (.type t)/\W.kitOne Ξ (.type t) (.type n)=some b/\Q (.bl b) H
theorem call_isi:jv X (.builtin "isinstance") (rIsi X.K):=by
 intro pins s σ H xs us Q I r h;obtain⟨x,n,t,b,rfl,ty,e,q⟩:=h;obtain⟨u,v,rfl,ru,rv⟩:=vals2 r;obtain rfl:v=Value.type n:=rv;exact G1 I ru ty e λtk=>⟨.bl b,H,I.tok tk,rfl,q⟩
inductive DE(Ξ:PySem.W.Frag)(H:Hp):Nat->V->V->Bool->Prop
 |flat {n:Nat} {x y:V}:kH x=true->kH y=true->DE Ξ H n x y (eqV x y)
 |same {n:Nat} {a:Addr}:DE Ξ H n (.ref a) (.ref a) true
 |tup {n:Nat} {a b:Addr} {xs ys:List V} {e:Nat->Bool}:a≠b->SqT Ξ H a xs->SqT Ξ H b ys->(∀(j:Nat) x y,xs[j]?=some x->ys[j]?=some y->DE Ξ H n x y (e j))->DE Ξ H (n+1) (.ref a) (.ref b) ((List.range (min xs.length ys.length)).all e&&xs.length==ys.length)
 |lst {n:Nat} {a b:Addr} {xs ys:List V} {e:Nat->Bool}:a≠b->SqL Ξ H a xs->SqL Ξ H b ys->xs.length=ys.length->(∀(j:Nat) x y,xs[j]?=some x->ys[j]?=some y->DE Ξ H n x y (e j))->DE Ξ H (n+1) (.ref a) (.ref b) ((List.range xs.length).all e)
 |lstN {n:Nat} {a b:Addr} {xs ys:List V}:a≠b->SqL Ξ H a xs->SqL Ξ H b ys->xs.length≠ys.length->DE Ξ H (n+1) (.ref a) (.ref b) false
theorem zJ{A:Around}:A.in1.units=A.units+1:=rfl
theorem DE.eqAt(I:Inv X pins σ H s)(d:DE X.K H n x y b):∀{A:Around}{u v:Value},A.units+n<cLine->RelV x u->RelV y v->SeqAt.EqAt A s u v b:=by
 induction d with
 |flat f g=>intro A u v _ rx ry; exact XB rx ry f g
 |same =>
  intro A u v _ rx ry;obtain rfl:u=_:=rx;obtain rfl:v=_:=ry;exact SeqAt.EqAt.same _
 | @tup n a b xs ys e ne ha hb _ ih =>
  intro A u v hu rx ry;obtain rfl:u=Value.ref a:=rx;obtain rfl:v=Value.ref b:=ry;obtain⟨its,r1,p1,_⟩:=I.tuple ha;obtain⟨its2,r2,p2,_⟩:=I.tuple hb;have:=SeqAt.RcAt.tuples (A:=A) (e:=e) p1 p2 (by lia) λj h1 h2=>by
   have l1:j<xs.length:=by rw[r1.length]; simpa using h1
   have l2:j<ys.length:=by rw[r2.length]; simpa using h2
   obtain⟨u1,q1,s1⟩:=r1.get (Uf l1);obtain⟨u2,q2,s2⟩:=r2.get (Uf l2);have e1:its.toArray[j]=u1:=by
    have:=Ue.mp q1;obtain⟨_,z⟩:=this;simpa using z
   have e2:its2.toArray[j]=u2:=by
    have:=Ue.mp q2;obtain⟨_,z⟩:=this;simpa using z
   rw[e1,e2];exact ih j _ _ (Uf l1) (Uf l2) (by rw[zJ]; lia) s1 s2
  rw[Up,Up, <-r1.length, <-r2.length] at this;exact .of_refs ne this
 | @lst n a b xs ys e ne ha hb hl _ ih =>
  intro A u v hu rx ry;obtain rfl:u=Value.ref a:=rx;obtain rfl:v=Value.ref b:=ry;obtain⟨its,r1,p1,_⟩:=I.list ha;obtain⟨its2,r2,p2,_⟩:=I.list hb;have:=SeqAt.RcAt.lists (A:=A) (e:=e) p1.isList p2.isList (by simp[<-r1.length, <-r2.length,hl]) (by lia) λj h1 h2=>by
   have l1:j<xs.length:=by rw[r1.length]; simpa using h1
   have l2:j<ys.length:=by rw[r2.length]; simpa using h2
   obtain⟨u1,q1,s1⟩:=r1.get (Uf l1);obtain⟨u2,q2,s2⟩:=r2.get (Uf l2);have e1:its.toArray[j]=u1:=by
    have:=Ue.mp q1;obtain⟨_,z⟩:=this;simpa using z
   have e2:its2.toArray[j]=u2:=by
    have:=Ue.mp q2;obtain⟨_,z⟩:=this;simpa using z
   rw[e1,e2];exact ih j _ _ (Uf l1) (Uf l2) (by rw[zJ]; lia) s1 s2
  rw[Up, <-r1.length] at this;exact .of_refs ne this
 | @lstN n a b xs ys ne ha hb hl =>
  intro A u v hu rx ry;obtain rfl:u=Value.ref a:=rx;obtain rfl:v=Value.ref b:=ry;obtain⟨its,r1,p1,_⟩:=I.list ha;obtain⟨its2,r2,p2,_⟩:=I.list hb;exact .of_refs ne (SeqAt.RcAt.lists_lengths p1.isList p2.isList (by simp[<-r1.length, <-r2.length,hl]) (by lia))
def rNeT(Ξ:PySem.W.Frag):R2:=λx y H Q=>∃a b xs ys e,x=.ref a/\y=.ref b/\SqT Ξ H a xs/\SqT Ξ H b ys/\(∀(j:Nat) x y,xs[j]?=some x->ys[j]?=some y->DE Ξ H 20 x y (e j))/\Q (.bl (!((List.range (min xs.length ys.length)).all e&&xs.length==ys.length))) H
theorem op_neT(hu:X.A.units+64<cLine):OpR X (compareOp .NotEq) (rNeT X.K):=by
 intro pins s σ H x y v u Q I rx ry h;obtain⟨a,b,xs,ys,e,rfl,rfl,ha,hb,he,q⟩:=h;obtain rfl:v=Value.ref a:=rx;obtain rfl:u=Value.ref b:=ry;obtain⟨its,r1,p1,_⟩:=I.tuple ha;obtain⟨its2,r2,p2,_⟩:=I.tuple hb;refine EqBoolInt.of_rcne (SeqAt.RcNeAt.tuples (A:=X.A) (e:=e) p1 p2 (by lia) λj h1 h2=>?_) ⟨.bl _,H,I,rfl, ?_⟩
 ·have l1:j<xs.length:=by rw[r1.length]; simpa using h1
  have l2:j<ys.length:=by rw[r2.length]; simpa using h2
  obtain⟨u1,q1,s1⟩:=r1.get (Uf l1);obtain⟨u2,q2,s2⟩:=r2.get (Uf l2);have e1:its.toArray[j]=u1:=by
   have:=Ue.mp q1;obtain⟨_,z⟩:=this;simpa using z
  have e2:its2.toArray[j]=u2:=by
   have:=Ue.mp q2;obtain⟨_,z⟩:=this;simpa using z
  rw[e1,e2];exact(he j _ _ (Uf l1) (Uf l2)).eqAt I (by rw[zJ]; lia) s1 s2
 ·rw[Up,Up, <-r1.length, <-r2.length]
  exact q
end L2
namespace PySem.SeqAt
open AutoSeq1 (wpAny_loadPart')
open MeetsSeq MeetsSeq2 MeetsSeq3 SeqRoads2
theorem VQ(l:Addr)(items:Array Value)(n:Nat)(x:Value)(e:Nat->Bool)(j:Nat)(hj:j<items.size)(hit:e j=true)(k:Nat)(hs1:items.size<=sizeLine) :
  ∀i:Nat,j-i=k->i<=j->(∀m (hm:m<items.size),i<=m->m<j->e m=false)->Meets (Builtin.«list.remove.loop» ⟨[.ref l,x,rawInt i], []⟩)
   (λA R s=>s.heap.get? l=some { cls:=.type "list", dict:=none,data:=.seq items n,slots:=#[] }/\(∀m (hm:m<items.size),m<=j->EqAt A.in1 s items[m] x (e m))/\R (.ok (.ret .none)) { s with heap:=s.heap.update l (Obj.mapSeq λxs=>xs.eraseIdxIfInBounds j) }):=by
 induction k with
 |zero =>
  intro i hk hij hno prog w A R s h;obtain⟨hp,g,d,tk,os⟩:=s; obtain⟨hl,he,h⟩:=h;have hij':i=j:=by lia
  subst hij'
  wp_walk using wpAny_loadPart' hl;have hi:items[((i:Nat):Int).toNat]?=some items[i]:=by simp[hj]
  rw[hi];refine wpAny_bind (he _ hj (Uk _) prog w _ _ ?_);rw[hit];have hz':(items.eraseIdxIfInBounds i).size<=sizeLine+1:=UL (size_erased items _) (Rv hs1)
  wp_walk using(wpAny_updateSeq hl rfl (hz:=hs1) (_hz':=hz')),wpAny_loadPart' hl;simpa using h
 |succ k ih =>
  intro i hk hij hno prog w A R s h;obtain⟨hp,g,d,tk,os⟩:=s; obtain⟨hl,he,h⟩:=h;have hlt:i<items.size:=by lia
  wp_walk using wpAny_loadPart' hl;have hi:items[((i:Nat):Int).toNat]?=some items[i]:=by simp[hlt]
  have hc:((i:Int)+1)=((i+1:Nat):Int):=by push_cast; rfl
  rw[hi];refine wpAny_bind (he _ hlt (by lia) prog w _ _ ?_);rw[hno i hlt (Uk _) (by lia)]
  wp_walk;rw[hc];exact⟨plainId_quiet plain_remove_loop _,codeAny_builtin entry_remove_loop (by
   rw[Around.under_plainId plain_remove_loop _];exact ih (i+1) (by lia) (by lia) (λm hm h1 h2=>hno m hm (by lia) h2) prog w A R _ ⟨hl,he,h⟩)⟩
theorem list_removeAt(l:Addr)(items:Array Value)(n:Nat)(x:Value)(e:Nat->Bool)(j:Nat)(hj:j<items.size)(hit:e j=true)(hno:∀m (hm:m<items.size),m<j->e m=false)(hs1:items.size<=sizeLine:=by size_fits) :
  Meets (Builtin.«list.remove» ⟨[.ref l,x], []⟩)
   (λA R s=>s.heap.get? l=some { cls:=.type "list", dict:=none,data:=.seq items n,slots:=#[] }/\(∀m (hm:m<items.size),m<=j->EqAt A.in1 s items[m] x (e m))/\R (.ok (.ret .none)) { s with heap:=s.heap.update l (Obj.mapSeq λxs=>xs.eraseIdxIfInBounds j) }):=by
 intro prog w A R s h;obtain⟨hp,g,d,tk,os⟩:=s; obtain⟨hl,he,h⟩:=h
 wp_walk using wpAny_loadPart' hl;exact⟨plainId_quiet plain_remove_loop _,codeAny_builtin entry_remove_loop (by
  rw[Around.under_plainId plain_remove_loop _];exact VQ l items n x e j hj hit _ hs1 0 rfl (UW _) (λm hm _ h2=>hno m hm h2) prog w A R _ ⟨hl,he,h⟩)⟩
end PySem.SeqAt
namespace L2
open PySem PySem.Spec PyProof.Rows
def Jr(Ξ:PySem.W.Frag):V->List V->Hp->VK->Prop:=λx vs H Q=>∃l xs y j,∃e:Nat->Bool,x=.ref l/\vs=[y]/\H l=some (.lst xs)/\j<xs.length/\e j=true/\(∀m,m<j->e m=false)/\(∀(m:Nat) z,m<=j->xs[m]?=some z->DE Ξ H 20 z y (e m))/\Q .non (upd H l (.lst (xs.eraseIdx j)))
theorem GC(hu:X.A.units+64<cLine):MtM X "list.remove" (Jr X.K):=by
 intro pins s σ H x vs v us Q I rx rv h;obtain⟨l,xs,y,j,e,rfl,rfl,hH,hj,hit,hno,he,q⟩:=h;cases rx;obtain⟨u,rfl,ru⟩:=rv.one;obtain⟨z,its,n,r,hl,eo⟩:=I.lstM hH;refine call_meets F.slot_list_remove ⟨_,eo,rfl⟩ F.entry_list_remove (F.args_list_remove_2 _ _) (SeqAt.list_removeAt l its.toArray n u e j (by simp; lia) hit (λm _ hm=>hno m hm) (by rw[Up]; lia)) ⟨eo,λm hm hmj=>?_, ?_⟩
 ·have l1:m<xs.length:=by rw[hl]; simpa using hm
  obtain⟨u1,q1,s1⟩:=r.get (Uf l1);have e1:its.toArray[m]=u1:=by
   have:=Ue.mp q1;obtain⟨_,z⟩:=this;simpa using z
  rw[e1];exact(he m _ hmj (Uf l1)).eqAt I (by rw[zJ]; lia) s1 ru
 ·refine⟨.non,_,I.lset (its':=its.eraseIdx j) hH eo (by simp) (r.eraseIdx j) (UL (Xj _ _) z),rfl,q⟩
structure Nms(mg:Str->Option Value):Prop where
 abs:mg "abs" = none
 len:mg "len" = none
 min:mg "min" = none
 max:mg "max" = none
 sum:mg "sum" = none
 sorted:mg "sorted" = none
 all:mg "all" = none
 any:mg "any" = none
 isinstance:mg "isinstance" = none
 range:mg "range" = none
 int:mg "int" = none
 list:mg "list" = none
 str:mg "str" = none
 bool:mg "bool" = none
 tuple:mg "tuple" = none
 zip:mg "zip" = none
 enumerate:mg "enumerate" = none
 dict:mg "dict" = none
theorem b_abs:bootBuiltins "abs" = some (.builtin "abs"):=by decide +kernel
theorem Vc:bootBuiltins "len" = some (.builtin "len"):=by decide +kernel
theorem b_min:bootBuiltins "min" = some (.builtin "min"):=by decide +kernel
theorem kB:bootBuiltins "isinstance" = some (.builtin "isinstance"):=by decide +kernel
theorem b_int:bootBuiltins "int" = some (.type "int"):=by decide +kernel
theorem zZ:bootBuiltins "list" = some (.type "list"):=by decide +kernel
theorem b_str:bootBuiltins "str" = some (.type "str"):=by decide +kernel
def SameB(b:Addr)(H H':Hp):Prop:=∀x o,H x=some o->x≠b->H' x=some o
theorem SameB.trans(h:SameB b H H1)(k:SameB b H1 H2):SameB b H H2:=λx o e n=>k x o (h x o e n) n
theorem SameB.upd{b p:Addr}{H H1:Hp}{o:HO}(s:SameB b H H1)(h:H p=none\/p=b):SameB b H (upd H1 p o):=λx o' e n=>by
 have:x≠p:=by
  rcases h with h|h
  ·exact qS e h
  ·rw[h]; exact n
 rw[upd_ne this]; exact s x o' e n
def rLenL:List V->Hp->VK->Prop:=λvs H Q=>∃p ys,vs=[.ref p]/\H p=some (.lst ys)/\Q (.int ys.length) H
theorem vZ:jv X (.builtin "len") rLenL:=by
 intro pins s σ H xs us Q I r h;obtain⟨p,ys,e,h,q⟩:=h;exact kA pins s σ H xs us Q I r ⟨p,ys,e, .inl (SqL.of h),q⟩
section
theorem KI(h:H p=some (.lst xs))(e:atI xs i=some v)(q:Q v H):rIxL Ξ (.ref p) (.int i) H Q:=⟨p,xs,i,v,rfl,rfl,SqL.of h,e,q⟩
theorem ixT_at(h:H p=some (.tup xs))(e:atI xs i=some v)(q:Q v H):rIxT Ξ (.ref p) (.int i) H Q:=⟨p,xs,i,v,rfl,rfl,SqT.of h,e,q⟩
theorem at0{α:Type}{x:α}{l:List α}:atI (x::l) 0=some x:=ju (j:=0) rfl
theorem at1{α:Type}{x y:α}{l:List α}:atI (x::y::l) 1=some y:=ju (j:=1) rfl
theorem setL_at(h:H p=some (.lst xs))(e:ixN xs.length i=some j)(q:R (upd H p (.lst (xs.set j v)))):WD (.ref p) (.int i) v H R:=⟨p,xs,i,j,rfl,rfl,h,e,q⟩
theorem eq_at(h:scal x y=true)(q:Q (.bl (decide (x=y))) H):rEq x y H Q:=⟨h,q⟩
theorem ne_at(h:scal x y=true)(q:Q (.bl (!decide (x=y))) H):rNe x y H Q:=⟨h,q⟩
theorem len_at(h:H p=some (.lst xs))(q:Q (.int xs.length) H):rLenL [.ref p] H Q:=⟨p,xs,rfl,h,q⟩
theorem KN(h:H p=some (.tup [x,y]))(q:R ((σ.set i (some x)).set j (some y)) H):gTup Ξ 2 (vj (qM i) (vj (qM j) gNil)) (.ref p) σ H R :=
 ⟨p,_,rfl,SqT.of h,rfl,_,_,rfl,_,_,rfl,rfl,q⟩
theorem Zb(h:H p=some (.tup [x,y,z]))(q:R (((σ.set i (some x)).set j (some y)).set k (some z)) H):gTup Ξ 3 (vj (qM i) (vj (qM j) (vj (qM k) gNil))) (.ref p) σ H R :=
 ⟨p,_,rfl,SqT.of h,rfl,_,_,rfl,_,_,rfl,_,_,rfl,rfl,q⟩
theorem xK:(V.int i=V.int j)=(i=j):=propext ⟨λh=>by cases h; rfl,λh=>by rw[h]⟩
theorem xJ:(V.str i=V.str j)=(i=j):=propext ⟨λh=>by cases h; rfl,λh=>by rw[h]⟩
end
section
theorem pg_t2(hN:X.N.Nodup)(hc:X.calm=true)(hi:X.N[i]?=some x)(hj:X.N[j]?=some y)(lx:Loc X.env.scope x)(ly:Loc X.env.scope y)(fx:X.fn x=true\/X.env.scope.names.lookup x=some .local)(fy:X.fn y=true\/X.env.scope.names.lookup y=some .local) :
  PG X (.Tuple [.Name x px, .Name y py] kk pos) (gTup X.K 2 (vj (qM i) (vj (qM j) gNil))):=W3 hc (xE (j7 hN hi lx fx) (xE (j7 hN hj ly fy) Jx))
theorem pg_t3(hN:X.N.Nodup)(hc:X.calm=true)(hi:X.N[i]?=some x)(hj:X.N[j]?=some y)(hk:X.N[k]?=some z)(lx:Loc X.env.scope x)(ly:Loc X.env.scope y)(lz:Loc X.env.scope z)(fx:X.fn x=true\/X.env.scope.names.lookup x=some .local)(fy:X.fn y=true\/X.env.scope.names.lookup y=some .local)(fz:X.fn z=true\/X.env.scope.names.lookup z=some .local) :
  PG X (.Tuple [.Name x px, .Name y py, .Name z pz] kk pos) (gTup X.K 3 (vj (qM i) (vj (qM j) (vj (qM k) gNil)))):=W3 hc (xE (j7 hN hi lx fx) (xE (j7 hN hj ly fy) (xE (j7 hN hk lz fz) Jx)))
end
section
theorem qj(h:X.K=Ξ):IxR X (rIxL Ξ):=h▸ix_list
theorem qJ(h:X.K=Ξ):IxR X (rIxT Ξ):=h▸ix_tup
theorem vP(h:X.K=Ξ):SlR X (rSlL Ξ):=h▸sl_list
theorem op_inK(h:X.K=Ξ):OpR X (compareOp .In) (rIn Ξ false):=h▸Gd
theorem XJ(h:X.K=Ξ):jv X (.builtin "isinstance") (rIsi Ξ):=h▸call_isi
theorem op_neTK(h:X.K=Ξ)(hu:X.A.units+64<cLine):OpR X (compareOp .NotEq) (rNeT Ξ):=h▸op_neT hu
theorem YA(h:X.K=Ξ)(hu:X.A.units+64<cLine):MtM X "list.remove" (Jr Ξ):=h▸GC hu
def tTru(Ξ:PySem.W.Frag)(ta:TE):TT:=λσ H Q=>ta σ H λx H'=>∃k,TruV Ξ x H' k/\Q k H'
def qaX(x:V)(H:Hp)(k:Prop):Prop:=∃p xs,x=.ref p/\H p=some (.lst xs)/\k
theorem lm_at(h:H p=some (.lst xs))(q:k):qaX (.ref p) H k:=⟨p,xs,rfl,h,q⟩
def tLM(r:V->List V->Hp->VK->Prop)(to:TE)(t:TA):TE:=λσ H Q=>to σ H λx H1=>qaX x H1 (t σ H1 λvs H2=>r x vs H2 Q)
end
def ForW(J:It)(g:TG)(tb:TS)(D:Ends)(σ:St)(H1:Hp):Prop:=∃W:Nat->Nat->St->Hp->Prop,(∃m,W 0 m σ H1)/\∀i m σ H,W i m σ H ->
 (J.stop i H/\D.nx σ H)\/(J.go i H/\∃N:St->Hp->Prop,(∀σ' H',N σ' H'->∃m',m'<m/\W (i+1) m' σ' H')/\∀x H',J.yld i H x H'->g x σ H' λσ2 H2=>tb { D with nx:=N,ct:=N,bk:=D.nx } σ2 H2)
theorem Ku:tFor wi g tb D σ H=wi σ H λJ H1=>ForW J g tb D σ H1:=rfl
def ItStep(Ξ:PySem.W.Frag)(x:V)(H:Hp)(R:It->Hp->Prop):Prop:=∃a,x=.ref a/\(∃xs,SqL Ξ H a xs)/\R (Itl Ξ a) H
theorem kM:YJ Ξ tl σ H R=tl σ H λx H1=>ItStep Ξ x H1 R:=rfl
theorem it_at(h:H p=some (.lst xs))(q:R (Itl Ξ p) H):ItStep Ξ (.ref p) H R:=⟨p,rfl,⟨xs,SqL.of h⟩,q⟩
def RgStep(vs:List V)(H:Hp)(R:It->Hp->Prop):Prop:=∃j:Int,vs=[.int j] /\ -(2^62)<=j/\j<2^62/\R (Itr 0 j.toNat) H
theorem kL:G5 ta σ H R=ta σ H λvs H1=>RgStep vs H1 R:=rfl
theorem rd_pi{R:Int->Prop}:(∃i,V.int k=.int i/\R i)=R k:=propext ⟨λ⟨_,e,h⟩=>by cases e; exact h,λh=>⟨k,rfl,h⟩⟩
structure MDef(P:Program)(w:World)(Ξ:PySem.W.Frag)(mg:Str->Option Value)(base:Heap)(C:Addr)(m:Str)(k:Nat)(ps:List Str)(sp:Sp):Prop where
 ex:∃(f:Addr)(fd:FuncData),Meth Ξ C m f/\Binds Ξ fd ps []/\FnOk P w Ξ mg base CX0 k f fd ps sp
end L2
namespace PySem.SeqAt
open AutoSeq1 (wpAny_loadPart')
open MeetsSeq MeetsSeq2 MeetsSeq3 SeqRoads2
theorem tuple_index3(l:Addr)(its:Array Value)(n:Nat)(dd:Option Addr)(sl:Array (Option Value))(a b c x:Value)(e:Nat->Bool)(hi:its=#[a,b,c])(j:Nat)(hj:j<3)(hit:e j=true)(hno:∀m,m<j->e m=false) :
  Meets (Builtin.«tuple.index» ⟨[.ref l,x], []⟩)
   (λA R s=>s.heap.get? l=some { cls:=.type "tuple", dict:=dd,data:=.seq its n,slots:=sl }/\EqAt A.in1 s a x (e 0)/\EqAt A.in1 s b x (e 1)/\EqAt A.in1 s c x (e 2)/\R (.ok (.ret (.int j s.toks))) { s with toks:=s.toks+1 }):=by
 intro prog w A R s h;obtain⟨hp,g,d,tk,os⟩:=s; obtain⟨hl,h0,h1,h2,h⟩:=h;subst hi;unfold Builtin.«tuple.index»;simp only[Std.Legacy.Range.forIn_eq_forIn_range']
 wp_walk using wpAny_loadPart' hl;simp only[Up,Um,UP,Std.Legacy.Range.size,Bm,show List.range' 0 ((0+1+1+1-0+1-1) / 1) 1=[0,1,2] from rfl,List.forIn_cons,List.forIn_nil];simp only[List.forIn'.loop];rcases(show j=0\/j=1\/j=2 by lia) with rfl|rfl|rfl
 ·rw[hit] at h0
  refine wpAny_bind (wpAny_bind (h0 prog w _ _ ?_))
  wp_walk;exact h
 ·rw[hno 0 (by lia)] at h0
  rw[hit] at h1;refine wpAny_bind (wpAny_bind (h0 prog w _ _ ?_));simp only[Dk,if_false];refine wpAny_pure ?_;refine wpAny_bind (wpAny_bind (h1 prog w _ _ ?_))
  wp_walk;exact h
 ·rw[hno 0 (by lia)] at h0
  rw[hno 1 (by lia)] at h1;rw[hit] at h2;refine wpAny_bind (wpAny_bind (h0 prog w _ _ ?_));simp only[Dk,if_false];refine wpAny_pure ?_;refine wpAny_bind (wpAny_bind (h1 prog w _ _ ?_));simp only[Dk,if_false];refine wpAny_pure ?_;refine wpAny_bind (wpAny_bind (h2 prog w _ _ ?_))
  wp_walk;exact h
end PySem.SeqAt
namespace L2
open PySem PySem.Spec PyProof.Rows
theorem qai(a b:Str):eqV (.str a) (.str b)=decide (a=b):=by
 by_cases h:a=b<;>simp[eqV,h]
structure Tup3(Ξ:PySem.W.Frag)(mg:Str->Option Value)(nm:Str)(p:Addr)(x y z:Str):Prop where
 mg:mg nm=some (.ref p)
 lk:∃(a b c:Tok)(n:Nat)(sl:Array (Option Value)),Ξ.lookup p=some ⟨.type "tuple", none, .seq #[.str x a, .str y b, .str z c] n,sl⟩
theorem Tup3.sq{mg:Str->Option Value}(T:Tup3 Ξ mg nm p x y z)(H:Hp):SqT Ξ H p [.str x, .str y, .str z]:=by
 obtain⟨a,b,c,n,sl,e⟩:=T.lk;exact .inr ⟨_,_,n,e,rfl,rfl,(by decide:3<=sizeLine), .cons ⟨a,rfl⟩ (.cons ⟨b,rfl⟩ (.cons ⟨c,rfl⟩ .nil))⟩
theorem Tup3.ty{mg:Str->Option Value}(T:Tup3 Ξ mg nm p x y z)(H:Hp):tyV Ξ "tuple" (.ref p) H:=by
 obtain⟨a,b,c,n,sl,e⟩:=T.lk;exact .inr (.inl ⟨rfl,_,e,rfl,rfl⟩)
def rIdxT(p:Addr)(x y z:Str):V->List V->Hp->VK->Prop:=λv vs H Q=>∃(t:Str)(j:Nat),v=.ref p/\vs=[.str t]/\[x,y,z][j]?=some t/\(∀m,m<j->[x,y,z][m]?≠some t)/\Q (.int j) H
theorem GD(hK:X.K=Ξ)(T:Tup3 Ξ mg nm p x y z):MtR X "tuple.index" (rIdxT p x y z):=by
 subst hK;intro pins s σ H v vs w us Q I rx rv h;obtain⟨t,j,rfl,rfl,hj,hno,q⟩:=h;cases rx;obtain⟨u,rfl,ru⟩:=rv.one;obtain⟨tk,rfl⟩:=ru;obtain⟨a,b,c,n,sl,e⟩:=T.lk;have eo:=I.kIn p _ e;have hj3:j<3:=(Ue.mp hj).1;refine call_meets F.slot_tuple_index ⟨_,eo,rfl⟩ F.entry_tuple_index (F.args_tuple_index_2 _ _) (SeqAt.tuple_index3 p _ n none sl (.str x a) (.str y b) (.str z c) (.str t tk) (λm=>match m with|0=>eqV (.str x) (.str t)|1=>eqV (.str y) (.str t)|2=>eqV (.str z) (.str t)|_=>false) rfl j hj3 ?_ ?_)
  ⟨eo,XB (y:=.str x) (x:=.str t) ⟨a,rfl⟩ ⟨tk,rfl⟩ rfl rfl,XB (y:=.str y) (x:=.str t) ⟨b,rfl⟩ ⟨tk,rfl⟩ rfl rfl,XB (y:=.str z) (x:=.str t) ⟨c,rfl⟩ ⟨tk,rfl⟩ rfl rfl,⟨.int j,H,I.tok _,⟨_,rfl⟩,q⟩⟩
 ·rcases(show j=0\/j=1\/j=2 by lia) with rfl|rfl|rfl<;>(simp at hj; subst hj; simp[qai])
 ·intro m hm
  have:=hno m hm;rcases(show m=0\/m=1\/m=2 by lia) with rfl|rfl|rfl<;>(simp at this; simp[qai,this])
def rLenA(Ξ:PySem.W.Frag):List V->Hp->VK->Prop:=λxs H Q=>∃p ys,xs=[.ref p]/\(SqL Ξ H p ys\/SqT Ξ H p ys)/\Q (.int ys.length) H
theorem YR(h:X.K=Ξ):jv X (.builtin "len") (rLenA Ξ):=h▸kA
structure GInt(mg:Str->Option Value)(nm:Str)(n:Int):Prop where
 ex:∃t,mg nm=some (.int n t)
def Bt(n:Nat)(i:Int):Prop:=i.natAbs<2^n
theorem Bt.bits(h:Bt n i):Builtin.Int.intBits i<=n:=intBits_le_iff.mpr h
theorem Bt.mono(h:Bt n i)(hm:n<=m):Bt m i:=Uy h (Du (by decide) hm)
theorem Bt.neg(h:Bt n i):Bt n (-i):=by unfold Bt; rw[Int.natAbs_neg]; exact h
theorem Bt.small(h0 : -(2^62)<i)(h1:i<2^62)(hn:62<=n):Bt n i:=by
 refine Bt.mono (n:=62) ?_ hn;unfold Bt;lia
theorem Bt.sign(h:Bt n i)(hs:s=1\/s = -1):Bt n (s*i):=by
 rcases hs with rfl|rfl
 ·rw[Da]; exact h
 ·rw[Int.neg_mul,Da]; exact h.neg
def CShlB(i j:Int):Prop:=0<=j/\j<=100000/\Bt 100000 i
theorem op_shlB:OpR X (binaryOp .LShift) (rI CShlB λi j=>.int (i*2^j.toNat)):=opI λi j _ _ _ _ _ hc q=>lshift_int hc.1 (by
 have:=hc.2.2.bits;have h2:=hc.2.1;lia) q
def rBits:V->List V->Hp->VK->Prop:=λx vs H Q=>∃n:Int,x=.int n/\vs=[]/\Q (.int (Builtin.Int.intBits n)) H
theorem mt_bits:MtR X "int.bit_length" rBits:=by
 intro pins s σ H x vs v us Q I rx rv h;obtain⟨n,rfl,rfl,q⟩:=h;obtain⟨t,rfl⟩:=rx;cases rv;exact call_int_bit_length ⟨.int _,H,I.tok _,⟨_,rfl⟩,q⟩
structure Nms2(mg:Str->Option Value):Prop where
 reversed:mg "reversed" = none
def Itv(Ξ:PySem.W.Frag)(a:Addr)(n:Nat):It :=
 ⟨λi H=>i<n/\∃xs,SqL Ξ H a xs/\xs.length=n,λi H x H'=>H'=H/\∀xs,SqL Ξ H a xs->xs[n-1-i]?=some x,λi H=>n=i⟩
theorem turn_rev(a it:Addr)(n:Nat):Turn P w Ξ tg (Itv Ξ a n) [it] it (λi h=>h.IsRevIter it a ((n:Int)-1-i)) where
 mem:=by simp
 obj:=λi h st b hb=>by
  have e:b=it:=by simpa using hb
  subst e;obtain⟨o,e,c,d⟩:=st;exact⟨o,e,λv z=>by rw[d] at z; cases z⟩
 keep:=λi h h' st k=>st.at λo e=>k it (by simp) o e
 item:=by
  intro X hP hw hK hc i pins s σ H E I hf st hg;subst hP hw hK;obtain⟨hi,xs,hq,hn⟩:=hg;obtain⟨its,rv,p,hz⟩:=I.list hq;have hx:xs[n-1-i]?=some xs[n-1-i]:=Uf (by lia);obtain⟨u,hu,ru⟩:=rv.get hx;obtain⟨f0,f1,f2,f3,f4,f5⟩:=hf it (by simp);have st2:s.heap.IsRevIter it a (((n-1-i:Nat)):Int):=by
   have e:(((n-1-i:Nat)):Int)=(n:Int)-1-i:=by lia
   rw[e]; exact st
  refine wpAny_pyNext_rev_item st2 p.isList (x:=u) (by simpa using hu) λh' st' sb=>?_;have I1:Inv X pins σ H { s with heap:=h' }:=I.turned (t':=s.toks) (λb o hb e=>(sb.2 b hb).trans e) f0 f1 f3 f4 f5;obtain⟨o,e,c,d⟩:=id st';have st3:h'.IsRevIter it a ((n:Int)-1-((i+1:Nat):Int)):=by
   have e:(n:Int)-1-((i+1:Nat):Int)=((n-1-i:Nat):Int)-1:=by lia
   rw[e]; exact st'
  exact⟨u,rfl,go_of (s:={ s with heap:=h' }) e c d (by decide) ⟨_,H,I1,ru,⟨rfl,λys hy=>by rw[I.list_inj hy hq]; exact hx⟩,st3,λb hb=>(hf b hb).1⟩⟩
 done:=by
  intro X hP hw hK hc i pins s σ H E I hf st hg;subst hP hw hK;obtain⟨f0,f1,f2,f3,f4,f5⟩:=hf it (by simp);have st2:s.heap.IsRevIter it a (-1):=by
   have e:(n:Int)-1-i = -1:=by have:n=i:=hg; lia
   rw[e] at st; exact st
  exact wpAny_pyNext_rev_end (I.ok.hd hc) st2 λh' eb=>⟨rfl,I.turned (t':=s.toks) (λb o hb e=>eb b o hb e) f0 f1 f3 f4 f5⟩
 self:=λ_ _ _ _ _ st h=>wpAny_pyIter_revIter st h
def RvStep(Ξ:PySem.W.Frag)(vs:List V)(H:Hp)(R:It->Hp->Prop):Prop:=∃a xs,vs=[.ref a]/\SqL Ξ H a xs/\R (Itv Ξ a xs.length) H
def iRev(Ξ:PySem.W.Frag)(ta:TA):TI:=λσ H R=>ta σ H λvs H1=>RvStep Ξ vs H1 R
theorem VT:iRev Ξ ta σ H R=ta σ H λvs H1=>RvStep Ξ vs H1 R:=rfl
def Ite(Ξ:PySem.W.Frag)(a:Addr):It :=
 ⟨λi H=>∃xs x,SqL Ξ H a xs/\xs[i]?=some x,λi H x H'=>∃(p:Addr)(v:V),x=.ref p/\H p=none/\H'=upd H p (.tup [.int i,v])/\∀xs,SqL Ξ H a xs->xs[i]?=some v,λi H=>∃xs,SqL Ξ H a xs/\xs.length<=i⟩
def EnStep(Ξ:PySem.W.Frag)(vs:List V)(H:Hp)(R:It->Hp->Prop):Prop:=∃a xs,vs=[.ref a]/\SqL Ξ H a xs/\R (Ite Ξ a) H
def iEnum(Ξ:PySem.W.Frag)(ta:TA):TI:=λσ H R=>ta σ H λvs H1=>EnStep Ξ vs H1 R
theorem kN:iEnum Ξ ta σ H R=ta σ H λvs H1=>EnStep Ξ vs H1 R:=rfl
def rNeL(Ξ:PySem.W.Frag):R2:=λx y H Q=>∃a b xs ys,x=.ref a/\y=.ref b/\SqL Ξ H a xs/\SqL Ξ H b ys/\((xs.length≠ys.length/\Q (.bl true) H)\/(xs.length=ys.length/\∃e:Nat->Bool,(∀(j:Nat) x y,xs[j]?=some x->ys[j]?=some y->DE Ξ H 20 x y (e j))/\Q (.bl (!(List.range xs.length).all e)) H))
def rEqL(Ξ:PySem.W.Frag):R2:=λx y H Q=>∃a b xs ys,x=.ref a/\y=.ref b/\SqL Ξ H a xs/\SqL Ξ H b ys/\((xs.length≠ys.length/\Q (.bl false) H)\/(xs.length=ys.length/\∃e:Nat->Bool,(∀(j:Nat) x y,xs[j]?=some x->ys[j]?=some y->DE Ξ H 20 x y (e j))/\Q (.bl ((List.range xs.length).all e)) H))
theorem Gc(hK:X.K=Ξ)(hu:X.A.units+64<cLine):OpR X (compareOp .NotEq) (rNeL Ξ):=by
 subst hK;intro pins s σ H x y v u Q I rx ry h;obtain⟨a,b,xs,ys,rfl,rfl,ha,hb,h⟩:=h;obtain rfl:v=Value.ref a:=rx;obtain rfl:u=Value.ref b:=ry;obtain⟨its,r1,p1,_⟩:=I.list ha;obtain⟨its2,r2,p2,_⟩:=I.list hb;rcases h with⟨hl,q⟩|⟨hl,e,he,q⟩
 ·exact EqBoolInt.of_rcne (SeqAt.RcNeAt.lists_lengths (A:=X.A) p1.isList p2.isList (by simp[<-r1.length, <-r2.length,hl]) (by lia)) ⟨.bl _,H,I,rfl,q⟩
 ·refine EqBoolInt.of_rcne (SeqAt.RcNeAt.lists (A:=X.A) (e:=e) p1.isList p2.isList (by simp[<-r1.length, <-r2.length,hl]) (by lia) λj h1 h2=>?_) ⟨.bl _,H,I,rfl, ?_⟩
  ·have l1:j<xs.length:=by rw[r1.length]; simpa using h1
   have l2:j<ys.length:=by rw[r2.length]; simpa using h2
   obtain⟨u1,q1,s1⟩:=r1.get (Uf l1);obtain⟨u2,q2,s2⟩:=r2.get (Uf l2);have e1:its.toArray[j]=u1:=by
    obtain⟨_,z⟩:=Ue.mp q1;simpa using z
   have e2:its2.toArray[j]=u2:=by
    obtain⟨_,z⟩:=Ue.mp q2;simpa using z
   rw[e1,e2];exact(he j _ _ (Uf l1) (Uf l2)).eqAt I (by rw[zJ]; lia) s1 s2
  ·rw[Up, <-r1.length]
   exact q
theorem V3(hK:X.K=Ξ)(hu:X.A.units+64<cLine):OpR X (compareOp .Eq) (rEqL Ξ):=by
 subst hK;intro pins s σ H x y v u Q I rx ry h;obtain⟨a,b,xs,ys,rfl,rfl,ha,hb,h⟩:=h;obtain rfl:v=Value.ref a:=rx;obtain rfl:u=Value.ref b:=ry;obtain⟨its,r1,p1,_⟩:=I.list ha;obtain⟨its2,r2,p2,_⟩:=I.list hb;rcases h with⟨hl,q⟩|⟨hl,e,he,q⟩
 ·exact EqBoolInt.of_rc (SeqAt.RcAt.lists_lengths (A:=X.A) p1.isList p2.isList (by simp[<-r1.length, <-r2.length,hl]) (by lia)) ⟨.bl _,H,I,rfl,q⟩
 ·refine EqBoolInt.of_rc (SeqAt.RcAt.lists (A:=X.A) (e:=e) p1.isList p2.isList (by simp[<-r1.length, <-r2.length,hl]) (by lia) λj h1 h2=>?_) ⟨.bl _,H,I,rfl, ?_⟩
  ·have l1:j<xs.length:=by rw[r1.length]; simpa using h1
   have l2:j<ys.length:=by rw[r2.length]; simpa using h2
   obtain⟨u1,q1,s1⟩:=r1.get (Uf l1);obtain⟨u2,q2,s2⟩:=r2.get (Uf l2);have e1:its.toArray[j]=u1:=by
    obtain⟨_,z⟩:=Ue.mp q1;simpa using z
   have e2:its2.toArray[j]=u2:=by
    obtain⟨_,z⟩:=Ue.mp q2;simpa using z
   rw[e1,e2];exact(he j _ _ (Uf l1) (Uf l2)).eqAt I (by rw[zJ]; lia) s1 s2
  ·rw[Up, <-r1.length]
   exact q
def JH(n:Nat):List Nat:=sliceRange (sliceBounds none none (some (-1)) n).1 (sliceBounds none none (some (-1)) n).2.1 (sliceBounds none none (some (-1)) n).2.2
theorem GX(n:Nat):(JH n).length<=n:=by
 unfold JH sliceRange sliceBounds;simp only[Option.getD_some,Uh,Rw];split
 ·lia
 ·split<;>simp<;>lia
def WZ(xs:List V):List V:=(JH xs.length).filterMap λi=>xs[i]?
theorem WY(xs:List V):(WZ xs).length<=xs.length:=UL (List.length_filterMap_le _ _) (GX _)
theorem QJ(h:Vals xs us):∀I:List Nat,Vals (I.filterMap λi=>xs[i]?) (I.filterMap λi=>us[i]?)
 | []=>.nil
 |i::I=>by
  cases e:xs[i]? with
  |none =>
   have e2:us[i]?=none:=by
    rw[Rp] at e ⊢;rw[<-h.length]; exact e
   rw[U9,U9,e,e2];exact QJ h I
  |some x =>
   obtain⟨u,e2,r⟩:=h.get e;rw[U9,U9,e,e2];exact .cons r (QJ h I)
def RevStep(Ξ:PySem.W.Frag)(x:V)(H:Hp)(Q:VK):Prop:=∃a xs,x=.ref a/\SqL Ξ H a xs/\∀r,H r=none->Q (.ref r) (upd H r (.lst (WZ xs)))
def tRev(Ξ:PySem.W.Frag)(te:TE):TE:=λσ H Q=>te σ H λx H1=>RevStep Ξ x H1 Q
def Gx:Expr->Bool
 |.Starred _ _=>false
 |_=>true
theorem Wh(h:Gx e=true):starEach (e::es) env=(false,eval e env)::starEach es env:=by
 cases e<;>first|rfl|cases h
structure QE(X:Cx)(e:Expr)(t:TE):Prop where
 h:PE X e t
structure QT(X:Cx)(e:Expr)(t:TT):Prop where
 h:PT X e t
structure QW(X:Cx)(e:Expr)(t:TT):Prop where
 h:PW X e t
structure QA(X:Cx)(e:List Expr)(t:TA):Prop where
 h:PA X e t
structure QS(X:Cx)(e:Stmt)(t:TS):Prop where
 h:PS X e t
structure QSs(X:Cx)(e:List Stmt)(t:TS):Prop where
 h:PSs X e t
structure QG(X:Cx)(e:Expr)(t:TG):Prop where
 h:PG X e t
structure QGs(X:Cx)(e:List Expr)(t:TGs):Prop where
 h:PGs X e t
structure QTs(X:Cx)(e:List Expr)(t:TT):Prop where
 h:PTs X e t
structure QO(X:Cx)(e:Option Expr)(t:TO):Prop where
 h:PO X e t
structure QI(X:Cx)(tg e:Expr)(t:TI):Prop where
 h:PI X tg e t
structure QPs(X:Cx)(pos:Pos)(ks:List (Option Expr))(vs:List Expr)(t:List (TE×TE)):Prop where
 h:PPs X pos ks vs t
section
theorem va:QSs X [] Vx:=⟨pss_nil ⟩
end
section
theorem qi{st:Stmt}(h1:QS X st t):QSs X [st] t:=⟨by
 intro pins s σ H D I h;refine wpAny_execs_cons (thn (h1.h pins s σ H D I h) λf s1 q=>?_);cases f with
 |next=>exact wpAny_execs_nil q
 |ret v=>exact q
 |brk=>exact q
 |cont=>exact q⟩
end
section
theorem qf{rest:List Stmt}{st:Stmt}(h1:QS X st t)(h2:QSs X rest u):QSs X (st::rest) (tSeq t u):=⟨by
 intro pins s σ H D I h;refine wpAny_execs_cons (thn (h1.h pins s σ H { D with nx:=u D } I h) λf s1 q=>?_);cases f with
 |next =>
  obtain⟨σ',H',I',q⟩:=q;exact h2.h pins s1 σ' H' D I' q
 |ret v=>exact q
 |brk=>exact q
 |cont=>exact q⟩
end
section
theorem qs_lc(bs:List Bool)(ext:List Str)(hN:X.N.Nodup)(hix:X.N[i]?=some x)(hx:X.env.scope.names.lookup x=some .local)(hi:QI X tg iter wi)(hg:∀fp s H,QG (cxB X scope ext fp s H) tg g)(ht:∀fp s H,QTs (cxB X scope ext fp s H) ifs tt)(he:∀fp s H,QE (cxB X scope ext fp s H) elt te)(hk:km scope X.env X.N bs=true:=by rfl)(hc:X.calm=true:=by rfl)(hsw:swapsWith (.ListComp elt [⟨tg,iter,ifs,0⟩] scope pos) (some (.Name x pos')) spos.line X.env=pure true:=by rfl)(hs:∀x,foldedSetIterable iter X.env x=pure x:=by intro _; rfl):QS X (.Assign [.Name x pos'] (.ListComp elt [⟨tg,iter,ifs,0⟩] scope pos) spos) (tAsg (xY wi bs ext.length g tt te) (qM i)):=⟨ps_lc bs ext hN hix hx hi.h (λfp s H=>(hg fp s H).h) (λfp s H=>(ht fp s H).h) (λfp s H=>(he fp s H).h) hk hc hsw hs⟩
end
section
theorem xw(ha:QE X o ta)(hv:QE X value tv)(hs:swapsWith value (some (.Attribute o f pos')) pos.line X.env=pure false):QS X (.Assign [.Attribute o f pos'] value pos) (sFld X.K ta tv f):=⟨by
 intro pins s σ H D I h;refine plainObj_wpAny_Assign_Attribute (thn (hv.h pins s σ H _ I h) λu s1 ⟨y,H1,I1,ry,q⟩=>thn (ha.h pins s1 σ H1 _ I1 q) λov s2 ⟨x,H2,I2,rx,a,C,dx,fs,ex,ea,c,n,l,q2⟩=>?_) hs;subst ex;obtain rfl:ov=Value.ref a:=rx;exact Ve I2 ea c n l ry λs3 I3=>⟨σ,_,I3,q2⟩⟩
end
section
theorem qB(hN:X.N.Nodup)(hi:X.N[i]?=some x)(hx:Loc X.env.scope x)(he:QE X e te)(hs:swapsWith e (some (.Name x pos')) pos.line X.env=pure false:=by rfl)(hf:X.fn x=true\/X.env.scope.names.lookup x=some .local:=by first|exact .inl rfl|exact .inr rfl|assumption):QS X (.Assign [.Name x pos'] e pos) (tAsg te (qM i)):=⟨by
 intro pins s σ H D I h;refine wpAny_Assign_Name (thn (he.h pins s σ H _ I h) λv s1 ⟨y,H1,I1,r1,q1⟩=>?_) hs;exact xC I1 hN hi hx r1 (λs2 I2=>⟨_,H1,I2,q1⟩) hf⟩
end
section
theorem v5(he:QE X e te)(hg:QG X tg g)(hs:swapsWithSole [tg] e pos.line X.env=pure false:=by rfl)(hw:swappedStores [tg] e X.env=pure none:=by rfl)(h1:(assignEach [tg] X.env).map (·.2)=[assign tg X.env]:=by rfl):QS X (.Assign [tg] e pos) (tAsg te g):=⟨by
 intro pins s σ H D I h;refine wpAny_Assign_stores (thn (he.h pins s σ H _ I h) λv s1 ⟨x,H1,I1,r1,q1⟩=>?_) hs hw;rw[h1];exact thn (hg.h pins s1 σ H1 x v _ I1 r1 q1) λ_ s2 q=>q⟩
end
section
theorem qs_aug(hN:X.N.Nodup)(hi:X.N[i]?=some x)(hx:Loc X.env.scope x)(he:QE X e te)(ho:PIp X op ti)(hf:X.fn x=true\/X.env.scope.names.lookup x=some .local:=by first|exact .inl rfl|exact .inr rfl|assumption):QS X (.AugAssign (.Name x pos') op e pos) (tAug i te ti):=⟨by
 intro pins s σ H D I h;obtain⟨v,e1,h⟩:=h;obtain⟨m,hn,hl⟩:=I.loc;have vis:Vis X.env.scope x:=by rcases hx with k|k; exact .inl k; exact .inr (.inl k)
 obtain⟨u,r,l⟩:=hl i x v hi e1 vis;refine wpAny_AugAssign_Name ?_;have go:wpAny (model X.prog X.w) X.A (eval e X.env) (λw s₂=>wpAny (model X.prog X.w) X.A (inplaceOp op u w) (λr s₃=>wpAny (model X.prog X.w) X.A (storeName X.env x r) (λ_=>SP X pins D .next) X.xe s₃) X.xe s₂) X.xe s:=by
  refine thn (he.h pins s σ H _ I h) λw s1 ⟨y,H1,I1,r1,q1⟩=>?_;refine thn (ho pins s1 σ H1 v y u w _ I1 r r1 q1) λz s2 ⟨zv,H2,I2,r2,q2⟩=>?_;exact xC I2 hN hi hx r2 (λs3 I3=>⟨_,H2,I3,q2⟩) hf
 rcases l with⟨hk,hm⟩|⟨hk,c,hc,hcell⟩
 ·exact wpAny_loadName_local I.ok.kind hk hn hm go
 ·rcases hk with hk|hk
  ·exact wpAny_loadName_cell I.ok.kind hk hc hcell go
  ·rcases hx with k|k
   ·have:X.env.scope.names.lookup x=some .free:=hk
    rw[k] at this; cases this
   ·have:X.env.scope.names.lookup x=some .free:=hk
    rw[k] at this; cases this⟩
end
section
theorem qs_retN:QS X (.Return none pos) Zz:=⟨ps_retN ⟩
end
section
theorem qw(he:QE X e te):QS X (.Return (some e) pos) (tRet te):=⟨by
 intro pins s σ H D I h;exact wpAny_Return_some (thn (he.h pins s σ H _ I h) λv s1 ⟨x,H1,I1,r1,q1⟩=>⟨x,σ,H1,I1,r1,q1⟩)⟩
end
section
theorem v6(hc:QT X c tc)(ha:QSs X a t)(hb:QSs X b u):QS X (.If c a b pos) (tIfS tc t u):=⟨by
 intro pins s σ H D I h;refine wpAny_If (thn (hc.h pins s σ H _ I h) λd s1 ⟨H1,I1,q1⟩=>?_);cases d with
 |true=>exact ha.h pins s1 σ H1 D I1 q1
 |false=>exact hb.h pins s1 σ H1 D I1 q1⟩
end
section
theorem Qz(hp:PassesOwn (model X.prog X.w) X.A X.env X.xe)(hc:X.calm=true)(hi:QI X tg iter wi)(hg:QG X tg g)(hb:QSs X body tb)(hs:∀x,foldedSetIterable iter X.env x=pure x:=by intro _; rfl):QS X (.For tg iter body [] pos) (tFor wi g tb):=⟨ps_for hp hc hi.h hg.h hb.h hs⟩
end
section
theorem VY(hp:PassesOwn (model X.prog X.w) X.A X.env X.xe)(hc:QT X c tc)(hb:QSs X body tb):QS X (.While c body [] pos) (Kq tc tb):=⟨by
 intro pins s σ H D I h;obtain⟨W,⟨m0,w0⟩,turn⟩:=h;refine wpAny_While (codeAny_whileLoop (λn s'=>∃σ' H',Inv X pins σ' H' s'/\W n σ' H') ?_ m0 ⟨σ,H,I,w0⟩);rintro n s1 ⟨σ1,H1,I1,w1⟩;refine wpAny_passesOwn hp (thn (hc.h pins s1 σ1 H1 _ I1 (turn n σ1 H1 w1)) λb s2 ⟨H2,I2,q2⟩=>?_);cases b with
 |true =>
  obtain⟨N,hN,q2⟩:=q2;rw[if_pos rfl];refine wpAny_passesOwn hp (thn (hb.h pins s2 σ1 H2 _ I2 q2) λf s3 q3=>?_);cases f with
  |next =>
   obtain⟨σ3,H3,I3,n3⟩:=q3;obtain⟨m',hm,w3⟩:=hN σ3 H3 n3;exact⟨m',hm,σ3,H3,I3,w3⟩
  |cont =>
   obtain⟨σ3,H3,I3,n3⟩:=q3;obtain⟨m',hm,w3⟩:=hN σ3 H3 n3;exact⟨m',hm,σ3,H3,I3,w3⟩
  |brk=>exact q3
  |ret v=>exact q3
 |false =>
  rw[if_neg Ut];exact wpAny_execs_nil ⟨σ1,H2,I2,q2⟩⟩
end
section
theorem vg(he:QE X e te)(hs:swapsWith e none pos.line X.env=pure false:=by rfl):QS X (.Expr e pos) (ZC te):=⟨by
 intro pins s σ H D I h;exact wpAny_Expr_any (thn (he.h pins s σ H _ I h) λv s1 ⟨x,H1,I1,r1,q1⟩=>⟨σ,H1,I1,q1⟩) I.quiet hs⟩
end
section
theorem ZV(hg:Gl X "range")(hm:X.mg "range" = none)(ha:QA X [a] ta)(hs:starEach [a] X.env=[(false,eval a X.env)]:=by rfl):QI X tg (.Call (.Name "range" p) [a] [] pos) (G5 ta):=⟨by
 intro pins s σ H R I h;refine Call_ (Xl I hg hm boot_range (PyProof.Rows.callWith_type1 (thn (ha.h pos pins s σ H _ I h) λus s1 ⟨vs,H1,I1,r1,q1⟩=>?_) hs rfl));obtain⟨j,e,q1,q2,q⟩:=q1;subst e;cases r1 with
 |cons r rr =>
  cases rr;obtain⟨t,rfl⟩:=r;exact call_range_1 (range_it I1 (by lia) (by lia) q1 q2 (by simpa using q))⟩
end
section
theorem qi_revK(hK:X.K=Ξ)(hg:Gl X "reversed")(hm:X.mg "reversed" = none)(ha:QA X [a] ta)(hs:starEach [a] X.env=[(false,eval a X.env)]:=by rfl):QI X tg (.Call (.Name "reversed" p) [a] [] pos) (iRev Ξ ta):=⟨by
 subst hK;intro pins s σ H R I h;refine Call_ (Xl I hg hm boot_reversed (PyProof.Rows.callWith_type1 (thn (ha.h pos pins s σ H _ I h) λus s1 ⟨vs,H1,I1,r1,q1⟩=>?_) hs rfl));obtain⟨l,xs,e,hq,q⟩:=q1;subst e;cases r1 with
 |cons r rr =>
  cases rr;cases r;obtain⟨its,rv,pl,hz⟩:=I1.list hq;have hlen:=rv.length;refine call_reversed_list pl.isList (wpAny_pyIter_revIter ⟨_,Heap.get?_push_size _ rfl,rfl,rfl⟩ ?_);refine⟨s1.heap.objs.size, [s1.heap.objs.size],_,_,H1,rfl,I1.kept (t':=s1.toks) λb o e=>Heap.get?_push_of_some _ e,turn_rev l _ xs.length, ?_,λb hb=>?_,q⟩
  ·refine⟨_,Heap.get?_push_size _ rfl,rfl, ?_⟩
   rw[hlen];simp;rfl
  ·have e:b=s1.heap.objs.size:=by simpa using hb
   subst e;exact I1.fpOk (Uk _) (I1.hok.fresh (Uk _))⟩
end
section
theorem vO(h:X.K=Ξ)(hl:QE X l tl):QI X tg l (YJ Ξ tl):=⟨h▸pi_list hl.h⟩
end
section
theorem vD(hN:X.N.Nodup)(hi:X.N[i]?=some x)(hx:Loc X.env.scope x)(hf:X.fn x=true\/X.env.scope.names.lookup x=some .local:=by first|exact .inl rfl|exact .inr rfl|assumption):QG X (.Name x pos) (qM i):=⟨j7 hN hi hx hf⟩
end
section
theorem qg_t2K(h:X.K=Ξ)(hN:X.N.Nodup)(hc:X.calm=true)(hi:X.N[i]?=some x)(hj:X.N[j]?=some y)(lx:Loc X.env.scope x)(ly:Loc X.env.scope y)(fx:X.fn x=true\/X.env.scope.names.lookup x=some .local)(fy:X.fn y=true\/X.env.scope.names.lookup y=some .local):QG X (.Tuple [.Name x px, .Name y py] kk pos) (gTup Ξ 2 (vj (qM i) (vj (qM j) gNil))):=⟨h▸pg_t2 hN hc hi hj lx ly fx fy⟩
end
section
theorem qg_t3K(h:X.K=Ξ)(hN:X.N.Nodup)(hc:X.calm=true)(hi:X.N[i]?=some x)(hj:X.N[j]?=some y)(hk:X.N[k]?=some z)(lx:Loc X.env.scope x)(ly:Loc X.env.scope y)(lz:Loc X.env.scope z)(fx:X.fn x=true\/X.env.scope.names.lookup x=some .local)(fy:X.fn y=true\/X.env.scope.names.lookup y=some .local)(fz:X.fn z=true\/X.env.scope.names.lookup z=some .local):QG X (.Tuple [.Name x px, .Name y py, .Name z pz] kk pos) (gTup Ξ 3 (vj (qM i) (vj (qM j) (vj (qM k) gNil)))):=⟨h▸pg_t3 hN hc hi hj hk lx ly lz fx fy fz⟩
end
section
theorem qg_tup(hc:X.calm=true)(h:QGs X es t)(hn:(assignEach es X.env).length=n:=by rfl)(hst:(assignEach es X.env).findIdx? (·.1)=none:=by rfl):QG X (.Tuple es k pos) (gTup X.K n t):=⟨W3 hc h.h hn hst⟩
end
section
theorem qgs_nil:QGs X [] gNil:=⟨Jx ⟩
end
section
theorem kO(h1:QG X e t)(h2:QGs X es u)(hs:(assignEach (e::es) X.env).map (·.2)=assign e X.env::(assignEach es X.env).map (·.2):=by rfl):QGs X (e::es) (vj t u):=⟨xE h1.h h2.h hs⟩
end
section
theorem zd(ho:QE X o to)(hi:QE X i ti)(hs:PSet X t)(ha:∀v,assign (.Subscript o i pos) X.env v=(do
   let ov <-holding [v] (eval o X.env);let iv <-holding [v,ov] (eval i X.env)
   standAt pos
   holding [v,ov,iv] (setItem ov iv v)
   release [v,ov,iv] []):=by intro _; rfl):QG X (.Subscript o i pos) (gSub to ti t):=⟨by
 intro pins s σ H v u Q I r h;rw[ha];refine wpAny_bind (wpAny_holding (thn (ho.h pins s σ H _ I h) λov s1 ⟨x,H1,I1,r1,q1⟩=>?_));refine wpAny_bind (wpAny_holding (thn (hi.h pins s1 σ H1 _ I1 q1) λiv s2 ⟨y,H2,I2,r2,q2⟩=>?_));refine wpAny_bind (wpAny_standAt (wpAny_bind (wpAny_holding (thn (hs pins s2 σ H2 x y v ov iv u _ I2 r1 r2 r q2) λ_ s3 ⟨H3,I3,q3⟩=>?_))));exact wpAny_release ⟨σ,H3,I3,q3⟩⟩
end
section
theorem VX:QTs X [] tYes:=⟨pts_nil ⟩
end
section
theorem Qy(h:QT X c t):QTs X [c] t:=⟨λpins s σ H Q I q=>wpAny_tests_one (h.h pins s σ H Q I q)⟩
end
section
theorem qa_c(ha:QE X e te)(hr:QA X es t)(h:Gx e=true:=by rfl):QA X (e::es) (xh te t):=⟨pa_cons ha.h hr.h (Wh h)⟩
end
section
theorem qd:QA X [] tNil:=⟨pa_nil ⟩
end
section
theorem qF(ho:OpR X (compareOp op) r)(ha:QE X a ta)(hb:QE X b tb)(hm:behindInMarks op b=false):QT X (.Compare a [op] [b] pos) (Vw (tOp r ta tb)):=⟨by
 intro pins s σ H Q I h;refine wpAny_isTrue_Compare1 (thn (ha.h pins s σ H _ I h) λv s1 ⟨x,H1,I1,r1,q1⟩=>thn (hb.h pins s1 σ H1 _ I1 q1) λu s2 ⟨y,H2,I2,r2,q2⟩ =>
  thn (ho pins s2 σ H2 x y v u _ I2 r1 r2 q2) λc s3 ⟨z,H3,I3,r3,k,e,q3⟩=>?_) hm
 subst e;cases r3;exact wpAny_truthy_bool ⟨H3,I3,q3⟩⟩
end
section
theorem Q9(h:QW X e t):QT X e t:=⟨PW.pt h.h⟩
end
section
theorem ZR{rest:List Expr}(ha:QT X a tA)(hb:QW X (.BoolOp .And (b::rest) pos) tB'):QW X (.BoolOp .And (a::b::rest) pos) (tAnd tA tB'):=⟨by
 intro wh pins s σ H Q I h;refine isTrue_and (thn (ha.h pins s σ H _ I h) λc s1 ⟨H1,I1,q1⟩=>?_);cases c with
 |true=>exact hb.h wh pins s1 σ H1 Q I1 q1
 |false=>exact⟨H1,I1,q1⟩⟩
end
section
theorem Qx(ha:QT X a tA):QW X (.BoolOp .And [a] pos) tA:=⟨by
 intro wh pins s σ H Q I h;refine isTrue_and (thn (ha.h pins s σ H Q I h) λc s1 e=>?_);cases c with
 |true=>exact isTrue_and_nil e
 |false=>exact e⟩
end
section
theorem WJ{rest:List Expr}(ha:QT X a tA)(hb:QW X (.BoolOp .Or (b::rest) pos) tB'):QW X (.BoolOp .Or (a::b::rest) pos) (tOr tA tB'):=⟨by
 intro wh pins s σ H Q I h;refine isTrue_or (thn (ha.h pins s σ H _ I h) λc s1 ⟨H1,I1,q1⟩=>?_);cases c with
 |true=>exact⟨H1,I1,q1⟩
 |false=>exact hb.h wh pins s1 σ H1 Q I1 q1⟩
end
section
theorem ZQ(ha:QT X a tA):QW X (.BoolOp .Or [a] pos) tA:=⟨by
 intro wh pins s σ H Q I h;refine isTrue_or (thn (ha.h pins s σ H Q I h) λc s1 e=>?_);cases c with
 |false=>exact isTrue_or_nil e
 |true=>exact e⟩
end
section
theorem jz(ha:QT X a tA):QT X (.UnaryOp .Not a pos) (tNot tA):=⟨by
 intro pins s σ H Q I h;exact isTrue_not (ha.h pins s σ H (λc H1=>Q (!c) H1) I h)⟩
end
section
theorem zc(h:QE X e t)(he:∀whole,isTrue e X.env whole=(do let v <-whole; standAt e.pos; holding [v] (truthy v)):=by intro _; rfl):QT X e (tB t):=⟨by
 intro pins s σ H Q I hw;refine isTrue_plain (thn (h.h pins s σ H _ I hw) λv s1 ⟨x,H1,I1,r1,q1⟩=>?_) (he _);obtain⟨d,rfl,q⟩:=q1;cases r1;exact wpAny_truthy_bool ⟨H1,I1,q⟩⟩
end
section
theorem ZU(h:X.K=Ξ)(ha:QE X a ta)(he:∀whole,isTrue a X.env whole=(do let v <-whole; standAt a.pos; holding [v] (truthy v))):QT X a (tTru Ξ ta):=⟨h▸pt_truth ha.h he⟩
end
section
theorem xS:QE X (.Constant .none j pos) (tC .non):=⟨pe_non ⟩
end
section
theorem ZY:QE X (.Constant (.bool b) j pos) (tC (.bl b)):=⟨pe_bl ⟩
end
section
theorem qe:QE X (.Constant (.int i) j pos) (tC (.int i)):=⟨pe_int ⟩
end
section
theorem qK:QE X (.Constant (.str x) j pos) (tC (.str x)):=⟨pe_str ⟩
end
section
theorem qv(i:Nat)(hN:X.N[i]?=some x:=by rfl)(hv:Vis X.env.scope x:=by first|exact Or.inl rfl|exact Or.inr (Or.inl rfl)|exact Or.inr (Or.inr rfl))(hd:(x==("__debug__" : Str))=false:=by decide)(hcd:(x==("__classdict__" : Str))=false:=by decide):QE X (.Name x pos) (tVar i):=⟨pv i hN hv hd hcd⟩
end
section
theorem qe_un(ho:UnR X (unaryOp op) r)(ha:QE X a ta):QE X (.UnaryOp op a pos) (tUn r ta):=⟨pe_un ho ha.h⟩
end
section
theorem qq(ho:OpR X (binaryOp op) r)(ha:QE X a ta)(hb:QE X b tb):QE X (.BinOp a op b pos) (tOp r ta tb):=⟨by
 intro pins s σ H Q I h;exact wpAny_BinOp (binT ha.h hb.h I h λv u s2 x y H2 I2 rx ry q=>ho pins s2 σ H2 x y v u Q I2 rx ry q)⟩
end
section
theorem zz(ho:OpR X (compareOp op) r)(ha:QE X a ta)(hb:QE X b tb)(hm:behindInMarks op b=false):QE X (.Compare a [op] [b] pos) (tOp r ta tb):=⟨by
 intro pins s σ H Q I h;exact wpAny_Compare1 (binT ha.h hb.h I h λv u s2 x y H2 I2 rx ry q=>ho pins s2 σ H2 x y v u Q I2 rx ry q) hm⟩
end
section
theorem qe_chain(ho:OpR X (compareOp op) r)(ho':OpR X (compareOp op') r')(ha:QE X a ta)(hb:QE X b tb)(hc:QE X c tc)(hm:lastMarks [op,op'] [b,c]=false:=by with_unfolding_all rfl):QE X (.Compare a [op,op'] [b,c] pos) (kr r r' ta tb tc):=⟨by
 intro pins s σ H Q I h;refine Compare_chain (thn (ha.h pins s σ H _ I h) λv s1 ⟨x,H1,I1,r1,q1⟩=>chain_link (thn (hb.h pins s1 σ H1 _ I1 q1) λu s2 ⟨y,H2,I2,r2,q2⟩ =>
  thn (ho pins s2 σ H2 x y v u _ I2 r1 r2 q2) λd s3 ⟨z,H3,I3,r3,k,e,q3⟩=>?_)) hm
 subst e;cases r3;refine wpAny_truthy_bool ?_;cases k with
 |false=>exact ite_ff ⟨.bl false,H3,I3,rfl,q3⟩
 |true=>exact ite_tt (chain_last (thn (hc.h pins s3 σ H3 _ I3 q3) λw' s4 ⟨z',H4,I4,r4,q4⟩=>ho' pins s4 σ H4 y z' u w' Q I4 r2 r4 q4))⟩
end
section
theorem WM(h:QE X a t):QE X (.BoolOp op [a] pos) t:=⟨λpins s σ H Q I hw=>BoolOp_one (h.h pins s σ H Q I hw)⟩
end
section
theorem Kw{rest:List Expr}(ha:QE X a ta)(hb:QE X (.BoolOp .And (b::rest) pos) tb):QE X (.BoolOp .And (a::b::rest) pos) (ZD ta tb):=⟨by
 intro pins s σ H Q I h;refine BoolOp_and (thn (ha.h pins s σ H _ I h) λv s1 ⟨x,H1,I1,r1,q1⟩=>?_);obtain⟨c,rfl,q1⟩:=q1;cases r1;refine wpAny_truthy_bool ?_;cases c with
 |true=>exact hb.h pins s1 σ H1 Q I1 q1
 |false=>exact⟨.bl false,H1,I1,rfl,q1⟩⟩
end
section
theorem zr(hc:QT X c tA)(ha:QE X a ta)(hb:QE X b tb):QE X (.IfExp c a b pos) (tIf tA ta tb):=⟨by
 intro pins s σ H Q I h;refine wpAny_IfExp (thn (hc.h pins s σ H _ I h) λd s1 ⟨H1,I1,q1⟩=>?_);cases d with
 |true=>exact ha.h pins s1 σ H1 Q I1 q1
 |false=>exact hb.h pins s1 σ H1 Q I1 q1⟩
end
section
theorem qN(h:QA X es t):QE X (.List es pos) (tLst t):=⟨by
 intro pins s σ H Q I hq;refine wpAny_List_spliced (thn (h.h pos pins s σ H _ I hq) λus s1 ⟨xs,H1,I1,r,z,q⟩=>⟨by rw[<-r.length]; exact z, ?_⟩);have hf:H1 s1.heap.objs.size=none:=I1.hok.fresh (Uk _);refine⟨.ref s1.heap.objs.size,upd H1 s1.heap.objs.size (.lst xs),I1.laid (t':=s1.toks) (λb u e=>Heap.get?_push_of_some _ e) (Uk _) ?_,rfl,q _ hf⟩;exact⟨z,us,0,r,Heap.get?_push_size _ rfl⟩⟩
end
section
theorem vc(h:QA X es t):QE X (.Tuple es x1 pos) (tTup t):=⟨by
 intro pins s σ H Q I hq;refine wpAny_Tuple_spliced (thn (h.h pos pins s σ H _ I hq) λus s1 ⟨xs,H1,I1,r,z,q⟩=>⟨by rw[<-r.length]; exact z, ?_⟩);have hf:H1 s1.heap.objs.size=none:=I1.hok.fresh (Uk _);refine⟨.ref s1.heap.objs.size,upd H1 s1.heap.objs.size (.tup xs),I1.laid (t':=s1.toks) (λb u e=>Heap.get?_push_of_some _ e) (Uk _) ?_,rfl,q _ hf⟩;exact⟨z,us,r,⟨_,Heap.get?_push_size _ rfl,rfl,_,rfl⟩⟩⟩
end
section
theorem qe_rev(hK:X.K=Ξ)(he:QE X e te):QE X (.Subscript e (.Slice none none (some (.UnaryOp .USub (.Constant (.int 1) j p1) p3)) p2) pos) (tRev Ξ te):=⟨by
 subst hK;intro pins s σ H Q I h;refine Subscript_ (thn (he.h pins s σ H _ I h) λv s1 ⟨x,H1,I1,r1,q1⟩=>?_);refine wpAny_Slice ?_;rw[evalPart_none];refine wpAny_pure ?_;refine wpAny_pure ?_;refine thn ((WV (pe_un YX pe_int)) pins s1 σ H1 (λo H2=>o=some (-1)/\H2=H1) I1 ?_) λu s2 ⟨o,H2,I2,pu,q2⟩=>?_
 ·exact⟨_,rfl,_,rfl,rfl,rfl⟩
 obtain⟨rfl,rfl⟩:=q2;obtain⟨a,xs,rfl,hx,q⟩:=q1;cases r1;have I4:Inv X pins σ H2 { s2 with heap:=s2.heap.push { cls:=.type "slice", data:=.fields #[.none, .none,u] } }:=I2.kept (t':=s2.toks) λb ob q=>Heap.get?_push_of_some _ q;obtain⟨its,r,ht,hz⟩:=I4.list hx;show wpAny (model X.prog X.w) X.A (subscriptTail e (.Slice none none (some (.UnaryOp .USub (.Constant (.int 1) j p1) p3)) p2) (.ref a) (.ref s2.heap.objs.size)) (EP X pins σ Q) X.xe { s2 with heap:=s2.heap.push { cls:=.type "slice", data:=.fields #[.none, .none,u] } };refine tail_any (ops:=[.ref a, .ref s2.heap.objs.size]) ht.isList.typeIs slot_list_getitem.lookup (wpAny_getItem_list_slice (st:=some (-1)) ht.isList (Heap.IsSliceOf.new ..) .none .none pu (by decide) ?_ (by rw[Up, <-r.length]; exact hz)) (by with_unfolding_all rfl);have hpk:slicePick its.toArray none none (some (-1))=((JH xs.length).filterMap λi=>its[i]?).toArray:=by
  unfold slicePick JH;rw[Up, <-r.length];simp
 rw[hpk];exact⟨.ref _,_,I4.laid (t':=s2.toks) (o:=.lst (WZ xs)) (λb ob q=>Heap.get?_push_of_some _ q) (Uk _) ⟨UL (WY xs) hz,_,0,QJ r _,Heap.get?_push_size _ rfl⟩,rfl,q _ (I4.hok.fresh (Uk _))⟩⟩
end
section
theorem vS{hi lo:Option Expr}(hr:SlR X r)(he:QE X e te)(hl:QO X lo tl)(hu:QO X hi th):QE X (.Subscript e (.Slice lo hi none p2) pos) (tSl r te tl th):=⟨by
 intro pins s σ H Q I h;refine Subscript_ (thn (he.h pins s σ H _ I h) λv s1 ⟨x,H1,I1,r1,q1⟩=>?_);refine wpAny_Slice (thn (hl.h pins s1 σ H1 _ I1 q1) λvl s2 ⟨l,H2,I2,pl,q2⟩=>thn (hu.h pins s2 σ H2 _ I2 q2) λvu s3 ⟨u,H3,I3,pu,q3⟩=>?_);rw[evalPart_none];refine wpAny_pure ?_;have I4:Inv X pins σ H3 { s3 with heap:=s3.heap.push { cls:=.type "slice", data:=.fields #[vl,vu, .none] } }:=I3.kept (t':=s3.toks) λb ob q=>Heap.get?_push_of_some _ q;obtain⟨T,id,hT,ht,hg⟩:=hr pins { s3 with heap:=s3.heap.push { cls:=.type "slice", data:=.fields #[vl,vu, .none] } } σ H3 x v vl vu l u s3.heap.objs.size Q I4 r1 (Heap.IsSliceOf.new ..) pl pu q3;show wpAny (model X.prog X.w) X.A (subscriptTail e (.Slice lo hi none p2) v (.ref s3.heap.objs.size)) (EP X pins σ Q) X.xe { s3 with heap:=s3.heap.push { cls:=.type "slice", data:=.fields #[vl,vu, .none] } };exact tail_any (ops:=[.ref s3.heap.objs.size,v]) ht hT hg (by with_unfolding_all rfl)⟩
end
section
theorem vN(h:QE X e te):QO X (some e) (ZB te):=⟨WV h.h⟩
end
section
theorem j5:QO X none xg:=⟨po_none ⟩
end
section
theorem qA(hr:IxR X r)(ha:QE X a ta)(hb:QE X b tb)(hs:Ka b):QE X (.Subscript a b pos) (tOp r ta tb):=⟨by
 intro pins s σ H Q I h;exact Subscript_ (binT ha.h hb.h I h λv u s2 x y H2 I2 rx ry q=>hr a b pins s2 σ H2 x y v u Q I2 rx ry q (hs _ _))⟩
end
section
theorem Ju(hu:X.A.units+1<cLine)(ho:QE X o td)(hi:QE X i ty)(hs:NoSl i):QE X (.Subscript o i pos) (Wf td ty):=⟨by
 intro pins s σ H Q I h;refine Wg PySem.F.slot_dict_getitem.lookup hs (thn (ho.h pins s σ H _ I h) λu s1 ⟨x,H1,I1,rx,q1⟩=>thn (hi.h pins s1 σ H1 _ I1 q1) λiv s2 ⟨y,H2,I2,ry,a,v,ex,g,q2⟩=>?_);subst ex;obtain rfl:u=Value.ref a:=rx;exact⟨JS I2 g,qat hu I2 g ry λw' s3 I3 rw'=>⟨v,H2,I3,rw',q2⟩⟩⟩
end
section
theorem qG(he:QE X e ta)(hb:attributeBase e f X.env (eval e X.env)=eval e X.env):QE X (.Attribute e f pos) (tFld X.K ta f):=⟨by
 intro pins s σ H Q I h;refine attr_of hb (thn (he.h pins s σ H _ I h) λu s1 ⟨x,H1,I1,rx,a,C,dx,fs,v,ex,ea,c,n,l,q⟩=>?_);subst ex;obtain rfl:u=Value.ref a:=rx;exact Vl I1 ea c n l λu' s2 I2 ru=>⟨v,H1,I2,ru,q⟩⟩
end
section
theorem ZW(bs:List Bool)(ext:List Str)(hi:QI X tg iter wi)(hg:∀fp s H,QG (cxB X scope ext fp s H) tg g)(ht:∀fp s H,QTs (cxB X scope ext fp s H) ifs tt)(he:∀fp s H,QE (cxB X scope ext fp s H) elt te)(hk:km scope X.env X.N bs=true:=by rfl)(hc:X.calm=true:=by rfl)(hs:∀x,foldedSetIterable iter X.env x=pure x:=by intro _; rfl):QE X (.ListComp elt [⟨tg,iter,ifs,0⟩] scope pos) (xY wi bs ext.length g tt te):=⟨pe_lc bs ext hi.h (λfp s H=>(hg fp s H).h) (λfp s H=>(ht fp s H).h) (λfp s H=>(he fp s H).h) hk hc hs⟩
end
section
theorem qe_disp(h:QPs X pos keys values trs)(hall:keys.all (·.isSome)=true)(hl:keys.length=values.length)(h0:keys≠[])(h15:keys.length<=15):QE X (.Dict keys values pos) (tDisp trs):=⟨by
 intro pins s σ H Q I q;have hn:=I.hok.fresh (Uk s.heap.objs.size);have I1:=I.laid (a:=s.heap.objs.size) (o:=.dK []) (h':=s.heap.push { cls:=.type "dict", data:=.dict #[] }) (t':=s.toks) (λ_ _ q=>Heap.get?_push_of_some _ q) (Uk _) (K3 s.heap I.big);refine wpAny_Dict_walk (knd:=vm X.prog X.w) hall hl h0 h15 (thn (h.h pins _ σ _ _ I1 (q _ hn)) λws s2 ⟨ps,H2,I2,rel,e,kvs,ep,lk,q2⟩=>?_);subst ep;obtain⟨rs,c,rk⟩:=Vs (P:=X.prog) (w:=X.w) rel;obtain⟨z,hd,vs0,r0,dd⟩:=dk_of I2.hok e;cases r0;refine⟨rs,c,dd,λh' dd' hs=>⟨.ref s.heap.objs.size,_, ?_,rfl,q2⟩⟩;have hz:(QM [] kvs).length<=sizeLine:=by
  have h1:=jC kvs [];rw[UP] at h1;rw[sizeLine_eq]; lia
 have he:∃q,h'.get? s.heap.objs.size=some q:=let⟨q,_,_,hq,_⟩:=dd'; ⟨q,hq⟩;exact JT I2 (by rw[e]; exact True.intro) hs he (dk_new hz hd (rk.merge .nil) dd')⟩
end
section
theorem qps_nil:QPs X pos [] [] []:=⟨pps_nil ⟩
end
section
theorem jA(hk:QE X k tk)(hv:QE X v tv)(hr:QPs X pos ks vs trs):QPs X pos (some k::ks) (v::vs) ((tk,tv)::trs):=⟨λpins s σ H Q I h =>
 pairTrees_cons_walk (thn (hk.h pins s σ H _ I h) λu s1 ⟨x,H1,I1,rx,q1⟩=>thn (hv.h pins s1 σ H1 _ I1 q1) λw2 s2 ⟨y,H2,I2,ry,q2⟩ =>
  thn (hr.h pins s2 σ H2 _ I2 q2) λws s3 ⟨ps,H3,I3,rel,q3⟩=>⟨(x,y)::ps,H3,I3, .cons ⟨rx,ry⟩ rel,q3⟩)⟩
end
section
theorem qk(D:Def X.prog X.w X.K X.mg X.base x k ps sp)(hr:Room k X.A)(ha:QA X (e::es) t)(hg:Gl X x:=by rfl)(hdb:(x==("__debug__" : Str))=false:=by decide)(he:starEach (e::es) X.env=(false,eval e X.env)::starEach es X.env:=by rfl)(hpl:(backTo pos (starEach es X.env)).any (·.1)=false:=by rfl):QE X (.Call (.Name x p) (e::es) [] pos) (xi sp [] E0 t):=⟨by
 obtain⟨f,fd,h1,h2,h3,h4⟩:=D.ex;exact pe_call h4 hr hg h1 h2 h3 .nil pass0 ha.h hdb he hpl⟩
end
section
theorem vb{id:String}(hc:jv X (.builtin id) r)(hg:Gl X x)(hm:X.mg x=none)(hv:bootBuiltins x=some (.builtin id))(ha:QA X (e::es) t)(hn:x ≠ "__name__" := by decide)(hdb:(x==("__debug__" : Str))=false:=by decide)(he:starEach (e::es) X.env=(false,eval e X.env)::starEach es X.env:=by rfl)(hpl:(backTo pos (starEach es X.env)).any (·.1)=false:=by rfl):QE X (.Call (.Name x p) (e::es) [] pos) (tCB r t):=⟨by
 intro pins s σ H Q I h;refine wpAny_Call_Name_kw (Xl I hg hm hv ?_ hn hdb);exact PyProof.Rows.callWith_builtin1 (thn (ha.h pos pins s σ H _ I h) λus s1 ⟨vs,H1,I1,r1,q1⟩=>hc pins s1 σ H1 vs us Q I1 r1 q1) he hpl⟩
end
section
theorem vp{T:String}(hc:jv X (.type T) r)(hg:Gl X x)(hm:X.mg x=none)(hv:bootBuiltins x=some (.type T))(ha:QA X (e::es) t)(hn:x ≠ "__name__" := by decide)(hdb:(x==("__debug__" : Str))=false:=by decide)(he:starEach (e::es) X.env=(false,eval e X.env)::starEach es X.env:=by rfl)(hpl:(backTo pos (starEach es X.env)).any (·.1)=false:=by rfl):QE X (.Call (.Name x p) (e::es) [] pos) (tCB r t):=⟨by
 intro pins s σ H Q I h;refine wpAny_Call_Name_kw (Xl I hg hm hv ?_ hn hdb);exact PyProof.Rows.callWith_type1 (thn (ha.h pos pins s σ H _ I h) λus s1 ⟨vs,H1,I1,r1,q1⟩=>hc pins s1 σ H1 vs us Q I1 r1 q1) he hpl⟩
end
section
theorem WO(hg:Gl X x)(hm:X.mg x=none)(hv:bootBuiltins x=some u)(r:RelV v u)(hn:x ≠ "__name__" := by decide)(hd:(x==("__debug__" : Str))=false:=by decide):QE X (.Name x pos) (tC v):=⟨
 λ_ _ _ H _ I h=>Xl I hg hm hv ⟨v,H,I,r,h⟩ hn hd⟩
end
section
theorem qe_bm{T id:String}(pa:PlainAttrs T)(slot:Slot T name id)(hty:typeOf (.builtin id)=pure (.type "method_descriptor"))(hm:MtR X id r)(ho:QE X o to)(ha:QA X (e::es) t)(hbase:attributeBase o name X.env (eval o X.env)=eval o X.env:=by rfl)(hfew:((backTo cpos (starEach (e::es) X.env)).all (λx => !x.1)&&(backToKw cpos (keywordEach [] X.env)).all (λx=>x.1.isSome)
   && decide ((e::es).length+([]:List Keyword).length+(if([]:List Keyword).isEmpty then 0 else 1)<30))=true:=by rfl)(hline:(apos.endLine==cpos.line)=true:=by rfl)(hs:starEach (e::es) X.env=(false,eval e X.env)::starEach es X.env:=by rfl)(hplain:(backTo cpos (starEach es X.env)).any (·.1)=false:=by rfl):QE X (.Call (.Attribute o name apos) (e::es) [] cpos) (tBM X.K T r to t):=⟨by
 intro pins s σ H Q I h;refine wpAny_Call_method_late hbase hfew hline rfl (thn (ho.h pins s σ H _ I h) λv s1 ⟨x,H1,I1,r1,ty,q1⟩=>?_);obtain⟨h1,h2⟩:=Kk I1 r1 ty;refine⟨T,id,pa,slot,hty,h1,h2, ?_⟩;have hA:=ha.h cpos pins s1 σ H1 _ I1 q1;rw[hs] at hA ⊢;refine Calls.callWith_builtin (by show(false||(backTo cpos (starEach es X.env)).any (·.1))=false; rw[hplain]<;>rfl) (Calls.evalArgs_plain ?_);exact thn hA λus s2 ⟨vs,H2,I2,r2,q2⟩=>hm pins s2 σ H2 x vs v us Q I2 r1 r2 q2⟩
end
section
theorem QD{T id:String}(pa:PlainAttrs T)(slot:Slot T name id)(hty:typeOf (.builtin id)=pure (.type "method_descriptor"))(hm:MtR X id r)(ho:QE X o to)(hbase:attributeBase o name X.env (eval o X.env)=eval o X.env:=by rfl)(hline:(apos.endLine==cpos.line)=true:=by rfl):QE X (.Call (.Attribute o name apos) [] [] cpos) (tBM0 X.K T r to):=⟨by
 intro pins s σ H Q I h;refine wpAny_Call_method0_late hbase hline (thn (ho.h pins s σ H _ I h) λv s1 ⟨x,H1,I1,r1,ty,q1⟩=>?_);obtain⟨h1,h2⟩:=Kk I1 r1 ty;exact⟨T,id,pa,slot,hty,h1,h2,Calls.callWith_builtin rfl (PySem.evalArgs_none (hm pins s1 σ H1 x [] v [] Q I1 r1 .nil q1))⟩⟩
end
section
theorem j6{id:String}(slot:Slot "list" name id)(hty:typeOf (.builtin id)=pure (.type "method_descriptor"))(hm:MtR X id r)(ho:QE X o to)(ha:QA X (e::es) t)(hbase:attributeBase o name X.env (eval o X.env)=eval o X.env:=by rfl)(hfew:((backTo cpos (starEach (e::es) X.env)).all (λx => !x.1)&&(backToKw cpos (keywordEach [] X.env)).all (λx=>x.1.isSome)
   && decide ((e::es).length+([]:List Keyword).length+(if([]:List Keyword).isEmpty then 0 else 1)<30))=true:=by rfl)(hline:(apos.endLine==cpos.line)=true:=by rfl)(hs:starEach (e::es) X.env=(false,eval e X.env)::starEach es X.env:=by rfl)(hplain:(backTo cpos (starEach es X.env)).any (·.1)=false:=by rfl):QE X (.Call (.Attribute o name apos) (e::es) [] cpos) (tLM r to t):=⟨by
 intro pins s σ H Q I h;refine wpAny_Call_method_late hbase hfew hline rfl (thn (ho.h pins s σ H _ I h) λv s1 ⟨x,H1,I1,r1,p,xs,ex,hp,q1⟩=>?_);subst ex;obtain⟨h1,h2⟩:=Kk (T := "list") I1 r1 (.inl ⟨rfl,xs,SqL.of hp⟩);refine⟨"list", id,PySem.F.plainAttrs_list,slot,hty,h1,h2, ?_⟩;have hA:=ha.h cpos pins s1 σ H1 _ I1 q1;rw[hs] at hA ⊢;refine Calls.callWith_builtin (by show(false||(backTo cpos (starEach es X.env)).any (·.1))=false; rw[hplain]<;>rfl) (Calls.evalArgs_plain ?_);exact thn hA λus s2 ⟨vs,H2,I2,r2,q2⟩=>hm pins s2 σ H2 (.ref p) vs v us Q I2 r1 r2 q2⟩
end
section
theorem qQ(D:MDef X.prog X.w X.K X.mg X.base C m k ps sp)(c:Cls X.K C)(he:QE X o ta)(hr:Room k X.A)(ha:QA X (e::es) t)(hst:starEach (e::es) X.env=(false,eval e X.env)::starEach es X.env:=by rfl)(hpl:(backTo pos (starEach es X.env)).any (·.1)=false:=by rfl)(ht:eval (.Call (.Attribute o m apos) (e::es) [] pos) X.env=(do
   let ov <-eval o X.env
   standAt apos.atName;let(f,first) <-holding [ov] (getMethod ov m pl)
   callWith pos f first (backTo pos (starEach (e::es) X.env)) (backToKw pos (keywordEach [] X.env))):=by rfl):QE X (.Call (.Attribute o m apos) (e::es) [] pos) (XZ C m sp [] E0 ta t):=⟨by
 obtain⟨f,fd,h1,h2,h3⟩:=D.ex;exact pe_meth he.h c h1 h3 hr h2 .nil pass0 ha.h hst hpl ht⟩
end
section
theorem zK(G:GInt X.mg x n)(hg:Gl X x)(hd:(x==("__debug__" : Str))=false:=by decide):QE X (.Name x pos) (tC (.int n)):=⟨by
 obtain⟨t,e⟩:=G.ex;exact W5 hg e ⟨t,rfl⟩ hd⟩
end
section
theorem qt_din(hu:X.A.units+1<cLine)(hi:QE X i ty)(ho:QE X o td)(h1:behindInMarks .In o=false:=by with_unfolding_all rfl):QT X (.Compare i [.In] [o] pos) (tB (tDIn ty td)):=⟨pt_cmp (pc_din hu hi.h ho.h) h1⟩
theorem WK(hu:X.A.units+1<cLine)(hi:QE X i ty)(ho:QE X o td)(h1:behindInMarks .NotIn o=false:=by with_unfolding_all rfl):QT X (.Compare i [.NotIn] [o] pos) (tB (Vy ty td)):=⟨pt_cmp (W7 hu hi.h ho.h) h1⟩
theorem WL(hu:X.A.units+1<cLine)(ho:QE X o td)(hi:QE X i ty)(hv:QE X value tv)(hs:swapsWith value (some (.Subscript o i pos')) pos.line X.env=pure false:=by rfl):QS X (.Assign [.Subscript o i pos'] value pos) (sDPut td ty tv):=⟨by
 intro pins s σ H D I h;refine wpAny_Assign_Subscript (thn (hv.h pins s σ H _ I h) λr s1 ⟨v,H1,I1,rv,q1⟩=>thn (ho.h pins s1 σ H1 _ I1 q1) λu s2 ⟨x,H2,I2,rx,q2⟩=>thn (hi.h pins s2 σ H2 _ I2 q2) λiv s3 ⟨y,H3,I3,ry,a,H4,ex,g,q3⟩=>?_) hs;subst ex;obtain rfl:u=Value.ref a:=rx;exact qas hu I3 g ry rv λs4 I4=>⟨σ,H4,I4,q3⟩⟩
theorem WN:QE X (.Dict [] [] pos) Ks:=⟨λpins s σ H Q I h =>
 wpAny_Dict_empty ⟨.ref s.heap.objs.size,_,I.laid (a:=s.heap.objs.size) (o:=.dK []) (t':=s.toks) (λ_ _ q=>Heap.get?_push_of_some _ q) (Uk _) (K3 s.heap I.big),rfl,h _ (I.hok.fresh (Uk _))⟩⟩
theorem Jt(hg:Gl X x)(hm:X.mg x=some u)(r:RelV v u)(hd:(x==("__debug__" : Str))=false:=by decide):QE X (.Name x pos) (tC v):=⟨W5 hg hm r hd⟩
end
structure MkDef(P:Program)(w:World)(Ξ:PySem.W.Frag)(mg:Str->Option Value)(base:Heap)(C:Addr)(x:Str)(k:Nat)(ps:List Str)(sp:Sp):Prop where
 ex:∃(f:Addr)(fd:FuncData),Mk Ξ C f/\mg x=some (.ref C)/\Binds Ξ fd ps []/\FnOk P w Ξ mg base CX0 k f fd ps sp
section
theorem qe_mk(D:MkDef X.prog X.w X.K X.mg X.base C x k ps sp)(hr:Room (k+1) X.A)(hg:Gl X x)(ha:QA X (e::es) t)(hdb:(x==("__debug__" : Str))=false:=by decide)(he:starEach (e::es) X.env=(false,eval e X.env)::starEach es X.env:=by rfl)(hpl:(backTo pos (starEach es X.env)).any (·.1)=false:=by rfl):QE X (.Call (.Name x p) (e::es) [] pos) (tMake C sp [] E0 t):=by
 obtain⟨f,fd,h1,h2,h3,h4⟩:=D.ex;exact⟨pe_make h1 h4 hr hg h2 h3 .nil pass0 ha.h hdb he hpl⟩
theorem qs_par(hc:X.calm=true)(hN:X.N.Nodup)(hi:X.N[i]?=some x)(hj:X.N[j]?=some y)(hij:i≠j)(hx:X.env.scope.names.lookup x=some .local)(hy:X.env.scope.names.lookup y=some .local)(ha:QA X [a,b] ta)(hw:swappedStores [.Tuple [.Name x px, .Name y py] kt pt] (.Tuple [a,b] k2 pt2) X.env=pure (some [x,y]))(hs:swapsWithSole [.Tuple [.Name x px, .Name y py] kt pt] (.Tuple [a,b] k2 pt2) pos.line X.env=pure false:=by rfl) :
  QS X (.Assign [.Tuple [.Name x px, .Name y py] kt pt] (.Tuple [a,b] k2 pt2) pos) (tPar i j ta):=⟨by
 intro pins s σ H D I h;rw[exec_Assign_arm];refine wpAny_bind (wpAny_standAt ?_);rw[hs];refine wpAny_bind (wpAny_pure ?_);rw[if_neg (by decide)];refine wpAny_bind (Tuple_ (thn (ha.h _ pins s σ H _ I h) λus s1 ⟨vs,H1,I1,r1,q1⟩=>?_));obtain⟨v,w,e1,q1⟩:=q1;subst e1;obtain⟨u1,u2,rfl,rv,rw'⟩:∃u1 u2,us=[u1,u2]/\RelV v u1/\RelV w u2:=by
  cases r1 with
  |cons p q =>
   cases q with
   |cons p' q' =>
    cases q';exact⟨_,_,rfl,p,p'⟩
 refine wpAny_newObj_type ?_ (by show 2<=sizeLine; decide);have I2:Inv X pins σ H1 { s1 with heap:=s1.heap.push { cls:=.type "tuple", data:=.seq [u1,u2].toArray } }:=I1.kept (t':=s1.toks) λb o e=>Heap.get?_push_of_some _ e;rw[hw];refine wpAny_bind (wpAny_pure ?_);show wpAny (model X.prog X.w) X.A (do rule "assign.swapped-stores"; let items <-unpackItems (.ref s1.heap.objs.size) 2 none; assignInOrder [λv=>bindName X.env y v,λv=>bindName X.env x v] items.reverse; pure Flow.next) _ _ _;refine wpAny_bind (wpAny_rule (wpAny_bind (unpackItems_tuple (items:=#[u1,u2]) (I.ok.hd hc) (IsTup.new s1.heap _) λh' hx'=>?_)));have I3:=I2.kept (h':=h') (t':=s1.toks) λb o e=>hx' b o (UH (Heap.lt_size e)) e;show wpAny _ _ (assignInOrder [λv=>bindName X.env y v,λv=>bindName X.env x v] [u2,u1] >>= λ_=>pure Flow.next) _ _ _;refine wpAny_bind (assignInOrder_cons (wpAny_bindName (xC I3 hN hj (.inl hy) rw' (λs2 I4=>?_) (.inr hy))));refine assignInOrder_cons (wpAny_bindName (xC I4 hN hi (.inl hx) rv (λs3 I5=>assignInOrder_nil (wpAny_pure ?_)) (.inr hx)));rw[List.set_comm _ _ (Ne.symm hij)] at I5;exact⟨_,H1,I5,q1⟩⟩
end
def Obk(h h':Heap):Prop:=∀(b:Nat)(o:Obj),h.objs[b]?=some o->∃o',h'.objs[b]?=some o'/\o'.dict=o.dict
theorem Obk.refl(h:Heap):Obk h h:=λb o e=>⟨o,e,rfl⟩
theorem Obk.trans(x:Obk h h')(y:Obk h' h''):Obk h h'':=λb o e=>by
 obtain⟨o',e',d'⟩:=x b o e;obtain⟨o2,e2,d2⟩:=y b o' e';exact⟨o2,e2,d2.trans d'⟩
theorem Obk.push(h:Heap)(o:Obj):Obk h (h.push o):=λb u e=>⟨u,by
 have hb:b<h.objs.size:=(Array.getElem?_eq_some_iff.mp e).1;cases h;simp only[Heap.push] at e hb ⊢;rw[R8,if_neg (UH hb)]; exact e,rfl⟩
theorem Obk.update(h:Heap)(a:Addr)(hf:∀o,(f o).dict=o.dict):Obk h (h.update a f):=λb u e=>by
 cases h;simp only[Heap.update] at e ⊢;rw[Array.getElem?_modify];split
 ·exact⟨f u,by rw[e]; rfl,hf u⟩
 ·exact⟨u,e,rfl⟩
theorem Obk.get{h h':Heap}{a d:Addr}{o o':Obj}(x:Obk h h')(e:h.get? a=some o)(e':h'.get? a=some o'):o'.dict=o.dict:=by
 obtain⟨u,eu,du⟩:=x a o (Heap.get?_some_iff.mp e).1;rw[(Heap.get?_some_iff.mp e').1] at eu;cases eu;exact du
def DK{α:Type}:Sem α->Prop
 |.pure _=>True
 |.raise _=>True
 |.unsupported _=>True
 |.finish _=>True
 |.rule _ k=>DK (k ())
 |.at _ k=>DK (k ())
 |.load _ _ k=>∀o,DK (k o)
 |.update _ _ f k=>(∀o,(f o).dict=o.dict)/\DK (k ())
 |.alloc _ k=>∀a,DK (k a)
 |.loadIfAlive _ k=>∀o,DK (k o)
 |.point _ k=>DK (k ())
 |.register _ _=>True
 |.fresh k=>∀t,DK (k t)
 |.ask k=>∀x,DK (k x)
 |.choose _ _ k=>∀n,DK (k n)
 |.os _ _ k=>∀r,DK (k r)
 |.call _ _ _ _ _=>False
 |.handled _ k=>∀x,DK (k x)
 |.newGen _ k=>∀n,DK (k n)
 |.genState _ k=>∀x,DK (k x)
 |.resume _ _ _ _=>False
 |.yield _ _ _ _=>True
 |.stack k=>∀l,DK (k l)
 |.fork _ _=>True
 |.thread k=>∀n,DK (k n)
 |.await _ _ _ _ _=>True
theorem DK.wp{α:Type}{M:Model}{Γ:PySem.Ctx}:∀{t:Sem α}{Q:α->Pos->Shared->Prop}{E:Value->Pos->Shared->Prop}{p:Pos}{s:Shared},DK t->Sem.wp M Γ t Q E p s ->
  Sem.wp M Γ t (λa p' s'=>Q a p' s'/\Obk s.heap s'.heap) (λe p' s'=>E e p' s'/\Obk s.heap s'.heap) p s:=by
 intro t
 induction t with
 |pure a=>intro Q E p s _ h; rw[Sem.wp] at h ⊢; exact⟨h, .refl _⟩
 |raise e=>intro Q E p s _ h; rw[Sem.wp] at h ⊢; exact⟨h, .refl _⟩
 |unsupported x=>intro Q E p s _ h; rw[Sem.wp] at h; exact h.elim
 |finish x=>intro Q E p s _ h; rw[Sem.wp] at h; exact h.elim
 |rule x k ih=>intro Q E p s d h; rw[Sem.wp] at h ⊢; exact ih () d h
 | «at» x k ih=>intro Q E p s d h; rw[Sem.wp] at h ⊢; exact ih () d h
 |load a x k ih=>intro Q E p s d h; rw[Sem.wp] at h ⊢; obtain⟨o,e,h⟩:=h; exact⟨o,e,ih o (d o) h⟩
 |update a x f k ih =>
  intro Q E p s d h; rw[Sem.wp] at h ⊢;refine⟨h.1,Sem.wp_mono M Γ _ (λa p' s' z=>⟨z.1,(Obk.update _ _ d.1).trans z.2⟩) (λa p' s' z=>⟨z.1,(Obk.update _ _ d.1).trans z.2⟩) _ _ (ih () d.2 h.2)⟩
 |alloc o k ih =>
  intro Q E p s d h; rw[Sem.wp] at h ⊢;exact Sem.wp_mono M Γ _ (λa p' s' z=>⟨z.1,(Obk.push _ _).trans z.2⟩) (λa p' s' z=>⟨z.1,(Obk.push _ _).trans z.2⟩) _ _ (ih _ (d _) h)
 |loadIfAlive a k ih=>intro Q E p s d h; rw[Sem.wp] at h ⊢; exact ih _ (d _) h
 |point x k ih=>intro Q E p s d h; rw[Sem.wp] at h ⊢; exact ih () d h
 |register a k ih=>intro Q E p s d h; rw[Sem.wp] at h; exact h.elim
 |fresh k ih=>intro Q E p s d h; rw[Sem.wp] at h ⊢; exact ih _ (d _) h
 |ask k ih=>intro Q E p s d h; rw[Sem.wp] at h ⊢; exact ih _ (d _) h
 |choose x n k ih=>intro Q E p s d h; rw[Sem.wp] at h ⊢; exact⟨h.1,ih _ (d _) h.2⟩
 |os q l k ih=>intro Q E p s d h; rw[Sem.wp] at h ⊢; exact ih _ (d _) h
 |call c x g l k ih=>intro Q E p s d h; exact d.elim
 |handled x k ih=>intro Q E p s d h; rw[Sem.wp] at h ⊢; exact ih _ (d _) h
 |newGen c k ih=>intro Q E p s d h; rw[Sem.wp] at h ⊢; exact ih _ (d _) h
 |genState g k ih=>intro Q E p s d h; rw[Sem.wp] at h ⊢; obtain⟨o,e,h⟩:=h; exact⟨o,e,ih _ (d _) h⟩
 |resume g r l k ih=>intro Q E p s d h; exact d.elim
 |yield v g l k ih=>intro Q E p s d h; rw[Sem.wp] at h; exact h.elim
 |stack k ih=>intro Q E p s d h; rw[Sem.wp] at h ⊢; exact ih _ (d _) h
 |fork c k ih=>intro Q E p s d h; rw[Sem.wp] at h; exact h.elim
 |thread k ih=>intro Q E p s d h; rw[Sem.wp] at h ⊢; exact ih _ (d _) h
 |await a f b l k ih=>intro Q E p s d h; rw[Sem.wp] at h; exact h.elim
theorem DK.any{α:Type}{M:Model}{A:Around}{t:Sem α}{Q:α->Shared->Prop}{E:Value->Shared->Prop}{s:Shared}(d:DK t)(h:wpAny M A t Q E s) :
  wpAny M A t (λa s'=>Q a s'/\Obk s.heap s'.heap) (λe s'=>E e s'/\Obk s.heap s'.heap) s:=λΓ p hΓ=>DK.wp d (h Γ p hΓ)
theorem DK.bind{α β:Type}{f:α->Sem β}:∀{m:Sem α},DK m->(∀a,DK (f a))->DK (m >>= f):=by
 intro m;show DK m->_->DK (m.bind f)
 induction m with
 |pure a=>intro _ h; exact h a
 |update a x g k ih=>intro d h; exact⟨d.1,ih () d.2 h⟩
 |raise e=>intro _ _; trivial
 |unsupported x=>intro _ _; trivial
 |finish x=>intro _ _; trivial
 |rule x k ih=>intro d h; exact ih () d h
 | «at» x k ih=>intro d h; exact ih () d h
 |load a x k ih=>intro d h o; exact ih o (d o) h
 |alloc o k ih=>intro d h o; exact ih o (d o) h
 |loadIfAlive a k ih=>intro d h o; exact ih o (d o) h
 |point x k ih=>intro d h; exact ih () d h
 |register a k ih=>intro _ _; trivial
 |fresh k ih=>intro d h o; exact ih o (d o) h
 |ask k ih=>intro d h o; exact ih o (d o) h
 |choose x n k ih=>intro d h o; exact ih o (d o) h
 |os q l k ih=>intro d h o; exact ih o (d o) h
 |call c x g l k ih=>intro d h; exact d.elim
 |handled x k ih=>intro d h o; exact ih o (d o) h
 |newGen c k ih=>intro d h o; exact ih o (d o) h
 |genState g k ih=>intro d h o; exact ih o (d o) h
 |resume g r l k ih=>intro d h; exact d.elim
 |yield v g l k ih=>intro _ _; trivial
 |stack k ih=>intro d h o; exact ih o (d o) h
 |fork c k ih=>intro _ _; trivial
 |thread k ih=>intro d h o; exact ih o (d o) h
 |await a f b l k ih=>intro _ _; trivial
theorem DK.pure{α:Type}(a:α):DK (Pure.pure a:Sem α):=trivial
theorem JQ(a:Addr):DK (load a):=λ_=>trivial
theorem dk_stack:DK stack:=λ_=>trivial
theorem XC(a:Addr)(h:∀o,(f o).dict=o.dict):DK (update a f):=⟨h,trivial⟩
theorem XE(f:Array Value->Array Value)(o:Obj):(Obj.mapFields f o).dict=o.dict:=by
 unfold Obj.mapFields;split<;>rfl
theorem JR(v:Value):DK (fieldsOf v):=by
 unfold fieldsOf;split
 ·refine(JQ _).bind λo=>?_
  split<;>trivial
 ·trivial
theorem k8(v:Value)(i:Nat):DK (field v i):=by
 unfold field;refine(JR v).bind λo=>?_;split<;>trivial
theorem jr(v:Value)(i:Nat)(x:Value):DK (setField v i x):=by
 unfold setField;split
 ·unfold updateField
  refine(JQ _).bind λo=>?_;split
  ·split
   ·exact XC _ (XE _)
   ·trivial
  ·trivial
 ·trivial
theorem xz(e:Value)(f:Option Addr):DK (setFlight e f):=by
 unfold setFlight;refine(k8 _ _).bind λo=>?_;split
 ·exact jr _ _ _
 ·trivial
theorem XD(ty:String)(vs:List Value):DK (newFields ty vs):=by
 unfold newFields newObj;dsimp only;split
 ·trivial
 ·unfold newObjAsIs
  exact λa=>trivial
theorem qan(env:Env)(l:List Env):DK (behindIsImport env l):=by
 unfold behindIsImport;split
 ·trivial
 ·split
  ·trivial
  ·exact(k8 _ _).bind λ_=>trivial
theorem dk_kept(env:Env)(b:Bool)(l:List Env):DK (keptBack env b l):=by
 unfold keptBack;split
 ·split
  ·trivial
  ·unfold underTheClaimsCaller
   exact DK.bind (dk_stack.bind λ_=>trivial) λ_=>trivial
 ·trivial
theorem K2:∀l:List Env,DK (readyFrames l)
 | []=>by unfold readyFrames; trivial
 |env::outer=>by
  unfold readyFrames;split
  ·refine(JQ _).bind λo=>?_
   split
   ·trivial
   ·refine(qan _ _).bind λ_=>(dk_kept _ _ _).bind λ_=>DK.bind ?_ λ_=>K2 outer
    exact XC _ λo=>rfl
  ·trivial
theorem YQ(env:Env):DK (PySem.frameOf env):=by
 unfold PySem.frameOf frameEnvs;refine DK.bind (dk_stack.bind λ_=>trivial) λl=>DK.bind ?_ λx=>?_
 ·unfold frameObject
  split
  ·trivial
  ·exact(K2 _).bind λ_=>trivial
 ·split<;>trivial
theorem dk_place(f:Addr)(b:Bool):DK (entryPlaceOf f b):=by
 unfold entryPlaceOf;refine dk_stack.bind λl=>?_;split<;>trivial
theorem qam(e:Value)(env:Env):DK (noteFrame e env):=by
 unfold noteFrame;have k:∀f head,DK (do setField e 1 (<-EntryCells.newEntry head (<-PySem.frameOf env) .none (rawInt f) .none (<-entryPlaceOf f (head != .none))):Sem Unit):=λf head =>
  (YQ _).bind λ_=>(dk_place _ _).bind λ_=>DK.bind (by unfold EntryCells.newEntry; exact XD _ _) λ_=>jr _ _ _
 split
 ·refine(k8 _ _).bind λhead=>?_
  split
  ·refine(k8 _ _).bind λ_=>?_
   split
   ·trivial
   ·exact(jr _ _ _).bind λ_=>k _ _
  ·exact k _ _
 ·trivial
theorem Vo(env:Env)(e:Value):DK (leaving env e):=by
 unfold leaving;exact(qam _ _).bind λ_=>xz _ _
end L2
namespace PySem.W
open Builtin.ObjectAttr
section
def jG(bmB:List Value):List Value->Bool
 |.ref _::r=>jG bmB r
 |l=>l==bmB
theorem Vn:jG bmB (.ref c::r)=jG bmB r:=by rw[jG]
theorem Zi(h:refuseLoop self "__setattr__" bmB=pure ()):∀l,jG bmB l=true->refuseLoop self "__setattr__" l=pure ():=by
 intro l
 induction l with
 |nil=>intro e; have e:(([]:List Value)==bmB)=true:=e; rw[eq_of_beq e]; exact h
 |cons x r ih =>
  intro e;cases x with
  |ref c=>rw[refuseLoop_ref]; exact ih (by rw[Vn] at e; exact e)
  |_ =>
   rw[jG] at e
   ·rw[eq_of_beq e]; exact h
   ·intro a r' q; cases q
theorem YO(h:bmB.contains v=true):∀l,jG bmB l=true->l.contains v=true:=by
 intro l
 induction l with
 |nil=>intro e; have e:(([]:List Value)==bmB)=true:=e; rw[eq_of_beq e]; exact h
 |cons x r ih =>
  intro e;cases x with
  |ref c=>rw[Bd,ih (by rw[Vn] at e; exact e),Bool.or_true]
  |_ =>
   rw[jG] at e
   ·rw[eq_of_beq e]; exact h
   ·intro a r' q; cases q
def excOver(Ξ:Frag)(C:Addr):Bool:=(clsIn Ξ C).any λcd=>jG [.type "ValueError", .type "Exception", .type "BaseException", .type "object"] cd.mro&&cd.hasDict && !cd.mro.isEmpty
theorem setX_new(X:Ξ.In s.heap)(I:InstAt s.heap x ox C none)(hdn:ox.dict=none)(hdt:ox.data=.fields vs)(hsa:findIn Ξ (.ref C) "__setattr__" = some (some (.builtin "object.__setattr__")))(hp:excOver Ξ C=true)(ht:findIn Ξ (.ref C) name=some none)(h:∀h' d,d=s.heap.objs.size->(∀b o,b≠x->s.heap.get? b=some o->h'.get? b=some o)->h'.get? x=some { ox with dict:=some d }->h'.Ns1 d (λy=>if y=name then some v else none)->Q () { s with heap:=h',toks:=s.toks+2 }) :
  wpAny (model prog w) A (setAttr (.ref x) name v) Q E s:=by
 have SF:=PySem.F.store_ValueError;obtain⟨cd,hc,ho⟩:=any_some hp;simp only[DF,Rx] at ho;obtain⟨⟨ho,hd⟩,ne⟩:=ho;refine set_plain X I hsa ?_;have sub:Looks (model prog w) s.heap (isInstance (.ref x) (.type "object")) true:=I.type.andThen (looks_mroIn X (by unfold mroIn; rw[hc,Option.bind_some,if_neg (by rw[ne]; decide),YO (by decide) _ ho]));refine codeAny_call_builtin SF.slot.plain SF.entry (@check_slot (model prog w) _ _ { s with toks:=s.toks+1 } "object.__setattr__" "object" "__setattr__" (.ref x) [.str name s.toks,v] [] _ SF.kind SF.split sub (SF.args (.ref x) (.str name s.toks) v) ?_);have hm:Looks (model prog w) s.heap (mroOf (.ref C)) cd.mro:=(looks_clsIn X hc).andThen .now;rw[osa_eq,refuse_eq];refine wpAny_bind (wpAny_bind (Looks.here (s:={ s with toks:=s.toks+1 }) I.type (wpAny_bind (Looks.here (s:={ s with toks:=s.toks+1 }) hm ?_))));rw[Zi (SF.passes _) _ ho];refine wpAny_pure (wpAny_bind (Looks.here (s:={ s with toks:=s.toks+1 }) I.type (wpAny_bind (Looks.here (s:={ s with toks:=s.toks+1 }) (looks_findIn X ht) (wpAny_bind (wpAny_pure ?_))))));obtain⟨hx,hcl,hn, -⟩:=I;obtain⟨oc,odi,oda,osl⟩:=ox;dsimp only at hcl hdn hdt;subst hcl hdn hdt;refine wpAny_bind (wpAny_pure (wpAny_bind (wpAny_bind (wpAny_loadPart hx (wpAny_bind (Looks.here (s:={ s with toks:=s.toks+1 }) (looks_clsIn X hc) ?_))))));rw[hd];have hx₁:(s.heap.push { cls:=.type "dict", data:=.dict #[] }).get? x=some ⟨.ref C,none, .fields vs,osl⟩:=Heap.get?_push_of_some _ hx;have hxs:x≠s.heap.objs.size:=UH (Heap.lt_size hx);refine wpAny_bind (wpAny_alloc' (wpAny_bind (wpAny_update' hx₁ (wpAny_pure ?_))));have hgd:((s.heap.push { cls:=.type "dict", data:=.dict #[] }).update x λo=>{ cls:=o.cls,dict:=some s.heap.objs.size,data:=o.data,slots:=o.slots }).get? s.heap.objs.size=some { cls:=.type "dict", data:=.dict #[] } :=
  (Heap.get?_update_ne _ _ _ _ hxs.symm).trans (Heap.get?_push_at rfl rfl)
 have hnd:((s.heap.push { cls:=.type "dict", data:=.dict #[] }).update x λo=>{ cls:=o.cls,dict:=some s.heap.objs.size,data:=o.data,slots:=o.slots }).Ns s.heap.objs.size (λ_=>none) :=
  ⟨_, #[],_,hgd,rfl,λe he=>absurd he (by simp),λ_=>rfl⟩
 show wpAny _ _ (storeInDict s.heap.objs.size (.str name s.toks) name v) _ _ _;unfold storeInDict newKeyGuard;refine wpAny_bind (wpAny_pure (wpAny_bind (wpAny_nsSet1 (Heap.Ns1.of_empty hnd) λh' hn' hs=>?_)));obtain⟨oD,esD,epD,hoD,hdD,hcD⟩:=hn'.count (Within.cons name v Within.nil);refine wpAny_bind (wpAny_lookBehind hoD (by rw[hdD]; exact pastItsLine_dict (UL hcD (by rw[Um,UP,sizeLine_eq]; lia))) ?_);refine wpAny_pure (h h' s.heap.objs.size rfl (λb ob hbx hb=>?_) ?_ hn')
 ·exact(hs.2 b (UH (Heap.lt_size hb))).trans ((Heap.get?_update_ne _ _ _ _ hbx).trans (Heap.get?_push_of_some _ hb))
 ·exact(hs.2 x hxs).trans (Heap.get?_update_self _ hx₁ rfl)
end
end PySem.W
namespace PySem.W
abbrev bmV:List Value:=[.type "ValueError", .type "Exception", .type "BaseException", .type "object"]
structure ExcI(h:Heap)(C f:Addr):Prop where
 ex:∃bm N nm qn bs hdct sn sub ab col dd k0 k1 k2 k3 k5 mN oI,h.get? C=some (excClassObj nm qn C N bs bm hdct sn sub ab col dd k0 k1 k2 k3 k5 "ValueError.__new__")/\h.Ns N mN/\mN "__init__" = some (.ref f)/\OwnTail h bmV bm/\h.get? f=some oI/\oI.cls=.type "function"
def excInI(Ξ:Frag)(C f:Addr):Bool:=match Ξ.lookup C with
 |some ⟨.type "type", _, .cls cd,sl⟩=>(match cd.mro,sl.toList with
  |.ref C'::bm, [_,_,_,_,some (.builtin n),_]=>C'==C&&n == "ValueError.__new__" && !cd.hasDel&&tailIn Ξ bmV bm&&nsOkIn Ξ cd.ns&&nsIn Ξ cd.ns "__init__" == some (some (.ref f))&&typeIn Ξ (.ref f)==some (.type "function")
  |_,_=>false)
 |_=>false
theorem Yx(X:Ξ.In h)(G:h.Ns N mg)(e:nsIn Ξ N n=some (some v)):mg n=some v:=by
 obtain⟨o,es,ep,ho,hd,_,hf⟩:=G;unfold nsIn at e;split at e
 ·rename_i c d es' n' sl q
  have:=X _ _ q;rw[ho] at this;cases this;cases hd;split at e
  ·rename_i en he
   cases e;rw[<-hf];unfold nsFind findBy;rw[<-Bb,he];rfl
  ·first|cases e|(split at e<;>cases e)
 ·cases e
theorem fn_obj(X:Ξ.In h)(e:typeIn Ξ (.ref f)=some (.type "function")):∃oI,h.get? f=some oI/\oI.cls=.type "function" := by
 unfold typeIn at e;dsimp only at e;cases q:Ξ.lookup f with
 |none=>rw[q] at e; cases e
 |some o=>rw[q] at e; exact⟨o,X _ _ q,by simpa using e⟩
theorem excI_of(X:Ξ.In h)(q:excInI Ξ C f=true):ExcI h C f:=by
 unfold excInI at q;split at q
 ·rename_i dd cd sl ho
  split at q
  ·rename_i C' bm k0 k1 k2 k3 n k5 hm hs
   obtain⟨nm,bs,mro,ns,qn,hd,sn,sub,ab,col,del⟩:=cd;simp only[DF,beq_iff_eq,Rx] at q hm;obtain⟨⟨⟨⟨⟨⟨z1,z2⟩,z3⟩,z4⟩,z5⟩,z6⟩,z7⟩:=q;subst z1; subst z2; subst hm; subst z3;obtain⟨l⟩:=sl;have hs:l=_:=hs;subst hs;obtain⟨oI,e1,e2⟩:=fn_obj X z7;have N1:=Heap.Ns.of_isNs (isNs_of_in X z5);exact⟨bm,ns,nm,qn,bs,hd,sn,sub,ab,col,dd,k0,k1,k2,k3,k5,_,oI,X _ _ ho,N1,Yx X N1 z6,tail_of_in X z4,e1,e2⟩
  ·cases q
 ·cases q
section
theorem Q8{os:OsState}(J:ExcI h C f)(hrest:rest.length<=sizeLine)(hq:∀h' e,Heap.MadeExcOf h h' e (.ref C) rest->wpAny (model prog w) A (call (.ref f) (.ref e::rest)) (λr s'=>r=.none/\Q (.done (.ret (.ref e))) s') E ⟨h',g,d,t,os⟩) :
  wpAny (model prog w) A (Builtin.«type.__call__» ⟨.ref C::rest, []⟩) Q E ⟨h,g,d,t,os⟩:=by
 obtain⟨bm,N,nm,qn,bs,hdct,sn,sub,ab,col,dd,k0,k1,k2,k3,k5,mN,oI,hC,hn,hi,T,hfI,hfc⟩:=J.ex;have Fn:=PySem.F.excBase_ValueError
 repeat (first|with_reducible refine wpAny_loadPart_at hC ?_|with_reducible refine wpAny_madeBy_exc hC ?_|wp_step)
 refine codeAny_call_builtin_code (Code.quiet_builtin _ Fn.quiet) (wpAny_check_new_subU Fn (by decide) T hC ?_);refine codeAny_exc_new_subU Fn (by decide) Fn T hC ?_ hrest;show wpAny _ _ _ _ _ _;have kk:∀b o,h.get? b=some o->((h.push { cls:=.type "tuple", data:=.seq rest.toArray }).push { cls:=.ref C,data:=.fields #[.ref h.objs.size, .none, .none, .none, .bool false, .none] }).get? b=some o :=
  λb o e=>Heap.get?_push_of_some _ (Heap.get?_push_of_some _ e)
 have hget:((h.push { cls:=.type "tuple", data:=.seq rest.toArray }).push
   { cls:=.ref C,data:=.fields #[.ref h.objs.size, .none, .none, .none, .bool false, .none] }).get? (h.objs.size+1)=some
   { cls:=.ref C,data:=.fields #[.ref h.objs.size, .none, .none, .none, .bool false, .none] }:=by heap_get
 have hC₁:=kk _ _ hC;have hn₁:=hn.keeps kk;have T₁:=T.keeps kk;have hcC:(Value.ref C::bm).contains (.ref C)=true:=by simp
 unfold isInstance
 repeat (first|with_reducible refine wpAny_loadPart_at hget ?_|(with_reducible refine wpAny_isSubtype_exc hC₁ ?_; rw[hcC])|wp_step)
 show wpAny _ _ (typeLookup (.ref C) _) _ _ _;refine wpAny_typeLookup_tail hC₁ hn₁ T₁ Fn.mroIs Fn.init.lookup ?_;rw[hi];refine wpAny_holding (wpAny_bind ?_);unfold bindSpecial;refine wpAny_bind (wpAny_typeOf (T := "function") ⟨_,kk _ _ hfI,hfc⟩ ?_);rw[if_pos (by decide)];refine wpAny_pure (wpAny_bind (wpAny_mono (hq _ (h.objs.size+1) ⟨kk,Heap.get?_none_of_le (R6 _),h.objs.size,hget,Heap.get?_none_of_le (Uk _), ?_⟩) (λr s' hr=>?_) λ_ _ x=>x))
 ·exact Heap.get?_push_of_some _ (Heap.get?_push_at rfl rfl)
 ·obtain⟨rfl,hQ⟩:=hr
  wp_walk;exact hQ
theorem qaR(J:ExcI s.heap C f)(hrest:rest.length<=sizeLine)(hq:∀h' e,Heap.MadeExcOf s.heap h' e (.ref C) rest->wpAny (model prog w) (A.under (.builtin "type.__call__" ⟨.ref C::rest, []⟩)) (call (.ref f) (.ref e::rest)) (λr s'=>r=.none/\Q (.ref e) s') E { s with heap:=h' }) :
  wpAny (model prog w) A (call (.ref C) rest) Q E s:=by
 obtain⟨h,g,d,t,os⟩:=s;obtain⟨bm,N,nm,qn,bs,hdct,sn,sub,ab,col,dd,k0,k1,k2,k3,k5,mN,oI,hC,hn,hi,T,hfI,hfc⟩:=J.ex;have f1:=tc_lookup;have f2:=tc_bind (.ref C);have hT:(⟨h,g,d,t,os⟩:Shared).TypeIs (.ref C) "type" := ⟨_,hC,rfl⟩;refine wpAny_call (codeAny_of_tree ?_);show wpAny _ _ (callAny (.ref C) _) _ _ _
 repeat (any_goals (first|assumption|with_reducible refine wpAny_loadPart_at hC ?_|wp_step))
 refine⟨rfl, ?_⟩;refine codeAny_call_builtin_at (Code.quiet_builtin _ (by decide +kernel)) entry_typeCall (wpAny_check_type_call_sub hC (Q8 J hrest λh' e hm=>?_));exact hq h' e hm
abbrev excOb(C:Addr)(d:Option Addr)(t:Addr):Obj:={ cls:=.ref C,dict:=d,data:=.fields #[.ref t, .none, .none, .none, .bool false, .none] }
theorem Jq(hh:A.handled=none)(h:wpAny (model prog w) A x (λv s₁=>∃e d t,v=.ref e/\ExcI s₁.heap C f/\s₁.heap.get? e=some (excOb C d t)/\E (.ref e) s₁) E s):wpAny (model prog w) A (raiseStmt env (some x) none) Q E s:=by
 unfold raiseStmt;refine wpAny_bind (wpAny_mono h (λv s₁ h₁=>?_) λ_ _ x=>x);obtain⟨e,dx,tx,rfl,J,he,hE⟩:=h₁;obtain⟨bm,N,nm,qn,bs,hdct,sn,sub,ab,col,dd,k0,k1,k2,k3,k5,mN,oI,hC,hn,hi,T,hfI,hfc⟩:=J.ex;have hcB:(Value.ref C::bm).contains (.type "BaseException")=true:=by rw[Bd,T.hasType (b:=true) (by decide),Bool.or_true]
 obtain⟨hp,g,d,tk,os⟩:=s₁
 repeat (first|with_reducible refine wpAny_loadPart_at he ?_|with_reducible refine wpAny_loadPart_at hC ?_|(with_reducible refine wpAny_isSubtype_exc hC ?_; rw[hcB])|wp_step)
 exact wpAny_raiseNew_none hh hE
theorem Raise_I(hh:A.handled=none)(hplain:(backTo cpos (starEach args env)).any (·.1)=false)(h:wpAny (model prog w) A (eval (.Name x np) env) (λc s₁=>c=.ref C/\wpAny (model prog w) A (evalArgs (.ref C) true (backTo cpos (starEach args env)) [])
   (λa s₂=>a.kw=[]/\a.pos.length<=sizeLine/\ExcI s₂.heap C f/\∀h' e,Heap.MadeExcOf s₂.heap h' e (.ref C) a.pos ->
    wpAny (model prog w) (A.under (.builtin "type.__call__" ⟨.ref C::a.pos, []⟩)) (call (.ref f) (.ref e::a.pos)) (λr s'=>r=.none/\∃d t,ExcI s'.heap C f/\s'.heap.get? e=some (excOb C d t)/\E (.ref e) s') E { s₂ with heap:=h' }) E s₁) E s) :
  wpAny (model prog w) A (exec (.Raise (some (.Call (.Name x np) args [] cpos)) none pos) env) Q E s:=by
 rw[arm_exec_Raise];refine wpAny_bind (wpAny_standAt (Jq (C:=C) (f:=f) hh ?_));refine wpAny_bind (wpAny_mono (wpAny_Call_ofName (wpAny_mono h (λc s₁ h₁=>?_) λ_ _ x=>x)) (λv s₃ h₃=>wpAny_bind (wpAny_standAt (wpAny_pure h₃))) λ_ _ x=>x);obtain⟨rfl,h₁⟩:=h₁;unfold callWith;refine wpAny_bind (wpAny_holding (wpAny_mono h₁ (λa s₂ h₂=>wpAny_bind (wpAny_standAt ?_)) λ_ _ x=>x));obtain⟨apos,akw⟩:=a;obtain⟨hkw,hlen,J,h₂⟩:=h₂;obtain rfl:akw=[]:=hkw;obtain⟨bm,N,nm,qn,bs,hdct,sn,sub,ab,col,dd,k0,k1,k2,k3,k5,mN,oI,hC,hn,hi,T,hfI,hfc⟩:=J.ex;obtain⟨hp,g,d,tk,os⟩:=s₂;simp only[hplain];refine wpAny_bind (wpAny_keeperOf_exc hC ?_);refine wpAny_bind (qaR J hlen λh' e hm=>wpAny_mono (h₂ h' e hm) (λr s' z=>⟨z.1,wpAny_bind (wpAny_holding (wpAny_point (wpAny_pure ?_)))⟩) λ_ _ x=>x);obtain⟨_,dx,tx,J',he,hE⟩:=z;exact⟨e,dx,tx,rfl,J',he,hE⟩
theorem bexc_init(J:ExcI s.heap C f)(he:s.heap.get? e=some (excOb C dx tx))(hrest:rest.length<=sizeLine)(hq:∀h' t',(∀b o,b≠e->s.heap.get? b=some o->h'.get? b=some o)->h'.get? e=some (excOb C dx t')->R (.ok (.ret .none)) { s with heap:=h' }) :
  codeAny (model prog w) A (.call (.builtin "ValueError.__init__") ⟨.ref e::rest, []⟩) R s:=by
 obtain⟨bm,N,nm,qn,bs,hdct,sn,sub,ab,col,dd,k0,k1,k2,k3,k5,mN,oI,hC,hn,hi,T,hfI,hfc⟩:=J.ex;have F:=PySem.F.excBase_ValueError;obtain⟨h,g,d,t,os⟩:=s;refine codeAny_call_builtin F.init.plain F.initEntry (wpAny_check_init_subU F T hC he rfl ?_);have hne:e≠h.objs.size:=UH (Heap.lt_size he);have he1:(h.push { cls:=.type "tuple", data:=.seq rest.toArray }).get? e=some (excOb C dx tx):=Heap.get?_push_of_some _ he
 wp_walk;refine hq _ h.objs.size (λb o hb q=>?_) ?_
 ·rw[Heap.get?_update_other _ _ (Ne.symm hb)]; exact Heap.get?_push_of_some _ q
 ·exact(Heap.get?_update_self _ he1 rfl).trans rfl
end
end PySem.W
namespace L2
open PySem PySem.Spec PyProof.Rows
def ExcAt(a C:Addr)(d:Option Addr):Heap->Prop:=λh=>∃t,h.get? a=some (W.excOb C d t)
abbrev excO(a C:Addr)(d:Option Addr):HO:=.ext (ExcAt a C d)
theorem JP(e:h.get? a=some (W.excOb C d t)):ObjOk P w H h a (excO a C d) :=
 ⟨⟨t,e⟩,⟨_,e⟩,λh1 h2 ⟨t',e'⟩ k=>⟨t',k _ e'⟩⟩
theorem kX(x:HOk P w H h)(e:H a=some (excO a C d)):∃t,h.get? a=some (W.excOb C d t):=(x a _ e).1
structure ExcK(Ξ:PySem.W.Frag)(C f:Addr):Prop where
 i:W.excInI Ξ C f=true
 sa:W.findIn Ξ (.ref C) "__setattr__" = some (some (.builtin "object.__setattr__"))
 ov:W.excOver Ξ C=true
 ga:W.findIn Ξ (.ref C) "__getattribute__" = some (some (.builtin "BaseException.__getattribute__"))
 gt:W.findIn Ξ (.ref C) "__getattr__" = some none
 mr:W.mroIn Ξ C (.type "BaseException")=some true
 hd:W.hasDictIn Ξ C=true
section
def sSetX(Ξ:PySem.W.Frag)(C:Addr)(ta tv:TE)(f:Str):TS:=λD σ H=>tv σ H λy H1=>ta σ H1 λx H2=>∃a,x=.ref a/\H2 a=some (excO a C none)/\∀d,H2 d=none->D.nx σ (upd (upd H2 d (.xd [(f,y)])) a (excO a C (some d)))
def tFs3(a b:Str)(te:TE):TE:=λσ H Q=>te σ H λv H1=>∃n,v=.int n/\n.natAbs.log2<1920/\(Str.ofString (toString n)).length<=10000/\Q (.str (Str.empty++a++(Str.ofString (toString n))++b)) H1
theorem qe_fs3(la:a.length<=10000)(lb:b.length<=10000)(he:QE X e te):QE X (.JoinedStr [.Constant (.str a) ka pa, .FormattedValue e (-1) none pf, .Constant (.str b) kb pb] pos) (tFs3 a b te):=⟨by
 intro pins s σ H Q I h;refine wpAny_JoinedStr ?_;refine Calls.Constant_str ⟨a,_,rfl,by rw[strLen_append,show Str.empty.length=0 from rfl,sizeLine_eq]; lia, ?_⟩;show wpAny _ _ (eval (.FormattedValue e (-1) none pf) X.env) _ _ _;refine wpAny_FormattedValue_plain (thn (he.h pins _ σ H _ (I.tok _) h) λu s1 ⟨v,H1,I1,rv,n,ev,hn,ln,q⟩=>?_);subst ev;obtain⟨t,rfl⟩:=(show ∃t,u=Value.int n t from rv);refine wpAny_formatField_int hn ?_;refine⟨_,_,rfl,by rw[strLen_append,strLen_append,show Str.empty.length=0 from rfl,sizeLine_eq]; lia, ?_⟩;have lz:(Str.empty++a++Str.ofString (toString n)++b).length<=sizeLine:=by rw[strLen_append,strLen_append,strLen_append,show Str.empty.length=0 from rfl,sizeLine_eq]; lia
 refine Calls.Constant_str ⟨b,_,rfl,lz,lz, ?_⟩;exact⟨.str (Str.empty++a++Str.ofString (toString n)++b),H1,(((I1.tok _).tok _).tok _),⟨_,rfl⟩,q⟩⟩
theorem qs_setX(c:ExcK X.K C g)(n:NoAttr X.K C f)(ha:QE X o ta)(hv:QE X value tv)(hs:swapsWith value (some (.Attribute o f pos')) pos.line X.env=pure false:=by rfl):QS X (.Assign [.Attribute o f pos'] value pos) (sSetX X.K C ta tv f):=⟨by
 intro pins s σ H D I h;refine plainObj_wpAny_Assign_Attribute (thn (hv.h pins s σ H _ I h) λu s1 ⟨y,H1,I1,ry,q⟩=>thn (ha.h pins s1 σ H1 _ I1 q) λov s2 ⟨x,H2,I2,rx,a,ex,ea,q2⟩=>?_) hs;subst ex;obtain rfl:ov=Value.ref a:=rx;obtain⟨t,hx⟩:=kX I2.hok ea;refine W.setX_new I2.kIn (C:=C) (ox:=W.excOb C none t) ⟨hx,rfl,rfl,trivial⟩ rfl rfl c.sa c.ov n λh' d hd k e1 e2=>?_;obtain⟨od,es,ep,ho,hr⟩:=e2;have hf:=(Heap.get?_some_iff.mp ho).2;have hm:(s2.heap.push od).get? d=some od:=by rw[hd]; exact Heap.get?_push_size _ hf
 have ne:a≠d:=by rw[hd]; exact UH (Heap.lt_size hx)
 have J:=I2.laid (a:=d) (o:=.xd [(f,y)]) (h':=s2.heap.push od) (t':=s2.toks) (λb v q=>Heap.get?_push_of_some _ q) (by rw[hd]; exact Uk _)
  ⟨_,⟨od,es,ep,hm,hr⟩,λz=>by
   show RelO (([(f,y)]:List (Str×V)).lookup z) (if z=f then some u else none);rw[UF];by_cases q:z=f
   ·subst q; rw[beq_self_eq_true,if_pos rfl]; exact ry
   ·rw[if_neg q,beq_eq_false_iff_ne.mpr q]; exact True.intro⟩
 have fr:H2 d=none:=I2.hok.fresh (by rw[hd]; exact Uk _);have J2:=J.write (x:=a) (e:=a) (o:=excO a C (some d)) (h':=h') (t':=s2.toks+2) (by rw[upd_ne ne,ea]; exact True.intro) (.inl rfl) (λb v hb q=>?_) ⟨_,e1⟩ (JP (t:=t) e1)
 ·exact⟨σ,_,J2,q2 d fr⟩
 ·by_cases hbd:b=d
  ·subst hbd; rw[hm] at q; rw[ho]; exact q
  ·have q':s2.heap.get? b=some v:=by
    have hz:b≠s2.heap.objs.size:=by rw[<-hd]; exact hbd
    have:=Heap.get?_some_iff.mp q;refine Heap.get?_some_iff.mpr ⟨?_,this.2⟩;have q1:=this.1;revert q1 hz;cases s2.heap;intro hz q1;simp only[Heap.push] at q1 hz ⊢;rw[R8,if_neg hz] at q1;exact q1
   exact k b v hb q'⟩
structure InitB(Ξ:PySem.W.Frag)(mg:Str->Option Value)(x:Str)(B:Addr):Prop where
 b:mg x=some (.ref B)
 sp:W.specialIn Ξ (.ref B) "__getattribute__" = some (some (.builtin "type.__getattribute__"))
 rd:W.readsIn Ξ B (.type "type")=true
 fi:W.findCls Ξ (.ref B) (.type "type") "__init__" = some (.val (.builtin "ValueError.__init__"))
def sInitB(C:Addr)(ta:TA):TS:=λD σ H=>ta σ H λvs H1=>∃a d rest,vs=.ref a::rest/\H1 a=some (excO a C d)/\rest.length<=1000/\D.nx σ H1
theorem qs_initB(c:ExcK X.K C g)(b:InitB X.K X.mg x B)(ha:QA X (e::es) tl)(hg:Gl X x:=by rfl)(hdb:(x==("__debug__" : Str))=false:=by decide)(hst:starEach (e::es) X.env=(false,eval e X.env)::starEach es X.env:=by rfl)(hpl:(backTo pos (starEach es X.env)).any (·.1)=false:=by rfl)(ht:eval (.Call (.Attribute (.Name x p) "__init__" apos) (e::es) [] pos) X.env=(do
   let ov <-eval (.Name x p) X.env
   standAt apos.atName;let(f,first) <-holding [ov] (getMethod ov "__init__" pl)
   callWith pos f first (backTo pos (starEach (e::es) X.env)) (backToKw pos (keywordEach [] X.env))):=by rfl)(hs:swapsWith (.Call (.Attribute (.Name x p) "__init__" apos) (e::es) [] pos) none pos'.line X.env=pure false:=by rfl) :
  QS X (.Expr (.Call (.Attribute (.Name x p) "__init__" apos) (e::es) [] pos) pos') (sInitB C tl):=⟨by
 intro pins s σ H D I h;refine wpAny_Expr_any ?_ I.quiet hs;refine Dr (pl:=pl) (zM I hg b.b ?_ hdb) ht;refine W.method_cls I.kIn b.sp (W.cls_value I.kIn b.rd b.fi rfl ?_);refine PyProof.Rows.callWith_builtin1 (thn (ha.h pos pins _ σ H _ (I.tok _) h) λus s1 ⟨vs,H1,I1,r1,a,d,rest,ev,ea,hl,q1⟩=>?_) hst hpl;subst ev;cases r1 with
 |cons ra rr =>
 rename_i u us' _;obtain rfl:u=Value.ref a:=ra;obtain⟨t,hx⟩:=kX I1.hok ea;refine wpAny_call (W.bexc_init (W.excI_of I1.kIn c.i) hx (by rw[<-rr.length,sizeLine_eq]; lia) λh' t' k e1=>?_);have J:=I1.write (x:=a) (e:=a) (o:=excO a C d) (h':=h') (t':=s1.toks) (by rw[ea]; exact True.intro) (.inl rfl) (λb v hb q=>k b v hb q) ⟨_,e1⟩ (JP (t:=t') e1);refine⟨σ,H1, ?_,q1⟩;have eH:upd H1 a (excO a C d)=H1:=by
  funext b;unfold upd;split
  ·rename_i q; rw[q,ea]
  ·rfl
 rw[eH] at J;exact J⟩
end
structure Fli(P:Program)(w:World)(outer:List Env)(H:Hp)(s:Shared)(a:Addr)(C:Value)(d:Option Addr)(H':Hp)(s':Shared):Prop where
 own:∀o,s'.heap.get? a=some o->o.dict=d
 os:s'.os=s.os
 bare:AllBare s'.gens
 fly:∃(B:Heap)(a0:Value),Heap.FlyingW B outer a C a0 s'.heap/\HOk P w H' B/\(∀b∈frs outer,B.get? b=none)/\(∀b o,s.heap.get? b=some o->H b=none->b∉frs outer->B.get? b=some o) /\
  ∀b o,s.heap.get? b=some o->H b≠none->∃o',B.get? b=some o'
 up:∀b o,s.heap.get? b=some o->H b=none->b∈frs outer->∃sl,s'.heap.get? b=some { o with slots:=sl }
 free:∀b o,s.heap.get? b=some o->H b=none->H' b=none
 tups:∀b xs,H b=some (.tup xs)->H' b=some (.tup xs)
 frzs:∀b o u,H b=some (.frz o u)->H' b=some (.frz o u)
 tbls:∀b ps,H b=some (.tbl ps)->∃more,H' b=some (.tbl (ps++more))
def CXe(P:Program)(w:World):CXT:=λouter H s E e s'=>∃a C d H',e=.ref a/\Fli P w outer H s a C d H' s'/\E C d H'
theorem CXe.mono(h:CXe P w outer H s E e s')(k:∀C d H',E C d H'->E' C d H'):CXe P w outer H s E' e s':=by
 obtain⟨a,C,d,H',e1,f,q⟩:=h;exact⟨a,C,d,H',e1,f,k C d H' q⟩
structure Body(X:Cx)(outer:List Env):Prop where
 stk:X.stack=X.env::outer
 out:X.outer=outer
 fr:X.env.frame=some X.env.locals
 ex:X.ex=[]
section
theorem Inv.old(I:Inv X pins σ H s)(q:X.s₀.heap.get? b=some o):b≠X.env.locals:=λz=>by
 subst z;exact absurd (Heap.lt_size q) (Bk.mpr I.ok.above)
theorem Body.mem(Y:Body X outer)(hb:b∈frs X.stack):b=X.env.locals\/b∈frs outer:=by
 rw[Y.stk] at hb;obtain⟨env,he,hf⟩:=Dj.mp hb;rcases Uv.mp he with rfl|he
 ·rw[Y.fr] at hf; exact .inl (Option.some.inj hf).symm
 ·exact .inr (Dj.mpr ⟨env,he,hf⟩)
theorem Body.in_(Y:Body X outer)(hb:b∈frs outer):b∈frs X.stack:=by
 rw[Y.stk];obtain⟨env,he,hf⟩:=Dj.mp hb;exact Dj.mpr ⟨env, .tail _ he,hf⟩
def untr(H:Hp)(a:Addr):Hp:=λb=>if b=a then none else H b
theorem xX(h:b≠a):untr H a b=H b:=by unfold untr; rw[if_neg h]
theorem YW:untr H a a=none:=by unfold untr; rw[if_pos rfl]
theorem HOk.untr{P:Program}{w:World}{H:Hp}{h h':Heap}{a:Addr}{φ:Heap->Prop}(x:HOk P w H h)(ea:H a=some (.ext φ))(k:∀b u,b≠a->H b≠none->h.get? b=some u->h'.get? b=some u):HOk P w (untr H a) h':=λb o e=>by
 have hb:b≠a:=λz=>by rw[z,YW] at e; cases e
 rw[xX hb] at e;refine(x b o e).stay (λc u hc q=>?_) (λc hc=>?_) λc xs hc=>?_
 ·rcases hc with rfl|hc
  ·exact k _ u hb (by rw[e]; simp) q
  ·exact k c u (λz=>by rw[z,ea] at hc; cases hc) (by rw[hc]; simp) q
 ·rw[xX λz=>by rw[z,ea] at hc; cases hc]; exact hc
 ·rw[xX λz=>by rw[z,ea] at hc; cases hc]; exact hc
theorem JE(Y:Body X outer)(I:Inv X pins σ H s)(hA:A.frames=some X.stack)(hx:H e=some (excO e C d))(he0:X.s₀.heap.get? e=none)(hE:E (.ref C) d (untr H e)) :
  wpAny M A (leaving X.env (.ref e)) (λ_ s''=>CXe X.prog X.w outer X.H₀ X.s₀ E (.ref e) s'') R s:=by
 obtain⟨t0,hge⟩:=kX I.hok hx;have hin:∀env∈X.stack,∀b,env.frame=some b->b∈e::frs X.stack:=λenv he b hb=>.tail _ (Dj.mpr ⟨env,he,hb⟩);have hl:s.heap.FunFrames (W.hideAll s.heap (e::frs X.stack)) X.stack:=W.funFrames_hide I.stack hin;rw[Y.stk] at hA;have ob:∀b o,X.s₀.heap.get? b=some o->b∉frs outer->b∉e::frs X.stack:=λb o q n z=>by
  rcases Uv.mp z with rfl|z
  ·rw[he0] at q; cases q
  ·rcases Y.mem z with z|z
   ·exact I.old q z
   ·exact n z
 have nx:∀b,b∉X.ex:=λb=>by rw[Y.ex]; simp
 have fs:∀b,b∈frs outer↔b∈X.fs:=λb=>by show _↔b∈frs X.outer; rw[Y.out]
 refine wpAny_mono (DK.any (Vo _ _) (wpAny_leaving_firstW (base:=W.hideAll s.heap (e::frs X.stack)) hA (by rw[<-Y.stk]; exact hl) Y.fr hge (λb o q=>Ba _ q) (DM _ (.head _)) rfl rfl rfl (Q:=λ_ s'=>Heap.LeftW (W.hideAll s.heap (e::frs X.stack)) (X.env::outer) e (.ref C) (.ref t0) s.heap s'.heap/\∃h',s'={ s with heap:=h' }) λh' q=>⟨q,h',rfl⟩)) (λ_ s' q=>?_) λ_ _ q=>q.1;obtain⟨⟨⟨k1,⟨_,_,k2⟩,k3,k4⟩,h',rfl⟩,kd⟩:=q;refine⟨e, .ref C,d,untr H e,rfl,⟨?_,I.os,I.bare,⟨_, .ref t0,⟨k1,DM _ (.head _),k2,k3⟩, ?_, ?_, ?_, ?_⟩, ?_, ?_, ?_, ?_, ?_⟩,hE⟩
 ·exact λo q=>(kd.get (d:=0) hge q)
 ·exact I.hok.untr hx λb u hb hb0 q=>DR _ q λhm=>by
   rcases Uv.mp hm with z|hm
   ·exact hb z
   ·exact hb0 (I.stkFree b hm)
 ·exact λb hb=>DM _ (.tail _ (Y.in_ hb))
 ·exact λb o q n hb=>DR _ (I.base.keep b o q n (λz=>hb ((fs b).mpr z)) (nx b)) (ob b o q hb)
 ·intro b o q n
  obtain⟨o',e1⟩:=I.base.there b o q (nx b);refine⟨o',DR _ e1 (ob b o q λz=>n (I.ok.frf b ((fs b).mp z)))⟩
 ·intro b o q n hb
  obtain⟨sl,e1⟩:=I.base.slot b o q n ((fs b).mp hb) (nx b);obtain⟨_,o',ho',hd⟩:=I.ok.funs.mem (show b∈X.outer.filterMap (·.frame) from(fs b).mp hb);rw[q] at ho'; cases ho';obtain⟨sl2,e2⟩:=k4 b _ e1 hd;exact⟨sl2,e2⟩
 ·intro b o q n
  have:=I.base.free b o q n (nx b);unfold untr;split
  ·rfl
  ·exact this
 ·intro b xs q
  have:=I.base.tups b xs q;rw[xX λz=>by rw[z,hx] at this; cases this]; exact this
 ·intro b o u q
  have:=I.base.frzs b o u q;rw[xX λz=>by rw[z,hx] at this; cases this]; exact this
 ·intro b ps q
  obtain⟨m,this⟩:=I.base.tbls b ps q;exact⟨m,by rw[xX λz=>by rw[z,hx] at this; cases this]; exact this⟩
theorem Gf(Y:Body X outer)(I:Inv X pins σ H s)(hA:A.frames=some X.stack)(hx:CXe X.prog X.w X.stack H s E e s') :
  wpAny M A (leaving X.env e) (λ_ s''=>CXe X.prog X.w outer X.H₀ X.s₀ E e s'') R s':=by
 obtain⟨a,C,d,H',rfl,F,hE⟩:=hx;obtain⟨B,a0,fl,hok,nb,kp,th⟩:=F.fly;have ob:∀b o,X.s₀.heap.get? b=some o->b∉frs outer->b∉frs X.stack:=λb o q n z=>by
  rcases Y.mem z with z|z
  ·exact I.old q z
  ·exact n z
 have nx:∀b,b∉X.ex:=λb=>by rw[Y.ex]; simp
 have fs:∀b,b∈frs outer↔b∈X.fs:=λb=>by show _↔b∈frs X.outer; rw[Y.out]
 rw[Y.stk] at hA fl;refine wpAny_mono (DK.any (Vo _ _) (wpAny_leaves_onW hA Y.fr fl (Q:=λ_ s2=>(Heap.FlyingW B outer a C a0 s2.heap/\s'.heap.UpToSlots s2.heap)/\∃h',s2={ s' with heap:=h' }) λh' x1 x4=>⟨⟨x1,x4⟩,h',rfl⟩)) (λ_ s2 z=>?_) λ_ _ q=>q.1;obtain⟨⟨⟨x1,x4⟩,h',rfl⟩,kd⟩:=z;refine⟨a,C,d,H',rfl,⟨?_,F.os.trans I.os,F.bare,⟨B,a0,x1,hok,λb hb=>nb b (Y.in_ hb), ?_, ?_⟩, ?_, ?_,λb xs q=>F.tups b xs (I.base.tups b xs q),λb o u q=>F.frzs b o u (I.base.frzs b o u q), ?_⟩,hE⟩
 ·obtain⟨o1,e1,_⟩:=fl.there
  exact λo q=>(kd.get (d:=0) e1 q).trans (F.own o1 e1)
 ·exact λb o q n hb=>kp b o (I.base.keep b o q n (λz=>hb ((fs b).mpr z)) (nx b)) (I.base.free b o q n (nx b)) (ob b o q hb)
 ·intro b o q n
  obtain⟨o',e1⟩:=I.base.there b o q (nx b);cases hb:H b with
  |none=>exact⟨o',kp b o' e1 hb (ob b o q λz=>n (I.ok.frf b ((fs b).mp z)))⟩
  |some u=>exact th b o' e1 (by rw[hb]; simp)
 ·intro b o q n hb
  obtain⟨sl,e1⟩:=I.base.slot b o q n ((fs b).mp hb) (nx b);obtain⟨sl',e2⟩:=F.up b _ e1 (I.base.free b o q n (nx b)) (Y.in_ hb);obtain⟨_,o',ho',hd⟩:=I.ok.funs.mem (show b∈X.outer.filterMap (·.frame) from(fs b).mp hb);rw[q] at ho'; cases ho';obtain⟨sl2,e3⟩:=x4 b _ e2 hd;exact⟨sl2,e3⟩
 ·intro b o q n
  obtain⟨o',e1⟩:=I.base.there b o q (nx b);exact F.free b o' e1 (I.base.free b o q n (nx b))
 ·intro b ps q
  obtain⟨m1,e1⟩:=I.base.tbls b ps q;obtain⟨m2,e2⟩:=F.tbls b _ e1;exact⟨m1++m2,by rw[e2,Ri]⟩
end
def wordsX:List Str:=["laying","room","word","head","end","limb","small","kind","address"]
def wW(n:Int):Str:=(wordsX[((n-1000000) % 9).toNat]?).getD ""
def wK(n:Int):Int:=(n-1000000) / 9
def xfs(n:Int):List (Str×V):=if n<1000000 then[("part", .int n)] else[("word", .str (wW n)),("k", .int (wK n))]
theorem xfs_part(h:n<1000000):xfs n=([("part", .int n)]:List (Str×V)):=if_pos h
def pV:Option Int->V
 |none=>.non
 |some n=>.int n
theorem pV_inj(h:pV p=pV q):p=q:=by
 cases p<;>cases q<;>first|rfl|cases h
 rfl
def PartIs(d:Option Addr)(H:Hp):Option Int->Prop
 |none=>d=none
 |some n=>∃x,d=some x/\H x=some (.xd (xfs n))
def EX(mg:Str->Option Value)(D:Ends)(σ:St):XK:=λC d H'=>∃nm p,mg nm=some C/\PartIs d H' p/\D.bk (some (.str nm)::some (pV p)::σ) H'
def Cmp(X:Cx)(E:XK)(σ:St):Prop:=∀pins H s e s',Inv X pins σ H s->CXe X.prog X.w X.stack H s E e s'->X.xe e s'
def CmpD(r:Prop)(X:Cx)(D:Ends):Prop:=(∀σ,Cmp X (EX X.mg D σ) σ)/\(r->∀pins σ H s e C d,Inv X pins σ H s->H e=some (excO e C d)->X.s₀.heap.get? e=none->EX X.mg D σ (.ref C) d (untr H e)->X.xe (.ref e) s)
structure QX(r:Prop)(X:Cx)(st:Stmt)(t:TS):Prop where
 h:∀pins s σ H D,CmpD r X D->Inv X pins σ H s->t D σ H->wpAny (model X.prog X.w) X.A (exec st X.env) (SP X pins D) X.xe s
structure QXs(r:Prop)(X:Cx)(st:List Stmt)(t:TS):Prop where
 h:∀pins s σ H D,CmpD r X D->Inv X pins σ H s->t D σ H->wpAny (model X.prog X.w) X.A (execs st X.env) (SP X pins D) X.xe s
abbrev TX:=St->Hp->VK->XK->Prop
structure QXe(X:Cx)(e:Expr)(t:TX):Prop where
 h:∀pins s σ H Q E,Cmp X E σ->Inv X pins σ H s->t σ H Q E->wpAny (model X.prog X.w) X.A (eval e X.env) (EP X pins σ Q) X.xe s
section
variable {r:Prop} {X:Cx} {st:Stmt} {rest:List Stmt} {t u:TS} {e:Expr} {tx:TX} {pos:Pos}
theorem qZ(h1:QX r X st t)(h2:QXs r X rest u):QXs r X (st::rest) (tSeq t u):=⟨λpins s σ H D c I h=>by
 refine wpAny_execs_cons (thn (h1.h pins s σ H { D with nx:=u D } c I h) λf s1 q=>?_);cases f with
 |next =>
  obtain⟨σ',H',I',q⟩:=q;exact h2.h pins s1 σ' H' D c I' q
 |ret v=>exact q
 |brk=>exact q
 |cont=>exact q⟩
theorem j4:QXs r X [] Vx:=⟨λpins s σ H D c I h=>wpAny_execs_nil ⟨σ,H,I,h⟩⟩
theorem qY(h1:QX r X st t):QXs r X [st] t:=⟨λpins s σ H D c I h=>by
 refine wpAny_execs_cons (thn (h1.h pins s σ H D c I h) λf s1 q=>?_);cases f with
 |next=>exact wpAny_execs_nil q
 |ret v=>exact q
 |brk=>exact q
 |cont=>exact q⟩
theorem ZN(h:QS X.nox st t):QX r X st t:=⟨λpins s σ H D _ I q=>wpAny_mono (h.h pins s σ H D (I.wish _) q) (λ_ _ z=>z.unwish) λ_ _ z=>False.elim z⟩
theorem Yr(hc:QT X.nox c tc)(ha:QXs r X a t)(hb:QXs r X b u):QX r X (.If c a b pos) (tIfS tc t u):=⟨λpins s σ H D k I h=>by
 refine wpAny_If (thn (hc.h.nox pins s σ H _ I h) λd s1 ⟨H1,I1,q1⟩=>?_);cases d with
 |true=>exact ha.h pins s1 σ H1 D k I1 q1
 |false=>exact hb.h pins s1 σ H1 D k I1 q1⟩
def tDropX(tx:TX)(mg:Str->Option Value):TS:=λD σ H=>tx σ H (λ_ H1=>D.nx σ H1) (EX mg D σ)
theorem vM(he:QXe X e tx)(hs:swapsWith e none pos.line X.env=pure false:=by rfl):QX r X (.Expr e pos) (tDropX tx X.mg):=⟨λpins s σ H D k I h =>
 wpAny_Expr_any (thn (he.h pins s σ H _ _ (k.1 σ) I h) λv s1 ⟨x,H1,I1,r1,q1⟩=>⟨σ,H1,I1,q1⟩) I.quiet hs⟩
def tSetX(i:Nat)(tx:TX)(mg:Str->Option Value):TS:=λD σ H=>tx σ H (λv H1=>D.nx (σ.set i (some v)) H1) (EX mg D σ)
theorem WG(hN:X.N.Nodup)(hi:X.N[i]?=some x)(hx:Loc X.env.scope x)(he:QXe X e tx)(hs:swapsWith e (some (.Name x pos')) pos.line X.env=pure false:=by rfl)(hf:X.fn x=true\/X.env.scope.names.lookup x=some .local:=by first|exact .inl rfl|exact .inr rfl|assumption) :
  QX r X (.Assign [.Name x pos'] e pos) (tSetX i tx X.mg):=⟨λpins s σ H D k I h=>by
 refine wpAny_Assign_Name (thn (he.h pins s σ H _ _ (k.1 σ) I h) λv s1 ⟨y,H1,I1,r1,q1⟩=>?_) hs;exact xC I1 hN hi hx r1 (λs2 I2=>⟨_,H1,I2,q1⟩) hf⟩
theorem Wt(F:FnOk X.prog X.w X.K X.mg X.base (CXe X.prog X.w) k f fd ps sp)(hr:Room k X.A)(hb:Binds X.K fd ps [])(hx:Cmp X E σ)(I:Inv X pins σ H s)(rv:Vals vs us)(h:sp vs H Q E):wpAny (model X.prog X.w) X.A (call (.ref f) us) (EP X pins σ Q) X.xe s:=by
 have hl:us.length=ps.length:=by rw[<-rv.length]; exact F.len _ _ _ _ h
 refine wpAny_call (codeAny_mono (F.run X.A X.stack s H ⟨us, []⟩ us vs Q E hr I.env0 (by simpa using hb s us I.kIn (by simpa using hl)) rv h) λrr s' hq=>?_);cases rr with
 |error e=>exact hx pins H s e s' I hq
 |ok fl =>
  cases fl with
  |ret u=>exact I.after hq
  |next=>exact False.elim hq
  |brk=>exact False.elim hq
  |cont=>exact False.elim hq
structure DefX(P:Program)(w:World)(Ξ:PySem.W.Frag)(mg:Str->Option Value)(base:Heap)(x:Str)(k:Nat)(ps:List Str)(sp:Sp):Prop where
 ex:∃(f:Addr)(fd:FuncData),mg x=some (.ref f)/\W.keepIn Ξ (.ref f)=true/\Binds Ξ fd ps []/\FnOk P w Ξ mg base (CXe P w) k f fd ps sp
structure MDefX(P:Program)(w:World)(Ξ:PySem.W.Frag)(mg:Str->Option Value)(base:Heap)(C:Addr)(m:Str)(k:Nat)(ps:List Str)(sp:Sp):Prop where
 ex:∃(f:Addr)(fd:FuncData),Meth Ξ C m f/\Binds Ξ fd ps []/\FnOk P w Ξ mg base (CXe P w) k f fd ps sp
def tCallX(sp:Sp)(t:TA):TX:=λσ H Q E=>t σ H λvs H1=>sp vs H1 Q E
theorem jg(D:DefX X.prog X.w X.K X.mg X.base x k ps sp)(hr:Room k X.A)(ha:QA X.nox (e::es) ta)(hg:Gl X x:=by rfl)(hdb:(x==("__debug__" : Str))=false:=by decide)(he:starEach (e::es) X.env=(false,eval e X.env)::starEach es X.env:=by rfl)(hpl:(backTo pos (starEach es X.env)).any (·.1)=false:=by rfl) :
  QXe X (.Call (.Name x p) (e::es) [] pos) (tCallX sp ta):=⟨λpins s σ H Q E hx I h=>by
 obtain⟨f,fd,hm,hk,hb,F⟩:=D.ex;refine wpAny_Call_Name_kw (zM I hg hm ?_ hdb);refine DI (h₀:=X.base) I.ok.mod.kin hk (wpAny_mono (ha.h pos pins s σ H _ (I.wish _) h) (λus s1 ⟨vs,H1,I1,r,q⟩=>⟨I1.unwish.kIn, ?_⟩) λ_ _ z=>False.elim z) he hpl;exact Wt F hr hb hx I1.unwish r q⟩
def tMethX(C:Addr)(m:Str)(sp:Sp)(ta:TE)(t:TA):TX:=λσ H Q E=>ta σ H λx H1=>∃a dx fs,x=.ref a/\H1 a=some (.ins C dx fs)/\fs.lookup m=none/\t σ H1 λvs H2=>sp (x::vs) H2 Q E
theorem vf(hq:QE X.nox o ta)(c:Cls X.K C)(D:MDefX X.prog X.w X.K X.mg X.base C m k ps sp)(hr:Room k X.A)(ha:QA X.nox (e::es) tl)(hst:starEach (e::es) X.env=(false,eval e X.env)::starEach es X.env:=by rfl)(hpl:(backTo pos (starEach es X.env)).any (·.1)=false:=by rfl)(ht:eval (.Call (.Attribute o m apos) (e::es) [] pos) X.env=(do
   let ov <-eval o X.env
   standAt apos.atName;let(f,first) <-holding [ov] (getMethod ov m pl)
   callWith pos f first (backTo pos (starEach (e::es) X.env)) (backToKw pos (keywordEach [] X.env))):=by rfl) :
  QXe X (.Call (.Attribute o m apos) (e::es) [] pos) (tMethX C m sp ta tl):=⟨λpins s σ H Q E hx I h=>by
 obtain⟨f,fd,hm,hb,F⟩:=D.ex;refine Dr (pl:=pl) (thn (hq.h.nox pins s σ H _ I h) λu s1 ⟨x,H1,I1,rx,a,dx,fs,ex,ea,l,q⟩=>?_) ht;subst ex;obtain rfl:u=Value.ref a:=rx;refine xH I1 ea c hm l ?_;refine DI (first:=[.ref a]) (h₀:=X.base) I.ok.mod.kin hm.kp (wpAny_mono (ha.h pos pins s1 σ H1 _ (I1.wish _) q) (λus s2 ⟨vs,H2,I2,r,q2⟩=>⟨I2.unwish.kIn, ?_⟩) λ_ _ z=>False.elim z) hst hpl;exact Wt (us:=.ref a::us) (vs:=.ref a::vs) F hr hb hx I2.unwish (.cons rfl r) q2⟩
end
theorem own_obj(X:Ξ.In h)(q:W.excIn Ξ C bmB newId=true) :
  ∃bm N nm qn bs hdct sn sub ab col dd k0 k1 k2 k3 k5 mN,h.get? C=some (excClassObj nm qn C N bs bm hdct sn sub ab col dd k0 k1 k2 k3 k5 newId)/\h.Ns N mN/\mN "__init__" = none/\OwnTail h bmB bm:=by
 unfold W.excIn at q;split at q
 ·rename_i dd cd sl ho
  split at q
  ·rename_i C' bm k0 k1 k2 k3 n k5 hm hs
   obtain⟨nm,bs,mro,ns,qn,hd,sn,sub,ab,col,del⟩:=cd;simp only[DF,beq_iff_eq,Rx] at q hm;obtain⟨⟨⟨⟨⟨z1,z2⟩,z3⟩,z4⟩,z5⟩,z6⟩:=q;subst z1; subst z2; subst hm; subst z3;obtain⟨l⟩:=sl;have hs:l=_:=hs;subst hs;exact⟨bm,ns,nm,qn,bs,hd,sn,sub,ab,col,dd,k0,k1,k2,k3,k5,_,X _ _ ho, .of_isNs (W.isNs_of_in X z5),W.nsMap_none_of_in X z5 z6,W.tail_of_in X z4⟩
  ·cases q
 ·cases q
structure ExcC(Ξ:PySem.W.Frag)(mg:Str->Option Value)(x:Str)(C:Addr):Prop where
 b:mg x=some (.ref C)
 o:W.excIn Ξ C [.type "ValueError", .type "Exception", .type "BaseException", .type "object"] "ValueError.__new__" = true
theorem untr_upd(h:H a=none):untr (upd H a o) a=H:=by
 funext b;unfold untr upd;split
 ·rename_i q; rw[q,h]
 ·rfl
theorem Inv.none0(I:Inv X pins σ H s)(hx:e∉X.ex)(h:s.heap.get? e=none):X.s₀.heap.get? e=none:=by
 cases z:X.s₀.heap.get? e with
 |none=>rfl
 |some o =>
  obtain⟨o',q⟩:=I.base.there e o z hx;rw[h] at q; cases q
theorem ObjOk.here(x:ObjOk P w H h a o):∃u,h.get? a=some u:=by
 cases o with
 |lst xs=>obtain⟨_,_,_,_,e⟩:=x; exact⟨_,e⟩
 |tup xs=>obtain⟨_,_,_,o,e,_⟩:=x; exact⟨o,e⟩
 |dK kvs=>obtain⟨_,_,_,_,o,_,_,e,_⟩:=x; exact⟨_,e⟩
 |dT kvs=>obtain⟨_,_,_,_,o,_,_,e,_⟩:=x; exact⟨_,e⟩
 |set S n=>obtain⟨o,_,_,_,e,_⟩:=x; exact⟨_,e⟩
 |ins C dx fs=>obtain⟨_,_,_,e,_⟩:=x; exact⟨_,e⟩
 |own y=>obtain⟨_,e⟩:=x; exact⟨_,e⟩
 |xd fs=>obtain⟨_,⟨_,_,_,e,_⟩,_⟩:=x; exact⟨_,e⟩
 |rng lo hi=>obtain⟨_,_,_,e⟩:=x; exact⟨_,e⟩
 |frz ob u=>obtain⟨e,_⟩:=x; exact⟨_,e⟩
 |tbl ps=>exact⟨_,(show h.get? a=some _ from x)⟩
 |met f y=>exact⟨_,(show h.get? a=some _ from x)⟩
 |ext φ=>obtain⟨_,⟨o,e⟩,_⟩:=x; exact⟨o,e⟩
theorem Inv.exc(I:Inv X pins σ H s)(hm:Heap.MadeExcOf s.heap h1 e (.ref C) args):H e=none/\Inv X pins σ (upd H e (excO e C none)) { s with heap:=h1 }:=by
 obtain⟨k,hn,t,ht,_⟩:=hm;have fr:H e=none:=by
  cases z:H e with
  |none=>rfl
  |some o =>
   obtain⟨u,q⟩:=(I.hok e o z).here;rw[hn] at q; cases q
 refine⟨fr, ?_⟩;refine I.un (h':=h1) (t':=s.toks) ⟨λb u q _ _ _=>k b u q,λb u q _ _ _=>⟨u.slots,k b u q⟩,λb u q n _=>?_,λb u q _=>⟨u,k b u q⟩,λb xs q=>?_,λb u xs q=>?_,λb ps q=>⟨#[], ?_⟩⟩ λb u q=>?_
 ·rw[upd_ne λz=>by rw[z,hn] at q; cases q]; exact n
 ·rw[upd_ne (qS q fr)]; exact q
 ·rw[upd_ne (qS q fr)]; exact q
 ·rw[upd_ne (qS q fr),q]; simp
 ·by_cases hb:b=e
  ·subst hb; rw[upd_same] at q; cases q; exact JP (t:=t) ht
  ·rw[upd_ne hb] at q
   exact(I.hok b u q).stay (λc v _ q=>k c v q) (λc q=>by rw[upd_ne (qS q fr)]; exact q) λc xs q=>by rw[upd_ne (qS q fr)]; exact q
def tRaise(x:Str)(t:TA):TS:=λD σ H=>t σ H λvs H1=>vs.length<=sizeLine/\D.bk (some (.str x)::some .non::σ) H1
theorem VU(hc:X.calm=true)(hx:X.ex=[])(O:ExcC X.K X.mg x C)(ha:QA X.nox (e::es) ta)(hg:Gl X x:=by rfl)(hdb:(x==("__debug__" : Str))=false:=by decide)(he:starEach (e::es) X.env=(false,eval e X.env)::starEach es X.env:=by rfl)(hpl:(backTo cpos (starEach es X.env)).any (·.1)=false:=by rfl) :
  QX True X (.Raise (some (.Call (.Name x np) (e::es) [] cpos)) none pos) (tRaise x ta):=⟨λpins s σ H D k I h=>by
 obtain⟨bm,N,nm,qn,bs,hdct,sn,sub,ab,col,dd,k0,k1,k2,k3,k5,mN,hC,hN,hni,T⟩:=own_obj I.mod.kin O.o;have hh:=I.ok.hd hc;refine wpAny_Raise_call_subU (C:=C) (nm:=nm) (q:=qn) (N:=N) (bs:=bs) (bm:=bm) (hdct:=hdct) (sn:=sn) (sub:=sub) (ab:=ab) (col:=col) (dd:=dd) (k0:=k0) (k1:=k1) (k2:=k2) (k3:=k3) (k5:=k5)
  PySem.F.excBase_ValueError (by decide) PySem.F.excBase_ValueError (mN:=mN) (T.hasType PySem.F.excBase_ValueError.hasBase) hh (by rw[he]; show(false||(backTo cpos (starEach es X.env)).any (·.1))=false; rw[hpl]; rfl) hni (zM I hg O.b ⟨rfl, ?_⟩ hdb)
 have h1:=ha.h cpos pins s σ H _ (I.wish _) h;rw[he] at h1 ⊢;refine Calls.evalArgs_plain (wpAny_mono h1 (λvs s₂ ⟨xs,H1,I1,r,hl,q⟩=>?_) λ_ _ z=>False.elim z);have I2:=I1.unwish;refine⟨rfl,by rw[<-r.length]; exact hl,I2.bk _ _ hC,hN.keeps I2.bk,T.keeps I2.bk,λh' e' hm=>?_⟩;obtain⟨fr,J⟩:=I2.exc hm;refine k.2 trivial pins σ _ _ e' C none J upd_same (I2.none0 (by rw[hx]; simp) hm.new) ⟨x,none,O.b,rfl, ?_⟩;rw[untr_upd fr];exact q⟩
abbrev Qi(n:Int):Prop:=n.natAbs.log2<1920/\(Str.ofString (toString n)).length<=10000/\n<1000000
def spI(C:Addr):Sp:=λvs H Q _=>∃a n,vs=[.ref a, .int n]/\Qi n/\H a=some (excO a C none)/\∀d,H d=none->Q .non (upd (upd H d (.xd [("part", .int n)])) a (excO a C (some d)))
structure ExcD(P:Program)(w:World)(Ξ:PySem.W.Frag)(mg:Str->Option Value)(base:Heap)(x:Str)(C:Addr)(k:Nat):Prop where
 b:mg x=some (.ref C)
 ex:∃f fd,ExcK Ξ C f/\Binds Ξ fd ["self","part"] []/\FnOk P w Ξ mg base CX0 k f fd ["self","part"] (spI C)
def Wb(x:Str)(t:TA):TS:=λD σ H=>t σ H λvs H1=>∃n,vs=[.int n]/\Qi n/\∀d,H1 d=none->D.bk (some (.str x)::some (.int n)::σ) (upd H1 d (.xd [("part", .int n)]))
theorem Qv(hc:X.calm=true)(hx:X.ex=[])(O:ExcD X.prog X.w X.K X.mg X.base x C kk)(hr:Room (kk+1) X.A)(ha:QA X.nox (e::es) ta)(hg:Gl X x:=by rfl)(hdb:(x==("__debug__" : Str))=false:=by decide)(he:starEach (e::es) X.env=(false,eval e X.env)::starEach es X.env:=by rfl)(hpl:(backTo cpos (starEach es X.env)).any (·.1)=false:=by rfl) :
  QX True X (.Raise (some (.Call (.Name x np) (e::es) [] cpos)) none pos) (Wb x ta):=⟨λpins s σ H D k I h=>by
 obtain⟨f,fd,ck,hb,F⟩:=O.ex;have hh:=I.ok.hd hc;refine PySem.W.Raise_I (C:=C) (f:=f) hh (by rw[he]; show(false||(backTo cpos (starEach es X.env)).any (·.1))=false; rw[hpl]; rfl) (zM I hg O.b ⟨rfl, ?_⟩ hdb);have h1:=ha.h cpos pins s σ H _ (I.wish _) h;rw[he] at h1 ⊢;refine Calls.evalArgs_plain (wpAny_mono h1 (λus s₂ ⟨xs,H1,I1,r,n,ev,hn,q⟩=>?_) λ_ _ z=>False.elim z);subst ev;have I2:=I1.unwish;have hl1:us.length=1:=by rw[<-r.length]; rfl
 refine⟨rfl,by show us.length<=_; rw[hl1,sizeLine_eq]; lia,W.excI_of I2.kIn ck.i,λh' e' hm=>?_⟩;obtain⟨fr,J⟩:=I2.exc hm;have r2:Vals [V.ref e',V.int n] (Value.ref e'::us):=.cons rfl r;refine wpAny_call (codeAny_mono (F.run _ X.stack _ _ ⟨Value.ref e'::us, []⟩ (Value.ref e'::us) _ (λv H2=>v=.non/\∃d,H1 d=none/\d≠e'/\H2=upd (upd (upd H1 e' (excO e' C none)) d (.xd [("part", .int n)])) e' (excO e' C (some d))) E0 (hr.make C us [])
  (J.env0.make C us []) (by simpa using hb _ (Value.ref e'::us) J.kIn (by simp[hl1])) r2 ⟨e',n,rfl,hn,upd_same,λd hd=>⟨rfl,d, ?_, ?_,rfl⟩⟩) λrr s' hq'=>?_)
 ·by_cases z:d=e'
  ·subst z; rw[upd_same] at hd; cases hd
  ·rwa [upd_ne z] at hd
 ·intro z; subst z; rw[upd_same] at hd; cases hd
 ·cases rr with
  |error e=>exact False.elim hq'
  |ok fl =>
   cases fl with
   |ret u =>
    obtain⟨v,H2,I3,rv,ev,d,hd1,hd2,eH⟩:=J.after hq';subst ev eH;obtain⟨t,ht⟩:=kX I3.hok (upd_same (H:=upd (upd H1 e' (excO e' C none)) d (.xd [("part", .int n)])) (o:=excO e' C (some d)));refine⟨rv,some d,t,W.excI_of I3.kIn ck.i,ht, ?_⟩;refine k.2 trivial pins σ _ _ e' C (some d) I3 upd_same (I2.none0 (by rw[hx]; simp) hm.new) ⟨x,some n,O.b,⟨d,rfl, ?_⟩, ?_⟩
    ·rw[xX hd2,upd_ne hd2,upd_same,xfs_part hn.2.2]
    ·have eU:untr (upd (upd (upd H1 e' (excO e' C none)) d (.xd [("part", .int n)])) e' (excO e' C (some d))) e'=upd H1 d (.xd [("part", .int n)]):=by
      funext b;unfold untr upd;by_cases z:b=e'
      ·subst z; simp only[if_true]; rw[if_neg (Ne.symm hd2),fr]
      ·simp only[z,if_false]
     rw[eU];exact q d hd1
   |next=>exact False.elim hq'
   |brk=>exact False.elim hq'
   |cont=>exact False.elim hq'⟩
section
def bkX(n:Nat)(mg:Str->Option Value)(E:XK):St->Hp->Prop:=λτ H'=>∃nm p σ',τ=some (.str nm)::some (pV p)::σ'/\σ'.length=n/\∀C d,mg nm=some C->PartIs d H' p->E C d H'
theorem bkX.ex(h:EX mg { nx:=nx,rt:=Q,bk:=bkX n mg E } σ C d H'):E C d H':=by
 obtain⟨nm,p,hm,hp,nm',p',σ',e,_,k⟩:=h;simp only[List.cons.injEq,Option.some.injEq,V.str.injEq] at e;exact k C d (e.1▸hm) (pV_inj e.2.1▸hp)
theorem Fun.okX{st:Stmt}(F:Fun Ξ x qual st f fd)(S:FnScope N ps (qg st))(len:∀vs H Q E,sp vs H Q E->vs.length=ps.length)(hbody:∀(cdv:Value)(A:Around)(outer:List Env)(s:Shared)(H:Hp)(vs:List V)(Q:VK)(E:XK),Room k (A.deeper (envOfC qual (qg st) s.heap.objs.size f cdv))->sp vs H Q E ->
   ∃t,QXs True (cxOf (CXe P w) P w Ξ mg base N qual (qg st) f cdv A outer s H E) (vz st) t/\t { nx:=λ_ H'=>Q .non H',rt:=Q,bk:=bkX N.length mg E } (start N vs) H):FnOk P w Ξ mg base (CXe P w) (k+1) f fd ps sp:=by
 obtain⟨oc,od,kV,doc,pm,an,cdv,ct,osl,rfl,lk,hcd⟩:=F.ex;refine fn_of lk hcd S len λA outer s H vs Q E hr hsp=>?_;obtain⟨t,h,q⟩:=hbody cdv A outer s H vs Q E hr hsp;refine⟨λD σ H1=>D={ nx:=λ_ H'=>Q .non H',rt:=Q }/\t { nx:=λ_ H'=>Q .non H',rt:=Q,bk:=bkX N.length mg E } σ H1,λpins s1 σ H1 D I hd=>?_,rfl,q⟩;obtain⟨rfl,hd⟩:=hd;have Y:Body (cxOf (CXe P w) P w Ξ mg base N qual (qg st) f cdv A outer s H E) outer:=⟨rfl,rfl,rfl,rfl⟩;refine wpAny_mono (h.h pins s1 σ H1 _ ⟨λσ pins H s e s' I hx=>?_,λ_ pins σ H s e C d I hm h0 hx=>?_⟩ I hd) (λfl s' z=>?_) λ_ _ z=>z
 ·exact Gf Y I I.ok.frames (hx.mono λC d H' z=>bkX.ex z)
 ·exact JE Y I I.ok.frames hm h0 (bkX.ex hx)
 ·cases fl with
  |next=>exact z
  |ret u=>exact z
  |cont=>exact z
  |brk =>
   obtain⟨σ',H',I',nm,p,σ'',e,hl,_⟩:=z;have:=I'.len;rw[e,Um,Um,hl] at this;exact absurd this (by show N.length+1+1≠N.length; lia)
end
section
theorem Fli.un(F:Fli P w outer H s a C d H' s'):Un (frs outer) [] H H' s.heap s'.heap/\HOk P w H' s'.heap:=by
 obtain⟨B,a0,fl,hok,nb,kp,th⟩:=F.fly;refine⟨⟨λb o q n hb _=>fl.1 b o (kp b o q n hb),λb o q n hb _=>F.up b o q n hb,λb o q n _=>F.free b o q n,λb o q _=>?_,F.tups,F.frzs,F.tbls⟩,hok.kept fl.1⟩;cases hb:H b with
 |some u =>
  obtain⟨o',e⟩:=th b o q (by rw[hb]; simp);exact⟨o',fl.1 b o' e⟩
 |none =>
  by_cases hf:b∈frs outer
  ·obtain⟨sl,e⟩:=F.up b o q hb hf
   exact⟨_,e⟩
  ·exact⟨o,fl.1 b o (kp b o q hb hf)⟩
theorem Fli.inv(I:Inv X pins σ H s)(F:Fli X.prog X.w X.stack H s a C d H' s'):Inv X pins σ H' s' :=
 I.call' F.os F.un.1 F.un.2 F.bare (ch:=[]) λb z=>absurd z (by simp)
theorem Fli.step(F:Fli P w outer H s a C d H' s'):∃B a0,Heap.FlyingW B outer a C a0 s'.heap/\∀h',Heap.FlyingW B outer a C a0 h'->s'.heap.UpToSlots h'->Obk s'.heap h'->Fli P w outer H s a C d H' { s' with heap:=h' }:=by
 obtain⟨B,a0,fl,hok,nb,kp,th⟩:=F.fly;refine⟨B,a0,fl,λh' fl' up kd=>⟨λo q=>by
  obtain⟨o1,e1,_⟩:=fl.there;exact(kd.get (d:=0) e1 q).trans (F.own o1 e1),F.os,F.bare,⟨B,a0,fl',hok,nb,kp,th⟩,λb o q n hb=>?_,F.free,F.tups,F.frzs,F.tbls⟩⟩
 obtain⟨sl,e⟩:=F.up b o q n hb;obtain⟨_,o',ho',hd⟩:=fl.2.2.1.mem (show b∈outer.filterMap (·.frame) from hb);rw[e] at ho'; cases ho';obtain⟨sl2,e2⟩:=up b _ e hd;exact⟨sl2,e2⟩
theorem Fli.ty(F:Fli P w outer H s a C d H' s'):PySem.W.Looks M s'.heap (typeOf (.ref a)) C:=by
 obtain⟨B,a0,fl,_⟩:=F.fly;obtain⟨ob,hob,hc⟩:=fl.there;subst hc;exact(PySem.W.Looks.ld hob).andThen .now
end
abbrev Cx.caught(X:Cx)(a:Addr):Cx:={ X with A:=X.A.mark (some (.ref a)),calm:=false,xe:=λ_ _=>False }
section
theorem Inv.caught(I:Inv X pins σ H s)(a:Addr):Inv (X.caught a) pins σ H s :=
 ⟨⟨I.ok.mod,I.ok.kind,I.ok.glob,I.ok.blt,I.ok.above,I.ok.inj,I.ok.has,I.ok.cab,(λz=>nomatch z),I.ok.frames,I.ok.stk,I.ok.exf,I.ok.bs,I.ok.bsz,I.ok.noex,I.ok.exfs,I.ok.funs,I.ok.frf⟩,I.os,I.bare,I.base,I.loc,I.cell,I.free,I.freeC,I.pin,I.hok,I.len⟩
theorem Inv.back(ok:X.Ok)(I:Inv (X.caught a) pins σ H s):Inv X pins σ H s:=⟨ok,I.os,I.bare,I.base,I.loc,I.cell,I.free,I.freeC,I.pin,I.hok,I.len⟩
abbrev Cx.tried(X:Cx)(pins:List (Addr×Obj))(xe:Value->Shared->Prop):Cx:={ X with pn:=X.pn++pins,xe:=xe }
theorem Inv.tried(I:Inv X pins σ H s)(xe:Value->Shared->Prop):Inv (X.tried pins xe) [] σ H s :=
 ⟨⟨I.ok.mod,I.ok.kind,I.ok.glob,I.ok.blt,I.ok.above,I.ok.inj,I.ok.has,I.ok.cab,I.ok.hd,I.ok.frames,I.ok.stk,I.ok.exf,I.ok.bs,I.ok.bsz,I.ok.noex,I.ok.exfs,I.ok.funs,I.ok.frf⟩,I.os,I.bare,I.base,I.loc,I.cell,I.free,I.freeC,λp hp=>I.pin p (by simpa using hp),I.hok,I.len⟩
theorem Inv.untried(ok:X.Ok)(I:Inv (X.tried pins xe) pins' σ H s):Inv X pins σ H s :=
 ⟨ok,I.os,I.bare,I.base,I.loc,I.cell,I.free,I.freeC,λp hp=>I.pin p (UD _ hp),I.hok,I.len⟩
end
structure QH(X:Cx)(hs:List ExceptHandler)(C:Value)(q:Option Int)(t:TS):Prop where
 h:∀pins σ H1 s1 d H' s a D,Inv X pins σ H1 s1->Fli X.prog X.w X.stack H1 s1 a C d H' s->PartIs d H' q->t D σ H'->wpAny (model X.prog X.w) X.A (handleBy (.ref a) X.env hs) (SP X pins D) X.xe s
section
theorem qh_hit(hm:X.mg x=some cX)(he:W.exmOne X.K C cX=some true)(hb:∀a,QSs (X.caught a) (b0::suite) t)(hg:Gl X x:=by rfl)(hdb:(x==("__debug__" : Str))=false:=by decide) :
  QH X (.ExceptHandler (some (.Name x p)) none (b0::suite) pos::hs) C qp t:=⟨λpins σ H1 s1 d H' s a D I F hq h=>by
 have J:=F.inv I;refine wpAny_handleBy_cons (codeAny_handlers_test (zM (X:=X.caught a) (J.caught a) hg hm ?_ hdb)) (by intro q; cases q);refine W.exm_one J.kIn F.ty he _ _ _ s (λ_ _ z=>z) ?_;show codeAny _ _ _ _ s;refine codeAny_handlers_suite ?_;obtain⟨B,a0,fl,st⟩:=F.step;refine wpAny_mono (DK.any (xz _ _) (lands_againW fl (Q:=λ_ s2=>(Heap.FlyingW B X.stack a C a0 s2.heap/\s.heap.UpToSlots s2.heap)/\∃h',s2={ s with heap:=h' }) (E:=λ_ _=>False) λh' x1 x4=>⟨⟨x1,x4⟩,h',rfl⟩)) (λ_ s2 z=>?_) λ_ _ q=>q.1.elim;obtain⟨⟨⟨fl',up⟩,h',rfl⟩,kd⟩:=z;have J2:=(st h' fl' up kd).inv I;refine wpAny_mono ((hb a).h pins _ σ H' D (J2.caught a) h) (λf s2 q=>?_) λ_ _ z=>False.elim z;cases f with
 |next=>obtain⟨σ',H2,I2,q⟩:=q; exact⟨σ',H2,I2.back I.ok,q⟩
 |brk=>obtain⟨σ',H2,I2,q⟩:=q; exact⟨σ',H2,I2.back I.ok,q⟩
 |cont=>obtain⟨σ',H2,I2,q⟩:=q; exact⟨σ',H2,I2.back I.ok,q⟩
 |ret u=>obtain⟨v,σ',H2,I2,r,q⟩:=q; exact⟨v,σ',H2,I2.back I.ok,r,q⟩⟩
end
def tTry(n:Nat)(tb:TS)(l:List (Str×(Option Int->TS))):TS:=λD σ H=>tb { D with bk:=λτ H'=>∃nm p σ' t,τ=some (.str nm)::some (pV p)::σ'/\σ'.length=n/\l.lookup nm=some t/\t p D σ' H' } σ H
theorem qs_try(Y:Body X outer)(hb:∀pins xe,QXs False (X.tried pins xe) body tb)(hh:∀nm t C,l.lookup nm=some t->X.mg nm=some C->∀p,QH X (h0::hs) C p (t p)):QS X (.Try body (h0::hs) [] [] pos) (tTry X.N.length tb l):=⟨λpins s σ H D I h=>by
 refine wpAny_Try_except ?_;refine wpAny_mono ((hb pins λe s1=>wpAny (model X.prog X.w) X.A (noteFrame e X.env) (λ_ s₂=>wpAny (model X.prog X.w) X.A (setFlight e none) (λ_ s₃=>wpAny (model X.prog X.w) X.A (handleBy e X.env (h0::hs)) (SP X pins D) X.xe s₃) X.xe s₂) X.xe s1).h [] s σ H _ ⟨λσ1 pins' H1 s1 e s' IY hx=>?_,λz=>z.elim⟩ (I.tried _) h) (λf s1 q=>?_) λ_ _ z=>z
 ·obtain⟨a,C,d,H',rfl,F,nm,p,hm,hp,nm',p',σ',t,e,hl,ht,q⟩:=hx
  simp only[List.cons.injEq,Option.some.injEq,V.str.injEq] at e;obtain⟨rfl,ep,rfl⟩:=e;obtain rfl:=pV_inj ep;have I1:Inv X pins σ1 H1 s1:=IY.untried I.ok;have F:Fli X.prog X.w X.stack H1 s1 a C d H' s':=F;obtain⟨B,a0,fl,st⟩:=F.step;have hA:X.A.frames=some (X.env::outer):=by rw[<-Y.stk]; exact I.ok.frames
  rw[Y.stk] at fl;refine wpAny_mono (DK.any (qam _ _) (wpAny_looks_onW hA Y.fr fl (Q:=λ_ s2=>(Heap.HeldW B (X.env::outer) a C a0 X.env.locals s2.heap/\s'.heap.UpToSlots s2.heap)/\∃h',s2={ s' with heap:=h' }) (E:=λ_ _=>False) λh' x1 x4=>⟨⟨x1,x4⟩,h',rfl⟩)) (λ_ s2 z=>?_) λ_ _ q=>q.1.elim;obtain⟨⟨⟨held,up1⟩,h1,rfl⟩,kd1⟩:=z;refine wpAny_mono (DK.any (xz _ _) (wpAny_landsW (s:={ s' with heap:=h1 }) held (Q:=λ_ s2=>(Heap.FlyingW B (X.env::outer) a C a0 s2.heap/\h1.UpToSlots s2.heap)/\∃h',s2={ s' with heap:=h' }) (E:=λ_ _=>False) λh' x1 x4=>⟨⟨x1,x4⟩,h',rfl⟩)) (λ_ s2 z=>?_) λ_ _ q=>q.1.elim;obtain⟨⟨⟨fl2,up2⟩,h2,rfl⟩,kd2⟩:=z;exact(hh nm t C ht hm p).h pins σ1 H1 s1 d H' _ a D I1 (st h2 (by rw[Y.stk]; exact fl2) (up1.trans up2) (kd1.trans kd2)) hp q
 ·cases f with
  |next=>obtain⟨σ',H2,I2,q⟩:=q; exact wpAny_execs_nil ⟨σ',H2,I2.untried I.ok,q⟩
  |cont=>obtain⟨σ',H2,I2,q⟩:=q; exact⟨σ',H2,I2.untried I.ok,q⟩
  |ret u=>obtain⟨v,σ',H2,I2,r,q⟩:=q; exact⟨v,σ',H2,I2.untried I.ok,r,q⟩
  |brk =>
   obtain⟨σ',H2,I2,nm,p,σ'',t,e,hl,_⟩:=q;have:=I2.len;rw[e,Um,Um,hl] at this;exact absurd this (by show X.N.length+1+1≠X.N.length; lia)⟩
end L2
namespace PySem
theorem Paired.of_get{α β:Type}{F:α->β->Prop}:∀{l:List α}{m:List β},l.length=m.length->(∀(i:Nat) x y,l[i]?=some x->m[i]?=some y->F x y)->Paired F l m
 | [], [],_,_=>.nil
 | [],_::_,h,_=>by simp at h
 |_::_, [],h,_=>by simp at h
 |x::l,y::m,h,r=>.cons (r 0 x y rfl rfl) (Paired.of_get (by simpa using h) λi a b ha hb=>r (i+1) a b (by simpa using ha) (by simpa using hb))
theorem Paired.len{α β:Type}{F:α->β->Prop}:∀{l:List α}{m:List β},Paired F l m->l.length=m.length
 |_,_, .nil=>rfl
 |_,_, .cons _ t=>by rw[Um,Um,Paired.len t]
theorem Paired.get2{α β:Type}{F:α->β->Prop}:∀{l:List α}{m:List β}{i:Nat}{x:α}{y:β},Paired F l m->l[i]?=some x->m[i]?=some y->F x y
 |_,_,_,_,_, .nil,h,_=>by simp at h
 |_,_,0,_,_, .cons r _,h,k=>by simp at h k; subst h k; exact r
 |_,_,i+1,_,_, .cons _ t,h,k=>Paired.get2 (i:=i) t (by simpa using h) (by simpa using k)
theorem Paired.getR{α β:Type}{F:α->β->Prop}{l:List α}{m:List β}{i:Nat}{y:β}(h:Paired F l m)(e:m[i]?=some y):∃x,l[i]?=some x/\F x y:=by
 have hl:=h.len;have hi:=(Ue.mp e).1;have hx:l[i]?=some (l[i]'(by lia)):=Uf (by lia);exact⟨_,hx,h.get2 hx e⟩
theorem Paired.getL{α β:Type}{F:α->β->Prop}{l:List α}{m:List β}{i:Nat}{x:α}(h:Paired F l m)(e:l[i]?=some x):∃y,m[i]?=some y/\F x y:=by
 have hl:=h.len;have hi:=(Ue.mp e).1;have hx:m[i]?=some (m[i]'(by lia)):=Uf (by lia);exact⟨_,hx,h.get2 e hx⟩
theorem Paired.app{α β:Type}{F:α->β->Prop}:∀{l l':List α}{m m':List β},Paired F l m->Paired F l' m'->Paired F (l++l') (m++m')
 |_,_,_,_, .nil,h=>h
 |_,_,_,_, .cons r t,h=>.cons r (Paired.app t h)
theorem Paired.put{α β:Type}{F:α->β->Prop}{x:α}{y:β}(r:F x y):∀{l:List α}{m:List β}(i:Nat),Paired F l m->Paired F (l.set i x) (m.set i y)
 |_,_,_, .nil=>.nil
 |_,_,0, .cons _ t=>.cons r t
 |_,_,i+1, .cons q t=>.cons q (Paired.put r i t)
theorem Paired.tk{α β:Type}{F:α->β->Prop}:∀{l:List α}{m:List β}(n:Nat),Paired F l m->Paired F (l.take n) (m.take n)
 |_,_,0,_=>.nil
 |_,_,_+1, .nil=>.nil
 |_,_,n+1, .cons r t=>.cons r (Paired.tk n t)
theorem Paired.dr{α β:Type}{F:α->β->Prop}:∀{l:List α}{m:List β}(n:Nat),Paired F l m->Paired F (l.drop n) (m.drop n)
 |_,_,0,r=>r
 |_,_,_+1, .nil=>.nil
 |_,_,n+1, .cons _ t=>Paired.dr n t
theorem Paired.erase{α β:Type}{F:α->β->Prop}:∀{l:List α}{m:List β}(n:Nat),Paired F l m->Paired F (l.eraseIdx n) (m.eraseIdx n)
 |_,_,_, .nil=>.nil
 |_,_,0, .cons _ t=>t
 |_,_,n+1, .cons r t=>.cons r (Paired.erase n t)
theorem Paired.mapR{α β γ:Type}{F:α->β->Prop}{G:α->γ->Prop}{f:β->γ}(h:∀a b,F a b->G a (f b)):∀{l:List α}{m:List β},Paired F l m->Paired G l (m.map f)
 |_,_, .nil=>.nil
 |_,_, .cons r t=>.cons (h _ _ r) (Paired.mapR h t)
theorem Paired.unmapR{α β γ:Type}{F:α->β->Prop}{G:α->γ->Prop}{f:β->γ}(h:∀a b,G a (f b)->F a b):∀{m:List β}{l:List α},Paired G l (m.map f)->Paired F l m
 | [],_, .nil=>.nil
 |_::m,_, .cons r t=>.cons (h _ _ r) (Paired.unmapR h (m:=m) t)
theorem Paired.empt{α β:Type}{F:α->β->Prop}{l:List α}{m:List β}(h:Paired F l m):l.isEmpty=m.isEmpty:=by cases h<;>rfl
end PySem
namespace L2
open PySem PySem.Spec PyProof.Rows
inductive T where
 |non|bl (b:Bool)|int (i:Int)|str (x:Str)|tup (xs:List T)|lst (xs:List T)
inductive U where
 |p (t:T)|m (k:Nat)|x (a:Addr) (d:Option Addr) (q:Option Int)
inductive MO where
 |lst (us:List U)|tup (us:List U)|ins (C:Addr) (fs:List (Str×U))|dK (kvs:List (Key×U))|dF (kvs:List (Key×U)) (ob:Obj) (gs:List (Key×V))|tab (P:Addr) (pos:Pos) (qual:Str)
abbrev MM:=List MO
abbrev UEnv:=List (Option U)
inductive RepT(A:Addr->Prop)(H:Hp):V->T->Prop
 |non:RepT A H .non .non
 |bl (b:Bool):RepT A H (.bl b) (.bl b)
 |int (i:Int):RepT A H (.int i) (.int i)
 |str (x:Str):RepT A H (.str x) (.str x)
 |tup {p:Addr} {vs:List V} {ts:List T} (na:¬A p) (e:H p=some (.tup vs)) (l:vs.length=ts.length) (r:∀(i:Nat) v t,vs[i]?=some v->ts[i]?=some t->RepT A H v t):RepT A H (.ref p) (.tup ts)
 |lst {p:Addr} {vs:List V} {ts:List T} (na:¬A p) (e:H p=some (.lst vs)) (l:vs.length=ts.length) (r:∀(i:Nat) v t,vs[i]?=some v->ts[i]?=some t->RepT A H v t):RepT A H (.ref p) (.lst ts)
section
variable {A A':Addr->Prop} {H H':Hp} {v:V} {t:T} {ι ι':List Addr} {M:MM} {u:U} {σ:St} {ρ:UEnv}
abbrev RepTs(A:Addr->Prop)(H:Hp):List V->List T->Prop:=Paired (RepT A H)
theorem RepT.tupP(na:¬A p)(e:H p=some (.tup vs))(r:RepTs A H vs ts):RepT A H (.ref p) (.tup ts):=.tup na e r.len λi v t h k=>r.get2 h k
theorem RepT.lstP(na:¬A p)(e:H p=some (.lst vs))(r:RepTs A H vs ts):RepT A H (.ref p) (.lst ts):=.lst na e r.len λi v t h k=>r.get2 h k
theorem RepT.mono(h:∀x o,¬A x->H x=some o->H' x=some o/\¬A' x)(r:RepT A H v t):RepT A' H' v t:=by
 induction r with
 |non=>exact .non
 |bl b=>exact .bl b
 |int i=>exact .int i
 |str x=>exact .str x
 |tup na e l r ih=>exact .tup (h _ _ na e).2 (h _ _ na e).1 l ih
 |lst na e l r ih=>exact .lst (h _ _ na e).2 (h _ _ na e).1 l ih
theorem RepT.tup_inv(r:RepT A H v (.tup ts)):∃p vs,v=.ref p/\¬A p/\H p=some (.tup vs)/\RepTs A H vs ts:=by
 cases r with
 |tup na e l r=>exact⟨_,_,rfl,na,e,Paired.of_get l r⟩
theorem RepT.lst_inv(r:RepT A H v (.lst ts)):∃p vs,v=.ref p/\¬A p/\H p=some (.lst vs)/\RepTs A H vs ts:=by
 cases r with
 |lst na e l r=>exact⟨_,_,rfl,na,e,Paired.of_get l r⟩
def Av(A:Addr->Prop)(ι:List Addr):Addr->Prop:=λx=>A x\/x∈ι
def PartX(ι:List Addr)(H:Hp)(d:Option Addr):Option Int->Prop
 |none=>d=none
 |some n=>∃x0,d=some x0/\x0∉ι/\H x0=some (.xd (xfs n))
inductive RepU(A:Addr->Prop)(ι:List Addr)(H:Hp):V->U->Prop
 |p {v:V} {t:T} (r:RepT (Av A ι) H v t):RepU A ι H v (.p t)
 |m {k:Nat} {a:Addr} (e:ι[k]?=some a):RepU A ι H (.ref a) (.m k)
 |x {a:Addr} {d:Option Addr} {q:Option Int} (h:PartX ι H d q):RepU A ι H (.ref a) (.x a d q)
abbrev RepUs(A:Addr->Prop)(ι:List Addr)(H:Hp):List V->List U->Prop:=Paired (RepU A ι H)
def codeO(c:Addr)(qual:Str):HO:=.ext λh=>h.CodeRec (.ref c) qual
def ObjR(A:Addr->Prop)(ι:List Addr)(H:Hp)(a:Addr):MO->Prop
 |.lst us=>∃vs,H a=some (.lst vs)/\RepUs A ι H vs us
 |.tup us=>∃vs,H a=some (.tup vs)/\RepUs A ι H vs us
 |.ins C fs=>∃dx gs,H a=some (.ins C dx gs)/\H dx=some (.own a)/\dx∉ι/\Paired (λ(g:Str×V) (f:Str×U)=>g.1=f.1/\RepU A ι H g.2 f.2) gs fs
 |.dK kvs=>∃gs,H a=some (.dK gs)/\Paired (λ(g:Key×V) (f:Key×U)=>g.1=f.1/\RepU A ι H g.2 f.2) gs kvs
 |.dF kvs ob gs=>H a=some (.frz ob (.dK gs))/\Paired (λ(g:Key×V) (f:Key×U)=>g.1=f.1/\RepU A ι H g.2 f.2) gs kvs
 |.tab P pos qual=>∃ps:Array Value,H a=some (.tbl ps)/\(TriplesOk ps.toList/\a=P)/\(codeAmong pos ps.toList=none\/∃c,codeAmong pos ps.toList=some (.ref c)/\H c=some (codeO c qual)/\c∉ι)
structure Wd(A:Addr->Prop)(ι:List Addr)(H:Hp)(M:MM):Prop where
 nd:ι.Nodup
 len:ι.length=M.length
 dom:∀x,A x->H x≠none
 na:∀x∈ι,¬A x
 obj:∀(k:Nat) a o,ι[k]?=some a->M[k]?=some o->ObjR A ι H a o
structure Le(ι:List Addr)(H:Hp)(ι':List Addr)(H':Hp):Prop where
 ext:∃n,ι'=ι++n/\∀x∈n,H x=none
 fr:∀x o,H x=some o->x∉ι->H' x=some o
 al:∀x,H x≠none->H' x≠none
theorem Le.refl(ι:List Addr)(H:Hp):Le ι H ι H:=⟨⟨[],by simp,by simp⟩,λ_ _ h _=>h,λ_ h=>h⟩
theorem Le.trans(a:Le ι H ι' H')(b:Le ι' H' ι2 H2):Le ι H ι2 H2:=by
 obtain⟨n,rfl,hn⟩:=a.ext;obtain⟨m,rfl,hm⟩:=b.ext;have key:∀x,H x≠none->x∉ι->x∉ι++n:=λx hx h z=>by
  rcases Uw.mp z with z|z
  ·exact h z
  ·exact hx (hn x z)
 refine⟨⟨n++m,by rw[Us],λx hx=>?_⟩,λx o e h=>b.fr x o (a.fr x o e h) (key x (by rw[e]; simp) h),λx h=>b.al x (a.al x h)⟩;rcases Uw.mp hx with z|z
 ·exact hn x z
 ·cases q:H x with
  |none=>rfl
  |some o=>exact absurd (hm x z) (a.al x (by rw[q]; simp))
theorem Le.av(l:Le ι H ι' H')(h:¬Av A ι x)(e:H x=some o):H' x=some o/\¬Av A ι' x:=by
 obtain⟨n,rfl,hn⟩:=l.ext;refine⟨l.fr x o e λz=>h (.inr z),λz=>?_⟩;rcases z with z|z
 ·exact h (.inl z)
 ·rcases Uw.mp z with z|z
  ·exact h (.inr z)
  ·rw[hn x z] at e; cases e
theorem RepT.le(l:Le ι H ι' H')(r:RepT (Av A ι) H v t):RepT (Av A ι') H' v t:=r.mono λ_ _ h e=>l.av h e
theorem PartX.le(l:Le ι H ι' H')(h:PartX ι H d q):PartX ι' H' d q:=by
 cases q with
 |none=>exact h
 |some n =>
  obtain⟨x0,e,ni,hx⟩:=h;obtain⟨m,rfl,hm⟩:=l.ext;refine⟨x0,e,λz=>?_,l.fr x0 _ hx ni⟩;rcases Uw.mp z with z|z
  ·exact ni z
  ·rw[hm x0 z] at hx; cases hx
theorem RepU.le(l:Le ι H ι' H')(r:RepU A ι H v u):RepU A ι' H' v u:=by
 cases r with
 |p r=>exact .p (r.le l)
 |m e =>
  obtain⟨n,rfl,_⟩:=l.ext;exact .m (by rw[Ug (Ue.mp e).1]; exact e)
 |x h=>exact .x (h.le l)
theorem RepUs.le(l:Le ι H ι' H')(r:RepUs A ι H vs us):RepUs A ι' H' vs us:=Paired.mapP r λ_ _ q=>q.le l
theorem ObjR.some{a:Addr}{o:MO}(r:ObjR A ι H a o):∃h,H a=some h:=by
 cases o with
 |lst=>obtain⟨vs,e,_⟩:=r; exact⟨_,e⟩
 |tup=>obtain⟨vs,e,_⟩:=r; exact⟨_,e⟩
 |ins=>obtain⟨_,_,e,_⟩:=r; exact⟨_,e⟩
 |dK=>obtain⟨_,e,_⟩:=r; exact⟨_,e⟩
 |dF=>obtain⟨e,_⟩:=r; exact⟨_,e⟩
 |tab=>obtain⟨_,e,_⟩:=r; exact⟨_,e⟩
theorem ObjR.le'(l:Le ι H ι' H')(ea:H' a=H a)(eo:∀x,H x=Option.some (.own a)->H' x=H x)(r:ObjR A ι H a o):ObjR A ι' H' a o:=by
 cases o with
 |lst=>obtain⟨vs,e,r⟩:=r; exact⟨vs,by rw[ea]; exact e,Paired.mapP r λ_ _ q=>q.le l⟩
 |tup=>obtain⟨vs,e,r⟩:=r; exact⟨vs,by rw[ea]; exact e,Paired.mapP r λ_ _ q=>q.le l⟩
 |ins =>
  obtain⟨dx,gs,e,ed,nd,r⟩:=r;obtain⟨n,rfl,hn⟩:=l.ext;refine⟨dx,gs,by rw[ea]; exact e,by rw[eo dx ed]; exact ed,λz=>?_,Paired.mapP r λ_ _ q=>⟨q.1,q.2.le l⟩⟩;rcases Uw.mp z with z|z
  ·exact nd z
  ·rw[hn dx z] at ed; cases ed
 |dK=>obtain⟨gs,e,r⟩:=r; exact⟨gs,by rw[ea]; exact e,Paired.mapP r λ_ _ q=>⟨q.1,q.2.le l⟩⟩
 |dF=>obtain⟨e,r⟩:=r; exact⟨by rw[ea]; exact e,Paired.mapP r λ_ _ q=>⟨q.1,q.2.le l⟩⟩
 |tab =>
  obtain⟨ps,e,t,z⟩:=r;obtain⟨n,rfl,hn⟩:=l.ext;refine⟨ps,by rw[ea]; exact e,t,z.imp id λ⟨c,h1,h2,h3⟩=>⟨c,h1,l.fr c _ h2 h3,λy=>?_⟩⟩;rcases Uw.mp y with y|y
  ·exact h3 y
  ·rw[hn c y] at h2; cases h2
theorem Wd.al(w:Wd A ι H M){k:Nat}(e:ι[k]?=some a):∃o,M[k]?=some o/\ObjR A ι H a o:=by
 have h:=(Ue.mp e).1;have e2:M[k]?=some (M[k]'(by rw[<-w.len]; exact h)):=Uf _;exact⟨_,e2,w.obj k a _ e e2⟩
theorem Wd.at(w:Wd A ι H M){k:Nat}(e:M[k]?=some o):∃a,ι[k]?=some a/\ObjR A ι H a o:=by
 have h:=(Ue.mp e).1;have e2:ι[k]?=some (ι[k]'(by rw[w.len]; exact h)):=Uf _;exact⟨_,e2,w.obj k _ _ e2 e⟩
theorem Wd.mem_some(w:Wd A ι H M)(h:a∈ι):∃o,H a=some o:=by
 obtain⟨k,e⟩:=Dv h;obtain⟨o,_,r⟩:=w.al e;exact r.some
theorem Wd.not_own(w:Wd A ι H M)(h:a∈ι):H a≠some (.own x):=λz=>by
 obtain⟨k,e⟩:=Dv h;obtain⟨o,_,r⟩:=w.al e;cases o with
 |lst=>obtain⟨vs,e,_⟩:=r; rw[z] at e; cases e
 |tup=>obtain⟨vs,e,_⟩:=r; rw[z] at e; cases e
 |ins=>obtain⟨_,_,e,_⟩:=r; rw[z] at e; cases e
 |dK=>obtain⟨_,e,_⟩:=r; rw[z] at e; cases e
 |dF=>obtain⟨e,_⟩:=r; rw[z] at e; cases e
 |tab=>obtain⟨_,e,_⟩:=r; rw[z] at e; cases e
theorem Le.fresh(h:H p=none):Le ι H ι (upd H p o):=⟨⟨[],by simp,by simp⟩,λx o' e _=>z0 h e,λx e=>by
 by_cases z:x=p
 ·subst z; rw[upd_same]; simp
 ·rw[upd_ne z]; exact e⟩
theorem Le.push(h:H p=none):Le ι H (ι++[p]) (upd H p o):=⟨⟨[p],rfl,λx hx=>by rw[Uu.mp hx]; exact h⟩,(Le.fresh (ι:=ι) h).fr,(Le.fresh (ι:=ι) h).al⟩
theorem Le.put(h:p∈ι):Le ι H ι (upd H p o):=⟨⟨[],by simp,by simp⟩,λx o' e n=>by rw[upd_ne (λz=>n (by rw[z]; exact h))]; exact e,λx e=>by
 by_cases z:x=p
 ·subst z; rw[upd_same]; simp
 ·rw[upd_ne z]; exact e⟩
theorem Wd.fresh(w:Wd A ι H M)(h:H p=none):Wd A ι (upd H p o) M :=
 ⟨w.nd,w.len,λx hx=>(Le.fresh (ι:=ι) h).al x (w.dom x hx),w.na,λk a ob e1 e2=>(w.obj k a ob e1 e2).le' (.fresh h) (upd_ne λz=>by
  obtain⟨q,hq⟩:=w.mem_some (Ui e1);rw[z,h] at hq; cases hq) λx ex=>upd_ne λz=>by rw[z,h] at ex; cases ex⟩
theorem Wd.nin(w:Wd A ι H M)(h:H p=none):p∉ι:=λz=>by
 obtain⟨q,hq⟩:=w.mem_some z;rw[h] at hq; cases hq
theorem Wd.nA(w:Wd A ι H M)(h:H p=none):¬Av A ι p:=λz=>z.elim (λz=>w.dom p z h) (w.nin h)
theorem Wd.push(w:Wd A ι H M)(h:H p=none)(new:ObjR A (ι++[p]) (upd H p o) p mo):Wd A (ι++[p]) (upd H p o) (M++[mo]):=by
 have np:=w.nin h;refine⟨Dn.mpr ⟨w.nd,by simp,λa ha b hb=>?_⟩,by simp[w.len],λx hx=>(Le.fresh (ι:=ι) h).al x (w.dom x hx),λx hx=>?_,λk a ob e1 e2=>?_⟩
 ·rw[Uu.mp hb]; exact λz=>np (by rw[<-z]; exact ha)
 ·rcases Uw.mp hx with z|z
  ·exact w.na x z
  ·rw[Uu.mp z]; exact λz=>w.dom p z h
 ·by_cases hk:k<ι.length
  ·rw[Ug hk] at e1
   rw[Ug (by rw[<-w.len]; exact hk)] at e2;exact(w.obj k a ob e1 e2).le' (.push h) (upd_ne λz=>np (by rw[<-z]; exact Ui e1)) λx ex=>upd_ne λz=>by rw[z,h] at ex; cases ex
  ·have hk2:=(Ue.mp e1).1
   rw[Uj,Dg] at hk2;have:k=ι.length:=by lia
   subst this;rw[Uo (Uk _),DJ] at e1;rw[w.len,Uo (Uk _),DJ] at e2;simp at e1 e2;subst e1 e2;exact new
theorem Wd.put(w:Wd A ι H M)(e:ι[k]?=some p)(new:ObjR A ι (upd H p o) p mo):Wd A ι (upd H p o) (M.set k mo):=by
 have hp:=Ui e;refine⟨w.nd,by rw[Uq]; exact w.len,λx hx=>(Le.put hp).al x (w.dom x hx),w.na,λj a ob e1 e2=>?_⟩;by_cases hj:k=j
 ·subst hj
  rw[e] at e1; cases e1;rw[Ur (by rw[<-w.len]; exact(Ue.mp e).1)] at e2;cases e2;exact new
 ·rw[Ul hj] at e2
  have na:a≠p:=λz=>by
   subst z;have h1:=Ue.mp e;have h2:=Ue.mp e1;exact hj ((List.getElem_inj w.nd).mp (h1.2.trans h2.2.symm))
  exact(w.obj j a ob e1 e2).le' (.put hp) (upd_ne na) λx ex=>upd_ne λz=>by
   rw[z] at ex; exact w.not_own hp ex
def EnvR(A:Addr->Prop)(ι:List Addr)(H:Hp):St->UEnv->Prop:=Paired λ(s:Option V) (r:Option U)=>∀u,r=some u->∃v,s=some v/\RepU A ι H v u
theorem EnvR.le(l:Le ι H ι' H')(r:EnvR A ι H σ ρ):EnvR A ι' H' σ ρ:=Paired.mapP r λ_ _ q u e=>by
 obtain⟨v,h1,h2⟩:=q u e;exact⟨v,h1,h2.le l⟩
theorem EnvR.get(r:EnvR A ι H σ ρ){i:Nat}(e:ρ[i]?=some (some u)):∃v,σ[i]?=some (some v)/\RepU A ι H v u:=by
 obtain⟨s,h1,h2⟩:=Paired.getR r e;obtain⟨v,rfl,h3⟩:=h2 u rfl;exact⟨v,h1,h3⟩
theorem EnvR.put(r:EnvR A ι H σ ρ)(i:Nat)(q:RepU A ι H v u):EnvR A ι H (σ.set i (some v)) (ρ.set i (some u)):=Paired.put (λw e=>by cases e; exact⟨v,rfl,q⟩) i r
def YD(bs:List Bool)(n:Nat)(ρ:UEnv):UEnv:=(bs.zip ρ).map (λp=>if p.1 then p.2 else none)++List.replicate n none
theorem EnvR.mask(r:EnvR A ι H σ ρ):EnvR A ι H (zD bs n σ) (YD bs n ρ):=by
 refine Paired.app ?_ ?_
 ·induction r generalizing bs with
  |nil=>simp; exact .nil
  |cons q t ih =>
   cases bs with
   |nil=>exact .nil
   |cons b bs =>
    refine .cons ?_ ih;cases b
    ·intro u e; simp at e
    ·simpa using q
 ·induction n with
  |zero=>exact .nil
  |succ n ih=>exact .cons (λu e=>by cases e) ih
end
abbrev UK:=U->MM->Prop
abbrev UE:=UEnv->MM->UK->Prop
abbrev UT:=UEnv->MM->(Bool->MM->Prop)->Prop
abbrev UA:=UEnv->MM->(List U->MM->Prop)->Prop
def LE(te:TE)(ue:UE):Prop:=∀(A:Addr->Prop)(ι:List Addr)(σ:St)(H:Hp)(ρ:UEnv)(M:MM)(Qu:UK)(Q:VK),Wd A ι H M->EnvR A ι H σ ρ->ue ρ M Qu ->
 (∀u M' ι' v H',Le ι H ι' H'->Wd A ι' H' M'->RepU A ι' H' v u->Qu u M'->Q v H')->te σ H Q
def LT(tt:TT)(ut:UT):Prop:=∀(A:Addr->Prop)(ι:List Addr)(σ:St)(H:Hp)(ρ:UEnv)(M:MM)(Qu:Bool->MM->Prop)(Q:Bool->Hp->Prop),Wd A ι H M->EnvR A ι H σ ρ->ut ρ M Qu ->
 (∀b M' ι' H',Le ι H ι' H'->Wd A ι' H' M'->Qu b M'->Q b H')->tt σ H Q
def LA(n:Nat)(ta:TA)(ua:UA):Prop:=∀(A:Addr->Prop)(ι:List Addr)(σ:St)(H:Hp)(ρ:UEnv)(M:MM)(Qu:List U->MM->Prop)(Q:List V->Hp->Prop),Wd A ι H M->EnvR A ι H σ ρ->ua ρ M Qu ->
 (∀us M' ι' vs H',Le ι H ι' H'->Wd A ι' H' M'->us.length=n->RepUs A ι' H' vs us->Qu us M'->Q vs H')->ta σ H Q
section
def uVar(i:Nat):UE:=λρ M Q=>∃u,ρ[i]?=some (some u)/\Q u M
inductive Sc:V->T->Prop
 |non:Sc .non .non
 |bl (b:Bool):Sc (.bl b) (.bl b)
 |int (i:Int):Sc (.int i) (.int i)
 |str (x:Str):Sc (.str x) (.str x)
theorem Sc.rep(h:Sc v t):RepT A H v t:=by cases h<;>constructor
def uC(t:T):UE:=λ_ M Q=>Q (.p t) M
def uNil:UA:=λ_ M Q=>Q [] M
def uCons(ua:UE)(ul:UA):UA:=λρ M Q=>ua ρ M λx M1=>ul ρ M1 λxs M2=>Q (x::xs) M2
theorem la_nil:LA 0 tNil uNil:=λA ι σ H ρ M Qu Q w e q k=>k [] M ι [] H (.refl _ _) w rfl .nil q
def zh:List U->Option (List T)
 | []=>some []
 |.p t::r=>(zh r).map (t :: ·)
 |.m _::_=>none
 |.x _ _ _::_=>none
@[simp] theorem zj:∀ts:List T,zh (ts.map U.p)=some ts
 | []=>rfl
 |t::r=>by simp[zh,zj r]
theorem zp:∀{us:List U}{ts:List T},zh us=some ts->us=ts.map U.p
 | [],_,h=>by simp[zh] at h; subst h; rfl
 |.p t::r,ts,h=>by
  simp[zh] at h;obtain⟨a,h1,rfl⟩:=h;rw[UB, <-zp h1]
 |.m _::_,_,h=>by simp[zh] at h
 |.x _ _ _::_,_,h=>by simp[zh] at h
def sn(M:MM):U->Option T
 |.p t=>some t
 |.m k=>match M[k]? with
  |some (.lst us)=>(zh us).map T.lst
  |some (.tup us)=>(zh us).map T.tup
  |_=>none
 |.x _ _ _=>none
def sns(M:MM):List U->Option (List T)
 | []=>some []
 |u::r=>match sn M u,sns M r with
  |some t,some ts=>some (t::ts)
  |_,_=>none
inductive RepV(A:Addr->Prop)(H:Hp):V->T->Prop
 |of {v:V} {t:T} (r:RepT A H v t):RepV A H v t
 |lst {p:Addr} {vs:List V} {ts:List T} (e:H p=some (.lst vs)) (r:RepTs A H vs ts):RepV A H (.ref p) (.lst ts)
 |tup {p:Addr} {vs:List V} {ts:List T} (e:H p=some (.tup vs)) (r:RepTs A H vs ts):RepV A H (.ref p) (.tup ts)
variable {A:Addr->Prop} {H H':Hp} {ι:List Addr} {M:MM} {v:V} {u:U} {t:T}
theorem RepV.lst_inv(r:RepV A H v (.lst ts)):∃p vs,v=.ref p/\H p=some (.lst vs)/\RepTs A H vs ts:=by
 cases r with
 |of r=>obtain⟨p,vs,h1,_,h2,h3⟩:=r.lst_inv; exact⟨p,vs,h1,h2,h3⟩
 |lst e r=>exact⟨_,_,rfl,e,r⟩
theorem RepV.tup_inv(r:RepV A H v (.tup ts)):∃p vs,v=.ref p/\H p=some (.tup vs)/\RepTs A H vs ts:=by
 cases r with
 |of r=>obtain⟨p,vs,h1,_,h2,h3⟩:=r.tup_inv; exact⟨p,vs,h1,h2,h3⟩
 |tup e r=>exact⟨_,_,rfl,e,r⟩
theorem RepV.int_inv(r:RepV A H v (.int i)):v=.int i:=by cases r with|of r=>cases r; rfl
theorem RepV.bl_inv(r:RepV A H v (.bl i)):v=.bl i:=by cases r with|of r=>cases r; rfl
theorem RepV.str_inv(r:RepV A H v (.str i)):v=.str i:=by cases r with|of r=>cases r; rfl
theorem RepV.non_inv(r:RepV A H v .non):v=.non:=by cases r with|of r=>cases r; rfl
theorem RepUs.pures(r:RepUs A ι H vs (ts.map U.p)):RepTs (Av A ι) H vs ts:=Paired.unmapR (λa b q=>by cases q with|p r=>exact r) r
theorem RepTs.ups(r:RepTs (Av A ι) H vs ts):RepUs A ι H vs (ts.map U.p):=Paired.mapR (λa b q=>.p q) r
theorem RepU.sn(w:Wd A ι H M)(r:RepU A ι H v u)(e:sn M u=some t):RepV (Av A ι) H v t:=by
 cases r with
 |p r=>simp[L2.sn] at e; subst e; exact .of r
 |m q =>
  obtain⟨o,h1,h2⟩:=w.al q;simp only[L2.sn,h1] at e;cases o with
  |lst us =>
   simp at e;obtain⟨ts,e1,rfl⟩:=e;obtain⟨vs,h3,h4⟩:=h2;rw[zp e1] at h4;exact .lst h3 h4.pures
  |tup us =>
   simp at e;obtain⟨ts,e1,rfl⟩:=e;obtain⟨vs,h3,h4⟩:=h2;rw[zp e1] at h4;exact .tup h3 h4.pures
  |ins=>simp at e
  |dK=>simp at e
  |dF=>simp at e
  |tab=>simp at e
 |x h=>simp[L2.sn] at e
theorem RepUs.sns(w:Wd A ι H M):∀{vs:List V}{us:List U}{ts:List T},RepUs A ι H vs us->sns M us=some ts->Paired (RepV (Av A ι) H) vs ts
 |_,_,ts, .nil,e=>by simp[L2.sns] at e; subst e; exact .nil
 |_,_,ts, .cons r q,e=>by
  simp only[L2.sns] at e;split at e
  ·rename_i h1 h2
   simp at e; subst e;exact .cons (r.sn w h1) (RepUs.sns w q h2)
  ·cases e
def OpL(r:R2)(s:T->T->(T->Prop)->Prop):Prop:=∀(A:Addr->Prop)(ι:List Addr)(H:Hp)(M:MM)(x y:V)(a b:T)(Qs:T->Prop)(Q:VK),Wd A ι H M->RepV (Av A ι) H x a->RepV (Av A ι) H y b->s a b Qs ->
 (∀t ι' v H',Le ι H ι' H'->Wd A ι' H' M->RepT (Av A ι') H' v t->Qs t->Q v H')->r x y H Q
def uOp(s:T->T->(T->Prop)->Prop)(ua ub:UE):UE:=λρ M Q=>ua ρ M λx M1=>ub ρ M1 λy M2=>∃a b,sn M2 x=some a/\sn M2 y=some b/\s a b λt=>Q (.p t) M2
def sI(C:Int->Int->Prop)(g:Int->Int->T):T->T->(T->Prop)->Prop:=λa b Q=>∃i j,a=.int i/\b=.int j/\C i j/\Q (g i j)
def sI0(g:Int->Int->T):T->T->(T->Prop)->Prop:=λa b Q=>∃i j,a=.int i/\b=.int j/\Q (g i j)
theorem v3(hg:∀i j,Sc (gv i j) (g i j)):OpL (rI C gv) (sI C g):=λA ι H M x y a b Qs Q w r1 r2 ⟨i,j,ea,eb,c,q⟩ k=>by
 subst ea eb;exact⟨i,j,r1.int_inv,r2.int_inv,c,k _ ι _ H (.refl _ _) w (hg i j).rep q⟩
theorem qE(hg:∀i j,Sc (gv i j) (g i j)):OpL (rI0 gv) (sI0 g):=λA ι H M x y a b Qs Q w r1 r2 ⟨i,j,ea,eb,q⟩ k=>by
 subst ea eb;exact⟨i,j,r1.int_inv,r2.int_inv,k _ ι _ H (.refl _ _) w (hg i j).rep q⟩
def vt:T->Option V
 |.non=>some .non
 |.bl b=>some (.bl b)
 |.int i=>some (.int i)
 |.str x=>some (.str x)
 |_=>none
theorem kq(e:vt t=some x):Sc x t:=by
 cases t<;>simp[vt] at e<;>subst e<;>constructor
theorem RepV.sc{x y:V}(r:RepV A H v t)(e:vt t=some x):v=x:=by
 cases kq e with
 |non=>exact r.non_inv
 |bl=>exact r.bl_inv
 |int=>exact r.int_inv
 |str=>exact r.str_inv
def sEq(neg:Bool):T->T->(T->Prop)->Prop:=λa b Q=>∃x y,vt a=some x/\vt b=some y/\scal x y=true/\Q (.bl (if neg then !decide (x=y) else decide (x=y)))
theorem ze:OpL rEq (sEq false):=λA ι H M x y a b Qs Q w r1 r2 ⟨x',y',e1,e2,sc,q⟩ k=>by
 cases r1.sc (y:=.non) e1; cases r2.sc (y:=.non) e2;exact⟨sc,k _ ι _ H (.refl _ _) w (.bl _) q⟩
theorem Gb:OpL rNe (sEq true):=λA ι H M x y a b Qs Q w r1 r2 ⟨x',y',e1,e2,sc,q⟩ k=>by
 cases r1.sc (y:=.non) e1; cases r2.sc (y:=.non) e2;exact⟨sc,k _ ι _ H (.refl _ _) w (.bl _) q⟩
def sStr:T->T->(T->Prop)->Prop:=λa b Q=>∃i j,a=.str i/\b=.str j/\i.length+j.length<=sizeLine/\Q (.str (i++j))
def vts:List T->Option (List V)
 | []=>some []
 |t::r=>match vt t,vts r with
  |some x,some xs=>some (x::xs)
  |_,_=>none
theorem XS:∀{vs:List V}{ts:List T}{xs:List V},RepTs A H vs ts->vts ts=some xs->vs=xs/\xs.all kH=true
 |_,_,xs, .nil,e=>by simp[vts] at e; subst e; exact⟨rfl,rfl⟩
 |_,_,xs, .cons r q,e=>by
  simp only[vts] at e;split at e
  ·rename_i h1 h2
   simp at e; subst e;obtain⟨z1,z2⟩:=XS q h2;subst z1;cases(RepV.of r).sc (y:=.non) h1;refine⟨rfl, ?_⟩;rw[RB,z2];cases kq h1<;>rfl
  ·cases e
def seqT:T->Option (List T)
 |.lst ts=>some ts
 |.tup ts=>some ts
 |_=>none
def sIn(neg:Bool):T->T->(T->Prop)->Prop:=λa b Q=>∃x ts ys,vt a=some x/\seqT b=some ts/\vts ts=some ys/\Q (.bl (if neg then !inV x ys else inV x ys))
theorem opl_in:OpL (rIn Ξ neg) (sIn neg):=λA ι H M x y a b Qs Q w r1 r2 ⟨x',ts,ys,e1,e2,e3,q⟩ k=>by
 cases r1.sc (y:=.non) e1;have hf:kH x=true:=by cases kq e1<;>rfl
 cases b<;>simp[seqT] at e2
 ·subst e2
  obtain⟨p,vs,rfl,h,r⟩:=r2.tup_inv;obtain⟨rfl,z⟩:=XS r e3;exact⟨p,vs,rfl, .inr (SqT.of h),hf,z,k _ ι _ H (.refl _ _) w (.bl _) q⟩
 ·subst e2
  obtain⟨p,vs,rfl,h,r⟩:=r2.lst_inv;obtain⟨rfl,z⟩:=XS r e3;exact⟨p,vs,rfl, .inl (SqL.of h),hf,z,k _ ι _ H (.refl _ _) w (.bl _) q⟩
theorem zg(w:Wd A ι H M)(h:H p=none)(r:RepTs (Av A ι) H vs ts):RepT (Av A ι) (upd H p (.lst vs)) (.ref p) (.lst ts) :=
 .lstP (w.nA h) upd_same (Paired.mapP r λ_ _ q=>q.le (.fresh h))
theorem qag(w:Wd A ι H M)(h:H p=none)(r:RepTs (Av A ι) H vs ts):RepT (Av A ι) (upd H p (.tup vs)) (.ref p) (.tup ts) :=
 .tupP (w.nA h) upd_same (Paired.mapP r λ_ _ q=>q.le (.fresh h))
def sCat:T->T->(T->Prop)->Prop:=λa b Q=>∃xs ys,a=.lst xs/\b=.lst ys/\xs.length+ys.length<=sizeLine/\Q (.lst (xs++ys))
theorem zA:OpL rCat sCat:=λA ι H M x y a b Qs Q w r1 r2 ⟨xs,ys,ea,eb,hz,q⟩ k=>by
 subst ea eb;obtain⟨p,vs,rfl,h1,q1⟩:=r1.lst_inv;obtain⟨p2,vs2,rfl,h2,q2⟩:=r2.lst_inv;exact⟨p,p2,vs,vs2,rfl,rfl,h1,h2,by rw[q1.len,q2.len]; exact hz,λp hp=>k _ ι _ _ (.fresh hp) (w.fresh hp) (zg w hp (q1.app q2)) q⟩
theorem j8{α β:Type}{F:α->β->Prop}{l:List α}{m:List β}(h:Paired F l m):∀n:Nat,Paired F (List.replicate n l).flatten (List.replicate n m).flatten
 |0=>.nil
 |n+1=>by rw[De,De,Dz,Dz]; exact h.app (j8 h n)
def JI:U->Bool
 |.p .non=>true
 |_=>false
theorem Xp(r:RepU A ι H v u):decide (v=.non)=JI u:=by
 cases r with
 |p r=>cases r<;>simp[JI]
 |m e=>simp[JI]
 |x h=>simp[JI]
def uIsN(neg:Bool)(ua:UE):UE:=λρ M Q=>ua ρ M λx M1=>Q (.p (.bl (if neg then !JI x else JI x))) M1
def uNeg(ua:UE):UE:=λρ M Q=>ua ρ M λx M1=>∃i,x=.p (.int i)/\Q (.p (.int (-i))) M1
def uB(ua:UE):UT:=λρ M Q=>ua ρ M λx M1=>∃b,x=.p (.bl b)/\Q b M1
theorem lt_b(ha:LE ta ua):LT (tB ta) (uB ua):=λA ι σ H ρ M Qu Q w e q k =>
 ha A ι σ H ρ M _ _ w e q λx M1 ι1 v H1 l1 w1 r1 ⟨b,ex,q1⟩=>by
  subst ex;cases r1 with
  |p r=>cases r; exact⟨b,rfl,k b M1 ι1 H1 l1 w1 q1⟩
def truU(M:MM):U->Option Bool
 |.p .non=>some false
 |.p (.bl b)=>some b
 |.p (.int i)=>some (i != 0)
 |.p (.lst ts)=>some (!ts.isEmpty)
 |.p (.tup ts)=>some (!ts.isEmpty)
 |.m k=>match M[k]? with
  |some (.lst us)=>some (!us.isEmpty)
  |some (.tup us)=>some (!us.isEmpty)
  |some (.dK us)=>some (!us.isEmpty)
  |_=>none
 |_=>none
theorem tru_rep(w:Wd A ι H M)(r:RepU A ι H v u)(e:truU M u=some b):TruV Ξ v H b:=by
 cases r with
 |p r =>
  cases r with
  |non=>simp[truU] at e; subst e; rfl
  |bl=>simp[truU] at e; subst e; rfl
  |int=>simp[truU] at e; subst e; simp[TruV]
  |str=>simp[truU] at e
  |tup na e1 l r=>simp only[truU,Option.some.injEq] at e; subst e; exact .inr (.inl ⟨_,SqT.of e1,by rw[(Paired.of_get l r).empt]⟩)
  |lst na e1 l r=>simp only[truU,Option.some.injEq] at e; subst e; exact .inl ⟨_,SqL.of e1,by rw[(Paired.of_get l r).empt]⟩
 |m q =>
  obtain⟨o,h1,h2⟩:=w.al q;simp only[truU,h1] at e;cases o with
  |lst us=>simp only[Option.some.injEq] at e; subst e; obtain⟨vs,h3,h4⟩:=h2; exact .inl ⟨_,SqL.of h3,by rw[h4.empt]⟩
  |tup us=>simp only[Option.some.injEq] at e; subst e; obtain⟨vs,h3,h4⟩:=h2; exact .inr (.inl ⟨_,SqT.of h3,by rw[h4.empt]⟩)
  |ins=>simp at e
  |dK us=>simp only[Option.some.injEq] at e; subst e; obtain⟨vs,h3,h4⟩:=h2; exact .inr (.inr ⟨_,h3,by rw[h4.empt]⟩)
  |dF=>simp at e
  |tab=>simp at e
 |x h=>simp[truU] at e
def uTru(ua:UE):UT:=λρ M Q=>ua ρ M λx M1=>∃b,truU M1 x=some b/\Q b M1
def uAnd(t s:UT):UT:=λρ M Q=>t ρ M λc M1=>if c=true then s ρ M1 Q else Q false M1
def uOr(t s:UT):UT:=λρ M Q=>t ρ M λc M1=>if c=true then Q true M1 else s ρ M1 Q
def uNot(t:UT):UT:=λρ M Q=>t ρ M λc M1=>Q (!c) M1
def uAndV(ua ub:UE):UE:=λρ M Q=>ua ρ M λx M1=>∃c,x=.p (.bl c)/\if c=true then ub ρ M1 Q else Q (.p (.bl false)) M1
def uOrV(ua ub:UE):UE:=λρ M Q=>ua ρ M λx M1=>∃c,x=.p (.bl c)/\if c=true then Q (.p (.bl true)) M1 else ub ρ M1 Q
def uNotV(ua:UE):UE:=λρ M Q=>ua ρ M λx M1=>∃c,x=.p (.bl c)/\Q (.p (.bl (!c))) M1
def uIf(t:UT)(ua ub:UE):UE:=λρ M Q=>t ρ M λc M1=>if c=true then ua ρ M1 Q else ub ρ M1 Q
def Ki(s s':T->T->(T->Prop)->Prop)(ua ub uc:UE):UE:=λρ M Q=>ua ρ M λx M1=>ub ρ M1 λy M2=>∃a b,sn M2 x=some a/\sn M2 y=some b/\s a b λz=>∃k,z=.bl k /\
 if k=true then uc ρ M2 λc M3=>∃b' c',sn M3 y=some b'/\sn M3 c=some c'/\s' b' c' λt=>Q (.p t) M3 else Q (.p (.bl false)) M2
def uTup(ul:UA):UE:=λρ M Q=>ul ρ M λus M1=>∃ts,zh us=some ts/\Q (.p (.tup ts)) M1
def uLst(ul:UA):UE:=λρ M Q=>ul ρ M λus M1=>∃ts,zh us=some ts/\Q (.p (.lst ts)) M1
def uNew(ul:UA):UE:=λρ M Q=>ul ρ M λus M1=>Q (.m M1.length) (M1++[.lst us])
def uNewT(ul:UA):UE:=λρ M Q=>ul ρ M λus M1=>Q (.m M1.length) (M1++[.tup us])
theorem xI{α:Type}{l:List α}{x:α}:(l++[x])[l.length]?=some x:=by rw[Uo (Uk _),DJ]; rfl
theorem zL(w:Wd A ι H M)(h:H p=none)(r:RepUs A ι H vs us):Wd A (ι++[p]) (upd H p (.lst vs)) (M++[.lst us])/\RepU A (ι++[p]) (upd H p (.lst vs)) (.ref p) (.m M.length) :=
 ⟨w.push h ⟨vs,upd_same,r.le (.push h)⟩, .m (by rw[<-w.len]; exact xI)⟩
theorem Gy(w:Wd A ι H M)(h:H p=none)(r:RepUs A ι H vs us):Wd A (ι++[p]) (upd H p (.tup vs)) (M++[.tup us])/\RepU A (ι++[p]) (upd H p (.tup vs)) (.ref p) (.m M.length) :=
 ⟨w.push h ⟨vs,upd_same,r.le (.push h)⟩, .m (by rw[<-w.len]; exact xI)⟩
def qD(M:MM):U->Option (List U)
 |.p (.lst ts)=>some (ts.map .p)
 |.m k=>match M[k]? with
  |some (.lst us)=>some us
  |_=>none
 |_=>none
def vI(M:MM):U->Option (List U)
 |.p (.tup ts)=>some (ts.map .p)
 |.m k=>match M[k]? with
  |some (.tup us)=>some us
  |_=>none
 |_=>none
theorem vG(w:Wd A ι H M)(r:RepU A ι H v u)(e:qD M u=some us):∃p vs,v=.ref p/\H p=some (.lst vs)/\RepUs A ι H vs us:=by
 cases r with
 |p r =>
  cases r with
  |lst na e1 l r=>simp[qD] at e; subst e; exact⟨_,_,rfl,e1,RepTs.ups (Paired.of_get l r)⟩
  |_=>simp[qD] at e
 |m q =>
  obtain⟨o,h1,h2⟩:=w.al q;simp only[qD,h1] at e;cases o with
  |lst us=>simp at e; subst e; obtain⟨vs,h3,h4⟩:=h2; exact⟨_,_,rfl,h3,h4⟩
  |_=>simp at e
 |x h=>simp[qD] at e
theorem zk(w:Wd A ι H M)(r:RepU A ι H v u)(e:vI M u=some us):∃p vs,v=.ref p/\H p=some (.tup vs)/\RepUs A ι H vs us:=by
 cases r with
 |p r =>
  cases r with
  |tup na e1 l r=>simp[vI] at e; subst e; exact⟨_,_,rfl,e1,RepTs.ups (Paired.of_get l r)⟩
  |_=>simp[vI] at e
 |m q =>
  obtain⟨o,h1,h2⟩:=w.al q;simp only[vI,h1] at e;cases o with
  |tup us=>simp at e; subst e; obtain⟨vs,h3,h4⟩:=h2; exact⟨_,_,rfl,h3,h4⟩
  |_=>simp at e
 |x h=>simp[vI] at e
theorem JZ(r:RepUs A ι H vs us)(e:atI us i=some z):∃x,atI vs i=some x/\RepU A ι H x z:=by
 unfold atI at e ⊢;rw[r.len];cases q:ixN us.length i with
 |none=>rw[q] at e; cases e
 |some j =>
  rw[q] at e;exact Paired.getR r e
def uIx(it:MM->U->Option (List U))(ua ub:UE):UE:=λρ M Q=>ua ρ M λx M1=>ub ρ M1 λy M2=>∃us i z,it M2 x=some us/\y=.p (.int i)/\atI us i=some z/\Q z M2
def CbL(r:List V->Hp->VK->Prop)(s:List T->(T->Prop)->Prop):Prop:=∀(A:Addr->Prop)(ι:List Addr)(H:Hp)(M:MM)(vs:List V)(ts:List T)(Qs:T->Prop)(Q:VK),Wd A ι H M->Paired (RepV (Av A ι) H) vs ts->s ts Qs ->
 (∀t ι' v H',Le ι H ι' H'->Wd A ι' H' M->RepT (Av A ι') H' v t->Qs t->Q v H')->r vs H Q
def uCb(s:List T->(T->Prop)->Prop)(ul:UA):UE:=λρ M Q=>ul ρ M λus M1=>∃ts,sns M1 us=some ts/\s ts λt=>Q (.p t) M1
theorem pv1(r:Paired (RepV A H) vs [t]):∃v,vs=[v]/\RepV A H v t:=by
 cases r with
 |cons r q=>cases q; exact⟨_,rfl,r⟩
theorem pv2(r:Paired (RepV A H) vs [t,s]):∃v z,vs=[v,z]/\RepV A H v t/\RepV A H z s:=by
 cases r with
 |cons r q =>
  obtain⟨v,rfl,r2⟩:=pv1 q;exact⟨_,_,rfl,r,r2⟩
def sAbs:List T->(T->Prop)->Prop:=λts Q=>∃i,ts=[.int i]/\Q (.int (if i<0 then -i else i))
theorem qaN:CbL (λxs H Q=>∃i,xs=[.int i]/\Q (.int (if i<0 then -i else i)) H) sAbs:=λA ι H M vs ts Qs Q w r ⟨i,e,q⟩ k=>by
 subst e;obtain⟨v,ev,r1⟩:=pv1 r;subst ev;cases r1.int_inv;exact⟨i,rfl,k _ ι _ H (.refl _ _) w (.int _) q⟩
def sMin:List T->(T->Prop)->Prop:=λts Q=>∃i j,ts=[.int i, .int j]/\Q (.int (if j<i then j else i))
theorem cbl_min:CbL (λxs H Q=>∃i j,xs=[.int i, .int j]/\Q (.int (if j<i then j else i)) H) sMin:=λA ι H M vs ts Qs Q w r ⟨i,j,e,q⟩ k=>by
 subst e;obtain⟨v,z,ev,r1,r2⟩:=pv2 r;subst ev;cases r1.int_inv; cases r2.int_inv;exact⟨i,j,rfl,k _ ι _ H (.refl _ _) w (.int _) q⟩
def sMax:List T->(T->Prop)->Prop:=λts Q=>∃i j,ts=[.int i, .int j]/\Q (.int (if j>i then j else i))
def sInt:List T->(T->Prop)->Prop:=λts Q=>(∃i,ts=[.int i]/\Q (.int i))\/∃k,ts=[.bl k]/\Q (.int (if k then 1 else 0))
theorem cbl_int:CbL (λxs H Q=>(∃i,xs=[.int i]/\Q (.int i) H)\/∃k,xs=[.bl k]/\Q (.int (if k then 1 else 0)) H) sInt:=λA ι H M vs ts Qs Q w r h k=>by
 rcases h with⟨i,e,q⟩|⟨b,e,q⟩
 ·subst e
  obtain⟨v,ev,r1⟩:=pv1 r;subst ev;cases r1.int_inv;exact .inl ⟨i,rfl,k _ ι _ H (.refl _ _) w (.int _) q⟩
 ·subst e
  obtain⟨v,ev,r1⟩:=pv1 r;subst ev;cases r1.bl_inv;exact .inr ⟨b,rfl,k _ ι _ H (.refl _ _) w (.int _) q⟩
def bls:List T->Option (List Bool)
 | []=>some []
 |.bl b::r=>(bls r).map (b :: ·)
 |_=>none
@[simp] theorem bls_map:∀bs:List Bool,bls (bs.map T.bl)=some bs
 | []=>rfl
 |b::r=>by simp[bls,bls_map r]
def sListOf:List T->(T->Prop)->Prop:=λts Q=>∃a xs,ts=[a]/\seqT a=some xs/\Q (.lst xs)
theorem k9:CbL (λxs H Q=>∃p ys,xs=[.ref p]/\(SqL Ξ H p ys\/SqT Ξ H p ys)/\∀l,H l=none->Q (.ref l) (upd H l (.lst ys))) sListOf:=λA ι H M vs ts Qs Q w r ⟨a,xs,e,ea,q⟩ k=>by
 subst e;obtain⟨v,ev,r1⟩:=pv1 r;subst ev;cases a<;>simp[seqT] at ea
 ·subst ea
  obtain⟨p,zs,rfl,h1,h2⟩:=r1.tup_inv;exact⟨p,zs,rfl, .inr (SqT.of h1),λl hl=>k _ ι _ _ (.fresh hl) (w.fresh hl) (zg w hl h2) q⟩
 ·subst ea
  obtain⟨p,zs,rfl,h1,h2⟩:=r1.lst_inv;exact⟨p,zs,rfl, .inl (SqL.of h1),λl hl=>k _ ι _ _ (.fresh hl) (w.fresh hl) (zg w hl h2) q⟩
def uLen(it:MM->U->Option (List U))(ul:UA):UE:=λρ M Q=>ul ρ M λus M1=>∃x ys,us=[x]/\it M1 x=some ys/\Q (.p (.int ys.length)) M1
def uBits(ua:UE):UE:=λρ M Q=>ua ρ M λx M1=>∃i,x=.p (.int i)/\Q (.p (.int (Builtin.Int.intBits i))) M1
def cutT(xs:List T)(lo hi:Option Int):List T:=(xs.drop (HT.sIx xs.length 0 lo)).take (HT.sIx xs.length xs.length hi-HT.sIx xs.length 0 lo)
theorem cut_rep{lo hi:Option Int}(r:RepTs A H vs ts):RepTs A H (cutV vs lo hi) (cutT ts lo hi):=by
 unfold cutV cutT;rw[r.len];exact(r.dr _).tk _
abbrev UO:=UEnv->MM->(Option Int->MM->Prop)->Prop
def LO(to:TO)(uo:UO):Prop:=∀(A:Addr->Prop)(ι:List Addr)(σ:St)(H:Hp)(ρ:UEnv)(M:MM)(Qu:Option Int->MM->Prop)(Q:Option Int->Hp->Prop),Wd A ι H M->EnvR A ι H σ ρ->uo ρ M Qu ->
 (∀b M' ι' H',Le ι H ι' H'->Wd A ι' H' M'->Qu b M'->Q b H')->to σ H Q
def XV:UO:=λ_ M Q=>Q none M
def uPart(ua:UE):UO:=λρ M Q=>ua ρ M λx M1=>∃i,x=.p (.int i)/\Q (some i) M1
theorem lo_none:LO xg XV:=λA ι σ H ρ M Qu Q w e q k=>k _ M ι H (.refl _ _) w q
def uSl(ua:UE)(ul uh:UO):UE:=λρ M Q=>ua ρ M λx M1=>ul ρ M1 λl M2=>uh ρ M2 λh M3=>∃ts,sn M3 x=some (.lst ts)/\Q (.p (.lst (cutT ts l h))) M3
end
section
variable {te ta tb:TE} {ue ua ub:UE} {tt:TT} {ut:UT} {tl:TA} {ul:UA} {n:Nat} {A A' A2:Addr->Prop} {H H' H1 H2:Hp} {ι ι' ι1 ι2:List Addr} {M M':MM} {v:V} {u:U} {t:T} {σ:St} {ρ:UEnv} {Ξ:PySem.W.Frag}
structure Lea(A:Addr->Prop)(ι:List Addr)(H:Hp)(A':Addr->Prop)(ι':List Addr)(H':Hp):Prop where
 ext:∃n,ι'=ι++n
 av:∀x o,¬Av A ι x->H x=some o->H' x=some o/\¬Av A' ι' x
 xd:∀x fs,x∉ι->H x=some (.xd fs)->x∉ι'/\H' x=some (.xd fs)
theorem Le.xd(l:Le ι H ι' H'):∀x fs,x∉ι->H x=some (.xd fs)->x∉ι'/\H' x=some (.xd fs):=λx fs hx e=>by
 obtain⟨m,rfl,hm⟩:=l.ext;refine⟨λz=>?_,l.fr x _ e hx⟩;rcases Uw.mp z with z|z
 ·exact hx z
 ·rw[hm x z] at e; cases e
theorem Le.lea(l:Le ι H ι' H'):Lea A ι H A ι' H':=⟨let⟨n,e,_⟩:=l.ext; ⟨n,e⟩,λ_ _ h e=>l.av h e,l.xd⟩
theorem Lea.trans(a:Lea A ι H A' ι' H')(b:Lea A' ι' H' A2 ι2 H2):Lea A ι H A2 ι2 H2:=by
 obtain⟨n,rfl⟩:=a.ext;obtain⟨m,rfl⟩:=b.ext;exact⟨⟨n++m,by rw[Us]⟩,λx o h e=>b.av x o (a.av x o h e).2 (a.av x o h e).1,λx fs h e=>b.xd x fs (a.xd x fs h e).1 (a.xd x fs h e).2⟩
theorem RepU.lea(l:Lea A ι H A' ι' H')(r:RepU A ι H v u):RepU A' ι' H' v u:=by
 cases r with
 |p r=>exact .p (r.mono l.av)
 |m e =>
  obtain⟨n,rfl⟩:=l.ext;exact .m (by rw[Ug (Ue.mp e).1]; exact e)
 | @x a d q h =>
  refine .x ?_;cases q with
  |none=>exact h
  |some n =>
   obtain⟨x0,e,ni,hx⟩:=h;have:=l.xd x0 _ ni hx;exact⟨x0,e,this.1,this.2⟩
theorem EnvR.lea(l:Lea A ι H A' ι' H')(r:EnvR A ι H σ ρ):EnvR A' ι' H' σ ρ:=Paired.mapP r λ_ _ q u e=>by
 obtain⟨v,h1,h2⟩:=q u e;exact⟨v,h1,h2.lea l⟩
structure UIt where
 n:Nat
 ok:MM->Prop
 item:Nat->U->Prop
def ItR(A:Addr->Prop)(ι1:List Addr)(H1:Hp)(J:It)(it:UIt):Prop:=∀(A':Addr->Prop)(ι:List Addr)(H:Hp)(M:MM)(i:Nat),Lea A ι1 H1 A' ι H->Wd A' ι H M->it.ok M ->
 (i<it.n->J.go i H/\∀x H',J.yld i H x H'->∃u,it.item i u/\Le ι H ι H'/\Wd A' ι H' M/\RepU A' ι H' x u)/\(i=it.n->J.stop i H)
abbrev UI:=UEnv->MM->(UIt->MM->Prop)->Prop
def LI(wi:TI)(ui:UI):Prop:=∀(A:Addr->Prop)(ι:List Addr)(σ:St)(H:Hp)(ρ:UEnv)(M:MM)(Qu:UIt->MM->Prop)(R:It->Hp->Prop),Wd A ι H M->EnvR A ι H σ ρ->ui ρ M Qu ->
 (∀it M' ι' J H',Le ι H ι' H'->Wd A ι' H' M'->ItR A ι' H' J it->Qu it M'->R J H')->wi σ H R
def uIter(ua:UE):UI:=λρ M Q=>ua ρ M λx M1=>∃us,qD M1 x=some us/\Q ⟨us.length,λM=>qD M x=some us,λi z=>us[i]?=some z⟩ M1
def uRev(ul:UA):UI:=λρ M Q=>ul ρ M λxs M1=>∃x us,xs=[x]/\qD M1 x=some us/\Q ⟨us.length,λM=>qD M x=some us,λi z=>us[us.length-1-i]?=some z⟩ M1
def uRng1(ul:UA):UI:=λρ M Q=>ul ρ M λxs M1=>∃j:Int,xs=[.p (.int j)] /\ -(2^62)<=j/\j<2^62/\Q ⟨j.toNat,λ_=>True,λi z=>z=.p (.int i)⟩ M1
theorem itr_ok{lo:Int}:ItR A ι H (Itr lo n) ⟨n,λ_=>True,λi z=>z=.p (.int (lo+i))⟩:=λA' ι2 H2 M2 i l w2 _ =>
 ⟨λhi=>⟨hi,λx H' y=>by
  obtain⟨rfl,rfl⟩:=y;exact⟨_,rfl, .refl _ _,w2, .p (.int _)⟩⟩,λhi=>Rk hi.symm⟩
abbrev UG:=U->UEnv->MM->(UEnv->MM->Prop)->Prop
def LG(g:TG)(ug:UG):Prop:=∀(A:Addr->Prop)(ι:List Addr)(σ:St)(H:Hp)(ρ:UEnv)(M:MM)(v:V)(u:U)(Qu:UEnv->MM->Prop)(Q:St->Hp->Prop),Wd A ι H M->EnvR A ι H σ ρ->RepU A ι H v u->ug u ρ M Qu ->
 (∀ρ' M' ι' σ' H',Le ι H ι' H'->Wd A ι' H' M'->EnvR A ι' H' σ' ρ'->Qu ρ' M'->Q σ' H')->g v σ H Q
def Y2(i:Nat):UG:=λu ρ M Q=>Q (ρ.set i (some u)) M
def Y1(i j:Nat):UG:=λu ρ M Q=>∃a b,vI M u=some [a,b]/\Q ((ρ.set i (some a)).set j (some b)) M
def Zv(i j k:Nat):UG:=λu ρ M Q=>∃a b c,vI M u=some [a,b,c]/\Q (((ρ.set i (some a)).set j (some b)).set k (some c)) M
theorem rep2(r:RepUs A ι H vs [a,b]):∃x y,vs=[x,y]/\RepU A ι H x a/\RepU A ι H y b:=by
 cases r with
 |cons r q=>cases q with|cons r2 q=>cases q; exact⟨_,_,rfl,r,r2⟩
theorem rep3(r:RepUs A ι H vs [a,b,c]):∃x y z,vs=[x,y,z]/\RepU A ι H x a/\RepU A ι H y b/\RepU A ι H z c:=by
 cases r with
 |cons r q =>
  obtain⟨y,z,rfl,r2,r3⟩:=rep2 q;exact⟨_,_,_,rfl,r,r2,r3⟩
def uSub(uo ui:UE):UG:=λu ρ M Q=>uo ρ M λo M1=>ui ρ M1 λi M2=>∃k us z j,o=.m k/\M2[k]?=some (.lst us)/\i=.p (.int z)/\ixN us.length z=some j/\Q ρ (M2.set k (.lst (us.set j u)))
def xP(bs:List Bool)(n i:Nat):Bool:=match bs[i]? with
 |some b => !b
 |none=>decide (i<bs.length+n)
theorem jB(hl:σ.length=bs.length)(h:xP bs n i=true):(zD bs n σ)[i]?=some none:=by
 unfold xP at h;unfold zD;have hz:((bs.zip σ).map (λp=>if p.1 then p.2 else none)).length=bs.length:=by simp[hl]
 cases e:bs[i]? with
 |some b =>
  rw[e] at h;have hi:=(Ue.mp e).1;rw[Ug (by rw[hz]; exact hi),Uz];have hb:b=false:=by simpa using h
  have e2:(bs.zip σ)[i]?=some (b,σ[i]'(by lia)):=by
   rw[Uf (by simp[hl]; exact hi)];simp;exact(Ue.mp e).2
  rw[e2,hb];rfl
 |none =>
  rw[e] at h;have hi:=Rp.mp e;simp at h;rw[Uo (by rw[hz]; exact hi),hz,DU];rw[if_pos (by lia)]
def LGx(bs:List Bool)(n:Nat)(g:TG)(ug:UG):Prop:=∀(A:Addr->Prop)(ι:List Addr)(σ:St)(H:Hp)(ρ:UEnv)(M:MM)(v:V)(u:U)(Qu:UEnv->MM->Prop)(Q:St->Hp->Prop),σ.length=bs.length->Wd A ι H M->EnvR A ι H (zD bs n σ) ρ->RepU A ι H v u->ug u ρ M Qu ->
 (∀ρ' σ',EnvR A ι H σ' ρ'->ExtS (zD bs n σ) σ'->σ'.length=(zD bs n σ).length->Qu ρ' M->Q σ' H)->g v (zD bs n σ) H Q
theorem lt_yes:LT tYes (λ_ M Q=>Q true M):=λA ι σ H ρ M Qu Q w e q k=>k true M ι H (.refl _ _) w q
abbrev uYes:UT:=λ_ M Q=>Q true M
def UComp(it:UIt)(ug:UG)(ut:UT)(ue:UE)(ρ0:UEnv)(M1:MM)(Q:UK):Prop:=it.n<=sizeLine/\∃Iv:Nat->List T->MM->Prop,Iv 0 [] M1 /\
 (∀i acc M2,i<it.n->acc.length<=i->Iv i acc M2->it.ok M2/\∀u,it.item i u->ug u ρ0 M2 λρ4 M4=>ut ρ4 M4 λb M5=>if b=true then ue ρ4 M5 λz M6=>∃t,z=.p t/\Iv (i+1) (acc++[t]) M6 else Iv (i+1) acc M5) /\
 (∀acc M2,Iv it.n acc M2->it.ok M2/\Q (.p (.lst acc)) M2)
def uComp(ui:UI)(bs:List Bool)(n:Nat)(ug:UG)(ut:UT)(ue:UE):UE:=λρ M Q=>ui ρ M λit M1=>ρ.length=bs.length/\UComp it ug ut ue (YD bs n ρ) M1 Q
theorem Wd.addA(w:Wd A ι H M)(h:H p=none):Wd (λx=>A x\/x=p) ι (upd H p o) M:=by
 have w2:=w.fresh (o:=o) h;have hm:∀x o',¬Av A ι x->(upd H p o) x=some o'->H x≠none->(upd H p o) x=some o'/\¬Av (λx=>A x\/x=p) ι x:=λx o' hx e hs=>⟨e,λz=>by
  rcases z with(z|z)|z
  ·exact hx (.inl z)
  ·subst z; exact hs h
  ·exact hx (.inr z)⟩
 have hl:Lea A ι H (λx=>A x\/x=p) ι (upd H p o):=⟨⟨[],by simp⟩,λx o' hx e=>hm x o' hx (z0 h e) (by rw[e]; simp),λx fs hx e=>⟨hx,z0 h e⟩⟩;refine⟨w.nd,w.len,λx hx=>?_,λx hx z=>?_,λk a ob e1 e2=>?_⟩
 ·rcases hx with hx|hx
  ·exact w2.dom x hx
  ·rw[hx,upd_same]; simp
 ·rcases z with z|z
  ·exact w.na x hx z
  ·exact w.nin h (by rw[<-z]; exact hx)
 ·have r:=w.obj k a ob e1 e2
  have ea:upd H p o a=H a:=upd_ne λz=>by
   obtain⟨q,hq⟩:=r.some;rw[z,h] at hq; cases hq
  cases ob with
  |lst=>obtain⟨vs,e,r⟩:=r; exact⟨vs,by rw[ea]; exact e,Paired.mapP r λ_ _ q=>q.lea hl⟩
  |tup=>obtain⟨vs,e,r⟩:=r; exact⟨vs,by rw[ea]; exact e,Paired.mapP r λ_ _ q=>q.lea hl⟩
  |ins =>
   obtain⟨dx,gs,e,ed,nd,r⟩:=r;exact⟨dx,gs,by rw[ea]; exact e,z0 h ed,nd,Paired.mapP r λ_ _ q=>⟨q.1,q.2.lea hl⟩⟩
  |dK=>obtain⟨gs,e,r⟩:=r; exact⟨gs,by rw[ea]; exact e,Paired.mapP r λ_ _ q=>⟨q.1,q.2.lea hl⟩⟩
  |dF=>obtain⟨e,r⟩:=r; exact⟨by rw[ea]; exact e,Paired.mapP r λ_ _ q=>⟨q.1,q.2.lea hl⟩⟩
  |tab=>obtain⟨ps,e,t,z⟩:=r; exact⟨ps,by rw[ea]; exact e,t,z.imp id λ⟨c,h1,h2,h3⟩=>⟨c,h1,z0 h h2,h3⟩⟩
theorem Wd.lessA(w:Wd A' ι H M)(h:∀x,A x->A' x):Wd A ι H M:=by
 have hl:Lea A' ι H A ι H:=⟨⟨[],by simp⟩,λx o hx e=>⟨e,λz=>hx (z.elim (λz=>.inl (h x z)) .inr)⟩,λx fs hx e=>⟨hx,e⟩⟩;refine⟨w.nd,w.len,λx hx=>w.dom x (h x hx),λx hx z=>w.na x hx (h x z),λk a ob e1 e2=>?_⟩;have r:=w.obj k a ob e1 e2;cases ob with
 |lst=>obtain⟨vs,e,r⟩:=r; exact⟨vs,e,Paired.mapP r λ_ _ q=>q.lea hl⟩
 |tup=>obtain⟨vs,e,r⟩:=r; exact⟨vs,e,Paired.mapP r λ_ _ q=>q.lea hl⟩
 |ins=>obtain⟨dx,gs,e,ed,nd,r⟩:=r; exact⟨dx,gs,e,ed,nd,Paired.mapP r λ_ _ q=>⟨q.1,q.2.lea hl⟩⟩
 |dK=>obtain⟨gs,e,r⟩:=r; exact⟨gs,e,Paired.mapP r λ_ _ q=>⟨q.1,q.2.lea hl⟩⟩
 |dF=>obtain⟨e,r⟩:=r; exact⟨e,Paired.mapP r λ_ _ q=>⟨q.1,q.2.lea hl⟩⟩
 |tab=>exact r
theorem Wd.updA(w:Wd A ι H M)(ha:A p)(hp:H p=some (.lst ys)):Lea A ι H A ι (upd H p o)/\Wd A ι (upd H p o) M:=by
 have hl:Lea A ι H A ι (upd H p o):=⟨⟨[],by simp⟩,λx o' hx e=>⟨by rw[upd_ne λz=>hx (.inl (by rw[z]; exact ha))]; exact e,hx⟩,λx fs hx e=>⟨hx,by rw[upd_ne λz=>by rw[z,hp] at e; cases e]; exact e⟩⟩;refine⟨hl,w.nd,w.len,λx hx=>?_,w.na,λk a ob e1 e2=>?_⟩
 ·by_cases z:x=p
  ·rw[z,upd_same]; simp
  ·rw[upd_ne z]; exact w.dom x hx
 ·have r:=w.obj k a ob e1 e2
  have ea:upd H p o a=H a:=upd_ne λz=>w.na a (Ui e1) (by rw[z]; exact ha);cases ob with
  |lst=>obtain⟨vs,e,r⟩:=r; exact⟨vs,by rw[ea]; exact e,Paired.mapP r λ_ _ q=>q.lea hl⟩
  |tup=>obtain⟨vs,e,r⟩:=r; exact⟨vs,by rw[ea]; exact e,Paired.mapP r λ_ _ q=>q.lea hl⟩
  |ins =>
   obtain⟨dx,gs,e,ed,nd,r⟩:=r;exact⟨dx,gs,by rw[ea]; exact e,by rw[upd_ne λz=>by rw[z,hp] at ed; cases ed]; exact ed,nd,Paired.mapP r λ_ _ q=>⟨q.1,q.2.lea hl⟩⟩
  |dK=>obtain⟨gs,e,r⟩:=r; exact⟨gs,by rw[ea]; exact e,Paired.mapP r λ_ _ q=>⟨q.1,q.2.lea hl⟩⟩
  |dF=>obtain⟨e,r⟩:=r; exact⟨by rw[ea]; exact e,Paired.mapP r λ_ _ q=>⟨q.1,q.2.lea hl⟩⟩
  |tab=>obtain⟨ps,e,t,z⟩:=r; exact⟨ps,by rw[ea]; exact e,t,z.imp id λ⟨c,h1,h2,h3⟩=>⟨c,h1,by rw[upd_ne λz=>by rw[z,hp] at h2; cases h2]; exact h2,h3⟩⟩
theorem Le.updF(l:Le ι H ι' H')(h:H p=none):Le ι H ι' (upd H' p o):=⟨l.ext,λx o' e n=>by rw[upd_ne (qS e h)]; exact l.fr x o' e n,λx e=>by
 by_cases z:x=p
 ·rw[z,upd_same]; simp
 ·rw[upd_ne z]; exact l.al x e⟩
end
section
variable {ta:TE} {ua ub uc:UE} {tt:TT} {ut:UT} {tl:TA} {ul:UA} {n:Nat} {A:Addr->Prop} {H H' H1 H2:Hp} {ι ι' ι1 ι2:List Addr} {M M':MM} {v:V} {u:U} {t:T} {σ:St} {ρ:UEnv}
structure UEnds where
 nx:UEnv->MM->Prop
 rt:UK
 bk:UEnv->MM->Prop:=λ_ _=>False
 ct:UEnv->MM->Prop:=λ_ _=>False
abbrev US:=UEnds->UEnv->MM->Prop
structure EndsR(A:Addr->Prop)(ι0:List Addr)(H0:Hp)(E:UEnds)(D:Ends):Prop where
 nx:∀ι σ H ρ M,Le ι0 H0 ι H->Wd A ι H M->EnvR A ι H σ ρ->E.nx ρ M->D.nx σ H
 rt:∀ι v H u M,Le ι0 H0 ι H->Wd A ι H M->RepU A ι H v u->E.rt u M->D.rt v H
 bk:∀ι σ H ρ M,Le ι0 H0 ι H->Wd A ι H M->EnvR A ι H σ ρ->E.bk ρ M->D.bk σ H
 ct:∀ι σ H ρ M,Le ι0 H0 ι H->Wd A ι H M->EnvR A ι H σ ρ->E.ct ρ M->D.ct σ H
theorem EndsR.le(l:Le ι H ι' H')(r:EndsR A ι H E D):EndsR A ι' H' E D :=
 ⟨λ_ _ _ _ _ h=>r.nx _ _ _ _ _ (l.trans h),λ_ _ _ _ _ h=>r.rt _ _ _ _ _ (l.trans h),λ_ _ _ _ _ h=>r.bk _ _ _ _ _ (l.trans h),λ_ _ _ _ _ h=>r.ct _ _ _ _ _ (l.trans h)⟩
def LS(ts:TS)(us:US):Prop:=∀(A:Addr->Prop)(ι:List Addr)(σ:St)(H:Hp)(ρ:UEnv)(M:MM)(D:Ends)(E:UEnds),Wd A ι H M->EnvR A ι H σ ρ->EndsR A ι H E D->us E ρ M->ts D σ H
def uNext:US:=λE ρ M=>E.nx ρ M
def uSeq(a b:US):US:=λE ρ M=>a { E with nx:=b E } ρ M
def uDrop(ua:UE):US:=λE ρ M=>ua ρ M λ_ M1=>E.nx ρ M1
def uRet(ua:UE):US:=λE ρ M=>ua ρ M E.rt
def uRetN:US:=λE ρ M=>E.rt (.p .non) M
def uIfS(c:UT)(a b:US):US:=λE ρ M=>c ρ M λk M1=>if k=true then a E ρ M1 else b E ρ M1
def uAsg(ua:UE)(g:UG):US:=λE ρ M=>ua ρ M λx M1=>g x ρ M1 E.nx
def uAug(i:Nat)(f:Int->Int->Int)(ua:UE):US:=λE ρ M=>∃a,ρ[i]?=some (some (.p (.int a)))/\ua ρ M λy M1=>∃b,y=.p (.int b)/\E.nx (ρ.set i (some (.p (.int (f a b))))) M1
theorem ls_next:LS Vx uNext:=λA ι σ H ρ M D E w e r q=>r.nx ι σ H ρ M (.refl _ _) w e q
theorem ls_retN:LS Zz uRetN:=λA ι σ H ρ M D E w e r q=>r.rt ι .non H _ M (.refl _ _) w (.p .non) q
def UFor(it:UIt)(ug:UG)(ub:US)(E:UEnds)(ρ:UEnv)(M1:MM):Prop:=∃Iv:Nat->UEnv->MM->Prop,Iv 0 ρ M1 /\
 (∀i ρ2 M2,i<it.n->Iv i ρ2 M2->it.ok M2/\∀u,it.item i u->ug u ρ2 M2 λρ3 M3=>ub { E with nx:=Iv (i+1),ct:=Iv (i+1),bk:=E.nx } ρ3 M3) /\
 (∀ρ2 M2,Iv it.n ρ2 M2->it.ok M2/\E.nx ρ2 M2)
def uFor(ui:UI)(ug:UG)(ub:US):US:=λE ρ M=>ui ρ M λit M1=>UFor it ug ub E ρ M1
def uWhile(uc:UT)(ub:US):US:=λE ρ M=>∃W:Nat->UEnv->MM->Prop,(∃m,W m ρ M)/\∀m ρ M,W m ρ M ->
 uc ρ M λb M1=>if b=true then ∃N:UEnv->MM->Prop,(∀ρ' M',N ρ' M'->∃m',m'<m/\W m' ρ' M')/\ub { E with nx:=N,ct:=N,bk:=E.nx } ρ M1 else E.nx ρ M1
def MeL(r:V->List V->Hp->VK->Prop)(s:List U->List U->(U->List U->Prop)->Prop):Prop:=∀(A:Addr->Prop)(ι:List Addr)(H:Hp)(M:MM)(k:Nat)(a:Addr)(xs ys:List V)(us ws:List U)(Qs:U->List U->Prop)(Q:VK),Wd A ι H M->ι[k]?=some a->H a=some (.lst xs)->M[k]?=some (.lst us)->RepUs A ι H xs us->RepUs A ι H ys ws->s us ws Qs ->
 (∀z us' v xs',RepUs A ι H xs' us'->RepU A ι H v z->Qs z us'->Q v (upd H a (.lst xs')))->r (.ref a) ys H Q
def uMe(s:List U->List U->(U->List U->Prop)->Prop)(uo:UE)(ul:UA):UE:=λρ M Q=>uo ρ M λo M1=>∃k,o=.m k/\(∃zs,M1[k]?=some (.lst zs))/\ul ρ M1 λws M2=>∃us,M2[k]?=some (.lst us)/\s us ws λz us'=>Q z (M2.set k (.lst us'))
def Wr:List U->List U->(U->List U->Prop)->Prop:=λus ws Q=>∃y,ws=[y]/\us.length<sizeLine/\Q (.p .non) (us++[y])
theorem vF:MeL WF Wr:=λA ι H M k a xs ys us ws Qs Q w ek h1 h2 rx ry ⟨y,ey,hz,q⟩ kk=>by
 subst ey;cases ry with
 |cons r q' =>
 cases q';exact⟨a,xs,_,rfl,rfl,h1,by rw[rx.len]; exact hz,kk _ _ _ _ (rx.app (.cons r .nil)) (.p .non) q⟩
def spU(G:List U->MM->UK->Prop):Sp:=λvs H Q _=>∃A ι M us Qu,Wd A ι H M/\RepUs A ι H vs us/\G us M Qu/\∀u M' ι' v H',Le ι H ι' H'->Wd A ι' H' M'->RepU A ι' H' v u->Qu u M'->Q v H'
def uCall(G:List U->MM->UK->Prop)(ul:UA):UE:=λρ M Q=>ul ρ M λus M1=>G us M1 Q
def spP(G:List T->(T->Prop)->Prop):Sp:=λvs H Q _=>∃A ts Qt,(∀x,A x->H x≠none)/\RepTs A H vs ts/\G ts Qt/\∀t v H',Same H H'->RepT A H' v t->Qt t->Q v H'
def Y4(G:List T->(T->Prop)->Prop)(ul:UA):UE:=λρ M Q=>ul ρ M λus M1=>∃ts,zh us=some ts/\G ts λt=>Q (.p t) M1
def uCallS(G:List T->(T->Prop)->Prop)(ul:UA):UE:=λρ M Q=>ul ρ M λus M1=>∃ts,sns M1 us=some ts/\G ts λt=>(∃x,vt t=some x)/\Q (.p t) M1
theorem Same.le(s:Same H H'):Le ι H ι H':=⟨⟨[],by simp,by simp⟩,λx o e _=>s x o e,λx e=>by
 cases q:H x with
 |none=>exact absurd q e
 |some o=>rw[s x o q]; simp⟩
theorem Wd.same(w:Wd A ι H M)(s:Same H H'):Wd A ι H' M :=
 ⟨w.nd,w.len,λx hx=>(Same.le (ι:=ι) s).al x (w.dom x hx),w.na,λk a ob e1 e2=>(w.obj k a ob e1 e2).le' s.le (by
  obtain⟨o,ho⟩:=(w.obj k a ob e1 e2).some;rw[ho,s _ _ ho]) λx ex=>by rw[ex,s _ _ ex]⟩
theorem Wd.domAv(w:Wd A ι H M):∀x,Av A ι x->H x≠none:=λx h=>by
 rcases h with h|h
 ·exact w.dom x h
 ·obtain⟨o,ho⟩:=w.mem_some h
  rw[ho]; simp
def frzs(f:U->Option T):List U->Option (List T)
 | []=>some []
 |u::r=>match f u,frzs f r with
  |some t,some ts=>some (t::ts)
  |_,_=>none
def frzN:Nat->MM->U->Option T
 |_,_, .p t=>some t
 |0,_, .m _=>none
 |_,_, .x _ _ _=>none
 |n+1,M, .m k=>match M[k]? with
  |some (.lst us)=>(frzs (frzN n M) us).map T.lst
  |some (.tup us)=>(frzs (frzN n M) us).map T.tup
  |_=>none
theorem kR(r:RepUs A ι H vs us)(h:∀v u t,RepU A ι H v u->f u=some t->RepT A H v t)(e:frzs f us=some ts):RepTs A H vs ts:=by
 induction r generalizing ts with
 |nil=>simp[frzs] at e; subst e; exact .nil
 |cons r q ih =>
  simp only[frzs] at e;split at e
  ·rename_i h1 h2
   simp at e; subst e;exact .cons (h _ _ _ r h1) (ih h2)
  ·cases e
theorem zQ(w:Wd A ι H M):∀{n:Nat}{v:V}{u:U}{t:T},RepU A ι H v u->frzN n M u=some t->RepT A H v t
 |n,v, .p t',t, .p r,e=>by
  cases n<;>simp[frzN] at e<;>subst e<;>exact r.mono λx o hx ex=>⟨ex,λz=>hx (.inl z)⟩
 |0,v, .m k,t,r,e=>by simp[frzN] at e
 |n,v, .x a d q,t,r,e=>by cases n<;>simp[frzN] at e
 |n+1,v, .m k,t,r,e=>by
  cases r with
  |m q =>
  obtain⟨o,h1,h2⟩:=w.al q;have hna:=w.na _ (Ui q);simp only[frzN,h1] at e;cases o with
  |lst us =>
   simp at e;obtain⟨ts,e1,rfl⟩:=e;obtain⟨vs,h3,h4⟩:=h2;exact .lstP hna h3 (kR h4 (λv u t r e=>zQ w r e) e1)
  |tup us =>
   simp at e;obtain⟨ts,e1,rfl⟩:=e;obtain⟨vs,h3,h4⟩:=h2;exact .tupP hna h3 (kR h4 (λv u t r e=>zQ w r e) e1)
  |ins=>simp at e
  |dK=>simp at e
  |dF=>simp at e
  |tab=>simp at e
theorem kU(h:∀t,f (.p t)=some t):∀ts:List T,frzs f (ts.map U.p)=some ts
 | []=>rfl
 |t::r=>by simp[frzs,h t,kU h r]
@[simp] theorem kz:frzN n M (.p t)=some t:=by cases n<;>rfl
def xQ(N:List Str)(us:List U):UEnv:=us.map some++List.replicate (N.length-us.length) none
theorem jx(r:RepUs A ι H vs us):EnvR A ι H (start N vs) (xQ N us):=by
 unfold start xQ;refine Paired.app ?_ ?_
 ·exact Paired.mapR (f:=some) (F:=λs u=>∃v,s=some v/\RepU A ι H v u) (λa b q u e=>by cases e; exact q) (by
   induction r with
   |nil=>exact .nil
   |cons r q ih=>exact .cons ⟨_,rfl,r⟩ ih)
 ·rw[r.len]
  generalize N.length-us.length=m
  induction m with
  |zero=>exact .nil
  |succ m ih=>exact .cons (λu e=>by cases e) ih
end
section
variable {P:Program} {w:World} {Ξ:PySem.W.Frag} {mg:Str->Option Value} {base:Heap}
theorem Fun.okU{st:Stmt}(F:Fun Ξ x qual st f fd)(S:FnScope N ps (qg st))(len:∀us M Qu,G us M Qu->us.length=ps.length)(hbody:∀(cdv:Value)(A:Around)(outer:List Env)(s:Shared)(H:Hp)(E:XK),Room k (A.deeper (envOfC qual (qg st) s.heap.objs.size f cdv)) ->
   ∃t,PSs (cxOf CX0 P w Ξ mg base N qual (qg st) f cdv A outer s H E).nox (vz st) t/\∃u,LS t u/\∀us M Qu,G us M Qu->u { nx:=λ_ M'=>Qu (.p .non) M',rt:=Qu } (xQ N us) M):FnOk P w Ξ mg base CX0 (k+1) f fd ps (spU G):=by
 refine F.ok S (λvs H Q E h=>?_) (λcdv A outer s H vs Q E hr h=>?_)
 ·obtain⟨A,ι,M,us,Qu,w1,r,g,_⟩:=h
  rw[r.len]; exact len us M Qu g
 ·obtain⟨B,ι,M,us,Qu,w1,r,g,kk⟩:=h
  obtain⟨t,ht,u,hu,hb⟩:=hbody cdv A outer s H E hr;refine⟨t,ht,hu B ι _ H _ M _ { nx:=λ_ M'=>Qu (.p .non) M',rt:=Qu } w1 (jx r) ⟨λι1 σ1 H1 ρ1 M1 l1 w1 e1 q1=>kk _ M1 ι1 _ H1 l1 w1 (.p .non) q1,λι1 v H1 z M1 l1 w1 r1 q1=>kk z M1 ι1 v H1 l1 w1 r1 q1,λ_ _ _ _ _ _ _ _ q=>q.elim,λ_ _ _ _ _ _ _ _ q=>q.elim⟩ (hb us M Qu g)⟩
theorem Fun.okP{st:Stmt}(F:Fun Ξ x qual st f fd)(S:FnScope N ps (qg st))(len:∀ts Qt,G ts Qt->ts.length=ps.length)(hbody:∀(cdv:Value)(A:Around)(outer:List Env)(s:Shared)(H:Hp)(E:XK),Room k (A.deeper (envOfC qual (qg st) s.heap.objs.size f cdv)) ->
   ∃t,PSs (cxOf CX0 P w Ξ mg base N qual (qg st) f cdv A outer s H E).nox (vz st) t/\∃u,LS t u/\∀ts Qt,G ts Qt->u { nx:=λ_ _=>Qt .non,rt:=λz M'=>∃t,frzN 4 M' z=some t/\Qt t } (xQ N (ts.map U.p)) []):FnOk P w Ξ mg base CX0 (k+1) f fd ps (spP G):=by
 refine F.ok S (λvs H Q E h=>?_) (λcdv A outer s H vs Q E hr h=>?_)
 ·obtain⟨A,ts,Qt,hd,r,g,_⟩:=h
  rw[r.len]; exact len ts Qt g
 ·obtain⟨B,ts,Qt,hd,r,g,kk⟩:=h
  obtain⟨t,ht,u,hu,hb⟩:=hbody cdv A outer s H E hr;have w0:Wd B [] H []:=⟨D1,rfl,hd,λx hx=>by simp at hx,λk a o e _=>by simp at e⟩;have same:∀{ι1:List Addr}{H1:Hp},Le [] H ι1 H1->Same H H1:=λl b o e=>l.fr b o e (by simp);have r0:RepUs B [] H vs (ts.map U.p):=RepTs.ups (Paired.mapP r λ_ _ q=>q.mono λx o hx ex=>⟨ex,λz=>z.elim hx (by simp)⟩);refine⟨t,ht,hu B [] _ H _ [] _ { nx:=λ_ _=>Qt .non,rt:=λz M'=>∃t,frzN 4 M' z=some t/\Qt t } w0 (jx r0) ⟨λι1 σ1 H1 ρ1 M1 l1 w1 e1 q1=>kk _ _ H1 (same l1) .non q1,λι1 v H1 z M1 l1 w1 r1 ⟨t1,et,q1⟩=>kk t1 v H1 (same l1) (zQ w1 r1 et) q1,λ_ _ _ _ _ _ _ _ q=>q.elim,λ_ _ _ _ _ _ _ _ q=>q.elim⟩ (hb ts Qt g)⟩
end
section
def OpS(s:T->T->(T->Prop)->Prop)(M:MM)(x y:U)(Q:UK):Prop:=∃a b,sn M x=some a/\sn M y=some b/\s a b λt=>Q (.p t) M
theorem rd_op:uOp s ua ub ρ M Q=ua ρ M λx M1=>ub ρ M1 λy M2=>OpS s M2 x y Q:=rfl
theorem rd_opS:OpS s M (.p a) (.p b) Q=s a b λt=>Q (.p t) M :=
 propext ⟨λ⟨_,_,e1,e2,h⟩=>by cases e1; cases e2; exact h,λh=>⟨a,b,rfl,rfl,h⟩⟩
theorem rd_sI:sI C g (.int i) (.int j) Q=(C i j/\Q (g i j)) :=
 propext ⟨λ⟨_,_,e1,e2,h⟩=>by cases e1; cases e2; exact h,λh=>⟨i,j,rfl,rfl,h⟩⟩
theorem rd_sI0:sI0 g (.int i) (.int j) Q=Q (g i j) :=
 propext ⟨λ⟨_,_,e1,e2,h⟩=>by cases e1; cases e2; exact h,λh=>⟨i,j,rfl,rfl,h⟩⟩
theorem rd_eqI:sEq false (.int i) (.int j) Q=Q (.bl (decide (i=j))):=by
 refine propext ⟨λ⟨x,y,e1,e2,_,h⟩=>?_,λh=>⟨_,_,rfl,rfl,rfl, ?_⟩⟩
 ·simp[vt] at e1 e2; subst e1 e2; simpa using h
 ·simpa using h
theorem rd_neI:sEq true (.int i) (.int j) Q=Q (.bl (!decide (i=j))):=by
 refine propext ⟨λ⟨x,y,e1,e2,_,h⟩=>?_,λh=>⟨_,_,rfl,rfl,rfl, ?_⟩⟩
 ·simp[vt] at e1 e2; subst e1 e2; simpa using h
 ·simpa using h
theorem rd_eqS:sEq false (.str i) (.str j) Q=Q (.bl (decide (i=j))):=by
 refine propext ⟨λ⟨x,y,e1,e2,_,h⟩=>?_,λh=>⟨_,_,rfl,rfl,rfl, ?_⟩⟩
 ·simp[vt] at e1 e2; subst e1 e2; simpa using h
 ·simpa using h
theorem rd_neS:sEq true (.str i) (.str j) Q=Q (.bl (!decide (i=j))):=by
 refine propext ⟨λ⟨x,y,e1,e2,_,h⟩=>?_,λh=>⟨_,_,rfl,rfl,rfl, ?_⟩⟩
 ·simp[vt] at e1 e2; subst e1 e2; simpa using h
 ·simpa using h
theorem rd_eqB:sEq false (.bl i) (.bl j) Q=Q (.bl (decide (i=j))):=by
 refine propext ⟨λ⟨x,y,e1,e2,_,h⟩=>?_,λh=>⟨_,_,rfl,rfl,rfl, ?_⟩⟩
 ·simp[vt] at e1 e2; subst e1 e2; simpa using h
 ·simpa using h
theorem rd_neB:sEq true (.bl i) (.bl j) Q=Q (.bl (!decide (i=j))):=by
 refine propext ⟨λ⟨x,y,e1,e2,_,h⟩=>?_,λh=>⟨_,_,rfl,rfl,rfl, ?_⟩⟩
 ·simp[vt] at e1 e2; subst e1 e2; simpa using h
 ·simpa using h
def VarS(o:Option (Option U))(M:MM)(Q:UK):Prop:=∃u,o=some (some u)/\Q u M
theorem rd_var:uVar i ρ M Q=VarS ρ[i]? M Q:=rfl
theorem rd_varS:VarS (some (some u)) M Q=Q u M:=propext ⟨λ⟨_,e,h⟩=>by cases e; exact h,λh=>⟨u,rfl,h⟩⟩
def IntS(x:U)(R:Int->Prop):Prop:=∃i,x=.p (.int i)/\R i
theorem rd_intS:IntS (.p (.int i)) R=R i:=propext ⟨λ⟨_,e,h⟩=>by cases e; exact h,λh=>⟨i,rfl,h⟩⟩
def BlS(x:U)(R:Bool->Prop):Prop:=∃b,x=.p (.bl b)/\R b
theorem rd_blS:BlS (.p (.bl b)) R=R b:=propext ⟨λ⟨_,e,h⟩=>by cases e; exact h,λh=>⟨b,rfl,h⟩⟩
theorem rd_neg:uNeg ua ρ M Q=ua ρ M λx M1=>IntS x λi=>Q (.p (.int (-i))) M1:=rfl
theorem rd_bits:uBits ua ρ M Q=ua ρ M λx M1=>IntS x λi=>Q (.p (.int (Builtin.Int.intBits i))) M1:=rfl
theorem rd_b:uB ua ρ M QB=ua ρ M λx M1=>BlS x λb=>QB b M1:=rfl
theorem rd_andV:uAndV ua ub ρ M Q=ua ρ M λx M1=>BlS x λc=>if c=true then ub ρ M1 Q else Q (.p (.bl false)) M1:=rfl
theorem rd_orV:uOrV ua ub ρ M Q=ua ρ M λx M1=>BlS x λc=>if c=true then Q (.p (.bl true)) M1 else ub ρ M1 Q:=rfl
theorem rd_notV:uNotV ua ρ M Q=ua ρ M λx M1=>BlS x λc=>Q (.p (.bl (!c))) M1:=rfl
theorem rd_tru:uTru ua ρ M QB=ua ρ M λx M1=>∃b,truU M1 x=some b/\QB b M1:=rfl
def ChS(s':T->T->(T->Prop)->Prop)(uc:UE)(ρ:UEnv)(M:MM)(y:U)(Q:UK)(z:T):Prop:=∃k,z=.bl k/\if k=true then uc ρ M λc M3=>OpS s' M3 y c Q else Q (.p (.bl false)) M
theorem rd_chain:Ki s s' ua ub uc ρ M Q=ua ρ M λx M1=>ub ρ M1 λy M2=>OpS s M2 x y λz _=>∃t,z=.p t/\ChS s' uc ρ M2 y Q t :=
 propext (by
  have e:∀(x y:U)(M2:MM),(∃a b,sn M2 x=some a/\sn M2 y=some b/\s a b λz=>∃k,z=.bl k/\if k=true then uc ρ M2 λc M3=>∃b' c',sn M3 y=some b'/\sn M3 c=some c'/\s' b' c' λt=>Q (.p t) M3 else Q (.p (.bl false)) M2)=(OpS s M2 x y λz _=>∃t,z=.p t/\ChS s' uc ρ M2 y Q t):=λx y M2=>by
   unfold OpS ChS;have:∀z:T,(∃t,U.p z=.p t/\∃k,t=.bl k/\if k=true then uc ρ M2 λc M3=>OpS s' M3 y c Q else Q (.p (.bl false)) M2)=(∃k,z=.bl k/\if k=true then uc ρ M2 λc M3=>∃b' c',sn M3 y=some b'/\sn M3 c=some c'/\s' b' c' λt=>Q (.p t) M3 else Q (.p (.bl false)) M2):=λz =>
    propext ⟨λ⟨t,e,h⟩=>by cases e; exact h,λh=>⟨z,rfl,h⟩⟩
   simp only[this]
  unfold Ki;simp only[e])
theorem rd_chP:(∃t,U.p (.bl b)=.p t/\ChS s' uc ρ M y Q t)=if b=true then uc ρ M λc M3=>OpS s' M3 y c Q else Q (.p (.bl false)) M :=
 propext ⟨λ⟨t,e,k,e2,h⟩=>by cases e; cases e2; exact h,λh=>⟨_,rfl,b,rfl,h⟩⟩
def PurS(us:List U)(R:List T->Prop):Prop:=∃ts,zh us=some ts/\R ts
theorem Wz:PurS (ts.map U.p) R=R ts:=propext ⟨λ⟨_,e,h⟩=>by rw[zj] at e; cases e; exact h,λh=>⟨ts,zj ts,h⟩⟩
theorem rd_pur0:PurS [] R=R []:=Wz (ts:=[])
theorem rd_purC:PurS (.p a::us) R=PurS us λts=>R (a::ts):=by
 refine propext ⟨λ⟨ts,e,h⟩=>?_,λ⟨ts,e,h⟩=>⟨a::ts,by simp[zh,e],h⟩⟩;simp[zh] at e;obtain⟨r,e1,rfl⟩:=e;exact⟨r,e1,h⟩
theorem rd_tup:uTup ul ρ M Q=ul ρ M λus M1=>PurS us λts=>Q (.p (.tup ts)) M1:=rfl
theorem rd_lst:uLst ul ρ M Q=ul ρ M λus M1=>PurS us λts=>Q (.p (.lst ts)) M1:=rfl
def IxS(it:MM->U->Option (List U))(M:MM)(x y:U)(Q:UK):Prop:=∃us i z,it M x=some us/\y=.p (.int i)/\atI us i=some z/\Q z M
theorem rd_ix:uIx it ua ub ρ M Q=ua ρ M λx M1=>ub ρ M1 λy M2=>IxS it M2 x y Q:=rfl
theorem jn(h1:it M x=some us)(h2:atI us i=some z)(q:Q z M):IxS it M x (.p (.int i)) Q:=⟨us,i,z,h1,rfl,h2,q⟩
theorem qaT(h:atI ts i=some t):atI (ts.map U.p) i=some (.p t):=by
 unfold atI at h ⊢;rw[Uh];cases e:ixN ts.length i with
 |none=>rw[e] at h; cases h
 |some j=>rw[e] at h; simp at h ⊢; rw[h]
theorem vU(h:atI ts i=some t)(q:Q (.p t) M):IxS qD M (.p (.lst ts)) (.p (.int i)) Q:=jn rfl (qaT h) q
theorem GW(h:atI ts i=some t)(q:Q (.p t) M):IxS vI M (.p (.tup ts)) (.p (.int i)) Q:=jn rfl (qaT h) q
def SnsS(M:MM)(us:List U)(R:List T->Prop):Prop:=∃ts,sns M us=some ts/\R ts
theorem rd_sns0:SnsS M [] R=R []:=propext ⟨λ⟨_,e,h⟩=>by cases e; exact h,λh=>⟨[],rfl,h⟩⟩
theorem rd_snsC:SnsS M (.p a::us) R=SnsS M us λts=>R (a::ts):=by
 refine propext ⟨λ⟨ts,e,h⟩=>?_,λ⟨ts,e,h⟩=>⟨a::ts,by simp[sns,sn,e],h⟩⟩;simp only[sns,sn] at e;cases q:sns M us with
 |none=>rw[q] at e; cases e
 |some r=>rw[q] at e; simp at e; subst e; exact⟨r,q,h⟩
theorem rd_cb:uCb s ul ρ M Q=ul ρ M λus M1=>SnsS M1 us λts=>s ts λt=>Q (.p t) M1:=rfl
theorem rd_abs':sAbs [.int i] Q=Q (.int (if i<0 then -i else i)):=propext ⟨λ⟨_,e,h⟩=>by cases e; exact h,λh=>⟨i,rfl,h⟩⟩
theorem rd_min':sMin [.int i, .int j] Q=Q (.int (if j<i then j else i)):=propext ⟨λ⟨_,_,e,h⟩=>by cases e; exact h,λh=>⟨i,j,rfl,h⟩⟩
theorem rd_max':sMax [.int i, .int j] Q=Q (.int (if j>i then j else i)):=propext ⟨λ⟨_,_,e,h⟩=>by cases e; exact h,λh=>⟨i,j,rfl,h⟩⟩
theorem rd_int':sInt [.int i] Q=Q (.int i):=by
 refine propext ⟨λh=>?_,λh=>Or.inl ⟨i,rfl,h⟩⟩;rcases h with⟨_,e,h⟩|⟨_,e,h⟩
 ·cases e; exact h
 ·cases e
theorem rd_intB:sInt [.bl k] Q=Q (.int (if k then 1 else 0)):=by
 refine propext ⟨λh=>?_,λh=>Or.inr ⟨k,rfl,h⟩⟩;rcases h with⟨_,e,h⟩|⟨_,e,h⟩
 ·cases e
 ·cases e; exact h
def LenS(it:MM->U->Option (List U))(M:MM)(us:List U)(Q:UK):Prop:=∃x ys,us=[x]/\it M x=some ys/\Q (.p (.int ys.length)) M
theorem rd_len:uLen it ul ρ M Q=ul ρ M λus M1=>LenS it M1 us Q:=rfl
theorem rd_lenP:LenS qD M [.p (.lst ts)] Q=Q (.p (.int ts.length)) M :=
 propext ⟨λ⟨_,_,e1,e2,h⟩=>by cases e1; cases e2; rw[Uh] at h; exact h,λh=>⟨_,_,rfl,rfl,by rw[Uh]; exact h⟩⟩
theorem jm(e:M[k]?=some (.lst us))(h:Q (.p (.int us.length)) M):LenS qD M [.m k] Q:=⟨_,_,rfl,by simp[qD,e],h⟩
def SlS(M:MM)(x:U)(l h:Option Int)(Q:UK):Prop:=∃ts,sn M x=some (.lst ts)/\Q (.p (.lst (cutT ts l h))) M
theorem rd_sl:uSl ua u1 u2 ρ M Q=ua ρ M λx M1=>u1 ρ M1 λl M2=>u2 ρ M2 λh M3=>SlS M3 x l h Q:=rfl
theorem rd_slS:SlS M (.p (.lst ts)) l h Q=Q (.p (.lst (cutT ts l h))) M:=propext ⟨λ⟨_,e,h⟩=>by cases e; exact h,λh=>⟨ts,rfl,h⟩⟩
theorem rd_part{QO:Option Int->MM->Prop}:uPart ua ρ M QO=ua ρ M λx M1=>IntS x λi=>QO (some i) M1:=rfl
theorem WA{QO:Option Int->MM->Prop}:XV ρ M QO=QO none M:=rfl
theorem rd_cat:sCat (.lst xs) (.lst ys) Q=(xs.length+ys.length<=sizeLine/\Q (.lst (xs++ys))):=propext ⟨λ⟨_,_,e1,e2,h⟩=>by cases e1; cases e2; exact h,λh=>⟨xs,ys,rfl,rfl,h⟩⟩
theorem rd_str:sStr (.str i) (.str j) Q=(i.length+j.length<=sizeLine/\Q (.str (i++j))):=propext ⟨λ⟨_,_,e1,e2,h⟩=>by cases e1; cases e2; exact h,λh=>⟨i,j,rfl,rfl,h⟩⟩
def itU(x:U)(us:List U):UIt:=⟨us.length,λM=>qD M x=some us,λi z=>us[i]?=some z⟩
def IterS(M:MM)(x:U)(R:UIt->MM->Prop):Prop:=∃us,qD M x=some us/\R (itU x us) M
theorem rd_iter:uIter ua ρ M R=ua ρ M λx M1=>IterS M1 x R:=rfl
theorem rd_iterP:IterS M (.p (.lst ts)) R=R (itU (.p (.lst ts)) (ts.map U.p)) M:=propext ⟨λ⟨_,e,h⟩=>by cases e; exact h,λh=>⟨_,rfl,h⟩⟩
theorem GZ(e:M[k]?=some (.lst us))(h:R (itU (.m k) us) M):IterS M (.m k) R:=⟨us,by simp[qD,e],h⟩
def itR0(n:Nat):UIt:=⟨n,λ_=>True,λi z=>z=.p (.int i)⟩
def RngS(us:List U)(M:MM)(R:UIt->MM->Prop):Prop:=∃j:Int,us=[.p (.int j)] /\ -(2^62)<=j/\j<2^62/\R (itR0 j.toNat) M
theorem rd_rng1:uRng1 ul ρ M R=ul ρ M λus M1=>RngS us M1 R:=rfl
theorem rng_at(h1 : -(2^62)<=j)(h2:j<2^62)(q:R (itR0 j.toNat) M):RngS [.p (.int j)] M R:=⟨j,rfl,h1,h2,q⟩
theorem Zu(Iv:Nat->UEnv->MM->Prop)(h0:Iv 0 ρ M)(hs:∀i t ρ2 M2,ts[i]?=some t->Iv i ρ2 M2->ug (.p t) ρ2 M2 λρ3 M3=>ub { E with nx:=Iv (i+1),ct:=Iv (i+1),bk:=E.nx } ρ3 M3)(hd:∀ρ2 M2,Iv ts.length ρ2 M2->E.nx ρ2 M2):UFor (itU (.p (.lst ts)) (ts.map U.p)) ug ub E ρ M:=by
 refine⟨Iv,h0,λi ρ2 M2 hi h=>⟨rfl,λu hu=>?_⟩,λρ2 M2 h=>⟨rfl,hd ρ2 M2 (by simpa[itU] using h)⟩⟩;have hu:(ts.map U.p)[i]?=some u:=hu;rw[Uz] at hu;cases e:ts[i]? with
 |none=>rw[e] at hu; cases hu
 |some t=>rw[e] at hu; cases hu; exact hs i t ρ2 M2 e h
theorem ufor_rng(Iv:Nat->UEnv->MM->Prop)(h0:Iv 0 ρ M)(hs:∀(i:Nat) ρ2 M2,i<m->Iv i ρ2 M2->ug (.p (.int i)) ρ2 M2 λρ3 M3=>ub { E with nx:=Iv (i+1),ct:=Iv (i+1),bk:=E.nx } ρ3 M3)(hd:∀ρ2 M2,Iv m ρ2 M2->E.nx ρ2 M2):UFor (itR0 m) ug ub E ρ M :=
 ⟨Iv,h0,λi ρ2 M2 hi h=>⟨trivial,λu hu=>by cases(show u=_ from hu); exact hs i ρ2 M2 hi h⟩,λρ2 M2 h=>⟨trivial,hd ρ2 M2 h⟩⟩
theorem ufor_mut(Iv:Nat->UEnv->MM->Prop)(h0:Iv 0 ρ M)(hk:∀i ρ2 M2,Iv i ρ2 M2->M2[k]?=some (.lst xs))(hs:∀i z ρ2 M2,xs[i]?=some z->Iv i ρ2 M2->ug z ρ2 M2 λρ3 M3=>ub { E with nx:=Iv (i+1),ct:=Iv (i+1),bk:=E.nx } ρ3 M3)(hd:∀ρ2 M2,Iv xs.length ρ2 M2->E.nx ρ2 M2):UFor (itU (.m k) xs) ug ub E ρ M :=
 ⟨Iv,h0,λi ρ2 M2 hi h=>⟨by show qD M2 (.m k)=_; simp[qD,hk i ρ2 M2 h],λu hu=>hs i u ρ2 M2 hu h⟩,λρ2 M2 h=>⟨by show qD M2 (.m k)=_; simp[qD,hk _ ρ2 M2 h],hd ρ2 M2 h⟩⟩
theorem zi(hz:ts.length<=sizeLine)(Iv:Nat->List T->MM->Prop)(h0:Iv 0 [] M)(hs:∀i t acc M2,ts[i]?=some t->acc.length<=i->Iv i acc M2->ug (.p t) ρ0 M2 λρ4 M4=>ut ρ4 M4 λb M5=>if b=true then ua ρ4 M5 λz M6=>∃t,z=.p t/\Iv (i+1) (acc++[t]) M6 else Iv (i+1) acc M5)(hd:∀acc M2,Iv ts.length acc M2->Q (.p (.lst acc)) M2):UComp (itU (.p (.lst ts)) (ts.map U.p)) ug ut ua ρ0 M Q:=by
 refine⟨by simpa[itU] using hz,Iv,h0,λi acc M2 hi ha h=>⟨rfl,λu hu=>?_⟩,λacc M2 h=>⟨rfl,hd acc M2 (by simpa[itU] using h)⟩⟩;have hu:(ts.map U.p)[i]?=some u:=hu;rw[Uz] at hu;cases e:ts[i]? with
 |none=>rw[e] at hu; cases hu
 |some t=>rw[e] at hu; cases hu; exact hs i t acc M2 e ha h
theorem YY(hz:m<=sizeLine)(Iv:Nat->List T->MM->Prop)(h0:Iv 0 [] M)(hs:∀(i:Nat) acc M2,i<m->acc.length<=i->Iv i acc M2->ug (.p (.int i)) ρ0 M2 λρ4 M4=>ut ρ4 M4 λb M5=>if b=true then ua ρ4 M5 λz M6=>∃t,z=.p t/\Iv (i+1) (acc++[t]) M6 else Iv (i+1) acc M5)(hd:∀acc M2,Iv m acc M2->Q (.p (.lst acc)) M2):UComp (itR0 m) ug ut ua ρ0 M Q :=
 ⟨hz,Iv,h0,λi acc M2 hi ha h=>⟨trivial,λu hu=>by cases(show u=_ from hu); exact hs i acc M2 hi ha h⟩,λacc M2 h=>⟨trivial,hd acc M2 h⟩⟩
def T2S(M:MM)(u:U)(R:U->U->Prop):Prop:=∃a b,vI M u=some [a,b]/\R a b
def T3S(M:MM)(u:U)(R:U->U->U->Prop):Prop:=∃a b c,vI M u=some [a,b,c]/\R a b c
theorem rd_name2:Y1 i j u ρ M R=T2S M u λa b=>R ((ρ.set i (some a)).set j (some b)) M:=rfl
theorem rd_name3:Zv i j k u ρ M R=T3S M u λa b c=>R (((ρ.set i (some a)).set j (some b)).set k (some c)) M:=rfl
theorem rd_t2:T2S M (.p (.tup [a,b])) R=R (.p a) (.p b):=propext ⟨λ⟨_,_,e,h⟩=>by cases e; exact h,λh=>⟨_,_,rfl,h⟩⟩
theorem rd_t3:T3S M (.p (.tup [a,b,c])) R=R (.p a) (.p b) (.p c):=propext ⟨λ⟨_,_,_,e,h⟩=>by cases e; exact h,λh=>⟨_,_,_,rfl,h⟩⟩
theorem rd_callP:Y4 G ul ρ M Q=ul ρ M λus M1=>PurS us λts=>G ts λt=>Q (.p t) M1:=rfl
theorem rd_callS:uCallS G ul ρ M Q=ul ρ M λus M1=>SnsS M1 us λts=>G ts λt=>(∃x,vt t=some x)/\Q (.p t) M1:=rfl
theorem rd_callU:uCall G ul ρ M Q=ul ρ M λus M1=>G us M1 Q:=rfl
def MeS(s:List U->List U->(U->List U->Prop)->Prop)(ul:UA)(ρ:UEnv)(M:MM)(o:U)(Q:UK):Prop:=∃k,o=.m k/\(∃zs,M[k]?=some (.lst zs))/\ul ρ M λws M2=>∃us,M2[k]?=some (.lst us)/\s us ws λz us'=>Q z (M2.set k (.lst us'))
theorem rd_me:uMe s ua ul ρ M Q=ua ρ M λo M1=>MeS s ul ρ M1 o Q:=rfl
theorem GG(e:M[k]?=some (.lst zs))(h:ul ρ M λws M2=>∃us,M2[k]?=some (.lst us)/\s us ws λz us'=>Q z (M2.set k (.lst us'))):MeS s ul ρ M (.m k) Q:=⟨k,rfl,⟨zs,e⟩,h⟩
theorem rd_app:Wr us [y] Q=(us.length<sizeLine/\Q (.p .non) (us++[y])):=propext ⟨λ⟨_,e,h⟩=>by cases e; exact h,λh=>⟨y,rfl,h⟩⟩
theorem ss{α:Type}{a:α}{R:α->Prop}:(∃x,some a=some x/\R x)=R a:=propext ⟨λ⟨_,e,h⟩=>by cases e; exact h,λh=>⟨a,rfl,h⟩⟩
end
inductive EqT:Nat->T->T->Bool->Prop
 |flat {n:Nat} {a b:T} {x y:V}:vt a=some x->vt b=some y->EqT n a b (eqV x y)
 |tup {n:Nat} {xs ys:List T} {e:Nat->Bool}:(∀(j:Nat) x y,xs[j]?=some x->ys[j]?=some y->EqT n x y (e j))->EqT (n+1) (.tup xs) (.tup ys) ((List.range (min xs.length ys.length)).all e&&xs.length==ys.length)
 |lst {n:Nat} {xs ys:List T} {e:Nat->Bool}:xs.length=ys.length->(∀(j:Nat) x y,xs[j]?=some x->ys[j]?=some y->EqT n x y (e j))->EqT (n+1) (.lst xs) (.lst ys) ((List.range xs.length).all e)
 |lstN {n:Nat} {xs ys:List T}:xs.length≠ys.length->EqT (n+1) (.lst xs) (.lst ys) false
section
theorem RepT.inj(r:RepT A H v a):RepT A H v b->a=b:=by
 induction r generalizing b with
 |non=>intro q; cases q; rfl
 |bl=>intro q; cases q; rfl
 |int=>intro q; cases q; rfl
 |str=>intro q; cases q; rfl
 |tup na e l r ih =>
  intro q;cases q with
  |tup na' e' l' r' =>
   rw[e] at e'; cases e'
   congr 1;refine RF (by lia) λi h1 h2=>?_;have h3:=h1;rw[<-l] at h3;exact ih i _ _ (Uf h3) (Uf h1) (r' i _ _ (Uf h3) (Uf h2))
  |lst na' e' l' r'=>rw[e] at e'; cases e'
 |lst na e l r ih =>
  intro q;cases q with
  |lst na' e' l' r' =>
   rw[e] at e'; cases e'
   congr 1;refine RF (by lia) λi h1 h2=>?_;have h3:=h1;rw[<-l] at h3;exact ih i _ _ (Uf h3) (Uf h1) (r' i _ _ (Uf h3) (Uf h2))
  |tup na' e' l' r'=>rw[e] at e'; cases e'
theorem eqV_self:∀{x:V}{t:T},vt t=some x->eqV x x=true:=λ{x t} h=>by cases kq h<;>simp[eqV]
theorem EqT.self(h:EqT n a b r):a=b->r=true:=by
 induction h with
 |flat h1 h2=>intro e; subst e; rw[h1] at h2; cases h2; exact eqV_self h1
 | @tup n xs ys e hh ih =>
  intro q;cases q;simp only[Bm,beq_self_eq_true,Bool.and_true,DQ,Dt];intro j hj;exact ih j _ _ (Uf hj) (Uf hj) rfl
 | @lst n xs ys e hl hh ih =>
  intro q;cases q;simp only[DQ,Dt];intro j hj;exact ih j _ _ (Uf hj) (Uf hj) rfl
 |lstN hl=>intro q; cases q; exact absurd rfl hl
theorem EqT.de(h:EqT n a b r):∀{x y:V},RepT A H x a->RepT A H y b->DE Ξ H n x y r:=by
 induction h with
 | @flat n a b x0 y0 h1 h2 =>
  intro x y r1 r2;cases(RepV.of r1).sc (y:=.non) h1; cases(RepV.of r2).sc (y:=.non) h2;exact .flat (by cases kq h1<;>rfl) (by cases kq h2<;>rfl)
 | @tup n xs ys e hh ih =>
  intro x y r1 r2;obtain⟨p,vs,rfl,_,h1,q1⟩:=r1.tup_inv;obtain⟨p2,vs2,rfl,_,h2,q2⟩:=r2.tup_inv;by_cases hp:p=p2
  ·subst hp
   have:=(EqT.tup (n:=n) hh).self (r1.inj r2);rw[this]; exact .same
  ·have:=DE.tup (Ξ:=Ξ) (H:=H) (n:=n) (e:=e) hp (SqT.of h1) (SqT.of h2) λj x y hx hy=>by
    obtain⟨a,ha,ra⟩:=Paired.getL q1 hx;obtain⟨b,hb,rb⟩:=Paired.getL q2 hy;exact ih j a b ha hb ra rb
   rw[q1.len,q2.len] at this;exact this
 | @lst n xs ys e hl hh ih =>
  intro x y r1 r2;obtain⟨p,vs,rfl,_,h1,q1⟩:=r1.lst_inv;obtain⟨p2,vs2,rfl,_,h2,q2⟩:=r2.lst_inv;by_cases hp:p=p2
  ·subst hp
   have:=(EqT.lst (n:=n) hl hh).self (r1.inj r2);rw[this]; exact .same
  ·have:=DE.lst (Ξ:=Ξ) (H:=H) (n:=n) (e:=e) hp (SqL.of h1) (SqL.of h2) (by rw[q1.len,q2.len,hl]) λj x y hx hy=>by
    obtain⟨a,ha,ra⟩:=Paired.getL q1 hx;obtain⟨b,hb,rb⟩:=Paired.getL q2 hy;exact ih j a b ha hb ra rb
   rw[q1.len] at this;exact this
 | @lstN n xs ys hl =>
  intro x y r1 r2;obtain⟨p,vs,rfl,_,h1,q1⟩:=r1.lst_inv;obtain⟨p2,vs2,rfl,_,h2,q2⟩:=r2.lst_inv;by_cases hp:p=p2
  ·subst hp
   have:=r1.inj r2;cases this;exact absurd rfl hl
  ·exact .lstN hp (SqL.of h1) (SqL.of h2) (by rw[q1.len,q2.len]; exact hl)
def sEqL(neg:Bool):T->T->(T->Prop)->Prop:=λa b Q=>∃xs ys,a=.lst xs/\b=.lst ys/\((xs.length≠ys.length/\Q (.bl neg))\/(xs.length=ys.length/\∃e:Nat->Bool,(∀(j:Nat) x y,xs[j]?=some x->ys[j]?=some y->EqT 20 x y (e j))/\Q (.bl (if neg then !(List.range xs.length).all e else(List.range xs.length).all e))))
theorem V2:OpL (rEqL Ξ) (sEqL false):=λA ι H M x y a b Qs Q w r1 r2 ⟨xs,ys,ea,eb,h⟩ k=>by
 subst ea eb;obtain⟨p,vs,rfl,h1,q1⟩:=r1.lst_inv;obtain⟨p2,vs2,rfl,h2,q2⟩:=r2.lst_inv;refine⟨p,p2,vs,vs2,rfl,rfl,SqL.of h1,SqL.of h2, ?_⟩;rcases h with⟨hl,q⟩|⟨hl,e,he,q⟩
 ·exact .inl ⟨by rw[q1.len,q2.len]; exact hl,k _ ι _ H (.refl _ _) w (.bl _) q⟩
 ·refine .inr ⟨by rw[q1.len,q2.len]; exact hl,e,λj x y hx hy=>?_,by rw[q1.len]; exact k _ ι _ H (.refl _ _) w (.bl _) q⟩
  obtain⟨a,ha,ra⟩:=Paired.getL q1 hx;obtain⟨b,hb,rb⟩:=Paired.getL q2 hy;exact(he j a b ha hb).de ra rb
theorem Ga:OpL (rNeL Ξ) (sEqL true):=λA ι H M x y a b Qs Q w r1 r2 ⟨xs,ys,ea,eb,h⟩ k=>by
 subst ea eb;obtain⟨p,vs,rfl,h1,q1⟩:=r1.lst_inv;obtain⟨p2,vs2,rfl,h2,q2⟩:=r2.lst_inv;refine⟨p,p2,vs,vs2,rfl,rfl,SqL.of h1,SqL.of h2, ?_⟩;rcases h with⟨hl,q⟩|⟨hl,e,he,q⟩
 ·exact .inl ⟨by rw[q1.len,q2.len]; exact hl,k _ ι _ H (.refl _ _) w (.bl _) q⟩
 ·refine .inr ⟨by rw[q1.len,q2.len]; exact hl,e,λj x y hx hy=>?_,by rw[q1.len]; exact k _ ι _ H (.refl _ _) w (.bl _) q⟩
  obtain⟨a,ha,ra⟩:=Paired.getL q1 hx;obtain⟨b,hb,rb⟩:=Paired.getL q2 hy;exact(he j a b ha hb).de ra rb
abbrev vn(ns:List Int):T:=.lst (ns.map T.int)
def sRep:T->T->(T->Prop)->Prop:=λa b Q=>∃xs k,a=.lst xs/\b=.int k /\ -(2^63)<=k/\k<2^63/\xs.length*k.toNat<=sizeLine/\Q (.lst (List.replicate k.toNat xs).flatten)
theorem V1:OpL rRep sRep:=λA ι H M x y a b Qs Q w r1 r2 ⟨xs,kk,ea,eb,k0,k1,hz,q⟩ k=>by
 subst ea eb;obtain⟨p,vs,rfl,h1,q1⟩:=r1.lst_inv;cases r2.int_inv;exact⟨p,kk,vs,rfl,rfl,h1,k0,k1,by rw[q1.len]; exact hz,λl hl=>k _ ι _ _ (.fresh hl) (w.fresh hl) (zg w hl (j8 q1 _)) q⟩
def frzB(b:Nat):Nat->MM->U->Option T
 |_,_, .p t=>some t
 |0,_, .m _=>none
 |_,_, .x _ _ _=>none
 |n+1,M, .m k=>if b<=k then match M[k]? with
  |some (.lst us)=>(frzs (frzB b n M) us).map T.lst
  |some (.tup us)=>(frzs (frzB b n M) us).map T.tup
  |_=>none else none
@[simp] theorem Xx:frzB b n M (.p t)=some t:=by cases n<;>rfl
theorem Xw(r:RepUs A ι H vs us)(h:∀v u t,RepU A ι H v u->f u=some t->RepT A' H v t)(e:frzs f us=some ts):RepTs A' H vs ts:=by
 induction r generalizing ts with
 |nil=>simp[frzs] at e; subst e; exact .nil
 |cons r q ih =>
  simp only[frzs] at e;split at e
  ·rename_i h1 h2
   simp at e; subst e;exact .cons (h _ _ _ r h1) (ih h2)
  ·cases e
theorem kW(w:Wd A (ι++m) H M):∀{n:Nat}{v:V}{u:U}{t:T},RepU A (ι++m) H v u->frzB ι.length n M u=some t->RepT (Av A ι) H v t
 |n,v, .p t',t, .p r,e=>by
  rw[Xx] at e; cases e;exact r.mono λx o hx ex=>⟨ex,λz=>hx (z.elim .inl λz=>.inr (UD _ z))⟩
 |0,v, .m k,t,r,e=>by simp[frzB] at e
 |n,v, .x a d q,t,r,e=>by cases n<;>simp[frzB] at e
 |n+1,v, .m k,t,r,e=>by
  cases r with
  |m q =>
  rename_i a;obtain⟨o,h1,h2⟩:=w.al q;simp only[frzB,h1] at e;split at e
  ·rename_i hk
   have hna:¬Av A ι a:=λz=>by
    rcases z with z|z
    ·exact w.na _ (Ui q) z
    ·rw[Uo hk] at q
     have hd:=(Dn.mp w.nd).2.2;exact hd a z a (Ui q) rfl
   cases o with
   |lst us =>
    simp at e;obtain⟨ts,e1,rfl⟩:=e;obtain⟨vs,h3,h4⟩:=h2;exact .lstP hna h3 (Xw h4 (λv u t r e=>kW w r e) e1)
   |tup us =>
    simp at e;obtain⟨ts,e1,rfl⟩:=e;obtain⟨vs,h3,h4⟩:=h2;exact .tupP hna h3 (Xw h4 (λv u t r e=>kW w r e) e1)
   |ins=>simp at e
   |dK=>simp at e
   |dF=>simp at e
   |tab=>simp at e
  ·cases e
def PurO(o:MO):Prop:=∃ts:List T,o=.lst (ts.map U.p)
def xW(M M':MM):Prop:=∀(i:Nat) o,i<M.length->M'[i]?=some o->M[i]?=some o\/PurO o
theorem RepU.less{m:List Addr}(r:RepU A (ι++m) H v u)(r0:RepU A ι H0 v0 u):RepU A ι H v u:=by
 cases r with
 |p r=>exact .p (r.mono λx o hx ex=>⟨ex,λz=>hx (z.elim .inl λz=>.inr (UD _ z))⟩)
 |m e =>
  cases r0 with
  |m e0 =>
   rw[Ug (Ue.mp e0).1] at e;exact .m e
 | @x a d q h =>
  refine .x ?_;cases q with
  |none=>exact h
  |some n =>
   obtain⟨x0,e,ni,hx⟩:=h;exact⟨x0,e,λz=>ni (UD _ z),hx⟩
theorem v7{α β:Type}{F G L:α->β->Prop}(h:∀a a0 b,F a b->G a0 b->L a b):∀{l l0:List α}{r:List β},Paired F l r->Paired G l0 r->Paired L l r
 |_,_,_, .nil, .nil=>.nil
 |_,_,_, .cons p q, .cons p0 q0=>.cons (h _ _ _ p p0) (v7 h q q0)
theorem ObjR.less(r:ObjR A (ι++m) H a o)(r0:ObjR A ι H0 a0 o):ObjR A ι H a o:=by
 cases o with
 |lst=>obtain⟨vs,e,r⟩:=r; obtain⟨_,_,r0⟩:=r0; exact⟨vs,e,v7 (λ_ _ _ p q=>p.less q) r r0⟩
 |tup=>obtain⟨vs,e,r⟩:=r; obtain⟨_,_,r0⟩:=r0; exact⟨vs,e,v7 (λ_ _ _ p q=>p.less q) r r0⟩
 |ins=>obtain⟨dx,gs,e,ed,nd,r⟩:=r; obtain⟨_,_,_,_,_,r0⟩:=r0; exact⟨dx,gs,e,ed,λz=>nd (UD _ z),v7 (λ_ _ _ p q=>⟨p.1,p.2.less q.2⟩) r r0⟩
 |dK=>obtain⟨gs,e,r⟩:=r; obtain⟨_,_,r0⟩:=r0; exact⟨gs,e,v7 (λ_ _ _ p q=>⟨p.1,p.2.less q.2⟩) r r0⟩
 |dF=>obtain⟨e,r⟩:=r; obtain⟨_,r0⟩:=r0; exact⟨e,v7 (λ_ _ _ p q=>⟨p.1,p.2.less q.2⟩) r r0⟩
 |tab=>obtain⟨ps,e,t,z⟩:=r; exact⟨ps,e,t,z.imp id λ⟨c,h1,h2,h3⟩=>⟨c,h1,h2,λz=>h3 (UD _ z)⟩⟩
theorem Wd.trim(w:Wd A (ι++m) H M')(w0:Wd A ι H0 M)(h:xW M M'):Wd A ι H (M'.take M.length):=by
 have hl:M.length<=M'.length:=by
  have:=w.len; rw[Uj,w0.len] at this; lia
 refine⟨(Dn.mp w.nd).1,by rw[U0,DA hl]; exact w0.len,w.dom,λx hx=>w.na x (UD _ hx),λk a o e1 e2=>?_⟩;have hk:=(Ue.mp e1).1;rw[Rr (by rw[<-w0.len]; exact hk)] at e2;have r:=w.obj k a o (by rw[Ug hk]; exact e1) e2;rcases h k o (by rw[<-w0.len]; exact hk) e2 with z|⟨ts,rfl⟩
 ·exact r.less (w0.obj k a o e1 z)
 ·obtain⟨vs,e,q⟩:=r
  refine⟨vs,e, ?_⟩;have q2:=q.pures;exact RepTs.ups (Paired.mapP q2 λ_ _ q=>q.mono λx o hx ex=>⟨ex,λz=>hx (z.elim .inl λz=>.inr (UD _ z))⟩)
end
section
theorem Fun.okV{st:Stmt}(F:Fun Ξ x qual st f fd)(S:FnScope N ps (qg st))(len:∀us M Qu,G us M Qu->us.length=ps.length)(hbody:∀(cdv:Value)(A:Around)(outer:List Env)(s:Shared)(H:Hp)(E:XK),Room k (A.deeper (envOfC qual (qg st) s.heap.objs.size f cdv)) ->
   ∃t,PSs (cxOf CX0 P w Ξ mg base N qual (qg st) f cdv A outer s H E).nox (vz st) t/\∃u,LS t u/\∀us M Qu,G us M Qu->u { nx:=λ_ M'=>xW M M'/\Qu (.p .non) (M'.take M.length),rt:=λz M'=>xW M M'/\∃t,frzB M.length 4 M' z=some t/\Qu (.p t) (M'.take M.length) } (xQ N us) M):FnOk P w Ξ mg base CX0 (k+1) f fd ps (spU G):=by
 refine F.ok S (λvs H Q E h=>?_) (λcdv A outer s H vs Q E hr h=>?_)
 ·obtain⟨A,ι,M,us,Qu,w1,r,g,_⟩:=h
  rw[r.len]; exact len us M Qu g
 ·obtain⟨B,ι,M,us,Qu,w1,r,g,kk⟩:=h
  obtain⟨t,ht,u,hu,hb⟩:=hbody cdv A outer s H E hr;have less:∀{ι1:List Addr}{H1:Hp},Le ι H ι1 H1->Le ι H ι H1:=λl=>⟨⟨[],by simp,by simp⟩,l.fr,l.al⟩;refine⟨t,ht,hu B ι _ H _ M _ { nx:=λ_ M'=>xW M M'/\Qu (.p .non) (M'.take M.length),rt:=λz M'=>xW M M'/\∃t,frzB M.length 4 M' z=some t/\Qu (.p t) (M'.take M.length) } w1 (jx r) ⟨λι1 σ1 H1 ρ1 M1 l1 w2 e1 q1=>?_,λι1 v H1 z M1 l1 w2 r1 q1=>?_,λ_ _ _ _ _ _ _ _ q=>q.elim,λ_ _ _ _ _ _ _ _ q=>q.elim⟩ (hb us M Qu g)⟩
  ·obtain⟨tr,q⟩:=q1
   obtain⟨m,rfl,_⟩:=id l1.ext;exact kk _ _ ι _ H1 (less l1) (w2.trim w1 tr) (.p .non) q
  ·obtain⟨tr,t1,et,q⟩:=q1
   obtain⟨m,rfl,_⟩:=id l1.ext;rw[<-w1.len] at et;exact kk _ _ ι v H1 (less l1) (w2.trim w1 tr) (.p (kW w2 r1 et)) q
end
section
def keyU:Key->U
 |.inl i=>.p (.int i)
 |.inr x=>.p (.str x)
 |.non=>.p .non
def valU(kvs:List (Key×U))(k:Key):Option U:=(kvs.find? λkv=>decide (kv.1=k)).map (·.2)
def putU(kvs:List (Key×U))(k:Key)(y:U):List (Key×U):=if kvs.any (λkv=>decide (kv.1=k)) then kvs.map (λkv=>if kv.1=k then(kv.1,y) else kv) else kvs++[(k,y)]
def xT(kvs more:List (Key×U)):List (Key×U):=more.foldl (λacc kv=>putU acc kv.1 kv.2) kvs
abbrev KR(A:Addr->Prop)(ι:List Addr)(H:Hp):List (Key×V)->List (Key×U)->Prop:=Paired λ(g:Key×V) (f:Key×U)=>g.1=f.1/\RepU A ι H g.2 f.2
theorem XT(r:KR A ι H gs kvs):match valU kvs k with|some u=>∃v,valV gs k=some v/\RepU A ι H v u|none=>valV gs k=none:=by
 induction r with
 |nil=>rfl
 | @cons g f gs kvs p q ih =>
  obtain⟨e,r⟩:=p;unfold valU valV at ih ⊢;simp only[Dh];by_cases h:f.1=k
  ·rw[e]
   simp only[h,decide_true];exact⟨_,rfl,r⟩
  ·rw[e]
   simp only[h,decide_false];exact ih
theorem any_rep(r:KR A ι H gs kvs):(gs.any λkv=>decide (kv.1=k))=(kvs.any λkv=>decide (kv.1=k)):=by
 induction r with
 |nil=>rfl
 |cons p q ih=>rw[DB,DB,ih,p.1]
theorem JD(r:KR A ι H gs kvs)(rv:RepU A ι H v u):KR A ι H (gs.map λkv=>if kv.1=k then(kv.1,v) else kv) (kvs.map λkv=>if kv.1=k then(kv.1,u) else kv):=by
 induction r with
 |nil=>exact .nil
 | @cons g f gs kvs p q ih =>
  refine .cons ?_ ih;show(if g.1=k then(g.1,v) else g).1=(if f.1=k then(f.1,u) else f).1/\RepU A ι H (if g.1=k then(g.1,v) else g).2 (if f.1=k then(f.1,u) else f).2;by_cases h:f.1=k
  ·rw[if_pos h,if_pos (p.1.trans h)]; exact⟨p.1,rv⟩
  ·rw[if_neg h,if_neg (λz=>h (p.1.symm.trans z))]; exact p
theorem WQ(r:KR A ι H gs kvs)(rv:RepU A ι H v u):KR A ι H (putK gs k v) (putU kvs k u):=by
 unfold putK putU;rw[any_rep r];split
 ·exact JD r rv
 ·exact r.app (.cons ⟨rfl,rv⟩ .nil)
theorem GF(q:KR A ι H more moreU):∀{gs:List (Key×V)}{kvs:List (Key×U)},KR A ι H gs kvs->KR A ι H (QM gs more) (xT kvs moreU):=by
 unfold QM xT
 induction q with
 |nil=>intro gs kvs r; exact r
 |cons p q ih =>
  intro gs kvs r;rw[RQ,RQ,p.1];exact ih (WQ r p.2)
inductive LPs:List (TE×TE)->List (UE×UE)->Prop
 |nil:LPs [] []
 |cons {tk tv:TE} {uk uv:UE} {ts:List (TE×TE)} {us:List (UE×UE)}:LE tk uk->LE tv uv->LPs ts us->LPs ((tk,tv)::ts) ((uk,uv)::us)
def Kh:List (UE×UE)->UEnv->MM->(List (U×U)->MM->Prop)->Prop
 | [],_,M,Q=>Q [] M
 | (k,v)::r,ρ,M,Q=>k ρ M λx M1=>v ρ M1 λy M2=>Kh r ρ M2 λps M3=>Q ((x,y)::ps) M3
theorem lps_run(h:LPs trs urs):∀(A:Addr->Prop)(ι:List Addr)(σ:St)(H:Hp)(ρ:UEnv)(M:MM)(Qu:List (U×U)->MM->Prop)(Q:List (V×V)->Hp->Prop),Wd A ι H M->EnvR A ι H σ ρ->Kh urs ρ M Qu ->
  (∀us M' ι' vs H',Le ι H ι' H'->Wd A ι' H' M'->Paired (λ(x:V×V) (y:U×U)=>RepU A ι' H' x.1 y.1/\RepU A ι' H' x.2 y.2) vs us->Qu us M'->Q vs H')->Kr trs σ H Q:=by
 induction h with
 |nil=>intro A ι σ H ρ M Qu Q w e q k; exact k [] M ι [] H (.refl _ _) w .nil q
 |cons h1 h2 h3 ih =>
  intro A ι σ H ρ M Qu Q w e q k;refine h1 A ι σ H ρ M _ _ w e q λx M1 ι1 v1 H1 l1 w1 r1 q1=>?_;refine h2 A ι1 σ H1 ρ M1 _ _ w1 (e.le l1) q1 λy M2 ι2 v2 H2 l2 w2 r2 q2=>?_;refine ih A ι2 σ H2 ρ M2 _ _ w2 (e.le (l1.trans l2)) q2 λus M3 ι3 vs H3 l3 w3 r3 q3=>?_;exact k _ M3 ι3 _ H3 ((l1.trans l2).trans l3) w3 (.cons ⟨(r1.le l2).le l3,r2.le l3⟩ r3) q3
def uDisp(urs:List (UE×UE)):UE:=λρ M Q=>Kh urs ρ (M++[.dK []]) λps M2=>M2[M.length]?=some (.dK [])/\∃kvs:List (Key×U),ps=kvs.map (λkv=>(keyU kv.1,kv.2))/\kvs.length<=15/\Q (.m M.length) (M2.set M.length (.dK (xT [] kvs)))
theorem QR(r:RepU A ι H v (keyU k)):v=kV k:=by
 cases k with
 |inl i=>cases r with|p r=>cases r; rfl
 |inr x=>cases r with|p r=>cases r; rfl
 |non=>cases r with|p r=>cases r; rfl
theorem GQ:∀{kvs:List (Key×U)}{vs:List (V×V)},Paired (λ(x:V×V) (y:U×U)=>RepU A ι H x.1 y.1/\RepU A ι H x.2 y.2) vs (kvs.map λkv=>(keyU kv.1,kv.2))->∃gs:List (Key×V),vs=gs.map (λkv=>(kV kv.1,kv.2))/\KR A ι H gs kvs
 | [],_, .nil=>⟨[],rfl, .nil⟩
 |kv::kvs,(a,b)::_, .cons p q=>by
  obtain⟨gs,rfl,r⟩:=GQ (kvs:=kvs) q;refine⟨(kv.1,b)::gs, ?_, .cons ⟨rfl,p.2⟩ r⟩;rw[UB];have:=QR p.1;simp only at this;rw[this]
def DGetS(M:MM)(x y:U)(Q:UK):Prop:=∃k kvs key w,x=.m k/\M[k]?=some (.dK kvs)/\y=keyU key/\valU kvs key=some w/\Q w M
def uDGet(ua ub:UE):UE:=λρ M Q=>ua ρ M λx M1=>ub ρ M1 λy M2=>DGetS M2 x y Q
theorem rd_dget:uDGet ua ub ρ M Q=ua ρ M λx M1=>ub ρ M1 λy M2=>DGetS M2 x y Q:=rfl
theorem K5(h1:M[k]?=some (.dK kvs))(h2:valU kvs (.inr x)=some w)(q:Q w M):DGetS M (.m k) (.p (.str x)) Q:=⟨k,kvs, .inr x,w,rfl,h1,rfl,h2,q⟩
def uIfC(c:UT)(t1 t2:T):UE:=λρ M Q=>c ρ M λb M1=>Q (.p (if b=true then t1 else t2)) M1
theorem iteT_int[Decidable c]:(if c then T.int a else T.int b)=T.int (if c then a else b):=by split<;>rfl
theorem iteT_str[Decidable c]:(if c then T.str a else T.str b)=T.str (if c then a else b):=by split<;>rfl
def itV(x:U)(us:List U):UIt:=⟨us.length,λM=>qD M x=some us,λi z=>us[us.length-1-i]?=some z⟩
def RevS(us:List U)(M:MM)(R:UIt->MM->Prop):Prop:=∃x ys,us=[x]/\qD M x=some ys/\R (itV x ys) M
theorem rd_rev:uRev ul ρ M R=ul ρ M λus M1=>RevS us M1 R:=rfl
theorem rd_revP:RevS [.p (.lst ts)] M R=R (itV (.p (.lst ts)) (ts.map U.p)) M:=propext ⟨λ⟨_,_,e1,e2,h⟩=>by cases e1; cases e2; exact h,λh=>⟨_,_,rfl,rfl,h⟩⟩
theorem ufor_rev(Iv:Nat->UEnv->MM->Prop)(h0:Iv 0 ρ M)(hs:∀i t ρ2 M2,i<ts.length->ts[ts.length-1-i]?=some t->Iv i ρ2 M2->ug (.p t) ρ2 M2 λρ3 M3=>ub { E with nx:=Iv (i+1),ct:=Iv (i+1),bk:=E.nx } ρ3 M3)(hd:∀ρ2 M2,Iv ts.length ρ2 M2->E.nx ρ2 M2):UFor (itV (.p (.lst ts)) (ts.map U.p)) ug ub E ρ M:=by
 refine⟨Iv,h0,λi ρ2 M2 hi h=>⟨rfl,λu hu=>?_⟩,λρ2 M2 h=>⟨rfl,hd ρ2 M2 (by simpa[itV] using h)⟩⟩;have hu:(ts.map U.p)[(ts.map U.p).length-1-i]?=some u:=hu;have hi:i<(ts.map U.p).length:=hi;rw[Uh] at hu hi;rw[Uz] at hu;cases e:ts[ts.length-1-i]? with
 |none=>rw[e] at hu; cases hu
 |some t=>rw[e] at hu; cases hu; exact hs i t ρ2 M2 hi e h
theorem rd_ch:ChS s' uc ρ M y Q (.bl b)=if b=true then uc ρ M λc M3=>OpS s' M3 y c Q else Q (.p (.bl false)) M :=
 propext ⟨λ⟨k,e,h⟩=>by cases e; exact h,λh=>⟨b,rfl,h⟩⟩
def sRemove:List U->List U->(U->List U->Prop)->Prop:=λus ws Q=>∃(ts:List T)(y:T)(j:Nat)(e:Nat->Bool),us=ts.map U.p/\ws=[.p y]/\j<ts.length/\e j=true/\(∀m,m<j->e m=false)/\(∀(m:Nat) z,m<=j->ts[m]?=some z->EqT 20 z y (e m))/\Q (.p .non) ((ts.eraseIdx j).map U.p)
theorem Xg{α β:Type}(f:α->β):∀(l:List α)(j:Nat),(l.eraseIdx j).map f=(l.map f).eraseIdx j
 | [],_=>rfl
 |_::_,0=>rfl
 |x::l,j+1=>by rw[DV,UB,UB,DV,Xg f l j]
theorem YC:MeL (Jr Ξ) sRemove:=λA ι H M k a xs ys us ws Qs Q w ek h1 h2 rx ry ⟨ts,y,j,e,eu,ew,hj,hjt,hjf,hd,q⟩ kk=>by
 subst eu ew;cases ry with
 |cons r q' =>
 cases q';cases r with
 |p r =>
 have rp:=rx.pures;refine⟨a,xs,_,j,e,rfl,rfl,h1,by rw[rp.len]; exact hj,hjt,hjf,λm z hm hz=>?_,kk _ _ _ _ (RepTs.ups (rp.erase j)) (.p .non) q⟩;obtain⟨b,hb,rb⟩:=Paired.getL rp hz;exact(hd m b hm hb).de rb r
end
section
def KTu(Ξ:PySem.W.Frag)(p:Addr)(vs:List V):Prop:=∀H,SqT Ξ H p vs
theorem Tup3.kt{mg:Str->Option Value}(T3:Tup3 Ξ mg nm p x y z):KTu Ξ p [.str x, .str y, .str z]:=T3.sq
theorem atI_pair{α β:Type}{F:α->β->Prop}{vs:List α}{ts:List β}{i:Int}{z:β}(r:Paired F vs ts)(e:atI ts i=some z):∃x,atI vs i=some x/\F x z:=by
 unfold atI at e ⊢;rw[r.len];cases q:ixN ts.length i with
 |none=>rw[q] at e; cases e
 |some j =>
  rw[q] at e;exact Paired.getR r e
theorem Wj:∀xs:List Str,Paired Sc (xs.map V.str) (xs.map T.str)
 | []=>.nil
 |x::xs=>.cons (.str x) (Wj xs)
def uIxK(ts:List T)(ub:UE):UE:=λρ M Q=>ub ρ M λy M1=>IntS y λi=>∃t,atI ts i=some t/\Q (.p t) M1
def uInK(neg:Bool)(vs:List V)(ua:UE):UE:=λρ M Q=>ua ρ M λx M1=>∃a,x=.p a/\∃y,vt a=some y/\Q (.p (.bl (if neg then !inV y vs else inV y vs))) M1
inductive TyC where
 |int|bool|str|list|tuple
def TyC.name:TyC->String
 |.int => "int" |.bool => "bool" |.str => "str" |.list => "list" |.tuple => "tuple"
def isT:T->TyC->Bool
 |.int _, .int=>true
 |.bl _, .int=>true
 |.bl _, .bool=>true
 |.str _, .str=>true
 |.lst _, .list=>true
 |.tup _, .tuple=>true
 |_,_=>false
def isU(M:MM):U->TyC->Option Bool
 |.p t,c=>some (isT t c)
 |.m k,c=>match M[k]? with
  |some (.lst _)=>some (isT (.lst []) c)
  |some (.tup _)=>some (isT (.tup []) c)
  |_=>none
 |.x _ _ _,_=>none
theorem isi_rep(w:Wd A ι H M)(r:RepU A ι H v u)(e:isU M u c=some b):∃t,TyOf Ξ H v (.type t)/\W.kitOne Ξ (.type t) (.type c.name)=some b:=by
 cases r with
 |p r =>
  simp only[isU,Option.some.injEq] at e;subst e;cases r with
  |non=>exact⟨_, .non,by cases c<;>rfl⟩
  |bl b=>exact⟨_, .bl b,by cases c<;>rfl⟩
  |int i=>exact⟨_, .int i,by cases c<;>rfl⟩
  |str x=>exact⟨_, .str x,by cases c<;>rfl⟩
  |tup na e l r=>exact⟨_, .tup e,by cases c<;>rfl⟩
  |lst na e l r=>exact⟨_, .lst e,by cases c<;>rfl⟩
 |m q =>
  obtain⟨o,h1,h2⟩:=w.al q;simp only[isU,h1] at e;cases o with
  |lst us=>simp only[Option.some.injEq] at e; subst e; obtain⟨vs,h3,_⟩:=h2; exact⟨_, .lst h3,by cases c<;>rfl⟩
  |tup us=>simp only[Option.some.injEq] at e; subst e; obtain⟨vs,h3,_⟩:=h2; exact⟨_, .tup h3,by cases c<;>rfl⟩
  |ins=>simp at e
  |dK=>simp at e
  |dF=>simp at e
  |tab=>simp at e
 |x h=>simp[isU] at e
def uIsi(c:TyC)(ua:UE):UE:=λρ M Q=>ua ρ M λx M1=>∃b,isU M1 x c=some b/\Q (.p (.bl b)) M1
def uIsi2(c d:TyC)(ua:UE):UE:=λρ M Q=>ua ρ M λx M1=>∃b,isU M1 x c=some b/\∃b',isU M1 x d=some b'/\Q (.p (.bl (b||b'))) M1
def sEqTu(neg:Bool):T->T->(T->Prop)->Prop:=λa b Q=>∃xs ys,∃e:Nat->Bool,a=.tup xs/\b=.tup ys/\(∀(j:Nat) x y,xs[j]?=some x->ys[j]?=some y->EqT 20 x y (e j))/\Q (.bl (if neg then !((List.range (min xs.length ys.length)).all e&&xs.length==ys.length) else((List.range (min xs.length ys.length)).all e&&xs.length==ys.length)))
theorem opl_neT:OpL (rNeT Ξ) (sEqTu true):=λA ι H M x y a b Qs Q w r1 r2 ⟨xs,ys,e,ea,eb,he,q⟩ k=>by
 subst ea eb;obtain⟨p,vs,rfl,h1,q1⟩:=r1.tup_inv;obtain⟨p2,vs2,rfl,h2,q2⟩:=r2.tup_inv;refine⟨p,p2,vs,vs2,e,rfl,rfl,SqT.of h1,SqT.of h2,λj x y hx hy=>?_,by rw[q1.len,q2.len]; exact k _ ι _ H (.refl _ _) w (.bl _) q⟩;obtain⟨a,ha,ra⟩:=Paired.getL q1 hx;obtain⟨b,hb,rb⟩:=Paired.getL q2 hy;exact(he j a b ha hb).de ra rb
def uDNew:UE:=λ_ M Q=>Q (.m M.length) (M++[.dK []])
theorem le_dnew:LE Ks uDNew:=λA ι σ H ρ M Qu Q w e q k p hp =>
 k _ _ (ι++[p]) _ _ (.push hp) (w.push (mo:=.dK []) hp ⟨[],upd_same, .nil⟩) (.m (by rw[<-w.len]; exact xI)) q
def DInS(neg:Bool)(M:MM)(y x:U)(Q:UK):Prop:=∃k kvs key,x=.m k/\M[k]?=some (.dK kvs)/\y=keyU key/\Q (.p (.bl (if neg then !(valU kvs key).isSome else(valU kvs key).isSome))) M
def uDIn(neg:Bool)(ua ub:UE):UE:=λρ M Q=>ua ρ M λy M1=>ub ρ M1 λx M2=>DInS neg M2 y x Q
theorem K4{k:Nat}(w:Wd A ι H M)(ek:ι[k]?=some a)(em:M[k]?=some (.dK kvs))(ry:RepU A ι H y (keyU key)):∃o,DGet H a y o/\o.isSome=(valU kvs key).isSome:=by
 obtain⟨gs,h1,h2⟩:=w.obj k a _ ek em;have hv:=XT (k:=key) h2;have:=DGet.k (k:=key) h1;rw[<-QR ry] at this;refine⟨_,this, ?_⟩;cases e:valU kvs key with
 |none=>rw[e] at hv; simp only at hv; rw[hv]; rfl
 |some u=>rw[e] at hv; obtain⟨x,hx,_⟩:=hv; rw[hx]; rfl
def DPutS(M:MM)(x y v:U)(R:MM->Prop):Prop:=∃k kvs key,x=.m k/\M[k]?=some (.dK kvs)/\y=keyU key/\kvs.length<sizeLine/\R (M.set k (.dK (putU kvs key v)))
def uDPut(ud uy uv:UE):US:=λE ρ M=>uv ρ M λv M1=>ud ρ M1 λx M2=>uy ρ M2 λy M3=>DPutS M3 x y v λM4=>E.nx ρ M4
theorem rd_din:uDIn neg ua ub ρ M Q=ua ρ M λy M1=>ub ρ M1 λx M2=>DInS neg M2 y x Q:=rfl
theorem rd_dput:uDPut ud uy uv E ρ M=uv ρ M λv M1=>ud ρ M1 λx M2=>uy ρ M2 λy M3=>DPutS M3 x y v λM4=>E.nx ρ M4:=rfl
theorem qao(h1:M[k]?=some (.dK kvs))(q:Q (.p (.bl (if neg then !(valU kvs (.inl x)).isSome else(valU kvs (.inl x)).isSome))) M):DInS neg M (.p (.int x)) (.m k) Q:=⟨k,kvs, .inl x,rfl,h1,rfl,q⟩
theorem K1(h1:M[k]?=some (.dK kvs))(hz:kvs.length<sizeLine)(q:R (M.set k (.dK (putU kvs (.inl x) v)))):DPutS M (.m k) (.p (.int x)) v R:=⟨k,kvs, .inl x,rfl,h1,rfl,hz,q⟩
def IdxS(us:List U)(xs:List Str)(M:MM)(Q:UK):Prop:=∃(t:Str)(j:Nat),us=[.p (.str t)]/\xs[j]?=some t/\(∀m,m<j->xs[m]?≠some t)/\Q (.p (.int j)) M
def uIdxK(xs:List Str)(ul:UA):UE:=λρ M Q=>ul ρ M λus M1=>IdxS us xs M1 Q
theorem rd_idxK:uIdxK xs ul ρ M Q=ul ρ M λus M1=>IdxS us xs M1 Q:=rfl
end
section
def LRng2S(us:List U)(M:MM)(Q:UK):Prop:=∃(i j:Int)(n:Nat),us=[.p (.int i), .p (.int j)] /\ -(2^62)<=i/\j<2^62/\j=i+n/\n<=1000000/\Q (.p (.lst ((List.range n).map λk:Nat=>T.int (i+k)))) M
def uLRng2(ul:UA):UE:=λρ M Q=>ul ρ M λus M1=>LRng2S us M1 Q
theorem rd_lrng2:uLRng2 ul ρ M Q=ul ρ M λus M1=>LRng2S us M1 Q:=rfl
theorem gdIx(h:IxS it M x y Q):IxS it M x y Q:=h
theorem gdT2(h:T2S M u R):T2S M u R:=h
theorem gdT3(h:T3S M u R):T3S M u R:=h
theorem gdMe(h:MeS s ul ρ M o Q):MeS s ul ρ M o Q:=h
theorem gdLen(h:LenS it M us Q):LenS it M us Q:=h
end
section
abbrev FR(A:Addr->Prop)(ι:List Addr)(H:Hp):List (Str×V)->List (Str×U)->Prop:=Paired (λ(g:Str×V) (f:Str×U)=>g.1=f.1/\RepU A ι H g.2 f.2)
theorem KH(r:FR A ι H gs fs)(e:fs.lookup f=some u):∃v,gs.lookup f=some v/\RepU A ι H v u:=by
 induction r with
 |nil=>cases e
 | @cons g h gs fs a _ ih =>
  obtain⟨g1,g2⟩:=g;obtain⟨h1,h2⟩:=h;obtain⟨e1,r1⟩:=a;simp only at e1 r1;subst e1;rw[UF] at e ⊢;cases hk:f==g1 with
  |true=>rw[hk] at e; cases e; exact⟨_,rfl,r1⟩
  |false=>rw[hk] at e; exact ih e
theorem Xh(r:FR A ι H gs fs)(e:fs.lookup f=none):gs.lookup f=none:=by
 induction r with
 |nil=>rfl
 | @cons g h gs fs a _ ih =>
  obtain⟨g1,g2⟩:=g;obtain⟨h1,h2⟩:=h;obtain⟨e1,r1⟩:=a;simp only at e1 r1;subst e1;rw[UF] at e ⊢;cases hk:f==g1 with
  |true=>rw[hk] at e; cases e
  |false=>rw[hk] at e; exact ih e
def QF(f:Str)(v:U):List (Str×U)->List (Str×U)
 | []=>[(f,v)]
 | (g,x)::r=>if g=f then(g,v)::r else(g,x)::QF f v r
theorem Ky(r:FR A ι H gs fs)(rv:RepU A ι H v u):FR A ι H (putF f v gs) (QF f u fs):=by
 induction r with
 |nil=>exact .cons ⟨rfl,rv⟩ .nil
 | @cons g h gs fs a rr ih =>
  obtain⟨g1,g2⟩:=g;obtain⟨h1,h2⟩:=h;obtain⟨e1,r1⟩:=a;simp only at e1 r1;subst e1;unfold putF QF;by_cases hk:g1=f
  ·rw[if_pos hk,if_pos hk]; exact .cons ⟨rfl,rv⟩ rr
  ·rw[if_neg hk,if_neg hk]; exact .cons ⟨rfl,r1⟩ ih
def FldS(Ξ:PySem.W.Frag)(f:Str)(x:U)(M:MM)(Q:UK):Prop:=∃k C fs u,x=.m k/\M[k]?=some (.ins C fs)/\Cls Ξ C/\NoAttr Ξ C f/\fs.lookup f=some u/\Q u M
def uFld(Ξ:PySem.W.Frag)(ua:UE)(f:Str):UE:=λρ M Q=>ua ρ M λx M1=>FldS Ξ f x M1 Q
def Kd(Ξ:PySem.W.Frag)(f:Str)(x y:U)(M:MM)(R:MM->Prop):Prop:=∃k C fs,x=.m k/\M[k]?=some (.ins C fs)/\Cls Ξ C/\NoAttr Ξ C f/\fs.length<1000/\R (M.set k (.ins C (QF f y fs)))
def XW(Ξ:PySem.W.Frag)(ua uv:UE)(f:Str):US:=λE ρ M=>uv ρ M λy M1=>ua ρ M1 λx M2=>Kd Ξ f x y M2 λM3=>E.nx ρ M3
def qaW(C:Addr)(m:Str)(x:U)(M:MM)(R:Prop):Prop:=∃k fs,x=.m k/\M[k]?=some (.ins C fs)/\fs.lookup m=none/\R
def uMeth(C:Addr)(m:Str)(G:List U->MM->UK->Prop)(ua:UE)(ul:UA):UE:=λρ M Q=>ua ρ M λx M1=>qaW C m x M1 (ul ρ M1 λus M2=>G (x::us) M2 Q)
def uMake(C:Addr)(G:List U->MM->UK->Prop)(ul:UA):UE:=λρ M Q=>ul ρ M λus M1=>G (.m M1.length::us) (M1++[.ins C []]) λv M2=>v=.p .non/\Q (.m M1.length) M2
def RepNS(M:MM)(x y:U)(Q:UK):Prop:=∃xs k,x=.p (.lst xs)/\y=.p (.int k) /\ -(2^63)<=k/\k<2^63/\xs.length*k.toNat<=sizeLine/\Q (.m M.length) (M++[.lst ((List.replicate k.toNat xs).flatten.map U.p)])
def XU(ua ub:UE):UE:=λρ M Q=>ua ρ M λx M1=>ub ρ M1 λy M2=>RepNS M2 x y Q
def SubS(M:MM)(o i u:U)(R:MM->Prop):Prop:=∃k us z j,o=.m k/\M[k]?=some (.lst us)/\i=.p (.int z)/\ixN us.length z=some j/\R (M.set k (.lst (us.set j u)))
theorem rd_sub:uSub ua ub u ρ M Q=ua ρ M λo M1=>ub ρ M1 λi M2=>SubS M2 o i u λM3=>Q ρ M3:=rfl
theorem rep4(r:RepUs A ι H vs [a,b,c,d]):∃x y z s,vs=[x,y,z,s]/\RepU A ι H x a/\RepU A ι H y b/\RepU A ι H z c/\RepU A ι H s d:=by
 cases r with
 |cons r q =>
  obtain⟨y,z,s,rfl,r2,r3,r4⟩:=rep3 q;exact⟨_,_,_,_,rfl,r,r2,r3,r4⟩
def Y0(i j k l:Nat):UG:=λu ρ M Q=>∃a b c d,vI M u=some [a,b,c,d]/\Q ((((ρ.set i (some a)).set j (some b)).set k (some c)).set l (some d)) M
def T4S(M:MM)(u:U)(R:U->U->U->U->Prop):Prop:=∃a b c d,vI M u=some [a,b,c,d]/\R a b c d
theorem rd_name4:Y0 i j k l u ρ M R=T4S M u λa b c d=>R ((((ρ.set i (some a)).set j (some b)).set k (some c)).set l (some d)) M:=rfl
theorem rd_t4:T4S M (.p (.tup [a,b,c,d])) R=R (.p a) (.p b) (.p c) (.p d):=propext ⟨λ⟨_,_,_,_,e,h⟩=>by cases e; exact h,λh=>⟨_,_,_,_,rfl,h⟩⟩
def P2S(us:List U)(R:U->U->Prop):Prop:=∃a b,us=[a,b]/\R a b
def P3S(us:List U)(R:U->U->U->Prop):Prop:=∃a b c,us=[a,b,c]/\R a b c
def uPar(i j:Nat)(ul:UA):US:=λE ρ M=>ul ρ M λus M1=>P2S us λa b=>E.nx ((ρ.set i (some a)).set j (some b)) M1
def uPar3(i j k:Nat)(ul:UA):US:=λE ρ M=>ul ρ M λus M1=>P3S us λa b c=>E.nx (((ρ.set i (some a)).set j (some b)).set k (some c)) M1
theorem rd_par:uPar i j ul E ρ M=ul ρ M λus M1=>P2S us λa b=>E.nx ((ρ.set i (some a)).set j (some b)) M1:=rfl
theorem rd_par3:uPar3 i j k ul E ρ M=ul ρ M λus M1=>P3S us λa b c=>E.nx (((ρ.set i (some a)).set j (some b)).set k (some c)) M1:=rfl
theorem rd_p2:P2S [a,b] R=R a b:=propext ⟨λ⟨_,_,e,h⟩=>by cases e; exact h,λh=>⟨a,b,rfl,h⟩⟩
theorem rd_p3:P3S [a,b,c] R=R a b c:=propext ⟨λ⟨_,_,_,e,h⟩=>by cases e; exact h,λh=>⟨a,b,c,rfl,h⟩⟩
theorem rd_fld:uFld Ξ ua f ρ M Q=ua ρ M λx M1=>FldS Ξ f x M1 Q:=rfl
theorem WB:XW Ξ ua uv f E ρ M=uv ρ M λy M1=>ua ρ M1 λx M2=>Kd Ξ f x y M2 λM3=>E.nx ρ M3:=rfl
theorem rd_meth:uMeth C m G ua ul ρ M Q=ua ρ M λx M1=>qaW C m x M1 (ul ρ M1 λus M2=>G (x::us) M2 Q):=rfl
theorem rd_make:uMake C G ul ρ M Q=ul ρ M λus M1=>G (.m M1.length::us) (M1++[.ins C []]) λv M2=>v=.p .non/\Q (.m M1.length) M2:=rfl
theorem Wy:XU ua ub ρ M Q=ua ρ M λx M1=>ub ρ M1 λy M2=>RepNS M2 x y Q:=rfl
theorem v8(c:Cls Ξ C)(na:NoAttr Ξ C f)(e:M[k]?=some (.ins C fs))(lk:fs.lookup f=some u)(q:Q u M):FldS Ξ f (.m k) M Q:=⟨k,C,fs,u,rfl,e,c,na,lk,q⟩
theorem vL(c:Cls Ξ C)(na:NoAttr Ξ C f)(e:M[k]?=some (.ins C fs))(hz:fs.length<1000)(q:R (M.set k (.ins C (QF f y fs)))):Kd Ξ f (.m k) y M R:=⟨k,C,fs,rfl,e,c,na,hz,q⟩
theorem meth_at(e:M[k]?=some (.ins C fs))(lk:fs.lookup m=none)(q:R):qaW C m (.m k) M R:=⟨k,fs,rfl,e,lk,q⟩
theorem repN_at(k0 : -(2^63)<=k)(k1:k<2^63)(hz:xs.length*k.toNat<=sizeLine)(q:Q (.m M.length) (M++[.lst ((List.replicate k.toNat xs).flatten.map U.p)])):RepNS M (.p (.lst xs)) (.p (.int k)) Q:=⟨xs,k,rfl,rfl,k0,k1,hz,q⟩
end
section
def gNo:List U->MM->UK->Prop:=λ_ _ _=>False
theorem FnOk.no:FnOk P w Ξ mg base CX0 k f fd ps (spU gNo) :=
 ⟨λvs H Q E ⟨_,_,_,_,_,_,_,h,_⟩=>h.elim,λ_ _ _ _ _ _ _ _ _ _ _ _ _ ⟨_,_,_,_,_,_,_,h,_⟩=>h.elim⟩
end
structure ZE(a:TE)(b:UE):Prop where
 h:LE a b
structure ZT(a:TT)(b:UT):Prop where
 h:LT a b
structure ZA(n:Nat)(a:TA)(b:UA):Prop where
 h:LA n a b
structure ZO(a:TO)(b:UO):Prop where
 h:LO a b
structure ZI(a:TI)(b:UI):Prop where
 h:LI a b
structure ZG(a:TG)(b:UG):Prop where
 h:LG a b
structure ZX(bs:List Bool)(n:Nat)(a:TG)(b:UG):Prop where
 h:LGx bs n a b
structure ZS(a:TS)(b:US):Prop where
 h:LS a b
structure ZP(a:List (TE×TE))(b:List (UE×UE)):Prop where
 h:LPs a b
theorem cp_nil:ZP [] []:=⟨.nil⟩
theorem Q0(a:ZE tk uk)(b:ZE tv uv)(c:ZP ts us):ZP ((tk,tv)::ts) ((uk,uv)::us):=⟨.cons a.h b.h c.h⟩
theorem ce_disp(h:ZP trs urs):ZE (tDisp trs) (uDisp urs):=⟨by
 intro A ι σ H ρ M Qu Q w e q k p hp;have w1:Wd A (ι++[p]) (upd H p (.dK [])) (M++[.dK []]):=w.push hp ⟨[],upd_same, .nil⟩;have l1:Le ι H (ι++[p]) (upd H p (.dK [])):=.push hp;refine lps_run h.h A _ σ _ ρ _ _ _ w1 (e.le l1) q λus M2 ι2 vs H2 l2 w2 r2 q2=>?_;obtain⟨hm,kvs,rfl,hl,q2⟩:=q2;have ep:ι2[M.length]?=some p:=by
  obtain⟨nn,rfl,_⟩:=l2.ext;rw[Ug (by rw[Uj,w.len]; simp), <-w.len];exact xI
 obtain⟨gs0,h1,h2⟩:=w2.obj _ p _ ep hm;cases h2;obtain⟨gs,rfl,rk⟩:=GQ r2;have hmem:=Ui ep;refine⟨h1,gs,rfl,by rw[rk.len]; exact hl,k _ _ ι2 _ _ ((l1.trans l2).trans (.put hmem)) (w2.put (mo:=.dK (xT [] kvs)) ep ⟨_,upd_same, ?_⟩) (.m ep) q2⟩;exact Paired.mapP (GF rk .nil) λ_ _ q=>⟨q.1,q.2.le (.put hmem)⟩⟩
section
theorem qb(i:Nat):ZE (tVar i) (uVar i):=⟨λA ι σ H ρ M Qu Q w e ⟨u,h,q⟩ k=>by
 obtain⟨v,h1,h2⟩:=e.get h;exact⟨v,h1,k u M ι v H (.refl _ _) w h2 q⟩⟩
end
section
theorem ce_c(h:Sc v t):ZE (tC v) (uC t):=⟨λA ι σ H ρ M Qu Q w e q k=>k _ M ι v H (.refl _ _) w (.p h.rep) q⟩
end
section
theorem qc  : ZA 0 tNil uNil:=⟨la_nil ⟩
end
section
theorem qa(ha:ZE ta ua)(hl:ZA n tl ul):ZA (n+1) (xh ta tl) (uCons ua ul):=⟨λA ι σ H ρ M Qu Q w e q k =>
 ha.h A ι σ H ρ M _ _ w e q λx M1 ι1 v H1 l1 w1 r1 q1=>hl.h A ι1 σ H1 ρ M1 _ _ w1 (e.le l1) q1 λxs M2 ι2 vs H2 l2 w2 hn r2 q2 =>
  k (x::xs) M2 ι2 (v::vs) H2 (l1.trans l2) w2 (by rw[Um,hn]) (.cons (r1.le l2) r2) q2⟩
end
section
theorem qo(h:OpL r s)(ha:ZE ta ua)(hb:ZE tb ub):ZE (tOp r ta tb) (uOp s ua ub):=⟨λA ι σ H ρ M Qu Q w e q k =>
 ha.h A ι σ H ρ M _ _ w e q λx M1 ι1 v H1 l1 w1 r1 q1=>hb.h A ι1 σ H1 ρ M1 _ _ w1 (e.le l1) q1 λy M2 ι2 v2 H2 l2 w2 r2 ⟨a,b,e1,e2,q2⟩ =>
  h A ι2 H2 M2 v v2 a b _ Q w2 ((r1.le l2).sn w2 e1) (r2.sn w2 e2) q2 λt ι3 z H3 l3 w3 r3 q3=>k _ M2 ι3 z H3 ((l1.trans l2).trans l3) w3 (.p r3) q3⟩
end
section
theorem ce_isN(ha:ZE ta ua):ZE (tOp (λx y H Q=>y=.non/\Q (.bl (decide (x=.non))) H) ta (tC .non)) (uIsN false ua):=⟨λA ι σ H ρ M Qu Q w e q k =>
 ha.h A ι σ H ρ M _ _ w e q λx M1 ι1 v H1 l1 w1 r1 q1=>⟨rfl,by rw[Xp r1]; exact k _ M1 ι1 _ H1 l1 w1 (.p (.bl _)) q1⟩⟩
end
section
theorem ce_notN(ha:ZE ta ua):ZE (tOp (λx y H Q=>y=.non/\Q (.bl (!decide (x=.non))) H) ta (tC .non)) (uIsN true ua):=⟨λA ι σ H ρ M Qu Q w e q k =>
 ha.h A ι σ H ρ M _ _ w e q λx M1 ι1 v H1 l1 w1 r1 q1=>⟨rfl,by rw[Xp r1]; exact k _ M1 ι1 _ H1 l1 w1 (.p (.bl _)) q1⟩⟩
end
section
theorem ce_neg(ha:ZE ta ua):ZE (tUn (rU λi=>.int (-i)) ta) (uNeg ua):=⟨λA ι σ H ρ M Qu Q w e q k =>
 ha.h A ι σ H ρ M _ _ w e q λx M1 ι1 v H1 l1 w1 r1 ⟨i,ex,q1⟩=>by
  subst ex;cases r1 with
  |p r=>cases r; exact⟨i,rfl,k _ M1 ι1 _ H1 l1 w1 (.p (.int _)) q1⟩⟩
end
section
theorem ct_b(ha:ZE ta ua):ZT (tB ta) (uB ua):=⟨lt_b ha.h⟩
end
section
theorem qL(ha:ZE ta ua):ZT (Vw ta) (uB ua):=⟨lt_b ha.h⟩
end
section
theorem ct_tru(ha:ZE ta ua):ZT (tTru Ξ ta) (uTru ua):=⟨λA ι σ H ρ M Qu Q w e q k =>
 ha.h A ι σ H ρ M _ _ w e q λx M1 ι1 v H1 l1 w1 r1 ⟨b,eb,q1⟩=>⟨b,tru_rep w1 r1 eb,k b M1 ι1 H1 l1 w1 q1⟩⟩
end
section
theorem qaA(ha:ZT tt ut)(hb:ZT tt' ut'):ZT (tAnd tt tt') (uAnd ut ut'):=⟨λA ι σ H ρ M Qu Q w e q k =>
 ha.h A ι σ H ρ M _ _ w e q λc M1 ι1 H1 l1 w1 q1=>by
  cases c with
  |false=>exact k false M1 ι1 H1 l1 w1 q1
  |true=>exact hb.h A ι1 σ H1 ρ M1 _ _ w1 (e.le l1) q1 λb M2 ι2 H2 l2 w2 q2=>k b M2 ι2 H2 (l1.trans l2) w2 q2⟩
end
section
theorem qaz(ha:ZT tt ut)(hb:ZT tt' ut'):ZT (tOr tt tt') (uOr ut ut'):=⟨λA ι σ H ρ M Qu Q w e q k =>
 ha.h A ι σ H ρ M _ _ w e q λc M1 ι1 H1 l1 w1 q1=>by
  cases c with
  |true=>exact k true M1 ι1 H1 l1 w1 q1
  |false=>exact hb.h A ι1 σ H1 ρ M1 _ _ w1 (e.le l1) q1 λb M2 ι2 H2 l2 w2 q2=>k b M2 ι2 H2 (l1.trans l2) w2 q2⟩
end
section
theorem jH(ha:ZT tt ut):ZT (tNot tt) (uNot ut):=⟨λA ι σ H ρ M Qu Q w e q k =>
 ha.h A ι σ H ρ M _ _ w e q λc M1 ι1 H1 l1 w1 q1=>k _ M1 ι1 H1 l1 w1 q1⟩
end
section
theorem Zp(ha:ZE ta ua)(hb:ZE tb ub):ZE (ZD ta tb) (uAndV ua ub):=⟨λA ι σ H ρ M Qu Q w e q k =>
 ha.h A ι σ H ρ M _ _ w e q λx M1 ι1 v H1 l1 w1 r1 ⟨c,ex,q1⟩=>by
  subst ex;cases r1 with
  |p r =>
   cases r;refine⟨c,rfl, ?_⟩;cases c with
   |false=>exact k _ M1 ι1 _ H1 l1 w1 (.p (.bl _)) q1
   |true=>exact hb.h A ι1 σ H1 ρ M1 _ _ w1 (e.le l1) q1 λb M2 ι2 v2 H2 l2 w2 r2 q2=>k b M2 ι2 v2 H2 (l1.trans l2) w2 r2 q2⟩
end
section
theorem JY(hc:ZT tt ut)(ha:ZE ta ua)(hb:ZE tb ub):ZE (tIf tt ta tb) (uIf ut ua ub):=⟨λA ι σ H ρ M Qu Q w e q k =>
 hc.h A ι σ H ρ M _ _ w e q λc M1 ι1 H1 l1 w1 q1=>by
  cases c with
  |true=>exact ha.h A ι1 σ H1 ρ M1 _ _ w1 (e.le l1) q1 λb M2 ι2 v2 H2 l2 w2 r2 q2=>k b M2 ι2 v2 H2 (l1.trans l2) w2 r2 q2
  |false=>exact hb.h A ι1 σ H1 ρ M1 _ _ w1 (e.le l1) q1 λb M2 ι2 v2 H2 l2 w2 r2 q2=>k b M2 ι2 v2 H2 (l1.trans l2) w2 r2 q2⟩
end
section
theorem ce_chain(h:OpL r s)(h':OpL r' s')(ha:ZE ta ua)(hb:ZE tb ub)(hc:ZE tc uc):ZE (kr r r' ta tb tc) (Ki s s' ua ub uc):=⟨by
 intro A ι σ H ρ M Qu Q w e q k;refine ha.h A ι σ H ρ M _ _ w e q λx M1 ι1 v H1 l1 w1 r1 q1=>?_;refine hb.h A ι1 σ H1 ρ M1 _ _ w1 (e.le l1) q1 λy M2 ι2 v2 H2 l2 w2 r2 q2=>?_;obtain⟨a,b,e1,e2,q2⟩:=q2;refine h A ι2 H2 M2 v v2 a b _ _ w2 ((r1.le l2).sn w2 e1) (r2.sn w2 e2) q2 λt ι3 z H3 l3 w3 r3 q3=>?_;obtain⟨kk,et,q3⟩:=q3;subst et;cases r3;refine⟨kk,rfl, ?_⟩;cases kk with
 |false=>exact k _ M2 ι3 _ H3 ((l1.trans l2).trans l3) w3 (.p (.bl _)) q3
 |true =>
  refine hc.h A ι3 σ H3 ρ M2 _ _ w3 (e.le ((l1.trans l2).trans l3)) q3 λc M4 ι4 v4 H4 l4 w4 r4 q4=>?_;obtain⟨b',c',e3,e4,q4⟩:=q4;exact h' A ι4 H4 M4 v2 v4 b' c' _ Q w4 ((r2.le (l3.trans l4)).sn w4 e3) (r4.sn w4 e4) q4 λt ι5 z H5 l5 w5 r5 q5=>k _ M4 ι5 z H5 ((((l1.trans l2).trans l3).trans l4).trans l5) w5 (.p r5) q5⟩
end
section
theorem vA(ha:ZA n tl ul)(hn:n<=1000:=by decide):ZE (tTup tl) (uTup ul):=⟨λA ι σ H ρ M Qu Q w e q k =>
 ha.h A ι σ H ρ M _ _ w e q λus M1 ι1 vs H1 l1 w1 hl r1 ⟨ts,et,q1⟩=>by
  have r2:=r1;rw[zp et] at r2;exact⟨by rw[r1.len,hl]; exact U2 (qV hn),λp hp=>k _ M1 ι1 _ _ (l1.trans (.fresh hp)) (w1.fresh hp) (.p (qag w1 hp r2.pures)) q1⟩⟩
end
section
theorem vB(ha:ZA n tl ul)(hn:n<=1000:=by decide):ZE (tLst tl) (uLst ul):=⟨λA ι σ H ρ M Qu Q w e q k =>
 ha.h A ι σ H ρ M _ _ w e q λus M1 ι1 vs H1 l1 w1 hl r1 ⟨ts,et,q1⟩=>by
  have r2:=r1;rw[zp et] at r2;exact⟨by rw[r1.len,hl]; exact U2 (qV hn),λp hp=>k _ M1 ι1 _ _ (l1.trans (.fresh hp)) (w1.fresh hp) (.p (zg w1 hp r2.pures)) q1⟩⟩
end
section
theorem xV(ha:ZA n tl ul)(hn:n<=1000:=by decide):ZE (tLst tl) (uNew ul):=⟨λA ι σ H ρ M Qu Q w e q k =>
 ha.h A ι σ H ρ M _ _ w e q λus M1 ι1 vs H1 l1 w1 hl r1 q1=>⟨by rw[r1.len,hl]; exact U2 (qV hn),λp hp=>k _ _ _ _ _ (l1.trans (.push hp)) (zL w1 hp r1).1 (zL w1 hp r1).2 q1⟩⟩
end
section
theorem Q2(ha:ZA n tl ul)(hn:n<=1000:=by decide):ZE (tTup tl) (uNewT ul):=⟨λA ι σ H ρ M Qu Q w e q k =>
 ha.h A ι σ H ρ M _ _ w e q λus M1 ι1 vs H1 l1 w1 hl r1 q1=>⟨by rw[r1.len,hl]; exact U2 (qV hn),λp hp=>k _ _ _ _ _ (l1.trans (.push hp)) (Gy w1 hp r1).1 (Gy w1 hp r1).2 q1⟩⟩
end
section
theorem ve(ha:ZE ta ua)(hb:ZE tb ub):ZE (tOp (rIxL Ξ) ta tb) (uIx qD ua ub):=⟨λA ι σ H ρ M Qu Q w e q k =>
 ha.h A ι σ H ρ M _ _ w e q λx M1 ι1 v H1 l1 w1 r1 q1=>hb.h A ι1 σ H1 ρ M1 _ _ w1 (e.le l1) q1 λy M2 ι2 v2 H2 l2 w2 r2 ⟨us,i,z,e1,e2,e3,q2⟩=>by
  subst e2;obtain⟨p,vs,rfl,h1,h2⟩:=vG w2 (r1.le l2) e1;obtain⟨x',h3,h4⟩:=JZ h2 e3;cases r2 with
  |p r=>cases r; exact⟨p,vs,i,x',rfl,rfl,SqL.of h1,h3,k z M2 ι2 x' H2 (l1.trans l2) w2 h4 q2⟩⟩
end
section
theorem qW(ha:ZE ta ua)(hb:ZE tb ub):ZE (tOp (rIxT Ξ) ta tb) (uIx vI ua ub):=⟨λA ι σ H ρ M Qu Q w e q k =>
 ha.h A ι σ H ρ M _ _ w e q λx M1 ι1 v H1 l1 w1 r1 q1=>hb.h A ι1 σ H1 ρ M1 _ _ w1 (e.le l1) q1 λy M2 ι2 v2 H2 l2 w2 r2 ⟨us,i,z,e1,e2,e3,q2⟩=>by
  subst e2;obtain⟨p,vs,rfl,h1,h2⟩:=zk w2 (r1.le l2) e1;obtain⟨x',h3,h4⟩:=JZ h2 e3;cases r2 with
  |p r=>cases r; exact⟨p,vs,i,x',rfl,rfl,SqT.of h1,h3,k z M2 ι2 x' H2 (l1.trans l2) w2 h4 q2⟩⟩
end
section
theorem Q4(h:CbL r s)(ha:ZA n tl ul):ZE (tCB r tl) (uCb s ul):=⟨λA ι σ H ρ M Qu Q w e q k =>
 ha.h A ι σ H ρ M _ _ w e q λus M1 ι1 vs H1 l1 w1 hl r1 ⟨ts,e1,q1⟩=>h A ι1 H1 M1 vs ts _ Q w1 (r1.sns w1 e1) q1 λt ι2 z H2 l2 w2 r2 q2=>k _ M1 ι2 z H2 (l1.trans l2) w2 (.p r2) q2⟩
end
section
theorem Q3(ha:ZA n tl ul):ZE (tCB rLenL tl) (uLen qD ul):=⟨λA ι σ H ρ M Qu Q w e q k =>
 ha.h A ι σ H ρ M _ _ w e q λus M1 ι1 vs H1 l1 w1 hl r1 ⟨x,ys,e1,e2,q1⟩=>by
  subst e1;cases r1 with
  |cons r q =>
   cases q;obtain⟨p,zs,rfl,h1,h2⟩:=vG w1 r e2;exact⟨p,zs,rfl,h1,by rw[h2.len]; exact k _ M1 ι1 _ H1 l1 w1 (.p (.int _)) q1⟩⟩
end
section
theorem ce_bits(ha:ZE ta ua):ZE (tBM0 Ξ "int" rBits ta) (uBits ua):=⟨λA ι σ H ρ M Qu Q w e q k =>
 ha.h A ι σ H ρ M _ _ w e q λx M1 ι1 v H1 l1 w1 r1 ⟨i,ex,q1⟩=>by
  subst ex;cases r1 with
  |p r=>cases r; exact⟨rfl,i,rfl,rfl,k _ M1 ι1 _ H1 l1 w1 (.p (.int _)) q1⟩⟩
end
section
theorem Zn  : ZO xg XV:=⟨lo_none ⟩
end
section
theorem vY(ha:ZE ta ua):ZO (ZB ta) (uPart ua):=⟨λA ι σ H ρ M Qu Q w e q k =>
 ha.h A ι σ H ρ M _ _ w e q λx M1 ι1 v H1 l1 w1 r1 ⟨i,ex,q1⟩=>by
  subst ex;cases r1 with
  |p r=>cases r; exact⟨i,rfl,k _ M1 ι1 H1 l1 w1 q1⟩⟩
end
section
theorem Zo(ha:ZE ta ua)(h1:ZO t1 u1)(h2:ZO t2 u2):ZE (tSl (rSlL Ξ) ta t1 t2) (uSl ua u1 u2):=⟨λA ι σ H ρ M Qu Q w e q k =>
 ha.h A ι σ H ρ M _ _ w e q λx M1 ι1 v H1 l1 w1 r1 q1=>h1.h A ι1 σ H1 ρ M1 _ _ w1 (e.le l1) q1 λlo M2 ι2 H2 l2 w2 q2=>h2.h A ι2 σ H2 ρ M2 _ _ w2 (e.le (l1.trans l2)) q2 λhi M3 ι3 H3 l3 w3 ⟨ts,es,q3⟩=>by
  obtain⟨p,vs,rfl,h4,h5⟩:=((r1.le (l2.trans l3)).sn w3 es).lst_inv;exact⟨p,vs,rfl,SqL.of h4,λr hr=>k _ M3 ι3 _ _ (((l1.trans l2).trans l3).trans (.fresh hr)) (w3.fresh hr) (.p (zg w3 hr (cut_rep h5))) q3⟩⟩
end
section
theorem zE(ha:ZE ta ua):ZI (YJ Ξ ta) (uIter ua):=⟨λA ι σ H ρ M Qu R w e q k =>
 ha.h A ι σ H ρ M _ _ w e q λx M1 ι1 v H1 l1 w1 r1 ⟨us,eu,q1⟩=>by
  obtain⟨p,vs,rfl,h1,h2⟩:=vG w1 r1 eu;refine⟨p,rfl,⟨vs,SqL.of h1⟩,k _ M1 ι1 _ H1 l1 w1 ?_ q1⟩;intro A' ι2 H2 M2 i l w2 ok;obtain⟨p',vs2,e2,h3,h4⟩:=vG w2 (r1.lea l) ok;cases e2;have hl:=h4.len;refine⟨λhi=>?_,λhi=>⟨vs2,SqL.of h3,by rw[hl]; exact Rk hi.symm⟩⟩;have hx:vs2[i]?=some (vs2[i]'(by rw[hl]; exact hi)):=Uf _;refine⟨⟨vs2,_,SqL.of h3,hx⟩,λx H' y=>?_⟩;obtain⟨rfl,y⟩:=y;have hx2:=y vs2 (SqL.of h3);obtain⟨z,hz,rz⟩:=Paired.getL h4 hx2;exact⟨z,hz, .refl _ _,w2,rz⟩⟩
end
section
theorem ci_rev(ha:ZA n tl ul):ZI (iRev Ξ tl) (uRev ul):=⟨λA ι σ H ρ M Qu R w e q k =>
 ha.h A ι σ H ρ M _ _ w e q λxs M1 ι1 vs1 H1 l1 w1 hn r0 ⟨x,us,ex,eu,q1⟩=>by
  subst ex;cases r0 with
  |cons r1 r0 =>
  cases r0;obtain⟨p,vs,rfl,h1,h2⟩:=vG w1 r1 eu;refine⟨p,vs,rfl,SqL.of h1,k _ M1 ι1 _ H1 l1 w1 ?_ q1⟩;intro A' ι2 H2 M2 i l w2 ok;obtain⟨p',vs2,e2,h3,h4⟩:=vG w2 (r1.lea l) ok;cases e2;have hl:=h4.len;have hl0:=h2.len;refine⟨λhi=>?_,λhi=>by show vs.length=i; rw[hl0]; exact hi.symm⟩;refine⟨⟨by rw[hl0]; exact hi,vs2,SqL.of h3,by rw[hl,hl0]⟩,λx H' y=>?_⟩;obtain⟨rfl,y⟩:=y;have hx2:=y vs2 (SqL.of h3);obtain⟨z,hz,rz⟩:=Paired.getL h4 hx2;exact⟨z,by rw[<-hl0]; exact hz, .refl _ _,w2,rz⟩⟩
end
section
theorem qaF(ha:ZA n tl ul):ZI (G5 tl) (uRng1 ul):=⟨λA ι σ H ρ M Qu R w e q k =>
 ha.h A ι σ H ρ M _ _ w e q λxs M1 ι1 vs1 H1 l1 w1 hn r0 ⟨j,ex,j0,j1,q1⟩=>by
  subst ex;cases r0 with
  |cons r1 r0 =>
  cases r0;cases r1 with
  |p r =>
  cases r;have:=itr_ok (A:=A) (ι:=ι1) (H:=H1) (lo:=0) (n:=j.toNat);simp only[Bn] at this;exact⟨j,rfl,j0,j1,k _ M1 ι1 _ H1 l1 w1 this q1⟩⟩
end
section
theorem qm(i:Nat):ZG (qM i) (Y2 i):=⟨λA ι σ H ρ M v u Qu Q w e r q k=>k _ M ι _ H (.refl _ _) w (e.put i r) q⟩
end
section
theorem cg_name2(i j:Nat):ZG (gTup Ξ 2 (vj (qM i) (vj (qM j) gNil))) (Y1 i j):=⟨λA ι σ H ρ M v u Qu Q w e r ⟨a,b,ei,q⟩ k=>by
 obtain⟨p,vs,rfl,h1,h2⟩:=zk w r ei;obtain⟨x,y,rfl,r1,r2⟩:=rep2 h2;exact KN h1 (k _ M ι _ H (.refl _ _) w ((e.put i r1).put j r2) q)⟩
end
section
theorem cg_name3(i j l:Nat):ZG (gTup Ξ 3 (vj (qM i) (vj (qM j) (vj (qM l) gNil)))) (Zv i j l):=⟨λA ι σ H ρ M v u Qu Q w e r ⟨a,b,c,ei,q⟩ k=>by
 obtain⟨p,vs,rfl,h1,h2⟩:=zk w r ei;obtain⟨x,y,z,rfl,r1,r2,r3⟩:=rep3 h2;exact Zb h1 (k _ M ι _ H (.refl _ _) w (((e.put i r1).put j r2).put l r3) q)⟩
end
section
theorem Q1(ha:ZE ta ua)(hb:ZE tb ub):ZG (gSub ta tb WD) (uSub ua ub):=⟨λA ι σ H ρ M v u Qu Q w e r q k =>
 ha.h A ι σ H ρ M _ _ w e q λo M1 ι1 v1 H1 l1 w1 r1 q1=>hb.h A ι1 σ H1 ρ M1 _ _ w1 (e.le l1) q1 λi M2 ι2 v2 H2 l2 w2 r2 ⟨kk,us,z,j,eo,em,ei,ej,q2⟩=>by
  subst eo ei;cases r2 with
  |p r2 =>
  cases r2;have r1':=r1.le l2;cases r1' with
  |m ek =>
  obtain⟨vs,h1,h2⟩:=w2.obj kk _ _ ek em;have hm:=Ui ek;refine⟨_,vs,z,j,rfl,rfl,h1,by rw[h2.len]; exact ej,k _ _ ι2 _ _ ((l1.trans l2).trans (.put hm)) (w2.put (mo:=.lst (us.set j u)) ek ⟨_,upd_same, ?_⟩) (e.le ((l1.trans l2).trans (.put hm))) q2⟩;exact RepUs.le (.put hm) (Paired.put (r.le (l1.trans l2)) j h2)⟩
end
section
theorem zT(i:Nat)(h:xP bs n i=true:=by rfl):ZX bs n (qM i) (Y2 i):=⟨λA ι σ H ρ M v u Qu Q hl w e r q k =>
 k _ _ (e.put i r) ((ExtS.refl _).put (jB hl h)) (by simp) q⟩
end
section
theorem qaI(i j l:Nat)(h:xP bs n i=true:=by rfl)(h2:xP bs n j=true:=by rfl)(h3:xP bs n l=true:=by rfl):ZX bs n (gTup Ξ 3 (vj (qM i) (vj (qM j) (vj (qM l) gNil)))) (Zv i j l):=⟨λA ι σ H ρ M v u Qu Q hl w e r ⟨a,b,c,ei,q⟩ k=>by
 obtain⟨p,vs,rfl,h1,hh⟩:=zk w r ei;obtain⟨x,y,z,rfl,r1,r2,r3⟩:=rep3 hh;exact Zb h1 (k _ _ (((e.put i r1).put j r2).put l r3) ((((ExtS.refl _).put (jB hl h)).put (jB hl h2)).put (jB hl h3)) (by simp) q)⟩
end
section
theorem qay:ZT tYes (λ_ M Q=>Q true M):=⟨lt_yes ⟩
end
section
theorem jt(hi:ZI wi ui)(hg:ZX bs n g ug)(ht:ZT tt ut)(he:ZE te ue):ZE (xY wi bs n g tt te) (uComp ui bs n ug ut ue):=⟨by
 intro A ι σ H ρ M Qu Q w e q k;refine hi.h A ι σ H ρ M _ _ w e q λit M1 ι1 J H1 l1 w1 hJ q1 acc hacc=>?_;obtain⟨hlen,hsz,Iv,I0,It,Id⟩:=q1;have hσ:σ.length=bs.length:=by rw[<-hlen]; exact e.len
 have e1:=e.le l1;have na:¬Av A ι1 acc:=w1.nA hacc;have key:∀ι2 H2,Le ι1 H1 ι2 H2->(∀x∈ι2,¬(A x\/x=acc))->Lea A ι1 H1 (λx=>A x\/x=acc) ι2 H2:=λι2 H2 l h=>by
  refine⟨let⟨n,e,_⟩:=l.ext; ⟨n,e⟩,λx o hx ex=>?_,l.xd⟩;obtain⟨a1,a2⟩:=l.av hx ex;refine⟨a1,λz=>?_⟩;rcases z with(z|z)|z
  ·exact a2 (.inl z)
  ·rw[z,hacc] at ex; cases ex
  ·exact a2 (.inr z)
 refine⟨λi m H2=>m=it.n-i/\i<=it.n/\∃ι2 M2 at' ys,Le ι1 H1 ι2 H2/\Wd (λx=>A x\/x=acc) ι2 H2 M2/\H2 acc=some (.lst ys)/\RepTs (Av (λx=>A x\/x=acc) ι2) H2 ys at'/\at'.length<=i/\Iv i at' M2,
  ⟨it.n,by simp,UW _,ι1,M1, [], [], .fresh hacc,w1.addA hacc,upd_same, .nil,Uk _,I0⟩, ?_⟩
 rintro i m H2 ⟨rfl,hin,ι2,M2,at',ys,l2,w2,hys,rys,hat,I2⟩;have lea:=key ι2 H2 l2 w2.na;by_cases hlt:i<it.n
 ·obtain⟨ok,step⟩:=It i at' M2 hlt hat I2
  obtain⟨jgo,jy⟩:=(hJ _ ι2 H2 M2 i lea w2 ok).1 hlt;refine .inr ⟨jgo,λH'=>∃ι2 M2 at' ys,Le ι1 H1 ι2 H'/\Wd (λx=>A x\/x=acc) ι2 H' M2/\H' acc=some (.lst ys)/\RepTs (Av (λx=>A x\/x=acc) ι2) H' ys at'/\at'.length<=i+1/\Iv (i+1) at' M2,λH' h=>⟨it.n-(i+1),by lia,rfl,hlt,h⟩,λx H3 y=>?_⟩;obtain⟨u,hu,l3,w3,r3⟩:=jy x H3 y;have l13:=l2.trans l3;have nacc:∀{ι':List Addr}{H':Hp}{M':MM},Wd (λx=>A x\/x=acc) ι' H' M'->acc∉ι':=λw z=>w.na acc z (.inr rfl);have ys3:H3 acc=some (.lst ys):=l3.fr _ _ hys (nacc w2);have env3:EnvR (λx=>A x\/x=acc) ι2 H3 (zD bs n σ) (YD bs n ρ):=(e1.mask).lea (key ι2 H3 l13 w3.na);refine hg.h _ ι2 σ H3 _ M2 x u _ _ hσ w3 env3 r3 (step u hu) λρ4 σ4 e4 x4 len4 q4=>⟨⟨x4,len4⟩, ?_⟩;refine ht.h _ ι2 σ4 H3 ρ4 M2 _ _ w3 e4 q4 λb M5 ι5 H5 l5 w5 q5=>?_;have ys5:H5 acc=some (.lst ys):=l5.fr _ _ ys3 (nacc w3);have rys5:RepTs (Av (λx=>A x\/x=acc) ι5) H5 ys at':=Paired.mapP rys λ_ _ q=>(q.le l3).le l5;cases b with
  |false=>exact⟨ι5,M5,at',ys,l13.trans l5,w5,ys5,rys5,Rv hat,q5⟩
  |true =>
   refine he.h _ ι5 σ4 H5 ρ4 M5 _ _ w5 (e4.le l5) q5 λz M6 ι6 zv H6 l6 w6 r6 q6=>?_;obtain⟨t,rfl,q6⟩:=q6;have ys6:H6 acc=some (.lst ys):=l6.fr _ _ ys5 (nacc w5);refine⟨ys,ys6, ?_,ι6,M6,at'++[t],ys++[zv],((l13.trans l5).trans l6).updF hacc,(w6.updA (.inr rfl) ys6).2,upd_same, ?_,by rw[Uj,Dg]; lia,q6⟩
   ·rw[rys.len]; lia
   ·have hl:=(w6.updA (o:=.lst (ys++[zv])) (.inr rfl) ys6).1
    cases r6 with
    |p r6=>exact Paired.app (Paired.mapP rys5 λ_ _ q=>(q.le l6).mono hl.av) (.cons (r6.mono hl.av) .nil)
 ·have ei:i=it.n:=by lia
  subst ei;obtain⟨ok,fin⟩:=Id at' M2 I2;refine .inl ⟨(hJ _ ι2 H2 M2 _ lea w2 ok).2 rfl,k _ M2 ι2 _ H2 (l1.trans l2) (w2.lessA λx hx=>.inl hx) (.p (.lstP (λz=>?_) hys (Paired.mapP rys λ_ _ q=>q.mono λx o hx ex=>⟨ex,λz=>hx (z.elim (λz=>.inl (.inl z)) .inr)⟩))) fin⟩;rcases z with z|z
  ·exact na (.inl z)
  ·exact w2.na acc z (.inr rfl)⟩
end
section
theorem qR  : ZS Vx uNext:=⟨ls_next ⟩
end
section
theorem qh(ha:ZS ts us)(hb:ZS ts' us'):ZS (tSeq ts ts') (uSeq us us'):=⟨λA ι σ H ρ M D E w e r q =>
 ha.h A ι σ H ρ M _ { E with nx:=us' E } w e ⟨λι1 σ1 H1 ρ1 M1 l w1 e1 q1=>hb.h A ι1 σ1 H1 ρ1 M1 D E w1 e1 (r.le l) q1,r.rt,r.bk,r.ct⟩ q⟩
end
section
theorem vi(ha:ZE ta ua):ZS (ZC ta) (uDrop ua):=⟨λA ι σ H ρ M D E w e r q =>
 ha.h A ι σ H ρ M _ _ w e q λx M1 ι1 v H1 l1 w1 r1 q1=>r.nx ι1 σ H1 ρ M1 l1 w1 (e.le l1) q1⟩
end
section
theorem qy(ha:ZE ta ua):ZS (tRet ta) (uRet ua):=⟨λA ι σ H ρ M D E w e r q =>
 ha.h A ι σ H ρ M _ _ w e q λx M1 ι1 v H1 l1 w1 r1 q1=>r.rt ι1 v H1 x M1 l1 w1 r1 q1⟩
end
section
theorem cs_retN  : ZS Zz uRetN:=⟨ls_retN ⟩
end
section
theorem vX(hc:ZT tt ut)(ha:ZS ts us)(hb:ZS ts' us'):ZS (tIfS tt ts ts') (uIfS ut us us'):=⟨λA ι σ H ρ M D E w e r q =>
 hc.h A ι σ H ρ M _ _ w e q λc M1 ι1 H1 l1 w1 q1=>by
  cases c with
  |true=>exact ha.h A ι1 σ H1 ρ M1 D E w1 (e.le l1) (r.le l1) q1
  |false=>exact hb.h A ι1 σ H1 ρ M1 D E w1 (e.le l1) (r.le l1) q1⟩
end
section
theorem qx(ha:ZE ta ua)(hg:ZG g ug):ZS (tAsg ta g) (uAsg ua ug):=⟨λA ι σ H ρ M D E w e r q =>
 ha.h A ι σ H ρ M _ _ w e q λx M1 ι1 v H1 l1 w1 r1 q1=>hg.h A ι1 σ H1 ρ M1 v x _ _ w1 (e.le l1) r1 q1 λρ2 M2 ι2 σ2 H2 l2 w2 e2 q2=>r.nx ι2 σ2 H2 ρ2 M2 (l1.trans l2) w2 e2 q2⟩
end
section
theorem cs_aug(ha:ZE ta ua):ZS (tAug i ta (ipI f)) (uAug i f ua):=⟨λA ι σ H ρ M D E w e r ⟨a,ea,q⟩=>by
 obtain⟨x,h1,h2⟩:=e.get ea;cases h2 with
 |p h2 =>
 cases h2;refine⟨.int a,h1,ha.h A ι σ H ρ M _ _ w e q λy M1 ι1 v H1 l1 w1 r1 q1=>?_⟩;obtain⟨b,rfl,q1⟩:=q1;cases r1 with
 |p r1 =>
 cases r1;exact⟨a,b,rfl,rfl,r.nx ι1 _ H1 _ M1 l1 w1 ((e.le l1).put i (.p (.int _))) q1⟩⟩
end
section
theorem Vp(hi:ZI wi ui)(hg:ZG g ug)(hb:ZS ts us):ZS (tFor wi g ts) (uFor ui ug us):=⟨by
 intro A ι σ H ρ M D E w e r q;refine hi.h A ι σ H ρ M _ _ w e q λit M1 ι1 J H1 l1 w1 hJ q1=>?_;obtain⟨Iv,I0,It,Id⟩:=q1;have r1:=r.le l1;refine⟨λi m σ2 H2=>m=it.n-i/\i<=it.n/\∃ι2 ρ2 M2,Le ι1 H1 ι2 H2/\Wd A ι2 H2 M2/\EnvR A ι2 H2 σ2 ρ2/\Iv i ρ2 M2,⟨it.n,by simp,UW _,ι1,ρ,M1, .refl _ _,w1,e.le l1,I0⟩, ?_⟩;rintro i m σ2 H2 ⟨rfl,hin,ι2,ρ2,M2,l2,w2,e2,I2⟩;by_cases hlt:i<it.n
 ·obtain⟨ok,step⟩:=It i ρ2 M2 hlt I2
  obtain⟨jgo,jy⟩:=(hJ A ι2 H2 M2 i l2.lea w2 ok).1 hlt;refine .inr ⟨jgo,λσ' H'=>∃ι2 ρ2 M2,Le ι1 H1 ι2 H'/\Wd A ι2 H' M2/\EnvR A ι2 H' σ' ρ2/\Iv (i+1) ρ2 M2,λσ' H' h=>⟨it.n-(i+1),by lia,rfl,hlt,h⟩,λx H3 y=>?_⟩;obtain⟨u,hu,l3,w3,r3⟩:=jy x H3 y;refine hg.h A ι2 σ2 H3 ρ2 M2 x u _ _ w3 (e2.le l3) r3 (step u hu) λρ4 M4 ι4 σ4 H4 l4 w4 e4 q4=>?_;have l14:=(l2.trans l3).trans l4;exact hb.h A ι4 σ4 H4 ρ4 M4 _ { E with nx:=Iv (i+1),ct:=Iv (i+1),bk:=E.nx } w4 e4 ⟨λι5 σ5 H5 ρ5 M5 l5 w5 e5 q5=>⟨ι5,ρ5,M5,l14.trans l5,w5,e5,q5⟩,(r1.le l14).rt,(r1.le l14).nx,λι5 σ5 H5 ρ5 M5 l5 w5 e5 q5=>⟨ι5,ρ5,M5,l14.trans l5,w5,e5,q5⟩⟩ q4
 ·have ei:i=it.n:=by lia
  subst ei;obtain⟨ok,fin⟩:=Id ρ2 M2 I2;exact .inl ⟨(hJ A ι2 H2 M2 _ l2.lea w2 ok).2 rfl,r1.nx ι2 σ2 H2 ρ2 M2 l2 w2 e2 fin⟩⟩
end
section
theorem Zl(hc:ZT tt ut)(hb:ZS ts us):ZS (Kq tt ts) (uWhile ut us):=⟨by
 intro A ι σ H ρ M D E w e r q;obtain⟨W,⟨m0,W0⟩,step⟩:=q;refine⟨λm σ2 H2=>∃ι2 ρ2 M2,Le ι H ι2 H2/\Wd A ι2 H2 M2/\EnvR A ι2 H2 σ2 ρ2/\W m ρ2 M2,⟨m0,ι,ρ,M, .refl _ _,w,e,W0⟩, ?_⟩;rintro m σ2 H2 ⟨ι2,ρ2,M2,l2,w2,e2,W2⟩;refine hc.h A ι2 σ2 H2 ρ2 M2 _ _ w2 e2 (step m ρ2 M2 W2) λb M3 ι3 H3 l3 w3 q3=>?_;cases b with
 |false=>exact r.nx ι3 σ2 H3 ρ2 M3 (l2.trans l3) w3 (e2.le l3) q3
 |true =>
  obtain⟨N,hN,q3⟩:=q3;have l13:=l2.trans l3;refine⟨λσ' H'=>∃ι4 ρ4 M4,Le ι H ι4 H'/\Wd A ι4 H' M4/\EnvR A ι4 H' σ' ρ4/\N ρ4 M4, ?_, ?_⟩
  ·rintro σ' H' ⟨ι4,ρ4,M4,l4,w4,e4,n4⟩
   obtain⟨m',hm,W4⟩:=hN ρ4 M4 n4;exact⟨m',hm,ι4,ρ4,M4,l4,w4,e4,W4⟩
  ·exact hb.h A ι3 σ2 H3 ρ2 M3 _ { E with nx:=N,ct:=N,bk:=E.nx } w3 (e2.le l3) ⟨λι5 σ5 H5 ρ5 M5 l5 w5 e5 q5=>⟨ι5,ρ5,M5,l13.trans l5,w5,e5,q5⟩,(r.le l13).rt,(r.le l13).nx,λι5 σ5 H5 ρ5 M5 l5 w5 e5 q5=>⟨ι5,ρ5,M5,l13.trans l5,w5,e5,q5⟩⟩ q3⟩
end
section
theorem ko(h:MeL r s)(ha:ZE ta ua)(hl:ZA n tl ul):ZE (tLM r ta tl) (uMe s ua ul):=⟨λA ι σ H ρ M Qu Q w e q k =>
 ha.h A ι σ H ρ M _ _ w e q λo M1 ι1 v H1 l1 w1 r1 ⟨kk,eo,⟨zs,hz⟩,q1⟩=>by
  subst eo;cases r1 with
  |m ek =>
  rename_i a;obtain⟨xs1,h1,_⟩:=w1.obj kk a _ ek hz;refine⟨a,xs1,rfl,h1,hl.h A ι1 σ H1 ρ M1 _ _ w1 (e.le l1) q1 λws M2 ι2 ys H2 l2 w2 hn r2 q2=>?_⟩;obtain⟨us,hus,q2⟩:=q2;have ek2:ι2[kk]?=some a:=by
   obtain⟨nn,rfl,_⟩:=l2.ext;rw[Ug (Ue.mp ek).1]; exact ek
  obtain⟨xs2,h3,h4⟩:=w2.obj kk a _ ek2 hus;have hm:=Ui ek2;exact h A ι2 H2 M2 kk a xs2 ys us ws _ Q w2 ek2 h3 hus h4 r2 q2 λz us' zv xs' rx rz qz=>k z _ ι2 zv _ ((l1.trans l2).trans (.put hm)) (w2.put (mo:=.lst us') ek2 ⟨xs',upd_same,RepUs.le (.put hm) rx⟩) (rz.le (.put hm)) qz⟩
end
section
theorem qt(ha:ZA n tl ul):ZE (xi (spU G) [] E tl) (uCall G ul):=⟨λA ι σ H ρ M Qu Q w e q k =>
 ha.h A ι σ H ρ M _ _ w e q λus M1 ι1 vs H1 l1 w1 hn r1 q1=>by
  rw[UZ];exact⟨A,ι1,M1,us,_,w1,r1,q1,λu M2 ι2 v H2 l2 w2 r2 q2=>k u M2 ι2 v H2 (l1.trans l2) w2 r2 q2⟩⟩
end
section
theorem ql(ha:ZA n tl ul):ZE (xi (spP G) [] E tl) (Y4 G ul):=⟨λA ι σ H ρ M Qu Q w e q k =>
 ha.h A ι σ H ρ M _ _ w e q λus M1 ι1 vs H1 l1 w1 hn r1 ⟨ts,et,q1⟩=>by
  rw[UZ];rw[zp et] at r1;exact⟨Av A ι1,ts,_,w1.domAv,r1.pures,q1,λt v H2 s r2 q2=>k _ M1 ι1 v H2 (l1.trans s.le) (w1.same s) (.p r2) q2⟩⟩
end
section
theorem qaM(ha:ZE ta ua)(hb:ZE tb ub):ZE (Wf ta tb) (uDGet ua ub):=⟨λA ι σ H ρ M Qu Q w e q k =>
 ha.h A ι σ H ρ M _ _ w e q λx M1 ι1 v H1 l1 w1 r1 q1=>hb.h A ι1 σ H1 ρ M1 _ _ w1 (e.le l1) q1 λy M2 ι2 v2 H2 l2 w2 r2 ⟨kk,kvs,key,z,ex,em,ey,ez,q2⟩=>by
  subst ex ey;have r1':=r1.le l2;cases r1' with
  |m ek =>
  obtain⟨gs,h1,h2⟩:=w2.obj kk _ _ ek em;have hv:=XT (k:=key) h2;rw[ez] at hv;obtain⟨x',hx,rx⟩:=hv;refine⟨_,x',rfl, ?_,k z M2 ι2 x' H2 (l1.trans l2) w2 rx q2⟩;have:=DGet.k (k:=key) h1;rw[hx] at this;rw[QR r2];exact this⟩
end
section
theorem ce_ifC(hc:ZT tt ut)(h1:Sc v1 t1)(h2:Sc v2 t2):ZE (tIf tt (tC v1) (tC v2)) (uIfC ut t1 t2):=⟨λA ι σ H ρ M Qu Q w e q k =>
 hc.h A ι σ H ρ M _ _ w e q λc M1 ι1 H1 l1 w1 q1=>by
  cases c with
  |true=>exact k _ M1 ι1 _ H1 l1 w1 (.p h1.rep) q1
  |false=>exact k _ M1 ι1 _ H1 l1 w1 (.p h2.rep) q1⟩
end
section
theorem ce_ixK(h:KTu Ξ p vs)(hs:Paired Sc vs ts)(hb:ZE tb ub):ZE (tOp (rIxT Ξ) (tC (.ref p)) tb) (uIxK ts ub):=⟨λA ι σ H ρ M Qu Q w e q k =>
 hb.h A ι σ H ρ M _ _ w e q λy M1 ι1 v1 H1 l1 w1 r1 ⟨i,ey,t,et,q1⟩=>by
  subst ey;cases r1 with
  |p r =>
  cases r;obtain⟨x,hx,sx⟩:=atI_pair hs et;exact⟨p,vs,i,x,rfl,rfl,h H1,hx,k _ M1 ι1 x H1 l1 w1 (.p sx.rep) q1⟩⟩
end
section
theorem ce_lenK(h:KTu Ξ p vs):ZE (tCB (rLenA Ξ) (xh (tC (.ref p)) tNil)) (uC (.int vs.length)):=⟨λA ι σ H ρ M Qu Q w e q k =>
 ⟨p,vs,rfl, .inr (h H),k _ M ι _ H (.refl _ _) w (.p (.int _)) q⟩⟩
end
section
theorem ce_isi(c:TyC)(ha:ZE ta ua):ZE (tCB (rIsi Ξ) (xh ta (xh (tC (.ty c.name)) tNil))) (uIsi c ua):=⟨λA ι σ H ρ M Qu Q w e q k =>
 ha.h A ι σ H ρ M _ _ w e q λx M1 ι1 v1 H1 l1 w1 r1 ⟨b,eb,q1⟩=>by
  obtain⟨t,h1,h2⟩:=isi_rep (Ξ:=Ξ) w1 r1 eb;exact⟨v1,c.name,t,b,rfl,h1,h2,k _ M1 ι1 _ H1 l1 w1 (.p (.bl _)) q1⟩⟩
end
section
theorem qaL  : ZE Ks uDNew:=⟨le_dnew ⟩
end
section
theorem ce_din(ha:ZE ta ua)(hb:ZE tb ub):ZE (tDIn ta tb) (uDIn false ua ub):=⟨λA ι σ H ρ M Qu Q w e q k =>
 ha.h A ι σ H ρ M _ _ w e q λy M1 ι1 v1 H1 l1 w1 r1 q1=>hb.h A ι1 σ H1 ρ M1 _ _ w1 (e.le l1) q1 λx M2 ι2 v2 H2 l2 w2 r2 ⟨kk,kvs,key,ex,em,ey,q2⟩=>by
  subst ex ey;cases r2 with
  |m ek =>
  obtain⟨o,h1,h2⟩:=K4 w2 ek em (r1.le l2);exact⟨_,o,rfl,h1,by rw[h2]; exact k _ M2 ι2 _ H2 (l1.trans l2) w2 (.p (.bl _)) q2⟩⟩
end
section
theorem qaK(ha:ZE ta ua)(hb:ZE tb ub):ZE (Vy ta tb) (uDIn true ua ub):=⟨λA ι σ H ρ M Qu Q w e q k =>
 ha.h A ι σ H ρ M _ _ w e q λy M1 ι1 v1 H1 l1 w1 r1 q1=>hb.h A ι1 σ H1 ρ M1 _ _ w1 (e.le l1) q1 λx M2 ι2 v2 H2 l2 w2 r2 ⟨kk,kvs,key,ex,em,ey,q2⟩=>by
  subst ex ey;cases r2 with
  |m ek =>
  obtain⟨o,h1,h2⟩:=K4 w2 ek em (r1.le l2);exact⟨_,o,rfl,h1,by rw[h2]; exact k _ M2 ι2 _ H2 (l1.trans l2) w2 (.p (.bl _)) q2⟩⟩
end
section
theorem qaB(hd:ZE td ud)(hy:ZE ty uy)(hv:ZE tv uv):ZS (sDPut td ty tv) (uDPut ud uy uv):=⟨λA ι σ H ρ M D E w e r q =>
 hv.h A ι σ H ρ M _ _ w e q λv M1 ι1 vv H1 l1 w1 r1 q1=>hd.h A ι1 σ H1 ρ M1 _ _ w1 (e.le l1) q1 λx M2 ι2 vx H2 l2 w2 r2 q2=>hy.h A ι2 σ H2 ρ M2 _ _ w2 (e.le (l1.trans l2)) q2 λy M3 ι3 vy H3 l3 w3 r3 ⟨kk,kvs,key,ex,em,ey,hz,q3⟩=>by
  subst ex ey;have r2':=r2.le l3;cases r2' with
  |m ek =>
  obtain⟨gs,h1,h2⟩:=w3.obj kk _ _ ek em;have hmem:=Ui ek;have l4:=(l1.trans l2).trans l3;refine⟨_,_,rfl, ?_,r.nx ι3 σ _ ρ _ (l4.trans (.put hmem)) (w3.put (mo:=.dK (putU kvs key v)) ek ⟨_,upd_same,Paired.mapP (WQ h2 (r1.le (l2.trans l3))) λ_ _ q=>⟨q.1,q.2.le (.put hmem)⟩⟩) (e.le (l4.trans (.put hmem))) q3⟩;rw[QR r3];exact DPut.k (k:=key) h1 (by rw[h2.len]; exact hz)⟩
end
section
theorem ce_idxK(T3:Tup3 Ξ mg nm p x y z)(ha:ZA n tl ul):ZE (tBM Ξ "tuple" (rIdxT p x y z) (tC (.ref p)) tl) (uIdxK [x,y,z] ul):=⟨λA ι σ H ρ M Qu Q w e q k =>
 ⟨T3.ty H,ha.h A ι σ H ρ M _ _ w e q λus M1 ι1 vs H1 l1 w1 hn r1 ⟨t,j,eu,ej,hf,q1⟩=>by
  subst eu;cases r1 with
  |cons r q' =>
  cases q';cases r with
  |p r =>
  cases r;exact⟨t,j,rfl,rfl,ej,hf,k _ M1 ι1 _ H1 l1 w1 (.p (.int _)) q1⟩⟩⟩
end
section
theorem qH(ha:ZE ta ua):ZE (tFld Ξ ta f) (uFld Ξ ua f):=⟨λA ι σ H ρ M Qu Q w e q k =>
 ha.h A ι σ H ρ M _ _ w e q λx M1 ι1 v1 H1 l1 w1 r1 ⟨kk,C,fs,u,ex,em,c,na,lk,q1⟩=>by
  subst ex;cases r1 with
  |m ek =>
  obtain⟨dx,gs,h1,h2,h3,h4⟩:=w1.obj kk _ _ ek em;obtain⟨v,hv,rv⟩:=KH h4 lk;exact⟨_,C,dx,gs,v,rfl,h1,c,na,hv,k _ M1 ι1 v H1 l1 w1 rv q1⟩⟩
end
section
theorem xA(ha:ZE ta ua)(hv:ZE tv uv):ZS (sFld Ξ ta tv f) (XW Ξ ua uv f):=⟨λA ι σ H ρ M D E w e r q =>
 hv.h A ι σ H ρ M _ _ w e q λy M1 ι1 vy H1 l1 w1 r1 q1=>ha.h A ι1 σ H1 ρ M1 _ _ w1 (e.le l1) q1 λx M2 ι2 vx H2 l2 w2 r2 ⟨kk,C,fs,ex,em,c,na,hz,q2⟩=>by
  subst ex;cases r2 with
  |m ek =>
  rename_i a;obtain⟨dx,gs,h1,h2,h3,h4⟩:=w2.obj kk _ _ ek em;have hmem:=Ui ek;have l4:=l1.trans l2;have hne:dx≠a:=λz=>by rw[z,h1] at h2; cases h2
  refine⟨a,C,dx,gs,rfl,h1,c,na,by rw[h4.len]; exact hz,r.nx ι2 σ _ ρ _ (l4.trans (.put hmem)) (w2.put (mo:=.ins C (QF f y fs)) ek ⟨dx,_,upd_same,by rw[upd_ne hne]; exact h2,h3,Paired.mapP (Ky h4 (r1.le l2)) λ_ _ q=>⟨q.1,q.2.le (.put hmem)⟩⟩) (e.le (l4.trans (.put hmem))) q2⟩⟩
end
section
theorem qC(ha:ZE ta ua)(hl:ZA n tl ul):ZE (XZ C m (spU G) [] E ta tl) (uMeth C m G ua ul):=⟨λA ι σ H ρ M Qu Q w e q k =>
 ha.h A ι σ H ρ M _ _ w e q λx M1 ι1 v1 H1 l1 w1 r1 ⟨kk,fs,ex,em,lk,q1⟩=>by
  subst ex;have r1':=r1;cases r1' with
  |m ek =>
  obtain⟨dx,gs,h1,h2,h3,h4⟩:=w1.obj kk _ _ ek em;refine⟨_,dx,gs,rfl,h1,Xh h4 lk,hl.h A ι1 σ H1 ρ M1 _ _ w1 (e.le l1) q1 λus M2 ι2 vs H2 l2 w2 hn r2 q2=>?_⟩;rw[UZ];exact⟨A,ι2,M2,_,_,w2, .cons (r1.le l2) r2,q2,λu M3 ι3 v H3 l3 w3 r3 q3=>k u M3 ι3 v H3 ((l1.trans l2).trans l3) w3 r3 q3⟩⟩
end
section
theorem JX(hl:ZA n tl ul):ZE (tMake C (spU G) [] E tl) (uMake C G ul):=⟨λA ι σ H ρ M Qu Q w e q k =>
 hl.h A ι σ H ρ M _ _ w e q λus M1 ι1 vs H1 l1 w1 hn r1 q1 x dx hx hdx hne=>by
  have hx2:upd H1 dx (.own x) x=none:=by rw[upd_ne (Ne.symm hne)]; exact hx
  have l2:Le ι1 H1 ι1 (upd H1 dx (.own x)):=.fresh hdx;have w2:=w1.fresh (o:=.own x) hdx;have l3:Le ι1 (upd H1 dx (.own x)) (ι1++[x]) (upd (upd H1 dx (.own x)) x (.ins C dx [])):=.push hx2;have w3:Wd A (ι1++[x]) (upd (upd H1 dx (.own x)) x (.ins C dx [])) (M1++[.ins C []]):=w2.push (mo:=.ins C []) hx2 ⟨dx, [],upd_same,by rw[upd_ne hne,upd_same],λz=>by
   rcases Uw.mp z with z|z
   ·exact w1.nin hdx z
   ·exact hne (Uu.mp z), .nil⟩
  have rx:RepU A (ι1++[x]) (upd (upd H1 dx (.own x)) x (.ins C dx [])) (.ref x) (.m M1.length):=.m (by rw[<-w1.len]; exact xI);rw[UZ];refine⟨A,ι1++[x],_,_,_,w3, .cons rx (r1.le (l2.trans l3)),q1,λu M4 ι4 v4 H4 l4 w4 r4 q4=>?_⟩;obtain⟨eu,q4⟩:=q4;subst eu;cases r4 with
  |p r4 =>
  cases r4;exact⟨rfl,k _ M4 ι4 _ H4 (l1.trans ((l2.trans l3).trans l4)) w4 (rx.le l4) q4⟩⟩
end
section
theorem qaJ(ha:ZE ta ua)(hb:ZE tb ub):ZE (tOp rRep ta tb) (XU ua ub):=⟨λA ι σ H ρ M Qu Q w e q k =>
 ha.h A ι σ H ρ M _ _ w e q λx M1 ι1 v H1 l1 w1 r1 q1=>hb.h A ι1 σ H1 ρ M1 _ _ w1 (e.le l1) q1 λy M2 ι2 v2 H2 l2 w2 r2 ⟨xs,kk,ex,ey,k0,k1,hz,q2⟩=>by
  subst ex ey;have r1':=r1.le l2;cases r1' with
  |p r1 =>
  cases r2 with
  |p r2 =>
  cases r2;obtain⟨p,vs,rfl,na,h1,h2⟩:=r1.lst_inv;refine⟨p,kk,vs,rfl,rfl,h1,k0,k1,by rw[h2.len]; exact hz,λl hl=>?_⟩;have:=zL w2 hl (RepTs.ups (j8 h2 kk.toNat));exact k _ _ _ _ _ ((l1.trans l2).trans (.push hl)) this.1 this.2 q2⟩
end
section
theorem cg_name4(i j l o:Nat):ZG (gTup Ξ 4 (vj (qM i) (vj (qM j) (vj (qM l) (vj (qM o) gNil))))) (Y0 i j l o):=⟨λA ι σ H ρ M v u Qu Q w e r ⟨a,b,c,d,ei,q⟩ k=>by
 obtain⟨p,vs,rfl,h1,h2⟩:=zk w r ei;obtain⟨x,y,z,s,rfl,r1,r2,r3,r4⟩:=rep4 h2;exact⟨p,_,rfl,SqT.of h1,rfl,_,_,rfl,_,_,rfl,_,_,rfl,_,_,rfl,rfl,k _ M ι _ H (.refl _ _) w ((((e.put i r1).put j r2).put l r3).put o r4) q⟩⟩
end
section
theorem cs_par(hl:ZA n tl ul):ZS (tPar i j tl) (uPar i j ul):=⟨λA ι σ H ρ M D E w e r q =>
 hl.h A ι σ H ρ M _ _ w e q λus M1 ι1 vs H1 l1 w1 hn r1 ⟨a,b,eu,q1⟩=>by
  subst eu;obtain⟨x,y,rfl,ra,rb⟩:=rep2 r1;exact⟨x,y,rfl,r.nx ι1 _ H1 _ M1 l1 w1 (((e.le l1).put i ra).put j rb) q1⟩⟩
end
section
variable {P:Program} {w:World} {Ξ:PySem.W.Frag} {mg:Str->Option Value} {base:Heap}
theorem Fun.okQ{st:Stmt}(F:Fun Ξ x qual st f fd)(S:FnScope N ps (qg st))(len:∀vs H Q E,sp vs H Q E->vs.length=ps.length)(hbody:∀(cdv:Value)(A:Around)(outer:List Env)(s:Shared)(H:Hp)(vs:List V)(Q:VK)(E:XK),Room k (A.deeper (envOfC qual (qg st) s.heap.objs.size f cdv))->sp vs H Q E ->
   ∃t,QSs (cxOf CX0 P w Ξ mg base N qual (qg st) f cdv A outer s H E).nox (vz st) t/\t { nx:=λ_ H'=>Q .non H',rt:=Q } (start N vs) H):FnOk P w Ξ mg base CX0 (k+1) f fd ps sp :=
 F.ok S len λcdv A outer s H vs Q E hr hsp=>by
  obtain⟨t,h,q⟩:=hbody cdv A outer s H vs Q E hr hsp;exact⟨t,h.h,q⟩
theorem Fun.zU{st:Stmt}(F:Fun Ξ x qual st f fd)(S:FnScope N ps (qg st))(len:∀us M Qu,G us M Qu->us.length=ps.length)(hbody:∀(cdv:Value)(A:Around)(outer:List Env)(s:Shared)(H:Hp)(E:XK),Room k (A.deeper (envOfC qual (qg st) s.heap.objs.size f cdv)) ->
   ∃t,QSs (cxOf CX0 P w Ξ mg base N qual (qg st) f cdv A outer s H E).nox (vz st) t/\∃u,ZS t u/\∀us M Qu,G us M Qu->u { nx:=λ_ M'=>Qu (.p .non) M',rt:=Qu } (xQ N us) M):FnOk P w Ξ mg base CX0 (k+1) f fd ps (spU G) :=
 F.okU S len λcdv A outer s H E hr=>by
  obtain⟨t,h,u,hu,q⟩:=hbody cdv A outer s H E hr;exact⟨t,h.h,u,hu.h,q⟩
theorem Fun.zV{st:Stmt}(F:Fun Ξ x qual st f fd)(S:FnScope N ps (qg st))(len:∀us M Qu,G us M Qu->us.length=ps.length)(hbody:∀(cdv:Value)(A:Around)(outer:List Env)(s:Shared)(H:Hp)(E:XK),Room k (A.deeper (envOfC qual (qg st) s.heap.objs.size f cdv)) ->
   ∃t,QSs (cxOf CX0 P w Ξ mg base N qual (qg st) f cdv A outer s H E).nox (vz st) t/\∃u,ZS t u/\∀us M M1 Qu,M1=M->G us M Qu->u { nx:=λ_ M'=>xW M M'/\Qu (.p .non) (M'.take M.length),rt:=λz M'=>xW M M'/\∃t,frzB M.length 4 M' z=some t/\Qu (.p t) (M'.take M.length) } (xQ N us) M1):FnOk P w Ξ mg base CX0 (k+1) f fd ps (spU G) :=
 F.okV S len λcdv A outer s H E hr=>by
  obtain⟨t,h,u,hu,q⟩:=hbody cdv A outer s H E hr;exact⟨t,h.h,u,hu.h,λus M Qu g=>q us M M Qu rfl g⟩
theorem Fun.zP{st:Stmt}(F:Fun Ξ x qual st f fd)(S:FnScope N ps (qg st))(len:∀ts Qt,G ts Qt->ts.length=ps.length)(hbody:∀(cdv:Value)(A:Around)(outer:List Env)(s:Shared)(H:Hp)(E:XK),Room k (A.deeper (envOfC qual (qg st) s.heap.objs.size f cdv)) ->
   ∃t,QSs (cxOf CX0 P w Ξ mg base N qual (qg st) f cdv A outer s H E).nox (vz st) t/\∃u,ZS t u/\∀ts Qt,G ts Qt->u { nx:=λ_ _=>Qt .non,rt:=λz M'=>∃t,frzN 4 M' z=some t/\Qt t } (xQ N (ts.map U.p)) []):FnOk P w Ξ mg base CX0 (k+1) f fd ps (spP G) :=
 F.okP S len λcdv A outer s H E hr=>by
  obtain⟨t,h,u,hu,q⟩:=hbody cdv A outer s H E hr;exact⟨t,h.h,u,hu.h,q⟩
end
abbrev UX:=Str->Option Int->MM->Prop
def pT:Option Int->T
 |none=>.non
 |some n=>.int n
theorem pT_rep:∀p:Option Int,RepT A H (pV p) (pT p)
 |none=>.non
 |some _=>.int _
theorem pT_inv:∀{p:Option Int},RepT A H v (pT p)->v=pV p
 |none,r=>by cases r; rfl
 |some _,r=>by cases r; rfl
abbrev UXe:=UEnv->MM->UK->UX->Prop
def spX(mg:Str->Option Value)(G:List U->MM->UK->UX->Prop):Sp:=λvs H Q E=>∃A ι M us Qu Xu,Wd A ι H M/\RepUs A ι H vs us/\G us M Qu Xu /\
 (∀u M' ι' v H',Le ι H ι' H'->Wd A ι' H' M'->RepU A ι' H' v u->Qu u M'->Q v H')/\∀nm p C d M' ι' H',mg nm=some C->PartIs d H' p->Le ι H ι' H'->Wd A ι' H' M'->Xu nm p M'->E C d H'
structure ZXe(mg:Str->Option Value)(tx:TX)(ux:UXe):Prop where
 h:∀(A:Addr->Prop)(ι:List Addr)(σ:St)(H:Hp)(ρ:UEnv)(M:MM)(Qu:UK)(Xu:UX)(Q:VK)(E:XK),Wd A ι H M->EnvR A ι H σ ρ->ux ρ M Qu Xu ->
  (∀u M' ι' v H',Le ι H ι' H'->Wd A ι' H' M'->RepU A ι' H' v u->Qu u M'->Q v H')->(∀nm p C d M' ι' H',mg nm=some C->PartIs d H' p->Le ι H ι' H'->Wd A ι' H' M'->Xu nm p M'->E C d H')->tx σ H Q E
section
def xf(G:List U->MM->UK->UX->Prop)(ul:UA):UXe:=λρ M Q X=>ul ρ M λus M1=>G us M1 Q X
theorem js(ha:ZA n tl ul):ZXe mg (tCallX (spX mg G) tl) (xf G ul):=⟨λA ι σ H ρ M Qu Xu Q E w e q k kx =>
 ha.h A ι σ H ρ M _ _ w e q λus M1 ι1 vs H1 l1 w1 hn r1 q1 =>
  ⟨A,ι1,M1,us,_,_,w1,r1,q1,λu M2 ι2 v H2 l2 w2 r2 q2=>k u M2 ι2 v H2 (l1.trans l2) w2 r2 q2,λnm p C d M2 ι2 H2 hm hp l2 w2 q2=>kx nm p C d M2 ι2 H2 hm hp (l1.trans l2) w2 q2⟩⟩
def xb(C:Addr)(m:Str)(G:List U->MM->UK->UX->Prop)(ua:UE)(ul:UA):UXe:=λρ M Q X=>ua ρ M λx M1=>qaW C m x M1 (ul ρ M1 λus M2=>G (x::us) M2 Q X)
theorem vh(ha:ZE ta ua)(hl:ZA n tl ul):ZXe mg (tMethX C m (spX mg G) ta tl) (xb C m G ua ul):=⟨λA ι σ H ρ M Qu Xu Q E w e q k kx =>
 ha.h A ι σ H ρ M _ _ w e q λx M1 ι1 v1 H1 l1 w1 r1 ⟨kk,fs,ex,em,lk,q1⟩=>by
  subst ex;have r1':=r1;cases r1' with
  |m ek =>
  obtain⟨dx,gs,h1,h2,h3,h4⟩:=w1.obj kk _ _ ek em;refine⟨_,dx,gs,rfl,h1,Xh h4 lk,hl.h A ι1 σ H1 ρ M1 _ _ w1 (e.le l1) q1 λus M2 ι2 vs H2 l2 w2 hn r2 q2=>?_⟩;exact⟨A,ι2,M2,_,_,_,w2, .cons (r1.le l2) r2,q2,λu M3 ι3 v H3 l3 w3 r3 q3=>k u M3 ι3 v H3 ((l1.trans l2).trans l3) w3 r3 q3,λnm p C d M3 ι3 H3 hm hp l3 w3 q3=>kx nm p C d M3 ι3 H3 hm hp ((l1.trans l2).trans l3) w3 q3⟩⟩
def tagU(nm:Str)(p:Option Int)(ρ:UEnv):UEnv:=some (.p (.str nm))::some (.p (pT p))::ρ
theorem jI(e:EnvR A ι H σ ρ):EnvR A ι H (some (.str nm)::some (pV p)::σ) (tagU nm p ρ):=.cons (λu q=>by cases q; exact⟨_,rfl, .p (.str _)⟩) (.cons (λu q=>by cases q; exact⟨_,rfl, .p (pT_rep p)⟩) e)
def xc(ux:UXe):US:=λE ρ M=>ux ρ M (λ_ M1=>E.nx ρ M1) λnm p M1=>E.bk (tagU nm p ρ) M1
theorem vo(h:ZXe mg tx ux):ZS (tDropX tx mg) (xc ux):=⟨λA ι σ H ρ M D E w e r q =>
 h.h A ι σ H ρ M _ _ _ _ w e q (λx M1 ι1 v H1 l1 w1 r1 q1=>r.nx ι1 σ H1 ρ M1 l1 w1 (e.le l1) q1) λnm p C d M1 ι1 H1 hm hp l1 w1 q1=>⟨nm,p,hm,hp,r.bk ι1 _ H1 _ M1 l1 w1 (jI (e.le l1)) q1⟩⟩
def Q6(ux:UXe):US:=λE ρ M=>ux ρ M E.rt λnm p M1=>E.bk (tagU nm p ρ) M1
def Qd(i:Nat)(ux:UXe):US:=λE ρ M=>ux ρ M (λx M1=>E.nx (ρ.set i (some x)) M1) λnm p M1=>E.bk (tagU nm p ρ) M1
theorem JW(h:ZXe mg tx ux):ZS (tSetX i tx mg) (Qd i ux):=⟨λA ι σ H ρ M D E w e r q =>
 h.h A ι σ H ρ M _ _ _ _ w e q (λx M1 ι1 v H1 l1 w1 r1 q1=>r.nx ι1 _ H1 _ M1 l1 w1 ((e.le l1).put i r1) q1) λnm p C d M1 ι1 H1 hm hp l1 w1 q1=>⟨nm,p,hm,hp,r.bk ι1 _ H1 _ M1 l1 w1 (jI (e.le l1)) q1⟩⟩
def xa(x:Str)(ul:UA):US:=λE ρ M=>ul ρ M λus M1=>us.length<=sizeLine/\E.bk (tagU x none ρ) M1
theorem Zm(h:ZA n tl ul):ZS (tRaise x tl) (xa x ul):=⟨λA ι σ H ρ M D E w e r q =>
 h.h A ι σ H ρ M _ _ w e q λus M1 ι1 vs H1 l1 w1 hn r1 ⟨hl,q1⟩=>⟨by rw[r1.len]; exact hl,r.bk ι1 _ H1 _ M1 l1 w1 (jI (p:=none) (e.le l1)) q1⟩⟩
def zl(x:Str)(ul:UA):US:=λE ρ M=>ul ρ M λus M1=>∃k,us=[.p (.int k)]/\Qi k/\E.bk (tagU x (some k) ρ) M1
theorem QY(h:ZA n tl ul):ZS (Wb x tl) (zl x ul):=⟨λA ι σ H ρ M D E w e r q =>
 h.h A ι σ H ρ M _ _ w e q λus M1 ι1 vs H1 l1 w1 hn r1 ⟨k,eu,sk,q1⟩=>by
  subst eu;cases r1 with
  |cons a b =>
  cases b;cases a with
  |p a =>
  cases a;exact⟨k,rfl,sk,λd hd=>r.bk ι1 _ _ _ M1 (l1.trans (Le.fresh hd)) (w1.fresh hd) (jI (p:=some k) ((e.le l1).le (Le.fresh hd))) q1⟩⟩
def uTry(n:Nat)(ub:US)(l:List (Str×(Option Int->US))):US:=λE ρ M=>ub { E with bk:=λτ M'=>∃nm p ρ' u,τ=tagU nm p ρ'/\ρ'.length=n/\l.lookup nm=some u/\u p E ρ' M' } ρ M
structure ZHs(l:List (Str×(Option Int->TS)))(l':List (Str×(Option Int->US))):Prop where
 h:∀nm u,l'.lookup nm=some u->∃t,l.lookup nm=some t/\∀p,LS (t p) (u p)
theorem zh_nil:ZHs [] []:=⟨λnm u e=>by simp at e⟩
theorem zh_cons(h:∀p,ZS (t p) (u p))(hr:ZHs l l'):ZHs ((x,t)::l) ((x,u)::l'):=⟨λnm v e=>by
 rw[UF] at e ⊢;cases hx:(nm==x) with
 |true=>rw[hx] at e; cases e; exact⟨t,rfl,λp=>(h p).h⟩
 |false=>rw[hx] at e; exact hr.h nm v e⟩
theorem cs_try(hb:ZS tb ub)(hl:ZHs l l'):ZS (tTry n tb l) (uTry n ub l'):=⟨λA ι σ H ρ M D E w e r q =>
 hb.h A ι σ H ρ M _ { E with bk:=λτ M'=>∃nm p ρ' u,τ=tagU nm p ρ'/\ρ'.length=n/\l'.lookup nm=some u/\u p E ρ' M' } w e ⟨r.nx,r.rt,λι1 σ1 H1 ρ1 M1 l1 w1 e1 q1=>by
  obtain⟨nm,p,ρ',u,rfl,hn,hu,q1⟩:=q1;obtain⟨t,ht,lk⟩:=hl.h nm u hu;cases e1 with
  |cons a b =>
  cases b with
  |cons a2 b =>
  obtain⟨v,rfl,rv⟩:=a _ rfl;obtain⟨v2,rfl,rv2⟩:=a2 _ rfl;cases rv with
  |p rv =>
  cases rv;cases rv2 with
  |p rv2 =>
  cases pT_inv rv2;exact⟨nm,p,_,t,rfl,by rw[b.length]; exact hn,ht,lk p A ι1 _ H1 ρ' M1 D E w1 b (r.le l1) q1⟩,r.ct⟩ q⟩
end
section
def endX(n:Nat)(Qu:UK)(Xu:UX):UEnds:={ nx:=λ_ M'=>Qu (.p .non) M',rt:=Qu,bk:=λτ M'=>∃nm p ρ,τ=tagU nm p ρ/\ρ.length=n/\Xu nm p M' }
theorem Fun.zX{st:Stmt}(F:Fun Ξ x qual st f fd)(S:FnScope N ps (qg st))(len:∀us M Qu Xu,G us M Qu Xu->us.length=ps.length)(hbody:∀(cdv:Value)(A:Around)(outer:List Env)(s:Shared)(H:Hp)(E:XK),Room k (A.deeper (envOfC qual (qg st) s.heap.objs.size f cdv)) ->
   ∃t,QXs True (cxOf (CXe P w) P w Ξ mg base N qual (qg st) f cdv A outer s H E) (vz st) t/\∃u,ZS t u/\∀us M Qu Xu,G us M Qu Xu->u (endX N.length Qu Xu) (xQ N us) M):FnOk P w Ξ mg base (CXe P w) (k+1) f fd ps (spX mg G):=by
 refine F.okX S (λvs H Q E h=>?_) (λcdv A outer s H vs Q E hr h=>?_)
 ·obtain⟨A,ι,M,us,Qu,Xu,w1,r,g,_⟩:=h
  rw[r.len]; exact len us M Qu Xu g
 ·obtain⟨B,ι,M,us,Qu,Xu,w1,r,g,kk,kx⟩:=h
  obtain⟨t,ht,u,hu,hb⟩:=hbody cdv A outer s H E hr;refine⟨t,ht,hu.h B ι _ H _ M _ (endX N.length Qu Xu) w1 (jx r) ⟨λι1 σ1 H1 ρ1 M1 l1 w1 e1 q1=>kk _ M1 ι1 _ H1 l1 w1 (.p .non) q1,λι1 v H1 z M1 l1 w1 r1 q1=>kk z M1 ι1 v H1 l1 w1 r1 q1,λι1 σ1 H1 ρ1 M1 l1 w1 e1 q1=>?_,λ_ _ _ _ _ _ _ _ q=>q.elim⟩ (hb us M Qu Xu g)⟩;obtain⟨nm,p,ρ,rfl,hn,q1⟩:=q1;cases e1 with
  |cons a b =>
  cases b with
  |cons a2 b =>
  obtain⟨v,rfl,rv⟩:=a _ rfl;obtain⟨v2,rfl,rv2⟩:=a2 _ rfl;cases rv with
  |p rv =>
  cases rv;cases rv2 with
  |p rv2 =>
  cases pT_inv rv2;exact⟨nm,p,_,rfl,by rw[b.length]; exact hn,λC d hm hp=>kx nm p C d M1 ι1 H1 hm hp l1 w1 q1⟩
end
theorem hh_nil:∀nm t C,([]:List (Str×(Option Int->TS))).lookup nm=some t->X.mg nm=some C->∀p,QH X hs C p (t p):=λnm t C e _=>by simp at e
theorem hh_cons{X:Cx}{hs:List ExceptHandler}{x:Str}{C:Value}{t:Option Int->TS}(hb:X.mg x=some C)(h:∀p,QH X hs C p (t p))(hr:∀nm t C,l.lookup nm=some t->X.mg nm=some C->∀p,QH X hs C p (t p)) :
  ∀nm t' C',((x,t)::l).lookup nm=some t'->X.mg nm=some C'->∀p,QH X hs C' p (t' p):=λnm t' C' e hm=>by
 rw[UF] at e;cases hx:(nm==x) with
 |true =>
  rw[hx] at e;cases e;rw[eq_of_beq hx,hb] at hm;cases hm;exact h
 |false=>rw[hx] at e; exact hr nm t' C' e hm
theorem WC(n:Nat):((List.range n).map λ(k:Nat)=>((n:Int)-1 + -1*(k:Int)).toNat)=(List.range n).reverse:=by
 apply RF
 ·simp
 ·intro i h1 h2
  simp at h1 h2;simp only[List.getElem_map,List.getElem_range,List.getElem_reverse,Rw];lia
theorem ixRev_eq(n:Nat):JH n=(List.range n).reverse:=by
 rw[<-WC];unfold JH sliceRange sliceBounds;have h0:¬((-1:Int)>0):=by decide
 simp only[Option.getD_some,h0,if_false];cases n with
 |zero=>rfl
 |succ m =>
  have e:(if((m+1:Nat):Int)-1 > -1 then(((m+1:Nat):Int)-1 - -1 - -1-1) / - -1 else 0).toNat=m+1:=by
   rw[if_pos (by lia)];simp
  rw[e]
theorem Vf{α:Type}:∀xs:List α,(List.range xs.length).filterMap (λi=>xs[i]?)=xs
 | []=>rfl
 |x::xs=>by
  rw[Um,RJ,U9];simp only[Dd,List.filterMap_map];rw[show((λi=>(x::xs)[i]?) ∘ Nat.succ)=λi=>xs[i]? from funext λi=>by simp];rw[Vf xs]
theorem pickV_eq(xs:List V):WZ xs=xs.reverse:=by
 unfold WZ;rw[ixRev_eq,List.filterMap_reverse,Vf]
theorem Paired.app{α β:Type}{F:α->β->Prop}:∀{a c:List α}{b d:List β},Paired F a b->Paired F c d->Paired F (a++c) (b++d)
 |_,_,_,_, .nil,h=>h
 |_,_,_,_, .cons x y,h=>.cons x (Paired.app y h)
section
def RevLS(M:MM)(x:U)(Q:UK):Prop:=∃ts,sn M x=some (.lst ts)/\Q (.p (.lst ts.reverse)) M
def uRevL(ua:UE):UE:=λρ M Q=>ua ρ M λx M1=>RevLS M1 x Q
theorem rev_rep(r:RepTs A H vs ts):RepTs A H vs.reverse ts.reverse:=by
 induction r with
 |nil=>exact .nil
 |cons a b ih =>
  rw[Dy,Dy];exact Paired.app ih (.cons a .nil)
theorem ce_revL(ha:ZE ta ua):ZE (tRev Ξ ta) (uRevL ua):=⟨λA ι σ H ρ M Qu Q w e q k =>
 ha.h A ι σ H ρ M _ _ w e q λx M1 ι1 v H1 l1 w1 r1 ⟨ts,es,q1⟩=>by
  obtain⟨p,vs,rfl,h4,h5⟩:=(r1.sn w1 es).lst_inv;refine⟨p,vs,rfl,SqL.of h4,λr hr=>?_⟩;rw[pickV_eq];exact k _ M1 ι1 _ _ (l1.trans (.fresh hr)) (w1.fresh hr) (.p (zg w1 hr (rev_rep h5))) q1⟩
theorem rd_revL:uRevL ua ρ M Q=ua ρ M λx M1=>RevLS M1 x Q:=rfl
end
section
def tAsgX(tx:TX)(g:TG)(mg:Str->Option Value):TS:=λD σ H=>tx σ H (λx H1=>g x σ H1 D.nx) (EX mg D σ)
theorem qx_asg(he:QXe X e tx)(hg:QG X.nox tg g)(hs:swapsWithSole [tg] e pos.line X.env=pure false:=by rfl)(hw:swappedStores [tg] e X.env=pure none:=by rfl)(h1:(assignEach [tg] X.env).map (·.2)=[assign tg X.env]:=by rfl) :
  QX r X (.Assign [tg] e pos) (tAsgX tx g X.mg):=⟨λpins s σ H D k I h=>by
 refine wpAny_Assign_stores (thn (he.h pins s σ H _ _ (k.1 σ) I h) λv s1 ⟨x,H1,I1,r1,q1⟩=>?_) hs hw;rw[h1];refine wpAny_mono (hg.h pins s1 σ H1 x v _ (I1.wish _) r1 q1) (λ_ s2 ⟨σ',H',I2,q⟩=>⟨σ',H',I2.unwish,q⟩) λ_ _ z=>False.elim z⟩
end
section
def Q7(Ξ:PySem.W.Frag)(ux:UXe)(f:Str):UXe:=λρ M Q X=>ux ρ M (λx M1=>FldS Ξ f x M1 Q) X
def Qf(ux:UXe)(ug:UG):US:=λE ρ M=>ux ρ M (λx M1=>ug x ρ M1 E.nx) λnm p M1=>E.bk (tagU nm p ρ) M1
theorem qaC(h:ZXe mg tx ux)(hg:ZG g ug):ZS (tAsgX tx g mg) (Qf ux ug):=⟨λA ι σ H ρ M D E w e r q =>
 h.h A ι σ H ρ M _ _ _ _ w e q (λx M1 ι1 v H1 l1 w1 r1 q1=>hg.h A ι1 σ H1 ρ M1 v x _ _ w1 (e.le l1) r1 q1 λρ2 M2 ι2 σ2 H2 l2 w2 e2 q2=>r.nx ι2 σ2 H2 ρ2 M2 (l1.trans l2) w2 e2 q2) λnm p C d M1 ι1 H1 hm hp l1 w1 q1=>⟨nm,p,hm,hp,r.bk ι1 _ H1 _ M1 l1 w1 (jI (e.le l1)) q1⟩⟩
end
section
theorem Wd.not_xd(w:Wd A ι H M)(h:a∈ι):H a≠some (.xd fs):=λz=>by
 obtain⟨k,e⟩:=Dv h;obtain⟨o,_,r⟩:=w.al e;cases o with
 |lst=>obtain⟨vs,e,_⟩:=r; rw[z] at e; cases e
 |tup=>obtain⟨vs,e,_⟩:=r; rw[z] at e; cases e
 |ins=>obtain⟨_,_,e,_⟩:=r; rw[z] at e; cases e
 |dK=>obtain⟨_,e,_⟩:=r; rw[z] at e; cases e
 |dF=>obtain⟨e,_⟩:=r; rw[z] at e; cases e
 |tab=>obtain⟨_,e,_⟩:=r; rw[z] at e; cases e
theorem PartIs.x(w:Wd A ι H M)(h:PartIs d H q):PartX ι H d q:=by
 cases q with
 |none=>exact h
 |some n =>
  obtain⟨x0,e,hx⟩:=h;exact⟨x0,e,λz=>w.not_xd z hx,hx⟩
def uPartE(a:Addr)(d:Option Addr)(ua:UE):UE:=λρ M Q=>ua ρ M λx M1=>∃n,x=.x a d (some n)/\n<1000000/\Q (.p (.int n)) M1
theorem za:uPartE a d ua ρ M Q=ua ρ M λx M1=>∃n,x=.x a d (some n)/\n<1000000/\Q (.p (.int n)) M1:=rfl
def uAsG(i:Nat)(ub:Addr->Option Addr->US)(q:Option Int):US:=λE ρ M=>∀a d,ub a d { E with nx:=λρ' M'=>E.nx (ρ'.set i none) M',bk:=λ_ _=>False,ct:=λρ' M'=>E.ct (ρ'.set i none) M' } (ρ.set i (some (.x a d q))) M
end
section
theorem PartX.is(h:PartX ι H d q):PartIs d H q:=by
 cases q with
 |none=>exact h
 |some n =>
  obtain⟨x0,e,_,hx⟩:=h;exact⟨x0,e,hx⟩
end
section
theorem Wd.ext(w:Wd A ι H M)(h:∀x o,H x=some o->H' x=some o):Wd A ι H' M:=by
 have l:Le ι H ι H':=⟨⟨[],by simp,by simp⟩,λx o e _=>h x o e,λx e=>by
  cases q:H x with
  |none=>exact absurd q e
  |some o=>rw[h x o q]; simp⟩
 refine⟨w.nd,w.len,λx hx=>l.al x (w.dom x hx),w.na,λk a o e1 e2=>?_⟩;have r:=w.obj k a o e1 e2;obtain⟨q,hq⟩:=r.some;exact r.le' l (by rw[h a q hq,hq]) λx hx=>by rw[h x _ hx,hx]
def uCmpF(neg:Bool)(ua ub:UE):UE:=λρ M Q=>ua ρ M λx M1=>ub ρ M1 λy M2=>∃a b,frzN 5 M2 x=some a/\frzN 5 M2 y=some b/\sEqL neg a b λt=>Q (.p t) M2
theorem ce_neF(ha:ZE ta ua)(hb:ZE tb ub):ZE (tOp (rNeL Ξ) ta tb) (uCmpF true ua ub):=⟨λA ι σ H ρ M Qu Q w e q k =>
 ha.h A ι σ H ρ M _ _ w e q λx M1 ι1 v H1 l1 w1 r1 q1=>hb.h A ι1 σ H1 ρ M1 _ _ w1 (e.le l1) q1 λy M2 ι2 v2 H2 l2 w2 r2 ⟨a,b,ea,eb,q⟩=>by
  have r1':=zQ w2 (r1.le l2) ea;have r2':=zQ w2 r2 eb;have up:∀{v t},RepT A H2 v t->RepT (Av A []) H2 v t:=λr=>r.mono λx o hx e=>⟨e,λz=>hx (z.elim id λz=>by simp at z)⟩;have w0:Wd A [] H2 []:=⟨D1,rfl,w2.dom,by simp,by simp⟩;refine Ga A [] H2 [] v v2 a b (λt=>∃c,t=.bl c/\Qu (.p t) M2) Q w0 (.of (up r1')) (.of (up r2')) ?_ λt ι3 z H3 l3 w3 r3 ⟨c,et,q3⟩=>?_
  ·obtain⟨xs,ys,ex,ey,h⟩:=q
   refine⟨xs,ys,ex,ey, ?_⟩;rcases h with⟨hl,q⟩|⟨hl,ee,he,q⟩
   ·exact .inl ⟨hl,_,rfl,q⟩
   ·exact .inr ⟨hl,ee,he,_,rfl,q⟩
  ·subst et
   cases r3;have le23:Le ι2 H2 ι2 H3:=⟨⟨[],by simp,by simp⟩,λx o e _=>l3.fr x o e (by simp),l3.al⟩;exact k _ M2 ι2 _ H3 ((l1.trans l2).trans le23) (w2.ext λx o e=>l3.fr x o e (by simp)) (.p (.bl _)) q3⟩
theorem rd_cmpF:uCmpF neg ua ub ρ M Q=ua ρ M λx M1=>ub ρ M1 λy M2=>∃a b,frzN 5 M2 x=some a/\frzN 5 M2 y=some b/\sEqL neg a b λt=>Q (.p t) M2:=rfl
def flD:Nat->T->Prop
 |0,_=>False
 |n+1, .tup xs=>∀x∈xs,flD n x
 |n+1, .lst xs=>∀x∈xs,flD n x
 |_+1,_=>True
theorem kY:∀{n:Nat}{t:T},flD n t->∃r,EqT n t t r
 |0,_,h=>h.elim
 |n+1, .non,_=>⟨_, .flat rfl rfl⟩
 |n+1, .bl b,_=>⟨_, .flat rfl rfl⟩
 |n+1, .int i,_=>⟨_, .flat rfl rfl⟩
 |n+1, .str s,_=>⟨_, .flat rfl rfl⟩
 |n+1, .tup xs,h=>by
  have:∀j:Nat,∃r,∀x,xs[j]?=some x->EqT n x x r:=λj=>by
   cases e:xs[j]? with
   |none=>exact⟨true,λx z=>by cases z⟩
   |some x =>
    obtain⟨r,hr⟩:=kY (h x (Ui e));exact⟨r,λy z=>by cases z; exact hr⟩
  exact⟨_, .tup (e:=λj=>(this j).choose) λj x y hx hy=>by rw[hx] at hy; cases hy; exact(this j).choose_spec x hx⟩
 |n+1, .lst xs,h=>by
  have:∀j:Nat,∃r,∀x,xs[j]?=some x->EqT n x x r:=λj=>by
   cases e:xs[j]? with
   |none=>exact⟨true,λx z=>by cases z⟩
   |some x =>
    obtain⟨r,hr⟩:=kY (h x (Ui e));exact⟨r,λy z=>by cases z; exact hr⟩
  exact⟨_, .lst (e:=λj=>(this j).choose) rfl λj x y hx hy=>by rw[hx] at hy; cases hy; exact(this j).choose_spec x hx⟩
theorem kZ(h:∀x∈xs,flD 20 x)(q:Q (.bl (!neg))):sEqL neg (.lst xs) (.lst xs) Q:=by
 have:∀j:Nat,∃r,∀x,xs[j]?=some x->EqT 20 x x r:=λj=>by
  cases e:xs[j]? with
  |none=>exact⟨true,λx z=>by cases z⟩
  |some x =>
   obtain⟨r,hr⟩:=kY (h x (Ui e));exact⟨r,λy z=>by cases z; exact hr⟩
 refine⟨xs,xs,rfl,rfl, .inr ⟨rfl,λj=>(this j).choose,λj x y hx hy=>by rw[hx] at hy; cases hy; exact(this j).choose_spec x hx, ?_⟩⟩;have e:(List.range xs.length).all (λj=>(this j).choose)=true:=by
  rw[DQ];intro j hj;have hj:=Dt.mp hj;exact((this j).choose_spec _ (Uf hj)).self rfl
 rw[e];cases neg<;>exact q
end
section
def entD(P:Params)(e:Str×Tok×Value):DictEntry:=⟨PyData.keyHash P e.1, .str e.1 e.2.1,e.2.2⟩
structure KDi(Ξ:PySem.W.Frag)(w:World)(mg:Str->Option Value)(nm:Str)(a:Addr)(kvs:List (Str×V)):Prop where
 g:mg nm=some (.ref a)
 ex:∃(rows:List (Str×Tok×Value))(ep:Nat),Ξ.lookup a=some ⟨.type "dict", none, .dict ((rows.map (entD w.params)).toArray) ep, #[]⟩/\(rows.map (·.1)).Nodup/\Paired (λ(kv:Str×V) (r:Str×Tok×Value)=>kv.1=r.1/\RelV kv.2 r.2.2) kvs rows
def keyR(r:Str×Tok×Value):Key×Value:=(.inr r.1,r.2.2)
theorem W8:∀rows:List (Str×Tok×Value),Pairs (vm prog w) (rows.map (entD w.params)) (rows.map keyR)
 | []=>.nil
 |r::rows=>.cons (jh prog w r.1 r.2.1) rfl (W8 rows)
theorem keys_D(rows:List (Str×Tok×Value)):KeysOf (vm prog w) (rows.map (entD w.params)).toArray:=λe he=>by
 obtain⟨r,_,rfl⟩:=UQ.mp (List.mem_toArray.mp he);exact⟨.inr r.1,jh prog w r.1 r.2.1,rfl⟩
theorem nodup_D:∀{rows:List (Str×Tok×Value)},(rows.map (·.1)).Nodup->((rows.map keyR).map (·.1)).Nodup:=λ{rows} h=>by
 rw[DT];have e:((λx=>x.1) ∘ keyR)=(λx:Str=>(Key.inr x:Key)) ∘ (λr:Str×Tok×Value=>r.1):=rfl;rw[e, <-DT];exact List.Pairwise.map _ (λa b hab z=>hab (Key.inr.inj z)) h
theorem look_D:∀{kvs:List (Str×V)}{rows:List (Str×Tok×Value)},Paired (λ(kv:Str×V) (r:Str×Tok×Value)=>kv.1=r.1/\RelV kv.2 r.2.2) kvs rows->kvs.lookup k=some v->∃u,valueAt (rows.map keyR) (.inr k:Key)=some u/\RelV v u
 |_,_, .nil,e=>by simp at e
 | (a,b)::kvs,r::rows, .cons ⟨e1,e2⟩ q,e=>by
  have e1:a=r.1:=e1;subst e1;by_cases h:k=r.1
  ·subst h
   rw[UF,beq_self_eq_true] at e;cases e;exact⟨r.2.2,by simp[valueAt,keyR],e2⟩
  ·rw[UF,beq_false_of_ne h] at e
   obtain⟨u,h1,h2⟩:=look_D q e;refine⟨u, ?_,h2⟩;unfold valueAt at h1 ⊢;rw[UB,List.find?_cons_of_neg]
   ·exact h1
   ·intro z
    exact h (Key.inr.inj (of_decide_eq_true z)).symm
theorem kd_at(D:KDi X.K X.w X.mg nm a kvs)(I:Inv X pins σ H s):∃rows:List (Str×Tok×Value),s.heap.DictOf (vm X.prog X.w) a (rows.map keyR)/\Paired (λ(kv:Str×V) (r:Str×Tok×Value)=>kv.1=r.1/\RelV kv.2 r.2.2) kvs rows:=by
 obtain⟨rows,ep,h1,h2,h3⟩:=D.ex;exact⟨rows,⟨_,_,ep,I.kIn a _ h1,⟨rfl,rfl,rfl⟩,rfl,keys_D rows,by simpa using W8 rows,nodup_D h2⟩,h3⟩
def tKD(kvs:List (Str×V))(ty:TE):TE:=λσ H Q=>ty σ H λy H1=>∃k v,y=.str k/\kvs.lookup k=some v/\Q v H1
theorem qe_kd(D:KDi X.K X.w X.mg nm a kvs)(hg:Gl X nm)(hi:QE X i ty)(hs:NoSl i)(hd:(nm==("__debug__" : Str))=false:=by decide):QE X (.Subscript (.Name nm p) i pos) (tKD kvs ty):=⟨by
 intro pins s σ H Q I h;refine Wg PySem.F.slot_dict_getitem.lookup hs (zM I hg D.g (thn (hi.h pins s σ H _ I h) λiv s2 ⟨y,H2,I2,ry,k,v,ey,e,q2⟩=>?_) hd);subst ey;obtain⟨rows,dd,hp⟩:=kd_at D I2;obtain⟨u,hu,ru⟩:=look_D hp e;exact⟨dd.typeIs,wpAny_getItem_of (JG (k:=.inr k) ry) dd.mapOf hu ⟨v,H2,I2.tok _,ru,q2⟩⟩⟩
def uKD(ks:List (Str×T))(ub:UE):UE:=λρ M Q=>ub ρ M λy M1=>∃k t,y=.p (.str k)/\ks.lookup k=some t/\Q (.p t) M1
theorem GJ:∀{kvs:List (Str×V)}{ks:List (Str×T)},Paired (λ(a:Str×V) (b:Str×T)=>a.1=b.1/\Sc a.2 b.2) kvs ks->ks.lookup k=some t->∃v,kvs.lookup k=some v/\Sc v t
 |_,_, .nil,e=>by simp at e
 | (a,b)::kvs,(c,d)::ks, .cons ⟨e1,e2⟩ q,e=>by
  have e1:a=c:=e1;subst e1;rw[UF] at e ⊢;cases h:k==a with
  |true=>rw[h] at e; cases e; exact⟨b,rfl,e2⟩
  |false=>rw[h] at e; exact GJ q e
theorem ce_kd(h:Paired (λ(a:Str×V) (b:Str×T)=>a.1=b.1/\Sc a.2 b.2) kvs ks)(hb:ZE tb ub):ZE (tKD kvs tb) (uKD ks ub):=⟨λA ι σ H ρ M Qu Q w e q k =>
 hb.h A ι σ H ρ M _ _ w e q λy M1 ι1 v H1 l1 w1 r1 ⟨kk,t,ey,el,q1⟩=>by
  subst ey;cases r1 with
  |p r =>
  cases r;obtain⟨v,h1,h2⟩:=GJ h el;exact⟨kk,v,rfl,h1,k _ M1 ι1 _ H1 l1 w1 (.p h2.rep) q1⟩⟩
end
mutual
def toD:T->PyData
 |.non=>.none
 |.bl b=>.bool b
 |.int i=>.int i
 |.str x=>.str x
 |.tup xs=>.tuple (toDs xs)
 |.lst xs=>.list (toDs xs)
def toDs:List T->List PyData
 | []=>[]
 |x::xs=>toD x::toDs xs
end
mutual
theorem noD:∀t:T,(toD t).hasDict=false
 |.non=>rfl
 |.bl _=>rfl
 |.int _=>rfl
 |.str _=>rfl
 |.tup xs=>noDs xs
 |.lst xs=>noDs xs
theorem noDs:∀ts:List T,PyData.hasDictAll (toDs ts)=false
 | []=>rfl
 |x::xs=>by show((toD x).hasDict||PyData.hasDictAll (toDs xs))=false; rw[noD x,noDs xs]; rfl
end
section
theorem xu{h:Heap}:∀{vs:List V}{ts:List T}{us:List Value},Vals vs us->vs.length=ts.length->(∀(i:Nat) v t,vs[i]?=some v->ts[i]?=some t->∀u,RelV v u->∃as,Reads h u (toD t) as)->∃as,ReadsAll h us (toDs ts) as
 | [], [],_, .nil,_,_=>⟨_, .nil⟩
 |v::vs,t::ts,_, .cons r q,hl,ih=>by
  obtain⟨as,h1⟩:=ih 0 v t rfl rfl _ r;obtain⟨bs,h2⟩:=xu q (by simpa using hl) λi v t e1 e2=>ih (i+1) v t (by simpa using e1) (by simpa using e2);exact⟨_, .cons h1 h2⟩
theorem VR{A:Addr->Prop}{v:V}{t:T}(I:Inv X pins σ H s)(r:RepT A H v t):∀u,RelV v u->∃as,Reads s.heap u (toD t) as:=by
 induction r with
 |non=>intro u e; cases e; exact⟨_, .none⟩
 |bl b=>intro u e; cases e; exact⟨_, .bool b⟩
 |int i=>intro u e; obtain⟨t,rfl⟩:=e; exact⟨_, .int i t⟩
 |str x=>intro u e; obtain⟨t,rfl⟩:=e; exact⟨_, .str x t⟩
 |tup na e l r ih =>
  intro u eu;cases eu;obtain⟨its,rv,⟨o,h1,h2,n,h3⟩,_⟩:=I.tuple (SqT.of e);obtain⟨as,q⟩:=xu (h:=s.heap) rv l ih;exact⟨_, .tuple h1 h2 h3 (by simpa using q)⟩
 |lst na e l r ih =>
  intro u eu;cases eu;obtain⟨its,rv,pl,_⟩:=I.list (SqL.of e);obtain⟨o,h1,h2,n,h3⟩:=pl.isList;obtain⟨as,q⟩:=xu (h:=s.heap) rv l ih;exact⟨_, .list h1 h2 h3 (by simpa using q)⟩
structure ShowT(t:T):Prop where
 sh:(toD t).showable=true
 dp:(toD t).depth<=60
 sz:(toD t).shown.length<=sizeLine
def rRepr:List V->Hp->VK->Prop:=λxs H Q=>∃(A:Addr->Prop)(v:V)(t:T),xs=[v]/\RepV A H v t/\ShowT t/\Q (.str (toD t).shown) H
theorem XH(hg:X.A.guards=some [])(hu:X.A.units+64<cLine):jv X (.builtin "repr") rRepr:=by
 intro pins s σ H xs us Q I r h;obtain⟨A,v,t,rfl,rv,ok,q⟩:=h;obtain⟨u,rfl,ru⟩:=Yj r;have big:∀(a:Addr)(as:List Addr),Reads s.heap (.ref a) (toD t) as->wpAny (model X.prog X.w) X.A (call (.builtin "repr") [.ref a]) (EP X pins σ Q) X.xe s:=λa as rd =>
  repr_of_reads' rd ok.sh (PyData.noDict_hsm (noD t)) hg (by have:=ok.dp; lia) (λ_ _ e=>e) (λh' u tk hk=>⟨.str _,H,I.kept (t':=tk) hk,⟨_,rfl⟩,q⟩) ok.sz
 cases rv with
 |of r =>
  obtain⟨as,rd⟩:=VR I r u ru;cases r with
  |non=>cases ru; exact PySem.P.repr_of_none ⟨.str _,H,I.tok _,⟨_,rfl⟩,q⟩
  |bl b=>cases ru; exact PySem.P.repr_of_bool ⟨.str _,H,I.tok _,⟨_,rfl⟩,q⟩
  |int i =>
   obtain⟨t,rfl⟩:=ru;exact PySem.P.repr_of_int (of_decide_eq_true ok.sh) ⟨.str _,H,I.tok _,⟨_,rfl⟩,q⟩
  |str x =>
   obtain⟨t,rfl⟩:=ru;exact PySem.P.repr_of_str ⟨.str _,H,I.tok _,⟨_,rfl⟩,q⟩ ok.sz
  |tup=>cases ru; exact big _ _ rd
  |lst=>cases ru; exact big _ _ rd
 |lst e rr =>
  cases ru;obtain⟨its,rv,pl,_⟩:=I.list (SqL.of e);obtain⟨o,h1,h2,n,h3⟩:=pl.isList;obtain⟨as,q⟩:=xu (h:=s.heap) rv rr.len λi v t e1 e2=>VR I (Paired.get2 rr e1 e2);exact big _ _ (.list h1 h2 h3 (by simpa using q))
 |tup e rr =>
  cases ru;obtain⟨its,rv,⟨o,h1,h2,n,h3⟩,_⟩:=I.tuple (SqT.of e);obtain⟨as,q⟩:=xu (h:=s.heap) rv rr.len λi v t e1 e2=>VR I (Paired.get2 rr e1 e2);exact big _ _ (.tuple h1 h2 h3 (by simpa using q))
def sRepr:List T->(T->Prop)->Prop:=λts Q=>∃t,ts=[t]/\ShowT t/\Q (.str (toD t).shown)
theorem Ye:CbL rRepr sRepr:=λA ι H M vs ts Qs Q w r ⟨t,e,ok,q⟩ k=>by
 subst e;obtain⟨v,ev,r1⟩:=pv1 r;subst ev;exact⟨_,v,t,rfl,r1,ok,k _ ι _ H (.refl _ _) w (.str _) q⟩
theorem Wx{t:T}{Q:T->Prop}:sRepr [t] Q=(ShowT t/\Q (.str (toD t).shown)):=propext ⟨λ⟨_,e,h⟩=>by cases e; exact h,λh=>⟨t,rfl,h⟩⟩
theorem b_repr:bootBuiltins "repr" = some (.builtin "repr"):=by decide +kernel
end
section
theorem Wd.takeA(w:Wd (λx=>A x\/x=p) ι H M)(ha:¬A p)(hp:H p=some (.lst ys))(r:RepTs (Av (λx=>A x\/x=p) ι) H ys ts):Wd A (ι++[p]) H (M++[.lst (ts.map U.p)])/\p∉ι:=by
 have np:p∉ι:=λz=>w.na p z (.inr rfl);have hl:Lea (λx=>A x\/x=p) ι H A (ι++[p]) H:=⟨⟨[p],rfl⟩,λx o hx e=>⟨e,λz=>hx (z.elim (λz=>.inl (.inl z)) λz=>(Uw.mp z).elim .inr λz=>.inl (.inr (Uu.mp z)))⟩,λx fs hx e=>⟨λz=>(Uw.mp z).elim hx λz=>(by rw[Uu.mp z,hp] at e; cases e),e⟩⟩;refine⟨⟨Dn.mpr ⟨w.nd,by simp,λa ha b hb=>by rw[Uu.mp hb]; exact λz=>np (by rw[<-z]; exact ha)⟩,by simp[w.len],λx hx=>w.dom x (.inl hx),λx hx z=>?_,λk a ob e1 e2=>?_⟩,np⟩
 ·rcases Uw.mp hx with h|h
  ·exact w.na x h (.inl z)
  ·rw[Uu.mp h] at z; exact ha z
 ·by_cases hk:k<ι.length
  ·rw[Ug hk] at e1
   rw[Ug (by rw[<-w.len]; exact hk)] at e2;have q:=w.obj k a ob e1 e2;cases ob with
   |lst=>obtain⟨vs,e,q⟩:=q; exact⟨vs,e,Paired.mapP q λ_ _ q=>q.lea hl⟩
   |tup=>obtain⟨vs,e,q⟩:=q; exact⟨vs,e,Paired.mapP q λ_ _ q=>q.lea hl⟩
   |ins =>
    obtain⟨dx,gs,e,ed,nd,q⟩:=q;refine⟨dx,gs,e,ed,λz=>?_,Paired.mapP q λ_ _ q=>⟨q.1,q.2.lea hl⟩⟩;rcases Uw.mp z with z|z
    ·exact nd z
    ·rw[Uu.mp z,hp] at ed; cases ed
   |dK=>obtain⟨gs,e,q⟩:=q; exact⟨gs,e,Paired.mapP q λ_ _ q=>⟨q.1,q.2.lea hl⟩⟩
   |dF=>obtain⟨e,q⟩:=q; exact⟨e,Paired.mapP q λ_ _ q=>⟨q.1,q.2.lea hl⟩⟩
   |tab =>
    obtain⟨ps,e,t,z⟩:=q;refine⟨ps,e,t,z.imp id λ⟨c,h1,h2,h3⟩=>⟨c,h1,h2,λy=>?_⟩⟩;rcases Uw.mp y with y|y
    ·exact h3 y
    ·rw[Uu.mp y,hp] at h2; cases h2
  ·have hk2:=(Ue.mp e1).1
   rw[Uj,Dg] at hk2;have:k=ι.length:=by lia
   subst this;rw[Uo (Uk _),DJ] at e1;rw[w.len,Uo (Uk _),DJ] at e2;simp at e1 e2;subst e1 e2;exact⟨ys,hp,RepTs.ups (Paired.mapP r λ_ _ q=>q.mono hl.av)⟩
theorem Le.pushed{H H':Hp}{ι ι':List Addr}{p:Addr}(l:Le ι H ι' H')(h:H p=none)(_:p∉ι'):Le ι H (ι'++[p]) H':=by
 obtain⟨m,rfl,hm⟩:=l.ext;refine⟨⟨m++[p],by rw[Us],λx hx=>?_⟩,l.fr,l.al⟩;rcases Uw.mp hx with z|z
 ·exact hm x z
 ·rw[Uu.mp z]; exact h
def UCompN(it:UIt)(ug:UG)(ut:UT)(ue:UE)(ρ0:UEnv)(M1:MM)(Q:UK):Prop:=it.n<=sizeLine/\∃Iv:Nat->List T->MM->Prop,Iv 0 [] M1 /\
 (∀i acc M2,i<it.n->acc.length<=i->Iv i acc M2->it.ok M2/\∀u,it.item i u->ug u ρ0 M2 λρ4 M4=>ut ρ4 M4 λb M5=>if b=true then ue ρ4 M5 λz M6=>∃t,z=.p t/\Iv (i+1) (acc++[t]) M6 else Iv (i+1) acc M5) /\
 (∀acc M2,Iv it.n acc M2->it.ok M2/\Q (.m M2.length) (M2++[.lst (acc.map U.p)]))
def Y3(ui:UI)(bs:List Bool)(n:Nat)(ug:UG)(ut:UT)(ue:UE):UE:=λρ M Q=>ui ρ M λit M1=>ρ.length=bs.length/\UCompN it ug ut ue (YD bs n ρ) M1 Q
theorem ce_compN(hi:ZI wi ui)(hg:ZX bs n g ug)(ht:ZT tt ut)(he:ZE te ue):ZE (xY wi bs n g tt te) (Y3 ui bs n ug ut ue):=⟨by
 intro A ι σ H ρ M Qu Q w e q k;refine hi.h A ι σ H ρ M _ _ w e q λit M1 ι1 J H1 l1 w1 hJ q1 acc hacc=>?_;obtain⟨hlen,hsz,Iv,I0,It,Id⟩:=q1;have hσ:σ.length=bs.length:=by rw[<-hlen]; exact e.len
 have e1:=e.le l1;have na:¬Av A ι1 acc:=w1.nA hacc;have key:∀ι2 H2,Le ι1 H1 ι2 H2->(∀x∈ι2,¬(A x\/x=acc))->Lea A ι1 H1 (λx=>A x\/x=acc) ι2 H2:=λι2 H2 l h=>by
  refine⟨let⟨n,e,_⟩:=l.ext; ⟨n,e⟩,λx o hx ex=>?_,l.xd⟩;obtain⟨a1,a2⟩:=l.av hx ex;refine⟨a1,λz=>?_⟩;rcases z with(z|z)|z
  ·exact a2 (.inl z)
  ·rw[z,hacc] at ex; cases ex
  ·exact a2 (.inr z)
 refine⟨λi m H2=>m=it.n-i/\i<=it.n/\∃ι2 M2 at' ys,Le ι1 H1 ι2 H2/\Wd (λx=>A x\/x=acc) ι2 H2 M2/\H2 acc=some (.lst ys)/\RepTs (Av (λx=>A x\/x=acc) ι2) H2 ys at'/\at'.length<=i/\Iv i at' M2,
  ⟨it.n,by simp,UW _,ι1,M1, [], [], .fresh hacc,w1.addA hacc,upd_same, .nil,Uk _,I0⟩, ?_⟩
 rintro i m H2 ⟨rfl,hin,ι2,M2,at',ys,l2,w2,hys,rys,hat,I2⟩;have lea:=key ι2 H2 l2 w2.na;by_cases hlt:i<it.n
 ·obtain⟨ok,step⟩:=It i at' M2 hlt hat I2
  obtain⟨jgo,jy⟩:=(hJ _ ι2 H2 M2 i lea w2 ok).1 hlt;refine .inr ⟨jgo,λH'=>∃ι2 M2 at' ys,Le ι1 H1 ι2 H'/\Wd (λx=>A x\/x=acc) ι2 H' M2/\H' acc=some (.lst ys)/\RepTs (Av (λx=>A x\/x=acc) ι2) H' ys at'/\at'.length<=i+1/\Iv (i+1) at' M2,λH' h=>⟨it.n-(i+1),by lia,rfl,hlt,h⟩,λx H3 y=>?_⟩;obtain⟨u,hu,l3,w3,r3⟩:=jy x H3 y;have l13:=l2.trans l3;have nacc:∀{ι':List Addr}{H':Hp}{M':MM},Wd (λx=>A x\/x=acc) ι' H' M'->acc∉ι':=λw z=>w.na acc z (.inr rfl);have ys3:H3 acc=some (.lst ys):=l3.fr _ _ hys (nacc w2);have env3:EnvR (λx=>A x\/x=acc) ι2 H3 (zD bs n σ) (YD bs n ρ):=(e1.mask).lea (key ι2 H3 l13 w3.na);refine hg.h _ ι2 σ H3 _ M2 x u _ _ hσ w3 env3 r3 (step u hu) λρ4 σ4 e4 x4 len4 q4=>⟨⟨x4,len4⟩, ?_⟩;refine ht.h _ ι2 σ4 H3 ρ4 M2 _ _ w3 e4 q4 λb M5 ι5 H5 l5 w5 q5=>?_;have ys5:H5 acc=some (.lst ys):=l5.fr _ _ ys3 (nacc w3);have rys5:RepTs (Av (λx=>A x\/x=acc) ι5) H5 ys at':=Paired.mapP rys λ_ _ q=>(q.le l3).le l5;cases b with
  |false=>exact⟨ι5,M5,at',ys,l13.trans l5,w5,ys5,rys5,Rv hat,q5⟩
  |true =>
   refine he.h _ ι5 σ4 H5 ρ4 M5 _ _ w5 (e4.le l5) q5 λz M6 ι6 zv H6 l6 w6 r6 q6=>?_;obtain⟨t,rfl,q6⟩:=q6;have ys6:H6 acc=some (.lst ys):=l6.fr _ _ ys5 (nacc w5);refine⟨ys,ys6, ?_,ι6,M6,at'++[t],ys++[zv],((l13.trans l5).trans l6).updF hacc,(w6.updA (.inr rfl) ys6).2,upd_same, ?_,by rw[Uj,Dg]; lia,q6⟩
   ·rw[rys.len]; lia
   ·have hl:=(w6.updA (o:=.lst (ys++[zv])) (.inr rfl) ys6).1
    cases r6 with
    |p r6=>exact Paired.app (Paired.mapP rys5 λ_ _ q=>(q.le l6).mono hl.av) (.cons (r6.mono hl.av) .nil)
 ·have ei:i=it.n:=by lia
  subst ei;obtain⟨ok,fin⟩:=Id at' M2 I2;obtain⟨w3,l3⟩:=w2.takeA (λz=>na (.inl z)) hys rys;exact .inl ⟨(hJ _ ι2 H2 M2 _ lea w2 ok).2 rfl,k _ _ (ι2++[acc]) _ H2 (l1.trans (l2.pushed hacc l3)) w3 (.m (by rw[<-w2.len]; exact xI)) fin⟩⟩
theorem UComp.new{M1:MM}(h:UComp it ug ut ue ρ0 M1 R)(k:∀acc M2,R (.p (.lst acc)) M2->Q (.m M2.length) (M2++[.lst (acc.map U.p)])):UCompN it ug ut ue ρ0 M1 Q:=by
 obtain⟨hz,Iv,h0,hs,hd⟩:=h;exact⟨hz,Iv,h0,hs,λacc M2 h=>⟨(hd acc M2 h).1,k acc M2 (hd acc M2 h).2⟩⟩
def LiN(us:List U)(M:MM)(Q:UK):Prop:=∃x ys,us=[x]/\(qD M x=some ys\/vI M x=some ys)/\Q (.m M.length) (M++[.lst ys])
def jw(ul:UA):UE:=λρ M Q=>ul ρ M λus M1=>LiN us M1 Q
theorem zw(ha:ZA n tl ul):ZE (tCB (λxs H Q=>∃p ys,xs=[.ref p]/\(SqL Ξ H p ys\/SqT Ξ H p ys)/\∀l,H l=none->Q (.ref l) (upd H l (.lst ys))) tl) (jw ul):=⟨λA ι σ H ρ M Qu Q w e q k =>
 ha.h A ι σ H ρ M _ _ w e q λus M1 ι1 vs H1 l1 w1 hn r1 ⟨x,ys,eu,hy,q1⟩=>by
  subst eu;cases r1 with
  |cons r q' =>
  cases q';rcases hy with hy|hy
  ·obtain⟨p,zs,rfl,h1,h2⟩:=vG w1 r hy
   exact⟨p,zs,rfl, .inl (SqL.of h1),λl hl=>k _ _ _ _ _ (l1.trans (.push hl)) (zL w1 hl h2).1 (zL w1 hl h2).2 q1⟩
  ·obtain⟨p,zs,rfl,h1,h2⟩:=zk w1 r hy
   exact⟨p,zs,rfl, .inr (SqT.of h1),λl hl=>k _ _ _ _ _ (l1.trans (.push hl)) (zL w1 hl h2).1 (zL w1 hl h2).2 q1⟩⟩
def Kj(G:List T->(T->Prop)->Prop)(ul:UA):UE:=λρ M Q=>ul ρ M λus M1=>∃ts,frzs (frzN 6 M1) us=some ts/\G ts λt=>(∃x,vt t=some x)/\Q (.p t) M1
theorem Yd(ha:ZA n tl ul):ZE (xi (spP G) [] E tl) (Kj G ul):=⟨λA ι σ H ρ M Qu Q w e q k =>
 ha.h A ι σ H ρ M _ _ w e q λus M1 ι1 vs H1 l1 w1 hn r1 ⟨ts,et,q1⟩=>by
  rw[UZ];refine⟨A,ts,_,w1.dom,kR r1 (λv u t r e=>zQ w1 r e) et,q1,λt v H2 s r2 ⟨⟨x,hx⟩,q2⟩=>k _ M1 ι1 v H2 (l1.trans s.le) (w1.same s) (.p ?_) q2⟩;cases(RepV.of r2).sc (y:=.non) hx;exact(kq hx).rep⟩
def Me0S(s:List U->List U->(U->List U->Prop)->Prop)(o:U)(M:MM)(Q:UK):Prop:=∃k us,o=.m k/\M[k]?=some (.lst us)/\s us [] λz us'=>Q z (M.set k (.lst us'))
def uMe0(s:List U->List U->(U->List U->Prop)->Prop)(uo:UE):UE:=λρ M Q=>uo ρ M λo M1=>Me0S s o M1 Q
theorem Vr(h:MeL r s)(ha:ZE ta ua):ZE (tBM0 Ξ "list" r ta) (uMe0 s ua):=⟨λA ι σ H ρ M Qu Q w e q k =>
 ha.h A ι σ H ρ M _ _ w e q λo M1 ι1 v H1 l1 w1 r1 ⟨kk,us,eo,hz,q1⟩=>by
  subst eo;cases r1 with
  |m ek =>
  rename_i a;obtain⟨xs1,h1,h2⟩:=w1.obj kk a _ ek hz;have hm:=Ui ek;exact⟨.inl ⟨rfl,xs1,SqL.of h1⟩,h A ι1 H1 M1 kk a xs1 [] us [] _ Q w1 ek h1 hz h2 .nil q1 λz us' zv xs' rx rz qz=>k z _ ι1 zv _ (l1.trans (.put hm)) (w1.put (mo:=.lst us') ek ⟨xs',upd_same,RepUs.le (.put hm) rx⟩) (rz.le (.put hm)) qz⟩⟩
def sClear:List U->List U->(U->List U->Prop)->Prop:=λ_ ws Q=>ws=[]/\Q (.p .non) []
theorem Xf:MeL rClear sClear:=λA ι H M k a xs ys us ws Qs Q w ek h1 h2 rx ry ⟨ew,q⟩ kk=>by
 subst ew;cases ry;exact⟨a,xs,rfl,rfl,h1,kk _ _ _ _ .nil (.p .non) q⟩
def uCmpT(neg:Bool)(ua ub:UE):UE:=λρ M Q=>ua ρ M λx M1=>ub ρ M1 λy M2=>∃a b,frzN 6 M2 x=some a/\frzN 6 M2 y=some b/\sEqTu neg a b λt=>Q (.p t) M2
theorem ce_neFT(ha:ZE ta ua)(hb:ZE tb ub):ZE (tOp (rNeT Ξ) ta tb) (uCmpT true ua ub):=⟨λA ι σ H ρ M Qu Q w e q k =>
 ha.h A ι σ H ρ M _ _ w e q λx M1 ι1 v H1 l1 w1 r1 q1=>hb.h A ι1 σ H1 ρ M1 _ _ w1 (e.le l1) q1 λy M2 ι2 v2 H2 l2 w2 r2 ⟨a,b,ea,eb,q⟩=>by
  have r1':=zQ w2 (r1.le l2) ea;have r2':=zQ w2 r2 eb;have up:∀{v t},RepT A H2 v t->RepT (Av A []) H2 v t:=λr=>r.mono λx o hx e=>⟨e,λz=>hx (z.elim id λz=>by simp at z)⟩;have w0:Wd A [] H2 []:=⟨D1,rfl,w2.dom,by simp,by simp⟩;refine opl_neT A [] H2 [] v v2 a b (λt=>∃c,t=.bl c/\Qu (.p t) M2) Q w0 (.of (up r1')) (.of (up r2')) ?_ λt ι3 z H3 l3 w3 r3 ⟨c,et,q3⟩=>?_
  ·obtain⟨xs,ys,ee,ex,ey,h,q⟩:=q
   exact⟨xs,ys,ee,ex,ey,h,_,rfl,q⟩
  ·subst et
   cases r3;have le23:Le ι2 H2 ι2 H3:=⟨⟨[],by simp,by simp⟩,λx o e _=>l3.fr x o e (by simp),l3.al⟩;exact k _ M2 ι2 _ H3 ((l1.trans l2).trans le23) (w2.ext λx o e=>l3.fr x o e (by simp)) (.p (.bl _)) q3⟩
theorem qaj(h:∀x∈xs,flD 20 x)(q:Q (.bl (!neg))):sEqTu neg (.tup xs) (.tup xs) Q:=by
 have:∀j:Nat,∃r,∀x,xs[j]?=some x->EqT 20 x x r:=λj=>by
  cases e:xs[j]? with
  |none=>exact⟨true,λx z=>by cases z⟩
  |some x =>
   obtain⟨r,hr⟩:=kY (h x (Ui e));exact⟨r,λy z=>by cases z; exact hr⟩
 refine⟨xs,xs,λj=>(this j).choose,rfl,rfl,λj x y hx hy=>by rw[hx] at hy; cases hy; exact(this j).choose_spec x hx, ?_⟩;have e:(List.range (min xs.length xs.length)).all (λj=>(this j).choose)=true:=by
  rw[DQ];intro j hj;have hj:=Dt.mp hj;exact((this j).choose_spec _ (Uf (by lia))).self rfl
 rw[e];cases neg<;>simpa using q
end
section
def ItB(b:Bool)(h:Heap)(it a:Addr)(i:Nat):Prop:=match b with
 |true=>h.IsListIter it a i
 |false=>h.IsTupleIter it a i
theorem ItB.ex(x:ItB b h it a i):∃o vs,h.get? it=some o/\o.data=.fields vs:=by
 cases b
 ·obtain⟨o,e,_,d⟩:=(show h.IsTupleIter it a i from x); exact⟨o,_,e,d⟩
 ·obtain⟨o,e,_,d⟩:=(show h.IsListIter it a i from x); exact⟨o,_,e,d⟩
theorem ItB.at(x:ItB b h it a i)(k:∀o,h.get? it=some o->h'.get? it=some o):ItB b h' it a i:=by
 cases b
 ·obtain⟨o,e,r⟩:=(show h.IsTupleIter it a i from x); exact⟨o,k o e,r⟩
 ·obtain⟨o,e,r⟩:=(show h.IsListIter it a i from x); exact⟨o,k o e,r⟩
end
section
variable {P:Program} {w:World} {A:Around} {E:Value->Shared->Prop} {s:Shared} {κ:Type} [DecidableEq κ]
def TextT(P:Program)(w:World)(t:Sem Value)(x:Str):Prop:=∀(A:Around)(E:Value->Shared->Prop)(s:Shared)(Q:Value->Shared->Prop),(∀tk t',Q (.str x t') { s with toks:=tk })->wpAny (model P w) A t Q E s
inductive TextPs(P:Program)(w:World):List (Sem Value×Sem Value)->List (Str×Str)->Prop
 |nil:TextPs P w [] []
 |cons {k v:Sem Value} {x y:Str} {ps:List (Sem Value×Sem Value)} {zs:List (Str×Str)} (hk:TextT P w k x) (hv:TextT P w v y) (r:TextPs P w ps zs):TextPs P w ((k,v)::ps) ((x,y)::zs)
theorem TextPs.len(h:TextPs P w ps zs):ps.length=zs.length:=by
 induction h with
 |nil=>rfl
 |cons _ _ _ ih=>rw[Um,Um,ih]
inductive TextV:List (Key×Value)->List (Str×Str)->Prop
 |nil:TextV [] []
 |cons {x y:Str} {t:Tok} {l:List (Key×Value)} {zs:List (Str×Str)} (r:TextV l zs):TextV ((.inr x, .str y t)::l) ((x,y)::zs)
theorem TextV.keys(h:TextV l zs):l.map (·.1)=zs.map λz=>Key.inr z.1:=by
 induction h with
 |nil=>rfl
 |cons _ ih=>rw[UB,UB,ih]
theorem TextV.len(h:TextV l zs):l.length=zs.length:=by
 have:=congrArg List.length h.keys;simpa using this
end
section
inductive ConstPs:List (Option Expr)->List Expr->List (Str×Str)->Prop
 |nil:ConstPs [] [] []
 |cons {x y:Str} {j j':Nat} {p p':Pos} {ks:List (Option Expr)} {vs:List Expr} {zs:List (Str×Str)} (r:ConstPs ks vs zs):ConstPs (some (.Constant (.str x) j p)::ks) (.Constant (.str y) j' p'::vs) ((x,y)::zs)
theorem ConstPs.all(h:ConstPs ks vs zs):ks.all (·.isSome)=true/\ks.length=vs.length:=by
 induction h with
 |nil=>exact⟨rfl,rfl⟩
 |cons _ ih=>exact⟨by rw[RB,ih.1]; rfl,by rw[Um,Um,ih.2]⟩
theorem TextV.kv(h:TextV l zs):KV (zs.map λz=>((.inr z.1:Key),V.str z.2)) l:=by
 induction h with
 |nil=>exact .nil
 |cons _ ih=>exact .cons ⟨rfl,_,rfl⟩ ih
end
abbrev TXa:=St->Hp->(List V->Hp->Prop)->XK->Prop
section
def tX0(te:TE):TX:=λσ H Q _=>te σ H Q
def tOpX(r:R2)(ta tb:TX):TX:=λσ H Q E=>ta σ H (λx H1=>tb σ H1 (λy H2=>r x y H2 Q) E) E
def tNilX:TXa:=λ_ H Q _=>Q [] H
def tConsX(tx:TX)(tl:TXa):TXa:=λσ H Q E=>tx σ H (λx H1=>tl σ H1 (λxs H2=>Q (x::xs) H2) E) E
end
abbrev UXa:=UEnv->MM->(List U->MM->Prop)->UX->Prop
structure ZXa(mg:Str->Option Value)(n:Nat)(tl:TXa)(ul:UXa):Prop where
 h:∀(A:Addr->Prop)(ι:List Addr)(σ:St)(H:Hp)(ρ:UEnv)(M:MM)(Qu:List U->MM->Prop)(Xu:UX)(Q:List V->Hp->Prop)(E:XK),Wd A ι H M->EnvR A ι H σ ρ->ul ρ M Qu Xu ->
  (∀us M' ι' vs H',Le ι H ι' H'->Wd A ι' H' M'->us.length=n->RepUs A ι' H' vs us->Qu us M'->Q vs H')->(∀nm p C d M' ι' H',mg nm=some C->PartIs d H' p->Le ι H ι' H'->Wd A ι' H' M'->Xu nm p M'->E C d H')->tl σ H Q E
section
def uX0(ue:UE):UXe:=λρ M Q _=>ue ρ M Q
theorem cx_0(h:ZE te ue):ZXe mg (tX0 te) (uX0 ue):=⟨λA ι σ H ρ M Qu Xu Q E w e q k _=>h.h A ι σ H ρ M Qu Q w e q k⟩
def uOpX(s:T->T->(T->Prop)->Prop)(ua ub:UXe):UXe:=λρ M Q X=>ua ρ M (λx M1=>ub ρ M1 (λy M2=>OpS s M2 x y Q) X) X
theorem cx_op(h:OpL r s)(ha:ZXe mg tx ux)(hb:ZXe mg ty uy):ZXe mg (tOpX r tx ty) (uOpX s ux uy):=⟨λA ι σ H ρ M Qu Xu Q E w e q k kx =>
 ha.h A ι σ H ρ M _ Xu _ E w e q (λx M1 ι1 v H1 l1 w1 r1 q1=>hb.h A ι1 σ H1 ρ M1 _ Xu _ E w1 (e.le l1) q1 (λy M2 ι2 v2 H2 l2 w2 r2 ⟨a,b,e1,e2,q2⟩ =>
  h A ι2 H2 M2 v v2 a b _ Q w2 ((r1.le l2).sn w2 e1) (r2.sn w2 e2) q2 λt ι3 z H3 l3 w3 r3 q3=>k _ M2 ι3 z H3 ((l1.trans l2).trans l3) w3 (.p r3) q3)
  λnm p C d M' ι' H' hm hp l' w' x'=>kx nm p C d M' ι' H' hm hp (l1.trans l') w' x') kx⟩
def uIfX(ut:UT)(ua ub:UXe):UXe:=λρ M Q X=>ut ρ M λb M1=>if b=true then ua ρ M1 Q X else ub ρ M1 Q X
def uNilX:UXa:=λ_ M Q _=>Q [] M
def uConsX(ux:UXe)(ul:UXa):UXa:=λρ M Q X=>ux ρ M (λx M1=>ul ρ M1 (λxs M2=>Q (x::xs) M2) X) X
theorem Zk:ZXa mg 0 tNilX uNilX:=⟨λA ι σ H ρ M Qu Xu Q E w e q k _=>k [] M ι [] H (.refl _ _) w rfl .nil q⟩
theorem vW(ha:ZXe mg tx ux)(hl:ZXa mg n tl ul):ZXa mg (n+1) (tConsX tx tl) (uConsX ux ul):=⟨λA ι σ H ρ M Qu Xu Q E w e q k kx =>
 ha.h A ι σ H ρ M _ Xu _ E w e q (λx M1 ι1 v H1 l1 w1 r1 q1=>hl.h A ι1 σ H1 ρ M1 _ Xu _ E w1 (e.le l1) q1 (λxs M2 ι2 vs H2 l2 w2 hn r2 q2 =>
  k (x::xs) M2 ι2 (v::vs) H2 (l1.trans l2) w2 (by rw[Um,hn]) (.cons (r1.le l2) r2) q2) λnm p C d M' ι' H' hm hp l' w' x'=>kx nm p C d M' ι' H' hm hp (l1.trans l') w' x') kx⟩
end
end L2
namespace L2
open PySem PySem.Spec PyProof.Rows PySem.W
section
theorem ObjOk.there(x:ObjOk P w H h a o):∃u,h.get? a=some u:=by
 cases o with
 |lst xs=>obtain⟨_,_,_,_,e⟩:=x; exact⟨_,e⟩
 |tup xs=>obtain⟨_,_,_,o,e,_⟩:=x; exact⟨_,e⟩
 |dK kvs=>obtain⟨_,_,_,_,o,_,_,e,_⟩:=x; exact⟨_,e⟩
 |dT kvs=>obtain⟨_,_,_,_,o,_,_,e,_⟩:=x; exact⟨_,e⟩
 |set S n=>obtain⟨o,_,_,_,e,_⟩:=x; exact⟨_,e⟩
 |ins C dx fs=>obtain⟨_,_,_,e,_⟩:=x; exact⟨_,e⟩
 |own y=>obtain⟨_,e⟩:=x; exact⟨_,e⟩
 |xd fs=>obtain⟨_,⟨_,_,_,e,_⟩,_⟩:=x; exact⟨_,e⟩
 |rng lo hi=>obtain⟨_,_,_,e⟩:=x; exact⟨_,e⟩
 |frz ob u=>obtain⟨e,_⟩:=x; exact⟨_,e⟩
 |tbl ps=>exact⟨_,x⟩
 |met f y=>exact⟨_,x⟩
 |ext φ=>obtain⟨_,⟨_,e⟩,_⟩:=x; exact⟨_,e⟩
end
section
theorem Paired.revP{α β:Type}{F:α->β->Prop}{l:List α}{m:List β}(r:Paired F l m):Paired F l.reverse m.reverse:=by
 induction r with
 |nil=>exact .nil
 |cons a b ih =>
  rw[Dy,Dy];exact Paired.app ih (.cons a .nil)
def sReverse:List U->List U->(U->List U->Prop)->Prop:=λus ws Q=>ws=[]/\Q (.p .non) us.reverse
theorem ji:MeL Kv sReverse:=λA ι H M k a xs ys us ws Qs Q w ek h1 h2 rx ry ⟨ew,q⟩ kk=>by
 subst ew;cases ry;exact⟨a,xs,rfl,rfl,h1,kk _ _ _ _ (Paired.revP rx) (.p .non) q⟩
end
section
theorem rel_key(h:(vm P w).is k v=true):RelV (kV k) v:=by
 rcases qU h with⟨i,t,rfl,rfl⟩|⟨x,t,rfl,rfl⟩|⟨rfl,rfl⟩
 ·exact⟨t,rfl⟩
 ·exact⟨t,rfl⟩
 ·rfl
theorem Inv.freeze(I:Inv X pins σ H s)(e:H d=some (.dK kvs)):∃o,s.heap.get? d=some o/\Inv X pins σ (upd H d (.frz o (.dK kvs))) s:=by
 obtain⟨o,ho⟩:=(I.hok d _ e).there;have ne:∀{b:Addr}{u:HO},H b=some u->(∀k,u ≠ .dK k)->b≠d:=λhb hu z=>by
  subst z;rw[e] at hb;cases hb;exact hu _ rfl
 refine⟨o,ho,I.step (ch:=[]) (h':=s.heap) (g':=s.gens) (t':=s.toks) (d':=s.drawn) (λb hb=>nomatch hb) (λb o _ _ _ e _=>e) (λb o _ _ _ e _=>⟨o.slots,e⟩) (λb o' _ _ z=>?_) (λb o _ e=>⟨o,e⟩) (λb xs q=>?_) (λb o u q=>?_) (λb ps q=>⟨#[], ?_⟩) (λm h=>h) (λa u q=>?_) I.bare⟩
 ·rw[upd_ne λz'=>by rw[z',e] at z; cases z]; exact z
 ·rw[upd_ne (ne q λk z=>by cases z)]; exact q
 ·rw[upd_ne (ne q λk z=>by cases z)]; exact q
 ·rw[upd_ne (ne q λk z=>by cases z)]; simpa using q
 ·have own:∀c x,H c=some (.own x)->upd H d (.frz o (.dK kvs)) c=some (.own x):=λc x q=>by rw[upd_ne (ne q λk z=>by cases z)]; exact q
  have tup:∀c xs,H c=some (.tup xs)->upd H d (.frz o (.dK kvs)) c=some (.tup xs):=λc x q=>by rw[upd_ne (ne q λk z=>by cases z)]; exact q
  by_cases ha:a=d
  ·subst ha
   rw[upd_same] at q;cases q;exact⟨ho,(I.hok a _ e).stay (λb u _ q=>q) (λc q=>own c _ q) λc xs q=>tup c xs q⟩
  ·rw[upd_ne ha] at q
   exact(I.hok a u q).stay (λb u _ q=>q) (λc q=>own c _ q) λc xs q=>tup c xs q
def Itd(vals:Bool)(d:Addr)(o:Obj)(kvs:List (Key×V)):It :=
 ⟨λi H=>H d=some (.frz o (.dK kvs))/\i<kvs.length,λi H x H'=>H'=H/\∃k v,kvs[i]?=some (k,v)/\x=(if vals then v else kV k),λi H=>H d=some (.frz o (.dK kvs))/\kvs.length<=i⟩
theorem qaf(hep:o.data=.dict es ep)(I:Inv X pins σ H s)(h:H d=some (.frz o (.dK kvs))):∃vs,KV kvs vs/\s.heap.DictAt (vm X.prog X.w) d vs ep:=by
 obtain⟨ho,_,_,vs,rel,o',es',ep',ho',hx,hd,r⟩:=I.hok d _ h;rw[ho] at ho';cases ho';rw[hep] at hd;cases hd;exact⟨vs,rel,o,es,ho,hx,hep,r⟩
theorem Y7(hne:d≠it)(hep:o.data=.dict es ep):Turn P w Ξ tg (Itd false d o kvs) [it] it (λi h=>h.IsKeyIter it d i kvs.length ep) where
 mem:=by simp
 obj:=λi h st b hb=>by
  have e:b=it:=by simpa using hb
  subst e;obtain⟨o,e,c,d⟩:=st;exact⟨o,e,λv z=>by rw[d] at z; cases z⟩
 keep:=λi h h' st k=>st.at λo e=>k it (by simp) o e
 item:=by
  intro X hP hw hK hc i pins s σ H E I hf st hg;subst hP hw hK;obtain⟨hH,hi⟩:=hg;obtain⟨vs,rel,dd⟩:=qaf hep I hH;have hl:kvs.length=vs.length:=KV.length rel;rw[hl] at st;obtain⟨f0,f1,f2,f3,f4,f5⟩:=hf it (by simp);have hv:vs[i]?=some (vs[i]'(by lia)):=Uf _;obtain⟨⟨k,v⟩,hk,hkv⟩:∃p,kvs[i]?=some p/\p.1=(vs[i]'(by lia)).1:=by
   have hk:kvs[i]?=some (kvs[i]'hi):=Uf _;exact⟨_,hk,(Paired.get2 rel hk hv).1⟩
  refine wpAny_pyNext_dict_item st dd (k:=(vs[i]'(by lia)).1) (v:=(vs[i]'(by lia)).2) hv λkey h' hkey st' hs'=>?_;have I1:Inv X pins σ H { s with heap:=h' }:=I.turned (t':=s.toks) (λb o hb e=>hs'.extBut b o hb e) f0 f1 f3 f4 f5;rw[<-hl] at st';obtain⟨o,e,c,d⟩:=id st';exact⟨key,rfl,go_of (s:={ s with heap:=h' }) e c d (by decide) ⟨kV k,H,I1,by rw[show k=_ from hkv]; exact rel_key hkey,⟨rfl,k,v,hk,rfl⟩,st',λb hb=>(hf b hb).1⟩⟩
 done:=by
  intro X hP hw hK hc i pins s σ H E I hf st hg;subst hP hw hK;obtain⟨hH,hi⟩:=hg;obtain⟨vs,rel,dd⟩:=qaf hep I hH;have hl:kvs.length=vs.length:=KV.length rel;rw[hl] at st;obtain⟨f0,f1,f2,f3,f4,f5⟩:=hf it (by simp);exact wpAny_pyNext_dict_end (I.ok.hd hc) st dd (by first|lia|(simp; lia)) λh' eb=>⟨rfl,I.turned (t':=s.toks) (λb o hb e=>eb b o hb e) f0 f1 f3 f4 f5⟩
 self:=λ_ _ _ _ _ st h=>wpAny_pyIter_keyiter st h
end
section
def iDict(tl:TE):TI:=λσ H R=>tl σ H λx H1=>∃d,x=.ref d/\((∃kvs,H1 d=some (.dK kvs)/\∀o,R (Itd false d o kvs) (upd H1 d (.frz o (.dK kvs))))\/∃o kvs,H1 d=some (.frz o (.dK kvs))/\R (Itd false d o kvs) H1)
theorem qi_dict(hl:QE X l tl):QI X tg l (iDict tl):=⟨by
 intro pins s σ H R I h;refine thn (hl.h pins s σ H _ I h) λv s1 ⟨x,H1,I1,r1,q1⟩=>?_;obtain⟨d,e,q⟩:=q1;subst e;cases r1;have go:∀(o:Obj)(kvs:List (Key×V))(H2:Hp),Inv X pins σ H2 s1->H2 d=some (.frz o (.dK kvs))->R (Itd false d o kvs) H2->wpAny (model X.prog X.w) X.A (pyIter (.ref d)) (PIE X pins σ tg R) X.xe s1:=λo kvs H2 I2 hH q=>by
  obtain⟨ho,hz,hsys,vs,rel,o',es,ep,ho',hx,hd,r⟩:=id (I2.hok d _ hH);rw[ho] at ho';cases ho';obtain⟨vs',rel',dd⟩:=qaf hd I2 hH;have hl.h:kvs.length=vs'.length:=KV.length rel';refine wpAny_pyIter_dict hsys dd ?_;rw[<-hl.h];refine⟨s1.heap.objs.size, [s1.heap.objs.size],_,_,H2,rfl,I2.kept (t':=s1.toks) λb o e=>Heap.get?_push_of_some _ e,Y7 (UH (Heap.lt_size ho)) hd,⟨_,Heap.get?_push_size _ rfl,rfl,rfl⟩,λb hb=>?_,q⟩;have e:b=s1.heap.objs.size:=by simpa using hb
  subst e;exact I2.fpOk (Uk _) (I2.hok.fresh (Uk _))
 rcases q with⟨kvs,hH,q⟩|⟨o,kvs,hH,q⟩
 ·obtain⟨o,ho,I2⟩:=I1.freeze hH
  exact go o kvs _ I2 upd_same (q o)
 ·exact go o kvs H1 I1 hH q⟩
end
section
def itD(vals:Bool)(k:Nat)(kvs:List (Key×U))(ob:Obj)(gs:List (Key×V)):UIt:=⟨kvs.length,λM=>M[k]?=some (.dF kvs ob gs),λi z=>∃key v,kvs[i]?=some (key,v)/\z=(if vals then v else keyU key)⟩
def DWalkS(vals:Bool)(M:MM)(x:U)(Q:UIt->MM->Prop):Prop:=∃k kvs,x=.m k/\((M[k]?=some (.dK kvs)/\∀ob gs,Q (itD vals k kvs ob gs) (M.set k (.dF kvs ob gs)))\/∃ob gs,M[k]?=some (.dF kvs ob gs)/\Q (itD vals k kvs ob gs) M)
def uDict(vals:Bool)(ua:UE):UI:=λρ M Q=>ua ρ M λx M1=>DWalkS vals M1 x Q
theorem keyU_rep(k:Key):RepU A ι H (kV k) (keyU k):=by
 cases k with
 |inl i=>exact .p (.int i)
 |inr x=>exact .p (.str x)
 |non=>exact .p .non
theorem G0(ek:ι1[kk]?=some a):ItR A ι1 H1 (Itd vals a ob gs) (itD vals kk kvs ob gs):=by
 intro A' ι2 H2 M2 i l w2 ok;have ek2:ι2[kk]?=some a:=by
  obtain⟨nn,rfl⟩:=l.ext;rw[Ug (Ue.mp ek).1]; exact ek
 obtain⟨h3,h4⟩:=w2.obj kk a _ ek2 ok;have hl:=h4.len;refine⟨λhi=>⟨⟨h3,by rw[hl]; exact hi⟩,λx H' y=>?_⟩,λhi=>⟨h3,by rw[hl]; exact Rk hi.symm⟩⟩;obtain⟨rfl,key,v,hkv,rfl⟩:=y;obtain⟨⟨key',u⟩,hu,e1,ru⟩:=Paired.getL h4 hkv;have e1:key=key':=e1;subst e1;refine⟨_,⟨key,u,hu,rfl⟩, .refl _ _,w2, ?_⟩;cases vals with
 |true=>exact ru
 |false=>exact keyU_rep key
theorem li_dictB(hw:∀σ H R,(ta σ H λx H1=>∃d,x=.ref d/\((∃kvs,H1 d=some (.dK kvs)/\∀o,R (Itd vals d o kvs) (upd H1 d (.frz o (.dK kvs))))\/∃o kvs,H1 d=some (.frz o (.dK kvs))/\R (Itd vals d o kvs) H1))->wi σ H R)(ha:LE ta ua):LI wi (uDict vals ua):=λA ι σ H ρ M Qu R w e q k =>
 hw σ H R (ha A ι σ H ρ M _ _ w e q λx M1 ι1 v H1 l1 w1 r1 ⟨kk,kvs,ex,q1⟩=>by
  subst ex;cases r1 with
  |m ek =>
  rename_i a;have hm:=Ui ek;rcases q1 with⟨em,q1⟩|⟨ob,gs,em,q1⟩
  ·obtain⟨gs,h1,h2⟩:=w1.obj kk a _ ek em
   exact⟨a,rfl, .inl ⟨gs,h1,λo=>k _ _ ι1 _ _ (l1.trans (.put hm)) (w1.put (mo:=.dF kvs o gs) ek ⟨upd_same,Paired.mapP h2 λ_ _ q=>⟨q.1,q.2.le (.put hm)⟩⟩) (G0 ek) (q1 o gs)⟩⟩
  ·obtain⟨h1,h2⟩:=w1.obj kk a _ ek em
   exact⟨a,rfl, .inr ⟨ob,gs,h1,k _ _ ι1 _ _ l1 w1 (G0 ek) q1⟩⟩)
theorem ci_dict(ha:ZE ta ua):ZI (iDict ta) (uDict false ua):=⟨li_dictB (λ_ _ _ h=>h) ha.h⟩
theorem DGet.f{k:Key}(e:H a=some (.frz o (.dK kvs))):DGet H a (kV k) (valV kvs k):=.inl ⟨kvs,k, .inr ⟨o,e⟩,rfl,rfl⟩
def DGetFS(M:MM)(x y:U)(Q:UK):Prop:=∃k kvs ob gs key w,x=.m k/\M[k]?=some (.dF kvs ob gs)/\y=keyU key/\valU kvs key=some w/\Q w M
def uDGetF(ua ub:UE):UE:=λρ M Q=>ua ρ M λx M1=>ub ρ M1 λy M2=>DGetFS M2 x y Q
theorem ce_dgetF(ha:ZE ta ua)(hb:ZE tb ub):ZE (Wf ta tb) (uDGetF ua ub):=⟨λA ι σ H ρ M Qu Q w e q k =>
 ha.h A ι σ H ρ M _ _ w e q λx M1 ι1 v H1 l1 w1 r1 q1=>hb.h A ι1 σ H1 ρ M1 _ _ w1 (e.le l1) q1 λy M2 ι2 v2 H2 l2 w2 r2 ⟨kk,kvs,ob,gs,key,z,ex,em,ey,ez,q2⟩=>by
  subst ex ey;have r1':=r1.le l2;cases r1' with
  |m ek =>
  obtain⟨h1,h2⟩:=w2.obj kk _ _ ek em;have hv:=XT (k:=key) h2;rw[ez] at hv;obtain⟨x',hx,rx⟩:=hv;refine⟨_,x',rfl, ?_,k z M2 ι2 x' H2 (l1.trans l2) w2 rx q2⟩;have:=DGet.f (k:=key) h1;rw[hx] at this;rw[QR r2];exact this⟩
end
section
def min3(i j k:Int):Int:=if j<i then(if k<j then k else j) else(if k<i then k else i)
theorem min3_le:min3 i j k<=i/\min3 i j k<=j/\min3 i j k<=k:=by unfold min3; split<;>split<;>lia
theorem min3_or:min3 i j k=i\/min3 i j k=j\/min3 i j k=k:=by unfold min3; split<;>split<;>simp
theorem qaO(hc:X.calm=true):jv X (.builtin "min") (λxs H Q=>∃i j k,xs=[.int i, .int j, .int k]/\Q (.int (min3 i j k)) H):=by
 intro pins s σ H xs us Q I r h;obtain⟨i,j,k,rfl,q⟩:=h;cases r with
 |cons r1 r =>
 obtain⟨u,w',rfl,⟨t,rfl⟩,⟨t',rfl⟩⟩:=vals2 r;obtain⟨t0,rfl⟩:=r1;refine min_three_ints (I.ok.hd hc) λh' tk kp=>⟨_,H,I.kept kp, ?_,q⟩;unfold min3;by_cases h1:j<i
 ·rw[if_pos h1,if_pos h1]
  by_cases h2:k<j
  ·rw[if_pos h2,if_pos h2]; exact⟨_,rfl⟩
  ·rw[if_neg h2,if_neg h2]; exact⟨_,rfl⟩
 ·rw[if_neg h1,if_neg h1]
  by_cases h2:k<i
  ·rw[if_pos h2,if_pos h2]; exact⟨_,rfl⟩
  ·rw[if_neg h2,if_neg h2]; exact⟨_,rfl⟩
def sMin3:List T->(T->Prop)->Prop:=λts Q=>∃i j k,ts=[.int i, .int j, .int k]/\Q (.int (min3 i j k))
theorem cbl_min3:CbL (λxs H Q=>∃i j k,xs=[.int i, .int j, .int k]/\Q (.int (min3 i j k)) H) sMin3:=λA ι H M vs ts Qs Q w r ⟨i,j,k0,e,q⟩ k=>by
 subst e;cases r with
 |cons r0 r =>
 obtain⟨v,z,ev,r1,r2⟩:=pv2 r;subst ev;cases r0.int_inv; cases r1.int_inv; cases r2.int_inv;exact⟨i,j,k0,rfl,k _ ι _ H (.refl _ _) w (.int _) q⟩
theorem rd_min3:sMin3 [.int i, .int j, .int k] Q=Q (.int (min3 i j k)):=propext ⟨λ⟨_,_,_,e,h⟩=>by cases e; exact h,λh=>⟨i,j,k,rfl,h⟩⟩
end
section
def CatN(x y:U)(M:MM)(Q:UK):Prop:=∃us vs,qD M x=some us/\qD M y=some vs/\us.length+vs.length<=sizeLine/\Q (.m M.length) (M++[.lst (us++vs)])
end
end L2
namespace PySem
theorem Paired.drl{α β:Type}{F:α->β->Prop}:∀{l:List α}{m:List β},Paired F l m->Paired F l.dropLast m.dropLast
 |_,_, .nil=>.nil
 |_,_, .cons _ .nil=>.nil
 |_,_, .cons r (.cons s t)=>.cons r (Paired.drl (.cons s t))
end PySem
namespace L2
open PySem PySem.Spec PyProof.Rows
def sPop:List U->List U->(U->List U->Prop)->Prop:=λus ws Q=>∃y:U,ws=[]/\us[us.length-1]?=some y/\Q y us.dropLast
theorem mel_pop:MeL rPop sPop:=λA ι H M k a xs ys us ws Qs Q w ek h1 h2 rx ry ⟨y,ew,hy,q⟩ kk=>by
 subst ew;cases ry;obtain⟨x,hx,rxy⟩:=Paired.getR rx hy;have hl:=rx.len;exact⟨a,xs,x,rfl,rfl,h1,by rw[hl]; exact hx,kk _ _ _ _ rx.drl rxy q⟩
def sExtend:List U->List U->(U->List U->Prop)->Prop:=λus ws Q=>∃ts:List T,ws=[.p (.lst ts)]/\us.length+ts.length<=sizeLine/\Q (.p .non) (us++ts.map U.p)
theorem ke:MeL WE sExtend:=λA ι H M k a xs ys us ws Qs Q w ek h1 h2 rx ry ⟨ts,ew,hz,q⟩ kk=>by
 subst ew;cases ry with
 |cons r ry =>
 cases ry;cases r with
 |p r =>
 obtain⟨b,zs,rfl,_,hb,hr⟩:=r.lst_inv;have hl:=rx.len;have hl2:=hr.len;exact⟨a,b,xs,zs,rfl,rfl,h1,hb,by lia,kk _ _ _ _ (rx.app (RepTs.ups hr)) (.p .non) q⟩
theorem QC(ha:QE X o ta)(hv:QE X value tv):QS X (.AugAssign (.Attribute o f tpos) .Add value pos) (Jn X.K ta tv rAdd f):=⟨by
 intro pins s σ H D I h;refine wpAny_AugAssign_AttributeAny (thn (ha.h pins s σ H _ I h) λov s1 ⟨x,H1,I1,rx,a,C,dx,fs,v,ex,ea,c,n,l,q⟩=>?_);subst ex;obtain rfl:ov=Value.ref a:=rx;refine Vl I1 ea c n l λu s2 I2 ru=>thn (hv.h pins s2 σ H1 _ I2 q) λw3 s3 ⟨y,H2,I3,ry,q3⟩=>thn (in_add pins s3 σ H2 v y u w3 _ I3 ru ry q3) λw4 s4 ⟨z,H3,I4,rz,dx',fs',ea',l',q4⟩=>?_;exact Ve I4 ea' c n l' rz λs5 I5=>⟨σ,_,I5,q4⟩⟩
def Qe(Ξ:PySem.W.Frag)(ua uv:UE)(f:Str):US:=λE ρ M=>ua ρ M λx M1=>∃k C fs i,x=.m k/\M1[k]?=some (.ins C fs)/\Cls Ξ C/\NoAttr Ξ C f/\fs.lookup f=some (.p (.int i)) /\
 uv ρ M1 λy M2=>∃j fs',y=.p (.int j)/\M2[k]?=some (.ins C fs')/\fs'.length<1000/\E.nx ρ (M2.set k (.ins C (QF f (.p (.int (i+j))) fs')))
theorem QZ(ha:ZE ta ua)(hv:ZE tv uv):ZS (Jn Ξ ta tv rAdd f) (Qe Ξ ua uv f):=⟨λA ι σ H ρ M D E w e r q =>
 ha.h A ι σ H ρ M _ _ w e q λx M1 ι1 vx H1 l1 w1 r1 ⟨kk,C,fs,i,ex,em,c,na,lk,q1⟩=>by
  subst ex;cases r1 with
  |m ek =>
  rename_i a;obtain⟨dx,gs,h1,h2,h3,h4⟩:=w1.obj kk _ _ ek em;obtain⟨v,hv1,rv⟩:=KH h4 lk;cases rv with
  |p rv =>
  cases rv;refine⟨a,C,dx,gs, .int i,rfl,h1,c,na,hv1,hv.h A ι1 σ H1 ρ M1 _ _ w1 (e.le l1) q1 λy M2 ι2 vy H2 l2 w2 r2 ⟨j,fs',ey,em2,hz,q2⟩=>?_⟩;subst ey;cases r2 with
  |p r2 =>
  cases r2;have ek2:ι2[kk]?=some a:=by
   obtain⟨nn,rfl,_⟩:=l2.ext;rw[Ug (Ue.mp ek).1]; exact ek
  obtain⟨dx',gs',k1,k2,k3,k4⟩:=w2.obj kk _ _ ek2 em2;have hmem:=Ui ek2;have l4:=l1.trans l2;have hne:dx'≠a:=λz=>by rw[z,k1] at k2; cases k2
  exact⟨i,j,rfl,rfl,dx',gs',k1,by rw[k4.len]; exact hz,r.nx ι2 σ _ ρ _ (l4.trans (.put hmem)) (w2.put (mo:=.ins C (QF f (.p (.int (i+j))) fs')) ek2 ⟨dx',_,upd_same,by rw[upd_ne hne]; exact k2,k3,Paired.mapP (Ky k4 (.p (.int _))) λ_ _ q=>⟨q.1,q.2.le (.put hmem)⟩⟩) (e.le (l4.trans (.put hmem))) q2⟩⟩
def U.sh(n:Nat):U->U
 |.m k=>.m (n+k)
 |u=>u
def MO.sh(n:Nat):MO->MO
 |.lst us=>.lst (us.map (U.sh n))
 |.tup us=>.tup (us.map (U.sh n))
 |.ins C fs=>.ins C (fs.map λf=>(f.1,f.2.sh n))
 |.dK kvs=>.dK (kvs.map λf=>(f.1,f.2.sh n))
 |.dF kvs ob gs=>.dF (kvs.map λf=>(f.1,f.2.sh n)) ob gs
 |.tab a p q=>.tab a p q
def U.flat:U->Prop
 |.m _=>True
 |.p t=>∃x,vt t=some x
 |.x _ _ _=>False
def MO.flat:MO->Prop
 |.lst us=>∀u∈us,u.flat
 |.tup us=>∀u∈us,u.flat
 |.ins _ _=>False
 |.dK kvs=>∀f∈kvs,f.2.flat
 |.dF kvs _ _=>∀f∈kvs,f.2.flat
 |.tab _ _ _=>False
section
theorem RepU.sh(r:RepU A ι' H v u)(f:u.flat):RepU A (ι++ι') H v (u.sh ι.length):=by
 cases r with
 |p r =>
  obtain⟨x,hx⟩:=f;cases(RepV.of r).sc (y:=.non) hx;exact .p (kq hx).rep
 |m e=>exact .m (by rw[Uo (DG _ _),UC]; exact e)
 |x h=>exact f.elim
theorem RepUs.sh:∀{vs:List V},RepUs A ι' H vs us->(∀u∈us,u.flat)->RepUs A (ι++ι') H vs (us.map (U.sh ι.length)):=by
 induction us with
 |nil=>intro vs r _; cases r; exact .nil
 |cons u us ih =>
  intro vs r f;cases r with
  |cons a b=>exact .cons (a.sh (f u (.head _))) (ih b λx hx=>f x (.tail _ hx))
theorem RepK.sh:∀{gs:List (Key×V)},Paired (λ(g:Key×V) (f:Key×U)=>g.1=f.1/\RepU A ι' H g.2 f.2) gs kvs->(∀f∈kvs,f.2.flat)->Paired (λ(g:Key×V) (f:Key×U)=>g.1=f.1/\RepU A (ι++ι') H g.2 f.2) gs (kvs.map λf=>(f.1,f.2.sh ι.length)):=by
 induction kvs with
 |nil=>intro gs r _; cases r; exact .nil
 |cons u us ih =>
  intro gs r f;cases r with
  |cons a b=>exact .cons ⟨a.1,a.2.sh (f u (.head _))⟩ (ih b λx hx=>f x (.tail _ hx))
theorem objR_sh(r:ObjR A ι' H a o)(f:o.flat):ObjR A (ι++ι') H a (o.sh ι.length):=by
 cases o with
 |lst us=>obtain⟨vs,e,r⟩:=r; exact⟨vs,e,RepUs.sh r f⟩
 |tup us=>obtain⟨vs,e,r⟩:=r; exact⟨vs,e,RepUs.sh r f⟩
 |ins C fs=>exact f.elim
 |dK kvs=>obtain⟨gs,e,r⟩:=r; exact⟨gs,e,RepK.sh r f⟩
 |dF kvs ob gs=>obtain⟨e,r⟩:=r; exact⟨e,RepK.sh r f⟩
 |tab=>exact f.elim
theorem Gw(l:Le ι H ι' H')(all:∀x o,H x=some o->H' x=some o)(new:∀x∈ι',x∉ι->H x=none)(r:ObjR A ι H a o):ObjR A ι' H' a o:=by
 cases o with
 |lst us=>obtain⟨vs,e,r⟩:=r; exact⟨vs,all _ _ e,RepUs.le l r⟩
 |tup us=>obtain⟨vs,e,r⟩:=r; exact⟨vs,all _ _ e,RepUs.le l r⟩
 |ins C fs =>
  obtain⟨dx,gs,e,e2,e3,r⟩:=r;exact⟨dx,gs,all _ _ e,all _ _ e2,(λz=>by have:=new dx z e3; rw[e2] at this; cases this),Paired.mapP r λ_ _ q=>⟨q.1,q.2.le l⟩⟩
 |dK kvs=>obtain⟨gs,e,r⟩:=r; exact⟨gs,all _ _ e,Paired.mapP r λ_ _ q=>⟨q.1,q.2.le l⟩⟩
 |dF kvs ob gs=>obtain⟨e,r⟩:=r; exact⟨all _ _ e,Paired.mapP r λ_ _ q=>⟨q.1,q.2.le l⟩⟩
 |tab=>obtain⟨ps,e,t,z⟩:=r; exact⟨ps,all _ _ e,t,z.imp id λ⟨c,h1,h2,h3⟩=>⟨c,h1,all _ _ h2,λy=>by have:=new c y h3; rw[h2] at this; cases this⟩⟩
theorem Gv(r:ObjR A ι H a o):H a≠none:=by
 cases o with
 |lst us=>obtain⟨vs,e,r⟩:=r; rw[e]; simp
 |tup us=>obtain⟨vs,e,r⟩:=r; rw[e]; simp
 |ins C fs=>obtain⟨dx,gs,e,r⟩:=r; rw[e]; simp
 |dK kvs=>obtain⟨gs,e,r⟩:=r; rw[e]; simp
 |dF kvs ob gs=>obtain⟨e,r⟩:=r; rw[e]; simp
 |tab=>obtain⟨ps,e,r⟩:=r; rw[e]; simp
def Y5(G:List U->MM->UK->Prop)(ul:UA):UE:=λρ M Q=>ul ρ M λus M1=>∃ts,frzs (frzN 6 M1) us=some ts/\G (ts.map U.p) [] λu M'=>u.flat/\(∀o∈M',o.flat)/\Q (u.sh M1.length) (M1++M'.map (MO.sh M1.length))
theorem le_callN(ha:LA n tl ul):LE (xi (spU G) [] E tl) (Y5 G ul):=λA ι σ H ρ M Qu Q w e q k =>
 ha A ι σ H ρ M _ _ w e q λus M1 ι1 vs H1 l1 w1 hn r1 ⟨ts,et,q1⟩=>by
  rw[UZ];have wd0:Wd A [] H1 []:=⟨D1,rfl,w1.dom,by simp,by simp⟩;have rt:=kR r1 (λv u t r e=>zQ w1 r e) et;refine⟨A, [], [],ts.map U.p,_,wd0,RepTs.ups (Paired.mapP rt λ_ _ q=>q.mono λx o hx ex=>⟨ex,λz=>z.elim hx (by simp)⟩),q1,λu M' ι' v H' l w' r' ⟨uf,mf,q2⟩=>?_⟩;have all:∀x o,H1 x=some o->H' x=some o:=λx o e=>l.fr x o e (by simp);have new:∀x∈ι',H1 x=none:=λx hx=>by
   obtain⟨nn,rfl,hh⟩:=l.ext;exact hh x (by simpa using hx)
  have le:Le ι1 H1 (ι1++ι') H':=⟨⟨ι',rfl,new⟩,λx o e _=>all x o e,l.al⟩;have hl1:=w1.len;have hl2:=w'.len;refine k _ _ (ι1++ι') v H' (l1.trans le) ⟨?_,by rw[Uj,Uj,Uh,hl1,hl2],w'.dom,λx hx=>?_,λi a o hi ho=>?_⟩ (by rw[<-hl1]; exact r'.sh uf) q2
  ·rw[Dn]
   refine⟨w1.nd,w'.nd,λa ha b hb z=>?_⟩;subst z;obtain⟨i,hi⟩:=Dv ha;have hil:=(Ue.mp hi).1;exact Gv (w1.obj i a _ hi (Uf (by lia))) (new a hb)
  ·rcases Uw.mp hx with hx|hx
   ·exact w1.na x hx
   ·exact w'.na x hx
  ·by_cases h:i<ι1.length
   ·rw[Ug h] at hi
    rw[Ug (by lia)] at ho;refine Gw le all (λx hx hn=>?_) (w1.obj i a o hi ho);rcases Uw.mp hx with hx|hx
    ·exact absurd hx hn
    ·exact new x hx
   ·rw[Uo (by lia)] at hi
    rw[Uo (by lia),Uz, <-hl1] at ho;obtain⟨o',ho',rfl⟩:=UY.mp ho;exact objR_sh (w'.obj _ a o' hi ho') (mf o' (Ui ho'))
theorem ce_callN(ha:ZA n tl ul):ZE (xi (spU G) [] E tl) (Y5 G ul):=⟨le_callN ha.h⟩
end
section
theorem vR(he:QE X.nox e te):QXe X e (tX0 te):=⟨λpins s σ H Q E k I h=>wpAny_mono (he.h pins s σ H Q (I.wish _) h) (λ_ _ ⟨v,H',I',r,q⟩=>⟨v,H',I'.unwish,r,q⟩) λ_ _ z=>z.elim⟩
theorem Qr(ho:OpR X.nox (binaryOp op) r)(ha:QXe X a tx)(hb:QXe X b tx'):QXe X (.BinOp a op b pos) (tOpX r tx tx'):=⟨λpins s σ H Q E k I h=>by
 refine wpAny_BinOp (thn (ha.h pins s σ H _ E k I h) λv s1 ⟨x,H1,I1,r1,q1⟩=>thn (hb.h pins s1 σ H1 _ E k I1 q1) λu s2 ⟨y,H2,I2,r2,q2⟩=>?_);exact wpAny_mono (ho pins s2 σ H2 x y v u Q (I2.wish _) r1 r2 q2) (λ_ _ ⟨v,H',I',r,q⟩=>⟨v,H',I'.unwish,r,q⟩) λ_ _ z=>z.elim⟩
theorem qxe_ix(hr:IxR X.nox r)(ha:QXe X a tx)(hb:QXe X b tx')(hs:Ka b):QXe X (.Subscript a b pos) (tOpX r tx tx'):=⟨λpins s σ H Q E k I h=>by
 refine Subscript_ (thn (ha.h pins s σ H _ E k I h) λv s1 ⟨x,H1,I1,r1,q1⟩=>thn (hb.h pins s1 σ H1 _ E k I1 q1) λu s2 ⟨y,H2,I2,r2,q2⟩=>?_);exact wpAny_mono (hr a b pins s2 σ H2 x y v u Q (I2.wish _) r1 r2 q2 (hs _ _)) (λ_ _ ⟨v,H',I',r,q⟩=>⟨v,H',I'.unwish,r,q⟩) λ_ _ z=>z.elim⟩
def tAsgT(te to:TE)(tx:TX)(t:TSet)(mg:Str->Option Value):TS:=λD σ H=>te σ H λv H0=>to σ H0 λo H1=>tx σ H1 (λi H2=>t o i v H2 λH3=>D.nx σ H3) (EX mg D σ)
theorem WH(he:QE X.nox e te)(ho:QE X.nox o to)(hi:QXe X i tx)(ht:PSet X.nox t)(ha:∀v,assign (.Subscript o i pos') X.env v=(do
   let ov <-holding [v] (eval o X.env);let iv <-holding [v,ov] (eval i X.env)
   standAt pos'
   holding [v,ov,iv] (setItem ov iv v)
   release [v,ov,iv] []):=by intro _; rfl)(hs:swapsWithSole [.Subscript o i pos'] e pos.line X.env=pure false:=by rfl)(hw:swappedStores [.Subscript o i pos'] e X.env=pure none:=by rfl)(h1:(assignEach [.Subscript o i pos'] X.env).map (·.2)=[assign (.Subscript o i pos') X.env]:=by rfl) :
  QX r X (.Assign [.Subscript o i pos'] e pos) (tAsgT te to tx t X.mg):=⟨λpins s σ H D k I h=>by
 refine wpAny_Assign_stores ((vR he).h pins s σ H _ _ (k.1 σ) I h |> λz=>thn z λv s1 ⟨x,H1,I1,r1,q1⟩=>?_) hs hw;rw[h1];show wpAny _ _ (assign (.Subscript o i pos') X.env v) _ _ _;rw[ha];refine wpAny_bind (wpAny_holding (thn ((vR ho).h pins s1 σ H1 _ _ (k.1 σ) I1 q1) λov s2 ⟨y,H2,I2,r2,q2⟩=>?_));refine wpAny_bind (wpAny_holding (thn (hi.h pins s2 σ H2 _ _ (k.1 σ) I2 q2) λiv s3 ⟨z,H3,I3,r3,q3⟩=>?_));refine wpAny_bind (wpAny_standAt (wpAny_bind (wpAny_holding (wpAny_mono (ht pins s3 σ H3 y z x ov iv v _ (I3.wish _) r2 r3 r1 q3) (λ_ s4 ⟨H4,I4,q4⟩=>?_) λ_ _ z=>z.elim))));exact wpAny_release ⟨σ,H4,I4.unwish,q4⟩⟩
end
section
def uIxX(it:MM->U->Option (List U))(ua ub:UXe):UXe:=λρ M Q X=>ua ρ M (λx M1=>ub ρ M1 (λy M2=>IxS it M2 x y Q) X) X
theorem cx_ixL(ha:ZXe mg tx ux)(hb:ZXe mg ty uy):ZXe mg (tOpX (rIxL Ξ) tx ty) (uIxX qD ux uy):=⟨λA ι σ H ρ M Qu Xu Q E w e q k kx =>
 ha.h A ι σ H ρ M _ Xu _ E w e q (λx M1 ι1 v H1 l1 w1 r1 q1=>hb.h A ι1 σ H1 ρ M1 _ Xu _ E w1 (e.le l1) q1 (λy M2 ι2 v2 H2 l2 w2 r2 ⟨us,i,z,e1,e2,e3,q2⟩=>by
  subst e2;obtain⟨p,vs,rfl,h1,h2⟩:=vG w2 (r1.le l2) e1;obtain⟨x',h3,h4⟩:=JZ h2 e3;cases r2 with
  |p r=>cases r; exact⟨p,vs,i,x',rfl,rfl,SqL.of h1,h3,k z M2 ι2 x' H2 (l1.trans l2) w2 h4 q2⟩)
  λnm p C d M' ι' H' hm hp l' w' x'=>kx nm p C d M' ι' H' hm hp (l1.trans l') w' x') kx⟩
def uAsgT(ue uo:UE)(ux:UXe):US:=λE ρ M=>ue ρ M λv M0=>uo ρ M0 λo M1=>ux ρ M1 (λi M2=>SubS M2 o i v λM3=>E.nx ρ M3) λnm p M2=>E.bk (tagU nm p ρ) M2
theorem qaD(he:ZE te ue)(ho:ZE to uo)(hi:ZXe mg tx ux):ZS (tAsgT te to tx WD mg) (uAsgT ue uo ux):=⟨λA ι σ H ρ M D E w e r q =>
 he.h A ι σ H ρ M _ _ w e q λu M0 ι0 v H0 l0 w0 r0 q0=>ho.h A ι0 σ H0 ρ M0 _ _ w0 (e.le l0) q0 λo M1 ι1 v1 H1 l1 w1 r1 q1 =>
  hi.h A ι1 σ H1 ρ M1 _ _ _ _ w1 (e.le (l0.trans l1)) q1 (λi M2 ι2 v2 H2 l2 w2 r2 ⟨kk,us,z,j,eo,em,ei,ej,q2⟩=>by
   subst eo ei;cases r2 with
   |p r2 =>
   cases r2;have r1':=r1.le l2;cases r1' with
   |m ek =>
   obtain⟨vs,h1,h2⟩:=w2.obj kk _ _ ek em;have hm:=Ui ek;have l3:=((l0.trans l1).trans l2).trans (Le.put (o:=.lst (vs.set j v)) hm);refine⟨_,vs,z,j,rfl,rfl,h1,by rw[h2.len]; exact ej,r.nx ι2 σ _ ρ _ l3 (w2.put (mo:=.lst (us.set j u)) ek ⟨_,upd_same, ?_⟩) (e.le l3) q2⟩;exact RepUs.le (.put hm) (Paired.put (r0.le (l1.trans l2)) j h2)) λnm p C d M1' ι1' H1' hm hp l1' w1' q1'=>⟨nm,p,hm,hp,r.bk ι1' _ H1' _ M1' ((l0.trans l1).trans l1') w1' (jI (e.le ((l0.trans l1).trans l1'))) q1'⟩⟩
end
structure QXA(X:Cx)(es:List Expr)(t:TXa):Prop where
 h:∀pos pins s σ H Q E,Cmp X E σ->Inv X pins σ H s->t σ H Q E->wpAny (model X.prog X.w) X.A (spliced (backTo pos (starEach es X.env))) (AP X pins σ Q) X.xe s
section
theorem VW:QXA X [] tNilX:=⟨λpos pins s σ H Q E _ I h=>Calls.spliced_nil ⟨[],H,I, .nil,h⟩⟩
theorem Qw(ha:QXe X e tx)(hr:QXA X es tl)(hs:starEach (e::es) X.env=(false,eval e X.env)::starEach es X.env:=by rfl):QXA X (e::es) (tConsX tx tl):=⟨λpos pins s σ H Q E k I h=>by
 rw[hs];show wpAny _ _ (spliced ((false,eval e X.env)::backTo pos (starEach es X.env))) _ _ s;refine Calls.spliced_cons (thn (ha.h pins s σ H _ E k I h) λu s1 ⟨x,H1,I1,r1,q1⟩=>?_);exact thn (hr.h pos pins s1 σ H1 _ E k I1 q1) λus s2 ⟨xs,H2,I2,r2,q2⟩=>⟨x::xs,H2,I2, .cons r1 r2,q2⟩⟩
def tLstX(tl:TXa):TX:=λσ H Q E=>tl σ H (λxs H1=>xs.length<=sizeLine/\∀p,H1 p=none->Q (.ref p) (upd H1 p (.lst xs))) E
theorem Js(ha:QXA X es tl):QXe X (.List es pos) (tLstX tl):=⟨λpins s σ H Q E k I h=>by
 refine wpAny_List_spliced (thn (ha.h pos pins s σ H _ E k I h) λus s1 ⟨xs,H1,I1,r,z,q⟩=>⟨by rw[<-r.length]; exact z, ?_⟩);have hf:H1 s1.heap.objs.size=none:=I1.hok.fresh (Uk _);refine⟨.ref s1.heap.objs.size,upd H1 s1.heap.objs.size (.lst xs),I1.laid (t':=s1.toks) (λb u e=>Heap.get?_push_of_some _ e) (Uk _) ?_,rfl,q _ hf⟩;exact⟨z,us,0,r,Heap.get?_push_size _ rfl⟩⟩
def tLMX(r:V->List V->Hp->VK->Prop)(to:TE)(tl:TXa):TX:=λσ H Q E=>to σ H λx H1=>qaX x H1 (tl σ H1 (λvs H2=>r x vs H2 Q) E)
theorem qxe_lm{id:String}(slot:Slot "list" name id)(hty:typeOf (.builtin id)=pure (.type "method_descriptor"))(hm:MtR X.nox id r)(ho:QE X.nox o to)(ha:QXA X (e::es) tl)(hbase:attributeBase o name X.env (eval o X.env)=eval o X.env:=by rfl)(hfew:((backTo cpos (starEach (e::es) X.env)).all (λx => !x.1)&&(backToKw cpos (keywordEach [] X.env)).all (λx=>x.1.isSome)
   && decide ((e::es).length+([]:List Keyword).length+(if([]:List Keyword).isEmpty then 0 else 1)<30))=true:=by rfl)(hline:(apos.endLine==cpos.line)=true:=by rfl)(hs:starEach (e::es) X.env=(false,eval e X.env)::starEach es X.env:=by rfl)(hplain:(backTo cpos (starEach es X.env)).any (·.1)=false:=by rfl) :
  QXe X (.Call (.Attribute o name apos) (e::es) [] cpos) (tLMX r to tl):=⟨λpins s σ H Q E k I h=>by
 refine wpAny_Call_method_late hbase hfew hline rfl (wpAny_mono (ho.h pins s σ H _ (I.wish _) h) (λv s1 ⟨x,H1,I1,r1,p,xs,ex,hp,q1⟩=>?_) λ_ _ z=>z.elim);subst ex;have I1:=I1.unwish;obtain⟨h1,h2⟩:=Kk (T := "list") I1 r1 (.inl ⟨rfl,xs,SqL.of hp⟩);refine⟨"list", id,PySem.F.plainAttrs_list,slot,hty,h1,h2, ?_⟩;have hA:=ha.h cpos pins s1 σ H1 _ E k I1 q1;rw[hs] at hA ⊢;refine Calls.callWith_builtin (by show(false||(backTo cpos (starEach es X.env)).any (·.1))=false; rw[hplain]<;>rfl) (Calls.evalArgs_plain ?_);exact thn hA λus s2 ⟨vs,H2,I2,r2,q2⟩=>wpAny_mono (hm pins s2 σ H2 (.ref p) vs v us Q (I2.wish _) r1 r2 q2) (λ_ _ ⟨v,H',I',r,q⟩=>⟨v,H',I'.unwish,r,q⟩) λ_ _ z=>z.elim⟩
end
section
def uLstX(ul:UXa):UXe:=λρ M Q X=>ul ρ M (λus M1=>PurS us λts=>Q (.p (.lst ts)) M1) X
theorem qau(ha:ZXa mg n tl ul)(hn:n<=1000:=by decide):ZXe mg (tLstX tl) (uLstX ul):=⟨λA ι σ H ρ M Qu Xu Q E w e q k kx =>
 ha.h A ι σ H ρ M _ Xu _ E w e q (λus M1 ι1 vs H1 l1 w1 hl r1 ⟨ts,et,q1⟩=>by
  have r2:=r1;rw[zp et] at r2;exact⟨by rw[r1.len,hl]; exact U2 (qV hn),λp hp=>k _ M1 ι1 _ _ (l1.trans (.fresh hp)) (w1.fresh hp) (.p (zg w1 hp r2.pures)) q1⟩) kx⟩
def uCatX(ux uy:UXe):UXe:=λρ M Q X=>ux ρ M (λx M1=>uy ρ M1 (λy M2=>CatN x y M2 Q) X) X
theorem JU(ha:ZXe mg tx ux)(hb:ZXe mg ty uy):ZXe mg (tOpX rCat tx ty) (uCatX ux uy):=⟨λA ι σ H ρ M Qu Xu Q E w e q k kx =>
 ha.h A ι σ H ρ M _ Xu _ E w e q (λx M1 ι1 v H1 l1 w1 r1 q1=>hb.h A ι1 σ H1 ρ M1 _ Xu _ E w1 (e.le l1) q1 (λy M2 ι2 v2 H2 l2 w2 r2 ⟨us,vs,hx,hy,hz,q2⟩=>by
  obtain⟨p,xs,rfl,h1,h2⟩:=vG w2 (r1.le l2) hx;obtain⟨p2,ys,rfl,h3,h4⟩:=vG w2 r2 hy;exact⟨p,p2,xs,ys,rfl,rfl,h1,h3,by rw[h2.len,h4.len]; exact hz,λl hl=>k _ _ _ _ _ ((l1.trans l2).trans (.push hl)) (zL w2 hl (h2.app h4)).1 (zL w2 hl (h2.app h4)).2 q2⟩)
  λnm p C d M' ι' H' hm hp l' w' x'=>kx nm p C d M' ι' H' hm hp (l1.trans l') w' x') kx⟩
def MeX(s:List U->List U->(U->List U->Prop)->Prop)(ul:UXa)(ρ:UEnv)(M:MM)(o:U)(Q:UK)(X:UX):Prop:=∃k,o=.m k/\(∃zs,M[k]?=some (.lst zs))/\ul ρ M (λws M2=>∃us,M2[k]?=some (.lst us)/\s us ws λz us'=>Q z (M2.set k (.lst us'))) X
def uMeX(s:List U->List U->(U->List U->Prop)->Prop)(uo:UE)(ul:UXa):UXe:=λρ M Q X=>uo ρ M λo M1=>MeX s ul ρ M1 o Q X
theorem cx_me(h:MeL r s)(ha:ZE to uo)(hl:ZXa mg n tl ul):ZXe mg (tLMX r to tl) (uMeX s uo ul):=⟨λA ι σ H ρ M Qu Xu Q E w e q kk kx =>
 ha.h A ι σ H ρ M _ _ w e q λo M1 ι1 v H1 l1 w1 r1 ⟨k,eo,⟨zs,hz⟩,q1⟩=>by
  subst eo;cases r1 with
  |m ek =>
  rename_i a;obtain⟨xs1,h1,_⟩:=w1.obj k a _ ek hz;refine⟨a,xs1,rfl,h1,hl.h A ι1 σ H1 ρ M1 _ Xu _ E w1 (e.le l1) q1 (λws M2 ι2 ys H2 l2 w2 hn r2 q2=>?_) λnm p C d M' ι' H' hm hp l' w' x'=>kx nm p C d M' ι' H' hm hp (l1.trans l') w' x'⟩;obtain⟨us,hus,q2⟩:=q2;have ek2:ι2[k]?=some a:=by
   obtain⟨nn,rfl,_⟩:=l2.ext;rw[Ug (Ue.mp ek).1]; exact ek
  obtain⟨xs2,h3,h4⟩:=w2.obj k a _ ek2 hus;have hm:=Ui ek2;exact h A ι2 H2 M2 k a xs2 ys us ws _ Q w2 ek2 h3 hus h4 r2 q2 λz us' zv xs' rx rz qz=>kk z _ ι2 zv _ ((l1.trans l2).trans (.put hm)) (w2.put (mo:=.lst us') ek2 ⟨xs',upd_same,RepUs.le (.put hm) rx⟩) (rz.le (.put hm)) qz⟩
end
theorem FnOk.frz(F:FnOk P w Ξ mg base CX k f fd ps (spU G))(h:∀us M Qu,G' us M Qu->G us M λz M'=>xW M M'/\∃t,frzB M.length 4 M' z=some t/\Qu (.p t) (M'.take M.length)):FnOk P w Ξ mg base CX k f fd ps (spU G') :=
 F.imp λvs H Q E ⟨A,ι,M,us,Qu,w1,r,g,kk⟩=>by
  refine⟨A,ι,M,us,_,w1,r,h us M Qu g,λu M' ι' v H' l1 w2 r1 ⟨tr,t,et,q⟩=>?_⟩;obtain⟨m,rfl,_⟩:=id l1.ext;rw[<-w1.len] at et;exact kk _ _ ι v H' ⟨⟨[],by simp,by simp⟩,l1.fr,l1.al⟩ (w2.trim w1 tr) (.p (kW w2 r1 et)) q
end L2
set_option maxHeartbeats 4000000
namespace Mw
open PySem L2 PyProof.Rows
def GP(Ξ:PySem.W.Frag){X:Cx}(h:X.K=Ξ:=by rfl):=vP h
def Ua(Ξ:PySem.W.Frag){X:Cx}(h:X.K=Ξ:=by rfl):=qj h
def Ub(Ξ:PySem.W.Frag){X:Cx}(h:X.K=Ξ:=by rfl):=qJ h
theorem WR{k j:Nat}{A:Around}(r:Room k A)(h:j<=k:=by first|decide|exact Uk _):Room j A:=r.mono h
theorem WS{i:Int}:ZE (tC (.int i)) (uC (.int i)):=ce_c (.int i)
theorem W1{i:Str}:ZE (tC (.str i)) (uC (.str i)):=ce_c (.str i)
theorem W6{α:Type}{a:α}{b:Prop}:a=a\/b:=Or.inl rfl
theorem GM{α:Type}{a:α}{b:Prop}:b\/a=a:=Or.inr rfl
local macro_rules | `(tactic| walk_at "hp") => `(tactic| first|assumption|exact upd_same|(refine z0 (by assumption) ?_; walk_at "hp")|(refine kI (by first|assumption|(apply Ne.symm; assumption)) ?_; walk_at "hp"))
local macro_rules | `(tactic| walk_at "go") => `(tactic| repeat (first|(simp only[L2.start,tSeq,Vx,tAsg,tOp,tUn,tVar,tC,qM,gSub,tRet,Zz,tIfS,ZC,tLM,tTru,xi,tBM,tBM0,tRev,kr,xY,Ku,kM,kL,VT,kN,rd_pi,tSl,xg,ZB,rd_I,rd_I0,rd_U,VS,rd_bl,tCB,xh,tNil,tTup,tLst,tYes,tAnd,tOr,tNot,tB,tIf,ZD,tOrV,tNotV,Vw,rd_l1,rd_l2,rd_lr,List.getElem?_cons_zero,List.getElem?_cons_succ,Option.some.injEq,exists_eq_left',List.set_cons_zero,List.set_cons_succ,zD,List.zip_cons_cons,List.zip_nil_left,List.zip_nil_right,List.map_cons,List.map_nil,List.length_cons,List.length_nil,List.replicate,List.append_nil,List.nil_append,List.cons_append,Bool.false_eq_true,if_true,if_false,decide_eq_true_eq,Nat.zero_add,xK,xJ])|refine KI (by walk_at "hp") rfl ?_|refine ixT_at (by walk_at "hp") rfl ?_|refine KI (by walk_at "hp") at0 ?_|refine setL_at (by walk_at "hp") rfl ?_|refine len_at (by walk_at "hp") ?_|refine KN (by walk_at "hp") ?_|refine Zb (by walk_at "hp") ?_|refine lm_at (by walk_at "hp") ?_|refine it_at (by walk_at "hp") ?_|refine eq_at rfl ?_|refine ne_at rfl ?_))
section
variable {P:Program} {w:World} {Ξ:PySem.W.Frag} {mg:Str->Option Value} {base:Heap}
abbrev sBag:Stmt:=top 51
theorem scBag:FnScope ["script","stir","cell"] ["script"] (qg sBag):=⟨rfl,rfl,rfl,by decide +kernel,rfl,by decide +kernel,by decide +kernel⟩
abbrev Jo:Stmt:=top 52
theorem scDraw:FnScope ["bag","many","found"] ["bag","many"] (qg Jo):=⟨rfl,rfl,rfl,by decide +kernel,rfl,by decide +kernel,by decide +kernel⟩
structure BagAt(H:Hp)(b:Addr):Prop where
 ex:∃(c:Addr)(ns:List Int)(i a st n:Int),H b=some (.lst [.ref c, .int i, .int a, .int st, .int n])/\H c=some (.lst (ns.map V.int))/\0<=i/\i<=ns.length/\ns.length<=63/\(∀x∈ns,0<=x)/\0<=a/\0<=st/\st<2147483647
def spBag(Ξ:PySem.W.Frag):Sp:=λvs H Q _=>∃(a:Addr)(ns:List Int),vs=[.ref a]/\SqL Ξ H a (ns.map V.int)/\ns.length<=63/\∀(b:Addr)(H':Hp),H b=none->Same H H'->BagAt H' b->Q (.ref b) H'
theorem cut63(ns:List Int)(h:ns.length<=63):cutV (ns.map V.int) none (some 63)=ns.map V.int:=by
 unfold cutV;have e1:HT.sIx (ns.map V.int).length 0 none=0:=rfl;have e2:HT.sIx (ns.map V.int).length (ns.map V.int).length (some 63)=min 63 (ns.map V.int).length:=HT.sIx_nat _ _ 63;rw[e1,e2];simp only[R4,Uh];rw[DY];simp; lia
theorem KK{ns:List Int}{i:Nat}(h:(ns.map V.int)[i]?=some y):∃z,y=V.int z/\ns[i]?=some z:=by
 rw[Uz] at h;cases e:ns[i]? with
 |none=>rw[e] at h; cases h
 |some z=>rw[e] at h; exact⟨z,(Option.some.inj h).symm,rfl⟩
theorem ok_bag(F:Fun Ξ "_law_bag" "_law_bag" sBag f fd)(N:Nms mg):FnOk P w Ξ mg base CX0 1 f fd ["script"] (spBag Ξ):=by
 refine F.okQ scBag (λvs H Q E h=>?_) (λcdv A outer s H vs Q E hr h=>?_)
 ·obtain⟨a,ns,rfl,_⟩:=h
  rfl
 ·obtain⟨a,ns,rfl,hS,hlen,k⟩:=h
  refine⟨_,(qf (qB (i:=1) scBag.nd rfl W6 qe)
  (qf (Qz PassesOwn.never rfl (vO (Ξ:=Ξ) rfl (vS (GP Ξ) (qv 0) j5 (vN qe))) (vD (i:=2) scBag.nd rfl W6)
   (qi (qB (i:=1) scBag.nd rfl W6 (qq zu (qq qO (qq qO (qq Vi (qv 1) qe) (qq zu (qv 2) qe)) qe) qe))))
  (qi (qw (qN (qa_c (ZW [false,false,false] [] (vO (Ξ:=Ξ) rfl (vS (GP Ξ) (qv 0) j5 (vN qe))) (λ_ _ _=>(vD (i:=2) scBag.nd rfl W6)) (λ_ _ _=>VX) (λ_ _ _=>(qq zu (vb Zq (by rfl) N.abs b_abs (qa_c (qv 2) qd)) (qq Kz qe qe)))) (qa_c qe (qa_c qe (qa_c (qv 1) (qa_c qe qd)))))))))), ?_⟩
  refine⟨_,rfl,_,rfl,a,_,rfl,hS,λp hp=>?_⟩;rw[cut63 ns hlen];refine⟨p,rfl,⟨_,SqL.of upd_same⟩,for_list (Ξ:=Ξ) (a:=p) (xs:=ns.map V.int) (λi σ H2=>∃(st:Int)(v:Option V),σ=[some (.ref a),some (.int st),v]/\0<=st/\st<2147483647/\H2=upd H p (.lst (ns.map V.int)))
   ⟨17,none,rfl,by decide,by decide,rfl⟩ (λi σ H2 _ ⟨_,_,_,_,_,e⟩=>by rw[e]; exact SqL.of upd_same) ?_ ?_⟩
  ·rintro i y σ H2 hi ⟨st,v,rfl,h0,h1,rfl⟩
   obtain⟨z,rfl,_⟩:=KK hi
   (simp only[L2.start,tSeq,Vx,tAsg,tOp,tUn,tVar,tC,qM,gSub,tRet,Zz,tIfS,ZC,tLM,tTru,xi,tBM,tBM0,tRev,kr,xY,Ku,kM,kL,VT,kN,rd_pi,tSl,xg,ZB,rd_I,rd_I0,rd_U,VS,rd_bl,tCB,xh,tNil,tTup,tLst,tYes,tAnd,tOr,tNot,tB,tIf,ZD,tOrV,tNotV,Vw,rd_l1,rd_l2,rd_lr,Dd,DC,Option.some.injEq,exists_eq_left',DW,DX,zD,Rl,Ry,Rm,UB,DS,Um,UP,List.replicate,UZ,UV,U1,Dk,if_true,if_false,decide_eq_true_eq,Di,xK,xJ]);refine⟨.inr ⟨by decide,by decide⟩,by decide,by decide,_,_,rfl,U6 _ (by decide),U3 _ (by decide),trivial⟩
  ·rintro σ H2 ⟨st,v,rfl,h0,h1,rfl⟩
   have hS2:SqL Ξ (upd H p (.lst (ns.map V.int))) a (ns.map V.int):=((Same.refl H).upd hp).seq hS;refine⟨_,rfl,_,rfl,a,_,rfl,hS2,λp2 hp2=>?_⟩;rw[cut63 ns hlen];obtain⟨f2,n2⟩:=Zg hp2;refine⟨p2,rfl,⟨_,SqL.of upd_same⟩,λacc hacc=>?_⟩;obtain⟨g1,n3⟩:=Zg hacc;obtain⟨g2,n4⟩:=Zg g1;refine qaE (xs:=ns.map V.int) (λi H3=>∃ys:List Int,H3 acc=some (.lst (ys.map V.int))/\ys.length=i/\(∀y∈ys,0<=y)/\H3 p2=some (.lst (ns.map V.int))/\Same H H3) ?_ ?_ ?_ ?_
   ·exact⟨[],upd_same,rfl,(λ_ h=>nomatch h),z0 hacc upd_same,(((Same.refl H).upd hp).upd f2).upd g2⟩
   ·rintro i H3 _ ⟨ys,_,_,_,e,_⟩
    exact SqL.of e
   ·rintro i y H3 hi ⟨ys,e1,e2,e3,e4,e5⟩
    obtain⟨z,rfl,hz⟩:=KK hi;have hil:i<ns.length:=(Ue.mp hz).1
    (simp only[L2.start,tSeq,Vx,tAsg,tOp,tUn,tVar,tC,qM,gSub,tRet,Zz,tIfS,ZC,tLM,tTru,xi,tBM,tBM0,tRev,kr,xY,Ku,kM,kL,VT,kN,rd_pi,tSl,xg,ZB,rd_I,rd_I0,rd_U,VS,rd_bl,tCB,xh,tNil,tTup,tLst,tYes,tAnd,tOr,tNot,tB,tIf,ZD,tOrV,tNotV,Vw,rd_l1,rd_l2,rd_lr,Dd,DC,Option.some.injEq,exists_eq_left',DW,DX,zD,Rl,Ry,Rm,UB,DS,Um,UP,List.replicate,UZ,UV,U1,Dk,if_true,if_false,decide_eq_true_eq,Di,xK,xJ]);refine⟨⟨by(repeat (first|exact ExtS.nl|refine ExtS.sm ?_|refine ExtS.no ?_)),trivial⟩,⟨by decide,by decide,by decide⟩,by decide,ys.map V.int,e1,qV (by simp; lia),ys++[(if z<0 then -z else z) % 10^(60:Int).toNat], ?_,by simp[e2], ?_,kI n3.symm e4,e5.upd g2⟩
    ·rw[upd_same,Ux]; rfl
    ·intro y hy
     rcases Uw.mp hy with h|h
     ·exact e3 y h
     ·rw[Uu.mp h]; exact U6 _ (by decide)
   ·rintro H3 ⟨ys,e1,e2,e3,e4,e5⟩
    rw[Uh] at e2
    (simp only[L2.start,tSeq,Vx,tAsg,tOp,tUn,tVar,tC,qM,gSub,tRet,Zz,tIfS,ZC,tLM,tTru,xi,tBM,tBM0,tRev,kr,xY,Ku,kM,kL,VT,kN,rd_pi,tSl,xg,ZB,rd_I,rd_I0,rd_U,VS,rd_bl,tCB,xh,tNil,tTup,tLst,tYes,tAnd,tOr,tNot,tB,tIf,ZD,tOrV,tNotV,Vw,rd_l1,rd_l2,rd_lr,Dd,DC,Option.some.injEq,exists_eq_left',DW,DX,zD,Rl,Ry,Rm,UB,DS,Um,UP,List.replicate,UZ,UV,U1,Dk,if_true,if_false,decide_eq_true_eq,Di,xK,xJ]);refine⟨by decide,λb hb=>?_⟩;refine k b _ (e5.free hb) (e5.upd (e5.free hb)) ⟨acc,ys,0,0,st,0,upd_same,z0 hb e1,by decide,by lia,by lia,e3,by decide,h0,h1⟩
def spDraw:Sp:=λvs H Q _=>∃(b:Addr)(many:Int),vs=[.ref b, .int many]/\BagAt H b/\0<many/\many.natAbs.log2<9000/\∀(found:Int)(H':Hp),0<=found->found<many->BagAt H' b->(∀x,x≠b->H' x=H x)->Q (.int found) H'
theorem Yg{H:Hp}{ns:List Int}{i a st n:Int}(hb:H b=some (.lst [.ref c, .int i, .int a, .int st, .int n]))(hc:H c=some (.lst (ns.map V.int))):c≠b:=by
 intro e;subst e;rw[hb] at hc;injection hc with hc
 injection hc with hc
 cases ns with
 |nil=>cases hc
 |cons z r=>cases hc
theorem ok_draw(F:Fun Ξ "_law_draw" "_law_draw" Jo f fd)(N:Nms mg):FnOk P w Ξ mg base CX0 1 f fd ["bag","many"] spDraw:=by
 refine F.okQ scDraw (λvs H Q E h=>?_) (λcdv A outer s H vs Q E hr h=>?_)
 ·obtain⟨b,m,rfl,_⟩:=h
  rfl
 ·obtain⟨b,many,rfl,⟨c,ns,i,a,st,n,hb,hc,i0,i1,hl,hns,a0,s0,s1⟩,m0,mb,k⟩:=h
  have hcb:=Yg hb hc;refine⟨_,(qf (v6 (Q9 (ZR (qF zB (qA (Ua Ξ) (qv 0) qe (λ_ _=>rfl)) qe (qI _)) (Qx (qF Z3 (qA (Ua Ξ) (qv 0) qe (λ_ _=>rfl)) (vb vZ (by rfl) N.len Vc (qa_c (qA (Ua Ξ) (qv 0) qe (λ_ _=>rfl)) qd)) (qI _)))))
   (qf (v5 (qA (Ua Ξ) (qA (Ua Ξ) (qv 0) qe (λ_ _=>rfl)) (qA (Ua Ξ) (qv 0) qe (λ_ _=>rfl)) (λ_ _=>rfl)) (zd (qv 0) qe qX))
   (qi (v5 (qq qO (qA (Ua Ξ) (qv 0) qe (λ_ _=>rfl)) qe) (zd (qv 0) qe qX))))
   (qi (v6 (qF zB (qA (Ua Ξ) (qv 0) qe (λ_ _=>rfl)) qe (qI _))
    (qf (v5 (qq qO (qA (Ua Ξ) (qv 0) qe (λ_ _=>rfl)) qe) (zd (qv 0) qe qX))
    (qf (v5 (qq zu (qq qO (qq qO (qq qO (qq Kz (qA (Ua Ξ) (qv 0) qe (λ_ _=>rfl)) qe) (qq Vi qe (qA (Ua Ξ) (qv 0) qe (λ_ _=>rfl)))) (qq Vi qe (qA (Ua Ξ) (qv 0) qe (λ_ _=>rfl)))) qe) qe) (zd (qv 0) qe qX))
    (qi (qw (qq zu (qq xF (qA (Ua Ξ) (qv 0) qe (λ_ _=>rfl)) qe) (qv 1))))))
    va)))
  (qf (qB (i:=2) scDraw.nd rfl W6 (qq zu (qA (Ua Ξ) (qv 0) qe (λ_ _=>rfl)) (qv 1)))
  (qf (v5 (qq xF (qA (Ua Ξ) (qv 0) qe (λ_ _=>rfl)) (qv 1)) (zd (qv 0) qe qX))
  (qi (qw (qv 2)))))), ?_⟩
  walk_at "go";have fin:∀(z:Int)(H':Hp)(i' a' st' n':Int),0<=z->H' b=some (.lst [.ref c, .int i', .int (z / many), .int st', .int n'])->(∀x,x≠b->H' x=H x)->0<=i'->i'<=ns.length->0<=st'->st'<2147483647->Q (.int (z % many)) H':=λz H' i' a' st' n' hz e1 e2 e3 e4 e5 e6 =>
   k _ _ (U6 _ (by lia)) (U3 _ m0) ⟨c,ns,i',z / many,st',n',e1,by rw[e2 c hcb]; exact hc,e3,e4,hl,hns,RU hz (by lia),e5,e6⟩ e2
  refine ite2 (λha=>?_) (λha=>?_)
  ·walk_at "go"
   refine ite2 (λhi=>?_) (λhi=>?_)
   ·rw[Uh] at hi
    obtain⟨j,rfl⟩:∃j:Nat,i=(j:Int):=⟨i.toNat,by lia⟩;have hj:j<ns.length:=by lia
    walk_at "go";refine KI hc (ju (v:=.int ns[j]) (by rw[Uz,Uf hj]; rfl)) ?_;walk_at "go";refine⟨m0, ?_⟩;walk_at "go";refine⟨⟨m0,mb⟩, ?_⟩;walk_at "go";exact fin _ _ (j+1) 0 st n (hns _ (RG hj)) upd_same (λx hx=>by rw[upd_ne hx,upd_ne hx,upd_ne hx]) (by lia) (by lia) s0 s1
   ·walk_at "go"
    rw[if_pos ha];walk_at "go";refine⟨⟨by decide,by decide,by lia⟩, ?_⟩;walk_at "go";refine⟨.inl ⟨by decide,by decide⟩, ?_⟩;walk_at "go";refine⟨.inl ⟨by decide,by decide⟩,by decide, ?_⟩;walk_at "go";refine⟨⟨by decide,by decide⟩,m0, ?_⟩;refine k _ _ (U6 _ (by lia)) (U3 _ m0) ⟨c,ns,i,a,_,n+1,upd_same, ?_,i0,i1,hl,hns,a0,U6 _ (by decide),U3 _ (by decide)⟩ λx hx=>?_
    ·walk_at "hp"
    ·rw[upd_ne hx,upd_ne hx]
  ·walk_at "go"
   rw[if_neg ha];walk_at "go";refine⟨m0, ?_⟩;walk_at "go";refine⟨⟨m0,mb⟩, ?_⟩;walk_at "go";exact fin _ _ i 0 st n a0 upd_same (λx hx=>by rw[upd_ne hx]) i0 i1 s0 s1
def jE(H:Hp)(b c:Addr):Prop:=∃r,H b=some (.lst (.ref c::r))
theorem Xq(h:H b=some (.lst (.ref c::r)))(h':H' b=some (.lst (.ref c::r'))):∀c',jE H b c'->jE H' b c':=λc' ⟨q,e⟩=>by
 rw[h] at e;injection e with e
 injection e with e
 injection e with e _
 injection e with e
 subst e;exact⟨r',h'⟩
theorem head_inj(h:jE H b c)(h':jE H b c'):c=c':=by
 obtain⟨q,e⟩:=h;obtain⟨q',e'⟩:=h';rw[e] at e';injection e' with e'
 injection e' with e'
 injection e' with e' _
 injection e'
def spDraw2:Sp:=λvs H Q _=>∃(b:Addr)(many:Int),vs=[.ref b, .int many]/\BagAt H b/\0<many/\many.natAbs.log2<9000/\∀(found:Int)(H':Hp),0<=found->found<many->BagAt H' b->(∀x,x≠b->H' x=H x)->(∀c,jE H b c->jE H' b c)->Q (.int found) H'
theorem BagAt.put(h:BagAt H b)(hh:jE H b c0)(n1:p≠b)(n2:p≠c0):BagAt (L2.upd H p o) b:=by
 obtain⟨c,ns,i,a,st,n,hb,hc,r⟩:=h.ex;have e:c0=c:=by
  obtain⟨q,e⟩:=hh;rw[hb] at e;injection e with e
  injection e with e
  injection e with e _
  injection e with e
  exact e.symm
 subst e;exact⟨c0,ns,i,a,st,n,kI n1.symm hb,kI n2.symm hc,r⟩
theorem KB(F:Fun Ξ "_law_draw" "_law_draw" Jo f fd)(N:Nms mg):FnOk P w Ξ mg base CX0 1 f fd ["bag","many"] spDraw2:=by
 refine F.okQ scDraw (λvs H Q E h=>?_) (λcdv A outer s H vs Q E hr h=>?_)
 ·obtain⟨b,m,rfl,_⟩:=h
  rfl
 ·obtain⟨b,many,rfl,⟨c,ns,i,a,st,n,hb,hc,i0,i1,hl,hns,a0,s0,s1⟩,m0,mb,k⟩:=h
  have hcb:=Yg hb hc;refine⟨_,(qf (v6 (Q9 (ZR (qF zB (qA (Ua Ξ) (qv 0) qe (λ_ _=>rfl)) qe (qI _)) (Qx (qF Z3 (qA (Ua Ξ) (qv 0) qe (λ_ _=>rfl)) (vb vZ (by rfl) N.len Vc (qa_c (qA (Ua Ξ) (qv 0) qe (λ_ _=>rfl)) qd)) (qI _)))))
   (qf (v5 (qA (Ua Ξ) (qA (Ua Ξ) (qv 0) qe (λ_ _=>rfl)) (qA (Ua Ξ) (qv 0) qe (λ_ _=>rfl)) (λ_ _=>rfl)) (zd (qv 0) qe qX))
   (qi (v5 (qq qO (qA (Ua Ξ) (qv 0) qe (λ_ _=>rfl)) qe) (zd (qv 0) qe qX))))
   (qi (v6 (qF zB (qA (Ua Ξ) (qv 0) qe (λ_ _=>rfl)) qe (qI _))
    (qf (v5 (qq qO (qA (Ua Ξ) (qv 0) qe (λ_ _=>rfl)) qe) (zd (qv 0) qe qX))
    (qf (v5 (qq zu (qq qO (qq qO (qq qO (qq Kz (qA (Ua Ξ) (qv 0) qe (λ_ _=>rfl)) qe) (qq Vi qe (qA (Ua Ξ) (qv 0) qe (λ_ _=>rfl)))) (qq Vi qe (qA (Ua Ξ) (qv 0) qe (λ_ _=>rfl)))) qe) qe) (zd (qv 0) qe qX))
    (qi (qw (qq zu (qq xF (qA (Ua Ξ) (qv 0) qe (λ_ _=>rfl)) qe) (qv 1))))))
    va)))
  (qf (qB (i:=2) scDraw.nd rfl W6 (qq zu (qA (Ua Ξ) (qv 0) qe (λ_ _=>rfl)) (qv 1)))
  (qf (v5 (qq xF (qA (Ua Ξ) (qv 0) qe (λ_ _=>rfl)) (qv 1)) (zd (qv 0) qe qX))
  (qi (qw (qv 2)))))), ?_⟩
  walk_at "go";have fin:∀(z:Int)(H':Hp)(i' a' st' n':Int),0<=z->H' b=some (.lst [.ref c, .int i', .int (z / many), .int st', .int n'])->(∀x,x≠b->H' x=H x)->0<=i'->i'<=ns.length->0<=st'->st'<2147483647->Q (.int (z % many)) H':=λz H' i' a' st' n' hz e1 e2 e3 e4 e5 e6 =>
   k _ _ (U6 _ (by lia)) (U3 _ m0) ⟨c,ns,i',z / many,st',n',e1,by rw[e2 c hcb]; exact hc,e3,e4,hl,hns,RU hz (by lia),e5,e6⟩ e2 (Xq hb e1)
  refine ite2 (λha=>?_) (λha=>?_)
  ·walk_at "go"
   refine ite2 (λhi=>?_) (λhi=>?_)
   ·rw[Uh] at hi
    obtain⟨j,rfl⟩:∃j:Nat,i=(j:Int):=⟨i.toNat,by lia⟩;have hj:j<ns.length:=by lia
    walk_at "go";refine KI hc (ju (v:=.int ns[j]) (by rw[Uz,Uf hj]; rfl)) ?_;walk_at "go";refine⟨m0, ?_⟩;walk_at "go";refine⟨⟨m0,mb⟩, ?_⟩;walk_at "go";exact fin _ _ (j+1) 0 st n (hns _ (RG hj)) upd_same (λx hx=>by rw[upd_ne hx,upd_ne hx,upd_ne hx]) (by lia) (by lia) s0 s1
   ·walk_at "go"
    rw[if_pos ha];walk_at "go";refine⟨⟨by decide,by decide,by lia⟩, ?_⟩;walk_at "go";refine⟨.inl ⟨by decide,by decide⟩, ?_⟩;walk_at "go";refine⟨.inl ⟨by decide,by decide⟩,by decide, ?_⟩;walk_at "go";refine⟨⟨by decide,by decide⟩,m0, ?_⟩;refine k _ _ (U6 _ (by lia)) (U3 _ m0) ⟨c,ns,i,a,_,n+1,upd_same, ?_,i0,i1,hl,hns,a0,U6 _ (by decide),U3 _ (by decide)⟩ (λx hx=>by rw[upd_ne hx,upd_ne hx]) (Xq hb upd_same);walk_at "hp"
  ·walk_at "go"
   rw[if_neg ha];walk_at "go";refine⟨m0, ?_⟩;walk_at "go";refine⟨⟨m0,mb⟩, ?_⟩;walk_at "go";exact fin _ _ i 0 st n a0 upd_same (λx hx=>by rw[upd_ne hx]) i0 i1 s0 s1
def MB(M:MM)(k:Nat)(o:MO)(L:List MO):MM:=M.set k o++L
theorem MB_len:(MB M k o L).length=M.length+L.length:=by unfold MB; rw[Uj,Uq]
theorem MB_new:MB M k o L++[x]=MB M k o (L++[x]):=by unfold MB; rw[Us]
theorem MB_get:(MB M k o L)[M.length+i]?=L[i]?:=by
 unfold MB;rw[Uo (by rw[Uq]; lia),Uq,UC]
theorem zF(h:L[i]?=some x:=by rfl):(MB M k o L)[M.length+i]?=some x:=MB_get.trans h
theorem MB_set:(MB M k o L).set (M.length+i) x=MB M k o (L.set i x):=by
 unfold MB;rw[Ds _ _ (by rw[Uq]; lia),Uq,UC]
theorem MB_bag(h:k<M.length):(MB M k o L)[k]?=some o:=by
 unfold MB;rw[Ug (by rw[Uq]; exact h),Ur h]
theorem XR(h:k<M.length):(MB M k o L).set k o'=MB M k o' L:=by
 unfold MB;rw[DN _ _ (by rw[Uq]; exact h),Rn]
theorem Kc:(MB M k o L).take M.length=M.set k o:=by
 unfold MB;rw[Rb (by rw[Uq])]
theorem Yi(h:M[k]?=some o):k<M.length/\M=MB M k o []:=by
 refine⟨(Ue.mp h).1, ?_⟩;unfold MB;rw[UZ];obtain⟨hk,rfl⟩:=Ue.mp h;rw[D2]
theorem Kb(h:PurO o):xW M (MB M k o L):=λi x hi e=>by
 unfold MB at e;rw[Ug (by rw[Uq]; exact hi)] at e;by_cases hk:k=i
 ·subst hk
  rw[Ur hi] at e;cases e;exact .inr h
 ·rw[Ul hk] at e
  exact .inl e
structure BagO(o:MO):Prop where
 ex:∃(ns:List Int)(i a st n:Int),o=.lst [.p (vn ns), .p (.int i), .p (.int a), .p (.int st), .p (.int n)]/\0<=i/\i<=ns.length/\ns.length<=63/\(∀x∈ns,0<=x)/\0<=a/\0<=st/\st<2147483647
theorem BagO.pur(h:BagO o):PurO o:=by
 obtain⟨ns,i,a,st,n,rfl,_⟩:=h.ex;exact⟨[vn ns, .int i, .int a, .int st, .int n],rfl⟩
def JN:List U->MM->UK->Prop:=λus M Q=>∃(k:Nat)(o:MO)(many:Int),us=[.m k, .p (.int many)]/\M[k]?=some o/\BagO o/\0<many/\many.natAbs.log2<9000/\∀(found:Int)(o':MO),0<=found->found<many->BagO o'->Q (.p (.int found)) (M.set k o')
theorem v9(hk:k<M.length)(B:BagO o)(h0:0<many)(h1:many.natAbs.log2<9000)(q:∀(found:Int)(o':MO),0<=found->found<many->BagO o'->Q (.p (.int found)) (MB M k o' L)):JN [.m k, .p (.int many)] (MB M k o L) Q :=
 ⟨k,o,many,rfl,MB_bag hk,B,h0,h1,λf o' f0 f1 B'=>by rw[XR hk]; exact q f o' f0 f1 B'⟩
theorem ints_inv(r:RepT A H v (vn ns)):∃p,v=.ref p/\¬A p/\H p=some (.lst (ns.map V.int)):=by
 obtain⟨p,vs,rfl,na,h,q⟩:=r.lst_inv;refine⟨p,rfl,na, ?_⟩;have:vs=ns.map V.int:=by
  clear h r na
  induction ns generalizing vs with
  |nil=>cases q; rfl
  |cons n ns ih =>
   cases q with
   |cons a b=>cases a; rw[ih _ b]; rfl
 rw[h,this]
theorem KJ(na:¬A p)(h:H p=some (.lst (ns.map V.int))):RepT A H (.ref p) (vn ns):=by
 refine .lstP na h ?_
 induction ns with
 |nil=>exact .nil
 |cons n ns ih=>exact .cons (.int n) (by
   clear h ih
   induction ns with
   |nil=>exact .nil
   |cons n ns ih=>exact .cons (.int n) ih)
theorem bag_obj(hb:BagO o)(r:ObjR A ι H b o):BagAt H b/\∃c,jE H b c/\¬Av A ι c/\∃ns:List Int,H c=some (.lst (ns.map V.int)):=by
 obtain⟨ns,i,a,st,n,rfl,k⟩:=hb.ex;obtain⟨vs,h,q⟩:=r;cases q with
 |cons q1 q =>
 cases q with
 |cons q2 q =>
 cases q with
 |cons q3 q =>
 cases q with
 |cons q4 q =>
 cases q with
 |cons q5 q =>
 cases q;cases q1 with
 |p q1 =>
 obtain⟨c,rfl,nc,hc⟩:=ints_inv q1;cases q2 with
 |p q2 =>
 cases q3 with
 |p q3 =>
 cases q4 with
 |p q4 =>
 cases q5 with
 |p q5 =>
 cases q2; cases q3; cases q4; cases q5;exact⟨⟨c,ns,i,a,st,n,h,hc,k⟩,c,⟨_,h⟩,nc,ns,hc⟩
theorem Yh(B:BagAt H b)(hd:jE H b c)(nc:¬Av A ι c):∃o,BagO o/\ObjR A ι H b o/\∃x,H b=some x/\∀H',H' b=some x->(∀y z,H y=some z->y≠b->H' y=some z)->ObjR A ι H' b o:=by
 obtain⟨c',ns,i,a,st,n,h,hc,k⟩:=B.ex;have:c=c':=head_inj hd ⟨_,h⟩;subst this;have ncb:c≠b:=Yg h hc;refine⟨_,⟨ns,i,a,st,n,rfl,k⟩,⟨_,h, .cons (.p (KJ nc hc)) (.cons (.p (.int _)) (.cons (.p (.int _)) (.cons (.p (.int _)) (.cons (.p (.int _)) .nil))))⟩,_,h,λH' e f=>⟨_,e, .cons (.p (KJ nc (f _ _ hc ncb))) (.cons (.p (.int _)) (.cons (.p (.int _)) (.cons (.p (.int _)) (.cons (.p (.int _)) .nil))))⟩⟩
theorem ok_drawU(F:Fun Ξ "_law_draw" "_law_draw" Jo f fd)(N:Nms mg):FnOk P w Ξ mg base CX0 1 f fd ["bag","many"] (spU JN):=by
 refine(KB F N).imp λvs H Q E h=>?_;obtain⟨A,ι,M,us,Qu,w1,r,⟨k,o,many,rfl,em,hb,h0,h1,q⟩,kk⟩:=h;cases r with
 |cons r1 r =>
 cases r with
 |cons r2 r =>
 cases r;cases r2 with
 |p r2 =>
 cases r2;cases r1 with
 |m ek =>
 rename_i b;have ro:=w1.obj k b o ek em;obtain⟨B,c,hd,nc,ns,hcs⟩:=bag_obj hb ro;refine⟨b,many,rfl,B,h0,h1,λfound H' f0 f1 B' fr hdk=>?_⟩;have hd':=hdk c hd;have hmem:=Ui ek;obtain⟨o',hb',ro',x,hx,_⟩:=Yh (A:=A) (ι:=ι) B' hd' nc;have eH:H'=L2.upd H b x:=by
  funext y;by_cases z:y=b
  ·subst z; rw[L2.upd_same]; exact hx
  ·rw[L2.upd_ne z]; exact fr y z
 subst eH;exact kk _ _ ι _ _ (.put hmem) (w1.put ek ro') (.p (.int _)) (q found o' f0 f1 hb')
theorem up1{R:T->Prop}:(∃t,U.p a=.p t/\R t)=R a:=propext ⟨λ⟨_,e,h⟩=>by cases e; exact h,λh=>⟨a,rfl,h⟩⟩
theorem YZ{ts:List T}(hz:ts.length<=sizeLine)(Iv:Nat->List T->MM->Prop)(h0:Iv 0 [] M)(hk:∀i acc M2,Iv i acc M2->M2[k]?=some (.lst (ts.map U.p)))(hs:∀i t acc M2,ts[i]?=some t->acc.length<=i->Iv i acc M2->ug (.p t) ρ0 M2 λρ4 M4=>ut ρ4 M4 λb M5=>if b=true then ua ρ4 M5 λz M6=>∃t,z=.p t/\Iv (i+1) (acc++[t]) M6 else Iv (i+1) acc M5)(hd:∀acc M2,Iv ts.length acc M2->Q (.p (.lst acc)) M2):UComp (itU (.m k) (ts.map U.p)) ug ut ua ρ0 M Q:=by
 refine⟨by simpa[itU] using hz,Iv,h0,λi acc M2 hi ha h=>⟨by show qD M2 (.m k)=_; simp[qD,hk i acc M2 h],λu hu=>?_⟩,λacc M2 h=>⟨by show qD M2 (.m k)=_; simp[qD,hk _ acc M2 h],hd acc M2 (by simpa[itU] using h)⟩⟩;have hu:(ts.map U.p)[i]?=some u:=hu;rw[Uz] at hu;cases e:ts[i]? with
 |none=>rw[e] at hu; cases hu
 |some t=>rw[e] at hu; cases hu; exact hs i t acc M2 e ha h
theorem get_map{α β:Type}{f:α->β}{l:List α}{i:Nat}{y:β}(h:(l.map f)[i]?=some y):∃x,l[i]?=some x/\y=f x:=by
 rw[Uz] at h;cases e:l[i]? with
 |none=>rw[e] at h; cases h
 |some n=>rw[e] at h; cases h; exact⟨n,rfl,rfl⟩
theorem t2_at(h:vI M u=some [a,b])(q:R a b):T2S M u R:=⟨a,b,h,q⟩
theorem t3_at(h:vI M u=some [a,b,c])(q:R a b c):T3S M u R:=⟨a,b,c,h,q⟩
theorem slm_at(e:M[k]?=some (.lst (ts.map U.p)))(q:Q (.p (.lst (cutT ts l h))) M):SlS M (.m k) l h Q:=⟨ts,by simp[sn,e],q⟩
theorem useq(h:a { E with nx:=b E } ρ M):uSeq a b E ρ M:=h
local macro_rules | `(tactic| walk_at "us") => `(tactic| first|walk_at "vs" |simp only[uSeq])
local macro_rules | `(tactic| walk_at "u") => `(tactic| repeat (first|walk_at "us" |refine vU rfl ?_|refine vU at0 ?_|refine vU at1 ?_|refine GW rfl ?_|refine t2_at rfl ?_|refine t3_at rfl ?_|refine GG rfl ?_|refine jm rfl ?_|refine GG zF ?_|refine jm zF ?_))
local macro_rules | `(tactic| walk_at "vs") => `(tactic| simp only[xQ,uNext,uAsg,Y2,rd_name2,rd_name3,rd_var,rd_varS,uC,uCons,uNil,rd_op,rd_opS,rd_sI,rd_sI0,rd_eqI,rd_neI,rd_eqS,rd_neS,rd_eqB,rd_neB,uIsN,JI,rd_intS,rd_blS,rd_neg,rd_bits,rd_b,rd_andV,rd_orV,rd_notV,uAnd,uOr,uNot,uIf,rd_chain,rd_chP,rd_ch,rd_pur0,rd_purC,Wz,rd_tup,rd_lst,uNew,uNewT,rd_ix,rd_sns0,rd_snsC,rd_cb,rd_abs',rd_min',rd_max',rd_int',rd_intB,rd_len,rd_lenP,rd_sl,rd_slS,rd_part,WA,rd_cat,rd_str,rd_iter,rd_iterP,rd_rng1,uFor,uComp,YD,rd_t2,rd_t3,rd_callP,rd_callS,rd_callU,rd_me,rd_app,uDrop,uRet,uRetN,uIfS,uYes,ss,uIsi,uIsi2,isU,isT,uIxK,uInK,vt,uDNew,rd_din,rd_dput,rd_idxK,rd_lrng2,rd_sub,rd_par,rd_par3,rd_p2,rd_p3,rd_name4,rd_t4,rd_fld,WB,rd_meth,rd_make,Wy,Bool.or_true,Bool.true_or,Bool.or_false,Bool.false_or,uIfC,iteT_int,iteT_str,rd_rev,rd_revP,up1,Xx,kz,MO.lst.injEq,rd_dget,Kh,MB_new,MB_len,MB_get,MB_set,Option.some.injEq,List.map_cons,List.map_nil,List.length_cons,List.length_nil,List.replicate,List.append_nil,List.nil_append,List.cons_append,List.getElem?_cons_zero,List.getElem?_cons_succ,List.set_cons_zero,List.set_cons_succ,List.zip_cons_cons,List.zip_nil_left,List.zip_nil_right,Bool.false_eq_true,if_true,if_false,decide_eq_true_eq,decide_true,decide_false,Bool.not_true,Bool.not_false,true_and,and_true,Nat.reduceAdd,Nat.reduceSub,Nat.zero_add,exists_eq_left'])
local macro_rules | `(tactic| walk_at "v") => `(tactic| repeat (first|with_reducible refine useq ?_|walk_at "vs" | ((with_reducible refine gdIx ?_); first|refine vU rfl ?_|refine vU at0 ?_|refine vU at1 ?_|refine GW rfl ?_)|((with_reducible refine gdT2 ?_); refine t2_at rfl ?_)|((with_reducible refine gdT3 ?_); refine t3_at rfl ?_)|((with_reducible refine gdMe ?_); first|refine GG rfl ?_|refine GG zF ?_)|((with_reducible refine gdLen ?_); first|refine jm rfl ?_|refine jm zF ?_)))
abbrev Mk3:=Str×Int×Int
def on(word:Int)(m:Mk3):Bool:=decide (word % 2^m.2.1.toNat=m.2.2)
def Wd(ms:List Mk3):Prop:=∀m∈ms,0<=m.2.1/\m.2.1<=1000
theorem vk(k:Nat):(0:Int)<2^k:=Int.pow_pos (by decide)
theorem vC{α:Type}{l:List α}{i:Nat}{x:α}(h:l[i]?=some x):l.take (i+1)=l.take i++[x]:=by
 obtain⟨hi,e⟩:=Ue.mp h;rw[List.take_succ_eq_append_getElem hi,e]
def OfKind(ms:List Mk3)(kind:Str)(m:Mk3):Prop:=∃rest,ms.filter (λm=>decide (m.1=kind))=m::rest
def jF:List Str:=["small","far","pair","sign","one"]
abbrev Nd:=Int×Int
def Disj(a b:Nd):Prop:=∀x:Int,¬(x % 2^a.1.toNat=a.2/\x % 2^b.1.toNat=b.2)
theorem Disj.symm(h:Disj a b):Disj b a:=λx ⟨p,q⟩=>h x ⟨q,p⟩
def NdOk(a:Nd):Prop:=0<=a.1/\a.1<=60/\0<=a.2/\a.2<2^a.1.toNat
theorem kc{x:Int}(h:a<=b):x % 2^b % 2^a=x % 2^a:=by
 refine Int.emod_emod_of_dvd x ?_;obtain⟨c,rfl⟩:=Nat.exists_eq_add_of_le h;exact⟨2^c,R9 ..⟩
def zS(a:Nd)(s:Int):Nd:=(a.1+1,a.2+s*2^a.1.toNat)
theorem qaH(ha:NdOk a)(h:x % 2^(zS a s).1.toNat=(zS a s).2):x % 2^a.1.toNat=a.2:=by
 have e:(zS a s).1.toNat=a.1.toNat+1:=by show(a.1+1).toNat=_; have:=ha.1; lia
 rw[e] at h;rw[<-kc (R6 a.1.toNat),h];show(a.2+s*2^a.1.toNat) % 2^a.1.toNat=a.2;rw[Bo,Int.add_mul_emod_self_left];exact Df ha.2.2.1 ha.2.2.2
theorem Vq(ha:NdOk a)(h:Disj a b):Disj (zS a s) b:=λx ⟨p,q⟩=>h x ⟨qaH ha p,q⟩
theorem qaG(hs:s≠t):Disj (zS a s) (zS a t):=λx ⟨p,q⟩=>by
 rw[show(zS a t).1=(zS a s).1 from rfl,p] at q;have:(a.2+s*2^a.1.toNat)=a.2+t*2^a.1.toNat:=q;have h2:s*2^a.1.toNat=t*2^a.1.toNat:=by lia
 exact hs (Int.eq_of_mul_eq_mul_right (Ro (vk _)) h2)
theorem Yb(ha:NdOk a)(h59:a.1<=59)(hs:s=0\/s=1):NdOk (zS a s):=by
 obtain⟨h1,h2,h3,h4⟩:=ha;have e:(a.1+1).toNat=a.1.toNat+1:=by lia
 refine⟨by show 0<=a.1+1; lia,by show a.1+1<=60; lia, ?_, ?_⟩
 ·show 0<=a.2+s*2^a.1.toNat
  have:=vk a.1.toNat;rcases hs with rfl|rfl<;>lia
 ·show a.2+s*2^a.1.toNat<2^(a.1+1).toNat
  rw[e,Int.pow_succ];rcases hs with rfl|rfl<;>lia
theorem disj_of(h:a.2 % 2^(min a.1.toNat b.1.toNat)≠b.2 % 2^(min a.1.toNat b.1.toNat)):Disj a b:=λx ⟨p,q⟩=>by
 refine h ?_;rw[<-p, <-q,kc (Nat.min_le_left _ _),kc (Nat.min_le_right _ _)]
theorem Vh{α:Type}:∀{l:List α}{i:Nat}{x:α},l[i]?=some x->l.Perm (x::l.eraseIdx i)
 | [],_,_,h=>by simp at h
 |y::l,0,x,h=>by simp at h; subst h; simp
 |y::l,i+1,x,h=>by
  have:=Vh (l:=l) (i:=i) (x:=x) (by simpa using h);exact(List.Perm.cons y this).trans (List.Perm.swap ..)
def need(kind:Str):Int:=if kind = "sign" then 7 else if kind = "small" then 2 else if kind = "one" then 2 else 3
structure Right(bits:Int)(ms:List Mk3):Prop where
 b:8<=bits/\bits<=32
 n:ms.length=5
 k:(ms.map (·.1)).Perm jF
 w:∀m∈ms,1<=m.2.1/\m.2.1<=bits-need m.1
 p:∀m∈ms,0<=m.2.2/\m.2.2<2^m.2.1.toNat
 d:ms.Pairwise λm m'=>Disj m.2 m'.2
theorem zC(k:Str):2<=need k:=by unfold need; split<;>(try split)<;>(try split)<;>decide
theorem Right.wd(r:Right bits ms):Wd ms:=λm hm=>by
 have:=r.w m hm;have h2:=zC m.1;have:=r.b;lia
theorem Right.kind(r:Right bits ms){kind:Str}(h:kind∈jF):∃m,OfKind ms kind m:=by
 have:kind∈ms.map (·.1):=r.k.mem_iff.mpr h;obtain⟨m,hm,e⟩:=UQ.mp this;cases q:ms.filter (λm=>decide (m.1=kind)) with
 |nil =>
  have:m∈ms.filter (λm=>decide (m.1=kind)):=UJ.mpr ⟨hm,by simp[e]⟩;rw[q] at this; cases this
 |cons m0 rest=>exact⟨m0,rest,q⟩
theorem Right.of_perm(r:Right bits ms)(h:ms.Perm ns):Right bits ns :=
 ⟨r.b,h.length_eq.symm.trans r.n,(h.map _).symm.trans r.k,λm hm=>r.w m (h.mem_iff.mpr hm),λm hm=>r.p m (h.mem_iff.mpr hm),(h.pairwise_iff λh=>h.symm).mp r.d⟩
theorem log2_lt{n:Int}(h0:0<n)(h1:n<2^62):n.natAbs.log2<9000:=by
 have:n.natAbs.log2<62:=(Nat.log2_lt (by lia)).mpr (by lia);lia
def T0:List Nd:=[(1,0),(2,1),(3,3),(4,7),(4,15)]
def T1:List Nd:=[(1,0),(3,1),(3,3),(3,5),(3,7)]
def T2:List Nd:=[(2,0),(2,1),(2,2),(3,3),(3,7)]
def Tbl(bits:Int)(t:List Nd):Prop:=t=T0\/t=T1\/(t=T2/\9<=bits)
def xm(mask:Int)(n:Nd):Nd:=(n.1,Builtin.bitXor n.2 mask % 2^n.1.toNat)
def fm(mask:Int)(o:Str)(n:Nd):Mk3:=(o,xm mask n)
def cnt(bits:Int)(t:List Nd):Nat:=(t.filter λn=>decide (n.1<=bits-7)).length
theorem cnt_pos(hb:8<=bits)(h:Tbl bits t):0<cnt bits t:=by
 unfold cnt;refine Re.mpr λe=>?_;rcases h with rfl|rfl|⟨rfl,h9⟩
 ·have:((1,0):Nd)∈T0.filter λn=>decide (n.1<=bits-7):=UJ.mpr ⟨by decide,by simp; lia⟩
  rw[e] at this; cases this
 ·have:((1,0):Nd)∈T1.filter λn=>decide (n.1<=bits-7):=UJ.mpr ⟨by decide,by simp; lia⟩
  rw[e] at this; cases this
 ·have:((2,0):Nd)∈T2.filter λn=>decide (n.1<=bits-7):=UJ.mpr ⟨by decide,by simp; lia⟩
  rw[e] at this; cases this
theorem Vv(h:Tbl bits t):t.length=5:=by rcases h with rfl|rfl|⟨rfl,_⟩<;>rfl
theorem tbl_w(h:Tbl bits t):∀n∈t,1<=n.1/\n.1<=4:=by rcases h with rfl|rfl|⟨rfl,_⟩<;>decide
theorem tbl_sign(hb:8<=bits)(h:Tbl bits t)(ha:at'<cnt bits t)(hn:t[at']?=some n):n.1<=bits-7:=by
 by_cases h11:11<=bits
 ·have:=(tbl_w h n (Ui hn)).2
  lia
 ·have hl:at'<5:=by
   have:=(Ue.mp hn).1;rw[Vv h] at this;exact this
  have key:∀b∈([8,9,10]:List Int),∀t∈[T0,T1,T2],∀i∈List.range 5,i<cnt b t->∀n∈t[i]?,n.1<=b-7:=by decide +kernel
  have hbm:bits∈([8,9,10]:List Int):=by
   rcases(show bits=8\/bits=9\/bits=10 by lia) with rfl|rfl|rfl<;>decide
  have htm:t∈[T0,T1,T2]:=by rcases h with rfl|rfl|⟨rfl,_⟩<;>simp
  exact key bits hbm t htm at' (Dt.mpr hl) ha n hn
theorem tbl_disj(h:Tbl bits t)(m0:0<=mask)(m1:mask<16):(t.map (xm mask)).Pairwise Disj:=by
 have key:∀k∈List.range 16,∀t∈[T0,T1,T2],(t.map (xm (k:Int))).Pairwise λa b=>a.2 % 2^(min a.1.toNat b.1.toNat)≠b.2 % 2^(min a.1.toNat b.1.toNat):=by decide +kernel
 obtain⟨k,rfl⟩:∃k:Nat,mask=(k:Int):=⟨mask.toNat,by lia⟩;have htm:t∈[T0,T1,T2]:=by rcases h with rfl|rfl|⟨rfl,_⟩<;>simp
 exact(key k (Dt.mpr (by lia)) t htm).imp λh=>disj_of h
def four:List Str:=["small","far","pair","one"]
theorem Gz{k:Str}(h:k ≠ "sign"):need k<=3:=by unfold need; rw[if_neg h]; split<;>(try split)<;>decide
theorem Qa:∀{os:List Str}{t:List Nd},os.length=t.length->(List.zipWith (fm mask) os t).map (·.2)=t.map (xm mask)
 | [], [],_=>rfl
 |o::os,n::t,h=>by
  have:=Qa (mask:=mask) (os:=os) (t:=t) (by simpa using h);simp only[RK,UB,this]; rfl
theorem Qb:∀{os:List Str}{t:List Nd},os.length=t.length->(List.zipWith (fm mask) os t).map (·.1)=os
 | [], [],_=>rfl
 |o::os,n::t,h=>by
  have:=Qb (mask:=mask) (os:=os) (t:=t) (by simpa using h);simp only[RK,UB,this]; rfl
theorem YM{ks:List Str}(hb:8<=bits/\bits<=32)(h:Tbl bits t)(m0:0<=mask)(m1:mask<16)(hk:ks.Perm four)(ha:at'<cnt bits t)(ha4:at'<=4) :
  Right bits (List.zipWith (fm mask) (ks.take at'++(["sign"]:List Str)++ks.drop at') t):=by
 have hk4:ks.length=4:=hk.length_eq;have hol:(ks.take at'++(["sign"]:List Str)++ks.drop at').length=t.length:=by
  rw[Vv h]; simp only[Uj,U0,DD,Um,UP]; lia
 have hns:∀k∈ks,k ≠ "sign" := λk hkm=>by
  have:k∈four:=hk.mem_iff.mp hkm;intro e; subst e; exact absurd this (by decide +kernel)
 have hget:∀m∈List.zipWith (fm mask) (ks.take at'++(["sign"]:List Str)++ks.drop at') t,∃i o n,(ks.take at'++(["sign"]:List Str)++ks.drop at')[i]?=some o/\t[i]?=some n/\m=fm mask o n:=λm hm=>by
  obtain⟨i,hi⟩:=List.mem_iff_getElem?.mp hm;rw[List.getElem?_zipWith_eq_some] at hi;obtain⟨o,n,h1,h2,h3⟩:=hi;exact⟨i,o,n,h1,h2,h3.symm⟩
 refine⟨hb, ?_, ?_,λm hm=>?_,λm hm=>?_, ?_⟩
 ·rw[List.length_zipWith,hol,Bm,Vv h]
 ·rw[Qb hol]
  have p1:(ks.take at'++(["sign"]:List Str)++ks.drop at').Perm ("sign" :: (ks.take at'++ks.drop at')):=by
   rw[Us]; exact List.perm_middle
  rw[RV] at p1;exact p1.trans ((List.Perm.cons _ hk).trans (by decide +kernel))
 ·obtain⟨i,o,n,h1,h2,rfl⟩:=hget m hm
  have hw:=tbl_w h n (Ui h2);show 1<=n.1/\n.1<=bits-need o;by_cases ho:o = "sign"
  ·have hi:i=at':=by
    have hl:(ks.take at').length=at':=by simp; lia
    rcases Nat.lt_trichotomy i at' with z|z|z
    ·rw[Us,Ug (by lia)] at h1
     have:o∈ks:=Dw (Ui h1);exact absurd ho (hns o this)
    ·exact z
    ·rw[Uo (by simp; lia)] at h1
     have:o∈ks:=D3 (Ui h1);exact absurd ho (hns o this)
   subst hi;have:=tbl_sign hb.1 h ha h2;rw[ho];have e7:need "sign" = 7:=by decide +kernel
   rw[e7]; lia
  ·have:=Gz ho
   lia
 ·obtain⟨i,o,n,h1,h2,rfl⟩:=hget m hm
  exact⟨U6 _ (Ro (vk _)),U3 _ (vk _)⟩
 ·have:=tbl_disj h m0 m1
  rw[<-Qa hol,Rz] at this;exact this
def L0:List Str:=["small","far","pair","one"]
def L1:List Str:=["far","one","small","pair"]
def rot(L:List Str)(α:Nat):List Str:=((L++L).drop α).take 4
theorem rot_perm(h:L=L0\/L=L1)(ha:α<4):(rot L α).Perm four:=by
 have key:∀L∈[L0,L1],∀α∈List.range 4,(rot L α).Perm four:=by decide +kernel
 exact key L (by rcases h with rfl|rfl<;>simp) α (Dt.mpr ha)
structure LInv(bits:Int)(KS:List Str)(i:Nat)(ns:List Nd)(ms:List Mk3):Prop where
 ok:∀n∈ns,NdOk n
 low:∃n∈ns,n.1<=i
 len:ns.length<=1+31*i
 kinds:ms.map (·.1)=KS.take i
 w:∀m∈ms,1<=m.2.1/\m.2.1<=bits-need m.1
 p:∀m∈ms,NdOk m.2
 d:(ns++ms.map (·.2)).Pairwise Disj
structure WInv(i:Nat)(w0:Int)(c:Nd)(ns:List Nd)(ms:List Mk3):Prop where
 cok:NdOk c
 w:w0<=c.1
 ok:∀n∈ns,NdOk n
 low:(∃n∈ns,n.1<=i+1)\/(c.1=w0/\w0<=i)
 len:(ns.length:Int)<=31*i+c.1
 d:(c::(ns++ms.map (·.2))).Pairwise Disj
theorem LInv.pick(h:LInv bits KS i ns ms)(hj:ns[j]?=some n):WInv i n.1 n (ns.eraseIdx j) ms:=by
 have hp:=Vh hj;have hn:n∈ns:=Ui hj;have hl:=hp.length_eq;have:=h.len;have hok:=h.ok n hn;refine⟨hok,UU _,λm hm=>h.ok m (List.mem_of_mem_eraseIdx hm), ?_, ?_, ?_⟩
 ·obtain⟨m,hm,hw⟩:=h.low
  rcases Uv.mp (hp.mem_iff.mp hm) with rfl|z
  ·exact .inr ⟨rfl,hw⟩
  ·exact .inl ⟨m,z,by lia⟩
 ·have:=hok.1
  simp only[Um] at hl;lia
 ·exact((hp.append_right (ms.map (·.2))).pairwise_iff λh=>h.symm).mp h.d
theorem WInv.step(h:WInv i w0 c ns ms)(hs:s=0\/s=1)(h59:c.1<=59):WInv i w0 (zS c s) (ns++[zS c (1-s)]) ms:=by
 have hs':1-s=0\/1-s=1:=by lia
 obtain⟨dc,dr⟩:=U4.mp h.d;have cw:(zS c s).1=c.1+1:=rfl;refine⟨Yb h.cok h59 hs,by rw[cw]; have:=h.w; lia,λn hn=>?_, ?_, ?_, ?_⟩
 ·rcases Uw.mp hn with z|z
  ·exact h.ok n z
  ·rw[Uu.mp z]; exact Yb h.cok h59 hs'
 ·rcases h.low with⟨n,hn,hw⟩|⟨e,hw⟩
  ·exact .inl ⟨n,UD _ hn,hw⟩
  ·exact .inl ⟨zS c (1-s),UM _ (Uu.mpr rfl),by show c.1+1<=_; lia⟩
 ·have:=h.len
  rw[cw,Uj,Dg];push_cast; lia
 ·have p1:(zS c s::(ns++[zS c (1-s)]++ms.map (·.2))).Perm (zS c s::zS c (1-s)::(ns++ms.map (·.2))):=by
   refine List.Perm.cons _ ?_;rw[Us];exact List.perm_middle
  refine(p1.pairwise_iff λh=>h.symm).mpr ?_;refine U4.mpr ⟨λn hn=>?_,U4.mpr ⟨λn hn=>Vq h.cok (dc n hn),dr⟩⟩;rcases Uv.mp hn with rfl|z
  ·exact qaG (by lia)
  ·exact Vq h.cok (dc n z)
theorem WInv.fin(h:WInv i w0 c ns ms)(h0:LInv bits KS i ns0 ms)(hk:KS[i]?=some kind)(hg:c.1=goal)(hw:w0<goal)(h1:1<=goal)(h2:goal<=bits-need kind)(h31:goal<=31) :
  LInv bits KS (i+1) ns (ms++[(kind,c)]):=by
 have hl:=h.len;refine⟨h.ok, ?_, ?_, ?_,λm hm=>?_,λm hm=>?_, ?_⟩
 ·rcases h.low with⟨n,hn,hw'⟩|⟨e,_⟩
  ·exact⟨n,hn,by push_cast; exact hw'⟩
  ·lia
 ·lia
 ·rw[Ux,h0.kinds,vC hk]; rfl
 ·rcases Uw.mp hm with z|z
  ·exact h0.w m z
  ·rw[Uu.mp z]; exact⟨by show 1<=c.1; lia,by show c.1<=bits-need kind; lia⟩
 ·rcases Uw.mp hm with z|z
  ·exact h0.p m z
  ·rw[Uu.mp z]; exact h.cok
 ·rw[Ux, <-Us]
  have p1:(ns++ms.map (·.2)++[c]).Perm (c::(ns++ms.map (·.2))):=RW;exact(p1.pairwise_iff λh=>h.symm).mpr h.d
theorem LInv.right(h:LInv bits KS 5 ns ms)(hK:KS.Perm jF)(hb:8<=bits/\bits<=32):Right bits ms:=by
 have hl:KS.length=5:=hK.length_eq;have hk:ms.map (·.1)=KS:=by rw[h.kinds,DY (by lia)]
 refine⟨hb, ?_,by rw[hk]; exact hK,h.w,λm hm=>⟨(h.p m hm).2.2.1,(h.p m hm).2.2.2⟩, ?_⟩
 ·have:=congrArg List.length hk
  rw[Uh,hl] at this;exact this
 ·have:=(DO.mp h.d).2.1
  rw[Rz] at this;exact this
theorem ks_low{α i:Nat}(hb:8<=bits)(hp:(rot L α).Perm four)(hk:(("sign" : Str)::rot L α)[i]?=some kind):(i:Int)<bits-need kind/\kind∈jF/\i<5:=by
 have hl:(rot L α).length=4:=hp.length_eq;cases i with
 |zero =>
  simp at hk; subst hk;have e7:need "sign" = 7:=by decide +kernel
  rw[e7];exact⟨by lia,by decide +kernel,by lia⟩
 |succ i =>
  simp at hk;have hm:kind∈four:=hp.mem_iff.mp (Ui hk);have hi:=(Ue.mp hk).1;have hns:kind ≠ "sign" := λe=>by subst e; exact absurd hm (by decide +kernel)
  have:=Gz hns;have sub:∀k∈four,k∈jF:=by decide +kernel
  exact⟨by push_cast; lia,sub kind hm,by lia⟩
theorem K0{α:Type}[DecidableEq α]:∀{l:List α}{x:α},x∈l->∃j:Nat,l[j]?=some x/\∀m:Nat,m<j->l[m]?≠some x
 | [],_,h=>by cases h
 |y::l,x,h=>by
  by_cases e:y=x
  ·exact⟨0,by simp[e],λm hm=>by lia⟩
  ·have:x∈l:=by
    rcases Uv.mp h with z|z
    ·exact absurd z.symm e
    ·exact z
   obtain⟨j,h1,h2⟩:=K0 this;refine⟨j+1,by simpa using h1,λm hm=>?_⟩;cases m with
   |zero=>simpa using e
   |succ m=>simpa using h2 m (by lia)
theorem OfKind.mem(h:OfKind ms kind m):m∈ms:=by
 obtain⟨rest,e⟩:=h;have:m∈ms.filter (λm=>decide (m.1=kind)):=by rw[e]; exact UN
 exact(UJ.mp this).1
theorem OfKind.is(h:OfKind ms kind m):m.1=kind:=by
 obtain⟨rest,e⟩:=h;have:m∈ms.filter (λm=>decide (m.1=kind)):=by rw[e]; exact UN
 exact of_decide_eq_true (UJ.mp this).2
def vK(m:Mk3):T:=.tup [.str m.1, .int m.2.1, .int m.2.2]
def layT(bits:Int)(ms:List Mk3):T:=.tup [.int bits, .lst (ms.map vK)]
def ndT(n:Nd):T:=.tup [.int n.1, .int n.2]
def X0(ks:List Str):T:=.lst (ks.map T.str)
theorem K6{α:Type}{f:α->T}{xs:List α}{a b:Nat}(h1:a<=b)(h2:b<=xs.length):cutT (xs.map f) (some (a:Int)) (some (b:Int))=((xs.drop a).take (b-a)).map f:=by
 unfold cutT;have e1:HT.sIx (xs.map f).length 0 (some (a:Int))=min a (xs.map f).length:=HT.sIx_nat _ _ a;have e2:HT.sIx (xs.map f).length (xs.map f).length (some (b:Int))=min b (xs.map f).length:=HT.sIx_nat _ _ b;rw[e1,e2];simp only[Uh];rw[DA (show a<=xs.length by lia),DA h2,Be,Bf]
theorem XF{α:Type}{f:α->T}{xs:List α}{a:Nat}(h:a<=xs.length):cutT (xs.map f) none (some (a:Int))=(xs.take a).map f:=by
 unfold cutT;have e1:HT.sIx (xs.map f).length 0 none=0:=rfl;have e2:HT.sIx (xs.map f).length (xs.map f).length (some (a:Int))=min a (xs.map f).length:=HT.sIx_nat _ _ a;rw[e1,e2];simp only[Uh,R4,Nat.sub_zero,DA h,Be]
theorem XG{α:Type}{f:α->T}{xs:List α}{a:Nat}(h:a<=xs.length):cutT (xs.map f) (some (a:Int)) none=(xs.drop a).map f:=by
 unfold cutT;have e1:HT.sIx (xs.map f).length 0 (some (a:Int))=min a (xs.map f).length:=HT.sIx_nat _ _ a;have e2:HT.sIx (xs.map f).length (xs.map f).length none=(xs.map f).length:=rfl;rw[e1,e2];simp only[Uh,DA h];rw[DY (by simp),Bf]
theorem atT{α:Type}{f:α->T}{xs:List α}{i:Nat}{x:α}(h:xs[i]?=some x):atI (xs.map f) (i:Int)=some (f x):=ju (by rw[Uz,h]; rfl)
abbrev je:Stmt:=top 53
theorem scFullLaying:FnScope ["bag","bits","order","rows","some","mask","at"] ["bag","bits","order"] (qg je):=⟨rfl,rfl,rfl,by decide +kernel,rfl,by decide +kernel,by decide +kernel⟩
theorem V8:(["bag","bits","order","rows","some","mask","at","one"]:List Str).Nodup:=by decide +kernel
theorem V7:(["bag","bits","order","rows","some","mask","at","k"]:List Str).Nodup:=by decide +kernel
def gFull:List U->MM->UK->Prop:=λus M Q=>∃(k:Nat)(o:MO)(bits:Int)(ks:List Str),us=[.m k, .p (.int bits), .p (X0 ks)]/\M[k]?=some o/\BagO o/\ks.Perm four/\(8<=bits/\bits<=32)/\∀(o':MO)(ms:List Mk3),BagO o'->Right bits ms->Q (.p (layT bits ms)) (M.set k o')
theorem ok_fullU(F:Fun Ξ "_law_full_laying" "_law_full_laying" je f fd)(N:Nms mg)(DDraw:Def P w Ξ mg base "_law_draw" 1 ["bag","many"] (spU JN)):FnOk P w Ξ mg base CX0 2 f fd ["bag","bits","order"] (spU gFull):=by
 refine F.zV scFullLaying (λus M Qu h=>?_) (λcdv A outer s H E hr=>?_)
 ·obtain⟨_,_,_,_,rfl,_⟩:=h
  rfl
 refine⟨_,(qf (qB (i:=3) scFullLaying.nd rfl W6 (qN (qa_c (qN (qa_c (vc (qa_c qe (qa_c qe qd))) (qa_c (vc (qa_c qe (qa_c qe qd))) (qa_c (vc (qa_c qe (qa_c qe qd))) (qa_c (vc (qa_c qe (qa_c qe qd))) (qa_c (vc (qa_c qe (qa_c qe qd))) qd)))))) (qa_c (qN (qa_c (vc (qa_c qe (qa_c qe qd))) (qa_c (vc (qa_c qe (qa_c qe qd))) (qa_c (vc (qa_c qe (qa_c qe qd))) (qa_c (vc (qa_c qe (qa_c qe qd))) (qa_c (vc (qa_c qe (qa_c qe qd))) qd)))))) qd))))
  (qf (vg (j6 PySem.F.slot_list_append PySem.F.type_list_append vJ (qv 3) (qa_c (qN (qa_c (vc (qa_c qe (qa_c qe qd))) (qa_c (vc (qa_c qe (qa_c qe qd))) (qa_c (vc (qa_c qe (qa_c qe qd))) (qa_c (vc (qa_c qe (qa_c qe qd))) (qa_c (vc (qa_c qe (qa_c qe qd))) qd)))))) qd)))
  (qf (qB (i:=4) scFullLaying.nd rfl GM (qA (Ua Ξ) (qv 3) (qk DDraw (WR hr) (qa_c (qv 0) (qa_c (qq qO qe (vp qaQ (by rfl) N.int b_int (qa_c (zz op_gt (qv 1) qe (qI _)) qd))) qd))) (λ_ _=>rfl)))
  (qf (qB (i:=5) scFullLaying.nd rfl GM (qk DDraw (WR hr) (qa_c (qv 0) (qa_c qe qd))))
  (qf (qB (i:=6) scFullLaying.nd rfl W6 (qk DDraw (WR hr) (qa_c (qv 0) (qa_c (vb vZ (by rfl) N.len Vc (qa_c (ZW [false,true,false,false,false,false,false] ["one"] (vO (Ξ:=Ξ) rfl (qv 4)) (λ_ _ _=>(vD (i:=7) V8 rfl W6)) (λ_ _ _=>Qy (qF op_le (qA (Ub Ξ) (qv 7) qe (λ_ _=>rfl)) (qq zt (qv 1) qe) (qI _))) (λ_ _ _=>(qv 7))) qd)) qd))))
  (qf (qB (i:=2) scFullLaying.nd rfl GM (qq zH (qq zH (vS (GP Ξ) (qv 2) j5 (vN (qv 6))) (qN (qa_c qK qd))) (vS (GP Ξ) (qv 2) (vN (qv 6)) j5)))
  (qi (qw (vc (qa_c (qv 1) (qa_c (ZW [false,false,true,false,true,true,false] ["k"] (ZV rfl N.range (qa_c qe qd)) (λ_ _ _=>(vD (i:=7) V7 rfl W6)) (λ_ _ _=>VX) (λ_ _ _=>(vc (qa_c (qA (Ua Ξ) (qv 2) (qv 7) (λ_ _=>rfl)) (qa_c (qA (Ub Ξ) (qA (Ua Ξ) (qv 4) (qv 7) (λ_ _=>rfl)) qe (λ_ _=>rfl)) (qa_c (qq zu (qq op_xor (qA (Ub Ξ) (qA (Ua Ξ) (qv 4) (qv 7) (λ_ _=>rfl)) qe (λ_ _=>rfl)) (qv 5)) (qq zG qe (qA (Ub Ξ) (qA (Ua Ξ) (qv 4) (qv 7) (λ_ _=>rfl)) qe (λ_ _=>rfl)))) qd)))))) qd))))))))))),_,(qh (qx (xV (qa (vB (qa (vA (qa WS (qa WS qc))) (qa (vA (qa WS (qa WS qc))) (qa (vA (qa WS (qa WS qc))) (qa (vA (qa WS (qa WS qc))) (qa (vA (qa WS (qa WS qc))) qc)))))) (qa (vB (qa (vA (qa WS (qa WS qc))) (qa (vA (qa WS (qa WS qc))) (qa (vA (qa WS (qa WS qc))) (qa (vA (qa WS (qa WS qc))) (qa (vA (qa WS (qa WS qc))) qc)))))) qc))) (qm 3))
   (qh (vi (ko vF (qb 3) (qa (vB (qa (vA (qa WS (qa WS qc))) (qa (vA (qa WS (qa WS qc))) (qa (vA (qa WS (qa WS qc))) (qa (vA (qa WS (qa WS qc))) (qa (vA (qa WS (qa WS qc))) qc)))))) qc)))
   (qh (qx (ve (qb 3) (qt (qa (qb 0) (qa (qo (qE λ_ _=>.int _) WS (Q4 cbl_int (qa (qo (qE λ_ _=>.bl _) (qb 1) WS) qc))) qc)))) (qm 4))
   (qh (qx (qt (qa (qb 0) (qa WS qc))) (qm 5))
   (qh (qx (qt (qa (qb 0) (qa (Q3 (qa (jt (zE (qb 4)) (zT 7) (qL (qo (qE λ_ _=>.bl _) (qW (qb 7) WS) (qo (qE λ_ _=>.int _) (qb 1) WS))) (qb 7)) qc)) qc))) (qm 6))
   (qh (qx (qo zA (qo zA (Zo (qb 2) Zn (vY (qb 6))) (vB (qa W1 qc))) (Zo (qb 2) (vY (qb 6)) Zn)) (qm 2))
   (qy (vA (qa (qb 1) (qa (jt (qaF (qa WS qc)) (zT 7) qay (vA (qa (ve (qb 2) (qb 7)) (qa (qW (ve (qb 4) (qb 7)) WS) (qa (qo (v3 λ_ _=>.int _) (qo (qE λ_ _=>.int _) (qW (ve (qb 4) (qb 7)) WS) (qb 5)) (qo (v3 λ_ _=>.int _) WS (qW (ve (qb 4) (qb 7)) WS))) qc))))) qc)))))))))),λus M M1 Qu e1 h=>?_⟩
 obtain⟨k,o,bits,ks,rfl,em,hB,hk,hb,post⟩:=h;obtain⟨hkl,eM⟩:=Yi em;rw[e1.trans eM];nofun;refine⟨by show 2<sizeLine; decide, ?_⟩;have hmany:(2:Int)<=2+(if 8<bits then 1 else 0)/\(2:Int)+(if 8<bits then 1 else 0)<=3:=by split<;>lia
 refine v9 hkl hB (by lia) (log2_lt (by lia) (by lia)) λd o1 d0 d1 B1=>?_;have hpick:∃t,atI [U.p (.lst (T0.map ndT)), .p (.lst (T1.map ndT)), .p (.lst (T2.map ndT))] d=some (.p (.lst (t.map ndT)))/\Tbl bits t:=by
  rcases(show d=0\/d=1\/d=2 by lia) with rfl|rfl|rfl
  ·exact⟨T0,rfl, .inl rfl⟩
  ·exact⟨T1,rfl, .inr (.inl rfl)⟩
  ·exact⟨T2,rfl, .inr (.inr ⟨rfl,by split at d1<;>lia⟩)⟩
 obtain⟨t,hat,hT⟩:=hpick;refine jn (by simp only[qD,MB_get]; rfl) hat ?_;refine v9 hkl B1 (by decide) (by decide) λmask o2 m0 m1 B2=>?_;have ht5:=Vv hT;nofun;refine zi (by rw[Uh,ht5]; decide) (λi acc M'=>M'=MB M k o2 [MO.lst [U.p (.lst (T0.map ndT)), .p (.lst (T1.map ndT)), .p (.lst (T2.map ndT))]]/\acc=((t.take i).filter λn=>decide (n.1<=bits-7)).map ndT) ⟨rfl,rfl⟩ ?_ ?_
 ·rintro i x acc M' hx _ ⟨rfl,rfl⟩
  obtain⟨n,hn,rfl⟩:∃n,t[i]?=some n/\x=ndT n:=by
   rw[Uz] at hx;cases e:t[i]? with
   |none=>rw[e] at hx; cases hx
   |some n=>rw[e] at hx; cases hx; exact⟨n,rfl,rfl⟩
  nofun;rw[vC hn,Dl,Ux];refine ite2 (λhh=>?_) (λhh=>?_)<;>simp[hh]
 ·rintro acc M' ⟨rfl,rfl⟩
  rw[Uh,U7];nofun;have hcl:(((t.filter λn=>decide (n.1<=bits-7)).map ndT).length:Int)=(cnt bits t:Int):=by rw[Uh]; rfl
  rw[hcl];have hcp:=cnt_pos hb.1 hT;have hc5:cnt bits t<=5:=by
   have:=DL (λn:Nd=>decide (n.1<=bits-7)) t;rw[ht5] at this;exact this
  refine v9 hkl B2 (by lia) (log2_lt (by lia) (by lia)) λα o3 α0 α1 B3=>?_;obtain⟨at',rfl⟩:∃j:Nat,α=(j:Int):=⟨α.toNat,by lia⟩;have hk4:ks.length=4:=hk.length_eq;have ha4:at'<=4:=by lia
  unfold X0;nofun;rw[XF (by lia),XG (by lia)];have hright:=YM (mask:=mask) hb hT m0 m1 hk (by lia) ha4;have hlo:(ks.take at'++(["sign"]:List Str)++ks.drop at').length=5:=by simp; lia
  have em2:(ks.take at').map T.str++[T.str "sign"]++(ks.drop at').map T.str=(ks.take at'++(["sign"]:List Str)++ks.drop at').map T.str:=by simp
  refine⟨by simp; exact U2 (qV (by lia)),by simp; exact U2 (qV (by lia)),rng_at (by decide) (by decide) ?_⟩;rw[em2];generalize ks.take at'++(["sign"]:List Str)++ks.drop at'=os at hright hlo ⊢;refine YY (by decide) (λi acc M'=>M'=MB M k o3 [MO.lst [U.p (.lst (T0.map ndT)), .p (.lst (T1.map ndT)), .p (.lst (T2.map ndT))]]/\acc=((List.zipWith (fm mask) os t).take i).map vK) ⟨rfl,rfl⟩ ?_ ?_
  ·rintro i acc M' hi _ ⟨rfl,rfl⟩
   have hi5:i<5:=hi;have hoi:os[i]?=some (os[i]'(by lia)):=Uf _;have hti:t[i]?=some (t[i]'(by lia)):=Uf _;have hw:=tbl_w hT _ (Ui hti);have hz:(List.zipWith (fm mask) os t)[i]?=some (fm mask (os[i]'(by lia)) (t[i]'(by lia))):=by
    rw[List.getElem?_zipWith,hoi,hti]
   nofun;refine vU (atT hoi) ?_;refine vU (atT hti) ?_;nofun;refine vU (atT hti) ?_;nofun;refine vU (atT hti) ?_;nofun;refine⟨⟨by lia,by lia,by decide⟩, ?_, ?_⟩
   ·rw[Da]; exact vk _
   ·rw[vC hz,Ux,Da]
    rfl
  ·rintro acc M' ⟨rfl,rfl⟩
   have e5:(Int.toNat 5)=(List.zipWith (fm mask) os t).length:=by rw[hright.n]<;>rfl
   rw[e5,U7];nofun;refine⟨Kb B3.pur, ?_⟩;rw[Kc];exact post o3 _ B3 hright
abbrev Jm:Stmt:=top 54
theorem scLaying:FnScope ["bag","bits","kinds","at","most","free","marks","kind","some","width","pattern","goal","side","turn"] ["bag"] (qg Jm):=⟨rfl,rfl,rfl,by decide +kernel,rfl,by decide +kernel,by decide +kernel⟩
theorem GA:(["bag","bits","kinds","at","most","free","marks","kind","some","width","pattern","goal","side","turn","node"]:List Str).Nodup:=by decide +kernel
def JM:List U->MM->UK->Prop:=λus M Q=>∃(k:Nat)(o:MO),us=[.m k]/\M[k]?=some o/\BagO o/\∀(o':MO)(bits:Int)(ms:List Mk3),BagO o'->Right bits ms->Q (.p (layT bits ms)) (M.set k o')
abbrev Xe(bits:Int):List (Key×U):=[(.inr "sign", .p (.int (bits-7))),(.inr "small", .p (.int (bits-2))),(.inr "one", .p (.int (bits-2))),(.inr "far", .p (.int (bits-3))),(.inr "pair", .p (.int (bits-3)))]
theorem GE(h:kind∈jF):valU (xT [] (Xe bits)) (.inr kind)=some (.p (.int (bits-need kind))):=by
 have e:xT [] (Xe bits)=Xe bits:=rfl;rw[e];have h':kind = "small" \/ kind = "far" \/ kind = "pair" \/ kind = "sign" \/ kind = "one" := by simpa[jF] using h
 rcases h' with rfl|rfl|rfl|rfl|rfl<;>rfl
theorem nd_eqT:EqT (n+1) (ndT a) (ndT b) (decide (a=b)):=by
 have h:=EqT.tup (n:=n) (xs:=[.int a.1, .int a.2]) (ys:=[.int b.1, .int b.2]) (e:=λj=>if j=0 then decide (a.1=b.1) else decide (a.2=b.2)) (λj x y hx hy=>by
  match j,hx,hy with
  |0,hx,hy =>
   cases hx; cases hy;have:=EqT.flat (n:=n) (a:=.int a.1) (b:=.int b.1) rfl rfl;rw[show eqV (.int a.1) (.int b.1)=decide (a.1=b.1) by simp[eqV,RX]] at this; exact this
  |1,hx,hy =>
   cases hx; cases hy;have:=EqT.flat (n:=n) (a:=.int a.2) (b:=.int b.2) rfl rfl;rw[show eqV (.int a.2) (.int b.2)=decide (a.2=b.2) by simp[eqV,RX]] at this; exact this
  |j+2,hx,_=>cases hx)
 have e:((List.range (min [T.int a.1,T.int a.2].length [T.int b.1,T.int b.2].length)).all (λj=>if j=0 then decide (a.1=b.1) else decide (a.2=b.2))&&[T.int a.1,T.int a.2].length==[T.int b.1,T.int b.2].length)=decide (a=b):=by
  obtain⟨a1,a2⟩:=a;obtain⟨b1,b2⟩:=b;simp[List.range_succ]
 rw[e] at h;exact h
theorem Yw(F:Fun Ξ "_law_laying" "_law_laying" Jm f fd)(N:Nms mg)(DDraw:Def P w Ξ mg base "_law_draw" 1 ["bag","many"] (spU JN))(DFullLaying:Def P w Ξ mg base "_law_full_laying" 2 ["bag","bits","order"] (spU gFull)):FnOk P w Ξ mg base CX0 3 f fd ["bag"] (spU JM):=by
 refine F.zV scLaying (λus M Qu h=>?_) (λcdv A outer s H E hr=>?_)
 ·obtain⟨_,_,rfl,_⟩:=h
  rfl
 refine⟨_,(qf (qB (i:=1) scLaying.nd rfl W6 (qA (Ua Ξ) (qN (qa_c qe (qa_c qe (qa_c qe (qa_c qe (qa_c qe (qa_c qe (qa_c qe (qa_c (qq qO qe (qk DDraw (WR hr) (qa_c (qv 0) (qa_c qe qd)))) qd))))))))) (qk DDraw (WR hr) (qa_c (qv 0) (qa_c qe qd))) (λ_ _=>rfl)))
  (qf (qB (i:=2) scLaying.nd rfl W6 (qq Z2 (qA (Ua Ξ) (qN (qa_c (qN (qa_c qK (qa_c qK (qa_c qK (qa_c qK qd))))) (qa_c (qN (qa_c qK (qa_c qK (qa_c qK (qa_c qK qd))))) qd))) (qk DDraw (WR hr) (qa_c (qv 0) (qa_c qe qd))) (λ_ _=>rfl)) qe))
  (qf (qB (i:=3) scLaying.nd rfl W6 (qk DDraw (WR hr) (qa_c (qv 0) (qa_c qe qd))))
  (qf (v6 (qF zB (qk DDraw (WR hr) (qa_c (qv 0) (qa_c qe qd))) qe (qI _))
   (qi (qw (qk DFullLaying (WR hr) (qa_c (qv 0) (qa_c (qv 1) (qa_c (vS (GP Ξ) (qv 2) (vN (qv 3)) (vN (qq qO (qv 3) qe))) qd))))))
   va)
  (qf (qB (i:=4) scLaying.nd rfl GM (qe_disp (jA qK (qq zt (qv 1) qe) (jA qK (qq zt (qv 1) qe) (jA qK (qq zt (qv 1) qe) (jA qK (qq zt (qv 1) qe) (jA qK (qq zt (qv 1) qe) qps_nil))))) rfl rfl (λz=>nomatch z) (by decide)))
  (qf (qB (i:=5) scLaying.nd rfl W6 (qN (qa_c (vc (qa_c qe (qa_c qe qd))) qd)))
  (qf (qB (i:=6) scLaying.nd rfl W6 (qN qd))
  (qf (Qz PassesOwn.never rfl (vO (Ξ:=Ξ) rfl (qq zH (qN (qa_c qK qd)) (vS (GP Ξ) (qv 2) (vN (qv 3)) (vN (qq qO (qv 3) qe))))) (vD (i:=7) scLaying.nd rfl GM)
   (qf (qs_lc (i:=8) [false,false,false,false,true,false,false,true,false,false,false,false,false,false] ["node"] scLaying.nd rfl rfl (vO (Ξ:=Ξ) rfl (qv 5)) (λ_ _ _=>(vD (i:=14) GA rfl W6)) (λ_ _ _=>Qy (qF Z3 (qA (Ub Ξ) (qv 14) qe (λ_ _=>rfl)) (Ju (JJ hr) (qv 4) (qv 7) (λ_ _=>rfl)) (qI _))) (λ_ _ _=>(qv 14)))
   (qf (v5 (qA (Ua Ξ) (qv 8) (qk DDraw (WR hr) (qa_c (qv 0) (qa_c (vb vZ (by rfl) N.len Vc (qa_c (qv 8) qd)) qd))) (λ_ _=>rfl)) (qg_t2K (Ξ:=Ξ) (i:=9) (j:=10) rfl scLaying.nd rfl rfl rfl W6 W6 W6 W6))
   (qf (vg (j6 PySem.F.slot_list_remove PySem.F.type_list_remove (YA (Ξ:=Ξ) rfl hr.units) (qv 5) (qa_c (vc (qa_c (qv 9) (qa_c (qv 10) qd))) qd)))
   (qf (qB (i:=11) scLaying.nd rfl W6 (vb (qaP rfl) (by rfl) N.min b_min (qa_c (Ju (JJ hr) (qv 4) (qv 7) (λ_ _=>rfl)) (qa_c (qq qO (qv 9) (qA (Ua Ξ) (qN (qa_c qe (qa_c qe (qa_c qe (qa_c qe (qa_c (qq qO qe (qk DDraw (WR hr) (qa_c (qv 0) (qa_c qe qd)))) qd)))))) (qk DDraw (WR hr) (qa_c (qv 0) (qa_c qe qd))) (λ_ _=>rfl))) qd))))
   (qf (VY PassesOwn.never (qF Z3 (qv 9) (qv 11) (qI _))
    (qf (qB (i:=12) scLaying.nd rfl W6 (qk DDraw (WR hr) (qa_c (qv 0) (qa_c qe qd))))
    (qf (vg (j6 PySem.F.slot_list_append PySem.F.type_list_append vJ (qv 5) (qa_c (vc (qa_c (qq qO (qv 9) qe) (qa_c (qq qO (qv 10) (qq zG (qq zt qe (qv 12)) (qv 9))) qd))) qd)))
    (qf (qB (i:=10) scLaying.nd rfl W6 (qq qO (qv 10) (qq zG (qv 12) (qv 9))))
    (qi (qB (i:=9) scLaying.nd rfl W6 (qq qO (qv 9) qe)))))))
   (qi (vg (j6 PySem.F.slot_list_append PySem.F.type_list_append vJ (qv 6) (qa_c (vc (qa_c (qv 7) (qa_c (qv 9) (qa_c (qv 10) qd)))) qd))))))))))
  (qf (qB (i:=13) scLaying.nd rfl W6 (qk DDraw (WR hr) (qa_c (qv 0) (qa_c qe qd))))
  (qi (qw (vc (qa_c (qv 1) (qa_c (qq zH (vS (GP Ξ) (qv 6) (vN (qv 13)) j5) (vS (GP Ξ) (qv 6) j5 (vN (qv 13)))) qd)))))))))))))),_,(qh (qx (ve (vB (qa WS (qa WS (qa WS (qa WS (qa WS (qa WS (qa WS (qa (qo (qE λ_ _=>.int _) WS (qt (qa (qb 0) (qa WS qc)))) qc))))))))) (qt (qa (qb 0) (qa WS qc)))) (qm 1))
   (qh (qx (qo V1 (ve (vB (qa (vB (qa W1 (qa W1 (qa W1 (qa W1 qc))))) (qa (vB (qa W1 (qa W1 (qa W1 (qa W1 qc))))) qc))) (qt (qa (qb 0) (qa WS qc)))) WS) (qm 2))
   (qh (qx (qt (qa (qb 0) (qa WS qc))) (qm 3))
   (qh (vX (qL (qo ze (qt (qa (qb 0) (qa WS qc))) WS))
   (qy (qt (qa (qb 0) (qa (qb 1) (qa (Zo (qb 2) (vY (qb 3)) (vY (qo (qE λ_ _=>.int _) (qb 3) WS))) qc)))))
   qR)
   (qh (qx (ce_disp (Q0 W1 (qo (qE λ_ _=>.int _) (qb 1) WS) (Q0 W1 (qo (qE λ_ _=>.int _) (qb 1) WS) (Q0 W1 (qo (qE λ_ _=>.int _) (qb 1) WS) (Q0 W1 (qo (qE λ_ _=>.int _) (qb 1) WS) (Q0 W1 (qo (qE λ_ _=>.int _) (qb 1) WS) cp_nil)))))) (qm 4))
   (qh (qx (xV (qa (vA (qa WS (qa WS qc))) qc)) (qm 5))
   (qh (qx (xV qc) (qm 6))
   (qh (Vp (zE (qo zA (vB (qa W1 qc)) (Zo (qb 2) (vY (qb 3)) (vY (qo (qE λ_ _=>.int _) (qb 3) WS))))) (qm 7)
   (qh (qx (jt (zE (qb 5)) (zT 14) (qL (qo (qE λ_ _=>.bl _) (qW (qb 14) WS) (qaM (qb 4) (qb 7)))) (qb 14)) (qm 8))
   (qh (qx (ve (qb 8) (qt (qa (qb 0) (qa (Q3 (qa (qb 8) qc)) qc)))) (cg_name2 9 10))
   (qh (vi (ko YC (qb 5) (qa (vA (qa (qb 9) (qa (qb 10) qc))) qc)))
   (qh (qx (Q4 cbl_min (qa (qaM (qb 4) (qb 7)) (qa (qo (qE λ_ _=>.int _) (qb 9) (ve (vB (qa WS (qa WS (qa WS (qa WS (qa (qo (qE λ_ _=>.int _) WS (qt (qa (qb 0) (qa WS qc)))) qc)))))) (qt (qa (qb 0) (qa WS qc))))) qc))) (qm 11))
   (qh (Zl (qL (qo (qE λ_ _=>.bl _) (qb 9) (qb 11)))
   (qh (qx (qt (qa (qb 0) (qa WS qc))) (qm 12))
   (qh (vi (ko vF (qb 5) (qa (vA (qa (qo (qE λ_ _=>.int _) (qb 9) WS) (qa (qo (qE λ_ _=>.int _) (qb 10) (qo (v3 λ_ _=>.int _) (qo (qE λ_ _=>.int _) WS (qb 12)) (qb 9))) qc))) qc)))
   (qh (qx (qo (qE λ_ _=>.int _) (qb 10) (qo (v3 λ_ _=>.int _) (qb 12) (qb 9))) (qm 10))
   (qx (qo (qE λ_ _=>.int _) (qb 9) WS) (qm 9))))))
   (vi (ko vF (qb 6) (qa (vA (qa (qb 7) (qa (qb 9) (qa (qb 10) qc)))) qc)))))))))
   (qh (qx (qt (qa (qb 0) (qa WS qc))) (qm 13))
   (qy (vA (qa (qb 1) (qa (qo zA (Zo (qb 6) (vY (qb 13)) Zn) (Zo (qb 6) Zn (vY (qb 13)))) qc))))))))))))),λus M M1 Qu e1 h=>?_⟩
 obtain⟨k,o,rfl,em,hB,post⟩:=h;obtain⟨hkl,eM⟩:=Yi em;rw[e1.trans eM];nofun;refine v9 hkl hB (by decide) (by decide) λe o1 e0 e1 B1=>?_;nofun;refine v9 hkl B1 (by decide) (by decide) λd o2 d0 d1 B2=>?_;have hbits:∃bits:Int,atI [T.int 8, .int 9, .int 10, .int 12, .int 16, .int 24, .int 32, .int (8+e)] d=some (.int bits)/\8<=bits/\bits<=32:=by
  rcases(show d=0\/d=1\/d=2\/d=3\/d=4\/d=5\/d=6\/d=7 by lia) with rfl|rfl|rfl|rfl|rfl|rfl|rfl|rfl
  ·exact⟨_,rfl,by decide,by decide⟩
  ·exact⟨_,rfl,by decide,by decide⟩
  ·exact⟨_,rfl,by decide,by decide⟩
  ·exact⟨_,rfl,by decide,by decide⟩
  ·exact⟨_,rfl,by decide,by decide⟩
  ·exact⟨_,rfl,by decide,by decide⟩
  ·exact⟨_,rfl,by decide,by decide⟩
  ·exact⟨_,rfl,by lia,by lia⟩
 obtain⟨bits,hbt,hb0,hb1⟩:=hbits;refine vU hbt ?_;nofun;refine v9 hkl B2 (by decide) (by decide) λd2 o3 d20 d21 B3=>?_;obtain⟨L,hat2,hL⟩:∃L,atI [X0 L0,X0 L1] d2=some (X0 L)/\(L=L0\/L=L1):=by
  rcases(show d2=0\/d2=1 by lia) with rfl|rfl
  ·exact⟨L0,rfl, .inl rfl⟩
  ·exact⟨L1,rfl, .inr rfl⟩
 refine vU hat2 ?_;nofun;have hL8:(L++L).length=8:=by rcases hL with rfl|rfl<;>rfl
 refine⟨L.map T.str,2,rfl,rfl,by decide,by decide,(by rcases hL with rfl|rfl<;>(show 4*2<=sizeLine; decide)), ?_⟩;have hflat:(List.replicate (2:Int).toNat (L.map T.str)).flatten=(L++L).map T.str:=by rcases hL with rfl|rfl<;>rfl
 rw[hflat];refine v9 hkl B3 (by decide) (by decide) λα o4 α0 α1 B4=>?_;obtain⟨at',rfl⟩:∃j:Nat,α=(j:Int):=⟨α.toNat,by lia⟩;have ha:at'<4:=by lia
 have hrp:=rot_perm (α:=at') hL ha;have hrl:(rot L at').length=4:=hrp.length_eq;have hcut:cutT ((L++L).map T.str) (some (at':Int)) (some ((at':Int)+4))=(rot L at').map T.str:=by
  have e4:(at':Int)+4=((at'+4:Nat):Int):=by lia
  rw[e4,K6 (by lia) (by lia),show at'+4-at'=4 by lia];rfl
 nofun;refine v9 hkl B4 (by decide) (by decide) λd4 o5 d40 d41 B5=>?_;nofun;rw[hcut];refine ite2 (λ_=>?_) (λ_=>?_)
 ·refine⟨k,o5,bits,rot L at',rfl,MB_bag hkl,B5,hrp,⟨hb0,hb1⟩,λo6 ms B6 hR=>?_⟩
  rw[XR hkl];nofun;refine⟨Kb B6.pur, ?_⟩;rw[Kc];exact post o6 bits ms B6 hR
 simp only[uDisp];nofun;refine⟨Xe bits,rfl,by show 5<=15; decide, ?_⟩;refine⟨by simp[hrl]; exact U2 (qV (by decide)), ?_⟩;refine Zu (ts:=((("sign" : Str)::rot L at').map T.str)) (λi ρ M'=>∃(o:MO)(ns:List Nd)(ms:List Mk3)(x7 x8 x9 x10 x11 x12 x13:Option U),ρ=[some (.m k),some (.p (.int bits)),some (.p (.lst ((L++L).map T.str))),some (.p (.int at')),some (.m (M.length+0)),some (.m (M.length+1)),some (.m (M.length+2)),x7,x8,x9,x10,x11,x12,x13]/\M'=MB M k o [.dK (xT [] (Xe bits)), .lst ((ns.map ndT).map U.p), .lst ((ms.map vK).map U.p)]/\BagO o/\LInv bits (("sign" : Str)::rot L at') i ns ms) ?_ ?_ ?_
 ·refine⟨o5, [(0,0)], [],_,_,_,_,_,_,_,rfl,rfl,B5,⟨?_,⟨(0,0),by simp,by decide⟩,by decide,rfl,(λ_ h=>nomatch h),(λ_ h=>nomatch h),by simp⟩⟩
  intro n hn;rw[Uu.mp hn];exact⟨by decide,by decide,by decide,by decide⟩
 ·rintro i y ρ M' hi ⟨o,ns,ms,x7,x8,x9,x10,x11,x12,x13,rfl,rfl,B6,LI⟩
  obtain⟨kind,hki,rfl⟩:=get_map hi;obtain⟨hlow,hk5,hi5⟩:=ks_low hb0 hrp hki;have hval:=GE (bits:=bits) hk5;have hneed:=zC kind;have hnl:=LI.len;nofun;refine GZ (zF rfl) ?_;refine YZ (by rw[Uh]; exact U2 (qV (by lia))) (λj acc M2=>M2=MB M k o [.dK (xT [] (Xe bits)), .lst ((ns.map ndT).map U.p), .lst ((ms.map vK).map U.p)]/\acc=((ns.take j).filter λn=>decide (n.1<bits-need kind)).map ndT) ⟨rfl,rfl⟩ (λj acc M2 ⟨e,_⟩=>by rw[e]; exact zF rfl) ?_ ?_
  ·rintro j y acc M2 hj _ ⟨rfl,rfl⟩
   obtain⟨n,hn,rfl⟩:=get_map hj;nofun;refine K5 (zF rfl) hval ?_;nofun;rw[vC hn,Dl,Ux];refine ite2 (λhh=>?_) (λhh=>?_)<;>simp[hh]
  ·rintro acc M2 ⟨rfl,rfl⟩
   rw[Uh,U7];generalize hfs:(ns.filter λn=>decide (n.1<bits-need kind))=fs;have hpos:0<fs.length:=by
    obtain⟨n,hn,hw⟩:=LI.low;have:n∈fs:=by rw[<-hfs]; exact UJ.mpr ⟨hn,by simp; lia⟩
    exact RL this
   have hfl:fs.length<=200:=by
    rw[<-hfs];have:=DL (λn:Nd=>decide (n.1<bits-need kind)) ns;lia
   nofun;rw[Uh];refine v9 hkl B6 (by lia) (log2_lt (by lia) (by lia)) λd o7 d0 d1 B7=>?_;obtain⟨jj,rfl⟩:∃j:Nat,d=(j:Int):=⟨d.toNat,by lia⟩;have hjj:fs[jj]?=some (fs[jj]'(by lia)):=Uf _;generalize fs[jj]'(by lia)=n at hjj;have hnf:=UJ.mp (show n∈ns.filter λn=>decide (n.1<bits-need kind) by rw[hfs]; exact Ui hjj);have hnw:n.1<bits-need kind:=by simpa using hnf.2
   have hnok:=LI.ok n hnf.1;refine vU (atT hjj) ?_;nofun;obtain⟨j,hj,hjm⟩:=K0 hnf.1;have hjl:=(Ue.mp hj).1;refine⟨ns.map ndT,ndT n,j,λm=>decide (ns[m]?=some n),rfl,rfl,by rw[Uh]; exact hjl,by simp[hj],λm hm=>by simp[hjm m hm],λm z hm hz=>?_, ?_⟩
   ·obtain⟨nm,hnm,rfl⟩:=get_map hz
    have e9:decide (ns[m]?=some n)=decide (nm=n):=by
     rw[hnm];by_cases e:nm=n<;>simp[e]
    show EqT 20 _ _ (decide (ns[m]?=some n));rw[e9];exact nd_eqT
   have W0:=LI.pick hj;rw[<-Xg];nofun;refine K5 (zF rfl) hval ?_;nofun;refine v9 hkl B7 (by decide) (by decide) λe o8 e0 e1 B8=>?_;nofun;refine v9 hkl B8 (by decide) (by decide) λd5 o9 d50 d51 B9=>?_;have hdel:∃δ:Int,atI [T.int 1, .int 1, .int 2, .int 3, .int (1+e)] d5=some (.int δ)/\1<=δ/\δ<=30:=by
    rcases(show d5=0\/d5=1\/d5=2\/d5=3\/d5=4 by lia) with rfl|rfl|rfl|rfl|rfl
    ·exact⟨_,rfl,by decide,by decide⟩
    ·exact⟨_,rfl,by decide,by decide⟩
    ·exact⟨_,rfl,by decide,by decide⟩
    ·exact⟨_,rfl,by decide,by decide⟩
    ·exact⟨_,rfl,by lia,by lia⟩
   obtain⟨δ,hδ,δ0,δ1⟩:=hdel;refine vU hδ ?_;nofun;obtain⟨g,hgE,hg1,hg2⟩:∃g:Int,(if n.1+δ<bits-need kind then n.1+δ else bits-need kind)=g/\n.1<g/\g<=bits-need kind:=⟨_,rfl,by split<;>lia,by split<;>lia⟩;rw[hgE];have hn0':=hnok.1;refine⟨λm ρ M'=>∃(o:MO)(c:Nd)(ns2:List Nd)(x12:Option U),m=(g-c.1).toNat/\ρ=[some (.m k),some (.p (.int bits)),some (.p (.lst ((L++L).map T.str))),some (.p (.int at')),some (.m (M.length+0)),some (.m (M.length+1)),some (.m (M.length+2)),some (.p (.str kind)),some (.p (.lst (fs.map ndT))),some (.p (.int c.1)),some (.p (.int c.2)),some (.p (.int g)),x12,x13]/\M'=MB M k o [.dK (xT [] (Xe bits)), .lst ((ns2.map ndT).map U.p), .lst ((ms.map vK).map U.p)]/\BagO o/\c.1<=g/\WInv i n.1 c ns2 ms,⟨_,o9,n,ns.eraseIdx j,_,rfl,rfl,rfl,B9,by lia,W0⟩, ?_⟩;rintro m ρ M' ⟨o10,c,ns2,y12,rfl,rfl,rfl,B10,hcg,WI⟩;have hcok:=WI.cok;have hwl:=WI.len;have hww:=WI.w;have hc0:=hcok.1;nofun;refine ite2 (λhlt=>?_) (λhge=>?_)
   ·refine⟨λρ'' M''=>∃m',m'<(g-c.1).toNat/\∃(o:MO)(c:Nd)(ns2:List Nd)(x12:Option U),m'=(g-c.1).toNat/\ρ''=[some (.m k),some (.p (.int bits)),some (.p (.lst ((L++L).map T.str))),some (.p (.int at')),some (.m (M.length+0)),some (.m (M.length+1)),some (.m (M.length+2)),some (.p (.str kind)),some (.p (.lst (fs.map ndT))),some (.p (.int c.1)),some (.p (.int c.2)),some (.p (.int g)),x12,x13]/\M''=MB M k o [.dK (xT [] (Xe bits)), .lst ((ns2.map ndT).map U.p), .lst ((ms.map vK).map U.p)]/\BagO o/\c.1<=g/\WInv i n.1 c ns2 ms,λ_ _ h=>h, ?_⟩
    nofun;refine v9 hkl B10 (by decide) (by decide) λsd o11 s0 s1 B11=>?_;nofun;refine⟨⟨by lia,by lia,by lia⟩, ?_⟩;nofun;refine⟨by rw[Uh,Uh]; exact qV (by lia), ?_⟩;refine⟨⟨by lia,by lia,by lia⟩, ?_⟩;refine⟨(g-(c.1+1)).toNat,by lia,o11,zS c sd,ns2++[zS c (1-sd)],_,rfl,rfl, ?_,B11,by show c.1+1<=g; lia,WI.step (by lia) (by lia)⟩;rw[Ux,Ux];rfl
   ·have hce:c.1=g:=by lia
    nofun;have h2:=congrArg List.length LI.kinds;rw[Uh,U0] at h2;refine⟨by rw[Uh,Uh]; exact qV (by lia), ?_⟩;refine⟨o10,ns2,ms++[(kind,c)],_,_,_,_,_,_,_,rfl, ?_,B10,WI.fin LI hki hce (by lia) (by lia) (by lia) (by lia)⟩;rw[Ux,Ux];rfl
 ·rintro ρ M' ⟨o,ns,ms,x7,x8,x9,x10,x11,x12,x13,rfl,rfl,B6,LI⟩
  have h5:((("sign" : Str)::rot L at').map T.str).length=5:=by simp[hrl]
  rw[h5] at LI;have hKp:(("sign" : Str)::rot L at').Perm jF:=(List.Perm.cons _ hrp).trans (by decide +kernel);have hR:=LI.right hKp ⟨hb0,hb1⟩;have hn5:=hR.n;nofun;refine v9 hkl B6 (by decide) (by decide) λtu o7 t0 t1 B7=>?_;obtain⟨tn,rfl⟩:∃j:Nat,tu=(j:Int):=⟨tu.toNat,by lia⟩;nofun;refine slm_at (zF rfl) ?_;refine slm_at (zF rfl) ?_;rw[XG (by lia),XF (by lia)];nofun;have pm:ms.Perm (ms.drop tn++ms.take tn):=by
   have:=RW (l₁:=ms.take tn) (l₂:=ms.drop tn);rw[RV] at this;exact this
  refine⟨by simp; exact U2 (qV (by lia)),Kb B7.pur, ?_⟩;rw[Kc, <-Ux];exact post o7 bits _ B7 (hR.of_perm pm)
def YL:List T->(T->Prop)->Prop:=λts Q=>∃(bits:Int)(ms:List Mk3)(kind:Str)(m:Mk3),ts=[layT bits ms, .str kind]/\ms.length<=900/\OfKind ms kind m/\Q (vK m)
def qae:List T->(T->Prop)->Prop:=λts Q=>∃(bits:Int)(ms:List Mk3)(kind:Str)(m:Mk3),ts=[layT bits ms, .str kind]/\ms.length<=900/\OfKind ms kind m/\Q (.int (bits-m.2.1))
abbrev VL:Stmt:=top 9
theorem Wm:FnScope ["laying","kind"] ["laying","kind"] (qg VL):=⟨rfl,rfl,rfl,by decide +kernel,rfl,by decide +kernel,by decide +kernel⟩
theorem Yy:(["laying","kind","mark"]:List Str).Nodup:=by decide +kernel
theorem Z7(F:Fun Ξ "mark_for" "mark_for" VL f fd):FnOk P w Ξ mg base CX0 1 f fd ["laying","kind"] (spP YL):=by
 refine F.zP Wm (λts Qt h=>?_) (λcdv A outer s H E hr=>?_)
 ·obtain⟨_,_,_,_,rfl,_⟩:=h
  rfl
 refine⟨_,(qi (qw (qA (Ua Ξ) (ZW [false,true] ["mark"] (vO (Ξ:=Ξ) rfl (qA (Ub Ξ) (qv 0) qe (λ_ _=>rfl))) (λ_ _ _=>(vD (i:=2) Yy rfl W6)) (λ_ _ _=>Qy (qF zB (qA (Ub Ξ) (qv 2) qe (λ_ _=>rfl)) (qv 1) (qI _))) (λ_ _ _=>(qv 2))) qe (λ_ _=>rfl)))),_,(qy (ve (jt (zE (qW (qb 0) WS)) (zT 2) (qL (qo ze (qW (qb 2) WS) (qb 1))) (qb 2)) WS)),λts Qt h=>?_⟩;obtain⟨bits,ms,kind,m,rfl,hl,⟨rest,hm⟩,q⟩:=h;nofun;refine zi (by rw[Uh]; exact U2 (qV (by lia))) (λi acc M'=>M'=[]/\acc=((ms.take i).filter λm=>decide (m.1=kind)).map vK) ⟨rfl,rfl⟩ ?_ ?_
 ·rintro i x acc M' hx _ ⟨rfl,rfl⟩
  obtain⟨n,hn,rfl⟩:=get_map hx;nofun;rw[vC hn,Dl,Ux];refine ite2 (λhh=>?_) (λhh=>?_)<;>simp[hh]
 ·rintro acc M' ⟨rfl,rfl⟩
  rw[Uh,U7,hm];nofun;exact q
abbrev sMark:Stmt:=top 56
theorem scMark:FnScope ["laying","kind"] ["laying","kind"] (qg sMark):=⟨rfl,rfl,rfl,by decide +kernel,rfl,by decide +kernel,by decide +kernel⟩
theorem ndMark1:(["laying","kind","one"]:List Str).Nodup:=by decide +kernel
theorem Z8(F:Fun Ξ "_law_mark" "_law_mark" sMark f fd):FnOk P w Ξ mg base CX0 1 f fd ["laying","kind"] (spP YL):=by
 refine F.zP scMark (λts Qt h=>?_) (λcdv A outer s H E hr=>?_)
 ·obtain⟨_,_,_,_,rfl,_⟩:=h
  rfl
 refine⟨_,(qi (qw (qA (Ua Ξ) (ZW [false,true] ["one"] (vO (Ξ:=Ξ) rfl (qA (Ub Ξ) (qv 0) qe (λ_ _=>rfl))) (λ_ _ _=>(vD (i:=2) ndMark1 rfl W6)) (λ_ _ _=>Qy (qF zB (qA (Ub Ξ) (qv 2) qe (λ_ _=>rfl)) (qv 1) (qI _))) (λ_ _ _=>(qv 2))) qe (λ_ _=>rfl)))),_,(qy (ve (jt (zE (qW (qb 0) WS)) (zT 2) (qL (qo ze (qW (qb 2) WS) (qb 1))) (qb 2)) WS)),λts Qt h=>?_⟩;obtain⟨bits,ms,kind,m,rfl,hl,⟨rest,hm⟩,q⟩:=h;nofun;refine zi (by rw[Uh]; exact U2 (qV (by lia))) (λi acc M'=>M'=[]/\acc=((ms.take i).filter λm=>decide (m.1=kind)).map vK) ⟨rfl,rfl⟩ ?_ ?_
 ·rintro i x acc M' hx _ ⟨rfl,rfl⟩
  obtain⟨n,hn,rfl⟩:=get_map hx;nofun;rw[vC hn,Dl,Ux];refine ite2 (λhh=>?_) (λhh=>?_)<;>simp[hh]
 ·rintro acc M' ⟨rfl,rfl⟩
  rw[Uh,U7,hm];nofun;exact q
abbrev Qp:Stmt:=top 10
theorem Yq:FnScope ["laying","kind"] ["laying","kind"] (qg Qp):=⟨rfl,rfl,rfl,by decide +kernel,rfl,by decide +kernel,by decide +kernel⟩
theorem V4(F:Fun Ξ "load_bits" "load_bits" Qp f fd)(DMarkFor:Def P w Ξ mg base "mark_for" 1 ["laying","kind"] (spP YL)):FnOk P w Ξ mg base CX0 2 f fd ["laying","kind"] (spP qae):=by
 refine F.zP Yq (λts Qt h=>?_) (λcdv A outer s H E hr=>?_)
 ·obtain⟨_,_,_,_,rfl,_⟩:=h
  rfl
 refine⟨_,(qi (qw (qq zt (qA (Ub Ξ) (qv 0) qe (λ_ _=>rfl)) (qA (Ub Ξ) (qk DMarkFor (WR hr) (qa_c (qv 0) (qa_c (qv 1) qd))) qe (λ_ _=>rfl))))),_,(qy (qo (qE λ_ _=>.int _) (qW (qb 0) WS) (qW (ql (qa (qb 0) (qa (qb 1) qc))) WS))),λts Qt h=>?_⟩;obtain⟨bits,ms,kind,m,rfl,hl,hm,q⟩:=h;nofun;refine⟨bits,ms,kind,m,rfl,hl,hm, ?_⟩;nofun;exact q
abbrev VM:Stmt:=top 7
theorem Wn:FnScope ["marks","word"] ["marks","word"] (qg VM):=⟨rfl,rfl,rfl,by decide +kernel,rfl,by decide +kernel,by decide +kernel⟩
theorem Yz:(["marks","word","kind","width","pattern"]:List Str).Nodup:=by decide +kernel
def KY:List T->(T->Prop)->Prop:=λts Q=>∃(ms:List Mk3)(word:Int),ts=[.lst (ms.map vK), .int word]/\Wd ms/\ms.length<=900/\Q (X0 ((ms.filter (on word)).map (·.1)))
theorem Z9(F:Fun Ξ "kinds_on" "kinds_on" VM f fd):FnOk P w Ξ mg base CX0 1 f fd ["marks","word"] (spP KY):=by
 refine F.zP Wn (λts Qt h=>?_) (λcdv A outer s H E hr=>?_)
 ·obtain⟨_,_,rfl,_⟩:=h
  rfl
 refine⟨_,(qi (qw (ZW [false,true] ["kind","width","pattern"] (vO (Ξ:=Ξ) rfl (qv 0)) (λ_ _ _=>(qg_t3K (Ξ:=Ξ) (i:=2) (j:=3) (k:=4) rfl Yz rfl rfl rfl rfl W6 W6 W6 GM GM GM)) (λ_ _ _=>Qy (qF zB (qq zu (qv 1) (qq zG qe (qv 3))) (qv 4) (qI _))) (λ_ _ _=>(qv 2))))),_,(qy (jt (zE (qb 0)) (qaI 2 3 4) (qL (qo ze (qo (v3 λ_ _=>.int _) (qb 1) (qo (v3 λ_ _=>.int _) WS (qb 3))) (qb 4))) (qb 2))),λts Qt h=>?_⟩;obtain⟨ms,word,rfl,hw,hl,q⟩:=h;nofun;refine zi (by rw[Uh]; exact U2 (qV (by lia))) (λi acc M'=>M'=[]/\acc=(((ms.take i).filter (on word)).map (·.1)).map T.str) ⟨rfl,rfl⟩ ?_ ?_
 ·rintro i x acc M' hx _ ⟨rfl,rfl⟩
  obtain⟨m,hm,rfl⟩:=get_map hx;have hmw:=hw m (Ui hm);nofun;refine⟨⟨by lia,by lia,by decide⟩, ?_, ?_⟩
  ·rw[Da]; exact vk _
  rw[vC hm,Dl,Ux,Ux,Da];refine ite2 (λhh=>?_) (λhh=>?_)<;>simp[on,hh]
 ·rintro acc M' ⟨rfl,rfl⟩
  rw[Uh,U7];nofun;exact q
abbrev Jk:Stmt:=top 8
theorem scMarkOf:FnScope ["laying","word","kinds"] ["laying","word"] (qg Jk):=⟨rfl,rfl,rfl,by decide +kernel,rfl,by decide +kernel,by decide +kernel⟩
def jk(word:Int)(ms:List Mk3):T:=match ms.filter (on word) with
 | []=>.non
 |m::_=>.str m.1
def jo:List T->(T->Prop)->Prop:=λts Q=>∃(bits:Int)(ms:List Mk3)(word:Int),ts=[layT bits ms, .int word]/\Wd ms/\ms.length<=900/\Q (jk word ms)
theorem Jz(F:Fun Ξ "mark_of" "mark_of" Jk f fd)(DKindsOn:Def P w Ξ mg base "kinds_on" 1 ["marks","word"] (spP KY)):FnOk P w Ξ mg base CX0 2 f fd ["laying","word"] (spP jo):=by
 refine F.zP scMarkOf (λts Qt h=>?_) (λcdv A outer s H E hr=>?_)
 ·obtain⟨_,_,_,rfl,_⟩:=h
  rfl
 refine⟨_,(qf (qB (i:=2) scMarkOf.nd rfl W6 (qk DKindsOn (WR hr) (qa_c (qA (Ub Ξ) (qv 0) qe (λ_ _=>rfl)) (qa_c (qv 1) qd))))
  (qi (qw (zr (ZU (Ξ:=Ξ) rfl (qv 2) (λ_=>rfl)) (qA (Ua Ξ) (qv 2) qe (λ_ _=>rfl)) xS)))),_,(qh (qx (ql (qa (qW (qb 0) WS) (qa (qb 1) qc))) (qm 2))
   (qy (JY (ct_tru (qb 2)) (ve (qb 2) WS) (ce_c .non)))),λts Qt h=>?_⟩
 obtain⟨bits,ms,word,rfl,hw,hl,q⟩:=h;nofun;refine⟨ms,word,rfl,hw,hl, ?_⟩;unfold jk at q;unfold X0;cases e:ms.filter (on word) with
 |nil =>
  rw[e] at q;simp only[uTru];nofun;refine⟨false,rfl, ?_⟩;nofun;exact q
 |cons m r =>
  rw[e] at q;simp only[uTru];nofun;refine⟨true,rfl, ?_⟩;nofun;exact q
abbrev Jl:Stmt:=top 27
theorem scLoadOf:FnScope ["laying","word","kind"] ["laying","word","kind"] (qg Jl):=⟨rfl,rfl,rfl,by decide +kernel,rfl,by decide +kernel,by decide +kernel⟩
def JL:List T->(T->Prop)->Prop:=λts Q=>∃(bits:Int)(ms:List Mk3)(word:Int)(kind:Str)(m:Mk3),ts=[layT bits ms, .int word, .str kind]/\ms.length<=900/\OfKind ms kind m/\0<=m.2.1/\Q (.int (word / 2^m.2.1.toNat))
theorem JA(F:Fun Ξ "load_of" "load_of" Jl f fd)(DMarkFor:Def P w Ξ mg base "mark_for" 1 ["laying","kind"] (spP YL)):FnOk P w Ξ mg base CX0 2 f fd ["laying","word","kind"] (spP JL):=by
 refine F.zP scLoadOf (λts Qt h=>?_) (λcdv A outer s H E hr=>?_)
 ·obtain⟨_,_,_,_,_,rfl,_⟩:=h
  rfl
 refine⟨_,(qi (qw (qq op_shr (qv 1) (qA (Ub Ξ) (qk DMarkFor (WR hr) (qa_c (qv 0) (qa_c (qv 2) qd))) qe (λ_ _=>rfl))))),_,(qy (qo (v3 λ_ _=>.int _) (qb 1) (qW (ql (qa (qb 0) (qa (qb 2) qc))) WS))),λts Qt h=>?_⟩;obtain⟨bits,ms,word,kind,m,rfl,hl,hm,h0,q⟩:=h;nofun;refine⟨bits,ms,kind,m,rfl,hl,hm, ?_⟩;nofun;exact⟨h0,q⟩
abbrev Jj:Stmt:=top 28
theorem scMarked:FnScope ["laying","kind","load","mark"] ["laying","kind","load"] (qg Jj):=⟨rfl,rfl,rfl,by decide +kernel,rfl,by decide +kernel,by decide +kernel⟩
def qad:List T->(T->Prop)->Prop:=λts Q=>∃(bits:Int)(ms:List Mk3)(kind:Str)(load:Int)(m:Mk3),ts=[layT bits ms, .str kind, .int load]/\ms.length<=900/\OfKind ms kind m/\0<=m.2.1/\m.2.1<=1000/\load.natAbs<2^64/\Q (.int (load*2^m.2.1.toNat+m.2.2))
theorem Yv(F:Fun Ξ "marked" "marked" Jj f fd)(DMarkFor:Def P w Ξ mg base "mark_for" 1 ["laying","kind"] (spP YL)):FnOk P w Ξ mg base CX0 2 f fd ["laying","kind","load"] (spP qad):=by
 refine F.zP scMarked (λts Qt h=>?_) (λcdv A outer s H E hr=>?_)
 ·obtain⟨_,_,_,_,_,rfl,_⟩:=h
  rfl
 refine⟨_,(qf (qB (i:=3) scMarked.nd rfl W6 (qk DMarkFor (WR hr) (qa_c (qv 0) (qa_c (qv 1) qd))))
  (qi (qw (qq qO (qq zG (qv 2) (qA (Ub Ξ) (qv 3) qe (λ_ _=>rfl))) (qA (Ub Ξ) (qv 3) qe (λ_ _=>rfl)))))),_,(qh (qx (ql (qa (qb 0) (qa (qb 1) qc))) (qm 3))
   (qy (qo (qE λ_ _=>.int _) (qo (v3 λ_ _=>.int _) (qb 2) (qW (qb 3) WS)) (qW (qb 3) WS)))),λts Qt h=>?_⟩
 obtain⟨bits,ms,kind,load,m,rfl,hl,hm,h0,h1,h2,q⟩:=h;nofun;refine⟨bits,ms,kind,m,rfl,hl,hm, ?_⟩;nofun;refine⟨⟨h0,by lia,h2⟩, ?_⟩;nofun;exact q
abbrev VJ:Stmt:=top 29
theorem Wl:FnScope ["bits","load"] ["bits","load"] (qg VJ):=⟨rfl,rfl,rfl,by decide +kernel,rfl,by decide +kernel,by decide +kernel⟩
def Qh(s load:Int):Int:=if 2^(s-1).toNat<=load then load-2^s.toNat else load
def KQ:List T->(T->Prop)->Prop:=λts Q=>∃(s load:Int),ts=[.int s, .int load]/\1<=s/\s<=1000/\Q (.int (Qh s load))
theorem Z6(F:Fun Ξ "small_of" "small_of" VJ f fd):FnOk P w Ξ mg base CX0 1 f fd ["bits","load"] (spP KQ):=by
 refine F.zP Wl (λts Qt h=>?_) (λcdv A outer s H E hr=>?_)
 ·obtain⟨_,_,rfl,_⟩:=h
  rfl
 refine⟨_,(qi (qw (zr (qF op_ge (qv 1) (qq zG qe (qq zt (qv 0) qe)) (qI _)) (qq zt (qv 1) (qq zG qe (qv 0))) (qv 1)))),_,(qy (JY (qL (qo (qE λ_ _=>.bl _) (qb 1) (qo (v3 λ_ _=>.int _) WS (qo (qE λ_ _=>.int _) (qb 0) WS)))) (qo (qE λ_ _=>.int _) (qb 1) (qo (v3 λ_ _=>.int _) WS (qb 0))) (qb 1))),λts Qt h=>?_⟩;obtain⟨sb,load,rfl,h0,h1,q⟩:=h;nofun;unfold Qh at q;refine⟨⟨by lia,by lia,by decide⟩, ?_⟩;rw[Da];refine ite2 (λhh=>?_) (λhh=>?_)
 ·rw[if_pos hh] at q
  refine⟨⟨by lia,by lia,by decide⟩, ?_⟩;rw[Da];exact q
 ·rw[if_neg hh] at q
  exact q
theorem Xd:∀{ms:List Mk3}{m m':Mk3},(ms.map (·.1)).Nodup->m∈ms->m'∈ms->m.1=m'.1->m=m'
 | [],_,_,_,h,_,_=>nomatch h
 |x::ms,m,m',hn,h,h',e=>by
  obtain⟨n1,n2⟩:=Dc.mp (show(x.1::ms.map (·.1)).Nodup from hn);rcases Uv.mp h with z|h
  ·rcases Uv.mp h' with z'|h'
   ·rw[z,z']
   ·exact absurd (UQ.mpr ⟨m',h',by rw[<-e,z]⟩) n1
  ·rcases Uv.mp h' with z'|h'
   ·exact absurd (UQ.mpr ⟨m,h,by rw[e,z']⟩) n1
   ·exact Xd n2 h h' e
theorem Right.ofKind(r:Right bits ms)(hm:m∈ms):OfKind ms m.1 m:=by
 have hk:m.1∈jF:=r.k.mem_iff.mp (UQ.mpr ⟨m,hm,rfl⟩);obtain⟨m',h'⟩:=r.kind hk;have nd:(ms.map (·.1)).Nodup:=r.k.nodup_iff.mpr (by decide);have:m'=m:=Xd nd h'.mem hm h'.is;rw[<-this] at h' ⊢;exact h'
def three3:List Str:=["none","no","yes"]
theorem XY{j:Nat}(h:three3[j]?=some t):∀m,m<j->three3[m]?≠some t:=by
 have hj:j<3:=(Ue.mp h).1;intro m hm;rcases(show j=1\/j=2 by lia) with rfl|rfl
 ·have:m=0:=by lia
  subst this;simp[three3] at h ⊢;subst h; decide
 ·simp[three3] at h
  subst h;rcases(show m=0\/m=1 by lia) with rfl|rfl<;>simp[three3]<;>decide
def xO(bits:Int)(m:Mk3)(load:Int):Int:=load % 2^(bits-m.2.1).toNat*2^m.2.1.toNat+m.2.2
abbrev VH:Stmt:=top 30
theorem scWorthOf:FnScope ["laying","word","kind","load"] ["laying","word"] (qg VH):=⟨rfl,rfl,rfl,by decide +kernel,rfl,by decide +kernel,by decide +kernel⟩
def YT(bits:Int)(m:Mk3)(load:Int):T:=if m.1 = "small" then .int (Qh (bits-m.2.1) load) else if m.1 = "one" then(if load<3 then .str (three3.getD load.toNat "none") else .non) else if m.1 = "sign" /\ 128<=load then .non else .tup [.str m.1, .int load]
def Zr(bits:Int)(ms:List Mk3)(word:Int):T:=match ms.filter (on word) with
 | []=>.non
 |m::_=>YT bits m (word / 2^m.2.1.toNat)
def KM:List T->(T->Prop)->Prop:=λts Q=>∃(bits:Int)(ms:List Mk3)(word:Int),ts=[layT bits ms, .int word]/\Right bits ms/\0<=word/\Q (Zr bits ms word)
theorem Z4(F:Fun Ξ "worth_of" "worth_of" VH f fd)(N:Nms mg)(T3:Tup3 Ξ mg "THREE" three "none" "no" "yes")(GSigns:GInt mg "SIGNS" 128)(DMarkOf:Def P w Ξ mg base "mark_of" 2 ["laying","word"] (spP jo))(DLoadOf:Def P w Ξ mg base "load_of" 2 ["laying","word","kind"] (spP JL))(DSmallOf:Def P w Ξ mg base "small_of" 1 ["bits","load"] (spP KQ))(DLoadBits:Def P w Ξ mg base "load_bits" 2 ["laying","kind"] (spP qae)):FnOk P w Ξ mg base CX0 3 f fd ["laying","word"] (spP KM):=by
 refine F.zP scWorthOf (λts Qt h=>?_) (λcdv A outer s H E hr=>?_)
 ·obtain⟨_,_,_,rfl,_⟩:=h
  rfl
 refine⟨_,(qf (qB (i:=2) scWorthOf.nd rfl W6 (qk DMarkOf (WR hr) (qa_c (qv 0) (qa_c (qv 1) qd))))
  (qf (v6 (qF op_isN (qv 2) xS (qI _))
   (qi (qw xS))
   va)
  (qf (qB (i:=3) scWorthOf.nd rfl W6 (qk DLoadOf (WR hr) (qa_c (qv 0) (qa_c (qv 1) (qa_c (qv 2) qd)))))
  (qf (v6 (qF zB (qv 2) qK (qI _))
   (qi (qw (qk DSmallOf (WR hr) (qa_c (qk DLoadBits (WR hr) (qa_c (qv 0) (qa_c (qv 2) qd))) (qa_c (qv 3) qd)))))
   va)
  (qf (v6 (qF zB (qv 2) qK (qI _))
   (qi (qw (zr (qF Z3 (qv 3) (vb (YR (Ξ:=Ξ) rfl) (by rfl) N.len Vc (qa_c (Jt (v:=.ref three) rfl T3.mg rfl) qd)) (qI _)) (qA (Ub Ξ) (Jt (v:=.ref three) rfl T3.mg rfl) (qv 3) (λ_ _=>rfl)) xS)))
   va)
  (qf (v6 (Q9 (ZR (qF zB (qv 2) qK (qI _)) (Qx (qF op_ge (qv 3) (zK GSigns rfl) (qI _)))))
   (qi (qw xS))
   va)
  (qi (qw (vc (qa_c (qv 2) (qa_c (qv 3) qd))))))))))),_,(qh (qx (ql (qa (qb 0) (qa (qb 1) qc))) (qm 2))
   (qh (vX (qL (ce_isN (qb 2)))
   (qy (ce_c .non))
   qR)
   (qh (qx (ql (qa (qb 0) (qa (qb 1) (qa (qb 2) qc)))) (qm 3))
   (qh (vX (qL (qo ze (qb 2) W1))
   (qy (ql (qa (ql (qa (qb 0) (qa (qb 2) qc))) (qa (qb 3) qc))))
   qR)
   (qh (vX (qL (qo ze (qb 2) W1))
   (qy (JY (qL (qo (qE λ_ _=>.bl _) (qb 3) (ce_lenK T3.kt))) (ce_ixK T3.kt (Wj [_,_,_]) (qb 3)) (ce_c .non)))
   qR)
   (qh (vX (qaA (qL (qo ze (qb 2) W1)) (qL (qo (qE λ_ _=>.bl _) (qb 3) WS)))
   (qy (ce_c .non))
   qR)
   (qy (vA (qa (qb 2) (qa (qb 3) qc)))))))))),λts Qt h=>?_⟩
 obtain⟨bits,ms,word,rfl,hR,hw0,q⟩:=h;have hb1:=hR.b;have hn5:=hR.n;nofun;refine⟨bits,ms,word,rfl,hR.wd,by lia, ?_⟩;unfold Zr at q;unfold jk;cases e:ms.filter (on word) with
 |nil =>
  rw[e] at q;nofun;exact q
 |cons m r =>
  rw[e] at q;have hmem:m∈ms:=(UJ.mp (by rw[e]; exact UN)).1;have hmk:=hR.ofKind hmem;have hmw:=hR.w m hmem;have hnd:=zC m.1;simp only at q;generalize hld:word / 2^m.2.1.toNat=load at q;have hl0:0<=load:=by rw[<-hld]; exact RU hw0 (Bp (vk _))
  unfold YT at q;nofun;refine⟨bits,ms,word,m.1,m,rfl,by lia,hmk,by lia, ?_⟩;rw[hld];nofun;refine ite2 (λh1=>?_) (λh1=>?_)
  ·rw[if_pos h1] at q
   refine⟨bits,ms,m.1,m,rfl,by lia,hmk, ?_⟩;nofun;refine⟨bits-m.2.1,load,rfl,by lia,by lia, ?_⟩;nofun;exact q
  rw[if_neg h1] at q;refine ite2 (λh2=>?_) (λh2=>?_)
  ·rw[if_pos h2] at q
   refine ite2 (λh3=>?_) (λh3=>?_)
   ·rw[if_pos (show load<3 by lia)] at q
    rcases(show load=0\/load=1\/load=2 by lia) with rfl|rfl|rfl
    ·exact⟨_,rfl,q⟩
    ·exact⟨_,rfl,q⟩
    ·exact⟨_,rfl,q⟩
   ·rw[if_neg (show ¬load<3 by lia)] at q
    exact q
  rw[if_neg h2] at q;refine ite2 (λh3=>?_) (λh3=>?_)
  ·refine ite2 (λh4=>?_) (λh4=>?_)
   ·rw[if_pos ⟨h3,h4⟩] at q
    exact q
   ·rw[if_neg (λz=>h4 z.2)] at q
    nofun;exact q
  ·rw[if_neg (λz=>h3 z.1)] at q
   nofun;exact q
abbrev Jf:Stmt:=top 31
theorem scWordOf:FnScope ["laying","worth"] ["laying","worth"] (qg Jf):=⟨rfl,rfl,rfl,by decide +kernel,rfl,by decide +kernel,by decide +kernel⟩
inductive WorthT:T->Str->Int->Prop
 |int (n:Int):WorthT (.int n) "small" n
 |one {t:Str} {j:Nat} (h:three3[j]?=some t):WorthT (.str t) "one" j
 |tup {kind:Str} (load:Int):WorthT (.tup [.str kind, .int load]) kind load
def zO:List T->(T->Prop)->Prop:=λts Q=>∃(bits:Int)(ms:List Mk3)(t:T)(kind:Str)(load:Int)(m:Mk3),ts=[layT bits ms,t]/\ms.length<=900/\WorthT t kind load/\OfKind ms kind m/\0<=m.2.1/\0<=bits-m.2.1/\bits<=60/\((∃n,t=.int n)\/(0<=load/\load<2^(bits-m.2.1).toNat))/\Q (.int (xO bits m load))
theorem pow60{s:Int}(h:s<=60):(2:Int)^s.toNat<=2^60:=by
 have:(2:Nat)^s.toNat<=2^60:=Du (by decide) (by lia);exact_mod_cast this
theorem Jy(F:Fun Ξ "word_of" "word_of" Jf f fd)(N:Nms mg)(T3:Tup3 Ξ mg "THREE" three "none" "no" "yes")(DMarked:Def P w Ξ mg base "marked" 2 ["laying","kind","load"] (spP qad))(DLoadBits:Def P w Ξ mg base "load_bits" 2 ["laying","kind"] (spP qae)):FnOk P w Ξ mg base CX0 3 f fd ["laying","worth"] (spP zO):=by
 refine F.zP scWordOf (λts Qt h=>?_) (λcdv A outer s H E hr=>?_)
 ·obtain⟨_,_,_,_,_,_,rfl,_⟩:=h
  rfl
 refine⟨_,(qf (v6 (zc (vb (XJ (Ξ:=Ξ) rfl) (by rfl) N.isinstance kB (qa_c (qv 1) (qa_c (WO (v:=.ty "int") (by rfl) N.int b_int rfl) qd))))
   (qi (qw (qk DMarked (WR hr) (qa_c (qv 0) (qa_c qK (qa_c (qq zu (qv 1) (qq zG qe (qk DLoadBits (WR hr) (qa_c (qv 0) (qa_c qK qd))))) qd))))))
   va)
  (qf (v6 (zc (vb (XJ (Ξ:=Ξ) rfl) (by rfl) N.isinstance kB (qa_c (qv 1) (qa_c (WO (v:=.ty "str") (by rfl) N.str b_str rfl) qd))))
   (qi (qw (qk DMarked (WR hr) (qa_c (qv 0) (qa_c qK (qa_c (qe_bm PySem.F.plainAttrs_tuple PySem.F.slot_tuple_index PySem.F.type_tuple_index (GD (Ξ:=Ξ) rfl T3) (Jt (v:=.ref three) rfl T3.mg rfl) (qa_c (qv 1) qd)) qd))))))
   va)
  (qi (qw (qk DMarked (WR hr) (qa_c (qv 0) (qa_c (qA (Ub Ξ) (qv 1) qe (λ_ _=>rfl)) (qa_c (qA (Ub Ξ) (qv 1) qe (λ_ _=>rfl)) qd)))))))),_,(qh (vX (ct_b (ce_isi .int (qb 1)))
   (qy (ql (qa (qb 0) (qa W1 (qa (qo (v3 λ_ _=>.int _) (qb 1) (qo (v3 λ_ _=>.int _) WS (ql (qa (qb 0) (qa W1 qc))))) qc)))))
   qR)
   (qh (vX (ct_b (ce_isi .str (qb 1)))
   (qy (ql (qa (qb 0) (qa W1 (qa (ce_idxK T3 (qa (qb 1) qc)) qc)))))
   qR)
   (qy (ql (qa (qb 0) (qa (qW (qb 1) WS) (qa (qW (qb 1) WS) qc))))))),λts Qt h=>?_⟩
 obtain⟨bits,ms,t,kind,load,m,rfl,hl,hwt,hm,h0,h1,h60,hb,q⟩:=h;have hp:=vk (bits-m.2.1).toNat;have hp60:=pow60 (s:=bits-m.2.1) (by lia);unfold xO at q;cases hwt with
 |int n =>
  have hlt:=U3 load hp;have hnn:=U6 load (Ro hp);nofun;refine⟨bits,ms,"small", m,rfl,hl,hm, ?_⟩;nofun;refine⟨⟨h1,by lia,by decide⟩,by rw[Da]; exact hp, ?_⟩;rw[Da];refine⟨bits,ms,"small", _,m,rfl,hl,hm,h0,by lia,by lia, ?_⟩;nofun;exact q
 | @one t j hj =>
  have hj3:j<3:=(Ue.mp hj).1;obtain⟨g0,g1⟩:0<=(j:Int)/\(j:Int)<2^(bits-m.2.1).toNat:=hb.resolve_left λ⟨_,z⟩=>by cases z
  nofun;refine⟨t,j,rfl,hj,XY hj, ?_⟩;nofun;refine⟨bits,ms,"one", _,m,rfl,hl,hm,h0,by lia,by lia, ?_⟩;rw[Df g0 g1] at q;nofun;exact q
 |tup load =>
  obtain⟨g0,g1⟩:0<=load/\load<2^(bits-m.2.1).toNat:=hb.resolve_left λ⟨_,z⟩=>by cases z
  nofun;refine⟨bits,ms,kind,load,m,rfl,hl,hm,h0,by lia,by lia, ?_⟩;rw[Df g0 g1] at q;nofun;exact q
def lcnt(bits n:Int):Nat:=(Builtin.Int.intBits n+bits.toNat-1) / bits.toNat
def lim(b a i:Nat):Int:=((a / 2^(b*i) % 2^b:Nat):Int)
def xU(bits n:Int):List Int:=(List.range (lcnt bits n)).map (lim bits.toNat n.natAbs)
theorem kQ(hb:1<=bits)(i:Nat):0<n.natAbs / 2^(bits.toNat*i)↔i<lcnt bits n:=by
 have hb':0<bits.toNat:=by lia
 have h1:0<n.natAbs / 2^(bits.toNat*i)↔¬n.natAbs<2^(bits.toNat*i):=by
  rw[Nat.div_pos_iff];have:=Nat.pow_pos (n:=bits.toNat*i) (show 0<2 by decide);lia
 rw[h1, <-intBits_le_iff];unfold lcnt;rw[<-Nat.succ_le_iff,Nat.le_div_iff_mul_le hb',Nat.succ_mul,Nat.mul_comm i];lia
theorem lcnt_le(h:Bt m n)(hb:1<=bits)(h60:bits<=60):lcnt bits n<=m+60:=by
 unfold lcnt;have:=h.bits;refine UL (Nat.div_le_self _ _) ?_;lia
theorem Xk:a / 2^(b*i) / 2^b=a / 2^(b*(i+1)):=by
 rw[RM, <-Bs];rfl
theorem qaV(n:Int):(if n<0 then -n else n)=(n.natAbs:Int):=by split<;>lia
theorem bits_abs(n:Int):Builtin.Int.intBits (n.natAbs:Int)=Builtin.Int.intBits n:=by
 apply Nat.le_antisymm
 ·exact intBits_le_iff.mpr (by rw[Bg]; exact intBits_le_iff.mp (Uk _))
 ·refine intBits_le_iff.mpr ?_
  have:=intBits_le_iff.mp (Uk (Builtin.Int.intBits (n.natAbs:Int)));rw[Bg] at this;exact this
theorem lcnt_int(hb:1<=bits):((Builtin.Int.intBits n:Int)+bits-1) / bits=(lcnt bits n:Int):=by
 obtain⟨b,rfl⟩:∃b:Nat,bits=(b:Int):=⟨bits.toNat,by lia⟩;unfold lcnt;rw[Dx];have e:(Builtin.Int.intBits n:Int)+(b:Int)-1=((Builtin.Int.intBits n+b-1:Nat):Int):=by lia
 rw[e];exact_mod_cast rfl
theorem pow_cast(k:Nat):(1:Int)*2^k=((2^k:Nat):Int):=by rw[Da]; simp
def zf(bits n:Int):Int:=4*(lcnt bits n:Int)+(if n<0 then 2 else 0)
def jf(bits n:Int):List Int:=zf bits n::xU bits n
theorem xD:(jf bits n).length=lcnt bits n+1:=by
 unfold jf; rw[Um]; unfold xU; rw[Uh,Rw]
theorem xx(hb:1<=bits)(hn:n≠0):0<lcnt bits n:=by
 refine(kQ hb 0).mp ?_;rw[Nat.mul_zero,Nat.pow_zero,Nat.div_one];lia
def zq(s n:Int):Bool:=decide (-(2^(s-1).toNat)<=n/\n<2^(s-1).toNat)
abbrev VN:Stmt:=top 32
theorem scIsSmall:FnScope ["laying","n","half"] ["laying","n"] (qg VN):=⟨rfl,rfl,rfl,by decide +kernel,rfl,by decide +kernel,by decide +kernel⟩
def Ze:List T->(T->Prop)->Prop:=λts Q=>∃(bits:Int)(ms:List Mk3)(n:Int)(m:Mk3),ts=[layT bits ms, .int n]/\ms.length<=900/\OfKind ms "small" m/\1<=bits-m.2.1/\bits-m.2.1<=60/\Q (.bl (zq (bits-m.2.1) n))
theorem Xa(F:Fun Ξ "is_small" "is_small" VN f fd)(DLoadBits:Def P w Ξ mg base "load_bits" 2 ["laying","kind"] (spP qae)):FnOk P w Ξ mg base CX0 3 f fd ["laying","n"] (spP Ze):=by
 refine F.zP scIsSmall (λts Qt h=>?_) (λcdv A outer s H E hr=>?_)
 ·obtain⟨_,_,_,_,rfl,_⟩:=h
  rfl
 refine⟨_,(qf (qB (i:=2) scIsSmall.nd rfl W6 (qq zG qe (qq zt (qk DLoadBits (WR hr) (qa_c (qv 0) (qa_c qK qd))) qe)))
  (qi (qw (qe_chain op_le Z3 (qe_un YX (qv 2)) (qv 1) (qv 2))))),_,(qh (qx (qo (v3 λ_ _=>.int _) WS (qo (qE λ_ _=>.int _) (ql (qa (qb 0) (qa W1 qc))) WS)) (qm 2))
   (qy (ce_chain (qE λ_ _=>.bl _) (qE λ_ _=>.bl _) (ce_neg (qb 2)) (qb 1) (qb 2)))),λts Qt h=>?_⟩
 obtain⟨bits,ms,n,m,rfl,hl,hm,s0,s1,q⟩:=h;nofun;refine⟨bits,ms,"small", m,rfl,hl,hm, ?_⟩;nofun;refine⟨⟨by lia,by lia,by decide⟩, ?_⟩;rw[Da];unfold zq at q;generalize(2:Int)^(bits-m.2.1-1).toNat=half at q ⊢;by_cases h1 : -half<=n
 ·rw[if_pos h1]
  simpa only[h1,true_and] using q
 ·rw[if_neg h1]
  simpa only[h1,false_and,decide_false] using q
theorem inV_strs{l:List Str}:inV (.str z) (l.map V.str)=decide (z∈l):=by
 unfold inV;rw[List.any_map]
 induction l with
 |nil=>rfl
 |cons a l ih =>
  rw[DB,ih];show(decide (a=z)||decide (z∈l))=_;by_cases h:a=z
  ·simp[h]
  ·simp[h,Ne.symm h]
theorem zI{p:Prop}[Decidable p]{a b:Prop}(h:¬p)(q:b):if p then a else b:=by rw[if_neg h]; exact q
theorem vV{p:Prop}[Decidable p]{a b:Prop}(h:p)(q:a):if p then a else b:=by rw[if_pos h]; exact q
def qT(x:Int):Int:=if x=1 then 3 else x / 4+1
def valL(b:Nat):List Int->Int
 | []=>0
 |l::ls=>l+2^b*valL b ls
def limI(os:List Int)(k:Nat)(x:Int):List Int:=(os.drop (k+1)).take (x / 4).toNat
def numI(b:Nat)(os:List Int)(k:Nat)(x:Int):Int:=if x % 4=0 then valL b (limI os k x) else -(valL b (limI os k x))
def WdsOk(bits:Int)(os:List Int):Prop:=∀x∈os,0<=x/\x<2^bits.toNat
theorem YV:∀{L:List Int},(∀x∈L,0<=x/\x<2^b)->0<=valL b L/\valL b L<2^(b*L.length)
 | [],_=>⟨UU _,by unfold valL; exact vk _⟩
 |l::L,h=>by
  have h1:=h l (.head _);have h2:=YV (L:=L) λx hx=>h x (.tail _ hx);have hp:=vk b;unfold valL;have e:(2:Int)^(b*(l::L).length)=2^b*2^(b*L.length):=by rw[Um,Bq,RS,R9]
  rw[e];generalize(2:Int)^(b*L.length)=z at *;generalize(2:Int)^b=p at *;generalize valL b L=v at *;have h3:0<=p*v:=Int.mul_nonneg (by lia) h2.1;have h4:p*(v+1)<=p*z:=Int.mul_le_mul_of_nonneg_left (by lia) (by lia);rw[Int.mul_add,Int.mul_one] at h4;lia
abbrev Jh:Stmt:=top 16
theorem scSizeAt:FnScope ["outside","address","head"] ["outside","address"] (qg Jh):=⟨rfl,rfl,rfl,by decide +kernel,rfl,by decide +kernel,by decide +kernel⟩
def Xr:List T->(T->Prop)->Prop:=λts Q=>∃(os:List Int)(k:Nat)(x:Int),ts=[vn os, .int k]/\os[k]?=some x/\Q (.int (qT x))
theorem ok_sizeG(F:Fun Ξ "size_at" "size_at" Jh f fd)(GHead:GInt mg "PAIR_HEAD" 1)(GSize:GInt mg "PAIR_SIZE" 3):FnOk P w Ξ mg base CX0 1 f fd ["outside","address"] (spP Xr):=by
 refine F.zP scSizeAt (λts Qt h=>?_) (λcdv A outer s H E hr=>?_)
 ·obtain⟨_,_,_,rfl,_⟩:=h
  rfl
 refine⟨_,(qf (qB (i:=2) scSizeAt.nd rfl W6 (qA (Ua Ξ) (qv 0) (qv 1) (λ_ _=>rfl)))
  (qi (qw (zr (qF zB (qv 2) (zK GHead rfl) (qI _)) (zK GSize rfl) (qq qO (qq xF (qv 2) qe) qe))))),_,(qh (qx (ve (qb 0) (qb 1)) (qm 2))
   (qy (JY (qL (qo ze (qb 2) WS)) WS (qo (qE λ_ _=>.int _) (qo (v3 λ_ _=>.int _) (qb 2) WS) WS)))),λts Qt h=>?_⟩
 obtain⟨os,k,x,rfl,hx,q⟩:=h;symm;refine vU (atT hx) ?_;symm;unfold qT at q;refine ite2 (λz=>?_) (λz=>⟨⟨by decide,by decide⟩, ?_⟩)
 ·rw[if_pos z] at q; exact q
 ·rw[if_neg z] at q; exact q
abbrev Qn:Stmt:=top 17
theorem scNumberAt:FnScope ["laying","outside","address","amount","limb"] ["laying","outside","address"] (qg Qn):=⟨rfl,rfl,rfl,by decide +kernel,rfl,by decide +kernel,by decide +kernel⟩
def gNumG:List T->(T->Prop)->Prop:=λts Q=>∃(bits:Int)(ms:List Mk3)(os:List Int)(k:Nat)(x:Int),ts=[layT bits ms,vn os, .int k]/\os[k]?=some x/\4<=x/\k+qT x<=os.length/\os.length<=1000/\1<=bits/\bits<=60/\WdsOk bits os/\Q (.int (numI bits.toNat os k x))
theorem limI_len{os:List Int}{k:Nat}(h4:4<=x)(he:k+qT x<=os.length):(limI os k x).length=(x / 4).toNat:=by
 unfold limI;unfold qT at he;rw[if_neg (by lia)] at he;rw[U0,DD];lia
theorem ok_numG(F:Fun Ξ "number_at" "number_at" Qn f fd)(N2:Nms2 mg)(DSizeAt:Def P w Ξ mg base "size_at" 1 ["outside","address"] (spP Xr)):FnOk P w Ξ mg base CX0 2 f fd ["laying","outside","address"] (spP gNumG):=by
 refine F.zP scNumberAt (λts Qt h=>?_) (λcdv A outer s H E hr=>?_)
 ·obtain⟨_,_,_,_,_,rfl,_⟩:=h
  rfl
 refine⟨_,(qf (qB (i:=3) scNumberAt.nd rfl W6 qe)
  (qf (Qz PassesOwn.never rfl (qi_revK (Ξ:=Ξ) rfl rfl N2.reversed (qa_c (vS (GP Ξ) (qv 1) (vN (qq qO (qv 2) qe)) (vN (qq qO (qv 2) (qk DSizeAt (WR hr) (qa_c (qv 1) (qa_c (qv 2) qd)))))) qd)) (vD (i:=4) scNumberAt.nd rfl W6)
   (qi (qB (i:=3) scNumberAt.nd rfl W6 (qq qO (qq op_shlB (qv 3) (qA (Ub Ξ) (qv 0) qe (λ_ _=>rfl))) (qv 4)))))
  (qi (qw (zr (qF zB (qq zu (qA (Ua Ξ) (qv 1) (qv 2) (λ_ _=>rfl)) qe) qe (qI _)) (qv 3) (qe_un YX (qv 3))))))),_,(qh (qx WS (qm 3))
   (qh (Vp (ci_rev (qa (Zo (qb 1) (vY (qo (qE λ_ _=>.int _) (qb 2) WS)) (vY (qo (qE λ_ _=>.int _) (qb 2) (ql (qa (qb 1) (qa (qb 2) qc)))))) qc)) (qm 4)
   (qx (qo (qE λ_ _=>.int _) (qo (v3 λ_ _=>.int _) (qb 3) (qW (qb 0) WS)) (qb 4)) (qm 3)))
   (qy (JY (qL (qo ze (qo (v3 λ_ _=>.int _) (ve (qb 1) (qb 2)) WS) WS)) (qb 3) (ce_neg (qb 3)))))),λts Qt h=>?_⟩
 obtain⟨bits,ms,os,k,x,rfl,hx,h4,he,hz,b0,b1,hw,q⟩:=h;have hs:qT x=x / 4+1:=by unfold qT; rw[if_neg (by lia)]
 have hll:=limI_len h4 he;have hlw:∀y∈limI os k x,0<=y/\y<2^bits.toNat:=λy hy=>hw y (D3 (Dw hy));symm;refine⟨os,k,x,rfl,hx, ?_⟩;symm;have e1:(k:Int)+1=((k+1:Nat):Int):=by push_cast; rfl
 have e2:(k:Int)+qT x=((k+1+(x / 4).toNat:Nat):Int):=by rw[hs]; push_cast; lia
 have hcut:cutT (os.map T.int) (some ((k:Int)+1)) (some ((k:Int)+qT x))=(limI os k x).map T.int:=by
  rw[e1,e2,K6 (by lia) (by rw[hs] at he; lia)]
  congr 1;unfold limI
  congr 1;lia
 rw[hcut];generalize hL:limI os k x=L at *;refine ufor_rev (λi ρ M'=>M'=[]/\∃x4,ρ=[some (.p (layT bits ms)),some (.p (vn os)),some (.p (.int k)),some (.p (.int (valL bits.toNat (L.drop (L.length-i))))),x4]) ⟨rfl,none,by rw[Nat.sub_zero,List.drop_length]; rfl⟩ ?_ ?_
 ·rintro i y ρ M' hi hy ⟨rfl,x4,rfl⟩
  rw[Uh] at hi hy;obtain⟨l,hl,rfl⟩:=get_map hy;symm;have hd:L.drop (L.length-(i+1))=l::L.drop (L.length-i):=by
   obtain⟨h1,h2⟩:=Ue.mp hl;rw[show L.length-(i+1)=L.length-1-i by lia,List.drop_eq_getElem_cons h1,h2]
   congr 2;lia
  have hv:=YV (b:=bits.toNat) (L:=L.drop (L.length-i)) λy hy=>hlw y (D3 hy);refine⟨⟨by lia,by lia, ?_⟩,some (.p (.int l)), ?_⟩
  ·have h1:(valL bits.toNat (L.drop (L.length-i))).natAbs<2^(bits.toNat*(L.drop (L.length-i)).length):=by
    have:=hv.2;have e:((2^(bits.toNat*(L.drop (L.length-i)).length):Nat):Int)=2^(bits.toNat*(L.drop (L.length-i)).length):=by simp
    lia
   refine Uy h1 (Du (by decide) ?_);have h2:(L.drop (L.length-i)).length<=1000:=by
    rw[DD];lia
   have h3:bits.toNat<=60:=by lia
   exact UL (Nat.mul_le_mul h3 h2) (by decide)
  ·rw[hd,show valL bits.toNat (l::L.drop (L.length-i))=l+2^bits.toNat*valL bits.toNat (L.drop (L.length-i)) from rfl,Br l,Bo]
 ·rintro ρ M' ⟨rfl,x4,rfl⟩
  rw[Uh,DJ,R4];symm;refine vU (atT hx) ?_;symm;refine⟨by decide, ?_⟩;unfold numI at q;rw[hL] at q;refine ite2 (λz=>?_) (λz=>?_)
  ·rw[if_pos z] at q
   exact q
  ·rw[if_neg z] at q
   exact q
def Vj(x:Int):Bool:=decide (x=1)||(decide (4<=x)&&decide (x % 2=0))
def xN(bits sm:Int)(os:List Int)(k:Nat)(x:Int):Option Str :=
 if Vj x=false then some "head" else if(os.length:Int)<k+qT x then some "end" else if x=1 then none else if os[k+(x / 4).toNat]?=some 0 then some "limb" else if zq sm (numI bits.toNat os k x)=true then some "small" else none
def thF(bad:Nat->Option Str)(sz:Nat->Nat)(len:Nat)(k:Nat):Option (Str×Int)×List Nat :=
 if h:k<len/\0<sz k then
  match bad k with
  |some w=>(some (w,8+k), [])
  |none=>((thF bad sz len (k+sz k)).1,k::(thF bad sz len (k+sz k)).2)
 else(none, [])
termination_by len-k
decreasing_by all_goals lia
def badK(bits sm:Int)(os:List Int)(k:Nat):Option Str:=(os[k]?).bind (xN bits sm os k)
def szK(os:List Int)(k:Nat):Nat:=(qT ((os[k]?).getD 1)).toNat
def thI(bits sm:Int)(os:List Int):Nat->Option (Str×Int)×List Nat:=thF (badK bits sm os) (szK os) os.length
theorem Qg{os:List Int}(h:os.length<=k):thI bits sm os k=(none, []):=by
 unfold thI thF;rw[dif_neg (by lia)]
theorem zW{os:List Int}(h:xN bits sm os k x=none):2<=qT x/\k+qT x<=os.length/\Vj x=true:=by
 unfold xN at h;split at h
 ·cases h
 rename_i h1;split at h
 ·cases h
 rename_i h2;have hh:Vj x=true:=by simpa using h1
 refine⟨?_,by lia,hh⟩;unfold qT;unfold Vj at hh;split
 ·lia
 ·rename_i h3
  simp[h3] at hh;lia
theorem thI_bad{os:List Int}{w:Str}(hx:os[k]?=some x)(h0:0<=x)(h:xN bits sm os k x=some w):thI bits sm os k=(some (w,(8:Int)+k), []):=by
 have hk:=(Ue.mp hx).1;have hb:badK bits sm os k=some w:=by unfold badK; rw[hx]; exact h
 have hs:0<szK os k:=by
  unfold szK;rw[hx];show 0<(qT x).toNat;unfold qT;split<;>lia
 unfold thI thF;rw[dif_pos ⟨hk,hs⟩,hb]
theorem Zx{os:List Int}(hx:os[k]?=some x)(h:xN bits sm os k x=none):thI bits sm os k=((thI bits sm os (k+(qT x).toNat)).1,k::(thI bits sm os (k+(qT x).toNat)).2):=by
 have hk:=(Ue.mp hx).1;have hb:badK bits sm os k=none:=by unfold badK; rw[hx]; exact h
 have he:szK os k=(qT x).toNat:=by unfold szK; rw[hx]; rfl
 have hs:=(zW h).1
 conv=>lhs; unfold thI thF
 rw[dif_pos ⟨hk,by rw[he]; lia⟩,hb,he];rfl
theorem Zy{os:List Int}:∀(n k:Nat),os.length-k<=n->∀j∈(thI bits sm os k).2,k<=j/\j<os.length/\∃x,os[j]?=some x/\xN bits sm os j x=none
 |n,k,hn=>λj hj=>by
  by_cases hk:k<os.length
  ·obtain⟨x,hx⟩:∃x,os[k]?=some x:=⟨_,Uf hk⟩
   cases hb:xN bits sm os k x with
   |none =>
    have hs:=zW hb;rw[Zx hx hb] at hj;rcases Uv.mp hj with rfl|hj
    ·exact⟨Uk _,hk,x,hx,hb⟩
    ·match n,hn with
     |0,hn=>lia
     |n+1,hn =>
      obtain⟨h1,h2⟩:=Zy n (k+(qT x).toNat) (by lia) j hj;exact⟨by lia,h2⟩
   |some w =>
    have:(thI bits sm os k).2=[]:=by
     unfold thI thF;split
     ·have hbk:badK bits sm os k=some w:=by unfold badK; rw[hx]; exact hb
      rw[hbk]
     ·rfl
    rw[this] at hj;cases hj
  ·rw[Qg (by lia)] at hj
   cases hj
theorem thI_nd{os:List Int}:∀(n k:Nat),os.length-k<=n->(thI bits sm os k).2.Pairwise (· < ·)
 |n,k,hn=>by
  by_cases hk:k<os.length
  ·obtain⟨x,hx⟩:∃x,os[k]?=some x:=⟨_,Uf hk⟩
   cases hb:xN bits sm os k x with
   |none =>
    have hs:=zW hb;rw[Zx hx hb]
    match n,hn with
    |0,hn=>lia
    |n+1,hn =>
     refine U4.mpr ⟨λj hj=>?_,thI_nd n (k+(qT x).toNat) (by lia)⟩;have:=(Zy _ _ (Uk _) j hj).1;lia
   |some w =>
    have:(thI bits sm os k).2=[]:=by
     unfold thI thF;split
     ·have hbk:badK bits sm os k=some w:=by unfold badK; rw[hx]; exact hb
      rw[hbk]
     ·rfl
    rw[this];exact .nil
  ·rw[Qg (by lia)]
   exact .nil
structure Hds(os:List Int)(hs:List Nat):Prop where
 ex:∃bits sm,(thI bits sm os 0).1=none/\(thI bits sm os 0).2=hs
 w:∀x∈os,0<=x
 z:os.length<=1000
theorem jp(e:M[k]?=some (.lst (l.map U.p))):frzN (n+1) M (.m k)=some (.lst l):=by simp only[frzN,e]; rw[kU (λ_=>kz)]; rfl
theorem Hds.at{os:List Int}(h:Hds os hs):∀k∈hs,∃x,os[k]?=some x/\k+qT x<=os.length/\Vj x=true:=λk hk=>by
 obtain⟨bits,sm,_,rfl⟩:=h.ex;obtain⟨_,_,x,hx,hb⟩:=Zy _ _ (Uk _) k hk;exact⟨x,hx,(zW hb).2⟩
theorem Hds.lt{os:List Int}(h:Hds os hs):hs.Pairwise (· < ·):=by
 obtain⟨bits,sm,_,rfl⟩:=h.ex;exact thI_nd _ _ (Uk _)
theorem Hds.len{os:List Int}(h:Hds os hs):hs.length<=1000:=by
 have h1:∀(l:List Nat)(a b:Nat),l.Pairwise (· < ·)->(∀x∈l,a<=x/\x<b)->l.length<=b-a:=by
  intro l
  induction l with
  |nil=>intro a b _ _; exact UW _
  |cons y l ih =>
   intro a b hp hm;rw[U4] at hp;have:=ih (y+1) b hp.2 λx hx=>⟨hp.1 x hx,(hm x (.tail _ hx)).2⟩;have h2:=hm y (.head _);rw[Um];lia
 have:=h1 hs 0 os.length h.lt λk hk=>by
  obtain⟨x,hx,_⟩:=h.at k hk;exact⟨UW _,(Ue.mp hx).1⟩
 have:=h.z;lia
abbrev VP:Stmt:=top 35
theorem scHeadsIn:FnScope ["outside","heads","address"] ["outside"] (qg VP):=⟨rfl,rfl,rfl,by decide +kernel,rfl,by decide +kernel,by decide +kernel⟩
def gHeads:List T->(T->Prop)->Prop:=λts Q=>∃(os:List Int)(hs:List Nat),ts=[vn os]/\Hds os hs/\Q (.lst (hs.map λ(k:Nat)=>T.int k))
theorem ok_heads(F:Fun Ξ "heads_in" "heads_in" VP f fd)(N:Nms mg)(DSizeAt:Def P w Ξ mg base "size_at" 1 ["outside","address"] (spP Xr)):FnOk P w Ξ mg base CX0 2 f fd ["outside"] (spP gHeads):=by
 refine F.zP scHeadsIn (λts Qt h=>?_) (λcdv A outer s H E hr=>?_)
 ·obtain⟨_,_,rfl,_⟩:=h
  rfl
 refine⟨_,(qf (qB (i:=1) scHeadsIn.nd rfl W6 (qN qd))
  (qf (qB (i:=2) scHeadsIn.nd rfl W6 qe)
  (qf (VY PassesOwn.never (qF Z3 (qv 2) (vb vZ (by rfl) N.len Vc (qa_c (qv 0) qd)) (qI _))
   (qf (vg (j6 PySem.F.slot_list_append PySem.F.type_list_append vJ (qv 1) (qa_c (qv 2) qd)))
   (qi (qs_aug (i:=2) scHeadsIn.nd rfl W6 (qk DSizeAt (WR hr) (qa_c (qv 0) (qa_c (qv 2) qd))) ip_add))))
  (qi (qw (qv 1)))))),_,(qh (qx (xV qc) (qm 1))
   (qh (qx WS (qm 2))
   (qh (Zl (qL (qo (qE λ_ _=>.bl _) (qb 2) (Q3 (qa (qb 0) qc))))
   (qh (vi (ko vF (qb 1) (qa (qb 2) qc)))
   (cs_aug (ql (qa (qb 0) (qa (qb 2) qc))))))
   (qy (qb 1))))),λts Qt h=>?_⟩
 obtain⟨os,hs,rfl,⟨⟨bits,sm,hn,hh⟩,hw,hz⟩,q⟩:=h;symm;refine⟨λd ρ M=>∃(k:Nat)(gs:List Nat),d=os.length-k/\ρ=[some (.p (vn os)),some (.m 0),some (.p (.int k))]/\M=[.lst ((gs.map λ(j:Nat)=>T.int j).map U.p)]/\(thI bits sm os k).1=none/\gs++(thI bits sm os k).2=hs/\gs.length<=k,⟨_,0, [],rfl,rfl,rfl,hn,hh,Uk _⟩, ?_⟩;rintro d ρ M ⟨k,gs,rfl,rfl,rfl,h1,h2,h3⟩;symm;rw[Uh];refine ite2 (λhl=>?_) (λhl=>?_)
 ·have hl:k<os.length:=by lia
  obtain⟨x,hx⟩:∃x,os[k]?=some x:=⟨_,Uf hl⟩;have hxw:=hw x (Ui hx);have hb:xN bits sm os k x=none:=by
   cases hb:xN bits sm os k x with
   |none=>rfl
   |some w=>rw[thI_bad hx hxw hb] at h1; cases h1
  have hs2:=zW hb;rw[Zx hx hb] at h1 h2;refine⟨λρ M=>ρ=[some (.p (vn os)),some (.m 0),some (.p (.int ((k+(qT x).toNat:Nat):Int)))]/\M=[.lst (((gs++[k]).map λ(j:Nat)=>T.int j).map U.p)], ?_, ?_⟩
  ·rintro ρ' M' ⟨rfl,rfl⟩
   exact⟨os.length-(k+(qT x).toNat),by lia,k+(qT x).toNat,gs++[k],rfl,rfl,rfl,h1,by rw[Us]; exact h2,by rw[Uj]; show gs.length+1<=_; lia⟩
  ·symm
   refine⟨by rw[Uh,Uh,sizeLine_eq]; lia, ?_⟩;simp only[uAug];symm;have e:(k:Int)+qT x=((k+(qT x).toNat:Nat):Int):=by push_cast; lia
   refine⟨_,rfl,os,k,x,rfl,hx,_,rfl,by rw[e], ?_⟩;rw[Ux,Ux];rfl
 ·rw[Qg (by lia)] at h2
  rw[UZ] at h2;subst h2;symm;exact⟨_,jp rfl,q⟩
def kindAt(os:List Int)(k:Nat):Str:=if os[k]?=some 1 then "pair" else "far"
def hkv(os:List Int)(hs:List Nat):List (Key×U):=hs.map λ(k:Nat)=>(Key.inl (k:Int),U.p (.str (kindAt os k)))
theorem Kx(h:∀kv∈kvs,kv.1≠k):putU kvs k v=kvs++[(k,v)]:=by
 unfold putU;rw[if_neg];intro z;obtain⟨kv,hkv,e⟩:=List.any_eq_true.mp z;exact h kv hkv (of_decide_eq_true e)
theorem pw_take{hs:List Nat}(h:hs.Pairwise (· < ·))(hk:hs[i]?=some k):∀j∈hs.take i,j≠k:=λj hj=>by
 obtain⟨n,hn⟩:=Dv hj;have hni:n<i:=by
  have:=(Ue.mp hn).1;rw[U0] at this;lia
 rw[List.getElem?_take,if_pos hni] at hn;obtain⟨h1,rfl⟩:=Ue.mp hn;obtain⟨h2,rfl⟩:=Ue.mp hk;exact UH (List.pairwise_iff_getElem.mp h n i h1 h2 hni)
abbrev j3:Stmt:=top 33
theorem scAddressOf:FnScope ["laying","word","kind"] ["laying","word"] (qg j3):=⟨rfl,rfl,rfl,by decide +kernel,rfl,by decide +kernel,by decide +kernel⟩
def xB(word:Int)(ms:List Mk3):Option (Str×Int):=match ms.filter (on word) with
 | []=>none
 |m::_=>if m.1 = "far" \/ m.1 = "pair" then some (m.1,word / 2^m.2.1.toNat) else none
def YS:Option (Str×Int)->T
 |none=>.non
 |some p=>.int p.2
def gAddr:List T->(T->Prop)->Prop:=λts Q=>∃(bits:Int)(ms:List Mk3)(word:Int),ts=[layT bits ms, .int word]/\Right bits ms/\Q (YS (xB word ms))
theorem ok_addr(F:Fun Ξ "address_of" "address_of" j3 f fd)(DMarkOf:Def P w Ξ mg base "mark_of" 2 ["laying","word"] (spP jo))(DLoadOf:Def P w Ξ mg base "load_of" 2 ["laying","word","kind"] (spP JL)):FnOk P w Ξ mg base CX0 3 f fd ["laying","word"] (spP gAddr):=by
 refine F.zP scAddressOf (λts Qt h=>?_) (λcdv A outer s H E hr=>?_)
 ·obtain⟨_,_,_,rfl,_⟩:=h
  rfl
 refine⟨_,(qf (qB (i:=2) scAddressOf.nd rfl W6 (qk DMarkOf (WR hr) (qa_c (qv 0) (qa_c (qv 1) qd))))
  (qi (qw (zr (qF (op_inK (Ξ:=Ξ) rfl) (qv 2) (vc (qa_c qK (qa_c qK qd))) (by with_unfolding_all rfl)) (qk DLoadOf (WR hr) (qa_c (qv 0) (qa_c (qv 1) (qa_c (qv 2) qd)))) xS)))),_,(qh (qx (ql (qa (qb 0) (qa (qb 1) qc))) (qm 2))
   (qy (JY (qL (qo opl_in (qb 2) (vA (qa W1 (qa W1 qc))))) (ql (qa (qb 0) (qa (qb 1) (qa (qb 2) qc)))) (ce_c .non)))),λts Qt h=>?_⟩
 obtain⟨bits,ms,word,rfl,hR,q⟩:=h;symm;refine⟨bits,ms,word,rfl,hR.wd,by rw[hR.n]; decide, ?_⟩;unfold xB at q;unfold jk;cases e:ms.filter (on word) with
 |nil =>
  rw[e] at q;symm;refine⟨_,_,_,rfl,rfl,rfl,⟨_,rfl, ?_⟩⟩;exact zI (by decide +kernel) q
 |cons m r =>
  rw[e] at q;have hmem:m∈ms:=(UJ.mp (by rw[e]; exact UN)).1;have hmk:=hR.ofKind hmem;have hmw:=hR.wd m hmem;symm;refine⟨_,_,_,rfl,rfl,rfl,⟨_,rfl, ?_⟩⟩;have ei:inV (V.str m.1) [V.str "far", V.str "pair"]=decide (m.1 = "far" \/ m.1 = "pair"):=by
   rw[show([V.str "far", V.str "pair"]:List V)=(["far","pair"]:List Str).map V.str from rfl,inV_strs];exact decide_eq_decide.mpr ⟨λz=>by rcases Uv.mp z with z|z; exact .inl z; exact .inr (Uu.mp z),λz=>by rcases z with z|z; rw[z]; exact .head _; rw[z]; exact .tail _ (.head _)⟩
  show if inV (V.str m.1) [V.str "far", V.str "pair"]=true then _ else _
  rw[ei];refine ite2 (λh=>?_) (λh=>?_)
  ·have h:=of_decide_eq_true h
   rw[show(match m::r with | []=>none|m::_=>if m.1 = "far" \/ m.1 = "pair" then some (m.1,word / 2^m.2.1.toNat) else none)=some (m.1,word / 2^m.2.1.toNat) from if_pos h] at q;exact⟨bits,ms,word,m.1,m,rfl,by rw[hR.n]; decide,hmk,hmw.1,q⟩
  ·have h:¬(m.1 = "far" \/ m.1 = "pair"):=λz=>h (decide_eq_true z)
   rw[show(match m::r with | []=>none|m::_=>if m.1 = "far" \/ m.1 = "pair" then some (m.1,word / 2^m.2.1.toNat) else none)=none from if_neg h] at q;exact q
def wOf(ms:List Mk3)(kind:Str):Int:=match ms.filter (λm=>decide (m.1=kind)) with
 |m::_=>m.2.1
 | []=>0
theorem Ke(h:OfKind ms kind m):wOf ms kind=m.2.1:=by
 obtain⟨r,e⟩:=h;unfold wOf;rw[e]
def YB(bits:Int)(ms:List Mk3)(room:Int):Int:=min3 room (2^(bits-wOf ms "far").toNat) (2^(bits-wOf ms "pair").toNat)
theorem wOf_le(hR:Right bits ms)(h:kind∈jF):1<=wOf ms kind/\2<=bits-wOf ms kind/\bits-wOf ms kind<=31:=by
 obtain⟨m,hm⟩:=hR.kind h;rw[Ke hm];have hmm:m∈ms:=by
  obtain⟨rest,hr⟩:=hm;exact(UJ.mp (by rw[hr]; exact .head _)).1
 have h1:=hR.w m hmm;have h2:=zC m.1;have h3:=hR.b;lia
abbrev xt:Stmt:=top 47
theorem VG:FnScope ["laying","room"] ["laying","room"] (qg xt):=⟨rfl,rfl,rfl,by decide +kernel,rfl,by decide +kernel,by decide +kernel⟩
def gMost:List T->(T->Prop)->Prop:=λts Q=>∃(bits:Int)(ms:List Mk3)(room:Int),ts=[layT bits ms, .int room]/\Right bits ms/\Q (.int (YB bits ms room))
theorem ok_most(F:Fun Ξ "most_outside" "most_outside" xt f fd)(N:Nms mg)(DLoadBits:Def P w Ξ mg base "load_bits" 2 ["laying","kind"] (spP qae)):FnOk P w Ξ mg base CX0 3 f fd ["laying","room"] (spP gMost):=by
 refine F.zP VG (λts Qt h=>?_) (λcdv A outer s H E hr=>?_)
 ·obtain⟨_,_,_,rfl,_⟩:=h
  rfl
 refine⟨_,(qi (qw (vb (qaO rfl) (by rfl) N.min b_min (qa_c (qv 1) (qa_c (qq zG qe (qk DLoadBits (WR hr) (qa_c (qv 0) (qa_c qK qd)))) (qa_c (qq zG qe (qk DLoadBits (WR hr) (qa_c (qv 0) (qa_c qK qd)))) qd)))))),_,(qy (Q4 cbl_min3 (qa (qb 1) (qa (qo (v3 λ_ _=>.int _) WS (ql (qa (qb 0) (qa W1 qc)))) (qa (qo (v3 λ_ _=>.int _) WS (ql (qa (qb 0) (qa W1 qc)))) qc))))),λts Qt h=>?_⟩;obtain⟨bits,ms,room,rfl,hR,q⟩:=h;obtain⟨m1,hm1⟩:=hR.kind (kind := "far") (by decide +kernel);obtain⟨m2,hm2⟩:=hR.kind (kind := "pair") (by decide +kernel);have h1:=wOf_le hR (kind := "far") (by decide +kernel);have h2:=wOf_le hR (kind := "pair") (by decide +kernel);have hl:ms.length<=900:=by rw[hR.n]; decide
 unfold YB at q;rw[Ke hm1] at q h1;rw[Ke hm2] at q h2;symm;refine⟨bits,ms,_,m1,rfl,hl,hm1, ?_⟩;symm;refine⟨⟨by lia,by lia,by decide⟩,bits,ms,_,m2,rfl,hl,hm2, ?_⟩;symm;refine⟨⟨by lia,by lia,by decide⟩, ?_⟩;simp only[rd_min3,Da];symm;exact q
def pwI(os:List Int)(k:Nat):List Int:=if os[k]?=some 1 then(os.drop (k+1)).take 2 else[]
theorem qax{os:List Int}(h:a<=b)(hb:b<=os.length):cutT (os.map T.int) (some (a:Int)) (some (b:Int))=((os.drop a).take (b-a)).map T.int:=by
 unfold cutT;rw[HT.sIx_nat,HT.sIx_nat,Uh,DA hb,DA (UL h hb),Be,Bf]
abbrev xp:Stmt:=top 36
theorem VD:FnScope ["outside","address"] ["outside","address"] (qg xp):=⟨rfl,rfl,rfl,by decide +kernel,rfl,by decide +kernel,by decide +kernel⟩
def qaa:List T->(T->Prop)->Prop:=λts Q=>∃(os:List Int)(k:Nat)(x:Int),ts=[vn os, .int k]/\os[k]?=some x/\k+qT x<=os.length/\Q (vn (pwI os k))
theorem ok_pairW(F:Fun Ξ "pair_words_at" "pair_words_at" xp f fd)(GHead:GInt mg "PAIR_HEAD" 1):FnOk P w Ξ mg base CX0 1 f fd ["outside","address"] (spP qaa):=by
 refine F.zP VD (λts Qt h=>?_) (λcdv A outer s H E hr=>?_)
 ·obtain⟨_,_,_,rfl,_⟩:=h
  rfl
 refine⟨_,(qi (qw (zr (qF zB (qA (Ua Ξ) (qv 0) (qv 1) (λ_ _=>rfl)) (zK GHead rfl) (qI _)) (vS (GP Ξ) (qv 0) (vN (qq qO (qv 1) qe)) (vN (qq qO (qv 1) qe))) (qN qd)))),_,(qy (JY (qL (qo ze (ve (qb 0) (qb 1)) WS)) (Zo (qb 0) (vY (qo (qE λ_ _=>.int _) (qb 1) WS)) (vY (qo (qE λ_ _=>.int _) (qb 1) WS))) (vB qc))),λts Qt h=>?_⟩;obtain⟨os,k,x,rfl,hx,he,q⟩:=h;symm;refine vU (atT hx) ?_;symm;unfold pwI at q;refine ite2 (λz=>?_) (λz=>?_)
 ·subst z
  rw[if_pos hx] at q;symm;have e1:((k:Int)+1)=((k+1:Nat):Int):=by push_cast; rfl
  have e3:((k:Int)+3)=((k+3:Nat):Int):=by push_cast; rfl
  rw[e1,e3,qax (by lia) (by unfold qT at he; rw[if_pos rfl] at he; lia),show k+3-(k+1)=2 by lia];exact q
 ·rw[if_neg (by rw[hx]; exact λy=>z (Option.some.inj y))] at q
  symm;exact q
def YH(ms:List Mk3)(word:Int)(k:Nat):Prop:=∃s,xB word ms=some (s,(k:Int))
inductive Rch(ms:List Mk3)(ws os:List Int):Nat->Prop
 |of {word:Int} {k:Nat}:word∈ws->YH ms word k->Rch ms ws os k
 |to {j k:Nat} {word:Int}:Rch ms ws os j->word∈pwI os j->YH ms word k->Rch ms ws os k
structure SI(bits:Int)(ms:List Mk3)(ws os:List Int)(hs:List Nat):Prop where
 R:Right bits ms
 h:Hds os hs
 w:∀word∈ws,∀s a,xB word ms=some (s,a)->∃k∈hs,a=(k:Int)
 o:∀j∈hs,∀word∈pwI os j,∀s a,xB word ms=some (s,a)->∃k∈hs,a=(k:Int)
 n:ws.length<=1000
theorem QK:∀{ks hs:List Nat},ks.Nodup->(∀k∈ks,k∈hs)->ks.length<=hs.length
 | [],_,_,_=>UW _
 |k::ks,hs,h1,h2=>by
  have hk:=h2 k (.head _);rw[Dc] at h1;have:=QK (hs:=hs.erase k) h1.2 λx hx=>(List.mem_erase_of_ne (λz:x=k=>h1.1 (z▸hx))).mpr (h2 x (.tail _ hx));rw[List.length_erase_of_mem hk] at this;have:=RL hk;rw[Um];lia
def xM(ks:List Nat):List (Key×U):=ks.map λ(k:Nat)=>(Key.inl (k:Int),U.p (.bl true))
theorem Xm{k:Nat}:(valU (xM ks) (.inl (k:Int))).isSome=decide (k∈ks):=by
 induction ks with
 |nil=>rfl
 |cons j ks ih =>
  unfold xM valU at ih ⊢;rw[UB,Dh];by_cases h:j=k
  ·subst h
   simp
  ·have h1:¬((Key.inl (j:Int):Key)=Key.inl (k:Int)):=λz=>h (by injection z with z; exact_mod_cast z)
   simp only[h1,decide_false];rw[ih];simp[Ne.symm h]
theorem GT{k:Nat}(h:k∉ks):putU (xM ks) (.inl (k:Int)) (.p (.bl true))=xM (ks++[k]):=by
 rw[Kx]
 ·unfold xM
  rw[Ux];rfl
 ·intro kv hkv z
  obtain⟨j,hj,rfl⟩:=UQ.mp hkv;have z:(Key.inl (j:Int):Key)=Key.inl (k:Int):=z;injection z with z
  exact h ((by exact_mod_cast z:j=k)▸hj)
abbrev xo:Stmt:=top 39
theorem scReachedFrom:FnScope ["laying","words","outside","reached","waiting","address"] ["laying","words","outside"] (qg xo):=⟨rfl,rfl,rfl,by decide +kernel,rfl,by decide +kernel,by decide +kernel⟩
def gReach:List U->MM->UK->Prop:=λus M Q=>∃(bits:Int)(ms:List Mk3)(ws os:List Int)(hs:List Nat),us=[.p (layT bits ms), .p (vn ws), .p (vn os)]/\SI bits ms ws os hs/\∀ks:List Nat,ks.Nodup->(∀k,k∈ks↔Rch ms ws os k)->(∀k∈ks,k∈hs)->Q (.m M.length) (M++[.dK (xM ks), .lst []])
structure RI(ms:List Mk3)(ws os:List Int)(hs:List Nat)(ks:List Nat)(L:List Int):Prop where
 nd:ks.Nodup
 r:∀k∈ks,k∈hs/\Rch ms ws os k
 f:∀x∈L,x∈ws\/∃j∈ks,x∈pwI os j
 c:∀x k,(x∈ws\/∃j∈ks,x∈pwI os j)->YH ms x k->k∈ks\/x∈L
 l:L.length<=ws.length+2*ks.length
theorem VZ{os:List Int}:(pwI os k).length<=2:=by
 unfold pwI;split
 ·rw[U0]; lia
 ·exact UW _
theorem last_of{l:List Int}(h:l≠[]):∃x,l[l.length-1]?=some x/\x∈l/\l=l.dropLast++[x]:=by
 have hp:=Re.mpr h;refine⟨l[l.length-1],Uf (by lia),RG _, ?_⟩;have:=List.dropLast_concat_getLast h;rw[List.getLast_eq_getElem] at this;exact this.symm
theorem ok_reach(F:Fun Ξ "reached_from" "reached_from" xo f fd)(N:Nms mg)(DAddressOf:Def P w Ξ mg base "address_of" 3 ["laying","word"] (spP gAddr))(DPairWordsAt:Def P w Ξ mg base "pair_words_at" 1 ["outside","address"] (spP qaa)):FnOk P w Ξ mg base CX0 4 f fd ["laying","words","outside"] (spU gReach):=by
 refine F.zU scReachedFrom (λus M Qu h=>?_) (λcdv A outer s H E hr=>?_)
 ·obtain⟨_,_,_,_,_,rfl,_⟩:=h
  rfl
 refine⟨_,(qf (qB (i:=3) scReachedFrom.nd rfl W6 WN)
  (qf (qB (i:=4) scReachedFrom.nd rfl W6 (vp qP (by rfl) N.list zZ (qa_c (qv 1) qd)))
  (qf (VY PassesOwn.never (ZU (Ξ:=Ξ) rfl (qv 4) (λ_=>rfl))
   (qf (qB (i:=5) scReachedFrom.nd rfl W6 (qk DAddressOf (WR hr) (qa_c (qv 0) (qa_c (QD PySem.F.plainAttrs_list PySem.F.slot_list_pop PySem.F.type_list_pop mt_pop (qv 4)) qd))))
   (qi (v6 (Q9 (ZR (qF op_notN (qv 5) xS (qI _)) (Qx (WK (JJ hr) (qv 5) (qv 3)))))
    (qf (WL (JJ hr) (qv 3) (qv 5) ZY)
    (qi (vg (j6 PySem.F.slot_list_extend PySem.F.type_list_extend QL (qv 4) (qa_c (qk DPairWordsAt (WR hr) (qa_c (qv 2) (qa_c (qv 5) qd))) qd)))))
    va))))
  (qi (qw (qv 3)))))),_,(qh (qx qaL (qm 3))
   (qh (qx (zw (qa (qb 1) qc)) (qm 4))
   (qh (Zl (ct_tru (qb 4))
   (qh (qx (ql (qa (qb 0) (qa (Vr mel_pop (qb 4)) qc))) (qm 5))
   (vX (qaA (qL (ce_notN (qb 5))) (ct_b (qaK (qb 5) (qb 3))))
   (qh (qaB (qb 3) (qb 5) (ce_c (.bl _)))
   (vi (ko ke (qb 4) (qa (ql (qa (qb 2) (qa (qb 5) qc))) qc))))
   qR)))
   (qy (qb 3))))),λus M Qu h=>?_⟩
 obtain⟨bits,ms,ws,os,hs,rfl,hS,q⟩:=h;symm;simp only[jw];symm;refine⟨_,_,rfl, .inl rfl, ?_⟩;symm;have hl1:(M++[MO.dK []]).length=M.length+1:=by simp
 rw[hl1,Us];refine⟨λd ρ M'=>∃(ks:List Nat)(L:List Int)(x5:Option U),d=L.length+3*(hs.length-ks.length)/\ρ=[some (.p (layT bits ms)),some (.p (vn ws)),some (.p (vn os)),some (.m M.length),some (.m (M.length+1)),x5]/\M'=M++[.dK (xM ks), .lst ((L.map T.int).map U.p)]/\RI ms ws os hs ks L,⟨_, [],ws,_,rfl,rfl,rfl,⟨D1,(λk z=>nomatch z),(λx h=>.inl h),(λx k h _=>.inr (h.elim id λ⟨j,z,_⟩=>nomatch z)),by simp⟩⟩, ?_⟩;rintro d ρ M' ⟨ks,L,x5,rfl,rfl,rfl,I⟩;have hkl:=QK I.nd λk hk=>(I.r k hk).1;have hhl:=hS.h.len;have hn:=hS.n;have g0:∀a b:MO,(M++[a,b])[M.length]?=some a:=λa b=>by simp
 have g1:∀a b:MO,(M++[a,b])[M.length+1]?=some b:=λa b=>by simp
 have t0:∀a b c:MO,(M++[a,b]).set M.length c=M++[c,b]:=λa b c=>by simp
 have t1:∀a b c:MO,(M++[a,b]).set (M.length+1) c=M++[a,c]:=λa b c=>by simp
 symm;simp only[rd_tru];symm;refine⟨!((L.map T.int).map U.p).isEmpty,by simp only[truU,g1], ?_⟩;refine ite2 (λhL=>?_) (λhL=>?_)
 ·have hL:L≠[]:=λz=>by rw[z] at hL; cases hL
  obtain⟨x,hx,hxm,hxl⟩:=last_of hL;have hxU:((L.map T.int).map U.p)[((L.map T.int).map U.p).length-1]?=some (.p (.int x)):=by rw[Uh,Uh,Uz,Uz,hx]; rfl
  have hdl:((L.map T.int).map U.p).dropLast=((L.dropLast.map T.int).map U.p):=by rw[List.map_dropLast,List.map_dropLast]
  have hll:L.length=L.dropLast.length+1:=by rw[R3]; have:=Re.mpr hL; lia
  refine⟨λρ M''=>∃(ks':List Nat)(L':List Int)(x5':Option U),L'.length+3*(hs.length-ks'.length)<L.length+3*(hs.length-ks.length)/\ρ=[some (.p (layT bits ms)),some (.p (vn ws)),some (.p (vn os)),some (.m M.length),some (.m (M.length+1)),x5']/\M''=M++[.dK (xM ks'), .lst ((L'.map T.int).map U.p)]/\RI ms ws os hs ks' L', ?_, ?_⟩
  ·rintro ρ' M'' ⟨ks',L',x5',h1,rfl,rfl,I'⟩
   exact⟨_,h1,ks',L',x5',rfl,rfl,rfl,I'⟩
  ·symm
   simp only[uMe0];symm;refine⟨_,_,rfl,g1 _ _,_,rfl,hxU, ?_⟩;dsimp only;rw[t1,hdl];symm;refine⟨bits,ms,x,rfl,hS.R, ?_⟩;have skip:(∀k,YH ms x k->k∈ks)->RI ms ws os hs ks L.dropLast:=λh=>by
    refine⟨I.nd,I.r,λy hy=>I.f y (Dw (by rw[RY] at hy; exact hy)),λy k h1 h2=>?_,by have:=I.l; lia⟩;rcases I.c y k h1 h2 with z|z
    ·exact .inl z
    ·rw[hxl] at z
     rcases Uw.mp z with z|z
     ·exact .inr z
     ·rw[Uu.mp z] at h2
      exact .inl (h k h2)
   cases ea:xB x ms with
   |none =>
    unfold YS;symm;exact⟨ks,L.dropLast,_,by lia,rfl,rfl,skip λk ⟨s,z⟩=>by rw[ea] at z; cases z⟩
   |some p =>
    obtain⟨sk,a⟩:=p;obtain⟨k,hk,rfl⟩:∃k∈hs,a=(k:Int):=by
     rcases I.f x hxm with z|⟨j,hj,z⟩
     ·exact hS.w x z sk a ea
     ·exact hS.o j (I.r j hj).1 x z sk a ea
    have hlk:∀j,YH ms x j->j=k:=λj ⟨s,z⟩=>by rw[ea] at z; cases z; rfl
    unfold YS;symm;refine qao (g0 _ _) ?_;rw[Xm];symm;refine ite2 (λhin=>?_) (λhin=>?_)
    ·have hin:k∉ks:=by simpa using hin
     obtain⟨y,hy,hye,_⟩:=hS.h.at k hk;have hkl2:=QK (ks:=k::ks) (Dc.mpr ⟨hin,I.nd⟩) λj hj=>by
      rcases Uv.mp hj with rfl|hj
      ·exact hk
      ·exact(I.r j hj).1
     rw[Um] at hkl2;have hrk:Rch ms ws os k:=by
      rcases I.f x hxm with z|⟨j,hj,z⟩
      ·exact .of z ⟨sk,ea⟩
      ·exact .to (I.r j hj).2 z ⟨sk,ea⟩
     have hl:=I.l;symm;refine K1 (g0 _ _) (by unfold xM; rw[Uh,sizeLine_eq]; lia) ?_;rw[GT hin,t0];symm;refine⟨_,rfl,⟨_,g1 _ _⟩, ?_⟩;symm;refine⟨os,k,y,rfl,hy,hye, ?_⟩;symm;refine⟨_,g1 _ _,_,rfl, ?_, ?_⟩
     ·simp only[Uh]; have:=VZ (os:=os) (k:=k); rw[sizeLine_eq]; lia
     dsimp only;rw[t1, <-Ux, <-Ux];refine⟨ks++[k],L.dropLast++pwI os k,_, ?_,rfl,rfl, ?_⟩
     ·have:=VZ (os:=os) (k:=k)
      rw[Uj,Uj];show _+3*(hs.length-(ks.length+1))<_;lia
     ·refine⟨?_,λj hj=>?_,λz hz=>?_,λz j h1 h2=>?_, ?_⟩
      ·rw[Dn]
       exact⟨I.nd,by simp,λa ha b hb z=>hin (by rw[Uu.mp hb] at z; exact z▸ha)⟩
      ·rcases Uw.mp hj with hj|hj
       ·exact I.r j hj
       ·rw[Uu.mp hj]; exact⟨hk,hrk⟩
      ·rcases Uw.mp hz with hz|hz
       ·rcases I.f z (Dw (by rw[RY] at hz; exact hz)) with u|⟨j,hj,u⟩
        ·exact .inl u
        ·exact .inr ⟨j,UD _ hj,u⟩
       ·exact .inr ⟨k,by simp,hz⟩
      ·have old:(z∈ws\/∃j∈ks,z∈pwI os j)->j∈ks++[k]\/z∈L.dropLast++pwI os k:=λh1=>by
        rcases I.c z j h1 h2 with u|u
        ·exact .inl (UD _ u)
        ·rw[hxl] at u
         rcases Uw.mp u with u|u
         ·exact .inr (UD _ u)
         ·rw[Uu.mp u] at h2
          exact .inl (by rw[hlk j h2]; simp)
       rcases h1 with u|⟨i,hi,u⟩
       ·exact old (.inl u)
       ·rcases Uw.mp hi with hi|hi
        ·exact old (.inr ⟨i,hi,u⟩)
        ·rw[Uu.mp hi] at u
         exact .inr (UM _ u)
      ·have:=VZ (os:=os) (k:=k)
       rw[Uj,Uj];show _<=_+2*(ks.length+1);lia
    ·have hin:k∈ks:=by simpa using hin
     exact⟨ks,L.dropLast,_,by lia,rfl,rfl,skip λj z=>hlk j z▸hin⟩
 ·have hL:L=[]:=by
   cases L with
   |nil=>rfl
   |cons=>exact absurd rfl hL
  subst hL;symm;refine q ks I.nd (λk=>⟨λhk=>(I.r k hk).2,λhk=>?_⟩) λk hk=>(I.r k hk).1;have cl:∀x k,(x∈ws\/∃j∈ks,x∈pwI os j)->YH ms x k->k∈ks:=λx k h1 h2=>(I.c x k h1 h2).elim id λz=>nomatch z
  induction hk with
  |of h1 h2=>exact cl _ _ (.inl h1) h2
  |to _ h1 h2 ih=>exact cl _ _ (.inr ⟨_,ih,h1⟩) h2
theorem Wa{os:List Int}:∀(n k:Nat),os.length-k<=n->(thI bits sm os k).2.Pairwise (λa b=>a+szK os a<=b)
 |n,k,hn=>by
  by_cases hk:k<os.length
  ·obtain⟨x,hx⟩:∃x,os[k]?=some x:=⟨_,Uf hk⟩
   cases hb:xN bits sm os k x with
   |none =>
    have hs:=zW hb;rw[Zx hx hb]
    match n,hn with
    |0,hn=>lia
    |n+1,hn =>
     refine U4.mpr ⟨λj hj=>?_,Wa n (k+(qT x).toNat) (by lia)⟩;have:=(Zy _ _ (Uk _) j hj).1;have e:szK os k=(qT x).toNat:=by unfold szK; rw[hx]; rfl
     lia
   |some w =>
    unfold thI thF;split
    ·rw[show badK bits sm os k=some w by unfold badK; rw[hx]; exact hb]
     exact .nil
    ·exact .nil
  ·rw[Qg (by lia)]
   exact .nil
theorem Hds.gap{os:List Int}(h:Hds os hs):hs.Pairwise (λa b=>a+szK os a<=b):=by
 obtain⟨bits,sm,_,rfl⟩:=h.ex;exact Wa _ _ (Uk _)
theorem Hds.sz{os:List Int}(h:Hds os hs)(hk:k∈hs):k<os.length/\k+szK os k<=os.length/\2<=szK os k/\∃x,os[k]?=some x/\szK os k=(qT x).toNat/\2<=qT x:=by
 obtain⟨bits,sm,_,rfl⟩:=h.ex;obtain⟨_,h1,x,hx,hb⟩:=Zy _ _ (Uk _) k hk;have h2:=zW hb;have e:szK os k=(qT x).toNat:=by unfold szK; rw[hx]; rfl
 exact⟨h1,by lia,by lia,x,hx,e,h2.1⟩
def offs(os:List Int):List Nat->Nat->List (Nat×Nat)
 | [],_=>[]
 |k::r,n=>(k,n)::offs os r (n+szK os k)
def szs(os:List Int)(rs:List Nat):Nat:=(rs.map (szK os)).sum
theorem KC{os:List Int}:∀{r:List Nat}{k n:Nat},offs os (r++[k]) n=offs os r n++[(k,n+szs os r)]
 | [],k,n=>by simp[offs,szs]
 |j::r,k,n=>by
  show(j,n)::offs os (r++[k]) (n+szK os j)=(j,n)::(offs os r (n+szK os j)++[(k,n+szs os (j::r))]);rw[KC];simp only[szs,UB,RC,Bh]
theorem kP{os:List Int}:∀{r:List Nat}{n:Nat},(offs os r n).map (·.1)=r
 | [],_=>rfl
 |k::r,n=>congrArg (k :: ·) kP
theorem Gs{os:List Int}:∀{rs:List Nat}{n:Nat},rs.Pairwise (λa b=>a+szK os a<=b)->(∀k∈rs,n<=k)->∀p∈offs os rs n,p.2<=p.1
 | [],_,_,_=>λp hp=>nomatch hp
 |k::r,n,h,hn=>λp hp=>by
  rw[U4] at h;rcases Uv.mp hp with rfl|hp
  ·exact hn k (.head _)
  ·exact Gs h.2 (λj hj=>by have:=h.1 j hj; have:=hn k (.head _); lia) p hp
def plD(os:List Int)(rs:List Nat):List (Key×U):=(offs os rs 0).map λp=>(Key.inl (p.1:Int),U.p (.int (p.2:Int)))
theorem WX{os:List Int}:(plD os rs).length=rs.length:=by
 unfold plD;rw[Uh, <-Uh (f:=Prod.fst),kP]
theorem plD_put{os:List Int}{k:Nat}(h:k∉rs):putU (plD os rs) (.inl (k:Int)) (.p (.int (szs os rs:Int)))=plD os (rs++[k]):=by
 rw[Kx]
 ·unfold plD
  rw[KC,Ux,Di];rfl
 ·intro kv hkv z
  obtain⟨p,hp,rfl⟩:=UQ.mp hkv;have z:(Key.inl (p.1:Int):Key)=Key.inl (k:Int):=z;injection z with z
  have:p.1∈rs:=by
   have:=Do (f:=Prod.fst) hp;rwa [kP] at this
  exact h ((by exact_mod_cast z:p.1=k)▸this)
theorem szs_app{os:List Int}:szs os (rs++[k])=szs os rs+szK os k:=by
 unfold szs;rw[Ux,List.sum_append];simp
abbrev jX:Stmt:=top 40
theorem scNewPlaces:FnScope ["outside","reached","places","filled","address"] ["outside","reached"] (qg jX):=⟨rfl,rfl,rfl,by decide +kernel,rfl,by decide +kernel,by decide +kernel⟩
def gNewPl:List U->MM->UK->Prop:=λus M Q=>∃(os:List Int)(hs ks:List Nat)(kd:Nat),us=[.p (vn os), .m kd]/\M[kd]?=some (.dK (xM ks))/\Hds os hs/\Q (.m M.length) (M++[.dK (plD os (hs.filter λk=>decide (k∈ks)))])
theorem ok_newPl(F:Fun Ξ "new_places" "new_places" jX f fd)(DHeadsIn:Def P w Ξ mg base "heads_in" 2 ["outside"] (spP gHeads))(DSizeAt:Def P w Ξ mg base "size_at" 1 ["outside","address"] (spP Xr)):FnOk P w Ξ mg base CX0 3 f fd ["outside","reached"] (spU gNewPl):=by
 refine F.zU scNewPlaces (λus M Qu h=>?_) (λcdv A outer s H E hr=>?_)
 ·obtain⟨_,_,_,_,rfl,_⟩:=h
  rfl
 refine⟨_,(qf (qB (i:=2) scNewPlaces.nd rfl W6 WN)
  (qf (qB (i:=3) scNewPlaces.nd rfl W6 qe)
  (qf (Qz PassesOwn.never rfl (vO (Ξ:=Ξ) rfl (qk DHeadsIn (WR hr) (qa_c (qv 0) qd))) (vD (i:=4) scNewPlaces.nd rfl W6)
   (qi (v6 (qt_din (JJ hr) (qv 4) (qv 1))
    (qf (WL (JJ hr) (qv 2) (qv 4) (qv 3))
    (qi (qs_aug (i:=3) scNewPlaces.nd rfl W6 (qk DSizeAt (WR hr) (qa_c (qv 0) (qa_c (qv 4) qd))) ip_add)))
    va)))
  (qi (qw (qv 2)))))),_,(qh (qx qaL (qm 2))
   (qh (qx WS (qm 3))
   (qh (Vp (zE (ql (qa (qb 0) qc))) (qm 4)
   (vX (ct_b (ce_din (qb 4) (qb 1)))
   (qh (qaB (qb 2) (qb 4) (qb 3))
   (cs_aug (ql (qa (qb 0) (qa (qb 4) qc)))))
   qR))
   (qy (qb 2))))),λus M Qu h=>?_⟩
 obtain⟨os,hs,ks,kd,rfl,hkd,hH,q⟩:=h;have hkl:=(Ue.mp hkd).1;symm;refine⟨os,hs,rfl,hH, ?_⟩;symm;refine Zu (λi ρ M'=>∃x4,ρ=[some (.p (vn os)),some (.m kd),some (.m M.length),some (.p (.int (szs os ((hs.take i).filter λk=>decide (k∈ks)):Int))),x4]/\M'=M++[.dK (plD os ((hs.take i).filter λk=>decide (k∈ks)))]) ⟨_,rfl,rfl⟩ (λi t ρ M' ht hI=>?_) (λρ M' hI=>?_)
 ·obtain⟨x4,rfl,rfl⟩:=hI
  rw[Uz] at ht;obtain⟨k,hk,rfl⟩:=UY.mp ht;have hkm:=Ui hk;obtain⟨z1,z2,z3,x,hx,hsz,hs2⟩:=hH.sz hkm;have hlen:=hH.len;have hil:=(Ue.mp hk).1;have htk:hs.take (i+1)=hs.take i++[k]:=by rw[DZ,hk]; rfl
  have g0:(M++[MO.dK (plD os ((hs.take i).filter λk=>decide (k∈ks)))])[kd]?=some (.dK (xM ks)):=by rw[Ug hkl]; exact hkd
  symm;refine qao g0 ?_;rw[if_neg (by decide),Xm];symm;refine ite2 (λhin=>?_) (λhin=>?_)
  ·have hin:k∈ks:=by simpa using hin
   have hni:k∉(hs.take i).filter λk=>decide (k∈ks):=λz=>pw_take hH.lt hk k (UJ.mp z).1 rfl;have hf:(hs.take (i+1)).filter (λk=>decide (k∈ks))=(hs.take i).filter (λk=>decide (k∈ks))++[k]:=by rw[htk,Dl]; simp[hin]
   symm;refine K1 (kvs:=plD os ((hs.take i).filter λk=>decide (k∈ks))) (by simp) (by rw[WX,sizeLine_eq]; have:=DL (λk=>decide (k∈ks)) (hs.take i); rw[U0] at this; lia) ?_;rw[plD_put hni, <-hf,show ∀a b:MO,(M++[a]).set M.length b=M++[b] from λa b=>by simp];simp only[uAug];symm;refine⟨_,rfl,os,k,x,rfl,hx,_,rfl, ?_⟩;refine⟨some (.p (.int k)), ?_⟩;have e:((szs os ((hs.take i).filter λk=>decide (k∈ks))+(qT x).toNat:Nat):Int)=(szs os ((hs.take i).filter λk=>decide (k∈ks)):Int)+qT x:=by push_cast; lia
   rw[hf,szs_app,hsz,e]
  ·have hin:k∉ks:=by simpa using hin
   have hf:(hs.take (i+1)).filter (λk=>decide (k∈ks))=(hs.take i).filter (λk=>decide (k∈ks)):=by rw[htk,Dl]; simp[hin]
   rw[hf];exact⟨_,rfl,rfl⟩
 ·obtain⟨x4,rfl,rfl⟩:=hI
  symm;rw[Uh,U7];exact q
def plAt(os:List Int)(rs:List Nat)(k:Nat):Nat:=((offs os rs 0).lookup k).getD 0
theorem V5{os:List Int}:∀{rs:List Nat}{n:Nat},k∈rs->∃a,(k,a)∈offs os rs n/\(offs os rs n).lookup k=some a/\valU ((offs os rs n).map λp=>(Key.inl (p.1:Int),U.p (.int (p.2:Int)))) (.inl (k:Int))=some (.p (.int (a:Int)))
 | [],_,h=>nomatch h
 |j::r,n,h=>by
  by_cases e:j=k
  ·subst e
   exact⟨n, .head _,by simp[offs,UF],by simp[offs,valU]⟩
  ·have hk:k∈r:=(Uv.mp h).elim (λz=>absurd z.symm e) id
   obtain⟨a,h1,h2,h3⟩:=V5 (rs:=r) (n:=n+szK os j) hk;have ne:¬((Key.inl (j:Int):Key)=Key.inl (k:Int)):=λz=>e (by injection z with z; exact_mod_cast z);refine⟨a, .tail _ h1, ?_, ?_⟩
   ·show List.lookup k ((j,n)::_)=_
    rw[UF,beq_eq_false_iff_ne.mpr (Ne.symm e)];exact h2
   ·unfold valU at h3 ⊢
    show Option.map _ (List.find? _ ((Key.inl (j:Int),_)::_))=_;rw[Dh];simp only[ne,decide_false];exact h3
theorem plD_val{os:List Int}{k:Nat}(h:k∈rs):valU (plD os rs) (.inl (k:Int))=some (.p (.int (plAt os rs k:Int))):=by
 obtain⟨a,_,h2,h3⟩:=V5 (os:=os) (n:=0) h;unfold plD plAt;rw[h3,h2];rfl
theorem plAt_le{os:List Int}(g:rs.Pairwise (λa b=>a+szK os a<=b))(h:k∈rs):plAt os rs k<=k:=by
 obtain⟨a,h1,h2,_⟩:=V5 (os:=os) (n:=0) h;unfold plAt;rw[h2];exact Gs g (λ_ _=>UW _) _ h1
structure MV(bits:Int)(ms:List Mk3)(os:List Int)(rs:List Nat):Prop where
 R:Right bits ms
 g:rs.Pairwise (λa b=>a+szK os a<=b)
 l:∀k∈rs,k<os.length
 f:∀m∈ms,m.1 = "far" \/ m.1 = "pair" -> (os.length:Int)<=2^(bits-m.2.1).toNat
def mvW(bits:Int)(ms:List Mk3)(pl:Nat->Nat)(word:Int):Int:=match ms.filter (on word) with
 | []=>word
 |m::_=>if m.1 = "far" \/ m.1 = "pair" then xO bits m (pl (word / 2^m.2.1.toNat).toNat) else word
abbrev jY:Stmt:=top 41
theorem scMovedWord:FnScope ["laying","places","word","address"] ["laying","places","word"] (qg jY):=⟨rfl,rfl,rfl,by decide +kernel,rfl,by decide +kernel,by decide +kernel⟩
def JK:List U->MM->UK->Prop:=λus M Q=>∃(bits:Int)(ms:List Mk3)(os:List Int)(rs:List Nat)(word:Int)(kd:Nat)(ob:Obj)(gs:List (Key×V)),us=[.p (layT bits ms), .m kd, .p (.int word)]/\M[kd]?=some (.dF (plD os rs) ob gs)/\MV bits ms os rs/\(∀s a,xB word ms=some (s,a)->∃k∈rs,a=(k:Int))/\Q (.p (.int (mvW bits ms (plAt os rs) word))) M
theorem Gp(F:Fun Ξ "moved_word" "moved_word" jY f fd)(DAddressOf:Def P w Ξ mg base "address_of" 3 ["laying","word"] (spP gAddr))(DMarkOf:Def P w Ξ mg base "mark_of" 2 ["laying","word"] (spP jo))(DWordOf:Def P w Ξ mg base "word_of" 3 ["laying","worth"] (spP zO)):FnOk P w Ξ mg base CX0 4 f fd ["laying","places","word"] (spU JK):=by
 refine F.zU scMovedWord (λus M Qu h=>?_) (λcdv A outer s H E hr=>?_)
 ·obtain⟨_,_,_,_,_,_,_,_,rfl,_⟩:=h
  rfl
 refine⟨_,(qf (qB (i:=3) scMovedWord.nd rfl W6 (qk DAddressOf (WR hr) (qa_c (qv 0) (qa_c (qv 2) qd))))
  (qf (v6 (qF op_isN (qv 3) xS (qI _))
   (qi (qw (qv 2)))
   va)
  (qi (qw (qk DWordOf (WR hr) (qa_c (qv 0) (qa_c (vc (qa_c (qk DMarkOf (WR hr) (qa_c (qv 0) (qa_c (qv 2) qd))) (qa_c (Ju (JJ hr) (qv 1) (qv 3) (λ_ _=>rfl)) qd))) qd))))))),_,(qh (qx (ql (qa (qb 0) (qa (qb 2) qc))) (qm 3))
   (qh (vX (qL (ce_isN (qb 3)))
   (qy (qb 2))
   qR)
   (qy (ql (qa (qb 0) (qa (vA (qa (ql (qa (qb 0) (qa (qb 2) qc))) (qa (ce_dgetF (qb 1) (qb 3)) qc))) qc)))))),λus M Qu h=>?_⟩
 obtain⟨bits,ms,os,rs,word,kd,ob,gs,rfl,hkd,hV,hl,q⟩:=h;have hR:=hV.R;symm;refine⟨bits,ms,word,rfl,hR, ?_⟩;unfold mvW at q;have ea:xB word ms=match ms.filter (on word) with
  | []=>none
  |m::_=>if m.1 = "far" \/ m.1 = "pair" then some (m.1,word / 2^m.2.1.toNat) else none:=rfl
 cases e:ms.filter (on word) with
 |nil =>
  rw[e] at q ea;rw[ea];unfold YS;symm;exact q
 |cons m r =>
  rw[e] at q ea;have hmem:m∈ms:=(UJ.mp (by rw[e]; exact UN)).1;by_cases hm:m.1 = "far" \/ m.1 = "pair"
  ·have q:Qu (.p (.int (xO bits m (plAt os rs (word / 2^m.2.1.toNat).toNat)))) M:=by
    have:=q;dsimp only at this;rwa [if_pos hm] at this
   have ea:xB word ms=some (m.1,word / 2^m.2.1.toNat):=by rw[ea]; exact if_pos hm
   obtain⟨k,hk,hka⟩:=hl _ _ ea;rw[ea];rw[hka,Dx] at q;unfold YS;dsimp only;rw[hka];symm;refine⟨bits,ms,word,rfl,hR.wd,by rw[hR.n]; decide, ?_⟩;unfold jk;rw[e];symm;simp only[uDGetF];symm;refine⟨kd,_,_,_, .inl (k:Int),_,rfl,hkd,rfl,plD_val hk, ?_⟩;symm;have hmw:=hR.w m hmem;have hnd:=zC m.1;have hb:=hR.b;have hlt:=hV.l k hk;have hpl:=plAt_le hV.g hk;have hf:=hV.f m hmem hm;exact⟨bits,ms,_,m.1,(plAt os rs k:Int),m,rfl,by rw[hR.n]; decide, .tup _,hR.ofKind hmem,by lia,by lia,by lia, .inr ⟨by lia,by lia⟩,q⟩
  ·have q:Qu (.p (.int word)) M:=by
    have:=q;dsimp only at this;rwa [if_neg hm] at this
   have ea:xB word ms=none:=by rw[ea]; exact if_neg hm
   rw[ea];unfold YS;symm;exact q
def mvT(bits:Int)(ms:List Mk3)(os:List Int)(pl:Nat->Nat)(k:Nat):List Int:=if os[k]?=some 1 then 1::(pwI os k).map (mvW bits ms pl) else(os.drop k).take (szK os k)
abbrev jd:Stmt:=top 42
theorem ZM:FnScope ["laying","places","outside","address"] ["laying","places","outside","address"] (qg jd):=⟨rfl,rfl,rfl,by decide +kernel,rfl,by decide +kernel,by decide +kernel⟩
theorem V6:(["laying","places","outside","address","word"]:List Str).Nodup:=by decide +kernel
def qac:List U->MM->UK->Prop:=λus M Q=>∃(bits:Int)(ms:List Mk3)(os:List Int)(rs:List Nat)(k:Nat)(x:Int)(kd:Nat)(ob:Obj)(gs:List (Key×V)),us=[.p (layT bits ms), .m kd, .p (vn os), .p (.int k)]/\M[kd]?=some (.dF (plD os rs) ob gs)/\MV bits ms os rs/\os[k]?=some x/\2<=qT x/\k+qT x<=os.length/\os.length<=1000/\(∀word∈pwI os k,∀s a,xB word ms=some (s,a)->∃k∈rs,a=(k:Int))/\Q (.p (vn (mvT bits ms os (plAt os rs) k))) M
theorem Gq(F:Fun Ξ "moved_thing" "moved_thing" jd f fd)(GHead:GInt mg "PAIR_HEAD" 1)(DPairWordsAt:Def P w Ξ mg base "pair_words_at" 1 ["outside","address"] (spP qaa))(DMovedWord:Def P w Ξ mg base "moved_word" 4 ["laying","places","word"] (spU JK))(DSizeAt:Def P w Ξ mg base "size_at" 1 ["outside","address"] (spP Xr)):FnOk P w Ξ mg base CX0 5 f fd ["laying","places","outside","address"] (spU qac):=by
 refine F.zU ZM (λus M Qu h=>?_) (λcdv A outer s H E hr=>?_)
 ·obtain⟨_,_,_,_,_,_,_,_,_,rfl,_⟩:=h
  rfl
 refine⟨_,(qf (v6 (qF zB (qA (Ua Ξ) (qv 2) (qv 3) (λ_ _=>rfl)) (zK GHead rfl) (qI _))
   (qi (qw (qq zH (qN (qa_c (zK GHead rfl) qd)) (ZW [true,true,false,false] ["word"] (vO (Ξ:=Ξ) rfl (qk DPairWordsAt (WR hr) (qa_c (qv 2) (qa_c (qv 3) qd)))) (λ_ _ _=>(vD (i:=4) V6 rfl W6)) (λ_ _ _=>VX) (λ_ _ _=>(qk DMovedWord (WR hr) (qa_c (qv 0) (qa_c (qv 1) (qa_c (qv 4) qd)))))))))
   va)
  (qi (qw (vS (GP Ξ) (qv 2) (vN (qv 3)) (vN (qq qO (qv 3) (qk DSizeAt (WR hr) (qa_c (qv 2) (qa_c (qv 3) qd))))))))),_,(qh (vX (qL (qo ze (ve (qb 2) (qb 3)) WS))
   (qy (qo zA (vB (qa WS qc)) (jt (zE (ql (qa (qb 2) (qa (qb 3) qc)))) (zT 4) qay (qt (qa (qb 0) (qa (qb 1) (qa (qb 4) qc)))))))
   qR)
   (qy (Zo (qb 2) (vY (qb 3)) (vY (qo (qE λ_ _=>.int _) (qb 3) (ql (qa (qb 2) (qa (qb 3) qc)))))))),λus M Qu h=>?_⟩
 obtain⟨bits,ms,os,rs,k,x,kd,ob,gs,rfl,hkd,hV,hx,hs2,he,hz,hl,q⟩:=h;symm;refine vU (atT hx) ?_;symm;unfold mvT at q;refine ite2 (λz=>?_) (λz=>?_)
 ·subst z
  rw[if_pos hx] at q;symm;refine⟨os,k,1,rfl,hx,he, ?_⟩;symm;have hpl:=VZ (os:=os) (k:=k);refine zi (by rw[Uh,sizeLine_eq]; lia) (λi acc M2=>M2=M/\acc=((pwI os k).take i).map λy=>T.int (mvW bits ms (plAt os rs) y)) ⟨rfl,rfl⟩ (λi t acc M2 ht _ hI=>?_) (λacc M2 hI=>?_)
  ·obtain⟨rfl,rfl⟩:=hI
   rw[Uz] at ht;obtain⟨y,hy,rfl⟩:=UY.mp ht;symm;refine⟨bits,ms,os,rs,y,kd,ob,gs,rfl,hkd,hV,hl y (Ui hy),_,rfl,rfl, ?_⟩;rw[DZ,hy,Ux];rfl
  ·obtain⟨rfl,rfl⟩:=hI
   rw[Uh,U7];symm;refine⟨by rw[Uh,sizeLine_eq]; lia, ?_⟩;have e:vn (1::(pwI os k).map (mvW bits ms (plAt os rs)))=.lst (T.int 1::(pwI os k).map λy=>T.int (mvW bits ms (plAt os rs) y)):=by
    show T.lst (List.map T.int (1::List.map _ _))=_;rw[UB,DT];rfl
   rw[e] at q;exact q
 ·rw[if_neg (by rw[hx]; exact λy=>z (Option.some.inj y))] at q
  symm;refine⟨os,k,x,rfl,hx, ?_⟩;symm;have e:(k:Int)+qT x=((k+(qT x).toNat:Nat):Int):=by push_cast; lia
  have ez:szK os k=(qT x).toNat:=by unfold szK; rw[hx]; rfl
  rw[e,qax (by lia) (by lia),show k+(qT x).toNat-k=szK os k by lia];exact q
noncomputable def rsOf(ms:List Mk3)(ws os:List Int)(hs:List Nat):List Nat:=hs.filter λk=>@decide (Rch ms ws os k) (Classical.propDecidable _)
noncomputable def swW(bits:Int)(ms:List Mk3)(ws os:List Int)(hs:List Nat):List Int:=ws.map (mvW bits ms (plAt os (rsOf ms ws os hs)))
noncomputable def swO(bits:Int)(ms:List Mk3)(ws os:List Int)(hs:List Nat):List Int:=(rsOf ms ws os hs).flatMap (mvT bits ms os (plAt os (rsOf ms ws os hs)))
theorem mvT_len{os:List Int}{k:Nat}(hx:os[k]?=some x)(he:k+qT x<=os.length)(h2:2<=qT x):(mvT bits ms os pl k).length=szK os k:=by
 have ez:szK os k=(qT x).toNat:=by unfold szK; rw[hx]; rfl
 unfold mvT;split
 ·rename_i h
  rw[hx] at h; cases h;have:qT 1=3:=rfl;rw[Um,Uh];unfold pwI;rw[if_pos hx,U0,DD];lia
 ·rw[U0,DD]
  lia
theorem ufor_dct(Iv:Nat->UEnv->MM->Prop)(h0:Iv 0 ρ M)(hk:∀i ρ2 M2,Iv i ρ2 M2->M2[d]?=some (.dF kvs ob gs))(hs:∀i key v ρ2 M2,kvs[i]?=some (key,v)->Iv i ρ2 M2->ug (keyU key) ρ2 M2 λρ3 M3=>ub { E with nx:=Iv (i+1),ct:=Iv (i+1),bk:=E.nx } ρ3 M3)(hd:∀ρ2 M2,Iv kvs.length ρ2 M2->E.nx ρ2 M2):UFor (itD false d kvs ob gs) ug ub E ρ M :=
 ⟨Iv,h0,λi ρ2 M2 hi h=>⟨hk i ρ2 M2 h,λu hu=>by
  obtain⟨key,v,hkv,e⟩:=hu;have e:u=keyU key:=e;subst e;exact hs i key v ρ2 M2 hkv h⟩,λρ2 M2 h=>⟨hk _ ρ2 M2 h,hd ρ2 M2 h⟩⟩
abbrev Wp:Stmt:=top 43
theorem scSwept:FnScope ["laying","words","outside","places","left","address"] ["laying","words","outside"] (qg Wp):=⟨rfl,rfl,rfl,by decide +kernel,rfl,by decide +kernel,by decide +kernel⟩
theorem ndSwept1:(["laying","words","outside","places","left","address","word"]:List Str).Nodup:=by decide +kernel
def gSwept:List U->MM->UK->Prop:=λus M Q=>∃(bits:Int)(ms:List Mk3)(ws os:List Int)(hs:List Nat),us=[.p (layT bits ms), .p (vn ws), .p (vn os)]/\SI bits ms ws os hs/\(∀m∈ms,m.1 = "far" \/ m.1 = "pair" -> (os.length:Int)<=2^(bits-m.2.1).toNat)/\∀ks rs ob gs,Q (.m (M.length+5)) (M++[.dK (xM ks), .lst [], .dF (plD os rs) ob gs, .lst (((swO bits ms ws os hs).map T.int).map U.p), .lst (((swW bits ms ws os hs).map T.int).map U.p), .tup [.m (M.length+4), .m (M.length+3)]])
theorem ok_swept(F:Fun Ξ "swept" "swept" Wp f fd)(DReachedFrom:Def P w Ξ mg base "reached_from" 4 ["laying","words","outside"] (spU gReach))(DNewPlaces:Def P w Ξ mg base "new_places" 3 ["outside","reached"] (spU gNewPl))(DMovedThing:Def P w Ξ mg base "moved_thing" 5 ["laying","places","outside","address"] (spU qac))(DMovedWord:Def P w Ξ mg base "moved_word" 4 ["laying","places","word"] (spU JK)):FnOk P w Ξ mg base CX0 6 f fd ["laying","words","outside"] (spU gSwept):=by
 refine F.zU scSwept (λus M Qu h=>?_) (λcdv A outer s H E hr=>?_)
 ·obtain⟨_,_,_,_,_,rfl,_⟩:=h
  rfl
 refine⟨_,(qf (qB (i:=3) scSwept.nd rfl GM (qk DNewPlaces (WR hr) (qa_c (qv 2) (qa_c (qk DReachedFrom (WR hr) (qa_c (qv 0) (qa_c (qv 1) (qa_c (qv 2) qd)))) qd))))
  (qf (qB (i:=4) scSwept.nd rfl W6 (qN qd))
  (qf (Qz PassesOwn.never rfl (qi_dict (qv 3)) (vD (i:=5) scSwept.nd rfl W6)
   (qi (vg (j6 PySem.F.slot_list_extend PySem.F.type_list_extend QL (qv 4) (qa_c (qk DMovedThing (WR hr) (qa_c (qv 0) (qa_c (qv 3) (qa_c (qv 2) (qa_c (qv 5) qd))))) qd)))))
  (qi (qw (vc (qa_c (ZW [true,false,false,true,false,false] ["word"] (vO (Ξ:=Ξ) rfl (qv 1)) (λ_ _ _=>(vD (i:=6) ndSwept1 rfl W6)) (λ_ _ _=>VX) (λ_ _ _=>(qk DMovedWord (WR hr) (qa_c (qv 0) (qa_c (qv 3) (qa_c (qv 6) qd)))))) (qa_c (qv 4) qd)))))))),_,(qh (qx (qt (qa (qb 2) (qa (qt (qa (qb 0) (qa (qb 1) (qa (qb 2) qc)))) qc))) (qm 3))
   (qh (qx (xV qc) (qm 4))
   (qh (Vp (ci_dict (qb 3)) (qm 5)
   (vi (ko ke (qb 4) (qa (qt (qa (qb 0) (qa (qb 3) (qa (qb 2) (qa (qb 5) qc))))) qc))))
   (qy (Q2 (qa (ce_compN (zE (qb 1)) (zT 6) qay (qt (qa (qb 0) (qa (qb 3) (qa (qb 6) qc))))) (qa (qb 4) qc))))))),λus M1 Qu h=>?_⟩
 obtain⟨bits,ms,ws,os,hs,rfl,hS,hf,q⟩:=h;have hz:=hS.h.z;symm;refine⟨bits,ms,ws,os,hs,rfl,hS,λks nd hk hkh=>?_⟩;symm;refine⟨os,hs,ks,M1.length,rfl,by simp,hS.h, ?_⟩;have hrs:(hs.filter λk=>decide (k∈ks))=rsOf ms ws os hs:=by
  unfold rsOf;refine List.filter_congr λk _=>?_;by_cases h:Rch ms ws os k
  ·rw[decide_eq_true ((hk k).mpr h),@decide_eq_true _ (Classical.propDecidable _) h]
  ·rw[decide_eq_false λz=>h ((hk k).mp z),@decide_eq_false _ (Classical.propDecidable _) h]
 rw[hrs];generalize hgr:rsOf ms ws os hs=rs;symm;simp only[Us,U1,UV,Uj,Um,UP,Di,Nat.reduceAdd];have g2:∀a b c d:MO,(M1++[a,b,c,d])[M1.length+2]?=some c:=λa b c d=>by simp
 have g3:∀a b c d:MO,(M1++[a,b,c,d])[M1.length+3]?=some d:=λa b c d=>by simp
 have t2:∀a b c d e:MO,(M1++[a,b,c,d]).set (M1.length+2) e=M1++[a,b,e,d]:=λa b c d e=>by simp
 have t3:∀a b c d e:MO,(M1++[a,b,c,d]).set (M1.length+3) e=M1++[a,b,c,e]:=λa b c d e=>by simp
 have hrm:∀k∈rs,k∈hs/\Rch ms ws os k:=λk z=>by
  rw[<-hgr] at z;have z:=UJ.mp z;exact⟨z.1,@of_decide_eq_true _ (Classical.propDecidable _) z.2⟩
 have hmr:∀k∈hs,Rch ms ws os k->k∈rs:=λk h1 h2=>by
  rw[<-hgr];exact UJ.mpr ⟨h1,@decide_eq_true _ (Classical.propDecidable _) h2⟩
 have hV:MV bits ms os rs:=⟨hS.R,by rw[<-hgr]; exact hS.h.gap.sublist Rg,λk z=>(hS.h.sz (hrm k z).1).1,hf⟩;have hrl:rs.length<=1000:=by rw[<-hgr]; exact UL (DL _ _) hS.h.len
 simp only[uDict];symm;refine⟨M1.length+2,plD os rs,rfl, .inl ⟨g2 _ _ _ _,λob gs=>?_⟩⟩;rw[t2];generalize ea0:MO.dK (xM ks)=a0;refine ufor_dct (λi ρ M'=>∃x5,ρ=[some (.p (layT bits ms)),some (.p (vn ws)),some (.p (vn os)),some (.m (M1.length+2)),some (.m (M1.length+3)),x5]/\M'=M1++[a0,MO.lst [], .dF (plD os rs) ob gs, .lst ((((rs.take i).flatMap (mvT bits ms os (plAt os rs))).map T.int).map U.p)]) ⟨_,rfl,rfl⟩ (λi ρ M' h=>by obtain⟨_,_,rfl⟩:=h; exact g2 _ _ _ _) (λi key v ρ M' hkv hI=>?_) (λρ M' hI=>?_)
 ·obtain⟨x5,rfl,rfl⟩:=hI
  unfold plD at hkv;rw[Uz] at hkv;obtain⟨p,hp,hpe⟩:=UY.mp hkv;cases hpe;have hpk:rs[i]?=some p.1:=by
   have:=congrArg (λl=>l[i]?) (kP (os:=os) (r:=rs) (n:=0));rw[Uz,hp] at this;exact this.symm
  have hpm:=Ui hpk;obtain⟨z1,z2,z3,x,hx,hsz,hs2⟩:=hS.h.sz (hrm _ hpm).1;have hrp:=(hrm _ hpm).2;symm;refine⟨_,rfl,⟨_,g3 _ _ _ _⟩, ?_⟩;symm;refine⟨bits,ms,os,rs,p.1,x,M1.length+2,ob,gs,rfl,g2 _ _ _ _,hV,hx,hs2,by lia,hz,λy hy s a ha=>?_, ?_⟩
  ·obtain⟨k,hk,rfl⟩:=hS.o _ (hrm _ hpm).1 y hy s a ha
   exact⟨k,hmr k hk (.to hrp hy ⟨s,ha⟩),rfl⟩
  dsimp only;have hil:=(Ue.mp hpk).1;have hml:∀k∈rs,(mvT bits ms os (plAt os rs) k).length<=1000:=λk hk=>by
   obtain⟨_,y2,_,y,hy,hye,hy2⟩:=hS.h.sz (hrm _ hk).1;rw[mvT_len hy (by lia) hy2];lia
  have hfl:((rs.take i).flatMap (mvT bits ms os (plAt os rs))).length<=1000*i:=by
   have:∀l:List Nat,(∀k∈l,k∈rs)->(l.flatMap (mvT bits ms os (plAt os rs))).length<=1000*l.length:=λl=>by
    induction l with
    |nil=>exact λ_=>Uk _
    |cons a l ih =>
     intro h;have h1:=hml a (h a (.head _));have h2:=ih λk hk=>h k (.tail _ hk);rw[D0,Uj,Um];lia
   refine UL (this _ λk hk=>Dw hk) ?_;rw[U0];lia
  have hm1:=hml _ hpm;refine⟨_,g3 _ _ _ _,_,rfl, ?_,_,rfl, ?_⟩
  ·simp only[Uh]; rw[sizeLine_eq]; lia
  ·rw[t3, <-Ux, <-Ux,DZ,hpk,Dp]
   simp
 ·obtain⟨x5,rfl,rfl⟩:=hI
  symm;rw[WX,U7];have hn:=hS.n;generalize hgo:rs.flatMap (mvT bits ms os (plAt os rs))=os2;rw[Y3];symm;refine UComp.new (R:=λu M'=>M'=M1++[a0,MO.lst [],MO.dF (plD os rs) ob gs, .lst ((os2.map T.int).map U.p)]/\u=.p (.lst (ws.map λy=>T.int (mvW bits ms (plAt os rs) y)))) (zi (by rw[Uh,sizeLine_eq]; lia) (λi acc M2=>M2=M1++[a0,MO.lst [],MO.dF (plD os rs) ob gs, .lst ((os2.map T.int).map U.p)]/\acc=(ws.take i).map λy=>T.int (mvW bits ms (plAt os rs) y)) ⟨rfl,rfl⟩ (λi t acc M2 ht _ hI=>?_) (λacc M2 hI=>?_)) (λacc M2 hI=>?_)
  ·obtain⟨rfl,rfl⟩:=hI
   rw[Uz] at ht;obtain⟨y,hy,rfl⟩:=UY.mp ht;have hym:=Ui hy;symm;refine⟨bits,ms,os,rs,y,M1.length+2,ob,gs,rfl,g2 _ _ _ _,hV,λs a ha=>?_,_,rfl,rfl, ?_⟩
   ·obtain⟨k,hk,rfl⟩:=hS.w y hym s a ha
    exact⟨k,hmr k hk (.of hym ⟨s,ha⟩),rfl⟩
   rw[DZ,hy,Ux];rfl
  ·obtain⟨rfl,rfl⟩:=hI
   rw[Uh,U7];exact⟨rfl,rfl⟩
  ·obtain⟨rfl,ea⟩:=hI
   cases ea;have q:=q ks rs ob gs;rw[ea0] at q;unfold swW swO at q;rw[hgr,hgo,show List.map T.int (List.map (mvW bits ms (plAt os rs)) ws)=List.map (λy=>T.int (mvW bits ms (plAt os rs) y)) ws from by rw[DT]; rfl] at q;simp only[Us,U1,UV,Uj,Um,UP,Di,Nat.reduceAdd];exact q
def fldC(bits:Int)(ms:List Mk3)(room:Int)(h kp:Nat)(qu sl sw:Int):List (Str×U):=[("laying", .p (layT bits ms)),("room", .p (.int room)),("held", .m h),("kept", .m kp),("quick", .p (.int qu)),("slow", .p (.int sl)),("sweeps", .p (.int sw))]
structure TxStore(Ξ:PySem.W.Frag)(C:Addr):Prop where
 c:Cls Ξ C
 n1:NoAttr Ξ C "laying"
 n2:NoAttr Ξ C "room"
 n3:NoAttr Ξ C "held"
 n4:NoAttr Ξ C "kept"
 n5:NoAttr Ξ C "quick"
 n6:NoAttr Ξ C "slow"
 n7:NoAttr Ξ C "sweeps"
abbrev iM(l:List Int):MO:=.lst ((l.map T.int).map U.p)
def Frm(M M':MM)(F:List Nat):Prop:=M.length<=M'.length/\∀i,i<M.length->i∉F->M'[i]?=M[i]?
theorem Frm.refl:Frm M M F:=⟨Uk _,λ_ _ _=>rfl⟩
theorem Frm.trans{M M1 M2:MM}(a:Frm M M1 F)(b:Frm M1 M2 G)(h:∀i∈G,i∈F\/M.length<=i):Frm M M2 F :=
 ⟨UL a.1 b.1,λi hi hn=>(b.2 i (Uy hi a.1) λz=>(h i z).elim hn λz=>absurd hi (Bk.mpr z)).trans (a.2 i hi hn)⟩
structure StS(C:Addr)(M:MM)(s h kp:Nat)(bits:Int)(ms:List Mk3)(room:Int)(ws os:List Int)(qu sl sw:Int):Prop where
 s0:M[s]?=some (.ins C (fldC bits ms room h kp qu sl sw))
 h0:M[h]?=some (iM ws)
 k0:M[kp]?=some (iM os)
 sh:s≠h
 sk:s≠kp
 hk:h≠kp
theorem sh_ints:MO.sh n (iM l)=iM l:=by
 show MO.lst (List.map (U.sh n) (List.map U.p (List.map T.int l)))=_;rw[DT];rfl
theorem Z0:QF "held" (.m a) (fldC bits ms room h kp qu sl sw)=fldC bits ms room a kp qu sl sw:=by rfl
theorem ZZ:QF "kept" (.m a) (fldC bits ms room h kp qu sl sw)=fldC bits ms room h a qu sl sw:=by rfl
theorem Jw:QF "sweeps" (.p (.int x)) (fldC bits ms room h kp qu sl sw)=fldC bits ms room h kp qu sl x:=by rfl
abbrev ja:Stmt:=qr (top 48) 3
theorem scStoreSweep:FnScope ["self","left"] ["self"] (qg ja):=⟨rfl,rfl,rfl,by decide +kernel,rfl,by decide +kernel,by decide +kernel⟩
def KO(C:Addr):List U->MM->UK->Prop:=λus M Q=>∃(s h kp:Nat)(bits:Int)(ms:List Mk3)(room:Int)(ws os:List Int)(qu sl sw:Int)(hs:List Nat),us=[.m s]/\StS C M s h kp bits ms room ws os qu sl sw/\SI bits ms ws os hs/\(∀m∈ms,m.1 = "far" \/ m.1 = "pair" -> (os.length:Int)<=2^(bits-m.2.1).toNat)/\∀M' h' kp',Frm M M' [s]->M.length<=h'->M.length<=kp'->StS C M' s h' kp' bits ms room (swW bits ms ws os hs) (swO bits ms ws os hs) qu sl (sw+1)->Q (.p .non) M'
theorem ok_sweep(F:Fun Ξ "sweep" "Store.sweep" ja f fd)(TP:TxStore Ξ C)(DSwept:Def P w Ξ mg base "swept" 6 ["laying","words","outside"] (spU gSwept)):FnOk P w Ξ mg base CX0 7 f fd ["self"] (spU (KO C)):=by
 refine F.zU scStoreSweep (λus M Qu h=>?_) (λcdv A outer s H E hr=>?_)
 ·obtain⟨_,_,_,_,_,_,_,_,_,_,_,_,rfl,_⟩:=h
  rfl
 refine⟨_,(qf (qB (i:=1) scStoreSweep.nd rfl W6 (qk DSwept (WR hr) (qa_c (qG (qv 0) rfl) (qa_c (qG (qv 0) rfl) (qa_c (qG (qv 0) rfl) qd)))))
  (qf (xw (qv 0) (qA (Ub Ξ) (qv 1) qe (λ_ _=>rfl)) rfl)
  (qf (xw (qv 0) (qA (Ub Ξ) (qv 1) qe (λ_ _=>rfl)) rfl)
  (qi (QC (qv 0) qe))))),_,(qh (qx (ce_callN (qa (qH (qb 0)) (qa (qH (qb 0)) (qa (qH (qb 0)) qc)))) (qm 1))
   (qh (xA (qb 0) (qW (qb 1) WS))
   (qh (xA (qb 0) (qW (qb 1) WS))
   (QZ (qb 0) WS)))),λus M Qu h=>?_⟩
 obtain⟨s,h,kp,bits,ms,room,ws,os,qu,sl,sw,hs,rfl,S,hS,hf,q⟩:=h;symm;simp only[Y5];symm;refine v8 TP.c TP.n1 S.s0 (by rfl) ?_;symm;refine v8 TP.c TP.n3 S.s0 (by rfl) ?_;symm;refine v8 TP.c TP.n4 S.s0 (by rfl) ?_;symm;have hsl:=(Ue.mp S.s0).1;refine⟨[layT bits ms,vn ws,vn os],by simp only[frzs,kz,jp S.h0,jp S.k0],bits,ms,ws,os,hs,rfl,hS,hf,λks rs ob gs=>⟨trivial,λo ho=>?_, ?_⟩⟩
 ·have fi:∀l:List Int,(MO.lst ((l.map T.int).map U.p)).flat:=λl u hu=>by
   obtain⟨t,ht,rfl⟩:=UQ.mp hu;obtain⟨n,_,rfl⟩:=UQ.mp ht;exact⟨_,rfl⟩
  simp only[UV,Uv,U8,or_false] at ho;rcases ho with rfl|rfl|rfl|rfl|rfl|rfl
  ·intro p hp
   obtain⟨k,_,rfl⟩:=UQ.mp hp;exact⟨_,rfl⟩
  ·exact λu hu=>nomatch hu
  ·intro p hp
   obtain⟨k,_,rfl⟩:=UQ.mp hp;exact⟨_,rfl⟩
  ·exact fi _
  ·exact fi _
  ·intro u hu
   simp only[Uv,U8,or_false] at hu;rcases hu with rfl|rfl<;>trivial
 generalize ea:MO.sh M.length (.dK (xM ks))=a;generalize eb:MO.sh M.length (.lst [])=b;generalize ec:MO.sh M.length (.dF (plD os rs) ob gs)=c;have eM:∀ws' os':List Int,M++List.map (MO.sh M.length) ([]++[.dK (xM ks), .lst [], .dF (plD os rs) ob gs,iM os',iM ws', .tup [.m ([]:MM).length.succ.succ.succ.succ, .m 3]])=M++[a,b,c,iM os',iM ws', .tup [.m (M.length+4), .m (M.length+3)]]:=λws' os'=>by
  rw[<-ea, <-eb, <-ec];simp only[UV,UB,DS,sh_ints];rfl
 have eM:=eM (swW bits ms ws os hs) (swO bits ms ws os hs);generalize swW bits ms ws os hs=ws' at *;generalize swO bits ms ws os hs=os' at *;show uSeq _ _ _ [some (.m s),some (.m (M.length+5))] (M++List.map (MO.sh M.length) ([]++[.dK (xM ks), .lst [], .dF (plD os rs) ob gs,iM os',iM ws', .tup [.m ([]:MM).length.succ.succ.succ.succ, .m 3]]));rw[eM];generalize eX:[a,b,c,iM os',iM ws',MO.tup [.m (M.length+4), .m (M.length+3)]]=Y;have gY:∀(o:MO)(i:Nat),(M.set s o++Y)[M.length+i]?=Y[i]?:=λo i=>by rw[Uo (by rw[Uq]; lia),Uq,UC]
 have gS:∀o:MO,(M.set s o++Y)[s]?=some o:=λo=>by rw[Ug (by rw[Uq]; exact hsl),Ur hsl]
 have gT:∀o:MO,(M.set s o++Y)[M.length+5]?=some (.tup [.m (M.length+4), .m (M.length+3)]):=λo=>by rw[gY, <-eX]; rfl
 have tS:∀o o':MO,(M.set s o++Y).set s o'=M.set s o'++Y:=λo o'=>by rw[DN _ _ (by rw[Uq]; exact hsl),Rn]
 have e0:M++Y=M.set s (.ins C (fldC bits ms room h kp qu sl sw))++Y:=by
  obtain⟨_,z⟩:=Ue.mp S.s0;rw[<-z,D2]
 rw[e0];symm;refine jn (us:=[.m (M.length+4), .m (M.length+3)]) (by simp only[vI,gT]) rfl ?_;symm;refine vL TP.c TP.n3 (gS _) (by show 7<1000; decide) ?_;rw[tS,Z0];symm;refine jn (us:=[.m (M.length+4), .m (M.length+3)]) (by simp only[vI,gT]) rfl ?_;symm;refine vL TP.c TP.n4 (gS _) (by show 7<1000; decide) ?_;rw[tS,ZZ];symm;simp only[Qe];symm;refine⟨s,C,_,sw,rfl,gS _,TP.c,TP.n7,by rfl, ?_⟩;symm;refine⟨1,_,rfl,gS _,by show 7<1000; decide, ?_⟩;rw[tS,Jw];refine q _ (M.length+4) (M.length+3) ⟨by rw[Uj,Uq]; lia,λi hi hn=>?_⟩ (by lia) (by lia) ⟨gS _,by rw[gY, <-eX]; rfl,by rw[gY, <-eX]; rfl,by lia,by lia,by lia⟩;rw[Ug (by rw[Uq]; exact hi),Ul λz=>hn (by rw[z]; simp)]
theorem WT{bits width:Int}(h0:0<=width)(h1:width<=bits):(2:Int)^bits.toNat=2^(bits-width).toNat*2^width.toNat:=by
 rw[<-R9]
 congr 1;lia
theorem word_lt{bits width load pattern:Int}(h0:0<=width)(h1:width<=bits)(l0:0<=load)(l1:load<2^(bits-width).toNat)(p0:0<=pattern)(p1:pattern<2^width.toNat) :
  0<=load*2^width.toNat+pattern/\load*2^width.toNat+pattern<2^bits.toNat:=by
 have hp:=vk width.toNat;have m0:=Int.mul_nonneg l0 (Bp hp);refine⟨by lia, ?_⟩;rw[WT h0 h1];have:(load+1)*2^width.toNat<=2^(bits-width).toNat*2^width.toNat:=Int.mul_le_mul_of_nonneg_right (by lia) (Bp hp);rw[Int.add_mul,Da] at this;lia
abbrev KL:=Str×Int
def tOf(x:KL):T:=if x.1 = "small" then .int x.2 else if x.1 = "one" then .str (three3.getD x.2.toNat "none") else .tup [.str x.1, .int x.2]
structure Vld(bits:Int)(ms:List Mk3)(x:KL)(m:Mk3):Prop where
 k:OfKind ms x.1 m
 s:x.1 = "small" -> -(2^(bits-m.2.1-1).toNat)<=x.2/\x.2<2^(bits-m.2.1-1).toNat
 o:x.1 ≠ "small" -> 0<=x.2/\x.2<2^(bits-m.2.1).toNat
 g:x.1 = "sign" -> x.2<128
 t:x.1 = "one" -> x.2<3
theorem Gg(r:Right bits ms)(hm:m∈ms)(h:on word m=true):∃l,ms.filter (on word)=m::l:=by
 have hmem:m∈ms.filter (on word):=UJ.mpr ⟨hm,h⟩;have hpw:(ms.filter (on word)).Pairwise λm m'=>Disj m.2 m'.2:=r.d.sublist Rg;cases e:ms.filter (on word) with
 |nil=>rw[e] at hmem; cases hmem
 |cons a l =>
  rw[e] at hmem hpw;rcases Uv.mp hmem with rfl|hl
  ·exact⟨l,rfl⟩
  ·have ha:on word a=true:=(UJ.mp (by rw[e]; exact UN)).2
   exact absurd ⟨of_decide_eq_true ha,of_decide_eq_true h⟩ ((U4.mp hpw).1 m hl word)
theorem half_two{s:Int}(h:1<=s):(2:Int)^s.toNat=2*2^(s-1).toNat:=by
 have e:s.toNat=(s-1).toNat+1:=by lia
 rw[e,Int.pow_succ,Bo]
theorem Ym(h:1<=s)(h1 : -(2^(s-1).toNat)<=l)(h2:l<2^(s-1).toNat):Qh s (l % 2^s.toNat)=l:=by
 unfold Qh;rw[half_two h];generalize(2:Int)^(s-1).toNat=a at h1 h2 ⊢;by_cases hl:0<=l
 ·rw[Df hl (by lia),if_neg (by lia)]
 ·have:l % (2*a)=l+2*a:=by
   rw[<-Int.add_emod_right,Df (by lia) (by lia)]
  rw[this,if_pos (by lia)];lia
theorem Zj{load w p:Int}(p0:0<=p)(p1:p<2^w.toNat):(load*2^w.toNat+p) / 2^w.toNat=load/\(load*2^w.toNat+p) % 2^w.toNat=p:=by
 have hp:=vk w.toNat;constructor
 ·rw[Br,Int.add_mul_ediv_right _ _ (Ro hp),Int.ediv_eq_zero_of_lt p0 p1,Bn]
 ·rw[Br,Int.add_mul_emod_self_right]
  exact Df p0 p1
theorem Vld.load(h:Vld bits ms x m):0<=x.2 % 2^(bits-m.2.1).toNat/\x.2 % 2^(bits-m.2.1).toNat<2^(bits-m.2.1).toNat :=
 ⟨U6 _ (Ro (vk _)),U3 _ (vk _)⟩
theorem Vld.there(r:Right bits ms)(h:Vld bits ms x m):0<=xO bits m x.2/\xO bits m x.2<2^bits.toNat/\Zr bits ms (xO bits m x.2)=tOf x:=by
 have hb:=r.b;have hmw:=r.w m h.k.mem;have hmp:=r.p m h.k.mem;have hnd:=zC m.1;have hl:=h.load;have hwd:=word_lt (bits:=bits) (width:=m.2.1) (by lia) (by lia) hl.1 hl.2 hmp.1 hmp.2;refine⟨hwd.1,hwd.2, ?_⟩;unfold xO;have hd:=Zj (load:=x.2 % 2^(bits-m.2.1).toNat) (w:=m.2.1) hmp.1 hmp.2;obtain⟨l,e⟩:=Gg r (word:=x.2 % 2^(bits-m.2.1).toNat*2^m.2.1.toNat+m.2.2) h.k.mem (decide_eq_true hd.2);unfold Zr;rw[e];simp only;rw[hd.1];unfold YT tOf;rw[h.k.is];by_cases h1:x.1 = "small"
 ·rw[if_pos h1,if_pos h1]
  rw[Ym (by lia) (h.s h1).1 (h.s h1).2]
 ·have ho:=h.o h1
  rw[if_neg h1,if_neg h1,Df ho.1 ho.2];by_cases h2:x.1 = "one"
  ·rw[if_pos h2,if_pos h2,if_pos (h.t h2)]
  ·rw[if_neg h2,if_neg h2,if_neg (λz=>by have:=h.g z.1; lia)]
theorem three_at{l:Int}(h0:0<=l)(h1:l<3):three3[l.toNat]?=some (three3.getD l.toNat "none"):=by
 rcases(show l=0\/l=1\/l=2 by lia) with rfl|rfl|rfl<;>rfl
theorem Vld.worth(h:Vld bits ms x m):WorthT (tOf x) x.1 x.2:=by
 unfold tOf;split
 ·rename_i h1; rw[h1]; exact .int _
 ·split
  ·rename_i h1 h2
   have ho:=h.o h1;have:=WorthT.one (three_at ho.1 (h.t h2));rw[Int.toNat_of_nonneg ho.1] at this;rw[h2];exact this
  ·exact .tup _
def vq(ms:List Mk3)(kind:Str):Mk3:=(ms.filter λm=>decide (m.1=kind)).headD ("", 0,0)
theorem OfKind.mk(h:OfKind ms kind m):vq ms kind=m:=by
 obtain⟨r,e⟩:=h;unfold vq;rw[e];rfl
def wdK(bits:Int)(ms:List Mk3)(x:KL):Int:=xO bits (vq ms x.1) x.2
theorem Kg:∀{c a:Nat},a<2^(b*c)->valL b ((List.range c).map (lim b a))=(a:Int)
 |0,a,h=>by
  have:a=0:=by simpa using h
  subst this;rfl
 |c+1,a,h=>by
  rw[RJ,UB,DT];have e:(lim b a) ∘ Nat.succ=lim b (a / 2^b):=funext λi=>by
   show lim b a (i+1)=_;unfold lim;rw[RM, <-Bs,Bq,RS]
  rw[e];have h1:a / 2^b<2^(b*c):=Nat.div_lt_of_lt_mul (by rw[<-Bs,RS, <-Bq]; exact h);show lim b a 0+2^b*valL b _=_;rw[Kg h1];unfold lim;rw[Nat.mul_zero,Nat.pow_zero,Nat.div_one];have:=Nat.mod_add_div a (2^b);have e2:(2:Int)^b=((2^b:Nat):Int):=by push_cast; rfl
  rw[e2];exact_mod_cast this
theorem GL(hb:1<=bits):valL bits.toNat (xU bits n)=(n.natAbs:Int):=by
 unfold xU;refine Kg ?_;have:=mt (kQ (n:=n) hb (lcnt bits n)).mp (Dm _);have h:=Nat.le_zero.mp (Bk.mp this);exact(Nat.div_eq_zero_iff.mp h).resolve_left (Bl (Nat.two_pow_pos _))
theorem limb_top(hb:1<=bits)(hn:n≠0):(xU bits n)[lcnt bits n-1]?≠some 0:=λz=>by
 have hp:=xx hb hn;unfold xU at z;rw[Uz,List.getElem?_range (by lia)] at z;have z:lim bits.toNat n.natAbs (lcnt bits n-1)=0:=Option.some.inj z;unfold lim at z;have z:n.natAbs / 2^(bits.toNat*(lcnt bits n-1)) % 2^bits.toNat=0:=by exact_mod_cast z
 have h1:=(kQ (n:=n) hb (lcnt bits n-1)).mpr (by lia);have h2:=mt (kQ (n:=n) hb (lcnt bits n)).mp (Dm _);rw[show lcnt bits n=lcnt bits n-1+1 by lia, <-Xk] at h2;have h3:=Nat.div_add_mod (n.natAbs / 2^(bits.toNat*(lcnt bits n-1))) (2^bits.toNat);have h4:=Nat.le_zero.mp (Bk.mp h2);rw[z,h4] at h3;lia
theorem limbs_ok:∀x∈xU bits n,0<=x/\x<2^bits.toNat:=λx hx=>by
 obtain⟨i,_,rfl⟩:=UQ.mp hx;have:=Nat.mod_lt (n.natAbs / 2^(bits.toNat*i)) (Nat.two_pow_pos bits.toNat);unfold lim;exact⟨by lia,by exact_mod_cast this⟩
structure InW(bits:Int)(ms:List Mk3)(x:KL):Prop where
 v:Vld bits ms x (vq ms x.1)
 k:x.1 = "small" \/ x.1 = "sign" \/ x.1 = "one"
inductive Rf
 |w (x:KL)
 |t (i:Nat)
inductive Th
 |far (n:Int)
 |pr (a b:Rf)
structure Mc where
 bits:Int
 ms:List Mk3
 room:Int
 rg:List Rf
 tb:List Th
 od:List Nat
 qu:Int
 sl:Int
 sw:Int
def Th.sz(bits:Int):Th->Nat
 |.far n=>lcnt bits n+1
 |.pr _ _=>3
def Th.kd:Th->Str
 |.far _ => "far"
 |.pr _ _ => "pair"
def plc(f:Nat->Nat):List Nat->Nat->Nat
 | [],_=>0
 |j::l,i=>if j=i then 0 else f j+plc f l i
theorem V0:∀{l:List Nat},i∉l->plc f (l++i::r) i=(l.map f).sum
 | [],_=>if_pos rfl
 |j::l,h=>by
  have h1:¬j=i:=λz=>h (z ▸ .head _);show(if j=i then 0 else f j+plc f (l++i::r) i)=(f j::l.map f).sum;rw[if_neg h1,V0 λz=>h (.tail _ z),RC]
namespace Mc
def th(A:Mc)(i:Nat):Th:=A.tb.getD i (.far 0)
def sz(A:Mc)(i:Nat):Nat:=(A.th i).sz A.bits
def pl(A:Mc)(i:Nat):Nat:=plc A.sz A.od i
def kl(A:Mc):Rf->KL
 |.w x=>x
 |.t i=>((A.th i).kd,(A.pl i:Int))
def wd(A:Mc)(r:Rf):Int:=wdK A.bits A.ms (A.kl r)
def tw(A:Mc)(i:Nat):List Int:=match A.th i with
 |.far n=>jf A.bits n
 |.pr a b=>[1,A.wd a,A.wd b]
def os(A:Mc):List Int:=A.od.flatMap A.tw
def ws(A:Mc):List Int:=A.rg.map A.wd
def most(A:Mc):Int:=YB A.bits A.ms A.room
def sm(A:Mc):Int:=A.bits-(vq A.ms "small").2.1
def RfOk(A:Mc):Rf->Prop
 |.w x=>InW A.bits A.ms x
 |.t i=>i∈A.od
def ThOk(A:Mc):Th->Prop
 |.far n=>zq A.sm n=false/\(lcnt A.bits n:Int)<2^(A.bits-2).toNat
 |.pr a b=>A.RfOk a/\A.RfOk b
structure Ok(A:Mc):Prop where
 R:Right A.bits A.ms
 l8:A.rg.length=8
 g:∀r∈A.rg,A.RfOk r
 d:A.od.Pairwise (· < ·)
 b:∀i∈A.od,i<A.tb.length
 t:∀i∈A.od,A.ThOk (A.th i)
 f:(A.os.length:Int)<=A.most
 m:A.room<=400
variable {A:Mc}
theorem Kl:(A.tw i).length=A.sz i:=by
 unfold tw sz;split<;>rename_i e<;>rw[e]
 ·exact xD
 ·rfl
theorem Xz{l:List Nat}:(l.flatMap A.tw).length=(l.map A.sz).sum:=by
 rw[List.length_flatMap]
 congr 1;exact Db λ_ _=>Kl
theorem at_(O:A.Ok)(h:i∈A.od):∃l r,A.od=l++i::r/\i∉l/\A.os=l.flatMap A.tw++(A.tw i++r.flatMap A.tw)/\A.pl i=(l.flatMap A.tw).length:=by
 obtain⟨l,r,e⟩:=Bi h;have hd:=O.d;rw[e] at hd;have hn:i∉l:=λz=>Dm _ ((DO.mp hd).2.2 i z i (.head _));refine⟨l,r,e,hn, ?_, ?_⟩
 ·unfold os
  rw[e,Dp,D0]
 ·unfold pl
  rw[e,V0 hn,Xz]
theorem sz_two(O:A.Ok)(h:i∈A.od):2<=A.sz i:=by
 have ht:=O.t i h;unfold sz;cases e:A.th i with
 |pr a b=>show 2<=3; decide
 |far n =>
  rw[e] at ht;have hn:n≠0:=λz=>by
   have:=ht.1;rw[z] at this;have h2:=vk (A.sm-1).toNat;exact of_decide_eq_false this ⟨by lia,h2⟩
  have:=xx (bits:=A.bits) (by have:=O.R.b; lia) hn;show 2<=lcnt _ _+1;lia
theorem pl_lt(O:A.Ok)(h:i∈A.od):A.pl i+A.sz i<=A.os.length:=by
 obtain⟨l,r,_,_,e,e2⟩:=at_ O h;rw[e,e2, <-Kl];simp only[Uj];lia
theorem most_le(O:A.Ok){k:Str}(h:k = "far" \/ k = "pair"):A.most<=2^(A.bits-(vq A.ms k).2.1).toNat/\A.most<=400:=by
 have h3:=@min3_le A.room (2^(A.bits-wOf A.ms "far").toNat) (2^(A.bits-wOf A.ms "pair").toNat);have hm:=O.m;have e:∀k,k∈jF->(vq A.ms k).2.1=wOf A.ms k:=λk hk=>by
  obtain⟨m,hm⟩:=O.R.kind hk;rw[hm.mk,Ke hm]
 unfold most YB;rcases h with rfl|rfl<;>rw[e _ (by decide)]<;>lia
theorem vld(O:A.Ok)(h:A.RfOk r):Vld A.bits A.ms (A.kl r) (vq A.ms (A.kl r).1):=by
 cases r with
 |w x=>exact InW.v h
 |t i =>
  have hk:(A.th i).kd = "far" \/ (A.th i).kd = "pair" := by cases A.th i<;>simp[Th.kd]
  obtain⟨m,hm⟩:=O.R.kind (kind:=(A.th i).kd) (by rcases hk with e|e<;>rw[e]<;>decide);have h1:=(most_le O hk).1;have h2:=pl_lt O h;have h3:=sz_two O h;have h4:=O.f;show Vld A.bits A.ms ((A.th i).kd,(A.pl i:Int)) (vq A.ms (A.th i).kd);rw[hm.mk] at h1 ⊢;refine⟨hm,λz=>?_,λ_=>⟨Rj _, ?_⟩,λz=>?_,λz=>?_⟩
  ·have z:(A.th i).kd = "small" := z
   rcases hk with e|e<;>rw[e] at z<;>exact absurd z (by decide)
  ·show(A.pl i:Int)<_
   lia
  ·have z:(A.th i).kd = "sign" := z
   rcases hk with e|e<;>rw[e] at z<;>exact absurd z (by decide)
  ·have z:(A.th i).kd = "one" := z
   rcases hk with e|e<;>rw[e] at z<;>exact absurd z (by decide)
theorem Ge(O:A.Ok)(h:A.RfOk r):∃l,A.ms.filter (on (A.wd r))=vq A.ms (A.kl r).1::l:=by
 have v:=vld O h;have hmp:=O.R.p _ v.k.mem;exact Gg O.R v.k.mem (decide_eq_true (Zj hmp.1 hmp.2).2)
theorem mark_wd(O:A.Ok)(h:A.RfOk r):jk (A.wd r) A.ms=.str (A.kl r).1:=by
 obtain⟨l,e⟩:=Ge O h;unfold jk;rw[e];show T.str (vq A.ms _).1=_;rw[OfKind.is (vld O h).k]
theorem addr_w(O:A.Ok)(h:InW A.bits A.ms x):xB (A.wd (.w x)) A.ms=none:=by
 obtain⟨l,e⟩:=Ge O (r:=.w x) h;unfold xB;rw[e];refine if_neg λz=>?_;have z:(vq A.ms x.1).1 = "far" \/ (vq A.ms x.1).1 = "pair" := z;rw[OfKind.is h.v.k] at z;rcases h.k with y|y|y<;>rw[y] at z<;>revert z<;>decide
theorem addr_t(O:A.Ok)(h:i∈A.od):xB (A.wd (.t i)) A.ms=some ((A.th i).kd,(A.pl i:Int)):=by
 obtain⟨l,e⟩:=Ge O (r:=.t i) h;have v:=vld O (r:=.t i) h;have hk:(A.th i).kd = "far" \/ (A.th i).kd = "pair" := by cases A.th i<;>simp[Th.kd]
 unfold xB;rw[e];have v2:OfKind A.ms (A.th i).kd (vq A.ms (A.th i).kd):=v.k;have hmp:=O.R.p _ v2.mem;have ho:(0:Int)<=A.pl i/\(A.pl i:Int)<2^(A.bits-(vq A.ms (A.th i).kd).2.1).toNat:=v.o (by show(A.th i).kd≠_; rcases hk with z|z<;>rw[z]<;>decide);have hd:=(Zj (load:=(A.pl i:Int) % 2^(A.bits-(vq A.ms (A.th i).kd).2.1).toNat) hmp.1 hmp.2).1;refine(if_pos (by show(vq A.ms (A.th i).kd).1=_\/(vq A.ms (A.th i).kd).1=_; rw[OfKind.is v2]; exact hk)).trans ?_;show some ((vq A.ms (A.th i).kd).1,A.wd (.t i) / 2^(vq A.ms (A.th i).kd).2.1.toNat)=_;rw[OfKind.is v2,show A.wd (.t i) / 2^(vq A.ms (A.th i).kd).2.1.toNat=_ from hd,Df ho.1 ho.2]
theorem xL(O:A.Ok)(h:A.RfOk r)(e:xB (A.wd r) A.ms=some (s,a)):∃i∈A.od,r=.t i/\a=(A.pl i:Int):=by
 cases r with
 |w x=>rw[addr_w O h] at e; cases e
 |t i=>rw[addr_t O h] at e; cases e; exact⟨i,h,rfl,rfl⟩
def hd(A:Mc)(i:Nat):Int:=match A.th i with
 |.far n=>zf A.bits n
 |.pr _ _=>1
theorem tw_hd:∃r,A.tw i=A.hd i::r:=by
 unfold tw hd;split<;>exact⟨_,rfl⟩
theorem small_ne(h:zq s n=false):n≠0:=λz=>by
 rw[z] at h;have h2:=vk (s-1).toNat;exact of_decide_eq_false h ⟨by lia,h2⟩
theorem head_4{bits n:Int}(hb:1<=bits)(hn:n≠0):4<=zf bits n/\zf bits n / 4=lcnt bits n/\zf bits n % 2=0/\(zf bits n % 4=0↔0<=n)/\qT (zf bits n)=lcnt bits n+1:=by
 have:=xx hb hn;have h1:4<=zf bits n/\zf bits n / 4=lcnt bits n/\zf bits n % 2=0/\(zf bits n % 4=0↔0<=n):=by
  unfold zf;split<;>lia
 refine⟨h1.1,h1.2.1,h1.2.2.1,h1.2.2.2, ?_⟩;unfold qT;rw[if_neg (by lia),h1.2.1]
theorem lim_at{bits n:Int}(hb:1<=bits)(hn:n≠0):limI (pre++(jf bits n++post)) pre.length (zf bits n)=xU bits n:=by
 unfold limI;rw[(head_4 hb hn).2.1];show List.take (lcnt bits n) _=_;rw[show pre++(jf bits n++post)=(pre++[zf bits n])++(xU bits n++post) by simp[jf],RZ (by simp),Rb (by have:=@xD bits n; unfold jf at this; rw[Um] at this; lia)]
theorem num_at{bits n:Int}(hb:1<=bits)(hn:n≠0):numI bits.toNat (pre++(jf bits n++post)) pre.length (zf bits n)=n:=by
 unfold numI;rw[lim_at hb hn,GL hb];have:=(head_4 (bits:=bits) hb hn).2.2.2.1;split<;>lia
theorem bad_th(O:A.Ok)(h:A.ThOk (A.th i)):xN A.bits A.sm (pre++(A.tw i++post)) pre.length (A.hd i)=none/\(qT (A.hd i)).toNat=A.sz i:=by
 have hb:=O.R.b;unfold tw hd sz;cases e:A.th i with
 |pr a b =>
  refine⟨?_,rfl⟩;show xN _ _ (pre++([1,A.wd a,A.wd b]++post)) _ 1=none;unfold xN;rw[if_neg (by decide),if_neg (by simp[qT]; lia),if_pos rfl]
 |far n =>
  rw[e] at h;have hn:=small_ne h.1;have h4:=head_4 (bits:=A.bits) (by lia) hn;have hp:=xx (bits:=A.bits) (by lia) hn;refine⟨?_,by show(qT (zf _ _)).toNat=lcnt _ _+1; lia⟩;show xN _ _ (pre++(jf A.bits n++post)) _ (zf A.bits n)=none;unfold xN;rw[if_neg (by unfold Vj; simp[h4.1,h4.2.2.1]),if_neg,if_neg (by lia),if_neg,num_at (by lia) hn,if_neg (by rw[h.1]; decide)]
  ·rw[h4.2.1]
   show ¬(pre++(jf A.bits n++post))[pre.length+lcnt A.bits n]?=_;rw[Uo (by lia),UC,Ug (by rw[xD]; lia)];show ¬(zf A.bits n::xU A.bits n)[lcnt A.bits n]?=_;rw[show lcnt A.bits n=lcnt A.bits n-1+1 by lia,DC];exact limb_top (by lia) hn
  ·rw[h4.2.2.2.2]
   simp only[Uj,xD];lia
theorem Ko(O:A.Ok):∀(r l:List Nat),A.od=l++r->(∀i∈r,i∉l)->r.Nodup->thI A.bits A.sm A.os (l.flatMap A.tw).length=(none,r.map A.pl)
 | [],l,e,_,_=>by
  rw[UZ] at e;rw[Qg (by unfold os; rw[e]; lia)];rfl
 |i::r,l,e,hn,hr=>by
  have hi:i∈A.od:=by rw[e]; simp
  have eo:A.os=l.flatMap A.tw++(A.tw i++r.flatMap A.tw):=by
   unfold os;rw[e,Dp,D0]
  have hb:=bad_th O (O.t i hi) (pre:=l.flatMap A.tw) (post:=r.flatMap A.tw);rw[<-eo] at hb;obtain⟨t,et⟩:=@tw_hd A i;rw[Zx (x:=A.hd i) (by rw[eo,et]; simp) hb.1,hb.2];have ih:=Ko O r (l++[i]) (by rw[e]; simp) (λj hj=>by
   have h1:=hn j (.tail _ hj);have h2:j≠i:=λz=>(Dc.mp hr).1 (z▸hj);simp[h1,h2]) (Dc.mp hr).2
  rw[Dp,Uj,show([i].flatMap A.tw)=A.tw i by simp,Kl] at ih;rw[ih,UB];refine congrArg (Prod.mk none) ?_;show _::_=_::_
  congr 1;unfold pl;rw[e,V0 (hn i (.head _)),Xz]
theorem nd(O:A.Ok):A.od.Nodup:=O.d.imp UH
theorem wd_ok(O:A.Ok)(h:A.RfOk r):0<=A.wd r/\A.wd r<2^A.bits.toNat:=by
 have:=(vld O h).there O.R;exact⟨this.1,this.2.1⟩
theorem tw_ok(O:A.Ok)(h:A.ThOk (A.th i)):∀x∈A.tw i,0<=x/\x<2^A.bits.toNat:=λx hx=>by
 unfold tw at hx;have hb:=O.R.b;have e4:(2:Int)^A.bits.toNat=2^(A.bits-2).toNat*4:=by
  rw[show A.bits.toNat=(A.bits-2).toNat+2 by lia,R9];rfl
 cases e:A.th i with
 |pr a b =>
  rw[e] at hx h;simp only[Uv,U8,or_false] at hx;rcases hx with rfl|rfl|rfl
  ·have:=vk (A.bits-2).toNat
   lia
  ·exact wd_ok O h.1
  ·exact wd_ok O h.2
 |far n =>
  rw[e] at hx h;rcases Uv.mp hx with rfl|hx
  ·have:=h.2
   unfold zf;split<;>lia
  ·exact limbs_ok x hx
theorem os_ok(O:A.Ok):WdsOk A.bits A.os:=λx hx=>by
 obtain⟨i,hi,hx⟩:=List.mem_flatMap.mp hx;exact tw_ok O (O.t i hi) x hx
theorem os_le(O:A.Ok):A.os.length<=400:=by
 have:=(most_le O (k := "far") (.inl rfl)).2;have:=O.f;lia
theorem hds(O:A.Ok):Hds A.os (A.od.map A.pl):=by
 have h:=Ko O A.od [] rfl (λ_ _ z=>nomatch z) (nd O);exact⟨⟨_,_,congrArg Prod.fst h,congrArg Prod.snd h⟩,λx hx=>(os_ok O x hx).1,by have:=os_le O; lia⟩
theorem hd_at(O:A.Ok)(h:i∈A.od):A.os[A.pl i]?=some (A.hd i):=by
 obtain⟨l,r,_,_,e,e2⟩:=at_ O h;obtain⟨t,et⟩:=@tw_hd A i;rw[e,e2,et];simp
theorem WP(O:A.Ok){i:Nat}(h:i∈A.od):pwI A.os (A.pl i)=match A.th i with
 |.far _=>[]
 |.pr a b=>[A.wd a,A.wd b]:=by
 unfold pwI;rw[hd_at O h];obtain⟨l,r,_,_,e,e2⟩:=at_ O h;have ht:=O.t i h;unfold hd;cases et:A.th i with
 |far n =>
  rw[et] at ht;have:=(head_4 (bits:=A.bits) (by have:=O.R.b; lia) (small_ne ht.1)).1;simp only;rw[if_neg (λz=>by have:=Option.some.inj z; lia)]
 |pr a b =>
  rw[show A.tw i=[1,A.wd a,A.wd b] by unfold tw; rw[et]] at e;refine(if_pos rfl).trans ?_;rw[e2,e];show List.take 2 _=[A.wd a,A.wd b];rw[show List.flatMap A.tw l++([1,A.wd a,A.wd b]++List.flatMap A.tw r)=(List.flatMap A.tw l++[1])++([A.wd a,A.wd b]++List.flatMap A.tw r) by simp,RZ (by simp)];rfl
theorem si(O:A.Ok):SI A.bits A.ms A.ws A.os (A.od.map A.pl):=by
 refine⟨O.R,hds O,λword hw s a e=>?_,λj hj word hw s a e=>?_,by unfold ws; rw[Uh,O.l8]; decide⟩
 ·obtain⟨r,hr,rfl⟩:=UQ.mp hw
  obtain⟨i,hi,_,rfl⟩:=xL O (O.g r hr) e;exact⟨_,Do hi,rfl⟩
 ·obtain⟨i,hi,rfl⟩:=UQ.mp hj
  rw[WP O hi] at hw;have ht:=O.t i hi;cases et:A.th i with
  |far n=>rw[et] at hw; exact nomatch hw
  |pr x y =>
   rw[et] at hw ht;simp only[Uv,U8,or_false] at hw;rcases hw with rfl|rfl
   ·obtain⟨i,hi,_,rfl⟩:=xL O ht.1 e
    exact⟨_,Do hi,rfl⟩
   ·obtain⟨i,hi,_,rfl⟩:=xL O ht.2 e
    exact⟨_,Do hi,rfl⟩
theorem fit(O:A.Ok):∀m∈A.ms,m.1 = "far" \/ m.1 = "pair" -> (A.os.length:Int)<=2^(A.bits-m.2.1).toNat:=λm hm hk=>by
 have:=(most_le O hk).1;rw[(O.R.ofKind hm).mk] at this;have:=O.f;lia
end Mc
theorem Vd{f:Nat->Nat}:∀{l:List Nat},((l.filter p).map f).sum<=(l.map f).sum
 | []=>Uk _
 |j::l=>by
  have:=@Vd p f l;rw[RE,UB,RC];split
  ·rw[UB,RC]; lia
  ·lia
theorem Xc{os:List Int}:∀{l:List Nat}{n:Nat},(∀j∈l,p j=p i->j=i)->(∀j∈l,szK os (p j)=f j)->i∈l->(offs os (l.map p) n).lookup (p i)=some (n+plc f l i)
 | [],_,_,_,h=>nomatch h
 |j::l,n,hp,hf,h=>by
  show List.lookup (p i) ((p j,n)::offs os (l.map p) (n+szK os (p j)))=some (n+if j=i then 0 else f j+plc f l i);rw[UF];by_cases e:j=i
  ·subst e
   rw[if_pos rfl];simp
  ·have:(p i==p j)=false:=beq_eq_false_iff_ne.mpr λz=>e (hp j (.head _) z.symm)
   rw[this,if_neg e];simp only;rw[hf j (.head _),Xc (λj hj=>hp j (.tail _ hj)) (λj hj=>hf j (.tail _ hj)) ((Uv.mp h).resolve_left (Ne.symm e)),Bh]
namespace Mc
inductive Rc(A:Mc):Nat->Prop
 |of {i:Nat} : .t i∈A.rg->Rc A i
 |l {i j:Nat} {b:Rf}:Rc A i->A.th i=.pr (.t j) b->Rc A j
 |r {i j:Nat} {a:Rf}:Rc A i->A.th i=.pr a (.t j)->Rc A j
noncomputable def lv(A:Mc):List Nat:=A.od.filter λi=>@decide (A.Rc i) (Classical.propDecidable _)
noncomputable def swp(A:Mc):Mc:={ A with od:=A.lv,sw:=A.sw+1 }
variable {A:Mc}
theorem mem_lv:i∈A.lv↔i∈A.od/\A.Rc i:=by
 unfold lv;rw[UJ];simp
theorem Jp(O:A.Ok)(h:A.Rc i):i∈A.od:=by
 induction h with
 |of h=>exact O.g _ h
 |l h e ih=>have:=O.t _ ih; rw[e] at this; exact this.1
 |r h e ih=>have:=O.t _ ih; rw[e] at this; exact this.2
theorem pl_inj(O:A.Ok)(hi:i∈A.od)(hj:j∈A.od)(e:A.pl i=A.pl j):i=j:=by
 have hp:=(hds O).lt;rw[Rz] at hp;obtain⟨l,r,e1⟩:=Bi hi;rw[e1] at hp hj;have h1:=DO.mp hp;have h2:=(U4.mp h1.2.1).1;rcases Uw.mp hj with z|z
 ·have:=h1.2.2 j z i (.head _); lia
 ·rcases Uv.mp z with z|z
  ·exact z.symm
  ·have:=h2 j z; lia
theorem rch(O:A.Ok):Rch A.ms A.ws A.os k↔∃i,A.Rc i/\k=A.pl i:=by
 constructor
 ·intro h
  induction h with
  |of hw hl =>
   obtain⟨r,hr,rfl⟩:=UQ.mp hw;obtain⟨s,e⟩:=hl;obtain⟨i,_,rfl,e'⟩:=xL O (O.g r hr) e;exact⟨i, .of hr,by exact_mod_cast e'⟩
  |to _ hw hl ih =>
   obtain⟨i,hi,rfl⟩:=ih;obtain⟨s,e⟩:=hl;have ht:=O.t i (Jp O hi);rw[WP O (Jp O hi)] at hw;cases et:A.th i with
   |far n=>rw[et] at hw; exact nomatch hw
   |pr x y =>
    rw[et] at hw ht;simp only[Uv,U8,or_false] at hw;rcases hw with rfl|rfl
    ·obtain⟨j,_,rfl,e'⟩:=xL O ht.1 e
     exact⟨j, .l hi et,by exact_mod_cast e'⟩
    ·obtain⟨j,_,rfl,e'⟩:=xL O ht.2 e
     exact⟨j, .r hi et,by exact_mod_cast e'⟩
 ·rintro⟨i,h,rfl⟩
  induction h with
  |of h=>exact .of (Do h) ⟨_,addr_t O (O.g _ h)⟩
  |l h e ih =>
   have ht:=O.t _ (Jp O h);rw[e] at ht;exact .to ih (by rw[WP O (Jp O h),e]; exact .head _) ⟨_,addr_t O ht.1⟩
  |r h e ih =>
   have ht:=O.t _ (Jp O h);rw[e] at ht;exact .to ih (by rw[WP O (Jp O h),e]; exact .tail _ (.head _)) ⟨_,addr_t O ht.2⟩
theorem rs_of(O:A.Ok):rsOf A.ms A.ws A.os (A.od.map A.pl)=A.lv.map A.pl:=by
 unfold rsOf lv;rw[List.filter_map]
 congr 1;refine List.filter_congr λi hi=>?_;show @decide (Rch _ _ _ (A.pl i)) (Classical.propDecidable _)=@decide (A.Rc i) (Classical.propDecidable _);refine decide_eq_decide.mpr ⟨λh=>?_,λh=>(rch O).mpr ⟨i,h,rfl⟩⟩;obtain⟨j,hj,e⟩:=(rch O).mp h;rw[pl_inj O hi (Jp O hj) e];exact hj
theorem sz_at(O:A.Ok)(h:i∈A.od):szK A.os (A.pl i)=A.sz i:=by
 unfold szK;rw[hd_at O h];exact(bad_th O (O.t i h) (pre:=[]) (post:=[])).2
theorem pl_swp(O:A.Ok)(h:i∈A.lv):plAt A.os (A.lv.map A.pl) (A.pl i)=A.swp.pl i:=by
 unfold plAt;rw[Xc (f:=A.sz) (λj hj=>pl_inj O (mem_lv.mp hj).1 (mem_lv.mp h).1) (λj hj=>sz_at O (mem_lv.mp hj).1) h];show 0+plc A.sz A.lv i=_;rw[Di];rfl
theorem div_t(O:A.Ok)(h:i∈A.od):A.wd (.t i) / 2^(vq A.ms (A.th i).kd).2.1.toNat=(A.pl i:Int):=by
 have e:=addr_t O h;obtain⟨l,e1⟩:=Ge O (r:=.t i) h;unfold xB at e;rw[e1] at e;have e:(if(vq A.ms (A.th i).kd).1 = "far" \/ (vq A.ms (A.th i).kd).1 = "pair" then some ((vq A.ms (A.th i).kd).1,A.wd (.t i) / 2^(vq A.ms (A.th i).kd).2.1.toNat) else none)=some ((A.th i).kd,(A.pl i:Int)):=e;split at e
 ·exact(Prod.mk.inj (Option.some.inj e)).2
 ·cases e
theorem Wv(h:A.RfOk r)(hr:∀i,r=.t i->A.Rc i):A.swp.RfOk r:=by
 cases r with
 |w x=>exact h
 |t i=>exact mem_lv.mpr ⟨h,hr i rfl⟩
theorem mv_wd(O:A.Ok)(h:A.RfOk r)(h2:A.swp.RfOk r):mvW A.bits A.ms (plAt A.os (A.lv.map A.pl)) (A.wd r)=A.swp.wd r:=by
 obtain⟨l,e⟩:=Ge O h;have v:=(vld O h).k;unfold mvW;rw[e];cases r with
 |w x =>
  refine if_neg λz=>?_;have h:InW A.bits A.ms x:=h;have z:(vq A.ms x.1).1 = "far" \/ (vq A.ms x.1).1 = "pair" := z;rw[OfKind.is h.v.k] at z;rcases h.k with y|y|y<;>rw[y] at z<;>revert z<;>decide
 |t i =>
  have v:OfKind A.ms (A.th i).kd (vq A.ms (A.th i).kd):=v;have hk:(A.th i).kd = "far" \/ (A.th i).kd = "pair" := by cases A.th i<;>simp[Th.kd]
  refine(if_pos (by show(vq A.ms (A.th i).kd).1=_\/(vq A.ms (A.th i).kd).1=_; rw[OfKind.is v]; exact hk)).trans ?_;show xO A.bits (vq A.ms (A.th i).kd) (plAt _ _ (A.wd (.t i) / 2^(vq A.ms (A.th i).kd).2.1.toNat).toNat)=_;rw[div_t O h,Dx,pl_swp O h2];rfl
theorem rg_swp(O:A.Ok):∀r∈A.rg,A.swp.RfOk r:=λr hr=>Wv (O.g r hr) λi e=>.of (e▸hr)
theorem th_swp(O:A.Ok)(h:i∈A.lv):A.swp.ThOk (A.th i):=by
 obtain⟨h1,h2⟩:=mem_lv.mp h;have ht:=O.t i h1;cases e:A.th i with
 |far n=>rw[e] at ht; exact ht
 |pr a b =>
  rw[e] at ht;exact⟨Wv ht.1 λj ej=>.l h2 (ej▸e),Wv ht.2 λj ej=>.r h2 (ej▸e)⟩
theorem ws_swp(O:A.Ok):swW A.bits A.ms A.ws A.os (A.od.map A.pl)=A.swp.ws:=by
 unfold swW;rw[rs_of O];unfold ws;rw[DT];exact Db λr hr=>mv_wd O (O.g r hr) (rg_swp O r hr)
theorem mv_tw(O:A.Ok)(h:i∈A.lv):mvT A.bits A.ms A.os (plAt A.os (A.lv.map A.pl)) (A.pl i)=A.swp.tw i:=by
 obtain⟨h1,h2⟩:=mem_lv.mp h;have ht:=O.t i h1;have ht2:=th_swp O h;unfold mvT;rw[hd_at O h1,WP O h1,sz_at O h1];obtain⟨l,r,_,_,e,e2⟩:=at_ O h1;rw[e2];have e3:(A.os.drop (l.flatMap A.tw).length).take (A.sz i)=A.tw i:=by rw[e,RZ rfl,Rb Kl]
 rw[e3];cases et:A.th i with
 |far n =>
  rw[et] at ht;have:=(head_4 (bits:=A.bits) (by have:=O.R.b; lia) (small_ne ht.1)).1;rw[if_neg (λz=>by unfold hd at z; rw[et] at z; have:zf A.bits n=1:=Option.some.inj z; lia)];unfold tw;rw[show A.swp.th i=A.th i from rfl,et];rfl
 |pr a b =>
  rw[et] at ht ht2;rw[if_pos (by unfold hd; rw[et])];unfold tw;rw[show A.swp.th i=A.th i from rfl,et];show 1::[_,_]=[_,_,_];rw[mv_wd O ht.1 ht2.1,mv_wd O ht.2 ht2.2]
theorem os_swp(O:A.Ok):swO A.bits A.ms A.ws A.os (A.od.map A.pl)=A.swp.os:=by
 unfold swO;rw[rs_of O,List.flatMap_map];show _=A.lv.flatMap A.swp.tw;rw[DH,DH]
 congr 1;exact Db λi hi=>mv_tw O hi
theorem W9:A.swp.os.length<=A.os.length:=by
 unfold os;rw[Xz,Xz];exact Vd
theorem ok_swp(O:A.Ok):A.swp.Ok:=⟨O.R,O.l8,rg_swp O,O.d.sublist Rg,λi hi=>O.b i (mem_lv.mp hi).1,λi hi=>th_swp O hi,by have:=O.f; have:=@W9 A; show(A.swp.os.length:Int)<=A.most; lia,O.m⟩
end Mc
theorem WW:∀{l:List Nat},(∀j∈l,f j=g j)->i∈l->plc f (l++r) i=plc g l i
 | [],_,h=>nomatch h
 |j::l,hf,h=>by
  show(if j=i then 0 else f j+plc f (l++r) i)=if j=i then 0 else g j+plc g l i
  by_cases e:j=i
  ·rw[if_pos e,if_pos e]
  ·rw[if_neg e,if_neg e,hf j (.head _),WW (λk hk=>hf k (.tail _ hk)) ((Uv.mp h).resolve_left (Ne.symm e))]
namespace Mc
variable {A:Mc}
def put(A:Mc)(r:Nat)(x:Rf):Mc:={ A with rg:=A.rg.set r x }
def lay(A:Mc)(r:Nat)(t:Th):Mc:={ A with rg:=A.rg.set r (.t A.tb.length),tb:=A.tb++[t],od:=A.od++[A.tb.length] }
def wt(A:Mc):Th->List Int
 |.far n=>jf A.bits n
 |.pr a b=>[1,A.wd a,A.wd b]
theorem wt_len:(A.wt t).length=t.sz A.bits:=by cases t with
 |far n=>exact xD
 |pr a b=>rfl
theorem ws_put:(A.put r x).ws=A.ws.set r (A.wd x):=R0
theorem ok_put(O:A.Ok)(h:A.RfOk x):(A.put r x).Ok:=by
 refine⟨O.R,by show(A.rg.set r x).length=8; rw[Uq,O.l8],λy hy=>?_,O.d,O.b,O.t,O.f,O.m⟩;rcases Rq hy with z|z
 ·exact O.g y z
 ·rw[z]; exact h
variable {r:Nat} {t:Th}
theorem Kn(h:i<A.tb.length):(A.lay r t).th i=A.th i:=by
 unfold th lay;rw[Dq,Dq,Ug h]
theorem Y9:(A.lay r t).th A.tb.length=t:=by
 unfold th lay;rw[Dq];simp
theorem sz_lay(O:A.Ok):∀i∈A.od,(A.lay r t).sz i=A.sz i:=λi hi=>by
 unfold sz;rw[Kn (O.b i hi)];rfl
theorem pl_lay(O:A.Ok)(h:i∈A.od):(A.lay r t).pl i=A.pl i:=WW (sz_lay O) h
theorem new_od(O:A.Ok):A.tb.length∉A.od:=λz=>Dm _ (O.b _ z)
theorem pl_new(O:A.Ok):(A.lay r t).pl A.tb.length=A.os.length:=by
 unfold pl os;show plc _ (A.od++[A.tb.length]) _=_;rw[V0 (new_od O),Xz]
 congr 1;exact Db λi hi=>sz_lay O i hi
theorem kl_lay(O:A.Ok)(h:A.RfOk x):(A.lay r t).kl x=A.kl x:=by
 cases x with
 |w x=>rfl
 |t i =>
  show(((A.lay r t).th i).kd,((A.lay r t).pl i:Int))=((A.th i).kd,(A.pl i:Int));rw[Kn (O.b i h),pl_lay O h]
theorem YU(O:A.Ok)(h:A.RfOk x):(A.lay r t).wd x=A.wd x:=by
 unfold wd;rw[kl_lay O h];rfl
theorem Ww(h:A.RfOk x):(A.lay r t).RfOk x:=by
 cases x with
 |w x=>exact h
 |t i=>exact UD _ h
theorem wt_lay(O:A.Ok)(h:A.ThOk u):(A.lay r t).wt u=A.wt u:=by
 cases u with
 |far n=>rfl
 |pr a b =>
  show[1,(A.lay r t).wd a,(A.lay r t).wd b]=[1,A.wd a,A.wd b];rw[YU O h.1,YU O h.2]
theorem XX:A.tw i=A.wt (A.th i):=by unfold tw wt; rfl
theorem tk_lay(h:A.ThOk u):(A.lay r t).ThOk u:=by
 cases u with
 |far n=>exact h
 |pr a b=>exact⟨Ww h.1,Ww h.2⟩
theorem os_lay(O:A.Ok)(ht:A.ThOk t):(A.lay r t).os=A.os++A.wt t:=by
 unfold os;show(A.od++[A.tb.length]).flatMap _=_;rw[Dp]
 congr 1
 ·rw[DH,DH]
  congr 1;refine Db λi hi=>?_;rw[XX,XX,Kn (O.b i hi),wt_lay O (O.t i hi)]
 ·rw[show[A.tb.length].flatMap (A.lay r t).tw=(A.lay r t).tw A.tb.length by simp,XX,Y9,wt_lay O ht]
theorem ws_lay(O:A.Ok):(A.lay r t).ws=A.ws.set r (wdK A.bits A.ms (t.kd,(A.os.length:Int))):=by
 have e:(A.lay r t).wd (.t A.tb.length)=wdK A.bits A.ms (t.kd,(A.os.length:Int)):=by
  show wdK A.bits A.ms (((A.lay r t).th A.tb.length).kd,((A.lay r t).pl A.tb.length:Int))=_;rw[Y9,pl_new O]
 unfold ws;show(A.rg.set r _).map _=_;rw[R0,e]
 congr 1;exact Db λx hx=>YU O (O.g x hx)
theorem ok_lay(O:A.Ok)(ht:A.ThOk t)(hf:(A.os.length:Int)+t.sz A.bits<=A.most):(A.lay r t).Ok:=by
 refine⟨O.R,by show(A.rg.set r _).length=8; rw[Uq,O.l8],λy hy=>?_, ?_,λi hi=>?_,λi hi=>?_, ?_,O.m⟩
 ·rcases Rq hy with z|z
  ·exact Ww (O.g y z)
  ·rw[z]; exact UM _ (.head _)
 ·refine DO.mpr ⟨O.d,List.pairwise_singleton _ _,λi hi j hj=>?_⟩
  rw[Uu.mp hj];exact O.b i hi
 ·show i<(A.tb++[t]).length
  rw[Uj];rcases Uw.mp hi with z|z
  ·have:=O.b i z; lia
  ·rw[Uu.mp z]; show _<_+1; lia
 ·rcases Uw.mp hi with z|z
  ·rw[Kn (O.b i z)]; exact tk_lay (O.t i z)
  ·rw[Uu.mp z,Y9]; exact tk_lay ht
 ·rw[os_lay O ht,Uj,wt_len]
  show _<=A.most;push_cast;exact hf
end Mc
structure StA(C:Addr)(M:MM)(s h kp:Nat)(A:Mc):Prop where
 O:A.Ok
 S:StS C M s h kp A.bits A.ms A.room A.ws A.os A.qu A.sl A.sw
def Nw(M:MM)(h h':Nat):Prop:=h'=h\/M.length<=h'
def Go(C:Addr)(M:MM)(s h kp:Nat)(B:Mc)(Q:MM->Prop):Prop:=∀M' h' kp',Frm M M' [s,h,kp]->Nw M h h'->Nw M kp kp'->StA C M' s h' kp' B->Q M'
theorem Go.here(S:StA C M s h kp A)(g:Go C M s h kp A Q):Q M:=g M h kp .refl (.inl rfl) (.inl rfl) S
theorem Go.step(g:Go C M s h kp B Q)(f:Frm M M' [s,h,kp])(hh:Nw M h h')(hk:Nw M kp kp')(hs:s<M.length):Go C M' s h' kp' B Q:=λM2 h2 k2 f2 a b S=>by
 have nw:∀{x x' y:Nat},Nw M x x'->Nw M' x' y->Nw M x y:=λ{x x' y} p q=>by
  have:=f.1;unfold Nw at *;lia
 refine g M2 h2 k2 (f.trans f2 λi hi=>?_) (nw hh a) (nw hk b) S;simp only[Uv,U8,or_false] at hi ⊢;unfold Nw at *;lia
theorem StA.put(S:StA C M s h kp A)(hx:A.RfOk x):StA C (M.set h (iM (A.ws.set r (A.wd x)))) s h kp (A.put r x):=by
 have hh:=(Ue.mp S.S.h0).1;refine⟨Mc.ok_put S.O hx,by rw[Ul S.S.sh.symm]; exact S.S.s0,by rw[Mc.ws_put]; exact Ur hh,by rw[Ul S.S.hk]; exact S.S.k0,S.S.sh,S.S.sk,S.S.hk⟩
theorem ki(e:h∈F):Frm M (M.set h o) F:=⟨by rw[Uq]; exact Uk _,λi _ hn=>Ul λz:h=i=>hn (z▸e)⟩
theorem vE(D:MDef X.prog X.w X.K X.mg X.base C m k ps sp)(c:Cls X.K C)(he:QE X o ta)(hr:Room k X.A)(ht:eval (.Call (.Attribute o m apos) [] [] pos) X.env=(do
   let ov <-eval o X.env
   standAt apos.atName;let(f,first) <-holding [ov] (getMethod ov m pl)
   callWith pos f first (backTo pos (starEach [] X.env)) (backToKw pos (keywordEach [] X.env))):=by rfl):QE X (.Call (.Attribute o m apos) [] [] pos) (XZ C m sp [] E0 ta tNil):=by
 obtain⟨f,fd,h1,h2,h3⟩:=D.ex;exact⟨pe_meth0 he.h c h1 h3 hr h2 .nil pass0 ht⟩
local macro_rules | `(tactic| walk_at "vx") => `(tactic| simp only[xc,Q6,Qd,xa,zl,uTry,xf,xb,Q7,Qf,endX,uAsG,za,uIxX,uOpX,uX0,uAsgT,uIfX,uMeX,uLstX,uCatX,uConsX,uNilX,jw,uMe0,uCmpT,LiN,Me0S,rd_revL,rd_cmpF])
local macro_rules | `(tactic| walk_at "pk") => `(tactic| (walk_at "v"; repeat ((first|walk_at "vx" |refine zI (by decide) ?_|refine vV rfl ?_); walk_at "v")))
section
theorem zY(TP:TxStore Ξ C)(S:StA C M s h kp A)(q:Q (.p (layT A.bits A.ms)) M):FldS Ξ "laying" (.m s) M Q:=v8 TP.c TP.n1 S.S.s0 (by rfl) q
theorem room_at(TP:TxStore Ξ C)(S:StA C M s h kp A)(q:Q (.p (.int A.room)) M):FldS Ξ "room" (.m s) M Q:=v8 TP.c TP.n2 S.S.s0 (by rfl) q
theorem vH(TP:TxStore Ξ C)(S:StA C M s h kp A)(q:Q (.m h) M):FldS Ξ "held" (.m s) M Q:=v8 TP.c TP.n3 S.S.s0 (by rfl) q
theorem zN(TP:TxStore Ξ C)(S:StA C M s h kp A)(q:Q (.m kp) M):FldS Ξ "kept" (.m s) M Q:=v8 TP.c TP.n4 S.S.s0 (by rfl) q
theorem mS(S:StA C M s h kp A)(hm:(fldC A.bits A.ms A.room h kp A.qu A.sl A.sw).lookup m=none)(q:R):qaW C m (.m s) M R:=meth_at S.S.s0 hm q
theorem jD{i:Nat}(S:StA C M s h kp A)(hq:A.rg[i]?=some x)(q:Q (.p (.int (A.wd x))) M):IxS qD M (.m h) (.p (.int (i:Int))) Q :=
 jn (us:=((A.ws).map T.int).map U.p) (by simp[qD,S.S.h0]) (ju (by unfold Mc.ws; simp only[Uz,hq,RT])) q
theorem kJ(e:M[h]?=some (iM ws))(hr:r<ws.length)(q:R (M.set h (iM (ws.set r x)))):SubS M (.m h) (.p (.int (r:Int))) (.p (.int x)) R:=by
 refine⟨h,_,r,r,rfl,e,rfl, ?_, ?_⟩
 ·unfold ixN
  simp[hr]
 ·rw[<-R0, <-R0]
  exact q
theorem StA.l8(S:StA C M s h kp A):A.ws.length=8:=by unfold Mc.ws; rw[Uh,S.O.l8]
theorem Vg(S:StA C M s h kp A)(hr:r<8)(hx:A.RfOk x)(g:Go C M s h kp (A.put r x) R):SubS M (.m h) (.p (.int (r:Int))) (.p (.int (A.wd x))) R :=
 kJ S.S.h0 (by rw[S.l8]; exact hr) (g _ h kp (ki (by simp)) (.inl rfl) (.inl rfl) (S.put hx))
theorem StA.lt(S:StA C M s h kp A):s<M.length:=(Ue.mp S.S.s0).1
theorem Qc(R:Right bits ms)(hx:Vld bits ms x (vq ms x.1))(q:R' (.int (wdK bits ms x))):zO [layT bits ms,tOf x] R':=by
 have hm:=hx.k;have hmw:=R.w _ hm.mem;have hnd:=zC (vq ms x.1).1;have hb:=R.b;refine⟨bits,ms,tOf x,x.1,x.2,vq ms x.1,rfl,by have:=R.n; lia,hx.worth,hm,by lia,by lia,by lia, ?_,q⟩;by_cases hs:x.1 = "small"
 ·exact .inl ⟨x.2,by unfold tOf; rw[if_pos hs]⟩
 ·exact .inr (hx.o hs)
theorem Wc:tOf ("small", n)=.int n:=by unfold tOf; rw[if_pos rfl]
theorem tOf_none:tOf ("one", 0)=.str "none" := by unfold tOf; rw[if_neg (by decide),if_pos rfl]; rfl
theorem We{t:Th}:tOf (t.kd,n)=.tup [.str t.kd, .int n]:=by
 unfold tOf;cases t with
 |far=>rfl
 |pr=>rfl
end
abbrev jb:Stmt:=qr (top 48) 4
theorem ZK:FnScope ["self","size"] ["self","size"] (qg jb):=⟨rfl,rfl,rfl,by decide +kernel,rfl,by decide +kernel,by decide +kernel⟩
def gLacks(C:Addr):List U->MM->UK->Prop:=λus M Q=>∃(s h kp:Nat)(A:Mc)(size:Int),us=[.m s, .p (.int size)]/\StA C M s h kp A/\Q (.p (.bl (decide (A.most<A.os.length+size)))) M
theorem ok_lacks(F:Fun Ξ "lacks" "Store.lacks" jb f fd)(N:Nms mg)(TP:TxStore Ξ C)(DMostOutside:Def P w Ξ mg base "most_outside" 3 ["laying","room"] (spP gMost)):FnOk P w Ξ mg base CX0 4 f fd ["self","size"] (spU (gLacks C)):=by
 refine F.zU ZK (λus M Qu h=>?_) (λcdv A outer s H E hr=>?_)
 ·obtain⟨_,_,_,_,_,rfl,_⟩:=h
  rfl
 refine⟨_,(qi (qw (zz op_gt (qq qO (vb vZ (by rfl) N.len Vc (qa_c (qG (qv 0) rfl) qd)) (qv 1)) (qk DMostOutside (WR hr) (qa_c (qG (qv 0) rfl) (qa_c (qG (qv 0) rfl) qd))) (qI _)))),_,(qy (qo (qE λ_ _=>.bl _) (qo (qE λ_ _=>.int _) (Q3 (qa (qH (qb 0)) qc)) (qb 1)) (ql (qa (qH (qb 0)) (qa (qH (qb 0)) qc))))),λus M Qu h=>?_⟩;obtain⟨s,h,kp,A,size,rfl,S,q⟩:=h;symm;refine zN TP S ?_;symm;refine jm S.S.k0 ?_;symm;refine zY TP S ?_;symm;refine room_at TP S ?_;symm;refine⟨A.bits,A.ms,A.room,rfl,S.O.R, ?_⟩;symm;simp only[Uh];exact q
abbrev zy:Stmt:=qr (top 48) 5
theorem Qk:FnScope ["self","size"] ["self","size"] (qg zy):=⟨rfl,rfl,rfl,by decide +kernel,rfl,by decide +kernel,by decide +kernel⟩
noncomputable def Mc.mk'(A:Mc)(n:Nat):Mc:=if A.most<A.os.length+n then A.swp else A
def KW(C:Addr):List U->MM->UK->UX->Prop:=λus M Q X=>∃(s h kp:Nat)(A:Mc)(n:Nat),us=[.m s, .p (.int n)]/\StA C M s h kp A/\((((A.mk' n).os.length:Int)+n<=A.most)->Go C M s h kp (A.mk' n) (Q (.p .non)))/\((A.most<((A.mk' n).os.length:Int)+n)->Go C M s h kp (A.mk' n) (X "NoRoom" none))
theorem ok_roomS(F:Fun Ξ "make_room" "Store.make_room" zy f fd)(TStore:Cls Ξ C)(ONoRoom:ExcC Ξ mg "NoRoom" CENoRoom)(MStoreLacks:MDef P w Ξ mg base C "lacks" 4 ["self","size"] (spU (gLacks C)))(MStoreSweep:MDef P w Ξ mg base C "sweep" 7 ["self"] (spU (KO C))):FnOk P w Ξ mg base (CXe P w) 8 f fd ["self","size"] (spX mg (KW C)):=by
 refine F.zX Qk (λus M Qu Xu h=>?_) (λcdv A outer s H E hr=>?_)
 ·obtain⟨_,_,_,_,_,rfl,_⟩:=h
  rfl
 refine⟨_,(qZ (ZN (v6 (zc (qQ MStoreLacks TStore (qv 0) (WR hr) (qa_c (qv 1) qd)))
   (qi (vg (vE MStoreSweep TStore (qv 0) (WR hr))))
   va))
  (qY (Yr (zc (qQ MStoreLacks TStore (qv 0) (WR hr) (qa_c (qv 1) qd)))
   (qY (VU rfl rfl ONoRoom (qa_c qK qd)))
   j4))),_,(qh (vX (ct_b (qC (qb 0) (qa (qb 1) qc)))
   (vi (qC (qb 0) qc))
   qR)
   (vX (ct_b (qC (qb 0) (qa (qb 1) qc)))
   (Zm (qa W1 qc))
   qR)),λus M Qu Xu h=>?_⟩
 obtain⟨s,h,kp,A,n,rfl,S,q1,q2⟩:=h;unfold Mc.mk' at q1 q2;symm;refine mS S (by rfl) ?_;symm;refine⟨s,h,kp,A,n,rfl,S, ?_⟩;symm;refine ite2 (λz=>?_) (λz=>?_)
 ·rw[if_pos z] at q1 q2
  symm;refine mS S (by rfl) ?_;symm;refine⟨s,h,kp,A.bits,A.ms,A.room,A.ws,A.os,A.qu,A.sl,A.sw,A.od.map A.pl,rfl,S.S,Mc.si S.O,Mc.fit S.O,λM' h' kp' f1 n1 n2 S'=>?_⟩;rw[Mc.ws_swp S.O,Mc.os_swp S.O] at S';have S2:StA C M' s h' kp' A.swp:=⟨Mc.ok_swp S.O,S'⟩;have f2:Frm M M' [s,h,kp]:=⟨f1.1,λi hi hn=>f1.2 i hi λz=>hn (by simp at z; simp[z])⟩;walk_at "pk";refine mS S2 (by rfl) ?_;walk_at "pk";refine⟨s,h',kp',A.swp,n,rfl,S2, ?_⟩;walk_at "pk";refine ite2 (λz=>?_) (λz=>?_)
  ·walk_at "pk"
   exact⟨by rw[sizeLine_eq]; decide,_,_,_,rfl,rfl,q2 z M' h' kp' f2 (.inr n1) (.inr n2) S2⟩
  ·walk_at "pk"
   exact q1 (Int.not_lt.mp z) M' h' kp' f2 (.inr n1) (.inr n2) S2
 ·rw[if_neg z] at q1 q2
  walk_at "pk";refine mS S (by rfl) ?_;walk_at "pk";refine⟨s,h,kp,A,n,rfl,S, ?_⟩;walk_at "pk";exact zI z (Go.here S (q1 (Int.not_lt.mp z)))
abbrev jZ:Stmt:=top 14
theorem scLimbCount:FnScope ["laying","n","bits"] ["laying","n"] (qg jZ):=⟨rfl,rfl,rfl,by decide +kernel,rfl,by decide +kernel,by decide +kernel⟩
def kh:List T->(T->Prop)->Prop:=λts Q=>∃(bits:Int)(ms:List Mk3)(n:Int),ts=[layT bits ms, .int n]/\1<=bits/\bits<=60/\Q (.int (lcnt bits n))
theorem Va(F:Fun Ξ "limb_count" "limb_count" jZ f fd)(N:Nms mg):FnOk P w Ξ mg base CX0 1 f fd ["laying","n"] (spP kh):=by
 refine F.zP scLimbCount (λts Qt h=>?_) (λcdv A outer s H E hr=>?_)
 ·obtain⟨_,_,_,rfl,_⟩:=h
  rfl
 refine⟨_,(qf (qB (i:=2) scLimbCount.nd rfl W6 (qA (Ub Ξ) (qv 0) qe (λ_ _=>rfl)))
  (qi (qw (qq xF (qq zt (qq qO (QD PySem.F.plainAttrs_int PySem.F.slot_int_bit_length PySem.F.type_int_bit_length mt_bits (vb Zq (by rfl) N.abs b_abs (qa_c (qv 1) qd))) (qv 2)) qe) (qv 2))))),_,(qh (qx (qW (qb 0) WS) (qm 2))
   (qy (qo (v3 λ_ _=>.int _) (qo (qE λ_ _=>.int _) (qo (qE λ_ _=>.int _) (ce_bits (Q4 qaN (qa (qb 1) qc))) (qb 2)) WS) (qb 2)))),λts Qt h=>?_⟩
 obtain⟨bits,ms,n,rfl,b0,b1,q⟩:=h;nofun;rw[qaV,bits_abs,lcnt_int b0];exact⟨⟨by lia,log2_lt (by lia) (by lia)⟩,q⟩
abbrev VO:Stmt:=top 18
theorem Wo:FnScope ["laying","n"] ["laying","n"] (qg VO):=⟨rfl,rfl,rfl,by decide +kernel,rfl,by decide +kernel,by decide +kernel⟩
def Zf:List T->(T->Prop)->Prop:=λts Q=>∃(bits:Int)(ms:List Mk3)(n:Int),ts=[layT bits ms, .int n]/\2<=bits/\bits<=60/\Q (.bl (decide (2^(bits-2).toNat<=(lcnt bits n:Int))))
theorem Xb(F:Fun Ξ "is_great" "is_great" VO f fd)(DLimbCount:Def P w Ξ mg base "limb_count" 1 ["laying","n"] (spP kh)):FnOk P w Ξ mg base CX0 2 f fd ["laying","n"] (spP Zf):=by
 refine F.zP Wo (λts Qt h=>?_) (λcdv A outer s H E hr=>?_)
 ·obtain⟨_,_,_,rfl,_⟩:=h
  rfl
 refine⟨_,(qi (qw (zz op_ge (qk DLimbCount (WR hr) (qa_c (qv 0) (qa_c (qv 1) qd))) (qq zG qe (qq zt (qA (Ub Ξ) (qv 0) qe (λ_ _=>rfl)) qe)) (qI _)))),_,(qy (qo (qE λ_ _=>.bl _) (ql (qa (qb 0) (qa (qb 1) qc))) (qo (v3 λ_ _=>.int _) WS (qo (qE λ_ _=>.int _) (qW (qb 0) WS) WS)))),λts Qt h=>?_⟩;obtain⟨bits,ms,n,rfl,b0,b1,q⟩:=h;nofun;refine⟨bits,ms,n,rfl,by lia,b1, ?_⟩;nofun;refine⟨⟨by lia,by lia,by decide⟩, ?_⟩;rw[Da];exact q
abbrev Ji:Stmt:=top 15
theorem scRowsOf:FnScope ["laying","n","bits","count","words","left","limb"] ["laying","n"] (qg Ji):=⟨rfl,rfl,rfl,by decide +kernel,rfl,by decide +kernel,by decide +kernel⟩
def gRows:List T->(T->Prop)->Prop:=λts Q=>∃(bits:Int)(ms:List Mk3)(n:Int),ts=[layT bits ms, .int n]/\1<=bits/\bits<=60/\Bt 20000 n/\Q (vn (jf bits n))
theorem ok_rowsU(F:Fun Ξ "rows_of" "rows_of" Ji f fd)(N:Nms mg)(DLimbCount:Def P w Ξ mg base "limb_count" 1 ["laying","n"] (spP kh)):FnOk P w Ξ mg base CX0 2 f fd ["laying","n"] (spP gRows):=by
 refine F.zP scRowsOf (λts Qt h=>?_) (λcdv A outer s H E hr=>?_)
 ·obtain⟨_,_,_,rfl,_⟩:=h
  rfl
 refine⟨_,(qf (qB (i:=2) scRowsOf.nd rfl W6 (qA (Ub Ξ) (qv 0) qe (λ_ _=>rfl)))
  (qf (qB (i:=3) scRowsOf.nd rfl W6 (qk DLimbCount (WR hr) (qa_c (qv 0) (qa_c (qv 1) qd))))
  (qf (qB (i:=4) scRowsOf.nd rfl W6 (qN (qa_c (qq qO (qq Vi qe (qv 3)) (zr (qF Z3 (qv 1) qe (qI _)) qe qe)) qd)))
  (qf (qB (i:=5) scRowsOf.nd rfl W6 (vb Zq (by rfl) N.abs b_abs (qa_c (qv 1) qd)))
  (qf (Qz PassesOwn.never rfl (ZV rfl N.range (qa_c (qv 3) qd)) (vD (i:=6) scRowsOf.nd rfl W6)
   (qf (vg (j6 PySem.F.slot_list_append PySem.F.type_list_append vJ (qv 4) (qa_c (qq zu (qv 5) (qq zG qe (qv 2))) qd)))
   (qi (qB (i:=5) scRowsOf.nd rfl W6 (qq op_shr (qv 5) (qv 2))))))
  (qi (qw (qv 4)))))))),_,(qh (qx (qW (qb 0) WS) (qm 2))
   (qh (qx (ql (qa (qb 0) (qa (qb 1) qc))) (qm 3))
   (qh (qx (xV (qa (qo (qE λ_ _=>.int _) (qo (v3 λ_ _=>.int _) WS (qb 3)) (ce_ifC (qL (qo (qE λ_ _=>.bl _) (qb 1) WS)) (.int _) (.int _))) qc)) (qm 4))
   (qh (qx (Q4 qaN (qa (qb 1) qc)) (qm 5))
   (qh (Vp (qaF (qa (qb 3) qc)) (qm 6)
   (qh (vi (ko vF (qb 4) (qa (qo (v3 λ_ _=>.int _) (qb 5) (qo (v3 λ_ _=>.int _) WS (qb 2))) qc)))
   (qx (qo (v3 λ_ _=>.int _) (qb 5) (qb 2)) (qm 5))))
   (qy (qb 4))))))),λts Qt h=>?_⟩
 obtain⟨bits,ms,n,rfl,b0,b1,hn,q⟩:=h;have hc:=lcnt_le hn b0 b1;have hsz:20061<sizeLine:=by decide
 nofun;refine⟨bits,ms,n,rfl,b0,b1, ?_⟩;nofun;refine⟨.inl ⟨by decide,by decide⟩, ?_⟩;have hhead:4*(lcnt bits n:Int)+(if n<0 then 2 else 0)=zf bits n:=rfl;rw[qaV,hhead];refine rng_at (by lia) (by lia) ?_;refine ufor_rng (λi ρ M'=>∃x6,ρ=[some (.p (layT bits ms)),some (.p (.int n)),some (.p (.int bits)),some (.p (.int (lcnt bits n))),some (.m 0),some (.p (.int ((n.natAbs / 2^(bits.toNat*i):Nat):Int))),x6]/\M'=[.lst ((T.int (zf bits n)::((List.range i).map (lim bits.toNat n.natAbs)).map T.int).map U.p)]) ⟨none,by simp,rfl⟩ ?_ ?_
 ·rintro i ρ M' hi ⟨x6,rfl,rfl⟩
  nofun;refine⟨⟨by lia,by lia,by decide⟩, ?_, ?_⟩
  ·rw[Da]; exact vk _
  refine⟨by simp; lia,by lia,some (.p (.int i)), ?_, ?_⟩
  ·rw[<-Xk]
   have:((n.natAbs / 2^(bits.toNat*i):Nat):Int) / 2^bits.toNat=((n.natAbs / 2^(bits.toNat*i) / 2^bits.toNat:Nat):Int):=by
    push_cast; rfl
   rw[this]
  ·have:((n.natAbs / 2^(bits.toNat*i):Nat):Int) % (1*2^bits.toNat)=lim bits.toNat n.natAbs i:=by
    unfold lim;rw[pow_cast];exact_mod_cast rfl
   rw[this,List.range_succ,Ux,Ux,Ux];rfl
 ·rintro ρ M' ⟨x6,rfl,rfl⟩
  nofun;refine⟨_, ?_,q⟩;simp only[frzN,Dd];rw[show(U.p (T.int (zf bits n))::List.map U.p (List.map T.int (List.map (lim bits.toNat n.natAbs) (List.range (lcnt bits n:Int).toNat))))=((jf bits n).map T.int).map U.p from rfl,kU (λ_=>kz)];rfl
abbrev Qm:Stmt:=qr (top 48) 6
theorem Yo:FnScope ["self","r","kind","thing"] ["self","r","kind","thing"] (qg Qm):=⟨rfl,rfl,rfl,by decide +kernel,rfl,by decide +kernel,by decide +kernel⟩
def gLayS(C:Addr):List U->MM->UK->Prop:=λus M Q=>∃(s h kp:Nat)(A:Mc)(r:Nat)(t:Th),us=[.m s, .p (.int r), .p (.str t.kd), .p (vn (A.wt t))]/\StA C M s h kp A/\r<8/\A.ThOk t/\2<=t.sz A.bits/\(A.os.length:Int)+t.sz A.bits<=A.most/\Go C M s h kp (A.lay r t) (Q (.p .non))
theorem ok_layS(F:Fun Ξ "lay" "Store.lay" Qm f fd)(N:Nms mg)(TP:TxStore Ξ C)(DWordOf:Def P w Ξ mg base "word_of" 3 ["laying","worth"] (spP zO)):FnOk P w Ξ mg base CX0 4 f fd ["self","r","kind","thing"] (spU (gLayS C)):=by
 refine F.zU Yo (λus M Qu h=>?_) (λcdv A outer s H E hr=>?_)
 ·obtain⟨_,_,_,_,_,_,rfl,_⟩:=h
  rfl
 refine⟨_,(qf (v5 (qk DWordOf (WR hr) (qa_c (qG (qv 0) rfl) (qa_c (vc (qa_c (qv 2) (qa_c (vb vZ (by rfl) N.len Vc (qa_c (qG (qv 0) rfl) qd)) qd))) qd))) (zd (qG (qv 0) rfl) (qv 1) qX))
  (qi (vg (j6 PySem.F.slot_list_extend PySem.F.type_list_extend QL (qG (qv 0) rfl) (qa_c (qv 3) qd))))),_,(qh (qx (ql (qa (qH (qb 0)) (qa (vA (qa (qb 2) (qa (Q3 (qa (qH (qb 0)) qc)) qc))) qc))) (Q1 (qH (qb 0)) (qb 1)))
   (vi (ko ke (qH (qb 0)) (qa (qb 3) qc)))),λus M Qu h=>?_⟩
 obtain⟨s,h,kp,A,r,t,rfl,S,hr,ht,h2,hf,g⟩:=h;have hh:=(Ue.mp S.S.h0).1;have hk:=(Ue.mp S.S.k0).1;symm;refine zY TP S ?_;symm;refine zN TP S ?_;symm;refine jm S.S.k0 ?_;symm;simp only[Uh];rw[<-We];refine Qc S.O.R ?_ ?_
 ·obtain⟨m,hm⟩:=S.O.R.kind (kind:=t.kd) (by cases t<;>(simp only[Th.kd]; decide))
  have hl:=(Mc.most_le S.O (k:=t.kd) (by cases t<;>simp[Th.kd])).1;show Vld _ _ _ (vq A.ms t.kd);rw[hm.mk] at hl ⊢;refine⟨hm,λz=>?_,λ_=>⟨Rj _,by show(A.os.length:Int)<_; lia⟩,λz=>?_,λz=>?_⟩<;>(have z:t.kd=_:=z)<;>cases t<;>exact absurd z (by simp only[Th.kd]; decide)
 symm;refine vH TP S ?_;symm;refine kJ S.S.h0 (by rw[S.l8]; exact hr) ?_;have s1:(M.set h (iM (A.ws.set r (wdK A.bits A.ms (t.kd,(A.os.length:Int))))))[s]?=some (.ins C (fldC A.bits A.ms A.room h kp A.qu A.sl A.sw)):=by rw[Ul S.S.sh.symm]; exact S.S.s0
 have k1:(M.set h (iM (A.ws.set r (wdK A.bits A.ms (t.kd,(A.os.length:Int))))))[kp]?=some (iM A.os):=by rw[Ul S.S.hk]; exact S.S.k0
 symm;refine v8 TP.c TP.n4 s1 (by rfl) ?_;symm;refine GG k1 ?_;symm;have hm:=(Mc.most_le S.O (k := "far") (.inl rfl)).2;have hw:=Mc.wt_len (A:=A) (t:=t);refine⟨_,k1,_,rfl,by simp only[Uh,sizeLine_eq]; lia, ?_⟩;rw[<-Ux, <-Ux];refine g _ h kp ((ki (by simp)).trans (ki (F:=[s,h,kp]) (by simp)) λi hi=>.inl hi) (.inl rfl) (.inl rfl) ⟨Mc.ok_lay S.O ht hf, ?_, ?_, ?_,S.S.sh,S.S.sk,S.S.hk⟩
 ·rw[Ul S.S.sk.symm]
  exact s1
 ·rw[Ul S.S.hk.symm,Ur hh,Mc.ws_lay S.O]
 ·rw[Ur (by rw[Uq]; exact hk),Mc.os_lay S.O ht]
abbrev zb:Stmt:=qr (top 48) 7
theorem scStoreNumber:FnScope ["self","r","n","thing"] ["self","r","n"] (qg zb):=⟨rfl,rfl,rfl,by decide +kernel,rfl,by decide +kernel,by decide +kernel⟩
noncomputable def Mc.num(A:Mc)(r:Nat)(n:Int):Mc×Bool :=
 if zq A.sm n=true then(A.put r (.w ("small", n)),true)
 else if 2^(A.bits-2).toNat<=(lcnt A.bits n:Int) then(A,false)
 else if((A.mk' (lcnt A.bits n+1)).os.length:Int)+(lcnt A.bits n+1:Nat)<=A.most then((A.mk' (lcnt A.bits n+1)).lay r (.far n),true)
 else(A.mk' (lcnt A.bits n+1),false)
def gNumS(C:Addr):List U->MM->UK->UX->Prop:=λus M Q X=>∃(s h kp:Nat)(A:Mc)(r:Nat)(n:Int),us=[.m s, .p (.int r), .p (.int n)]/\StA C M s h kp A/\r<8/\Bt 20000 n/\((A.num r n).2=true->Go C M s h kp (A.num r n).1 (Q (.p .non)))/\((A.num r n).2=false->Go C M s h kp (A.num r n).1 (X "NoRoom" none))
theorem Mc.mk_keep{A:Mc}:(A.mk' n).bits=A.bits/\(A.mk' n).ms=A.ms/\(A.mk' n).room=A.room:=by unfold Mc.mk'; split<;>exact⟨rfl,rfl,rfl⟩
theorem Gn(F:Fun Ξ "number" "Store.number" zb f fd)(N:Nms mg)(TP:TxStore Ξ C)(TStore:Cls Ξ C)(ONoRoom:ExcC Ξ mg "NoRoom" CENoRoom)(DIsSmall:Def P w Ξ mg base "is_small" 3 ["laying","n"] (spP Ze))(DWordOf:Def P w Ξ mg base "word_of" 3 ["laying","worth"] (spP zO))(DIsGreat:Def P w Ξ mg base "is_great" 2 ["laying","n"] (spP Zf))(DRowsOf:Def P w Ξ mg base "rows_of" 2 ["laying","n"] (spP gRows))(MStoreMakeRoom:MDefX P w Ξ mg base C "make_room" 8 ["self","size"] (spX mg (KW C)))(MStoreLay:MDef P w Ξ mg base C "lay" 4 ["self","r","kind","thing"] (spU (gLayS C))):FnOk P w Ξ mg base (CXe P w) 9 f fd ["self","r","n"] (spX mg (gNumS C)):=by
 refine F.zX scStoreNumber (λus M Qu Xu h=>?_) (λcdv A outer s H E hr=>?_)
 ·obtain⟨_,_,_,_,_,_,rfl,_⟩:=h
  rfl
 refine⟨_,(qZ (ZN (v6 (zc (qk DIsSmall (WR hr) (qa_c (qG (qv 0) rfl) (qa_c (qv 2) qd))))
   (qf (v5 (qk DWordOf (WR hr) (qa_c (qG (qv 0) rfl) (qa_c (qv 2) qd))) (zd (qG (qv 0) rfl) (qv 1) qX))
   (qi qs_retN))
   va))
  (qZ (Yr (zc (qk DIsGreat (WR hr) (qa_c (qG (qv 0) rfl) (qa_c (qv 2) qd))))
   (qY (VU rfl rfl ONoRoom (qa_c qK qd)))
   j4)
  (qZ (ZN (qB (i:=3) scStoreNumber.nd rfl W6 (qk DRowsOf (WR hr) (qa_c (qG (qv 0) rfl) (qa_c (qv 2) qd)))))
  (qZ (vM (vf (qv 0) TStore MStoreMakeRoom (WR hr) (qa_c (vb vZ (by rfl) N.len Vc (qa_c (qv 3) qd)) qd)))
  (qY (ZN (vg (qQ MStoreLay TStore (qv 0) (WR hr) (qa_c (qv 1) (qa_c qK (qa_c (qv 3) qd))))))))))),_,(qh (vX (ct_b (ql (qa (qH (qb 0)) (qa (qb 2) qc))))
   (qh (qx (ql (qa (qH (qb 0)) (qa (qb 2) qc))) (Q1 (qH (qb 0)) (qb 1)))
   cs_retN)
   qR)
   (qh (vX (ct_b (ql (qa (qH (qb 0)) (qa (qb 2) qc))))
   (Zm (qa W1 qc))
   qR)
   (qh (qx (ql (qa (qH (qb 0)) (qa (qb 2) qc))) (qm 3))
   (qh (vo (vh (qb 0) (qa (Q3 (qa (qb 3) qc)) qc)))
   (vi (qC (qb 0) (qa (qb 1) (qa W1 (qa (qb 3) qc))))))))),λus M Qu Xu h=>?_⟩
 obtain⟨s,h,kp,A,r,n,rfl,S,hr,hn,q1,q2⟩:=h;have hb:=S.O.R.b;unfold Mc.num at q1 q2;walk_at "pk";refine zY TP S ?_;walk_at "pk";obtain⟨m,hm⟩:=S.O.R.kind (kind := "small") (by decide);have hmw:=S.O.R.w m hm.mem;have hnd:=zC m.1;have hn5:=S.O.R.n;have esm:A.sm=A.bits-m.2.1:=by unfold Mc.sm; rw[hm.mk]
 refine⟨A.bits,A.ms,n,m,rfl,by lia,hm,by lia,by lia, ?_⟩;rw[<-esm];cases hs:zq A.sm n with
 |true =>
  rw[if_pos hs] at q1 q2;walk_at "pk";refine zY TP S ?_;walk_at "pk";have hx:InW A.bits A.ms ("small", n):=by
   have h1:=of_decide_eq_true hs;rw[esm] at h1;refine⟨?_, .inl rfl⟩;show Vld _ _ _ (vq A.ms "small");rw[hm.mk];exact⟨hm,λ_=>h1,λz=>absurd rfl z,λz=>absurd z (by dsimp only; decide),λz=>absurd z (by dsimp only; decide)⟩
  have e:=@Wc n;rw[<-e];refine Qc S.O.R hx.v ?_;walk_at "pk";refine vH TP S ?_;walk_at "pk";exact Vg (x:=.w ("small", n)) S hr hx (q1 rfl)
 |false =>
  rw[if_neg (by rw[hs]; decide)] at q1 q2;walk_at "pk";refine zY TP S ?_;walk_at "pk";refine⟨A.bits,A.ms,n,rfl,by lia,by lia, ?_⟩;walk_at "pk";refine ite2 (λhg=>?_) (λhg=>?_)
  ·rw[if_pos hg] at q1 q2
   walk_at "pk";exact⟨by rw[sizeLine_eq]; decide,_,_,_,rfl,rfl,Go.here S (q2 rfl)⟩
  rw[if_neg hg] at q1 q2;walk_at "pk";refine zY TP S ?_;walk_at "pk";refine⟨A.bits,A.ms,n,rfl,by lia,by lia,hn, ?_⟩;walk_at "pk";refine mS S (by rfl) ?_;walk_at "pk";rw[Uh,xD];obtain⟨e1,e2,e3⟩:=Mc.mk_keep (A:=A) (n:=lcnt A.bits n+1);have em:(A.mk' (lcnt A.bits n+1)).most=A.most:=by unfold Mc.most; rw[e1,e2,e3]
  have hl:=xx (bits:=A.bits) (by lia) (Mc.small_ne hs);refine⟨s,h,kp,A,lcnt A.bits n+1,rfl,S,λhle M' h' kp' f a b S'=>?_,λhlt M' h' kp' f a b S'=>?_⟩
  ·rw[if_pos hle] at q1
   refine mS S' (by rfl) ?_;refine⟨s,h',kp',A.mk' _,r, .far n,by show _=[_,_,_,U.p (vn (jf _ n))]; rw[e1]; rfl,S',hr, ?_, ?_, ?_,(q1 rfl).step f a b S.lt⟩
   ·refine⟨?_, ?_⟩
    ·unfold Mc.sm at hs ⊢
     rw[e1,e2];exact hs
    ·rw[e1]
     exact Int.not_le.mp hg
   ·show 2<=lcnt _ n+1
    rw[e1];lia
   ·rw[em]
    show _+((lcnt _ n+1:Nat):Int)<=_;rw[e1];exact hle
  ·rw[if_neg (Int.not_le.mpr hlt)] at q2
   exact⟨_,_,_,rfl,rfl,q2 rfl M' h' kp' f a b S'⟩
def kS(k:Str):Str:=if k = "small" \/ k = "far" then "number" else k
namespace Mc
def rd(A:Mc):Rf->T
 |.w x=>tOf x
 |.t i=>match A.th i with
  |.far n=>.int n
  |.pr _ _=>.tup [.str "pair", .int (A.pl i)]
def tl(A:Mc):Rf->T
 |.w x=>tOf x
 |.t i=>match A.th i with
  |.far n=>.int n
  |.pr _ _=>.str "pair"
def nv(A:Mc):Rf->Option Int
 |.w x=>if x.1 = "small" then some x.2 else none
 |.t i=>match A.th i with
  |.far n=>some n
  |.pr _ _=>none
def kn(A:Mc)(x:Rf):Str:=kS (A.kl x).1
theorem kn_nv{A:Mc}(h:A.RfOk x):A.kn x = "number" ↔ A.nv x≠none:=by
 cases x with
 |w x =>
  have h:InW A.bits A.ms x:=h;show kS x.1 = "number" ↔ (if x.1 = "small" then some x.2 else none)≠none;rcases h.k with e|e|e<;>rw[e]
  ·exact⟨λ_=>by rw[if_pos rfl]; exact(λz=>nomatch z),λ_=>by decide⟩
  ·exact⟨λz=>absurd z (by decide),λz=>absurd (if_neg (by decide)) z⟩
  ·exact⟨λz=>absurd z (by decide),λz=>absurd (if_neg (by decide)) z⟩
 |t i =>
  show kS (A.th i).kd=_↔(match A.th i with | .far n=>some n | .pr _ _=>none)≠none;cases A.th i with
  |far n=>exact⟨λ_=>(λz=>nomatch z),λ_=>by show kS "far" = "number"; decide⟩
  |pr a b=>exact⟨λz=>absurd z (by show ¬kS "pair" = "number"; decide),λz=>absurd rfl z⟩
theorem tl_nv{A:Mc}(e:A.nv x=some n):A.tl x=.int n:=by
 cases x with
 |w x =>
  have e:(if x.1 = "small" then some x.2 else none)=some n:=e;split at e
  ·rename_i h
   cases e;show tOf x=_;unfold tOf;rw[if_pos h]
  ·cases e
 |t i =>
  have e:(match A.th i with | .far n=>some n | .pr _ _=>none)=some n:=e;show(match A.th i with | .far n=>T.int n | .pr _ _=>T.str "pair")=_;cases et:A.th i with
  |far k=>rw[et] at e; cases e; rfl
  |pr a b=>rw[et] at e; cases e
theorem kn_pair{A:Mc}(h:A.RfOk x):(A.kn x = "pair" -> A.tl x=.str "pair")/\(¬A.kn x = "pair" -> A.tl x=A.rd x):=by
 cases x with
 |w x =>
  have h:InW A.bits A.ms x:=h;refine⟨λz=>?_,λ_=>rfl⟩;have z:kS x.1 = "pair" := z;rcases h.k with e|e|e<;>rw[e] at z<;>exact absurd z (by decide)
 |t i =>
  show(kS (A.th i).kd=_->(match A.th i with | .far n=>T.int n | .pr _ _=>T.str "pair")=_)/\(¬kS (A.th i).kd=_->(match A.th i with | .far n=>T.int n | .pr _ _=>T.str "pair")=(match A.th i with | .far n=>T.int n | .pr _ _=>.tup [.str "pair", .int (A.pl i)]));cases A.th i with
  |far n=>exact⟨λz=>absurd z (by show ¬kS "far" = "pair"; decide),λ_=>rfl⟩
  |pr a b=>exact⟨λ_=>rfl,λz=>absurd (by show kS "pair" = "pair"; decide) z⟩
end Mc
abbrev zm:Stmt:=qr (top 48) 1
theorem ku:FnScope ["self"] ["self"] (qg zm):=⟨rfl,rfl,rfl,by decide +kernel,rfl,by decide +kernel,by decide +kernel⟩
def G8(C:Addr):List U->MM->UK->Prop:=λus M Q=>∃(s h kp:Nat)(A:Mc),us=[.m s]/\StA C M s h kp A/\Q (.p (vn A.ws)) M
def gSOut(C:Addr):List U->MM->UK->Prop:=λus M Q=>∃(s h kp:Nat)(A:Mc),us=[.m s]/\StA C M s h kp A/\Q (.p (vn A.os)) M
theorem xj(e:M[k]?=some (iM l)):sn M (.m k)=some (vn l):=by
 simp only[sn,e];rw[zj];rfl
theorem Gh(F:Fun Ξ "words" "Store.words" zm f fd)(N:Nms mg)(TP:TxStore Ξ C):FnOk P w Ξ mg base CX0 1 f fd ["self"] (spU (G8 C)):=by
 refine F.zU ku (λus M Qu h=>?_) (λcdv A outer s H E hr=>?_)
 ·obtain⟨_,_,_,_,rfl,_⟩:=h
  rfl
 refine⟨_,(qi (qw (vp qP (by rfl) N.list zZ (qa_c (qG (qv 0) rfl) qd)))),_,(qy (Q4 k9 (qa (qH (qb 0)) qc))),λus M Qu h=>?_⟩;obtain⟨s,h,kp,A,rfl,S,q⟩:=h;symm;refine vH TP S ?_;symm;exact⟨_,by rw[sns,xj S.S.h0]; rfl,_,_,rfl,rfl,q⟩
abbrev vQ:Stmt:=qr (top 48) 2
theorem xR:FnScope ["self"] ["self"] (qg vQ):=⟨rfl,rfl,rfl,by decide +kernel,rfl,by decide +kernel,by decide +kernel⟩
theorem ok_sout(F:Fun Ξ "outside" "Store.outside" vQ f fd)(N:Nms mg)(TP:TxStore Ξ C):FnOk P w Ξ mg base CX0 1 f fd ["self"] (spU (gSOut C)):=by
 refine F.zU xR (λus M Qu h=>?_) (λcdv A outer s H E hr=>?_)
 ·obtain⟨_,_,_,_,rfl,_⟩:=h
  rfl
 refine⟨_,(qi (qw (vp qP (by rfl) N.list zZ (qa_c (qG (qv 0) rfl) qd)))),_,(qy (Q4 k9 (qa (qH (qb 0)) qc))),λus M Qu h=>?_⟩;obtain⟨s,h,kp,A,rfl,S,q⟩:=h;symm;refine zN TP S ?_;symm;exact⟨_,by rw[sns,xj S.S.k0]; rfl,_,_,rfl,rfl,q⟩
theorem StA.ok{q:Nat}(S:StA C M s h kp A)(e:A.rg[q]?=some x):A.RfOk x:=S.O.g x (Ui e)
abbrev xn:Stmt:=qr (top 48) 11
theorem VC:FnScope ["self","q"] ["self","q"] (qg xn):=⟨rfl,rfl,rfl,by decide +kernel,rfl,by decide +kernel,by decide +kernel⟩
def gSInW(C:Addr):List U->MM->UK->Prop:=λus M Q=>∃(s h kp:Nat)(A:Mc)(q:Nat)(x:Rf),us=[.m s, .p (.int q)]/\StA C M s h kp A/\A.rg[q]?=some x/\Q (.p (.bl (decide ((A.kl x).1 = "small")))) M
theorem ok_sinw(F:Fun Ξ "in_word" "Store.in_word" xn f fd)(TP:TxStore Ξ C)(DMarkOf:Def P w Ξ mg base "mark_of" 2 ["laying","word"] (spP jo)):FnOk P w Ξ mg base CX0 3 f fd ["self","q"] (spU (gSInW C)):=by
 refine F.zU VC (λus M Qu h=>?_) (λcdv A outer s H E hr=>?_)
 ·obtain⟨_,_,_,_,_,_,rfl,_⟩:=h
  rfl
 refine⟨_,(qi (qw (zz zB (qk DMarkOf (WR hr) (qa_c (qG (qv 0) rfl) (qa_c (qA (Ua Ξ) (qG (qv 0) rfl) (qv 1) (λ_ _=>rfl)) qd))) qK (qI _)))),_,(qy (qo ze (ql (qa (qH (qb 0)) (qa (ve (qH (qb 0)) (qb 1)) qc))) W1)),λus M Qu h=>?_⟩;obtain⟨s,h,kp,A,q',x,rfl,S,hq,q⟩:=h;symm;refine zY TP S ?_;symm;refine vH TP S ?_;symm;refine jD S hq ?_;symm;have hn:=S.O.R.n;refine⟨A.bits,A.ms,_,rfl,S.O.R.wd,by lia, ?_⟩;rw[Mc.mark_wd S.O (S.ok hq)];symm;exact q
def GR:List (Str×V):=[("small", .str "number"),("far", .str "number"),("pair", .str "pair"),("sign", .str "sign"),("one", .str "one")]
def kindsT:List (Str×T):=[("small", .str "number"),("far", .str "number"),("pair", .str "pair"),("sign", .str "sign"),("one", .str "one")]
theorem kinds_sc:Paired (λ(a:Str×V) (b:Str×T)=>a.1=b.1/\Sc a.2 b.2) GR kindsT:=.cons ⟨rfl, .str _⟩ (.cons ⟨rfl, .str _⟩ (.cons ⟨rfl, .str _⟩ (.cons ⟨rfl, .str _⟩ (.cons ⟨rfl, .str _⟩ .nil))))
theorem GS{A:Mc}(h:A.RfOk x):kindsT.lookup (A.kl x).1=some (.str (A.kn x)):=by
 unfold Mc.kn;cases x with
 |w x =>
  have h:InW A.bits A.ms x:=h;show kindsT.lookup x.1=some (.str (kS x.1));rcases h.k with e|e|e<;>rw[e]<;>rfl
 |t i =>
  show kindsT.lookup (A.th i).kd=some (.str (kS (A.th i).kd));cases A.th i<;>rfl
abbrev jR:Stmt:=qr (top 48) 26
theorem X8:FnScope ["self","q"] ["self","q"] (qg jR):=⟨rfl,rfl,rfl,by decide +kernel,rfl,by decide +kernel,by decide +kernel⟩
def KU(C:Addr):List U->MM->UK->Prop:=λus M Q=>∃(s h kp:Nat)(A:Mc)(q:Nat)(x:Rf),us=[.m s, .p (.int q)]/\StA C M s h kp A/\A.rg[q]?=some x/\Q (.p (.str (A.kn x))) M
theorem ok_skind(F:Fun Ξ "kind" "Store.kind" jR f fd)(N:Nms mg)(TP:TxStore Ξ C)(DKinds:KDi Ξ w mg "KINDS_BY_MARK" kd GR)(DMarkOf:Def P w Ξ mg base "mark_of" 2 ["laying","word"] (spP jo)):FnOk P w Ξ mg base CX0 3 f fd ["self","q"] (spU (KU C)):=by
 refine F.zU X8 (λus M Qu h=>?_) (λcdv A outer s H E hr=>?_)
 ·obtain⟨_,_,_,_,_,_,rfl,_⟩:=h
  rfl
 refine⟨_,(qi (qw (qe_kd DKinds rfl (qk DMarkOf (WR hr) (qa_c (qG (qv 0) rfl) (qa_c (qA (Ua Ξ) (qG (qv 0) rfl) (qv 1) (λ_ _=>rfl)) qd))) (λ_ _=>rfl)))),_,(qy (ce_kd kinds_sc (ql (qa (qH (qb 0)) (qa (ve (qH (qb 0)) (qb 1)) qc))))),λus M Qu h=>?_⟩;obtain⟨s,h,kp,A,q',x,rfl,S,hq,q⟩:=h;symm;unfold uKD;symm;refine zY TP S ?_;symm;refine vH TP S ?_;symm;refine jD S hq ?_;symm;have hn:=S.O.R.n;refine⟨A.bits,A.ms,_,rfl,S.O.R.wd,by lia, ?_⟩;rw[Mc.mark_wd S.O (S.ok hq)];symm;exact⟨_,_,rfl,GS (S.ok hq),q⟩
abbrev jV:Stmt:=top 37
theorem scReadWorth:FnScope ["laying","outside","word","worth"] ["laying","outside","word"] (qg jV):=⟨rfl,rfl,rfl,by decide +kernel,rfl,by decide +kernel,by decide +kernel⟩
def gReadW:List U->MM->UK->Prop:=λus M Q=>∃(kp:Nat)(A:Mc)(x:Rf),us=[.p (layT A.bits A.ms), .m kp, .p (.int (A.wd x))]/\A.Ok/\M[kp]?=some (iM A.os)/\A.RfOk x/\Q (.p (A.rd x)) M
theorem ok_readW(F:Fun Ξ "read_worth" "read_worth" jV f fd)(N:Nms mg)(DWorthOf:Def P w Ξ mg base "worth_of" 3 ["laying","word"] (spP KM))(DMarkOf:Def P w Ξ mg base "mark_of" 2 ["laying","word"] (spP jo))(DNumberAt:Def P w Ξ mg base "number_at" 2 ["laying","outside","address"] (spP gNumG)):FnOk P w Ξ mg base CX0 4 f fd ["laying","outside","word"] (spU gReadW):=by
 refine F.zU scReadWorth (λus M Qu h=>?_) (λcdv A outer s H E hr=>?_)
 ·obtain⟨_,_,_,rfl,_⟩:=h
  rfl
 refine⟨_,(qf (qB (i:=3) scReadWorth.nd rfl W6 (qk DWorthOf (WR hr) (qa_c (qv 0) (qa_c (qv 2) qd))))
  (qf (v6 (qF zB (qk DMarkOf (WR hr) (qa_c (qv 0) (qa_c (qv 2) qd))) qK (qI _))
   (qi (qw (qk DNumberAt (WR hr) (qa_c (qv 0) (qa_c (qv 1) (qa_c (qA (Ub Ξ) (qv 3) qe (λ_ _=>rfl)) qd))))))
   va)
  (qi (qw (qv 3))))),_,(qh (qx (ql (qa (qb 0) (qa (qb 2) qc))) (qm 3))
   (qh (vX (qL (qo ze (ql (qa (qb 0) (qa (qb 2) qc))) W1))
   (qy (Yd (qa (qb 0) (qa (qb 1) (qa (qW (qb 3) WS) qc)))))
   qR)
   (qy (qb 3)))),λus M Qu h=>?_⟩
 obtain⟨kp,A,x,rfl,O,hk,hx,q⟩:=h;symm;have v:=Mc.vld O hx;have hth:=v.there O.R;refine⟨A.bits,A.ms,_,rfl,O.R,hth.1, ?_⟩;rw[show Zr A.bits A.ms (A.wd x)=tOf (A.kl x) from hth.2.2];symm;have hn:=O.R.n;refine⟨A.bits,A.ms,_,rfl,O.R.wd,by lia, ?_⟩;rw[Mc.mark_wd O hx];symm;refine ite2 (λz=>?_) (λz=>?_)
 ·cases x with
  |w x =>
   have hx:InW A.bits A.ms x:=hx;have z:x.1 = "far" := z;rcases hx.k with e|e|e<;>rw[e] at z<;>exact absurd z (by decide)
  |t i =>
   have z:(A.th i).kd = "far" := z;have ht:=O.t i hx;obtain⟨l,r,_,_,eo,ep⟩:=Mc.at_ O hx;cases et:A.th i with
   |pr a b=>rw[et] at z; exact absurd z (by simp only[Th.kd]; decide)
   |far n =>
    rw[et] at ht;have hb:=O.R.b;have h4:=Mc.head_4 (bits:=A.bits) (by lia) (Mc.small_ne ht.1);have hd:=Mc.hd_at O hx;have hl:=Mc.pl_lt O hx;have hz:=Mc.os_le O;rw[show A.hd i=zf A.bits n by unfold Mc.hd; rw[et]] at hd;rw[show A.sz i=lcnt A.bits n+1 by unfold Mc.sz; rw[et]; rfl] at hl;have en:numI A.bits.toNat A.os (A.pl i) (zf A.bits n)=n:=by
     rw[eo,ep,show A.tw i=jf A.bits n by unfold Mc.tw; rw[et]];exact Mc.num_at (by lia) (Mc.small_ne ht.1)
    rw[show A.rd (.t i)=.int n by unfold Mc.rd; simp only[et]] at q;show _;rw[show A.kl (.t i)=((A.th i).kd,(A.pl i:Int)) from rfl,We];simp only[Kj];symm;exact⟨[layT A.bits A.ms,vn A.os, .int (A.pl i)],by simp only[frzs,kz,jp hk],A.bits,A.ms,A.os,A.pl i,zf A.bits n,rfl,hd,h4.1,by rw[h4.2.2.2.2]; lia,by lia,by lia,by lia,Mc.os_ok O,by rw[en]; exact⟨⟨_,rfl⟩,q⟩⟩
 ·symm
  have e:A.rd x=tOf (A.kl x):=by
   cases x with
   |w x=>rfl
   |t i =>
    have z:¬(A.th i).kd = "far" := z;show(match A.th i with | .far n=>T.int n | .pr _ _=>.tup [.str "pair", .int (A.pl i)])=tOf ((A.th i).kd,(A.pl i:Int));rw[We];cases et:A.th i with
    |far n=>rw[et] at z; exact absurd rfl z
    |pr a b=>rfl
  rw[<-e];exact q
abbrev jK:Stmt:=qr (top 48) 27
theorem X1:FnScope ["self","q"] ["self","q"] (qg jK):=⟨rfl,rfl,rfl,by decide +kernel,rfl,by decide +kernel,by decide +kernel⟩
def ky(C:Addr):List U->MM->UK->Prop:=λus M Q=>∃(s h kp:Nat)(A:Mc)(q:Nat)(x:Rf),us=[.m s, .p (.int q)]/\StA C M s h kp A/\A.rg[q]?=some x/\Q (.p (A.tl x)) M
theorem ok_stold(F:Fun Ξ "told" "Store.told" jK f fd)(N:Nms mg)(TP:TxStore Ξ C)(TStore:Cls Ξ C)(MStoreKind:MDef P w Ξ mg base C "kind" 3 ["self","q"] (spU (KU C)))(DReadWorth:Def P w Ξ mg base "read_worth" 4 ["laying","outside","word"] (spU gReadW)):FnOk P w Ξ mg base CX0 5 f fd ["self","q"] (spU (ky C)):=by
 refine F.zU X1 (λus M Qu h=>?_) (λcdv A outer s H E hr=>?_)
 ·obtain⟨_,_,_,_,_,_,rfl,_⟩:=h
  rfl
 refine⟨_,(qf (v6 (qF zB (qQ MStoreKind TStore (qv 0) (WR hr) (qa_c (qv 1) qd)) qK (qI _))
   (qi (qw qK))
   va)
  (qi (qw (qk DReadWorth (WR hr) (qa_c (qG (qv 0) rfl) (qa_c (qG (qv 0) rfl) (qa_c (qA (Ua Ξ) (qG (qv 0) rfl) (qv 1) (λ_ _=>rfl)) qd))))))),_,(qh (vX (qL (qo ze (qC (qb 0) (qa (qb 1) qc)) W1))
   (qy W1)
   qR)
   (qy (qt (qa (qH (qb 0)) (qa (qH (qb 0)) (qa (ve (qH (qb 0)) (qb 1)) qc)))))),λus M Qu h=>?_⟩
 obtain⟨s,h,kp,A,q',x,rfl,S,hq,q⟩:=h;have hp:=Mc.kn_pair (S.ok hq);symm;refine mS S (by rfl) ?_;symm;refine⟨s,h,kp,A,q',x,rfl,S,hq, ?_⟩;symm;refine ite2 (λz=>?_) (λz=>?_)
 ·symm
  rw[hp.1 z] at q;exact q
 symm;refine zY TP S ?_;symm;refine zN TP S ?_;symm;refine vH TP S ?_;symm;refine jD S hq ?_;symm;exact⟨kp,A,x,rfl,S.O,S.S.k0,S.ok hq,by rw[<-hp.2 z]; exact q⟩
theorem sm1:Qi 1:=by unfold Qi; decide
theorem sm2:Qi 2:=by unfold Qi; decide
abbrev xq:Stmt:=top 20
theorem VE:FnScope ["store","q","p"] ["store","q","p"] (qg xq):=⟨rfl,rfl,rfl,by decide +kernel,rfl,by decide +kernel,by decide +kernel⟩
def Xs(C:Addr):List U->MM->UK->UX->Prop:=λus M Q X=>∃(s h kp:Nat)(A:Mc)(q p:Nat)(x y:Rf),us=[.m s, .p (.int q), .p (.int p)]/\StA C M s h kp A/\A.rg[q]?=some x/\A.rg[p]?=some y/\(∀a b,A.nv x=some a->A.nv y=some b->Q (.p .non) M)/\(A.nv x=none->X "WrongKind" (some 1) M)/\(∀a,A.nv x=some a->A.nv y=none->X "WrongKind" (some 2) M)
theorem ok_needN(F:Fun Ξ "need_numbers" "need_numbers" xq f fd)(TStore:Cls Ξ C)(DWk:ExcD P w Ξ mg base "WrongKind" CW 1)(MStoreKind:MDef P w Ξ mg base C "kind" 3 ["self","q"] (spU (KU C))):FnOk P w Ξ mg base (CXe P w) 4 f fd ["store","q","p"] (spX mg (Xs C)):=by
 refine F.zX VE (λus M Qu Xu h=>?_) (λcdv A outer s H E hr=>?_)
 ·obtain⟨_,_,_,_,_,_,_,_,rfl,_⟩:=h
  rfl
 refine⟨_,(qZ (Yr (qF op_ne (qQ MStoreKind TStore (qv 0) (WR hr) (qa_c (qv 1) qd)) qK (qI _))
   (qY (Qv rfl rfl DWk (WR hr) (qa_c qe qd)))
   j4)
  (qY (Yr (qF op_ne (qQ MStoreKind TStore (qv 0) (WR hr) (qa_c (qv 2) qd)) qK (qI _))
   (qY (Qv rfl rfl DWk (WR hr) (qa_c qe qd)))
   j4))),_,(qh (vX (qL (qo Gb (qC (qb 0) (qa (qb 1) qc)) W1))
   (QY (qa WS qc))
   qR)
   (vX (qL (qo Gb (qC (qb 0) (qa (qb 2) qc)) W1))
   (QY (qa WS qc))
   qR)),λus M Qu Xu h=>?_⟩
 obtain⟨s,h,kp,A,q,p,x,y,rfl,S,hq,hp,k1,k2,k3⟩:=h;have ix:=Mc.kn_nv (S.ok hq);have iy:=Mc.kn_nv (S.ok hp);walk_at "pk";refine mS S (by rfl) ?_;walk_at "pk";refine⟨s,h,kp,A,q,x,rfl,S,hq, ?_⟩;walk_at "pk";cases ex:A.nv x with
 |none =>
  refine vV (by rw[decide_eq_false (λz=>ix.mp z ex)]; rfl) ?_;exact⟨1,rfl,sm1,_,_,_,rfl,rfl,k2 ex⟩
 |some a =>
  rw[ix.mpr (by rw[ex]; exact λz=>nomatch z)];walk_at "pk";refine mS S (by rfl) ?_;walk_at "pk";refine⟨s,h,kp,A,p,y,rfl,S,hp, ?_⟩;walk_at "pk";cases ey:A.nv y with
  |none =>
   refine vV (by rw[decide_eq_false (λz=>iy.mp z ey)]; rfl) ?_;exact⟨2,rfl,sm2,_,_,_,rfl,rfl,k3 a ex ey⟩
  |some b =>
   rw[iy.mpr (by rw[ey]; exact λz=>nomatch z)];walk_at "pk";exact k1 a b ex ey
abbrev xr:Stmt:=top 21
theorem VF:FnScope ["store","q","p"] ["store","q","p"] (qg xr):=⟨rfl,rfl,rfl,by decide +kernel,rfl,by decide +kernel,by decide +kernel⟩
def qab(C:Addr):List U->MM->UK->UX->Prop:=λus M Q X=>∃(s h kp:Nat)(A:Mc)(q p:Nat)(x y:Rf),us=[.m s, .p (.int q), .p (.int p)]/\StA C M s h kp A/\A.rg[q]?=some x/\A.rg[p]?=some y/\(∀a b,A.nv x=some a->A.nv y=some b->b≠0->Q (.p .non) M)/\(A.nv x=none->X "WrongKind" (some 1) M)/\(∀a,A.nv x=some a->A.nv y=none->X "WrongKind" (some 2) M)/\(∀a,A.nv x=some a->A.nv y=some 0->X "Nought" none M)
theorem ok_needD(F:Fun Ξ "need_divisor" "need_divisor" xr f fd)(TStore:Cls Ξ C)(ONought:ExcC Ξ mg "Nought" CENought)(DNeedNumbers:DefX P w Ξ mg base "need_numbers" 4 ["store","q","p"] (spX mg (Xs C)))(MStoreTold:MDef P w Ξ mg base C "told" 5 ["self","q"] (spU (ky C))):FnOk P w Ξ mg base (CXe P w) 6 f fd ["store","q","p"] (spX mg (qab C)):=by
 refine F.zX VF (λus M Qu Xu h=>?_) (λcdv A outer s H E hr=>?_)
 ·obtain⟨_,_,_,_,_,_,_,_,rfl,_⟩:=h
  rfl
 refine⟨_,(qZ (vM (jg DNeedNumbers (WR hr) (qa_c (qv 0) (qa_c (qv 1) (qa_c (qv 2) qd)))))
  (qY (Yr (qF zB (qQ MStoreTold TStore (qv 0) (WR hr) (qa_c (qv 2) qd)) qe (qI _))
   (qY (VU rfl rfl ONought (qa_c qK qd)))
   j4))),_,(qh (vo (js (qa (qb 0) (qa (qb 1) (qa (qb 2) qc)))))
   (vX (qL (qo ze (qC (qb 0) (qa (qb 2) qc)) WS))
   (Zm (qa W1 qc))
   qR)),λus M Qu Xu h=>?_⟩
 obtain⟨s,h,kp,A,q,p,x,y,rfl,S,hq,hp,k1,k2,k3,k4⟩:=h;walk_at "pk";refine⟨s,h,kp,A,q,p,x,y,rfl,S,hq,hp,λa b ea eb=>?_,λe=>⟨_,_,_,rfl,rfl,k2 e⟩,λa ea e=>⟨_,_,_,rfl,rfl,k3 a ea e⟩⟩;walk_at "pk";refine mS S (by rfl) ?_;walk_at "pk";refine⟨s,h,kp,A,p,y,rfl,S,hp, ?_⟩;rw[Mc.tl_nv eb];walk_at "pk";refine ite2 (λz=>?_) (λz=>?_)
 ·subst z
  walk_at "pk";exact⟨by rw[sizeLine_eq]; decide,_,_,_,rfl,rfl,k4 a ea eb⟩
 ·walk_at "pk"
  exact k1 a b ea eb z
theorem useq_cut(I:UEnv->MM->Prop)(h1:∀nx:UEnv->MM->Prop,(∀ρ' M',I ρ' M'->nx ρ' M')->a { E with nx:=nx } ρ M)(h2:∀ρ' M',I ρ' M'->b E ρ' M'):uSeq a b E ρ M:=h1 _ h2
def Rf.isW:Rf->Bool
 |.w x=>decide (x.1 = "small")
 |.t _=>false
namespace Mc
theorem kl_isW{A:Mc}:decide ((A.kl x).1 = "small")=x.isW:=by
 cases x with
 |w x=>rfl
 |t i =>
  show decide ((A.th i).kd = "small")=false;cases A.th i with
  |far n=>show decide (("far" : Str) = "small")=false; decide
  |pr a b=>show decide (("pair" : Str) = "small")=false; decide
def cnt(A:Mc)(b:Bool):Mc:=if b=true then { A with qu:=A.qu+1 } else { A with sl:=A.sl+1 }
noncomputable def two(A:Mc)(r:Nat)(x y:Rf)(n:Int):Mc×Bool:=if(A.num r n).2=true then((A.num r n).1.cnt (x.isW&&y.isW&&zq A.sm n),true) else A.num r n
theorem num_at_r{A:Mc}(O:A.Ok)(hr:r<8)(h:(A.num r n).2=true):∃x,(A.num r n).1.rg[r]?=some x/\x.isW=zq A.sm n:=by
 have hl:∀k,(A.mk' k).rg.length=8:=λk=>by unfold mk'; split<;>exact O.l8
 unfold num at h ⊢;split at h
 ·rename_i hs
  rw[if_pos hs,hs];exact⟨_,Ur (by rw[O.l8]; exact hr),by show decide (("small" : Str) = "small")=true; decide⟩
 rename_i hs;split at h
 ·cases h
 rename_i hg;split at h
 ·rename_i hf
  rw[if_neg hs,if_neg hg,if_pos hf,Bool.eq_false_iff.mpr hs];exact⟨_,Ur (by rw[hl]; exact hr),rfl⟩
 ·cases h
end Mc
theorem StA.cnt(S:StA C M s h kp A)(e:fs=fldC A.bits A.ms A.room h kp (A.cnt b).qu (A.cnt b).sl A.sw):StA C (M.set s (.ins C fs)) s h kp (A.cnt b):=by
 subst e;have hk:(A.cnt b).Ok/\(A.cnt b).bits=A.bits/\(A.cnt b).ms=A.ms/\(A.cnt b).room=A.room/\(A.cnt b).sw=A.sw/\(A.cnt b).ws=A.ws/\(A.cnt b).os=A.os:=by
  have O:=S.O;unfold Mc.cnt;split<;>exact⟨⟨O.R,O.l8,O.g,O.d,O.b,O.t,O.f,O.m⟩,rfl,rfl,rfl,rfl,rfl,rfl⟩
 obtain⟨O,e1,e2,e3,e4,e5,e6⟩:=hk;refine⟨O, ?_, ?_, ?_,S.S.sh,S.S.sk,S.S.hk⟩
 ·rw[e1,e2,e3,e4]
  exact Ur S.lt
 ·rw[e5,Ul S.S.sh]; exact S.S.h0
 ·rw[e6,Ul S.S.sk]; exact S.S.k0
abbrev zo:Stmt:=qr (top 48) 12
theorem scStoreComeOfTwo:FnScope ["self","r","q","p","n","in_words"] ["self","r","q","p","n"] (qg zo):=⟨rfl,rfl,rfl,by decide +kernel,rfl,by decide +kernel,by decide +kernel⟩
def YK(C:Addr):List U->MM->UK->UX->Prop:=λus M Q X=>∃(s h kp:Nat)(A:Mc)(r q p:Nat)(x y:Rf)(n:Int),us=[.m s, .p (.int r), .p (.int q), .p (.int p), .p (.int n)]/\StA C M s h kp A/\r<8/\A.rg[q]?=some x/\A.rg[p]?=some y/\Bt 20000 n/\((A.two r x y n).2=true->Go C M s h kp (A.two r x y n).1 (Q (.p .non)))/\((A.two r x y n).2=false->Go C M s h kp (A.two r x y n).1 (X "NoRoom" none))
theorem ok_stwo(F:Fun Ξ "come_of_two" "Store.come_of_two" zo f fd)(TP:TxStore Ξ C)(TStore:Cls Ξ C)(MStoreInWord:MDef P w Ξ mg base C "in_word" 3 ["self","q"] (spU (gSInW C)))(MStoreNumber:MDefX P w Ξ mg base C "number" 9 ["self","r","n"] (spX mg (gNumS C))):FnOk P w Ξ mg base (CXe P w) 10 f fd ["self","r","q","p","n"] (spX mg (YK C)):=by
 refine F.zX scStoreComeOfTwo (λus M Qu Xu h=>?_) (λcdv A outer s H E hr=>?_)
 ·obtain⟨_,_,_,_,_,_,_,_,_,_,rfl,_⟩:=h
  rfl
 refine⟨_,(qZ (ZN (qB (i:=5) scStoreComeOfTwo.nd rfl W6 (Kw (qQ MStoreInWord TStore (qv 0) (WR hr) (qa_c (qv 2) qd)) (WM (qQ MStoreInWord TStore (qv 0) (WR hr) (qa_c (qv 3) qd))))))
  (qZ (vM (vf (qv 0) TStore MStoreNumber (WR hr) (qa_c (qv 1) (qa_c (qv 4) qd))))
  (qY (ZN (v6 (Q9 (ZR (zc (qv 5)) (Qx (zc (qQ MStoreInWord TStore (qv 0) (WR hr) (qa_c (qv 1) qd))))))
   (qi (QC (qv 0) qe))
   (qi (QC (qv 0) qe))))))),_,(qh (qx (Zp (qC (qb 0) (qa (qb 2) qc)) (qC (qb 0) (qa (qb 3) qc))) (qm 5))
   (qh (vo (vh (qb 0) (qa (qb 1) (qa (qb 4) qc))))
   (vX (qaA (ct_b (qb 5)) (ct_b (qC (qb 0) (qa (qb 1) qc))))
   (QZ (qb 0) WS)
   (QZ (qb 0) WS)))),λus M Qu Xu h=>?_⟩
 obtain⟨s,h,kp,A,r,q,p,x,y,n,rfl,S,hr,hq,hp,hn,q1,q2⟩:=h;unfold Mc.two at q1 q2;refine useq_cut (λρ' M'=>ρ'=[some (.m s),some (.p (.int r)),some (.p (.int q)),some (.p (.int p)),some (.p (.int n)),some (.p (.bl (x.isW&&y.isW)))]/\M'=M) (λnx hnx=>?_) (λρ' M' hI=>?_)
 ·symm
  refine mS S (by rfl) ?_;symm;refine⟨s,h,kp,A,q,x,rfl,S,hq, ?_⟩;rw[Mc.kl_isW];cases ex:x.isW with
  |false =>
   symm;exact hnx _ _ ⟨by rw[ex]; rfl,rfl⟩
  |true =>
   symm;refine mS S (by rfl) ?_;symm;refine⟨s,h,kp,A,p,y,rfl,S,hp, ?_⟩;rw[Mc.kl_isW];symm;exact hnx _ _ ⟨by rw[ex]; rfl,rfl⟩
 obtain⟨rfl,rfl⟩:=hI;walk_at "pk";refine mS S (by rfl) ?_;walk_at "pk";refine⟨s,h,kp,A,r,n,rfl,S,hr,hn,λe M' h' kp' f a b S'=>?_,λe M' h' kp' f a b S'=>?_⟩
 ·rw[if_pos e] at q1
  obtain⟨z,hz,ez⟩:=Mc.num_at_r S.O hr e;generalize(A.num r n).1=B at S' q1 hz;have fin:∀(b:Bool)(fs:List (Str×U)),b=(x.isW&&y.isW&&zq A.sm n)->fs=fldC B.bits B.ms B.room h' kp' (B.cnt b).qu (B.cnt b).sl B.sw->Qu (.p .non) (M'.set s (.ins C fs)):=λc fs hc hf=>by
   subst hc;exact q1 rfl _ h' kp' (f.trans (ki (F:=[s]) (by simp)) λi hi=>.inl (by simp at hi; simp[hi])) a b (S'.cnt hf)
  cases exy:(x.isW&&y.isW) with
  |false =>
   rw[exy] at fin;walk_at "pk";simp only[Qe];walk_at "pk";exact⟨s,C,_,B.sl,rfl,S'.S.s0,TP.c,TP.n6,by rfl,1,_,rfl,S'.S.s0,by show 7<1000; decide,fin _ _ rfl rfl⟩
  |true =>
   rw[exy] at fin;walk_at "pk";refine mS S' (by rfl) ?_;walk_at "pk";refine⟨s,h',kp',B,r,z,rfl,S',hz, ?_⟩;rw[Mc.kl_isW,ez];cases esm:zq A.sm n with
   |false =>
    rw[esm] at fin;walk_at "pk";simp only[Qe];walk_at "pk";exact⟨s,C,_,B.sl,rfl,S'.S.s0,TP.c,TP.n6,by rfl,1,_,rfl,S'.S.s0,by show 7<1000; decide,fin _ _ rfl rfl⟩
   |true =>
    rw[esm] at fin;walk_at "pk";simp only[Qe];walk_at "pk";exact⟨s,C,_,B.qu,rfl,S'.S.s0,TP.c,TP.n5,by rfl,1,_,rfl,S'.S.s0,by show 7<1000; decide,fin _ _ rfl rfl⟩
 ·rw[if_neg (by rw[e]; decide)] at q2
  exact⟨_,_,_,rfl,rfl,q2 e M' h' kp' f a b S'⟩
def Vb(C:Addr)(nt:Bool)(ok:Int->Int->Prop)(op:Int->Int->Int):List U->MM->UK->UX->Prop:=λus M Q X=>∃(s h kp:Nat)(A:Mc)(r q p:Nat)(x y:Rf),us=[.m s, .p (.int r), .p (.int q), .p (.int p)]/\StA C M s h kp A/\r<8/\A.rg[q]?=some x/\A.rg[p]?=some y/\(∀a b,A.nv x=some a->A.nv y=some b->(nt=true->b≠0)->ok a b/\Bt 20000 (op a b)/\((A.two r x y (op a b)).2=true->Go C M s h kp (A.two r x y (op a b)).1 (Q (.p .non)))/\((A.two r x y (op a b)).2=false->Go C M s h kp (A.two r x y (op a b)).1 (X "NoRoom" none)))/\(A.nv x=none->X "WrongKind" (some 1) M)/\(∀a,A.nv x=some a->A.nv y=none->X "WrongKind" (some 2) M)/\(nt=true->∀a,A.nv x=some a->A.nv y=some 0->X "Nought" none M)
theorem op_fdivP:OpR X (binaryOp .FloorDiv) (rI (λi j=>j≠0/\Builtin.divisionGoesByPylong i j=false) λi j=>.int (i.fdiv j)):=opI λ_ _ _ _ _ _ _ hc q=>floordiv_int hc.1 q (.inl hc.2)
theorem op_mulM:OpR X (binaryOp .Mult) (rI IntMulOk λi j=>.int (i*j)):=opI λ_ _ _ _ _ _ _ hc q=>mul_int q hc
abbrev jN:Stmt:=qr (top 48) 13
theorem X4:FnScope ["self","r","q","p"] ["self","r","q","p"] (qg jN):=⟨rfl,rfl,rfl,by decide +kernel,rfl,by decide +kernel,by decide +kernel⟩
theorem ok_splus(F:Fun Ξ "plus" "Store.plus" jN f fd)(TStore:Cls Ξ C)(DNeedNumbers:DefX P w Ξ mg base "need_numbers" 4 ["store","q","p"] (spX mg (Xs C)))(MStoreTold:MDef P w Ξ mg base C "told" 5 ["self","q"] (spU (ky C)))(MStoreComeOfTwo:MDefX P w Ξ mg base C "come_of_two" 10 ["self","r","q","p","n"] (spX mg (YK C))):FnOk P w Ξ mg base (CXe P w) 11 f fd ["self","r","q","p"] (spX mg (Vb C false (λ_ _=>True) (λa b=>a+b))):=by
 refine F.zX X4 (λus M Qu Xu h=>?_) (λcdv A outer s H E hr=>?_)
 ·obtain⟨_,_,_,_,_,_,_,_,_,rfl,_⟩:=h
  rfl
 refine⟨_,(qZ (vM (jg DNeedNumbers (WR hr) (qa_c (qv 0) (qa_c (qv 2) (qa_c (qv 3) qd)))))
  (qY (vM (vf (qv 0) TStore MStoreComeOfTwo (WR hr) (qa_c (qv 1) (qa_c (qv 2) (qa_c (qv 3) (qa_c (qq qO (qQ MStoreTold TStore (qv 0) (WR hr) (qa_c (qv 2) qd)) (qQ MStoreTold TStore (qv 0) (WR hr) (qa_c (qv 3) qd))) qd)))))))),_,(qh (vo (js (qa (qb 0) (qa (qb 2) (qa (qb 3) qc)))))
   (vo (vh (qb 0) (qa (qb 1) (qa (qb 2) (qa (qb 3) (qa (qo (qE λ_ _=>.int _) (qC (qb 0) (qa (qb 2) qc)) (qC (qb 0) (qa (qb 3) qc))) qc))))))),λus M Qu Xu h=>?_⟩
 obtain⟨s,h,kp,A,r,q,p,x,y,rfl,S,hr,hq,hp,k1,k2,k3,k4⟩:=h;walk_at "pk";refine⟨s,h,kp,A,q,p,x,y,rfl,S,hq,hp,λa b ea eb=>?_,λe=>⟨_,_,_,rfl,rfl,k2 e⟩,λa ea e=>⟨_,_,_,rfl,rfl,k3 a ea e⟩⟩;obtain⟨hk,hb3,g1,g2⟩:=k1 a b ea eb λz=>nomatch z;walk_at "pk";refine mS S (by rfl) ?_;walk_at "pk";refine mS S (by rfl) ?_;walk_at "pk";refine⟨s,h,kp,A,q,x,rfl,S,hq, ?_⟩;walk_at "pk";refine mS S (by rfl) ?_;walk_at "pk";refine⟨s,h,kp,A,p,y,rfl,S,hp, ?_⟩;rw[Mc.tl_nv ea,Mc.tl_nv eb];walk_at "pk";exact⟨s,h,kp,A,r,q,p,x,y,_,rfl,S,hr,hq,hp,hb3,g1,λe M' h' kp' f a b S'=>⟨_,_,_,rfl,rfl,g2 e M' h' kp' f a b S'⟩⟩
abbrev jQ:Stmt:=qr (top 48) 14
theorem X7:FnScope ["self","r","q","p"] ["self","r","q","p"] (qg jQ):=⟨rfl,rfl,rfl,by decide +kernel,rfl,by decide +kernel,by decide +kernel⟩
theorem ok_sless(F:Fun Ξ "less" "Store.less" jQ f fd)(TStore:Cls Ξ C)(DNeedNumbers:DefX P w Ξ mg base "need_numbers" 4 ["store","q","p"] (spX mg (Xs C)))(MStoreTold:MDef P w Ξ mg base C "told" 5 ["self","q"] (spU (ky C)))(MStoreComeOfTwo:MDefX P w Ξ mg base C "come_of_two" 10 ["self","r","q","p","n"] (spX mg (YK C))):FnOk P w Ξ mg base (CXe P w) 11 f fd ["self","r","q","p"] (spX mg (Vb C false (λ_ _=>True) (λa b=>a-b))):=by
 refine F.zX X7 (λus M Qu Xu h=>?_) (λcdv A outer s H E hr=>?_)
 ·obtain⟨_,_,_,_,_,_,_,_,_,rfl,_⟩:=h
  rfl
 refine⟨_,(qZ (vM (jg DNeedNumbers (WR hr) (qa_c (qv 0) (qa_c (qv 2) (qa_c (qv 3) qd)))))
  (qY (vM (vf (qv 0) TStore MStoreComeOfTwo (WR hr) (qa_c (qv 1) (qa_c (qv 2) (qa_c (qv 3) (qa_c (qq zt (qQ MStoreTold TStore (qv 0) (WR hr) (qa_c (qv 2) qd)) (qQ MStoreTold TStore (qv 0) (WR hr) (qa_c (qv 3) qd))) qd)))))))),_,(qh (vo (js (qa (qb 0) (qa (qb 2) (qa (qb 3) qc)))))
   (vo (vh (qb 0) (qa (qb 1) (qa (qb 2) (qa (qb 3) (qa (qo (qE λ_ _=>.int _) (qC (qb 0) (qa (qb 2) qc)) (qC (qb 0) (qa (qb 3) qc))) qc))))))),λus M Qu Xu h=>?_⟩
 obtain⟨s,h,kp,A,r,q,p,x,y,rfl,S,hr,hq,hp,k1,k2,k3,k4⟩:=h;walk_at "pk";refine⟨s,h,kp,A,q,p,x,y,rfl,S,hq,hp,λa b ea eb=>?_,λe=>⟨_,_,_,rfl,rfl,k2 e⟩,λa ea e=>⟨_,_,_,rfl,rfl,k3 a ea e⟩⟩;obtain⟨hk,hb3,g1,g2⟩:=k1 a b ea eb λz=>nomatch z;walk_at "pk";refine mS S (by rfl) ?_;walk_at "pk";refine mS S (by rfl) ?_;walk_at "pk";refine⟨s,h,kp,A,q,x,rfl,S,hq, ?_⟩;walk_at "pk";refine mS S (by rfl) ?_;walk_at "pk";refine⟨s,h,kp,A,p,y,rfl,S,hp, ?_⟩;rw[Mc.tl_nv ea,Mc.tl_nv eb];walk_at "pk";exact⟨s,h,kp,A,r,q,p,x,y,_,rfl,S,hr,hq,hp,hb3,g1,λe M' h' kp' f a b S'=>⟨_,_,_,rfl,rfl,g2 e M' h' kp' f a b S'⟩⟩
abbrev xZ:Stmt:=qr (top 48) 15
theorem ZJ:FnScope ["self","r","q","p"] ["self","r","q","p"] (qg xZ):=⟨rfl,rfl,rfl,by decide +kernel,rfl,by decide +kernel,by decide +kernel⟩
theorem Gi(F:Fun Ξ "times" "Store.times" xZ f fd)(TStore:Cls Ξ C)(DNeedNumbers:DefX P w Ξ mg base "need_numbers" 4 ["store","q","p"] (spX mg (Xs C)))(MStoreTold:MDef P w Ξ mg base C "told" 5 ["self","q"] (spU (ky C)))(MStoreComeOfTwo:MDefX P w Ξ mg base C "come_of_two" 10 ["self","r","q","p","n"] (spX mg (YK C))):FnOk P w Ξ mg base (CXe P w) 11 f fd ["self","r","q","p"] (spX mg (Vb C false IntMulOk (λa b=>a*b))):=by
 refine F.zX ZJ (λus M Qu Xu h=>?_) (λcdv A outer s H E hr=>?_)
 ·obtain⟨_,_,_,_,_,_,_,_,_,rfl,_⟩:=h
  rfl
 refine⟨_,(qZ (vM (jg DNeedNumbers (WR hr) (qa_c (qv 0) (qa_c (qv 2) (qa_c (qv 3) qd)))))
  (qY (vM (vf (qv 0) TStore MStoreComeOfTwo (WR hr) (qa_c (qv 1) (qa_c (qv 2) (qa_c (qv 3) (qa_c (qq op_mulM (qQ MStoreTold TStore (qv 0) (WR hr) (qa_c (qv 2) qd)) (qQ MStoreTold TStore (qv 0) (WR hr) (qa_c (qv 3) qd))) qd)))))))),_,(qh (vo (js (qa (qb 0) (qa (qb 2) (qa (qb 3) qc)))))
   (vo (vh (qb 0) (qa (qb 1) (qa (qb 2) (qa (qb 3) (qa (qo (v3 λ_ _=>.int _) (qC (qb 0) (qa (qb 2) qc)) (qC (qb 0) (qa (qb 3) qc))) qc))))))),λus M Qu Xu h=>?_⟩
 obtain⟨s,h,kp,A,r,q,p,x,y,rfl,S,hr,hq,hp,k1,k2,k3,k4⟩:=h;walk_at "pk";refine⟨s,h,kp,A,q,p,x,y,rfl,S,hq,hp,λa b ea eb=>?_,λe=>⟨_,_,_,rfl,rfl,k2 e⟩,λa ea e=>⟨_,_,_,rfl,rfl,k3 a ea e⟩⟩;obtain⟨hk,hb3,g1,g2⟩:=k1 a b ea eb λz=>nomatch z;walk_at "pk";refine mS S (by rfl) ?_;walk_at "pk";refine mS S (by rfl) ?_;walk_at "pk";refine⟨s,h,kp,A,q,x,rfl,S,hq, ?_⟩;walk_at "pk";refine mS S (by rfl) ?_;walk_at "pk";refine⟨s,h,kp,A,p,y,rfl,S,hp, ?_⟩;rw[Mc.tl_nv ea,Mc.tl_nv eb];walk_at "pk";refine⟨hk, ?_⟩;exact⟨s,h,kp,A,r,q,p,x,y,_,rfl,S,hr,hq,hp,hb3,g1,λe M' h' kp' f a b S'=>⟨_,_,_,rfl,rfl,g2 e M' h' kp' f a b S'⟩⟩
abbrev jP:Stmt:=qr (top 48) 16
theorem X6:FnScope ["self","r","q","p"] ["self","r","q","p"] (qg jP):=⟨rfl,rfl,rfl,by decide +kernel,rfl,by decide +kernel,by decide +kernel⟩
theorem ok_sover(F:Fun Ξ "over" "Store.over" jP f fd)(TStore:Cls Ξ C)(DNeedDivisor:DefX P w Ξ mg base "need_divisor" 6 ["store","q","p"] (spX mg (qab C)))(MStoreTold:MDef P w Ξ mg base C "told" 5 ["self","q"] (spU (ky C)))(MStoreComeOfTwo:MDefX P w Ξ mg base C "come_of_two" 10 ["self","r","q","p","n"] (spX mg (YK C))):FnOk P w Ξ mg base (CXe P w) 11 f fd ["self","r","q","p"] (spX mg (Vb C true (λa b=>Builtin.divisionGoesByPylong a b=false) Int.fdiv)):=by
 refine F.zX X6 (λus M Qu Xu h=>?_) (λcdv A outer s H E hr=>?_)
 ·obtain⟨_,_,_,_,_,_,_,_,_,rfl,_⟩:=h
  rfl
 refine⟨_,(qZ (vM (jg DNeedDivisor (WR hr) (qa_c (qv 0) (qa_c (qv 2) (qa_c (qv 3) qd)))))
  (qY (vM (vf (qv 0) TStore MStoreComeOfTwo (WR hr) (qa_c (qv 1) (qa_c (qv 2) (qa_c (qv 3) (qa_c (qq op_fdivP (qQ MStoreTold TStore (qv 0) (WR hr) (qa_c (qv 2) qd)) (qQ MStoreTold TStore (qv 0) (WR hr) (qa_c (qv 3) qd))) qd)))))))),_,(qh (vo (js (qa (qb 0) (qa (qb 2) (qa (qb 3) qc)))))
   (vo (vh (qb 0) (qa (qb 1) (qa (qb 2) (qa (qb 3) (qa (qo (v3 λ_ _=>.int _) (qC (qb 0) (qa (qb 2) qc)) (qC (qb 0) (qa (qb 3) qc))) qc))))))),λus M Qu Xu h=>?_⟩
 obtain⟨s,h,kp,A,r,q,p,x,y,rfl,S,hr,hq,hp,k1,k2,k3,k4⟩:=h;walk_at "pk";refine⟨s,h,kp,A,q,p,x,y,rfl,S,hq,hp,λa b ea eb hz=>?_,λe=>⟨_,_,_,rfl,rfl,k2 e⟩,λa ea e=>⟨_,_,_,rfl,rfl,k3 a ea e⟩,λa ea e=>⟨_,_,_,rfl,rfl,k4 rfl a ea e⟩⟩;obtain⟨hk,hb3,g1,g2⟩:=k1 a b ea eb λ_=>hz;walk_at "pk";refine mS S (by rfl) ?_;walk_at "pk";refine mS S (by rfl) ?_;walk_at "pk";refine⟨s,h,kp,A,q,x,rfl,S,hq, ?_⟩;walk_at "pk";refine mS S (by rfl) ?_;walk_at "pk";refine⟨s,h,kp,A,p,y,rfl,S,hp, ?_⟩;rw[Mc.tl_nv ea,Mc.tl_nv eb];walk_at "pk";refine⟨⟨hz,hk⟩, ?_⟩;exact⟨s,h,kp,A,r,q,p,x,y,_,rfl,S,hr,hq,hp,hb3,g1,λe M' h' kp' f a b S'=>⟨_,_,_,rfl,rfl,g2 e M' h' kp' f a b S'⟩⟩
abbrev jM:Stmt:=qr (top 48) 17
theorem X3:FnScope ["self","r","q","p"] ["self","r","q","p"] (qg jM):=⟨rfl,rfl,rfl,by decide +kernel,rfl,by decide +kernel,by decide +kernel⟩
theorem ok_srest(F:Fun Ξ "rest" "Store.rest" jM f fd)(TStore:Cls Ξ C)(DNeedDivisor:DefX P w Ξ mg base "need_divisor" 6 ["store","q","p"] (spX mg (qab C)))(MStoreTold:MDef P w Ξ mg base C "told" 5 ["self","q"] (spU (ky C)))(MStoreComeOfTwo:MDefX P w Ξ mg base C "come_of_two" 10 ["self","r","q","p","n"] (spX mg (YK C))):FnOk P w Ξ mg base (CXe P w) 11 f fd ["self","r","q","p"] (spX mg (Vb C true (λ_ _=>True) Int.fmod)):=by
 refine F.zX X3 (λus M Qu Xu h=>?_) (λcdv A outer s H E hr=>?_)
 ·obtain⟨_,_,_,_,_,_,_,_,_,rfl,_⟩:=h
  rfl
 refine⟨_,(qZ (vM (jg DNeedDivisor (WR hr) (qa_c (qv 0) (qa_c (qv 2) (qa_c (qv 3) qd)))))
  (qY (vM (vf (qv 0) TStore MStoreComeOfTwo (WR hr) (qa_c (qv 1) (qa_c (qv 2) (qa_c (qv 3) (qa_c (qq op_modN (qQ MStoreTold TStore (qv 0) (WR hr) (qa_c (qv 2) qd)) (qQ MStoreTold TStore (qv 0) (WR hr) (qa_c (qv 3) qd))) qd)))))))),_,(qh (vo (js (qa (qb 0) (qa (qb 2) (qa (qb 3) qc)))))
   (vo (vh (qb 0) (qa (qb 1) (qa (qb 2) (qa (qb 3) (qa (qo (v3 λ_ _=>.int _) (qC (qb 0) (qa (qb 2) qc)) (qC (qb 0) (qa (qb 3) qc))) qc))))))),λus M Qu Xu h=>?_⟩
 obtain⟨s,h,kp,A,r,q,p,x,y,rfl,S,hr,hq,hp,k1,k2,k3,k4⟩:=h;walk_at "pk";refine⟨s,h,kp,A,q,p,x,y,rfl,S,hq,hp,λa b ea eb hz=>?_,λe=>⟨_,_,_,rfl,rfl,k2 e⟩,λa ea e=>⟨_,_,_,rfl,rfl,k3 a ea e⟩,λa ea e=>⟨_,_,_,rfl,rfl,k4 rfl a ea e⟩⟩;obtain⟨hk,hb3,g1,g2⟩:=k1 a b ea eb λ_=>hz;walk_at "pk";refine mS S (by rfl) ?_;walk_at "pk";refine mS S (by rfl) ?_;walk_at "pk";refine⟨s,h,kp,A,q,x,rfl,S,hq, ?_⟩;walk_at "pk";refine mS S (by rfl) ?_;walk_at "pk";refine⟨s,h,kp,A,p,y,rfl,S,hp, ?_⟩;rw[Mc.tl_nv ea,Mc.tl_nv eb];walk_at "pk";refine⟨hz, ?_⟩;exact⟨s,h,kp,A,r,q,p,x,y,_,rfl,S,hr,hq,hp,hb3,g1,λe M' h' kp' f a b S'=>⟨_,_,_,rfl,rfl,g2 e M' h' kp' f a b S'⟩⟩
namespace Mc
variable {A:Mc}
def setT(A:Mc)(i:Nat)(t:Th):Mc:={ A with tb:=A.tb.set i t }
def pv(A:Mc):Rf->Option (Nat×Rf×Rf)
 |.w _=>none
 |.t i=>match A.th i with
  |.far _=>none
  |.pr a b=>some (i,a,b)
theorem pv_t(h:A.pv x=some (i,a,b)):x=.t i/\A.th i=.pr a b:=by
 cases x with
 |w x=>cases h
 |t j =>
  have h:(match A.th j with | .far _=>none | .pr a b=>some (j,a,b))=some (i,a,b):=h;cases e:A.th j with
  |far n=>rw[e] at h; cases h
  |pr c d=>rw[e] at h; cases h; exact⟨rfl,e⟩
theorem kn_pv(h:A.RfOk x):A.kn x = "pair" ↔ A.pv x≠none:=by
 cases x with
 |w x =>
  have h:InW A.bits A.ms x:=h;refine⟨λz=>?_,λz=>absurd rfl z⟩;have z:kS x.1 = "pair" := z;rcases h.k with e|e|e<;>rw[e] at z<;>exact absurd z (by decide)
 |t i =>
  show kS (A.th i).kd=_↔(match A.th i with | .far _=>none | .pr a b=>some (i,a,b))≠none;cases A.th i with
  |far n=>exact⟨λz=>absurd z (by show ¬kS "far" = "pair"; decide),λz=>absurd rfl z⟩
  |pr a b=>exact⟨λ_=>(λz=>nomatch z),λ_=>by show kS "pair" = "pair"; decide⟩
variable {i:Nat} {a b a' b':Rf}
theorem Y8(hi:i<A.tb.length)(j:Nat):(A.setT i t).th j=if j=i then t else A.th j:=by
 unfold th setT;simp only[Dq];split
 ·rename_i e
  rw[e,Ur hi];rfl
 ·rename_i e
  rw[Ul (Ne.symm e)]
section
variable (hi:i<A.tb.length) (e:A.th i=.pr a b)
include hi e
theorem kd_set(j:Nat):((A.setT i (.pr a' b')).th j).kd=(A.th j).kd/\((A.setT i (.pr a' b')).th j).sz A.bits=(A.th j).sz A.bits:=by
 rw[Y8 hi];split
 ·rename_i z
  rw[z,e];exact⟨rfl,rfl⟩
 ·exact⟨rfl,rfl⟩
theorem pl_set(j:Nat):(A.setT i (.pr a' b')).pl j=A.pl j:=by
 unfold pl;have:(A.setT i (.pr a' b')).sz=A.sz:=funext λj=>(kd_set hi e j).2;rw[this];rfl
theorem Zs(x:Rf):(A.setT i (.pr a' b')).wd x=A.wd x:=by
 cases x with
 |w x=>rfl
 |t j =>
  show wdK A.bits A.ms (((A.setT i (.pr a' b')).th j).kd,((A.setT i (.pr a' b')).pl j:Int))=wdK A.bits A.ms ((A.th j).kd,(A.pl j:Int));rw[(kd_set hi e j).1,pl_set hi e j]
theorem ws_set:(A.setT i (.pr a' b')).ws=A.ws:=Db λx _=>Zs hi e x
theorem tw_set(j:Nat):(A.setT i (.pr a' b')).tw j=if j=i then[1,A.wd a',A.wd b'] else A.tw j:=by
 rw[XX,XX,Y8 hi];split
 ·show[1,_,_]=[1,_,_]
  rw[Zs hi e,Zs hi e]
 ·cases A.th j with
  |far n=>rfl
  |pr c d =>
   show[1,_,_]=[1,_,_];rw[Zs hi e,Zs hi e]
theorem os_set(O:A.Ok)(hm:i∈A.od):(A.setT i (.pr a' b')).os=(A.os.set (A.pl i+1) (A.wd a')).set (A.pl i+2) (A.wd b'):=by
 obtain⟨l,r,e1,e2,e3,e4⟩:=at_ O hm;have hd:=nd O;rw[e1] at hd;have hr:i∉r:=(Dc.mp (Dn.mp hd).2.1).1;have key:∀l':List Nat,i∉l'->l'.flatMap (A.setT i (.pr a' b')).tw=l'.flatMap A.tw:=λl' h'=>by
  rw[DH,DH]
  congr 1;exact Db λj hj=>by rw[tw_set hi e]; exact if_neg λz:j=i=>h' (z▸hj)
 have et:A.tw i=[1,A.wd a,A.wd b]:=by rw[XX,e]; rfl
 rw[e3,e4,et];show(A.od).flatMap _=_;rw[e1,Dp,D0,key l e2,key r hr,tw_set hi e,if_pos rfl,Ds _ _ (by lia),UC];show _=(List.flatMap A.tw l++(1::A.wd a'::A.wd b::List.flatMap A.tw r)).set _ _;rw[Ds _ _ (by lia),UC];rfl
theorem ok_setT(O:A.Ok)(hm:i∈A.od)(ha:A.RfOk a')(hb:A.RfOk b'):(A.setT i (.pr a' b')).Ok:=by
 have rf:∀{x:Rf},A.RfOk x->(A.setT i (.pr a' b')).RfOk x:=λ{x} h=>by cases x<;>exact h
 refine⟨O.R,O.l8,λr hr=>rf (O.g r hr),O.d,λj hj=>by show j<(A.tb.set i _).length; rw[Uq]; exact O.b j hj,λj hj=>?_, ?_,O.m⟩
 ·rw[Y8 hi]
  split
  ·exact⟨rf ha,rf hb⟩
  ·have:=O.t j hj
   cases et:A.th j with
   |far n=>rw[et] at this; exact this
   |pr c d=>rw[et] at this; exact⟨rf this.1,rf this.2⟩
 ·rw[os_set hi e O hm,Uq,Uq]
  exact O.f
end
theorem pr_at(O:A.Ok)(hm:i∈A.od)(e:A.th i=.pr a b):A.os[A.pl i+1]?=some (A.wd a)/\A.os[A.pl i+2]?=some (A.wd b):=by
 obtain⟨l,r,_,_,e3,e4⟩:=at_ O hm;have et:A.tw i=[1,A.wd a,A.wd b]:=by rw[XX,e]; rfl
 rw[e3,e4,et];constructor
 ·rw[Uo (by lia),UC]; rfl
 ·rw[Uo (by lia),UC]; rfl
end Mc
section
theorem StA.setT(S:StA C M s h kp A)(hm:i∈A.od)(e:A.th i=.pr a b)(ha:A.RfOk a')(hb:A.RfOk b')(el:l=(A.os.set (A.pl i+1) (A.wd a')).set (A.pl i+2) (A.wd b')):StA C (M.set kp (iM l)) s h kp (A.setT i (.pr a' b')):=by
 have hi:=S.O.b i hm;have hk:=(Ue.mp S.S.k0).1;refine⟨Mc.ok_setT hi e S.O hm ha hb,by rw[Ul S.S.sk.symm]; exact S.S.s0, ?_, ?_,S.S.sh,S.S.sk,S.S.hk⟩
 ·rw[Mc.ws_set hi e,Ul S.S.hk.symm]; exact S.S.h0
 ·rw[Mc.os_set hi e S.O hm,Ur hk,el]
theorem kix_at{i:Nat}(S:StA C M s h kp A)(hq:A.os[i]?=some x)(q:Q (.p (.int x)) M):IxS qD M (.m kp) (.p (.int (i:Int))) Q :=
 jn (us:=(A.os.map T.int).map U.p) (by simp[qD,S.S.k0]) (ju (by simp only[Uz,hq,RT])) q
end
abbrev jL:Stmt:=qr (top 48) 8
theorem X2:FnScope ["self","r","k"] ["self","r","k"] (qg jL):=⟨rfl,rfl,rfl,by decide +kernel,rfl,by decide +kernel,by decide +kernel⟩
theorem Zw{a b:Int}(h:a<=b):(2:Int)^a.toNat<=2^b.toNat:=by
 have:=Du (n:=2) (by decide) (show a.toNat<=b.toNat by lia);exact_mod_cast this
theorem G3(R:Right bits ms)(h0:0<=k)(h1:k<128):InW bits ms ("sign", k):=by
 obtain⟨m,hm⟩:=R.kind (kind := "sign") (by decide);refine⟨?_, .inr (.inl rfl)⟩;show Vld _ _ _ (vq ms "sign");rw[hm.mk];have hw:=R.w m hm.mem;have hn:need m.1=7:=by rw[hm.is]; rfl
 have h7:(2:Int)^(7:Int).toNat<=2^(bits-m.2.1).toNat:=Zw (by lia);exact⟨hm,λz=>absurd z (by dsimp only; decide),λ_=>⟨h0,Bj h1 h7⟩,λ_=>h1,λz=>absurd z (by dsimp only; decide)⟩
theorem in_one(R:Right bits ms)(h0:0<=k)(h1:k<3):InW bits ms ("one", k):=by
 obtain⟨m,hm⟩:=R.kind (kind := "one") (by decide);refine⟨?_, .inr (.inr rfl)⟩;show Vld _ _ _ (vq ms "one");rw[hm.mk];have hw:=R.w m hm.mem;have hn:need m.1=2:=by rw[hm.is]; rfl
 have h7:(2:Int)^(2:Int).toNat<=2^(bits-m.2.1).toNat:=Zw (by lia);exact⟨hm,λz=>absurd z (by dsimp only; decide),λ_=>⟨h0,Bj h1 (Int.le_trans (by decide) h7)⟩,λz=>absurd z (by dsimp only; decide),λ_=>h1⟩
def gSSign(C:Addr):List U->MM->UK->Prop:=λus M Q=>∃(s h kp:Nat)(A:Mc)(r:Nat)(k:Int),us=[.m s, .p (.int r), .p (.int k)]/\StA C M s h kp A/\r<8/\0<=k/\k<128/\Go C M s h kp (A.put r (.w ("sign", k))) (Q (.p .non))
theorem ok_ssign(F:Fun Ξ "sign" "Store.sign" jL f fd)(TP:TxStore Ξ C)(DWordOf:Def P w Ξ mg base "word_of" 3 ["laying","worth"] (spP zO)):FnOk P w Ξ mg base CX0 4 f fd ["self","r","k"] (spU (gSSign C)):=by
 refine F.zU X2 (λus M Qu h=>?_) (λcdv A outer s H E hr=>?_)
 ·obtain⟨_,_,_,_,_,_,rfl,_⟩:=h
  rfl
 refine⟨_,(qi (v5 (qk DWordOf (WR hr) (qa_c (qG (qv 0) rfl) (qa_c (vc (qa_c qK (qa_c (qv 2) qd))) qd))) (zd (qG (qv 0) rfl) (qv 1) qX))),_,(qx (ql (qa (qH (qb 0)) (qa (vA (qa W1 (qa (qb 2) qc))) qc))) (Q1 (qH (qb 0)) (qb 1))),λus M Qu h=>?_⟩;obtain⟨s,h,kp,A,r,k,rfl,S,hr,h0,h1,g⟩:=h;symm;refine zY TP S ?_;symm;have e:T.tup [.str "sign", .int k]=tOf ("sign", k):=rfl;rw[e];refine Qc S.O.R (G3 S.O.R h0 h1).v ?_;symm;refine vH TP S ?_;symm;exact Vg (x:=.w ("sign", k)) S hr (G3 S.O.R h0 h1) g
abbrev Ql:Stmt:=qr (top 48) 9
theorem Yn:FnScope ["self","r","text"] ["self","r","text"] (qg Ql):=⟨rfl,rfl,rfl,by decide +kernel,rfl,by decide +kernel,by decide +kernel⟩
def gSOne(C:Addr):List U->MM->UK->Prop:=λus M Q=>∃(s h kp:Nat)(A:Mc)(r k:Nat),us=[.m s, .p (.int r), .p (.str (three3.getD k "none"))]/\StA C M s h kp A/\r<8/\k<3/\Go C M s h kp (A.put r (.w ("one", (k:Int)))) (Q (.p .non))
theorem ok_sone(F:Fun Ξ "one" "Store.one" Ql f fd)(TP:TxStore Ξ C)(DWordOf:Def P w Ξ mg base "word_of" 3 ["laying","worth"] (spP zO)):FnOk P w Ξ mg base CX0 4 f fd ["self","r","text"] (spU (gSOne C)):=by
 refine F.zU Yn (λus M Qu h=>?_) (λcdv A outer s H E hr=>?_)
 ·obtain⟨_,_,_,_,_,_,rfl,_⟩:=h
  rfl
 refine⟨_,(qi (v5 (qk DWordOf (WR hr) (qa_c (qG (qv 0) rfl) (qa_c (qv 2) qd))) (zd (qG (qv 0) rfl) (qv 1) qX))),_,(qx (ql (qa (qH (qb 0)) (qa (qb 2) qc))) (Q1 (qH (qb 0)) (qb 1))),λus M Qu h=>?_⟩;obtain⟨s,h,kp,A,r,k,rfl,S,hr,h1,g⟩:=h;symm;refine zY TP S ?_;symm;have e:T.str (three3.getD k "none")=tOf ("one", (k:Int)):=rfl;rw[e];have hw:=in_one S.O.R (k:=(k:Int)) (by lia) (by lia);refine Qc S.O.R hw.v ?_;symm;refine vH TP S ?_;symm;exact Vg (x:=.w ("one", (k:Int))) S hr hw g
abbrev jT:Stmt:=qr (top 48) 10
theorem Jc:FnScope ["self","r","q"] ["self","r","q"] (qg jT):=⟨rfl,rfl,rfl,by decide +kernel,rfl,by decide +kernel,by decide +kernel⟩
def gSCopy(C:Addr):List U->MM->UK->Prop:=λus M Q=>∃(s h kp:Nat)(A:Mc)(r q:Nat)(x:Rf),us=[.m s, .p (.int r), .p (.int q)]/\StA C M s h kp A/\r<8/\A.rg[q]?=some x/\Go C M s h kp (A.put r x) (Q (.p .non))
theorem ok_scopy(F:Fun Ξ "copy" "Store.copy" jT f fd)(TP:TxStore Ξ C):FnOk P w Ξ mg base CX0 1 f fd ["self","r","q"] (spU (gSCopy C)):=by
 refine F.zU Jc (λus M Qu h=>?_) (λcdv A outer s H E hr=>?_)
 ·obtain⟨_,_,_,_,_,_,_,rfl,_⟩:=h
  rfl
 refine⟨_,(qi (v5 (qA (Ua Ξ) (qG (qv 0) rfl) (qv 2) (λ_ _=>rfl)) (zd (qG (qv 0) rfl) (qv 1) qX))),_,(qx (ve (qH (qb 0)) (qb 2)) (Q1 (qH (qb 0)) (qb 1))),λus M Qu h=>?_⟩;obtain⟨s,h,kp,A,r,q',x,rfl,S,hr,hq,g⟩:=h;symm;refine vH TP S ?_;symm;refine jD S hq ?_;symm;refine vH TP S ?_;symm;exact Vg S hr (S.ok hq) g
abbrev Qo:Stmt:=top 22
theorem Yp:FnScope ["store","q"] ["store","q"] (qg Qo):=⟨rfl,rfl,rfl,by decide +kernel,rfl,by decide +kernel,by decide +kernel⟩
def gNeedP(C:Addr):List U->MM->UK->UX->Prop:=λus M Q X=>∃(s h kp:Nat)(A:Mc)(q:Nat)(x:Rf),us=[.m s, .p (.int q)]/\StA C M s h kp A/\A.rg[q]?=some x/\(∀z,A.pv x=some z->Q (.p .non) M)/\(A.pv x=none->X "WrongKind" (some 1) M)
theorem ok_needP(F:Fun Ξ "need_pair" "need_pair" Qo f fd)(TStore:Cls Ξ C)(DWk:ExcD P w Ξ mg base "WrongKind" CW 1)(MStoreKind:MDef P w Ξ mg base C "kind" 3 ["self","q"] (spU (KU C))):FnOk P w Ξ mg base (CXe P w) 4 f fd ["store","q"] (spX mg (gNeedP C)):=by
 refine F.zX Yp (λus M Qu Xu h=>?_) (λcdv A outer s H E hr=>?_)
 ·obtain⟨_,_,_,_,_,_,rfl,_⟩:=h
  rfl
 refine⟨_,(qY (Yr (qF op_ne (qQ MStoreKind TStore (qv 0) (WR hr) (qa_c (qv 1) qd)) qK (qI _))
   (qY (Qv rfl rfl DWk (WR hr) (qa_c qe qd)))
   j4)),_,(vX (qL (qo Gb (qC (qb 0) (qa (qb 1) qc)) W1))
   (QY (qa WS qc))
   qR),λus M Qu Xu h=>?_⟩
 obtain⟨s,h,kp,A,q,x,rfl,S,hq,k1,k2⟩:=h;have ix:=Mc.kn_pv (S.ok hq);walk_at "pk";refine mS S (by rfl) ?_;walk_at "pk";refine⟨s,h,kp,A,q,x,rfl,S,hq, ?_⟩;walk_at "pk";cases ex:A.pv x with
 |none =>
  refine vV (by rw[decide_eq_false (λz=>ix.mp z ex)]; rfl) ?_;exact⟨1,rfl,sm1,_,_,_,rfl,rfl,k2 ex⟩
 |some a =>
  rw[ix.mpr (by rw[ex]; exact λz=>nomatch z)];walk_at "pk";exact k1 a ex
abbrev xl:Stmt:=qr (top 48) 19
theorem VB:FnScope ["self","q"] ["self","q"] (qg xl):=⟨rfl,rfl,rfl,by decide +kernel,rfl,by decide +kernel,by decide +kernel⟩
def QV(C:Addr):List U->MM->UK->UX->Prop:=λus M Q X=>∃(s h kp:Nat)(A:Mc)(q:Nat)(x:Rf),us=[.m s, .p (.int q)]/\StA C M s h kp A/\A.rg[q]?=some x/\(∀i a b,A.pv x=some (i,a,b)->Q (.p (.int (A.pl i))) M)/\(A.pv x=none->X "WrongKind" (some 1) M)
theorem Gm(F:Fun Ξ "pair_in" "Store.pair_in" xl f fd)(TP:TxStore Ξ C)(DNeedPair:DefX P w Ξ mg base "need_pair" 4 ["store","q"] (spX mg (gNeedP C)))(DAddressOf:Def P w Ξ mg base "address_of" 3 ["laying","word"] (spP gAddr)):FnOk P w Ξ mg base (CXe P w) 5 f fd ["self","q"] (spX mg (QV C)):=by
 refine F.zX VB (λus M Qu Xu h=>?_) (λcdv A outer s H E hr=>?_)
 ·obtain⟨_,_,_,_,_,_,rfl,_⟩:=h
  rfl
 refine⟨_,(qZ (vM (jg DNeedPair (WR hr) (qa_c (qv 0) (qa_c (qv 1) qd))))
  (qY (ZN (qw (qk DAddressOf (WR hr) (qa_c (qG (qv 0) rfl) (qa_c (qA (Ua Ξ) (qG (qv 0) rfl) (qv 1) (λ_ _=>rfl)) qd))))))),_,(qh (vo (js (qa (qb 0) (qa (qb 1) qc))))
   (qy (ql (qa (qH (qb 0)) (qa (ve (qH (qb 0)) (qb 1)) qc))))),λus M Qu Xu h=>?_⟩
 obtain⟨s,h,kp,A,q,x,rfl,S,hq,k1,k2⟩:=h;walk_at "pk";refine⟨s,h,kp,A,q,x,rfl,S,hq,λz ez=>?_,λe=>⟨_,_,_,rfl,rfl,k2 e⟩⟩;obtain⟨i,a,b⟩:=z;obtain⟨rfl,et⟩:=Mc.pv_t ez;walk_at "pk";refine zY TP S ?_;walk_at "pk";refine vH TP S ?_;walk_at "pk";refine jD S hq ?_;walk_at "pk";exact⟨A.bits,A.ms,_,rfl,S.O.R,by rw[Mc.addr_t S.O (S.ok hq)]; exact k1 i a b ez⟩
abbrev jO:Stmt:=qr (top 48) 18
theorem X5:FnScope ["self","r","q","p"] ["self","r","q","p"] (qg jO):=⟨rfl,rfl,rfl,by decide +kernel,rfl,by decide +kernel,by decide +kernel⟩
noncomputable def Mc.prd(A:Mc)(r:Nat)(x y:Rf):Mc×Bool:=if((A.mk' 3).os.length:Int)+(3:Nat)<=A.most then((A.mk' 3).lay r (.pr x y),true) else(A.mk' 3,false)
theorem Mc.mk_rg{A:Mc}:(A.mk' n).rg=A.rg:=by unfold Mc.mk'; split<;>rfl
def gSPair(C:Addr):List U->MM->UK->UX->Prop:=λus M Q X=>∃(s h kp:Nat)(A:Mc)(r q p:Nat)(x y:Rf),us=[.m s, .p (.int r), .p (.int q), .p (.int p)]/\StA C M s h kp A/\r<8/\A.rg[q]?=some x/\A.rg[p]?=some y/\((A.prd r x y).2=true->Go C M s h kp (A.prd r x y).1 (Q (.p .non)))/\((A.prd r x y).2=false->Go C M s h kp (A.prd r x y).1 (X "NoRoom" none))
theorem ok_spair(F:Fun Ξ "pair" "Store.pair" jO f fd)(TP:TxStore Ξ C)(TStore:Cls Ξ C)(GHead:GInt mg "PAIR_HEAD" 1)(GSize:GInt mg "PAIR_SIZE" 3)(MStoreMakeRoom:MDefX P w Ξ mg base C "make_room" 8 ["self","size"] (spX mg (KW C)))(MStoreLay:MDef P w Ξ mg base C "lay" 4 ["self","r","kind","thing"] (spU (gLayS C))):FnOk P w Ξ mg base (CXe P w) 9 f fd ["self","r","q","p"] (spX mg (gSPair C)):=by
 refine F.zX X5 (λus M Qu Xu h=>?_) (λcdv A outer s H E hr=>?_)
 ·obtain⟨_,_,_,_,_,_,_,_,_,rfl,_⟩:=h
  rfl
 refine⟨_,(qZ (vM (vf (qv 0) TStore MStoreMakeRoom (WR hr) (qa_c (zK GSize rfl) qd)))
  (qY (ZN (vg (qQ MStoreLay TStore (qv 0) (WR hr) (qa_c (qv 1) (qa_c qK (qa_c (qN (qa_c (zK GHead rfl) (qa_c (qA (Ua Ξ) (qG (qv 0) rfl) (qv 2) (λ_ _=>rfl)) (qa_c (qA (Ua Ξ) (qG (qv 0) rfl) (qv 3) (λ_ _=>rfl)) qd)))) qd)))))))),_,(qh (vo (vh (qb 0) (qa WS qc)))
   (vi (qC (qb 0) (qa (qb 1) (qa W1 (qa (vB (qa WS (qa (ve (qH (qb 0)) (qb 2)) (qa (ve (qH (qb 0)) (qb 3)) qc)))) qc)))))),λus M Qu Xu h=>?_⟩
 obtain⟨s,h,kp,A,r,q,p,x,y,rfl,S,hr,hq,hp,q1,q2⟩:=h;unfold Mc.prd at q1 q2;walk_at "pk";refine mS S (by rfl) ?_;walk_at "pk";obtain⟨e1,e2,e3⟩:=Mc.mk_keep (A:=A) (n:=3);have em:(A.mk' 3).most=A.most:=by unfold Mc.most; rw[e1,e2,e3]
 have eg:=Mc.mk_rg (A:=A) (n:=3);refine⟨s,h,kp,A,3,rfl,S,λhle M' h' kp' f a b S'=>?_,λhlt M' h' kp' f a b S'=>?_⟩
 ·rw[if_pos hle] at q1
  rw[<-eg] at hq hp;refine mS S' (by rfl) ?_;walk_at "pk";refine vH TP S' ?_;walk_at "pk";refine jD S' hq ?_;walk_at "pk";refine vH TP S' ?_;walk_at "pk";refine jD S' hp ?_;walk_at "pk";exact⟨s,h',kp',A.mk' 3,r, .pr x y,rfl,S',hr,⟨S'.ok hq,S'.ok hp⟩,by show 2<=3; decide,by rw[em]; exact hle,(q1 rfl).step f a b S.lt⟩
 ·rw[if_neg (Int.not_le.mpr hlt)] at q2
  exact⟨_,_,_,rfl,rfl,q2 rfl M' h' kp' f a b S'⟩
def gSGet(C:Addr)(fst:Bool):List U->MM->UK->UX->Prop:=λus M Q X=>∃(s h kp:Nat)(A:Mc)(r q:Nat)(x:Rf),us=[.m s, .p (.int r), .p (.int q)]/\StA C M s h kp A/\r<8/\A.rg[q]?=some x/\(∀i a b,A.pv x=some (i,a,b)->Go C M s h kp (A.put r (if fst=true then a else b)) (Q (.p .non)))/\(A.pv x=none->X "WrongKind" (some 1) M)
abbrev jc:Stmt:=qr (top 48) 20
theorem ZL:FnScope ["self","r","q"] ["self","r","q"] (qg jc):=⟨rfl,rfl,rfl,by decide +kernel,rfl,by decide +kernel,by decide +kernel⟩
theorem Gk(F:Fun Ξ "first" "Store.first" jc f fd)(TP:TxStore Ξ C)(TStore:Cls Ξ C)(MStorePairIn:MDefX P w Ξ mg base C "pair_in" 5 ["self","q"] (spX mg (QV C))):FnOk P w Ξ mg base (CXe P w) 6 f fd ["self","r","q"] (spX mg (gSGet C true)):=by
 refine F.zX ZL (λus M Qu Xu h=>?_) (λcdv A outer s H E hr=>?_)
 ·obtain⟨_,_,_,_,_,_,_,rfl,_⟩:=h
  rfl
 refine⟨_,(qY (qx_asg (qxe_ix (Ua Ξ) (vR (qG (qv 0) rfl)) (Qr qO (vf (qv 0) TStore MStorePairIn (WR hr) (qa_c (qv 2) qd)) (vR qe)) (λ_ _=>rfl)) (zd (qG (qv 0) rfl) (qv 1) qX))),_,(qaC (cx_ixL (cx_0 (qH (qb 0))) (cx_op (qE λ_ _=>.int _) (vh (qb 0) (qa (qb 2) qc)) (cx_0 WS))) (Q1 (qH (qb 0)) (qb 1))),λus M Qu Xu h=>?_⟩;obtain⟨s,h,kp,A,r,q,x,rfl,S,hr,hq,k1,k2⟩:=h;walk_at "pk";refine zN TP S ?_;walk_at "pk";refine mS S (by rfl) ?_;walk_at "pk";refine⟨s,h,kp,A,q,x,rfl,S,hq,λi a b e=>?_,λe=>⟨_,_,_,rfl,rfl,k2 e⟩⟩;obtain⟨rfl,et⟩:=Mc.pv_t e;have hm:i∈A.od:=S.ok hq;have ht:=S.O.t i hm;rw[et] at ht;walk_at "pk";refine kix_at S (i:=A.pl i+1) (Mc.pr_at S.O hm et).1 ?_;walk_at "pk";refine vH TP S ?_;walk_at "pk";exact Vg S hr ht.1 (k1 i a b e)
abbrev xk:Stmt:=qr (top 48) 21
theorem VA:FnScope ["self","r","q"] ["self","r","q"] (qg xk):=⟨rfl,rfl,rfl,by decide +kernel,rfl,by decide +kernel,by decide +kernel⟩
theorem Yu(F:Fun Ξ "second" "Store.second" xk f fd)(TP:TxStore Ξ C)(TStore:Cls Ξ C)(MStorePairIn:MDefX P w Ξ mg base C "pair_in" 5 ["self","q"] (spX mg (QV C))):FnOk P w Ξ mg base (CXe P w) 6 f fd ["self","r","q"] (spX mg (gSGet C false)):=by
 refine F.zX VA (λus M Qu Xu h=>?_) (λcdv A outer s H E hr=>?_)
 ·obtain⟨_,_,_,_,_,_,_,rfl,_⟩:=h
  rfl
 refine⟨_,(qY (qx_asg (qxe_ix (Ua Ξ) (vR (qG (qv 0) rfl)) (Qr qO (vf (qv 0) TStore MStorePairIn (WR hr) (qa_c (qv 2) qd)) (vR qe)) (λ_ _=>rfl)) (zd (qG (qv 0) rfl) (qv 1) qX))),_,(qaC (cx_ixL (cx_0 (qH (qb 0))) (cx_op (qE λ_ _=>.int _) (vh (qb 0) (qa (qb 2) qc)) (cx_0 WS))) (Q1 (qH (qb 0)) (qb 1))),λus M Qu Xu h=>?_⟩;obtain⟨s,h,kp,A,r,q,x,rfl,S,hr,hq,k1,k2⟩:=h;walk_at "pk";refine zN TP S ?_;walk_at "pk";refine mS S (by rfl) ?_;walk_at "pk";refine⟨s,h,kp,A,q,x,rfl,S,hq,λi a b e=>?_,λe=>⟨_,_,_,rfl,rfl,k2 e⟩⟩;obtain⟨rfl,et⟩:=Mc.pv_t e;have hm:i∈A.od:=S.ok hq;have ht:=S.O.t i hm;rw[et] at ht;walk_at "pk";refine kix_at S (i:=A.pl i+2) (Mc.pr_at S.O hm et).2 ?_;walk_at "pk";refine vH TP S ?_;walk_at "pk";exact Vg S hr ht.2 (k1 i a b e)
def gSSet(C:Addr)(fst:Bool):List U->MM->UK->UX->Prop:=λus M Q X=>∃(s h kp:Nat)(A:Mc)(q p:Nat)(x y:Rf),us=[.m s, .p (.int q), .p (.int p)]/\StA C M s h kp A/\A.rg[q]?=some x/\A.rg[p]?=some y/\(∀i a b,A.pv x=some (i,a,b)->Go C M s h kp (A.setT i (if fst=true then .pr y b else .pr a y)) (Q (.p .non)))/\(A.pv x=none->X "WrongKind" (some 1) M)
theorem Kt{l:List Int}(h:l[i]?=some x):l.set i x=l:=by
 obtain⟨_,rfl⟩:=Ue.mp h;exact D2 _
abbrev zx:Stmt:=qr (top 48) 22
theorem Qj:FnScope ["self","q","p"] ["self","q","p"] (qg zx):=⟨rfl,rfl,rfl,by decide +kernel,rfl,by decide +kernel,by decide +kernel⟩
theorem ok_ssetf(F:Fun Ξ "set_first" "Store.set_first" zx f fd)(TP:TxStore Ξ C)(TStore:Cls Ξ C)(MStorePairIn:MDefX P w Ξ mg base C "pair_in" 5 ["self","q"] (spX mg (QV C))):FnOk P w Ξ mg base (CXe P w) 6 f fd ["self","q","p"] (spX mg (gSSet C true)):=by
 refine F.zX Qj (λus M Qu Xu h=>?_) (λcdv A outer s H E hr=>?_)
 ·obtain⟨_,_,_,_,_,_,_,_,rfl,_⟩:=h
  rfl
 refine⟨_,(qY (WH (qA (Ua Ξ) (qG (qv 0) rfl) (qv 2) (λ_ _=>rfl)) (qG (qv 0) rfl) (Qr qO (vf (qv 0) TStore MStorePairIn (WR hr) (qa_c (qv 1) qd)) (vR qe)) qX)),_,(qaD (ve (qH (qb 0)) (qb 2)) (qH (qb 0)) (cx_op (qE λ_ _=>.int _) (vh (qb 0) (qa (qb 1) qc)) (cx_0 WS))),λus M Qu Xu h=>?_⟩;obtain⟨s,h,kp,A,q,p,x,y,rfl,S,hq,hp,k1,k2⟩:=h;walk_at "pk";refine vH TP S ?_;walk_at "pk";refine jD S hp ?_;walk_at "pk";refine zN TP S ?_;walk_at "pk";refine mS S (by rfl) ?_;walk_at "pk";refine⟨s,h,kp,A,q,x,rfl,S,hq,λi a b e=>?_,λe=>⟨_,_,_,rfl,rfl,k2 e⟩⟩;obtain⟨rfl,et⟩:=Mc.pv_t e;have hm:i∈A.od:=S.ok hq;have ht:=S.O.t i hm;rw[et] at ht;have h2:=(Mc.pr_at S.O hm et).2;have hl:=(Ue.mp h2).1;walk_at "pk";refine kJ (r:=A.pl i+1) S.S.k0 (by lia) ?_;exact k1 i a b e _ h kp (ki (by simp)) (.inl rfl) (.inl rfl) (S.setT hm et (S.ok hp) ht.2 (Kt (by rw[Ul (by lia)]; exact h2)).symm)
abbrev zn:Stmt:=qr (top 48) 23
theorem kG:FnScope ["self","q","p"] ["self","q","p"] (qg zn):=⟨rfl,rfl,rfl,by decide +kernel,rfl,by decide +kernel,by decide +kernel⟩
theorem ok_ssets(F:Fun Ξ "set_second" "Store.set_second" zn f fd)(TP:TxStore Ξ C)(TStore:Cls Ξ C)(MStorePairIn:MDefX P w Ξ mg base C "pair_in" 5 ["self","q"] (spX mg (QV C))):FnOk P w Ξ mg base (CXe P w) 6 f fd ["self","q","p"] (spX mg (gSSet C false)):=by
 refine F.zX kG (λus M Qu Xu h=>?_) (λcdv A outer s H E hr=>?_)
 ·obtain⟨_,_,_,_,_,_,_,_,rfl,_⟩:=h
  rfl
 refine⟨_,(qY (WH (qA (Ua Ξ) (qG (qv 0) rfl) (qv 2) (λ_ _=>rfl)) (qG (qv 0) rfl) (Qr qO (vf (qv 0) TStore MStorePairIn (WR hr) (qa_c (qv 1) qd)) (vR qe)) qX)),_,(qaD (ve (qH (qb 0)) (qb 2)) (qH (qb 0)) (cx_op (qE λ_ _=>.int _) (vh (qb 0) (qa (qb 1) qc)) (cx_0 WS))),λus M Qu Xu h=>?_⟩;obtain⟨s,h,kp,A,q,p,x,y,rfl,S,hq,hp,k1,k2⟩:=h;walk_at "pk";refine vH TP S ?_;walk_at "pk";refine jD S hp ?_;walk_at "pk";refine zN TP S ?_;walk_at "pk";refine mS S (by rfl) ?_;walk_at "pk";refine⟨s,h,kp,A,q,x,rfl,S,hq,λi a b e=>?_,λe=>⟨_,_,_,rfl,rfl,k2 e⟩⟩;obtain⟨rfl,et⟩:=Mc.pv_t e;have hm:i∈A.od:=S.ok hq;have ht:=S.O.t i hm;rw[et] at ht;obtain⟨h1,h2⟩:=Mc.pr_at S.O hm et;have hl:=(Ue.mp h2).1;walk_at "pk";refine kJ (r:=A.pl i+2) S.S.k0 (by lia) ?_;exact k1 i a b e _ h kp (ki (by simp)) (.inl rfl) (.inl rfl) (S.setT hm et ht.1 (S.ok hp) (by rw[Kt h1]))
def LayU(M:MM)(z:U)(bits:Int)(ms:List Mk3):Prop:=z=.p (layT bits ms)\/∃k j,z=.m k/\M[k]?=some (.tup [.p (.int bits), .m j])/\M[j]?=some (.lst ((ms.map vK).map U.p))
theorem LayU.frz(h:LayU M z bits ms):frzN (n+2) M z=some (layT bits ms):=by
 rcases h with rfl|⟨k,j,rfl,h1,h2⟩
 ·exact kz
 ·have e2:frzN (n+1) M (.m j)=some (.lst (ms.map vK)):=jp h2
  rw[frzN,h1];show(frzs (frzN (n+1) M) [.p (.int bits), .m j]).map T.tup=_;simp only[frzs,e2,kz];rfl
theorem LayU.it(h:LayU M z bits ms):∃w,vI M z=some [.p (.int bits),w]/\qD M w=some ((ms.map vK).map U.p):=by
 rcases h with rfl|⟨k,j,rfl,h1,h2⟩
 ·exact⟨_,rfl,rfl⟩
 ·exact⟨.m j,by simp only[vI,h1],by simp only[qD,h2]⟩
theorem LayU.set(h:LayU M z bits ms)(e:M[s]?=some (.ins C fs)):LayU (M.set s x) z bits ms:=by
 rcases h with rfl|⟨k,j,rfl,h1,h2⟩
 ·exact .inl rfl
 ·refine .inr ⟨k,j,rfl, ?_, ?_⟩
  ·rw[Ul λz=>by rw[z,h1] at e; cases e]; exact h1
  ·rw[Ul λz=>by rw[z,h2] at e; cases e]; exact h2
theorem LayU.app(h:LayU M z bits ms):LayU (M++L) z bits ms:=by
 rcases h with rfl|⟨k,j,rfl,h1,h2⟩
 ·exact .inl rfl
 ·exact .inr ⟨k,j,rfl,by rw[Ug (Ue.mp h1).1]; exact h1,by rw[Ug (Ue.mp h2).1]; exact h2⟩
theorem trimA2:xW M (M++L++L'):=λi o hi e=>.inl (by rw[Us,Ug hi] at e; exact e)
abbrev jW:Stmt:=top 46
theorem Je:FnScope ["laying"] ["laying"] (qg jW):=⟨rfl,rfl,rfl,by decide +kernel,rfl,by decide +kernel,by decide +kernel⟩
def gOwnL:List U->MM->UK->Prop:=λus M Q=>∃(z:U)(bits:Int)(ms:List Mk3),us=[z]/\LayU M z bits ms/\Q (.p (layT bits ms)) M
theorem ok_ownL(F:Fun Ξ "own_laying" "own_laying" jW f fd)(N:Nms mg):FnOk P w Ξ mg base CX0 1 f fd ["laying"] (spU gOwnL):=by
 refine F.zV Je (λus M Qu h=>?_) (λcdv A outer s H E hr=>?_)
 ·obtain⟨_,_,_,rfl,_⟩:=h
  rfl
 refine⟨_,(qi (qw (vc (qa_c (qA (Ub Ξ) (qv 0) qe (λ_ _=>rfl)) (qa_c (vp qP (by rfl) N.list zZ (qa_c (qA (Ub Ξ) (qv 0) qe (λ_ _=>rfl)) qd)) qd))))),_,(qy (Q2 (qa (qW (qb 0) WS) (qa (zw (qa (qW (qb 0) WS) qc)) qc)))),λus M M1 Qu hM h=>?_⟩;obtain⟨z,bits,ms,rfl,hz,q⟩:=h;subst hM;obtain⟨w9,e1,e2⟩:=hz.it;symm;refine⟨_,0,_,e1,rfl,rfl, ?_⟩;simp only[jw];symm;refine⟨_,1,_,e1,rfl,rfl, ?_⟩;refine⟨w9,_,rfl, .inl e2,trimA2,layT bits ms, ?_, ?_⟩
 ·have g1:(M1++[MO.lst ((ms.map vK).map U.p)]++[MO.tup [.p (.int bits), .m M1.length]])[M1.length+1]?=some (.tup [.p (.int bits), .m M1.length]):=by simp
  have g2:(M1++[MO.lst ((ms.map vK).map U.p)]++[MO.tup [.p (.int bits), .m M1.length]])[M1.length]?=some (.lst ((ms.map vK).map U.p)):=by simp
  generalize M1++[MO.lst ((ms.map vK).map U.p)]++[MO.tup [.p (.int bits), .m M1.length]]=M9 at g1 g2 ⊢;have hf:frzs (frzB M1.length 2 M9) ((ms.map vK).map U.p)=some (ms.map vK):=kU (λt=>Xx) _;simp only[Uj,Um,UP,frzB,g1,g2,DG,Uk,if_true,frzs,Xx,hf];rfl
 ·rw[Us,Rb]
  ·exact q
  ·rfl
theorem jJ{M L:MM}(hs:s<M.length):(M.set s a++L).set s b=M.set s b++L:=by rw[DN _ _ (by rw[Uq]; exact hs),Rn]
theorem xy{M L:MM}(hs:s<M.length):(M.set s a++L)[s]?=some a:=by rw[Ug (by rw[Uq]; exact hs),Ur hs]
def Mc.new(bits:Int)(ms:List Mk3)(room:Int):Mc:=⟨bits,ms,room,List.replicate 8 (.w ("one", 0)), [], [],0,0,0⟩
theorem G4(R:Right bits ms):InW bits ms ("one", 0):=by
 obtain⟨m,hm⟩:=R.kind (kind := "one") (by decide);refine⟨?_, .inr (.inr rfl)⟩;show Vld _ _ _ (vq ms "one");rw[hm.mk];exact⟨hm,λz=>absurd z (by dsimp only; decide),λ_=>⟨UU _,vk _⟩,λz=>absurd z (by dsimp only; decide),λ_=>by show(0:Int)<3; decide⟩
theorem ok_new(R:Right bits ms)(h0:0<=room)(h4:room<=400):(Mc.new bits ms room).Ok:=by
 refine⟨R,rfl,λr hr=>?_, .nil,(λ_ z=>nomatch z),(λ_ z=>nomatch z), ?_,h4⟩
 ·rw[RA hr]
  exact G4 R
 ·show(0:Int)<=YB bits ms room
  unfold YB;have h1:=vk (bits-wOf ms "far").toNat;have h2:=vk (bits-wOf ms "pair").toNat;rcases @min3_or room (2^(bits-wOf ms "far").toNat) (2^(bits-wOf ms "pair").toNat) with e|e|e<;>lia
abbrev jS:Stmt:=qr (top 48) 0
theorem X9:FnScope ["self","laying","room"] ["self","laying","room"] (qg jS):=⟨rfl,rfl,rfl,by decide +kernel,rfl,by decide +kernel,by decide +kernel⟩
def Zd(C:Addr):List U->MM->UK->Prop:=λus M Q=>∃(s:Nat)(z:U)(bits:Int)(ms:List Mk3)(room:Int),us=[.m s,z, .p (.int room)]/\LayU M z bits ms/\M[s]?=some (.ins C [])/\Right bits ms/\0<=room/\room<=400/\∀M',Frm M M' [s]->StA C M' s M.length (M.length+1) (Mc.new bits ms room)->M'.length=M.length+2->Q (.p .non) M'
theorem Gj(F:Fun Ξ "__init__" "Store.__init__" jS f fd)(TP:TxStore Ξ C)(GReg:GInt mg "REGISTERS" 8)(DOwnLaying:Def P w Ξ mg base "own_laying" 1 ["laying"] (spU gOwnL))(DWordOf:Def P w Ξ mg base "word_of" 3 ["laying","worth"] (spP zO)):FnOk P w Ξ mg base CX0 4 f fd ["self","laying","room"] (spU (Zd C)):=by
 refine F.zU X9 (λus M Qu h=>?_) (λcdv A outer s H E hr=>?_)
 ·obtain⟨_,_,_,_,_,rfl,_⟩:=h
  rfl
 refine⟨_,(qf (xw (qv 0) (qk DOwnLaying (WR hr) (qa_c (qv 1) qd)) rfl)
  (qf (xw (qv 0) (qv 2) rfl)
  (qf (xw (qv 0) (qq Z2 (qN (qa_c (qk DWordOf (WR hr) (qa_c (qv 1) (qa_c qK qd))) qd)) (zK GReg rfl)) rfl)
  (qf (xw (qv 0) (qN qd) rfl)
  (qf (xw (qv 0) qe rfl)
  (qf (xw (qv 0) qe rfl)
  (qi (xw (qv 0) qe rfl)))))))),_,(qh (xA (qb 0) (qt (qa (qb 1) qc)))
   (qh (xA (qb 0) (qb 2))
   (qh (xA (qb 0) (qaJ (vB (qa (Yd (qa (qb 1) (qa W1 qc))) qc)) WS))
   (qh (xA (qb 0) (xV qc))
   (qh (xA (qb 0) WS)
   (qh (xA (qb 0) WS)
   (xA (qb 0) WS))))))),λus M Qu h=>?_⟩
 obtain⟨s,z,bits,ms,room,rfl,hz,em,R,h0,h4,q⟩:=h;have hs:=(Ue.mp em).1;symm;refine⟨z,bits,ms,rfl,hz, ?_⟩;symm;refine vL TP.c TP.n1 em (by decide) ?_;symm;refine vL TP.c TP.n2 (Ur hs) (by show 1<1000; decide) ?_;rw[Rn];symm;simp only[Kj];symm;refine⟨[layT bits ms, .str "none"],by simp only[frzs,(hz.set em).frz,kz], ?_⟩;rw[<-tOf_none];refine Qc R (G4 R).v ?_;symm;refine⟨⟨_,rfl⟩, ?_⟩;refine repN_at (by decide) (by decide) (by show 8<=sizeLine; decide) ?_;refine vL TP.c TP.n3 (xy hs) (by show 2<1000; decide) ?_;rw[jJ hs];symm;refine vL TP.c TP.n4 (by rw[Us]; exact xy hs) (by show 3<1000; decide) ?_;rw[Us,jJ hs];symm;refine vL TP.c TP.n5 (xy hs) (by show 4<1000; decide) ?_;rw[jJ hs];symm;refine vL TP.c TP.n6 (xy hs) (by show 5<1000; decide) ?_;rw[jJ hs];symm;refine vL TP.c TP.n7 (xy hs) (by show 6<1000; decide) ?_;rw[jJ hs];symm;simp only[Uj,Uq,Um,UP,Di];refine q _ ⟨by rw[Uj,Uq]; lia,λi hi hn=>?_⟩ ⟨ok_new R h0 h4,xy hs, ?_, ?_,by lia,by lia,by lia⟩ (by rw[Uj,Uq]; rfl)
 ·rw[Ug (by rw[Uq]; exact hi),Ul λz=>hn (by rw[z]; simp)]
 ·rw[Uo (by rw[Uq]; exact Uk _),Uq,DJ]
  rfl
 ·rw[Uo (by rw[Uq]; lia),Uq,UC]
  rfl
def Zc(C:Addr):List U->MM->UK->Prop:=λus M Q=>∃(s h kp:Nat)(A:Mc),us=[.m s]/\StA C M s h kp A/\Q (.m M.length) (M++[iM A.ws])
def G9(C:Addr):List U->MM->UK->Prop:=λus M Q=>∃(s h kp:Nat)(A:Mc),us=[.m s]/\StA C M s h kp A/\Q (.m M.length) (M++[iM A.os])
theorem Ys(F:Fun Ξ "words" "Store.words" zm f fd)(N:Nms mg)(TP:TxStore Ξ C):FnOk P w Ξ mg base CX0 1 f fd ["self"] (spU (Zc C)):=by
 refine F.zU ku (λus M Qu h=>?_) (λcdv A outer s H E hr=>?_)
 ·obtain⟨_,_,_,_,rfl,_⟩:=h
  rfl
 refine⟨_,(qi (qw (vp qP (by rfl) N.list zZ (qa_c (qG (qv 0) rfl) qd)))),_,(qy (zw (qa (qH (qb 0)) qc))),λus M Qu h=>?_⟩;obtain⟨s,h,kp,A,rfl,S,q⟩:=h;symm;simp only[jw];symm;refine vH TP S ?_;symm;exact⟨_,_,rfl, .inl (by simp only[qD,S.S.h0]),q⟩
theorem ok_soutN(F:Fun Ξ "outside" "Store.outside" vQ f fd)(N:Nms mg)(TP:TxStore Ξ C):FnOk P w Ξ mg base CX0 1 f fd ["self"] (spU (G9 C)):=by
 refine F.zU xR (λus M Qu h=>?_) (λcdv A outer s H E hr=>?_)
 ·obtain⟨_,_,_,_,rfl,_⟩:=h
  rfl
 refine⟨_,(qi (qw (vp qP (by rfl) N.list zZ (qa_c (qG (qv 0) rfl) qd)))),_,(qy (zw (qa (qH (qb 0)) qc))),λus M Qu h=>?_⟩;obtain⟨s,h,kp,A,rfl,S,q⟩:=h;symm;simp only[jw];symm;refine zN TP S ?_;symm;exact⟨_,_,rfl, .inl (by simp only[qD,S.S.k0]),q⟩
def Mc.anew(A:Mc):Mc:={ A with qu:=0,sl:=0,sw:=0 }
abbrev VI:Stmt:=top 49
theorem scStoreOf:FnScope ["laying","room","words","outside","store"] ["laying","room","words","outside"] (qg VI):=⟨rfl,rfl,rfl,by decide +kernel,rfl,by decide +kernel,by decide +kernel⟩
def KP(C:Addr):List U->MM->UK->Prop:=λus M Q=>∃(z:U)(w o:Nat)(A:Mc),us=[z, .p (.int A.room), .m w, .m o]/\LayU M z A.bits A.ms/\A.Ok/\0<=A.room/\M[w]?=some (iM A.ws)/\M[o]?=some (iM A.os)/\∀M' s h kp,Frm M M' []->M.length<=s->M.length<=h->M.length<=kp->StA C M' s h kp A.anew->Q (.m s) M'
theorem Yt(F:Fun Ξ "store_of" "store_of" VI f fd)(N:Nms mg)(TP:TxStore Ξ C)(TStore:Cls Ξ C)(KStore:MkDef P w Ξ mg base C "Store" 4 ["self","laying","room"] (spU (Zd C))):FnOk P w Ξ mg base CX0 6 f fd ["laying","room","words","outside"] (spU (KP C)):=by
 refine F.zU scStoreOf (λus M Qu h=>?_) (λcdv A outer s H E hr=>?_)
 ·obtain⟨_,_,_,_,rfl,_⟩:=h
  rfl
 refine⟨_,(qf (qB (i:=4) scStoreOf.nd rfl W6 (qe_mk KStore (WR hr) rfl (qa_c (qv 0) (qa_c (qv 1) qd))))
  (qf (xw (qv 4) (vp qP (by rfl) N.list zZ (qa_c (qv 2) qd)) rfl)
  (qf (xw (qv 4) (vp qP (by rfl) N.list zZ (qa_c (qv 3) qd)) rfl)
  (qi (qw (qv 4)))))),_,(qh (qx (JX (qa (qb 0) (qa (qb 1) qc))) (qm 4))
   (qh (xA (qb 4) (zw (qa (qb 2) qc)))
   (qh (xA (qb 4) (zw (qa (qb 3) qc)))
   (qy (qb 4))))),λus M Qu h=>?_⟩
 obtain⟨z,w9,o9,B,rfl,hz,hB,h0,hw,ho,q⟩:=h;symm;have hwl:=(Ue.mp hw).1;have hol:=(Ue.mp ho).1;refine⟨M.length,z,B.bits,B.ms,B.room,rfl,hz.app,by simp,hB.R,h0,hB.m,λM1 fr S hl=>⟨rfl, ?_⟩⟩;rw[Uj] at hl S;have hl:M1.length=M.length+3:=hl;have fr1:∀i,i<M.length->M1[i]?=M[i]?:=λi hi=>by
  rw[fr.2 i (by rw[Uj]; exact Uy hi (DG _ _)) (by simp; lia),Ug hi]
 have e1:=fr1 w9 hwl;have e2:=fr1 o9 hol;rw[hw] at e1;rw[ho] at e2;have S0:=S.S.s0;symm;simp only[jw];symm;refine⟨_,(B.ws.map T.int).map U.p,rfl, .inl (by simp only[qD,e1]), ?_⟩;have hs1:M.length<M1.length:=by lia
 refine vL TP.c TP.n3 (by rw[Ug hs1]; exact S0) (by show 7<1000; decide) ?_;rw[Z0,DN _ _ hs1];symm;simp only[jw];symm;refine⟨_,(B.os.map T.int).map U.p,rfl, .inl (by simp only[qD]; rw[Ug (by rw[Uq]; lia),Ul (by lia),e2]), ?_⟩;refine vL TP.c TP.n4 (by rw[Us]; exact xy hs1) (by show 7<1000; decide) ?_;rw[ZZ,Us,jJ hs1];symm;rw[Uj,Uq];refine q _ M.length M1.length (M1.length+1) ⟨by rw[Uj,Uq]; lia,λi hi _=>?_⟩ (Uk _) (by lia) (by lia) ⟨⟨hB.R,hB.l8,hB.g,hB.d,hB.b,hB.t,hB.f,hB.m⟩,xy hs1, ?_, ?_,by lia,by lia,by lia⟩
 ·rw[Ug (by rw[Uq]; lia),Ul (by lia)]
  exact fr1 i hi
 ·rw[Uo (by rw[Uq]; exact Uk _),Uq,DJ]
  rfl
 ·rw[Uo (by rw[Uq]; lia),Uq,UC]
  rfl
structure Lf(n d:Nat)(t:T):Prop where
 sh:(toD t).showable=true
 ls:(toD t).leavesShort 200=true
 wt:(toD t).weight<=n
 dp:(toD t).depth<=d
theorem Lf.show(h:Lf n d t)(hn:n<=60000)(hd:d<=60):ShowT t :=
 ⟨h.sh,UL h.dp hd,by
  have e:=PyData.shown_le 200 (by decide) _ h.ls;have:=h.wt;rw[sizeLine_eq];lia⟩
theorem Lf.mono(h:Lf n d t)(hn:n<=m)(hd:d<=e):Lf m e t:=⟨h.sh,h.ls,UL h.wt hn,UL h.dp hd⟩
theorem Lf.alls:∀{ts:List T},(∀t∈ts,Lf n d t)->PyData.showableAll (toDs ts)=true/\PyData.leavesShortAll 200 (toDs ts)=true/\PyData.weightAll (toDs ts)<=ts.length*(n+1)/\PyData.depthAll (toDs ts)<=d
 | [],_=>⟨rfl,rfl,UW _,UW _⟩
 |t::ts,h=>by
  obtain⟨h1,h2,h3,h4⟩:=Lf.alls λt' ht=>h t' (UR _ ht);have ht:=h t (UN ..);refine⟨?_, ?_, ?_, ?_⟩
  ·show((toD t).showable&&PyData.showableAll (toDs ts))=true
   rw[ht.sh,h1]; rfl
  ·show((toD t).leavesShort 200&&PyData.leavesShortAll 200 (toDs ts))=true
   rw[ht.ls,h2]; rfl
  ·show(toD t).weight+1+PyData.weightAll (toDs ts)<=_
   have:=ht.wt;rw[Um,Nat.add_mul,Nat.one_mul];lia
  ·exact Nat.max_le.mpr ⟨ht.dp,h4⟩
theorem Lf.lst(h:∀t∈ts,Lf n d t):Lf (ts.length*(n+1)) (d+1) (.lst ts):=by
 obtain⟨h1,h2,h3,h4⟩:=Lf.alls h;exact⟨h1,h2,h3,DP h4⟩
theorem Lf.tup(h:∀t∈ts,Lf n d t):Lf (ts.length*(n+1)) (d+1) (.tup ts):=by
 obtain⟨h1,h2,h3,h4⟩:=Lf.alls h;exact⟨h1,h2,h3,DP h4⟩
theorem Lf.int(h:Bt k i)(hk:k<=590):Lf k 0 (.int i):=by
 have hl:i.natAbs=0\/i.natAbs.log2<k:=by
  by_cases hz:i.natAbs=0
  ·exact .inl hz
  ·exact .inr ((Nat.log2_lt hz).mpr h)
 have h10:i.natAbs<10^199:=Uy h (UL (Du (by decide) hk) (by decide +kernel));have e:=int_text_length_le10 (k:=199) (by decide) h10;have es:(PyData.shown (.int i)).length<=200:=by
  show(Str.ofString (toString i)).length<=200;rw[PySem.ofString_length]; exact e
 refine⟨decide_eq_true (show i.natAbs.log2<1920 from hl.elim (λz=>by rw[z]; decide) (λz=>by lia)),decide_eq_true es, ?_,Uk _⟩;show(if i==0 then 0 else i.natAbs.log2+1)<=k;by_cases hz:i=0
 ·subst hz; exact UW _
 ·have:¬(i==0)=true:=by simpa using hz
  rw[if_neg this];rcases hl with z|z
  ·exact absurd (Int.natAbs_eq_zero.mp z) hz
  ·exact z
theorem Lf.bl:Lf 64 0 (.bl b):=⟨rfl,rfl,UW _,Uk _⟩
theorem Lf.str(h1:(x.cps.toList.all λc=>decide (c<16^8))=true)(h2:x.cps.size<=64):Lf 64 0 (.str x):=⟨rfl,h1,h2,Uk _⟩
abbrev Ws:Stmt:=top 59
theorem scAlike:FnScope ["found","due"] ["found","due"] (qg Ws):=⟨rfl,rfl,rfl,by decide +kernel,rfl,by decide +kernel,by decide +kernel⟩
def JO:List T->(T->Prop)->Prop:=λts Q=>∃t:T,ts=[t,t]/\ShowT t/\Q (.bl true)
theorem Gr(F:Fun Ξ "_law_alike" "_law_alike" Ws f fd)(NRepr:mg "repr" = none):FnOk P w Ξ mg base CX0 1 f fd ["found","due"] (spP JO):=by
 refine F.zP scAlike (λts Qt h=>?_) (λcdv A outer s H E hr=>?_)
 ·obtain⟨_,rfl,_⟩:=h
  rfl
 refine⟨_,(qi (qw (zz zB (vb (XH hr.gd hr.units) (by rfl) NRepr b_repr (qa_c (qv 0) qd)) (vb (XH hr.gd hr.units) (by rfl) NRepr b_repr (qa_c (qv 1) qd)) (qI _)))),_,(qy (qo ze (Q4 Ye (qa (qb 0) qc)) (Q4 Ye (qa (qb 1) qc)))),λts Qt h=>?_⟩;obtain⟨t,rfl,ht,q⟩:=h;symm;rw[Wx];refine⟨ht, ?_⟩;symm;rw[Wx];refine⟨ht, ?_⟩;symm;exact q
structure LfA(n d:Nat)(ts:List T):Prop where
 sh:PyData.showableAll (toDs ts)=true
 ls:PyData.leavesShortAll 200 (toDs ts)=true
 wt:PyData.weightAll (toDs ts)<=n
 dp:PyData.depthAll (toDs ts)<=d
theorem LfA.nil:LfA 0 d []:=⟨rfl,rfl,Uk _,UW _⟩
theorem LfA.cons(h:Lf n d t)(hs:LfA m d ts):LfA (n+1+m) d (t::ts):=by
 refine⟨?_, ?_, ?_,Nat.max_le.mpr ⟨h.dp,hs.dp⟩⟩
 ·show((toD t).showable&&PyData.showableAll (toDs ts))=true
  rw[h.sh,hs.sh]; rfl
 ·show((toD t).leavesShort 200&&PyData.leavesShortAll 200 (toDs ts))=true
  rw[h.ls,hs.ls]; rfl
 ·show(toD t).weight+1+PyData.weightAll (toDs ts)<=_
  have:=h.wt;have:=hs.wt;lia
theorem LfA.lst(h:LfA n d ts):Lf n (d+1) (.lst ts):=⟨h.sh,h.ls,h.wt,DP h.dp⟩
theorem LfA.tup(h:LfA n d ts):Lf n (d+1) (.tup ts):=⟨h.sh,h.ls,h.wt,DP h.dp⟩
theorem Lf.non:Lf 64 0 .non:=⟨rfl,rfl,UW _,Uk _⟩
theorem GN(h:∀x∈l,Bt k x)(hk:k<=590):Lf (l.length*(k+1)) 1 (vn l):=by
 have:=Lf.lst (n:=k) (d:=0) (ts:=l.map T.int) λt ht=>by
  obtain⟨x,hx,rfl⟩:=UQ.mp ht;exact Lf.int (h x hx) hk
 rw[Uh] at this;exact this
namespace Mc
variable {A:Mc}
theorem wds_bt(O:A.Ok):(∀x∈A.ws,Bt 60 x)/\∀x∈A.os,Bt 60 x:=by
 have hb:=O.R.b;have p:(2:Int)^A.bits.toNat<=2^(60:Int).toNat:=Zw (by lia);have e6:(2:Int)^(60:Int).toNat=2^60:=rfl;have key:∀x:Int,0<=x->x<2^A.bits.toNat->Bt 60 x:=λx h0 h1=>by
  show x.natAbs<2^60;lia
 refine⟨λx hx=>?_,λx hx=>?_⟩
 ·obtain⟨r,hr,rfl⟩:=UQ.mp hx
  have:=wd_ok O (O.g r hr);exact key _ this.1 this.2
 ·have:=os_ok O x hx
  exact key _ this.1 this.2
structure Cb(A:Mc)(n:Int):Prop where
 q:0<=A.qu/\A.qu<=n
 l:0<=A.sl/\A.sl<=n
 w:0<=A.sw/\A.sw<=n
 r:0<=A.room
def seen(A:Mc):T:=.lst [layT A.bits A.ms, .int A.room, .int A.qu, .int A.sl, .int A.sw,vn A.ws,vn A.os]
theorem lay_lf{bits:Int}{ms:List Mk3}(R:Right bits ms):Lf 2000 3 (layT bits ms):=by
 have hb:=R.b;have i0:∀{x:Int}{d:Nat},0<=x->x<2^59->Lf 60 d (.int x):=λh0 h1=>(Lf.int (show _<_ by lia) (by decide)).mono (Uk _) (UW _);have hm:Lf (5*(250+1)) 2 (.lst (ms.map vK)):=by
  have:=Lf.lst (n:=250) (d:=1) (ts:=ms.map vK) λt ht=>by
   obtain⟨m,hm,rfl⟩:=UQ.mp ht;have hk:m.1∈jF:=R.k.subset (Do (f:=(·.1)) hm);have hw:=R.w m hm;have hp:=R.p m hm;have hn:=zC m.1;have p:(2:Int)^m.2.1.toNat<=2^(40:Int).toNat:=Zw (by lia);have e6:(2:Int)^(40:Int).toNat=2^40:=rfl;have hs:Lf 64 0 (.str m.1):=by
    have:∀x∈jF,Lf 64 0 (.str x):=λx hx=>by
     simp only[jF,Uv,U8,or_false] at hx;rcases hx with rfl|rfl|rfl|rfl|rfl<;>exact Lf.str (by decide +kernel) (by decide +kernel)
    exact this _ hk
   exact(LfA.cons hs (LfA.cons (i0 (by lia) (by lia)) (LfA.cons (i0 hp.1 (by lia)) LfA.nil))).tup.mono (by decide) (by decide)
  rw[Uh,R.n] at this;exact this
 exact(LfA.cons (i0 (d:=2) (by lia) (by lia)) (LfA.cons hm LfA.nil)).tup.mono (by decide) (by decide)
theorem sh_seen(O:A.Ok)(h:A.Cb n)(hn:n<=100000):ShowT A.seen:=by
 obtain⟨b1,b2⟩:=wds_bt O;have l8:A.ws.length=8:=by unfold ws; rw[Uh,O.l8]
 have h4:=os_le O;have hm:=O.m;obtain⟨q0,q1⟩:=h.q;obtain⟨s0,s1⟩:=h.l;obtain⟨w0,w1⟩:=h.w;have i0:∀{x:Int},0<=x->x<=100000->Lf 60 3 (.int x):=λh0 h1=>(Lf.int (Bt.mono (n:=17) (show _<_ by lia) (by decide)) (by decide)).mono (Uk _) (by decide);have a1:=(GN b1 (by decide)).mono (m:=500) (e:=3) (by rw[l8]; decide) (by decide);have a2:=(GN b2 (by decide)).mono (m:=25000) (e:=3) (by lia) (by decide);exact((LfA.cons (lay_lf O.R) (LfA.cons (i0 h.r (by lia)) (LfA.cons (i0 q0 (by lia)) (LfA.cons (i0 s0 (by lia)) (LfA.cons (i0 w0 (by lia)) (LfA.cons a1 (LfA.cons a2 LfA.nil))))))).lst).show (by decide) (by decide)
end Mc
theorem StA.frm(S:StA C M s h kp A)(f:Frm M M' F)(hF:∀i∈[s,h,kp],i∉F):StA C M' s h kp A:=by
 have l:=λ{i:Nat} {o:MO} (e:M[i]?=some o)=>(Ue.mp e).1;exact⟨S.O,(f.2 s (l S.S.s0) (hF s (by simp))).trans S.S.s0,(f.2 h (l S.S.h0) (hF h (by simp))).trans S.S.h0,(f.2 kp (l S.S.k0) (hF kp (by simp))).trans S.S.k0,S.S.sh,S.S.sk,S.S.hk⟩
abbrev sSeen:Stmt:=top 60
theorem scSeen:FnScope ["store","found"] ["store"] (qg sSeen):=⟨rfl,rfl,rfl,by decide +kernel,rfl,by decide +kernel,by decide +kernel⟩
def gSeen(C:Addr):List U->MM->UK->Prop:=λus M Q=>∃(s h kp:Nat)(A:Mc),us=[.m s]/\StA C M s h kp A/\Q (.p A.seen) M
theorem ok_seen(F:Fun Ξ "_law_seen" "_law_seen" sSeen f fd)(TP:TxStore Ξ C)(TStore:Cls Ξ C)(MStoreWords:MDef P w Ξ mg base C "words" 1 ["self"] (spU (G8 C)))(MStoreOutside:MDef P w Ξ mg base C "outside" 1 ["self"] (spU (gSOut C))):FnOk P w Ξ mg base CX0 2 f fd ["store"] (spU (gSeen C)):=by
 refine F.zU scSeen (λus M Qu h=>?_) (λcdv A outer s H E hr=>?_)
 ·obtain⟨_,_,_,_,rfl,_⟩:=h
  rfl
 refine⟨_,(qf (qB (i:=1) scSeen.nd rfl W6 (qN (qa_c (qG (qv 0) rfl) (qa_c (qG (qv 0) rfl) (qa_c (qG (qv 0) rfl) (qa_c (qG (qv 0) rfl) (qa_c (qG (qv 0) rfl) qd)))))))
  (qi (qw (qq zH (qv 1) (qN (qa_c (vE MStoreWords TStore (qv 0) (WR hr)) (qa_c (vE MStoreOutside TStore (qv 0) (WR hr)) qd))))))),_,(qh (qx (vB (qa (qH (qb 0)) (qa (qH (qb 0)) (qa (qH (qb 0)) (qa (qH (qb 0)) (qa (qH (qb 0)) qc)))))) (qm 1))
   (qy (qo zA (qb 1) (vB (qa (qC (qb 0) qc) (qa (qC (qb 0) qc) qc)))))),λus M Qu h=>?_⟩
 obtain⟨s,h,kp,A,rfl,S,q⟩:=h;symm;refine v8 TP.c TP.n1 S.S.s0 (by rfl) ?_;symm;refine v8 TP.c TP.n2 S.S.s0 (by rfl) ?_;symm;refine v8 TP.c TP.n5 S.S.s0 (by rfl) ?_;symm;refine v8 TP.c TP.n6 S.S.s0 (by rfl) ?_;symm;refine v8 TP.c TP.n7 S.S.s0 (by rfl) ?_;symm;refine mS S (by rfl) ?_;refine⟨s,h,kp,A,rfl,S, ?_⟩;symm;refine mS S (by rfl) ?_;refine⟨s,h,kp,A,rfl,S, ?_⟩;symm;exact⟨by rw[sizeLine_eq]; decide,q⟩
abbrev Wq:Stmt:=top 61
theorem scBegun:FnScope ["laying","room","name","width","pattern"] ["laying","room"] (qg Wq):=⟨rfl,rfl,rfl,by decide +kernel,rfl,by decide +kernel,by decide +kernel⟩
def gBegun:List T->(T->Prop)->Prop:=λts Q=>∃(bits:Int)(ms:List Mk3)(room:Int),ts=[layT bits ms, .int room]/\Right bits ms/\Q (Mc.new bits ms room).seen
theorem ok_begun(F:Fun Ξ "_law_begun" "_law_begun" Wq f fd)(DMark:Def P w Ξ mg base "_law_mark" 1 ["laying","kind"] (spP YL)):FnOk P w Ξ mg base CX0 2 f fd ["laying","room"] (spP gBegun):=by
 refine F.zP scBegun (λts Qt h=>?_) (λcdv A outer s H E hr=>?_)
 ·obtain⟨_,_,_,rfl,_⟩:=h
  rfl
 refine⟨_,(qf (v5 (qk DMark (WR hr) (qa_c (qv 0) (qa_c qK qd))) (qg_t3K (Ξ:=Ξ) (i:=2) (j:=3) (k:=4) rfl scBegun.nd rfl rfl rfl rfl W6 W6 W6 W6 W6 W6))
  (qi (qw (qN (qa_c (qv 0) (qa_c (qv 1) (qa_c qe (qa_c qe (qa_c qe (qa_c (qq Z2 (qN (qa_c (qv 4) qd)) qe) (qa_c (qN qd) qd))))))))))),_,(qh (qx (ql (qa (qb 0) (qa W1 qc))) (cg_name3 2 3 4))
   (qy (vB (qa (qb 0) (qa (qb 1) (qa WS (qa WS (qa WS (qa (qo V1 (vB (qa (qb 4) qc)) WS) (qa (vB qc) qc)))))))))),λts Qt h=>?_⟩
 obtain⟨bits,ms,room,rfl,hR,q⟩:=h;obtain⟨m,hm⟩:=hR.kind (kind := "one") (by decide);symm;refine⟨bits,ms,"one", m,rfl,by rw[hR.n]; decide,hm, ?_⟩;symm;refine⟨_,8,rfl,rfl,by decide,by decide,by show 8<=sizeLine; decide, ?_⟩;have e:(Mc.new bits ms room).seen=T.lst [layT bits ms,T.int room,T.int 0,T.int 0,T.int 0, .lst (List.replicate (8:Int).toNat [T.int m.2.2]).flatten,T.lst []]:=by
  have ew:wdK bits ms ("one", 0)=m.2.2:=by
   unfold wdK;rw[hm.mk];show 0 % 2^(bits-m.2.1).toNat*2^m.2.1.toNat+m.2.2=m.2.2;rw[Int.zero_emod,Int.zero_mul,Bn]
  show T.lst [layT bits ms,T.int room,T.int 0,T.int 0,T.int 0,vn (List.replicate 8 (wdK bits ms ("one", 0))),vn []]=_;rw[ew];rfl
 rw[e] at q;exact q
abbrev Qq:Stmt:=top 62
theorem scListsOwn:FnScope ["store","ahead","some","words","twin","outside","other"] ["store"] (qg Qq):=⟨rfl,rfl,rfl,by decide +kernel,rfl,by decide +kernel,by decide +kernel⟩
def Xv(C:Addr):List U->MM->UK->Prop:=λus M Q=>∃(s h kp:Nat)(A:Mc),us=[.m s]/\StA C M s h kp A/\A.Cb 1000/\Q (.p (.bl true)) M
theorem JB(F:Fun Ξ "_law_lists_own" "_law_lists_own" Qq f fd)(N:Nms mg)(TStore:Cls Ξ C)(DSeen:Def P w Ξ mg base "_law_seen" 2 ["store"] (spU (gSeen C)))(DAlike:Def P w Ξ mg base "_law_alike" 1 ["found","due"] (spP JO))(NStoreWords:MDef P w Ξ mg base C "words" 1 ["self"] (spU (Zc C)))(NStoreOutside:MDef P w Ξ mg base C "outside" 1 ["self"] (spU (G9 C))):FnOk P w Ξ mg base CX0 3 f fd ["store"] (spU (Xv C)):=by
 refine F.zV scListsOwn (λus M Qu h=>?_) (λcdv A outer s H E hr=>?_)
 ·obtain⟨_,_,_,_,rfl,_⟩:=h
  rfl
 refine⟨_,(qf (qB (i:=1) scListsOwn.nd rfl W6 (qk DSeen (WR hr) (qa_c (qv 0) qd)))
  (qf (Qz PassesOwn.never rfl (vO (Ξ:=Ξ) rfl (qN (qa_c (vE NStoreWords TStore (qv 0) (WR hr)) (qa_c (vE NStoreOutside TStore (qv 0) (WR hr)) (qa_c (vE NStoreWords TStore (qv 0) (WR hr)) (qa_c (vE NStoreOutside TStore (qv 0) (WR hr)) qd)))))) (vD (i:=2) scListsOwn.nd rfl W6)
   (qf (vg (j6 PySem.F.slot_list_append PySem.F.type_list_append vJ (qv 2) (qa_c qe qd)))
   (qf (vg (QD PySem.F.plainAttrs_list PySem.F.slot_list_reverse PySem.F.type_list_reverse j9 (qv 2)))
   (qi (v6 (jz (zc (qk DAlike (WR hr) (qa_c (qk DSeen (WR hr) (qa_c (qv 0) qd)) (qa_c (qv 1) qd)))))
    (qi (qw ZY))
    va)))))
  (qf (v5 (vc (qa_c (vE NStoreWords TStore (qv 0) (WR hr)) (qa_c (vE NStoreWords TStore (qv 0) (WR hr)) (qa_c (vE NStoreOutside TStore (qv 0) (WR hr)) (qa_c (vE NStoreOutside TStore (qv 0) (WR hr)) qd))))) (qg_tup rfl (kO (vD (i:=3) scListsOwn.nd rfl W6) (kO (vD (i:=4) scListsOwn.nd rfl W6) (kO (vD (i:=5) scListsOwn.nd rfl W6) (kO (vD (i:=6) scListsOwn.nd rfl W6) qgs_nil))))))
  (qf (vg (j6 PySem.F.slot_list_append PySem.F.type_list_append vJ (qv 3) (qa_c qe qd)))
  (qf (vg (j6 PySem.F.slot_list_append PySem.F.type_list_append vJ (qv 5) (qa_c qe qd)))
  (qi (qw (Kw (zz (V3 (Ξ:=Ξ) rfl hr.units) (qv 3) (qq zH (qv 4) (qN (qa_c qe qd))) (qI _)) (WM (zz (V3 (Ξ:=Ξ) rfl hr.units) (qv 5) (qq zH (qv 6) (qN (qa_c qe qd))) (qI _))))))))))),_,(qh (qx (qt (qa (qb 0) qc)) (qm 1))
   (qh (Vp (zE (xV (qa (qC (qb 0) qc) (qa (qC (qb 0) qc) (qa (qC (qb 0) qc) (qa (qC (qb 0) qc) qc)))))) (qm 2)
   (qh (vi (ko vF (qb 2) (qa WS qc)))
   (qh (vi (Vr ji (qb 2)))
   (vX (jH (ct_b (ql (qa (qt (qa (qb 0) qc)) (qa (qb 1) qc)))))
   (qy (ce_c (.bl _)))
   qR))))
   (qh (qx (Q2 (qa (qC (qb 0) qc) (qa (qC (qb 0) qc) (qa (qC (qb 0) qc) (qa (qC (qb 0) qc) qc))))) (cg_name4 3 4 5 6))
   (qh (vi (ko vF (qb 3) (qa WS qc)))
   (qh (vi (ko vF (qb 5) (qa WS qc)))
   (qy (Zp (qo V2 (qb 3) (qo zA (qb 4) (vB (qa WS qc)))) (qo V2 (qb 5) (qo zA (qb 6) (vB (qa WS qc))))))))))),λus M M1 Qu hM h=>?_⟩
 obtain⟨s,h,kp,A,rfl,S,hc,q⟩:=h;subst hM;symm;refine⟨s,h,kp,A,rfl,S, ?_⟩;symm;have hsl:=(Ue.mp S.S.s0).1;have hhl:=(Ue.mp S.S.h0).1;have hkl:=(Ue.mp S.S.k0).1;have SA:∀L:MM,StA C (M1++L) s h kp A:=λL=>S.frm (F:=[]) ⟨by rw[Uj]; exact DG _ _,λi hi _=>Ug hi⟩ (λi _ z=>nomatch z);have sh:ShowT A.seen:=Mc.sh_seen S.O hc (by decide);refine mS S (by rfl) ⟨s,h,kp,A,rfl,S, ?_⟩;symm;refine mS (SA _) (by rfl) ⟨s,h,kp,A,rfl,SA _, ?_⟩;rw[Us];symm;refine mS (SA _) (by rfl) ⟨s,h,kp,A,rfl,SA _, ?_⟩;rw[Us];symm;refine mS (SA _) (by rfl) ⟨s,h,kp,A,rfl,SA _, ?_⟩;rw[Us];symm;rw[Us];have gA:∀(L:MM)(j:Nat),(M1++L)[M1.length+j]?=L[j]?:=λL j=>by rw[Uo (DG _ _),UC]
 have sA:∀(L:MM)(j:Nat)(x:MO),(M1++L).set (M1.length+j) x=M1++L.set j x:=λL j x=>by rw[Ds _ _ (DG _ _),UC]
 have hws:A.ws.length<=400:=by unfold Mc.ws; rw[Uh,S.O.l8]; decide
 have hos:A.os.length<=400:=Mc.os_le S.O;have il:∀l:List Int,((l.map T.int).map U.p).length=l.length:=λl=>by rw[Uh,Uh]
 simp only[Uj,Um,UP,Di];refine GZ (gA _ 4) ?_;refine ufor_mut (λi ρ M=>∃(L:MM)(x2:Option U),ρ=[some (.m s),some (.p A.seen),x2,none,none,none,none]/\M=M1++L/\L.length=5/\L[4]?=some (.lst [.m M1.length, .m (M1.length+1), .m (M1.length+2), .m (M1.length+3)])/\∀j,j<4->∃us,L[j]?=some (.lst us)/\us.length<=400+i) ⟨_,_,rfl,rfl,rfl,rfl,λj hj=>?_⟩ ?_ ?_ ?_
 ·rcases(show j=0\/j=1\/j=2\/j=3 by lia) with rfl|rfl|rfl|rfl
  ·exact⟨_,rfl,by rw[il]; lia⟩
  ·exact⟨_,rfl,by rw[il]; lia⟩
  ·exact⟨_,rfl,by rw[il]; lia⟩
  ·exact⟨_,rfl,by rw[il]; lia⟩
 ·rintro i ρ M ⟨L,x2,rfl,rfl,hl,h4,hj⟩
  rw[gA];exact h4
 ·rintro i z ρ M hz ⟨L,x2,rfl,rfl,hl,h4,hj⟩
  have hi4:i<4:=(Ue.mp hz).1;obtain rfl:z=.m (M1.length+i):=by
   rcases(show i=0\/i=1\/i=2\/i=3 by lia) with rfl|rfl|rfl|rfl<;>(cases hz; rfl)
  obtain⟨us,hu,hul⟩:=hj i hi4;symm;refine⟨_,rfl,⟨_,(gA L i).trans hu⟩, ?_⟩;symm;refine⟨us,(gA L i).trans hu, ?_⟩;symm;refine⟨by rw[sizeLine_eq]; lia, ?_⟩;rw[sA];symm;simp only[uMe0];symm;refine⟨_,us++[.p (.int 5)],rfl,by rw[gA,Ur (by lia)],rfl, ?_⟩;show gSeen C [U.m s] ((M1++L.set i (.lst (us++[.p (.int 5)]))).set (M1.length+i) _) _;rw[sA,Rn];symm;refine⟨s,h,kp,A,rfl,SA _, ?_⟩;symm;refine⟨A.seen,rfl,sh, ?_⟩;symm;refine⟨_,_,rfl,rfl,by rw[Uq]; exact hl,by rw[Ul (by lia)]; exact h4,λj hj'=>?_⟩;by_cases e:i=j
  ·subst e
   exact⟨_,Ur (by lia),by rw[R7,Uj]; show us.length+1<=_; lia⟩
  ·obtain⟨us',hu',hl'⟩:=hj j hj'
   exact⟨us',by rw[Ul e]; exact hu',by lia⟩
 ·rintro ρ M ⟨L,x2,rfl,rfl,hl,h4,hj⟩
  symm;refine mS (SA _) (by rfl) ⟨s,h,kp,A,rfl,SA _, ?_⟩
  try simp only[Us,U1,UV]
  symm;refine mS (SA _) (by rfl) ⟨s,h,kp,A,rfl,SA _, ?_⟩
  try simp only[Us,U1,UV]
  symm;refine mS (SA _) (by rfl) ⟨s,h,kp,A,rfl,SA _, ?_⟩
  try simp only[Us,U1,UV]
  symm;refine mS (SA _) (by rfl) ⟨s,h,kp,A,rfl,SA _, ?_⟩
  try simp only[Us,U1,UV]
  symm
  try simp only[Us,U1,UV]
  try simp only[Uj,Um,UP,Di,hl]
  have gB:∀(X:MM)(j:Nat),(M1++(L++X))[M1.length+(5+j)]?=X[j]?:=λX j=>by rw[gA,Uo (by lia)]; exact congrArg _ (by lia)
  have sB:∀(X:MM)(j:Nat)(x:MO),(M1++(L++X)).set (M1.length+(5+j)) x=M1++(L++X.set j x):=λX j x=>by rw[sA,Ds _ _ (by lia)]; exact congrArg (λn=>M1++(L++X.set n x)) (by lia)
  refine⟨_,_,_,_,by simp only[vI]; rw[gB _ 4]; rfl, ?_⟩;symm;refine⟨_,rfl,⟨_,gB _ 0⟩, ?_⟩;symm;refine⟨_,gB _ 0, ?_⟩;symm;refine⟨by rw[sizeLine_eq,il]; lia, ?_⟩;refine(sB _ 0 _).symm▸?_;symm;refine⟨_,rfl,⟨_,gB _ 2⟩, ?_⟩;symm;refine⟨_,gB _ 2, ?_⟩;symm;refine⟨by rw[sizeLine_eq,il]; lia, ?_⟩;refine(sB _ 2 _).symm▸?_;symm;have ap:∀(l:List Int)(k:Int),MO.lst ((l.map T.int).map U.p++[U.p (T.int k)])=iM (l++[k]):=λl k=>by simp[iM]
  have eq:∀(l:List Int)(k:Int)(Q:T->Prop),Q (.bl true)->sEqL false (vn (l++[k])) (.lst (l.map T.int++[T.int k])) Q:=λl k Q q=>by
   have e:l.map T.int++[T.int k]=(l++[k]).map T.int:=by simp
   rw[e];exact kZ (λx hx=>by obtain⟨y,_,rfl⟩:=UQ.mp hx; exact trivial) q
  rw[ap,ap];refine⟨_,_,xj (gB _ 1),rfl,_,_,rfl,rfl,by rw[sizeLine_eq,Uh]; show _+1<=_; lia,_,_,xj (gB _ 0),rfl,eq _ _ _ ?_⟩;symm;refine⟨_,_,xj (gB _ 3),rfl,_,_,rfl,rfl,by rw[sizeLine_eq,Uh]; show _+1<=_; lia,_,_,xj (gB _ 2),rfl,eq _ _ _ ?_⟩;exact⟨λi o hi e=>.inl (by rw[Ug hi] at e; exact e),_,Xx,by rw[List.take_left]; exact q⟩
namespace Mc
structure Kp(A B:Mc):Prop where
 e:B.bits=A.bits/\B.ms=A.ms/\B.room=A.room
 q:A.qu<=B.qu/\B.qu<=A.qu+1
 l:A.sl<=B.sl/\B.sl<=A.sl+1
 w:A.sw<=B.sw/\B.sw<=A.sw+1
variable {A B:Mc} {r q:Nat} {n:Int} {x y:Rf} {t:Th}
theorem i01{a:Int}:a<=a/\a<=a+1:=⟨UU _,by lia⟩
theorem i11{a:Int}:a<=a+1/\a+1<=a+1:=⟨by lia,UU _⟩
theorem kp_put:Kp A (A.put r x):=⟨⟨rfl,rfl,rfl⟩,i01,i01,i01⟩
theorem kp_set:Kp A (A.setT i t):=⟨⟨rfl,rfl,rfl⟩,i01,i01,i01⟩
theorem kp_swp:Kp A A.swp:=⟨⟨rfl,rfl,rfl⟩,i01,i01,i11⟩
theorem kp_mk{n:Nat}:Kp A (A.mk' n)/\(A.mk' n).qu=A.qu/\(A.mk' n).sl=A.sl/\(A.mk' n).rg=A.rg/\(A.mk' n).tb=A.tb:=by
 unfold mk';split
 ·exact⟨kp_swp,rfl,rfl,rfl,rfl⟩
 ·exact⟨⟨⟨rfl,rfl,rfl⟩,i01,i01,i01⟩,rfl,rfl,rfl,rfl⟩
theorem kp_num:Kp A (A.num r n).1/\(A.num r n).1.qu=A.qu/\(A.num r n).1.sl=A.sl:=by
 have h:=λk=>kp_mk (A:=A) (n:=k);unfold num;split
 ·exact⟨kp_put,rfl,rfl⟩
 split
 ·exact⟨⟨⟨rfl,rfl,rfl⟩,i01,i01,i01⟩,rfl,rfl⟩
 obtain⟨h,e1,e2,_⟩:=h (lcnt A.bits n+1);split
 ·exact⟨⟨h.e,h.q,h.l,h.w⟩,e1,e2⟩
 ·exact⟨h,e1,e2⟩
theorem kp_prd:Kp A (A.prd r x y).1:=by
 obtain⟨h,_⟩:=kp_mk (A:=A) (n:=3);unfold prd;split
 ·exact⟨h.e,h.q,h.l,h.w⟩
 ·exact h
theorem kp_two:Kp A (A.two r x y n).1:=by
 obtain⟨h,e1,e2⟩:=kp_num (A:=A) (r:=r) (n:=n);unfold two;split
 ·unfold cnt
  split
  ·exact⟨h.e,⟨by show A.qu<=_+1; lia,by show _+1<=A.qu+1; lia⟩,h.l,h.w⟩
  ·exact⟨h.e,h.q,⟨by show A.sl<=_+1; lia,by show _+1<=A.sl+1; lia⟩,h.w⟩
 ·exact h
def Nv(A:Mc)(q:Nat)(n:Int):Prop:=∃x,A.rg[q]?=some x/\A.nv x=some n
def Pv(A:Mc)(q:Nat):Prop:=∃i a b,A.rg[q]?=some (.t i)/\A.th i=.pr a b
theorem th_end:(A.lay r t).th A.tb.length=t:=by
 show(A.tb++[t]).getD A.tb.length (.far 0)=t;simp
theorem nv_th(h:∀i,x=.t i->B.th i=A.th i):B.nv x=A.nv x:=by
 cases x with
 |w x=>rfl
 |t i =>
  show(match B.th i with | .far n=>some n | .pr _ _=>none)=(match A.th i with | .far n=>some n | .pr _ _=>none);rw[h i rfl]
theorem num_nv(O:A.Ok)(hr:r<8)(h:(A.num r n).2=true):Nv (A.num r n).1 r n/\∀q m,q≠r->Nv A q m->Nv (A.num r n).1 q m:=by
 unfold num at h ⊢;split
 ·refine⟨⟨_,Ur (by rw[O.l8]; exact hr),show(if("small" : Str) = "small" then some n else none)=some n from if_pos rfl⟩,λq m hq ⟨x,h1,h2⟩=>⟨x,(Ul hq.symm).trans h1,h2⟩⟩
 rename_i hs;rw[if_neg hs] at h;split
 ·rename_i hg
  rw[if_pos hg] at h;cases h
 rename_i hg;rw[if_neg hg] at h;split
 ·obtain⟨_,_,_,e1,e2⟩:=kp_mk (A:=A) (n:=lcnt A.bits n+1)
  refine⟨⟨.t (A.mk' (lcnt A.bits n+1)).tb.length,Ur (by rw[e1,O.l8]; exact hr), ?_⟩,λq m hq ⟨x,h1,h2⟩=>⟨x, ?_, ?_⟩⟩
  ·show(match((A.mk' (lcnt A.bits n+1)).lay r (.far n)).th _ with | .far n=>some n | .pr _ _=>none)=some n
   rw[th_end]
  ·show((A.mk' (lcnt A.bits n+1)).rg.set r _)[q]?=_
   rw[Ul hq.symm,e1];exact h1
  ·rw[<-h2]
   refine nv_th λi ei=>?_;have hi:i<A.tb.length:=O.b i (by have:=O.g x (Ui h1); rw[ei] at this; exact this);show((A.mk' (lcnt A.bits n+1)).tb++[_]).getD i _=A.tb.getD i _;rw[e2];simp[Ug hi]
 ·rename_i hf
  rw[if_neg hf] at h;cases h
theorem two_nv(O:A.Ok)(hr:r<8)(h:(A.two r x y n).2=true):Nv (A.two r x y n).1 r n/\∀q m,q≠r->Nv A q m->Nv (A.two r x y n).1 q m:=by
 unfold two at h ⊢;split at h
 ·rename_i z
  rw[if_pos z];obtain⟨h1,h2⟩:=num_nv O hr z;have key:∀q m,Nv (A.num r n).1 q m->Nv ((A.num r n).1.cnt (x.isW&&y.isW&&zq A.sm n)) q m:=λq m ⟨x',a,b⟩=>by
   refine⟨x', ?_, ?_⟩
   ·unfold cnt; split<;>exact a
   ·rw[<-b]; exact nv_th λi _=>by unfold cnt; split<;>rfl
  exact⟨key _ _ h1,λq m hq hm=>key _ _ (h2 q m hq hm)⟩
 ·rename_i z
  exact absurd h z
theorem prd_pv(O:A.Ok)(hr:r<8)(h:(A.prd r x y).2=true):Pv (A.prd r x y).1 r:=by
 unfold prd at h ⊢;split
 ·obtain⟨_,_,_,e1,_⟩:=kp_mk (A:=A) (n:=3)
  exact⟨_,x,y,Ur (by rw[e1,O.l8]; exact hr),th_end⟩
 ·rename_i z
  rw[if_neg z] at h;cases h
theorem pv_put(h:Pv A q)(hq:r≠q):Pv (A.put r x) q:=by
 obtain⟨i,a,b,h1,h2⟩:=h;exact⟨i,a,b,(Ul hq).trans h1,h2⟩
theorem pv_set(O:A.Ok)(h1:A.rg[q]?=some (.t i)):Pv (A.setT i (.pr a b)) q:=by
 refine⟨i,a,b,h1, ?_⟩;have hi:i<A.tb.length:=O.b i (O.g _ (Ui h1));show(A.tb.set i _).getD i _=_;simp[hi]
theorem pv_of(h:A.th i=.pr a b):A.pv (.t i)=some (i,a,b):=by
 show(match A.th i with | .far _=>none | .pr a b=>some (i,a,b))=_;rw[h]
theorem small1(O:A.Ok):zq A.sm 1=true:=by
 obtain⟨m,hm⟩:=O.R.kind (kind := "small") (by decide);have h1:=O.R.w m hm.mem;have h2:=zC m.1;have e:A.sm=A.bits-m.2.1:=by unfold sm; rw[hm.mk]
 have p:(2:Int)^(1:Int).toNat<=2^(A.sm-1).toNat:=Zw (by lia);have p1:(2:Int)^(1:Int).toNat=2:=rfl;exact decide_eq_true ⟨by lia,by lia⟩
theorem Cb.up(h:A.Cb n)(k:Kp A B):B.Cb (n+1):=by
 obtain⟨_,_,e⟩:=k.e;have:=k.q; have:=k.l; have:=k.w; have:=h.q; have:=h.l; have:=h.w; have:=h.r;exact⟨by lia,by lia,by lia,by rw[e]; lia⟩
theorem rg_at(O:A.Ok)(hq:q<8):∃x,A.rg[q]?=some x:=⟨_,Uf (by rw[O.l8]; exact hq)⟩
end Mc
theorem bt20(h:x.natAbs<2^200):Bt 20000 x:=Bt.mono (n:=200) h (by decide)
structure Jd(C:Addr)(k s h0 kp0:Nat)(M0:MM)(A0:Mc)(M:MM)(h kp:Nat)(B:Mc)(n:Int):Prop where
 f:Frm M0 M [k,s,h0,kp0]
 o:∃o,M[k]?=some o/\BagO o
 a:Nw M0 h0 h
 b:Nw M0 kp0 kp
 S:StA C M s h kp B
 e:B.bits=A0.bits/\B.ms=A0.ms/\B.room=A0.room
 c:B.Cb n
 d:k≠s/\k≠h/\k≠kp
 l:k<M0.length/\s<M0.length
structure Fd(M0 M:MM)(h kp kf n:Nat):Prop where
 f:M[kf]?=some (.lst (List.replicate n (.p .non)))
 l:M0.length<=kf
 h:kf≠h
 k:kf≠kp
section
theorem Jd.go(J:Jd C k s h0 kp0 M0 A0 M h kp B n)(p:Mc.Kp B B')(f:Frm M M' [s,h,kp])(a:Nw M h h')(b:Nw M kp kp')(S:StA C M' s h' kp' B'):Jd C k s h0 kp0 M0 A0 M' h' kp' B' (n+1):=by
 obtain⟨o,ho,hb⟩:=J.o;have hl:=J.f.1;obtain⟨l1,l2⟩:=J.l;obtain⟨d1,d2,d3⟩:=J.d;have Ja:=J.a;have Jb:=J.b;unfold Nw at *;refine⟨J.f.trans f λi hi=>?_,⟨o,(f.2 k (by lia) (by simp; lia)).trans ho,hb⟩, ?_, ?_,S, ?_,J.c.up p, ?_,J.l⟩
 ·simp only[Uv,U8,or_false] at hi ⊢
  lia
 ·unfold Nw; lia
 ·unfold Nw; lia
 ·obtain⟨e1,e2,e3⟩:=p.e
  obtain⟨f1,f2,f3⟩:=J.e;exact⟨e1.trans f1,e2.trans f2,e3.trans f3⟩
 ·lia
theorem Jd.mono(J:Jd C k s h0 kp0 M0 A0 M h kp B n)(hn:n<=n'):Jd C k s h0 kp0 M0 A0 M h kp B n':=by
 obtain⟨h1,h2,h3,h4⟩:=J.c;exact⟨J.f,J.o,J.a,J.b,J.S,J.e,⟨by lia,by lia,by lia,h4⟩,J.d,J.l⟩
theorem Jd.fd(J:Jd C k s h0 kp0 M0 A0 M h kp B n)(D:Fd M0 M h kp kf m)(f:Frm M M' [s,h,kp])(a:Nw M h h')(b:Nw M kp kp'):Fd M0 M' h' kp' kf m:=by
 have hl:=(Ue.mp D.f).1;have h1:=D.l;have h2:=D.h;have h3:=D.k;obtain⟨_,l2⟩:=J.l;unfold Nw at *;exact⟨(f.2 kf hl (by simp; lia)).trans D.f,h1,by lia,by lia⟩
theorem Jd.keep(J:Jd C k s h0 kp0 M0 A0 M h kp B n)(f:Frm M M' F)(hF:∀i∈[s,h,kp],i∉F)(h0':∀i∈F,i=k\/M0.length<=i)(o:∃o,M'[k]?=some o/\BagO o):Jd C k s h0 kp0 M0 A0 M' h kp B n :=
 ⟨J.f.trans f λi hi=>(h0' i hi).elim (λz=>.inl (by simp[z])) .inr,o,J.a,J.b,J.S.frm f hF,J.e,J.c,J.d,J.l⟩
theorem Jd.bag(J:Jd C k s h0 kp0 M0 A0 M h kp B n){o:MO}(ho:BagO o):Jd C k s h0 kp0 M0 A0 (M.set k o) h kp B n:=by
 obtain⟨d1,d2,d3⟩:=J.d;refine J.keep (F:=[k]) ⟨by simp,λi _ hn=>Ul λz=>hn (by simp[z])⟩ (λi hi z=>?_) (λi z=>.inl (by simpa using z)) ⟨o,Ur (Uy J.l.1 J.f.1),ho⟩;simp only[Uv,U8,or_false] at hi z;lia
theorem Jd.push(J:Jd C k s h0 kp0 M0 A0 M h kp B n)(hm:us=List.replicate m (.p .non)):Jd C k s h0 kp0 M0 A0 (M++[.lst us]) h kp B n/\Fd M0 (M++[.lst us]) h kp M.length m:=by
 obtain⟨o,ho,hb⟩:=J.o;have hh:=(Ue.mp J.S.S.h0).1;have hk:=(Ue.mp J.S.S.k0).1;subst hm;exact⟨J.keep (F:=[]) ⟨by simp,λi hi _=>Ug hi⟩ (λi _ z=>nomatch z) (λi z=>nomatch z) ⟨o,(Ug (Uy J.l.1 J.f.1)).trans ho,hb⟩,by simp,J.f.1,by lia,by lia⟩
theorem Jd.app(J:Jd C k s h0 kp0 M0 A0 M h kp B n)(D:Fd M0 M h kp kf m)(hm:us=List.replicate (m+1) (.p .non)):Jd C k s h0 kp0 M0 A0 (M.set kf (.lst us)) h kp B n/\Fd M0 (M.set kf (.lst us)) h kp kf (m+1):=by
 obtain⟨o,ho,hb⟩:=J.o;have hl:=(Ue.mp D.f).1;have h1:=D.l;have h2:=D.h;have h3:=D.k;obtain⟨l1,l2⟩:=J.l;subst hm;refine⟨J.keep (F:=[kf]) ⟨by simp,λi _ hn=>Ul λz=>hn (by simp[z])⟩ (λi hi z=>?_) (λi z=>.inr (by simp at z; lia)) ⟨o,(Ul (by lia)).trans ho,hb⟩,Ur hl,h1,h2,h3⟩;simp only[Uv,U8,or_false] at hi z;lia
end
theorem XA(D:Fd M0 M h kp kf m)(hm:m<=16)(q:Qu (.p (.bl true)) M):OpS sRep M (.p (.lst [.non])) (.p (.int (m:Int))) λy M2=>OpS (sEqL false) M2 (.m kf) y Qu:=by
 have e:sn M (.m kf)=some (.lst (List.replicate m .non)):=by
  simp only[sn,D.f];rw[<-List.map_replicate,zj];rfl
 refine⟨_,_,rfl,rfl,_,_,rfl,rfl,by lia,by lia,by rw[sizeLine_eq,Dx]; show 1*m<=_; lia,_,_,e,rfl, ?_⟩;rw[Dx,List.flatten_replicate_singleton];exact kZ (λx hx=>by rw[RA hx]; exact trivial) q
theorem jq(D:Fd M0 M h kp kf m)(hm:m<=16)(q:Qu (.p (.bl true)) M):LenS qD M [.m kf] λy M2=>OpS sRep M2 (.p (.lst [.non])) y λy M2=>OpS (sEqL false) M2 (.m kf) y Qu :=
 jm D.f (by rw[RP]; exact XA D hm q)
section
theorem FnOk.calmU(F:FnOk P w Ξ mg base (CXe P w) k f fd ps (spX mg G))(h:∀us M Qu,G' us M Qu->G us M Qu λ_ _ _=>False):FnOk P w Ξ mg base CX0 k f fd ps (spU G'):=by
 have key:∀vs H Q E,spU G' vs H Q E->spX mg G vs H Q E0:=λvs H Q E ⟨A,ι,M,us,Qu,w0,r0,g,kk⟩ =>
  ⟨A,ι,M,us,Qu,_,w0,r0,h us M Qu g,kk,λ_ _ _ _ _ _ _ _ _ _ _ z=>z⟩
 exact⟨λvs H Q E z=>F.len vs H Q E0 (key vs H Q E z),λA outer s H args us vs Q E hr he hb hv hs=>codeAny_mono (F.run A outer s H args us vs Q E0 hr he hb hv (key vs H Q E hs)) λr s' q=>by
  cases r with
  |error e=>obtain⟨_,_,_,_,_,_,z⟩:=(show CXe P w outer H s E0 e s' from q); exact z.elim
  |ok fl=>cases fl<;>exact q⟩
end
abbrev jU:Stmt:=top 63
theorem scSomeDeeds:FnScope ["bag","store","found"] ["bag","store"] (qg jU):=⟨rfl,rfl,rfl,by decide +kernel,rfl,by decide +kernel,by decide +kernel⟩
def gNumC(C:Addr):List U->MM->UK->Prop:=λus M Q=>gNumS C us M Q λ_ _ _=>False
theorem ok_numC(F:Fun Ξ "number" "Store.number" zb f fd)(N:Nms mg)(TP:TxStore Ξ C)(TStore:Cls Ξ C)(ONoRoom:ExcC Ξ mg "NoRoom" CENoRoom)(DIsSmall:Def P w Ξ mg base "is_small" 3 ["laying","n"] (spP Ze))(DWordOf:Def P w Ξ mg base "word_of" 3 ["laying","worth"] (spP zO))(DIsGreat:Def P w Ξ mg base "is_great" 2 ["laying","n"] (spP Zf))(DRowsOf:Def P w Ξ mg base "rows_of" 2 ["laying","n"] (spP gRows))(MStoreMakeRoom:MDefX P w Ξ mg base C "make_room" 8 ["self","size"] (spX mg (KW C)))(MStoreLay:MDef P w Ξ mg base C "lay" 4 ["self","r","kind","thing"] (spU (gLayS C))):FnOk P w Ξ mg base CX0 9 f fd ["self","r","n"] (spU (gNumC C)):=FnOk.calmU (Gn F N TP TStore ONoRoom DIsSmall DWordOf DIsGreat DRowsOf MStoreMakeRoom MStoreLay) λ_ _ _ h=>h
def Vm(C:Addr):List U->MM->UK->Prop:=λus M Q=>∃(k s h kp:Nat)(o:MO)(A:Mc),us=[.m k, .m s]/\M[k]?=some o/\BagO o/\StA C M s h kp A/\A.Cb 0/\(k≠s/\k≠h/\k≠kp)/\∀M' h' kp' B,Jd C k s h kp M A M' h' kp' B 1000->Q (.p (.bl true)) M'
theorem Z5(F:Fun Ξ "_law_some_deeds" "_law_some_deeds" jU f fd)(N:Nms mg)(TStore:Cls Ξ C)(ONoRoom:ExcC Ξ mg "NoRoom" CENoRoom)(BNoRoom:mg "NoRoom" = some (.ref CENoRoom))(ENoRoom_NoRoom:W.exmOne Ξ (.ref CENoRoom) (.ref CENoRoom)=some true)(DDraw:Def P w Ξ mg base "_law_draw" 1 ["bag","many"] (spU JN))(MStoreOne:MDef P w Ξ mg base C "one" 4 ["self","r","text"] (spU (gSOne C)))(MStoreSign:MDef P w Ξ mg base C "sign" 4 ["self","r","k"] (spU (gSSign C)))(MStoreCopy:MDef P w Ξ mg base C "copy" 1 ["self","r","q"] (spU (gSCopy C)))(MStoreSweep:MDef P w Ξ mg base C "sweep" 7 ["self"] (spU (KO C)))(NStoreNumber:MDef P w Ξ mg base C "number" 9 ["self","r","n"] (spU (gNumC C)))(MStorePair:MDefX P w Ξ mg base C "pair" 9 ["self","r","q","p"] (spX mg (gSPair C)))(MStoreSetFirst:MDefX P w Ξ mg base C "set_first" 6 ["self","q","p"] (spX mg (gSSet C true)))(MStoreSetSecond:MDefX P w Ξ mg base C "set_second" 6 ["self","q","p"] (spX mg (gSSet C false)))(MStoreFirst:MDefX P w Ξ mg base C "first" 6 ["self","r","q"] (spX mg (gSGet C true)))(MStoreSecond:MDefX P w Ξ mg base C "second" 6 ["self","r","q"] (spX mg (gSGet C false)))(MStoreNumber:MDefX P w Ξ mg base C "number" 9 ["self","r","n"] (spX mg (gNumS C)))(MStorePlus:MDefX P w Ξ mg base C "plus" 11 ["self","r","q","p"] (spX mg (Vb C false (λ_ _=>True) (λa b=>a+b))))(MStoreLess:MDefX P w Ξ mg base C "less" 11 ["self","r","q","p"] (spX mg (Vb C false (λ_ _=>True) (λa b=>a-b))))(MStoreTimes:MDefX P w Ξ mg base C "times" 11 ["self","r","q","p"] (spX mg (Vb C false IntMulOk (λa b=>a*b))))(MStoreOver:MDefX P w Ξ mg base C "over" 11 ["self","r","q","p"] (spX mg (Vb C true (λa b=>Builtin.divisionGoesByPylong a b=false) Int.fdiv)))(MStoreRest:MDefX P w Ξ mg base C "rest" 11 ["self","r","q","p"] (spX mg (Vb C true (λ_ _=>True) Int.fmod))):FnOk P w Ξ mg base CX0 12 f fd ["bag","store"] (spU (Vm C)):=by
 refine F.zU scSomeDeeds (λus M Qu h=>?_) (λcdv A outer s H E hr=>?_)
 ·obtain⟨_,_,_,_,_,_,rfl,_⟩:=h
  rfl
 refine⟨_,(qf (qB (i:=2) scSomeDeeds.nd rfl W6 (qN (qa_c (qQ MStoreOne TStore (qv 1) (WR hr) (qa_c qe (qa_c qK qd))) (qa_c (qQ MStoreSign TStore (qv 1) (WR hr) (qa_c qe (qa_c (qk DDraw (WR hr) (qa_c (qv 0) (qa_c qe qd))) qd))) (qa_c (qQ MStoreCopy TStore (qv 1) (WR hr) (qa_c qe (qa_c (qk DDraw (WR hr) (qa_c (qv 0) (qa_c qe qd))) qd))) (qa_c (vE MStoreSweep TStore (qv 1) (WR hr)) qd))))))
  (qf (vg (j6 PySem.F.slot_list_append PySem.F.type_list_append vJ (qv 2) (qa_c (qQ NStoreNumber TStore (qv 1) (WR hr) (qa_c qe (qa_c qe qd))) qd)))
  (qf (qs_try (l:=[("NoRoom", _)]) ⟨rfl,rfl,rfl,rfl⟩ (λ_ _ =>
   (qZ (vM (qxe_lm PySem.F.slot_list_append PySem.F.type_list_append vJ (qv 2) (Qw (vf (qv 1) TStore MStorePair (WR hr) (qa_c qe (qa_c qe (qa_c qe qd)))) VW)))
   (qZ (WG (i:=2) scSomeDeeds.nd rfl (.inl rfl) (Qr zH (vR (qv 2)) (Js (Qw (vf (qv 1) TStore MStoreSetFirst (WR hr) (qa_c qe (qa_c qe qd))) (Qw (vf (qv 1) TStore MStoreSetSecond (WR hr) (qa_c qe (qa_c qe qd))) (Qw (vf (qv 1) TStore MStoreFirst (WR hr) (qa_c qe (qa_c qe qd))) (Qw (vf (qv 1) TStore MStoreSecond (WR hr) (qa_c qe (qa_c qe qd))) VW)))))))
   (qZ (WG (i:=2) scSomeDeeds.nd rfl (.inl rfl) (Qr zH (vR (qv 2)) (Js (Qw (vf (qv 1) TStore MStoreNumber (WR hr) (qa_c qe (qa_c (qq Kz qe qe) qd))) (Qw (vf (qv 1) TStore MStorePlus (WR hr) (qa_c qe (qa_c qe (qa_c qe qd)))) (Qw (vf (qv 1) TStore MStoreLess (WR hr) (qa_c qe (qa_c qe (qa_c qe qd)))) (Qw (vf (qv 1) TStore MStoreTimes (WR hr) (qa_c qe (qa_c qe (qa_c qe qd)))) VW)))))))
   (qY (WG (i:=2) scSomeDeeds.nd rfl (.inl rfl) (Qr zH (vR (qv 2)) (Js (Qw (vf (qv 1) TStore MStoreOver (WR hr) (qa_c qe (qa_c qe (qa_c qe qd)))) (Qw (vf (qv 1) TStore MStoreRest (WR hr) (qa_c qe (qa_c qe (qa_c qe qd)))) VW))))))))))
   (hh_cons BNoRoom (λ_=>(qh_hit ONoRoom.b ENoRoom_NoRoom (λ_=>(qi (qw (zz (V3 (Ξ:=Ξ) rfl hr.units) (qv 2) (qq Z2 (qN (qa_c xS qd)) (vb vZ (by rfl) N.len Vc (qa_c (qv 2) qd))) (qI _))))))) hh_nil))
  (qi (qw (zz (V3 (Ξ:=Ξ) rfl hr.units) (qv 2) (qq Z2 (qN (qa_c xS qd)) qe) (qI _))))))),_,(qh (qx (xV (qa (qC (qb 1) (qa WS (qa W1 qc))) (qa (qC (qb 1) (qa WS (qa (qt (qa (qb 0) (qa WS qc))) qc))) (qa (qC (qb 1) (qa WS (qa (qt (qa (qb 0) (qa WS qc))) qc))) (qa (qC (qb 1) qc) qc))))) (qm 2))
   (qh (vi (ko vF (qb 2) (qa (qC (qb 1) (qa WS (qa WS qc))) qc)))
   (qh (cs_try (qh (vo (cx_me vF (qb 2) (vW (vh (qb 1) (qa WS (qa WS (qa WS qc)))) Zk)))
   (qh (JW (JU (cx_0 (qb 2)) (qau (vW (vh (qb 1) (qa WS (qa WS qc))) (vW (vh (qb 1) (qa WS (qa WS qc))) (vW (vh (qb 1) (qa WS (qa WS qc))) (vW (vh (qb 1) (qa WS (qa WS qc))) Zk)))))))
   (qh (JW (JU (cx_0 (qb 2)) (qau (vW (vh (qb 1) (qa WS (qa (qo (v3 λ_ _=>.int _) WS WS) qc))) (vW (vh (qb 1) (qa WS (qa WS (qa WS qc)))) (vW (vh (qb 1) (qa WS (qa WS (qa WS qc)))) (vW (vh (qb 1) (qa WS (qa WS (qa WS qc)))) Zk)))))))
   (JW (JU (cx_0 (qb 2)) (qau (vW (vh (qb 1) (qa WS (qa WS (qa WS qc)))) (vW (vh (qb 1) (qa WS (qa WS (qa WS qc)))) Zk)))))))) (zh_cons (λ_=>(qy (qo V2 (qb 2) (qo V1 (vB (qa (ce_c .non) qc)) (Q3 (qa (qb 2) qc)))))) zh_nil))
   (qy (qo V2 (qb 2) (qo V1 (vB (qa (ce_c .non) qc)) WS)))))),λus M Qu h=>?_⟩
 obtain⟨k,s,h,kp,o,A,rfl,ho,hb,S,hc,hd,q⟩:=h;have hsl:=(Ue.mp S.S.s0).1;have hkl:=(Ue.mp ho).1;have J:Jd C k s h kp M A M h kp A 0:=⟨.refl,⟨o,ho,hb⟩, .inl rfl, .inl rfl,S,⟨rfl,rfl,rfl⟩,hc,hd,hkl,hsl⟩;walk_at "pk";refine mS J.S (by rfl) ?_;walk_at "pk";refine⟨s,h,kp,A,0,2,rfl,J.S,by decide,by decide,λM1 h1 kp1 f1 a1 b1 S1=>?_⟩;have J1:=J.go Mc.kp_put f1 a1 b1 S1;clear J S f1 a1 b1 S1;walk_at "pk";refine mS J1.S (by rfl) ?_;walk_at "pk";obtain⟨o1,ho1,hb1⟩:=J1.o;refine⟨k,o1,128,rfl,ho1,hb1,by decide,by decide,λx1 o2 x10 x11 hb2=>?_⟩;have J1':=J1.bag hb2;walk_at "pk";refine⟨s,h1,kp1,_,1,x1,rfl,J1'.S,by decide,x10,x11,λM2 h2 kp2 f2 a2 b2 S2=>?_⟩;have J2:=J1'.go Mc.kp_put f2 a2 b2 S2;clear J1 J1' f2 a2 b2 S2;walk_at "pk";refine mS J2.S (by rfl) ?_;walk_at "pk";obtain⟨o3,ho3,hb3⟩:=J2.o;refine⟨k,o3,8,rfl,ho3,hb3,by decide,by decide,λx2 o4 x20 x21 hb4=>?_⟩;have J2':=J2.bag hb4;walk_at "pk";obtain⟨j2,rfl⟩:∃j:Nat,x2=(j:Int):=⟨x2.toNat,by lia⟩;obtain⟨r2,hr2⟩:=Mc.rg_at (q:=j2) J2'.S.O (by lia);refine⟨s,h2,kp2,_,2,j2,r2,rfl,J2'.S,by decide,hr2,λM3 h3 kp3 f3 a3 b3 S3=>?_⟩;have J3:=J2'.go Mc.kp_put f3 a3 b3 S3;clear J2 J2' f3 a3 b3 S3;walk_at "pk";refine mS J3.S (by rfl) ?_;walk_at "pk";generalize((((A.put 0 _).put 1 _).put 2 _):Mc)=B3 at J3;refine⟨s,h3,kp3,B3.bits,B3.ms,B3.room,B3.ws,B3.os,B3.qu,B3.sl,B3.sw,B3.od.map B3.pl,rfl,J3.S.S,Mc.si J3.S.O,Mc.fit J3.S.O,λM4 h4 kp4 f4 n4 m4 S4=>?_⟩;rw[Mc.ws_swp J3.S.O,Mc.os_swp J3.S.O] at S4;have J4:=J3.go Mc.kp_swp ⟨f4.1,λi hi hn=>f4.2 i hi λz=>hn (by simp at z; simp[z])⟩ (.inr n4) (.inr m4) ⟨Mc.ok_swp J3.S.O,S4⟩;clear J3 f4 n4 m4 S4;walk_at "pk";obtain⟨J5,D5⟩:=J4.push (us:=[.p .non, .p .non, .p .non, .p .non]) (m:=4) rfl;clear J4;generalize M4++[MO.lst [.p .non, .p .non, .p .non, .p .non]]=M5 at *;generalize M4.length=kf at *;refine⟨kf,rfl,⟨_,D5.f⟩, ?_⟩;walk_at "pk";refine mS J5.S (by rfl) ?_;walk_at "pk";have hs1:zq B3.swp.sm 1=true:=Mc.small1 J5.S.O;have hn1:(B3.swp.num 3 1).2=true:=by unfold Mc.num; rw[if_pos hs1]
 refine⟨s,h4,kp4,_,3,1,rfl,J5.S,by decide,bt20 (by decide),λ_ M6 h6 kp6 f6 a6 b6 S6=>?_,λz=>absurd (hn1.symm.trans z) (by decide)⟩;have J6:=J5.go Mc.kp_num.1 f6 a6 b6 S6;have D6:=J5.fd D5 f6 a6 b6;clear J5 D5 f6 a6 b6 S6;refine⟨_,D6.f,by rw[sizeLine_eq]; decide, ?_⟩;obtain⟨J7,D7⟩:=J6.app D6 (us:=List.replicate 4 (.p .non)++[.p .non]) rfl;clear J6 D6;generalize M6.set kf _=M7 at *;generalize(B3.swp.num 3 1).1=B7 at *;walk_at "pk";refine⟨kf,rfl,⟨_,D7.f⟩, ?_⟩;walk_at "pk";refine mS J7.S (by rfl) ?_;walk_at "pk";obtain⟨x3,hx3⟩:=Mc.rg_at (q:=3) J7.S.O (by decide);obtain⟨x0,hx0⟩:=Mc.rg_at (q:=0) J7.S.O (by decide);refine⟨s,h6,kp6,B7,4,3,0,x3,x0,rfl,J7.S,by decide,hx3,hx0,λe8 M8 h8 kp8 f8 a8 b8 S8=>?_,λ_ M8 h8 kp8 f8 a8 b8 S8=>?_⟩
 rotate_left
 ·have J8:=J7.go Mc.kp_prd f8 a8 b8 S8
  have D8:=J7.fd D7 f8 a8 b8;refine⟨_,_,_,_,rfl,rfl,rfl, ?_⟩;walk_at "pk";exact jq D8 (by decide) (q _ _ _ _ (J8.mono (by decide)))
 obtain⟨B8,J8,P8⟩:∃B,Jd C k s h kp M A M8 h8 kp8 B 6/\Mc.Pv B 4:=⟨_,J7.go Mc.kp_prd f8 a8 b8 S8,Mc.prd_pv J7.S.O (by decide) e8⟩;have D8:=J7.fd D7 f8 a8 b8;clear J7 D7 f8 a8 b8 S8;refine⟨_,D8.f,by rw[sizeLine_eq]; decide, ?_⟩;obtain⟨J9,D9⟩:=J8.app D8 (us:=List.replicate 5 (.p .non)++[.p .non]) rfl;clear J8 D8;generalize M8.set kf _=M9 at *;walk_at "pk";refine mS J9.S (by rfl) ?_;walk_at "pk";obtain⟨i9,a9,b9,hi9,ht9⟩:=P8;obtain⟨y9,hy9⟩:=Mc.rg_at (q:=4) J9.S.O (by decide);refine⟨s,h8,kp8,B8,4,4, .t i9,y9,rfl,J9.S,hi9,hy9,λi a b e M10 h10 kp10 f a' b' S=>?_,λe=>absurd (e.symm.trans (Mc.pv_of ht9)) (λz=>nomatch z)⟩;obtain⟨e,_⟩:=Mc.pv_t e;cases e;obtain⟨B10,J10,P10⟩:∃B,Jd C k s h kp M A M10 h10 kp10 B 7/\Mc.Pv B 4:=⟨_,J9.go Mc.kp_set f a' b' S,Mc.pv_set J9.S.O hi9⟩;have D10:=J9.fd D9 f a' b';clear J9 D9 f a' b' S;walk_at "pk";refine mS J10.S (by rfl) ?_;walk_at "pk";obtain⟨i10,a10,b10,hi10,ht10⟩:=P10;obtain⟨y10,hy10⟩:=Mc.rg_at (q:=1) J10.S.O (by decide);refine⟨s,h10,kp10,B10,4,1, .t i10,y10,rfl,J10.S,hi10,hy10,λi a b e M11 h11 kp11 f a' b' S=>?_,λe=>absurd (e.symm.trans (Mc.pv_of ht10)) (λz=>nomatch z)⟩;obtain⟨e,_⟩:=Mc.pv_t e;cases e;obtain⟨B11,J11,P11⟩:∃B,Jd C k s h kp M A M11 h11 kp11 B 8/\Mc.Pv B 4:=⟨_,J10.go Mc.kp_set f a' b' S,Mc.pv_set J10.S.O hi10⟩;have D11:=J10.fd D10 f a' b';clear J10 D10 f a' b' S;walk_at "pk";refine mS J11.S (by rfl) ?_;walk_at "pk";obtain⟨i11,a11,b11,hi11,ht11⟩:=id P11;refine⟨s,h11,kp11,B11,5,4, .t i11,rfl,J11.S,by decide,hi11,λi a b e M12 h12 kp12 f a' b' S=>?_,λe=>absurd (e.symm.trans (Mc.pv_of ht11)) (λz=>nomatch z)⟩;obtain⟨B12,J12,P12⟩:∃B,Jd C k s h kp M A M12 h12 kp12 B 9/\Mc.Pv B 4:=⟨_,J11.go Mc.kp_put f a' b' S,Mc.pv_put P11 (by decide)⟩;have D12:=J11.fd D11 f a' b';clear J11 D11 f a' b' S;walk_at "pk";refine mS J12.S (by rfl) ?_;walk_at "pk";obtain⟨i12,a12,b12,hi12,ht12⟩:=id P12;refine⟨s,h12,kp12,B12,6,4, .t i12,rfl,J12.S,by decide,hi12,λi a b e M13 h13 kp13 f a' b' S=>?_,λe=>absurd (e.symm.trans (Mc.pv_of ht12)) (λz=>nomatch z)⟩;obtain⟨B13,J13,P13⟩:∃B,Jd C k s h kp M A M13 h13 kp13 B 10/\Mc.Pv B 4:=⟨_,J12.go Mc.kp_put f a' b' S,Mc.pv_put P12 (by decide)⟩;have D13:=J12.fd D12 f a' b';clear J12 D12 f a' b' S;walk_at "pk";refine⟨List.replicate 6 (.p .non), [.p .non, .p .non, .p .non, .p .non],by simp only[qD,D13.f],rfl,by rw[sizeLine_eq]; decide, ?_⟩;obtain⟨J14,D14⟩:=J13.push (us:=List.replicate 6 (.p .non)++[.p .non, .p .non, .p .non, .p .non]) (m:=10) rfl;clear J13 D13;generalize M13++[MO.lst (List.replicate 6 (.p .non)++_)]=M14 at *;generalize M13.length=kg at *;walk_at "pk";refine mS J14.S (by rfl) ?_;walk_at "pk";refine⟨⟨by decide,by decide,by decide⟩,s,h13,kp13,B13,7,10^20,rfl,J14.S,by decide,bt20 (by decide),λe M15 h15 kp15 f a' b' S=>?_,λ_ M15 h15 kp15 f a' b' S=>?_⟩
 rotate_left
 ·refine⟨_,_,_,_,rfl,rfl,rfl, ?_⟩
  walk_at "pk";exact jq (J14.fd D14 f a' b') (by decide) (q _ _ _ _ ((J14.go Mc.kp_num.1 f a' b' S).mono (by decide)))
 obtain⟨B15,J15,N15⟩:∃B,Jd C k s h kp M A M15 h15 kp15 B 11/\Mc.Nv B 7 (10^20):=⟨_,J14.go Mc.kp_num.1 f a' b' S,(Mc.num_nv J14.S.O (by decide) e).1⟩;have D15:=J14.fd D14 f a' b';clear J14 D14 f a' b' S e;walk_at "pk";refine mS J15.S (by rfl) ?_;walk_at "pk";obtain⟨x,hx,nx⟩:=id N15;refine⟨s,h15,kp15,B15,3,7,7,x,x,rfl,J15.S,by decide,hx,hx,λa b ea eb _=>?_,λz=>absurd (nx.symm.trans z) (λz=>nomatch z),λ_ _ z=>absurd (nx.symm.trans z) (λz=>nomatch z),λz=>nomatch z⟩;cases nx.symm.trans ea;cases nx.symm.trans eb;refine⟨trivial,bt20 (by decide),λe M16 h16 kp16 f a' b' S=>?_,λ_ M16 h16 kp16 f a' b' S=>?_⟩
 rotate_left
 ·refine⟨_,_,_,_,rfl,rfl,rfl, ?_⟩
  walk_at "pk";exact jq (J15.fd D15 f a' b') (by decide) (q _ _ _ _ ((J15.go Mc.kp_two f a' b' S).mono (by decide)))
 obtain⟨B16,J16,N16⟩:∃B,Jd C k s h kp M A M16 h16 kp16 B 12/\Mc.Nv B 7 (10^20)/\Mc.Nv B 3 (2*10^20):=⟨_,J15.go Mc.kp_two f a' b' S,((Mc.two_nv J15.S.O (by decide) e).2 7 _ (by decide) N15),(Mc.two_nv J15.S.O (by decide) e).1⟩;have D16:=J15.fd D15 f a' b';clear J15 D15 f a' b' S e;walk_at "pk";refine mS J16.S (by rfl) ?_;walk_at "pk";obtain⟨⟨x,hx,nx⟩,⟨y,hy,ny⟩⟩:=id N16;refine⟨s,h16,kp16,B16,5,7,3,x,y,rfl,J16.S,by decide,hx,hy,λa b ea eb _=>?_,λz=>absurd (nx.symm.trans z) (λz=>nomatch z),λ_ _ z=>absurd (ny.symm.trans z) (λz=>nomatch z),λz=>nomatch z⟩;cases nx.symm.trans ea;cases ny.symm.trans eb;refine⟨trivial,bt20 (by decide),λe M17 h17 kp17 f a' b' S=>?_,λ_ M17 h17 kp17 f a' b' S=>?_⟩
 rotate_left
 ·refine⟨_,_,_,_,rfl,rfl,rfl, ?_⟩
  walk_at "pk";exact jq (J16.fd D16 f a' b') (by decide) (q _ _ _ _ ((J16.go Mc.kp_two f a' b' S).mono (by decide)))
 obtain⟨B17,J17,N17⟩:∃B,Jd C k s h kp M A M17 h17 kp17 B 13/\Mc.Nv B 7 (10^20)/\Mc.Nv B 3 (2*10^20):=⟨_,J16.go Mc.kp_two f a' b' S,((Mc.two_nv J16.S.O (by decide) e).2 7 _ (by decide) N16.1),(Mc.two_nv J16.S.O (by decide) e).2 3 _ (by decide) N16.2⟩;have D17:=J16.fd D16 f a' b';clear J16 D16 f a' b' S e;walk_at "pk";refine mS J17.S (by rfl) ?_;walk_at "pk";obtain⟨⟨x,hx,nx⟩,⟨y,hy,ny⟩⟩:=id N17;refine⟨s,h17,kp17,B17,6,7,3,x,y,rfl,J17.S,by decide,hx,hy,λa b ea eb _=>?_,λz=>absurd (nx.symm.trans z) (λz=>nomatch z),λ_ _ z=>absurd (ny.symm.trans z) (λz=>nomatch z),λz=>nomatch z⟩;cases nx.symm.trans ea;cases ny.symm.trans eb;refine⟨by unfold IntMulOk; decide +kernel,bt20 (by decide),λe M18 h18 kp18 f a' b' S=>?_,λ_ M18 h18 kp18 f a' b' S=>?_⟩
 rotate_left
 ·refine⟨_,_,_,_,rfl,rfl,rfl, ?_⟩
  walk_at "pk";exact jq (J17.fd D17 f a' b') (by decide) (q _ _ _ _ ((J17.go Mc.kp_two f a' b' S).mono (by decide)))
 obtain⟨B18,J18,N18⟩:∃B,Jd C k s h kp M A M18 h18 kp18 B 14/\Mc.Nv B 7 (10^20)/\Mc.Nv B 3 (2*10^20):=⟨_,J17.go Mc.kp_two f a' b' S,((Mc.two_nv J17.S.O (by decide) e).2 7 _ (by decide) N17.1),(Mc.two_nv J17.S.O (by decide) e).2 3 _ (by decide) N17.2⟩;have D18:=J17.fd D17 f a' b';clear J17 D17 f a' b' S e;walk_at "pk";refine⟨List.replicate 10 (.p .non), [.p .non, .p .non, .p .non, .p .non],by simp only[qD,D18.f],rfl,by rw[sizeLine_eq]; decide, ?_⟩;obtain⟨J19,D19⟩:=J18.push (us:=List.replicate 10 (.p .non)++[.p .non, .p .non, .p .non, .p .non]) (m:=14) rfl;clear J18 D18;generalize M18++[MO.lst (List.replicate 10 (.p .non)++_)]=M19 at *;generalize M18.length=kj at *;walk_at "pk";refine mS J19.S (by rfl) ?_;walk_at "pk";obtain⟨⟨x,hx,nx⟩,⟨y,hy,ny⟩⟩:=id N18;refine⟨s,h18,kp18,B18,6,7,3,x,y,rfl,J19.S,by decide,hx,hy,λa b ea eb _=>?_,λz=>absurd (nx.symm.trans z) (λz=>nomatch z),λ_ _ z=>absurd (ny.symm.trans z) (λz=>nomatch z),λ_ a _ z=>absurd (ny.symm.trans z) (by decide)⟩;cases nx.symm.trans ea;cases ny.symm.trans eb;refine⟨Ru (by decide +kernel),bt20 (by decide),λe M20 h20 kp20 f a' b' S=>?_,λ_ M20 h20 kp20 f a' b' S=>?_⟩
 rotate_left
 ·refine⟨_,_,_,_,rfl,rfl,rfl, ?_⟩
  walk_at "pk";exact jq (J19.fd D19 f a' b') (by decide) (q _ _ _ _ ((J19.go Mc.kp_two f a' b' S).mono (by decide)))
 obtain⟨B20,J20,N20⟩:∃B,Jd C k s h kp M A M20 h20 kp20 B 15/\Mc.Nv B 7 (10^20)/\Mc.Nv B 3 (2*10^20):=⟨_,J19.go Mc.kp_two f a' b' S,((Mc.two_nv J19.S.O (by decide) e).2 7 _ (by decide) N18.1),(Mc.two_nv J19.S.O (by decide) e).2 3 _ (by decide) N18.2⟩;have D20:=J19.fd D19 f a' b';clear J19 D19 f a' b' S e;walk_at "pk";refine mS J20.S (by rfl) ?_;walk_at "pk";obtain⟨⟨x,hx,nx⟩,⟨y,hy,ny⟩⟩:=id N20;refine⟨s,h20,kp20,B20,6,7,3,x,y,rfl,J20.S,by decide,hx,hy,λa b ea eb _=>?_,λz=>absurd (nx.symm.trans z) (λz=>nomatch z),λ_ _ z=>absurd (ny.symm.trans z) (λz=>nomatch z),λ_ a _ z=>absurd (ny.symm.trans z) (by decide)⟩;cases nx.symm.trans ea;cases ny.symm.trans eb;refine⟨trivial,bt20 (by decide),λe M21 h21 kp21 f a' b' S=>?_,λ_ M21 h21 kp21 f a' b' S=>?_⟩
 rotate_left
 ·refine⟨_,_,_,_,rfl,rfl,rfl, ?_⟩
  walk_at "pk";exact jq (J20.fd D20 f a' b') (by decide) (q _ _ _ _ ((J20.go Mc.kp_two f a' b' S).mono (by decide)))
 obtain⟨B21,J21,N21⟩:∃B,Jd C k s h kp M A M21 h21 kp21 B 16/\Mc.Nv B 7 (10^20)/\Mc.Nv B 3 (2*10^20):=⟨_,J20.go Mc.kp_two f a' b' S,((Mc.two_nv J20.S.O (by decide) e).2 7 _ (by decide) N20.1),(Mc.two_nv J20.S.O (by decide) e).2 3 _ (by decide) N20.2⟩;have D21:=J20.fd D20 f a' b';clear J20 D20 f a' b' S e;walk_at "pk";refine⟨List.replicate 14 (.p .non), [.p .non, .p .non],by simp only[qD,D21.f],rfl,by rw[sizeLine_eq]; decide, ?_⟩;obtain⟨J22,D22⟩:=J21.push (us:=List.replicate 14 (.p .non)++[.p .non, .p .non]) (m:=16) rfl;clear J21 D21;generalize M21++[MO.lst (List.replicate 14 (.p .non)++_)]=M22 at *;generalize M21.length=kl at *;walk_at "pk";have z:=XA D22 (by decide) (q _ _ _ _ (J22.mono (by decide)));rw[rd_opS] at z;exact z
def Wi(Ξ:PySem.W.Frag):Sp:=λvs H Q _=>∃(a:Addr)(ns:List Int),vs=[.ref a]/\SqL Ξ H a (ns.map V.int)/\ns.length<=63/\∀H',Q (.bl true) H'
theorem law_okU{st:Stmt}(F:Fun Ξ "law" "law" st f fd)(S:FnScope N ["script"] (qg st))(hN:2<=N.length)(hbody:∀(cdv:Value)(A:Around)(outer:List Env)(s:Shared)(H:Hp)(E:XK),Room k (A.deeper (envOfC "law" (qg st) s.heap.objs.size f cdv)) ->
   ∃tR,QSs (cxOf CX0 P w Ξ mg base N "law" (qg st) f cdv A outer s H E).nox (vz st) (tSeq (tAsg (xi (spBag Ξ) [] E0 (xh (tVar 0) tNil)) (qM 1)) tR)/\∃uR,ZS tR uR/\∀o,BagO o->uR { nx:=λ_ _=>False,rt:=λz _=>z=.p (.bl true) } (none::some (.m 0)::List.replicate (N.length-2) none) [o]):FnOk P w Ξ mg base CX0 (k+1) f fd ["script"] (Wi Ξ):=by
 refine F.okQ S (λvs H Q E h=>?_) (λcdv A outer s H vs Q E hr h=>?_)
 ·obtain⟨_,_,rfl,_⟩:=h
  rfl
 ·obtain⟨a,ns,rfl,hS,hlen,k⟩:=h
  obtain⟨tR,hT,uR,hU,hq⟩:=hbody cdv A outer s H E hr;refine⟨_,hT, ?_⟩;have hN2:L2.start N [.ref a]=some (.ref a)::none::List.replicate (N.length-2) none:=by
   unfold L2.start;obtain⟨m,hm⟩:∃m,N.length=m+2:=⟨N.length-2,by lia⟩;rw[hm];rfl
  rw[hN2];simp only[tSeq,tAsg,xi,xh,tNil,tVar,qM,Dd,Option.some.injEq,exists_eq_left',UZ,DW,DX];refine⟨a,ns,rfl,hS,hlen,λb H1 hb s1 B1=>?_⟩;obtain⟨c,ns',i,a',st',n,hbb,hcc,r⟩:=id B1.ex;have ncb:c≠b:=Yg hbb hcc;obtain⟨o,hbo,ro,_⟩:=Yh (A:=λ_=>False) (ι:=[b]) B1 ⟨_,hbb⟩ (λz=>z.elim id λz=>ncb (by simpa using z));have w1:L2.Wd (λ_=>False) [b] H1 [o]:=⟨by simp,rfl,λx hx=>hx.elim,λx _ z=>z,λk a2 o2 e1 e2=>by
   match k,e1,e2 with
   |0,e1,e2=>cases e1; cases e2; exact ro
   |k+1,e1,_=>simp at e1⟩
  have env:EnvR (λ_=>False) [b] H1 (some (.ref a)::some (.ref b)::List.replicate (N.length-2) none) (none::some (.m 0)::List.replicate (N.length-2) none):=by
   refine .cons (λu e=>by cases e) (.cons (λu e=>by cases e; exact⟨_,rfl, .m rfl⟩) ?_);generalize N.length-2=m
   induction m with
   |zero=>exact .nil
   |succ m ih=>exact .cons (λu e=>by cases e) ih
  refine hU.h (λ_=>False) [b] _ H1 _ [o] _ { nx:=λ_ _=>False,rt:=λz _=>z=.p (.bl true) } w1 env ⟨λ_ _ _ _ _ _ _ _ q=>q.elim,λι v H2 u M _ _ ru q=>?_,λ_ _ _ _ _ _ _ _ q=>q.elim,λ_ _ _ _ _ _ _ _ q=>q.elim⟩ (hq o hbo);have q:u=.p (.bl true):=q;subst q;cases ru with
  |p r=>cases r; exact k H2
theorem drawL(B:BagO o)(h0:0<many)(h1:many.natAbs.log2<9000)(q:∀(found:Int)(o':MO),0<=found->found<many->BagO o'->Q (.p (.int found)) (o'::L)):JN [.m 0, .p (.int many)] (o::L) Q :=
 ⟨0,o,many,rfl,rfl,B,h0,h1,λf o' f0 f1 B'=>q f o' f0 f1 B'⟩
theorem at2(h0:0<=j)(h1:j<2):∃a,atI [T.int x,T.int y] j=some (.int a)/\(a=x\/a=y):=by
 rcases(show j=0\/j=1 by lia) with rfl|rfl
 ·exact⟨x,rfl, .inl rfl⟩
 ·exact⟨y,rfl, .inr rfl⟩
theorem layL(B:BagO o)(q:∀(o':MO)(bits:Int)(ms:List Mk3),BagO o'->Right bits ms->Q (.p (layT bits ms)) (o'::L)):JM [.m 0] (o::L) Q :=
 ⟨0,o,rfl,rfl,B,λo' bits ms B' R=>q o' bits ms B' R⟩
theorem KZ{ms:List Mk3}:∀x∈ms.map vK,flD (n+2) x:=λx hx=>by
 obtain⟨m,_,rfl⟩:=UQ.mp hx;intro y hy;rcases hy with _|⟨_,_|⟨_,_|⟨_,hy⟩⟩⟩
 ·exact trivial
 ·exact trivial
 ·exact trivial
 ·cases hy
theorem qah{l:List Int}:∀x∈l.map T.int,flD (n+1) x:=λx hx=>by
 obtain⟨m,_,rfl⟩:=UQ.mp hx;exact trivial
theorem Mc.Cb.mono{A:Mc}(h:A.Cb n)(hn:n<=m):A.Cb m:=by
 obtain⟨h1,h2,h3,h4⟩:=h;exact⟨by lia,by lia,by lia,h4⟩
abbrev sLaw:Stmt:=top 64
theorem scLaw:FnScope ["script","bag","laying","other","room","other_room","handed","store","second","ahead","given","kept","marks","third"] ["script"] (qg sLaw):=⟨rfl,rfl,rfl,by decide +kernel,rfl,by decide +kernel,by decide +kernel⟩
theorem ok_lawU(F:Fun Ξ "law" "law" sLaw f fd)(N:Nms mg)(TP:TxStore Ξ C)(TStore:Cls Ξ C)(KStore:MkDef P w Ξ mg base C "Store" 4 ["self","laying","room"] (spU (Zd C)))(DBag:Def P w Ξ mg base "_law_bag" 1 ["script"] (spBag Ξ))(DDraw:Def P w Ξ mg base "_law_draw" 1 ["bag","many"] (spU JN))(DLaying:Def P w Ξ mg base "_law_laying" 3 ["bag"] (spU JM))(DAlike:Def P w Ξ mg base "_law_alike" 1 ["found","due"] (spP JO))(DSeen:Def P w Ξ mg base "_law_seen" 2 ["store"] (spU (gSeen C)))(DBegun:Def P w Ξ mg base "_law_begun" 2 ["laying","room"] (spP gBegun))(DListsOwn:Def P w Ξ mg base "_law_lists_own" 3 ["store"] (spU (Xv C)))(DSomeDeeds:Def P w Ξ mg base "_law_some_deeds" 12 ["bag","store"] (spU (Vm C)))(DStoreOf:Def P w Ξ mg base "store_of" 6 ["laying","room","words","outside"] (spU (KP C)))(NStoreWords:MDef P w Ξ mg base C "words" 1 ["self"] (spU (Zc C)))(NStoreOutside:MDef P w Ξ mg base C "outside" 1 ["self"] (spU (G9 C)))(MStoreOne:MDef P w Ξ mg base C "one" 4 ["self","r","text"] (spU (gSOne C)))(MStoreSweep:MDef P w Ξ mg base C "sweep" 7 ["self"] (spU (KO C)))(MStoreTold:MDef P w Ξ mg base C "told" 5 ["self","q"] (spU (ky C))):FnOk P w Ξ mg base CX0 13 f fd ["script"] (Wi Ξ):=by
 refine law_okU F scLaw (by decide) (λcdv A outer s H E hr=>?_);refine⟨_,(qf (qB (i:=1) scLaw.nd rfl W6 (qk DBag (WR hr) (qa_c (qv 0) qd)))
  (qf (qs_par (i:=2) (j:=3) rfl scLaw.nd rfl rfl (by decide) rfl rfl (qa_c (qk DLaying (WR hr) (qa_c (qv 1) qd)) (qa_c (qk DLaying (WR hr) (qa_c (qv 1) qd)) qd)) rfl)
  (qf (qs_par (i:=4) (j:=5) rfl scLaw.nd rfl rfl (by decide) rfl rfl (qa_c (qk DDraw (WR hr) (qa_c (qv 1) (qa_c qe qd))) (qa_c (qA (Ua Ξ) (qN (qa_c (qk DDraw (WR hr) (qa_c (qv 1) (qa_c qe qd))) (qa_c qe qd))) (qk DDraw (WR hr) (qa_c (qv 1) (qa_c qe qd))) (λ_ _=>rfl)) qd)) rfl)
  (qf (qB (i:=6) scLaw.nd rfl W6 (vc (qa_c (qA (Ub Ξ) (qv 2) qe (λ_ _=>rfl)) (qa_c (vp qP (by rfl) N.list zZ (qa_c (qA (Ub Ξ) (qv 2) qe (λ_ _=>rfl)) qd)) qd))))
  (qf (qB (i:=7) scLaw.nd rfl W6 (qe_mk KStore (WR hr) rfl (qa_c (qv 6) (qa_c (qv 4) qd))))
  (qf (qB (i:=8) scLaw.nd rfl W6 (qe_mk KStore (WR hr) rfl (qa_c (qv 3) (qa_c (qv 5) qd))))
  (qf (v6 (Q9 (WJ (jz (zc (qk DAlike (WR hr) (qa_c (qk DSeen (WR hr) (qa_c (qv 7) qd)) (qa_c (qk DBegun (WR hr) (qa_c (qv 2) (qa_c (qv 4) qd))) qd))))) (ZQ (qF (op_neTK (Ξ:=Ξ) rfl hr.units) (qv 6) (qv 2) (qI _)))))
   (qi (qw ZY))
   va)
  (qf (vg (QD PySem.F.plainAttrs_list PySem.F.slot_list_reverse PySem.F.type_list_reverse j9 (qA (Ub Ξ) (qv 6) qe (λ_ _=>rfl))))
  (qf (v6 (Q9 (WJ (jz (zc (qk DAlike (WR hr) (qa_c (qk DSeen (WR hr) (qa_c (qv 8) qd)) (qa_c (qk DBegun (WR hr) (qa_c (qv 3) (qa_c (qv 5) qd))) qd))))) (ZQ (jz (zc (qk DListsOwn (WR hr) (qa_c (qv 8) qd)))))))
   (qi (qw ZY))
   va)
  (qf (v6 (Q9 (WJ (jz (zc (qk DSomeDeeds (WR hr) (qa_c (qv 1) (qa_c (qv 8) qd))))) (ZQ (jz (zc (qk DListsOwn (WR hr) (qa_c (qv 8) qd)))))))
   (qi (qw ZY))
   va)
  (qf (v6 (Q9 (WJ (jz (zc (qk DAlike (WR hr) (qa_c (qk DSeen (WR hr) (qa_c (qv 7) qd)) (qa_c (qk DBegun (WR hr) (qa_c (qv 2) (qa_c (qv 4) qd))) qd))))) (ZQ (qF (Gc (Ξ:=Ξ) rfl hr.units) (qe_rev (Ξ:=Ξ) rfl (qA (Ub Ξ) (qv 6) qe (λ_ _=>rfl))) (qA (Ub Ξ) (qv 2) qe (λ_ _=>rfl)) (qI _)))))
   (qi (qw ZY))
   va)
  (qf (qB (i:=9) scLaw.nd rfl W6 (qk DSeen (WR hr) (qa_c (qv 8) qd)))
  (qf (qB (i:=10) scLaw.nd rfl W6 (qN (qa_c (vE NStoreWords TStore (qv 8) (WR hr)) (qa_c (vE NStoreOutside TStore (qv 8) (WR hr)) qd))))
  (qf (qB (i:=11) scLaw.nd rfl W6 (qN (qa_c (vp qP (by rfl) N.list zZ (qa_c (qA (Ua Ξ) (qv 10) qe (λ_ _=>rfl)) qd)) (qa_c (vp qP (by rfl) N.list zZ (qa_c (qA (Ua Ξ) (qv 10) qe (λ_ _=>rfl)) qd)) qd))))
  (qf (qB (i:=12) scLaw.nd rfl W6 (vp qP (by rfl) N.list zZ (qa_c (qA (Ub Ξ) (qv 3) qe (λ_ _=>rfl)) qd)))
  (qf (qB (i:=13) scLaw.nd rfl W6 (qk DStoreOf (WR hr) (qa_c (vc (qa_c (qA (Ub Ξ) (qv 3) qe (λ_ _=>rfl)) (qa_c (qv 12) qd))) (qa_c (qv 5) (qa_c (qA (Ua Ξ) (qv 10) qe (λ_ _=>rfl)) (qa_c (qA (Ua Ξ) (qv 10) qe (λ_ _=>rfl)) qd))))))
  (qf (vg (QD PySem.F.plainAttrs_list PySem.F.slot_list_clear PySem.F.type_list_clear KG (qv 12)))
  (qf (v6 (Q9 (WJ (qF (Gc (Ξ:=Ξ) rfl hr.units) (qv 10) (qv 11) (qI _)) (ZQ (jz (zc (qk DAlike (WR hr) (qa_c (qk DSeen (WR hr) (qa_c (qv 13) qd)) (qa_c (qq zH (qN (qa_c (qv 3) (qa_c (qv 5) (qa_c qe (qa_c qe (qa_c qe qd)))))) (qv 11)) qd))))))))
   (qi (qw ZY))
   va)
  (qf (vg (QD PySem.F.plainAttrs_list PySem.F.slot_list_reverse PySem.F.type_list_reverse j9 (qA (Ua Ξ) (qv 10) qe (λ_ _=>rfl))))
  (qf (vg (QD PySem.F.plainAttrs_list PySem.F.slot_list_clear PySem.F.type_list_clear KG (qA (Ua Ξ) (qv 10) qe (λ_ _=>rfl))))
  (qf (v6 (jz (zc (qk DAlike (WR hr) (qa_c (qk DSeen (WR hr) (qa_c (qv 13) qd)) (qa_c (qq zH (qN (qa_c (qv 3) (qa_c (qv 5) (qa_c qe (qa_c qe (qa_c qe qd)))))) (qv 11)) qd)))))
   (qi (qw ZY))
   va)
  (qf (vg (qQ MStoreOne TStore (qv 13) (WR hr) (qa_c qe (qa_c qK qd))))
  (qf (vg (vE MStoreSweep TStore (qv 13) (WR hr)))
  (qi (qw (Kw (qk DAlike (WR hr) (qa_c (qk DSeen (WR hr) (qa_c (qv 8) qd)) (qa_c (qv 9) qd))) (Kw (zz zB (qQ MStoreTold TStore (qv 13) (WR hr) (qa_c qe qd)) qK (qI _)) (WM (qk DListsOwn (WR hr) (qa_c (qv 13) qd)))))))))))))))))))))))))))))),_,(qh (cs_par (qa (qt (qa (qb 1) qc)) (qa (qt (qa (qb 1) qc)) qc)))
   (qh (cs_par (qa (qt (qa (qb 1) (qa WS qc))) (qa (ve (vB (qa (qt (qa (qb 1) (qa WS qc))) (qa WS qc))) (qt (qa (qb 1) (qa WS qc)))) qc)))
   (qh (qx (Q2 (qa (qW (qb 2) WS) (qa (zw (qa (qW (qb 2) WS) qc)) qc))) (qm 6))
   (qh (qx (JX (qa (qb 6) (qa (qb 4) qc))) (qm 7))
   (qh (qx (JX (qa (qb 3) (qa (qb 5) qc))) (qm 8))
   (qh (vX (qaz (jH (ct_b (ql (qa (qt (qa (qb 7) qc)) (qa (ql (qa (qb 2) (qa (qb 4) qc))) qc))))) (qL (ce_neFT (qb 6) (qb 2))))
   (qy (ce_c (.bl _)))
   qR)
   (qh (vi (Vr ji (qW (qb 6) WS)))
   (qh (vX (qaz (jH (ct_b (ql (qa (qt (qa (qb 8) qc)) (qa (ql (qa (qb 3) (qa (qb 5) qc))) qc))))) (jH (ct_b (qt (qa (qb 8) qc)))))
   (qy (ce_c (.bl _)))
   qR)
   (qh (vX (qaz (jH (ct_b (qt (qa (qb 1) (qa (qb 8) qc))))) (jH (ct_b (qt (qa (qb 8) qc)))))
   (qy (ce_c (.bl _)))
   qR)
   (qh (vX (qaz (jH (ct_b (ql (qa (qt (qa (qb 7) qc)) (qa (ql (qa (qb 2) (qa (qb 4) qc))) qc))))) (qL (qo Ga (ce_revL (qW (qb 6) WS)) (qW (qb 2) WS))))
   (qy (ce_c (.bl _)))
   qR)
   (qh (qx (qt (qa (qb 8) qc)) (qm 9))
   (qh (qx (xV (qa (qC (qb 8) qc) (qa (qC (qb 8) qc) qc))) (qm 10))
   (qh (qx (vB (qa (Q4 k9 (qa (ve (qb 10) WS) qc)) (qa (Q4 k9 (qa (ve (qb 10) WS) qc)) qc))) (qm 11))
   (qh (qx (zw (qa (qW (qb 3) WS) qc)) (qm 12))
   (qh (qx (qt (qa (Q2 (qa (qW (qb 3) WS) (qa (qb 12) qc))) (qa (qb 5) (qa (ve (qb 10) WS) (qa (ve (qb 10) WS) qc))))) (qm 13))
   (qh (vi (Vr Xf (qb 12)))
   (qh (vX (qaz (qL (ce_neF (qb 10) (qb 11))) (jH (ct_b (ql (qa (qt (qa (qb 13) qc)) (qa (qo zA (vB (qa (qb 3) (qa (qb 5) (qa WS (qa WS (qa WS qc)))))) (qb 11)) qc))))))
   (qy (ce_c (.bl _)))
   qR)
   (qh (vi (Vr ji (ve (qb 10) WS)))
   (qh (vi (Vr Xf (ve (qb 10) WS)))
   (qh (vX (jH (ct_b (ql (qa (qt (qa (qb 13) qc)) (qa (qo zA (vB (qa (qb 3) (qa (qb 5) (qa WS (qa WS (qa WS qc)))))) (qb 11)) qc)))))
   (qy (ce_c (.bl _)))
   qR)
   (qh (vi (qC (qb 13) (qa WS (qa W1 qc))))
   (qh (vi (qC (qb 13) qc))
   (qy (Zp (ql (qa (qt (qa (qb 8) qc)) (qa (qb 9) qc))) (Zp (qo ze (qC (qb 13) (qa WS qc)) W1) (qt (qa (qb 13) qc))))))))))))))))))))))))))),λo hB=>?_⟩
 show uSeq _ _ _ [none,some (.m 0),none,none,none,none,none,none,none,none,none,none,none,none] _;symm;refine layL hB λo1 bits ms B1 R=>?_;symm;refine layL B1 λo2 bits2 ms2 B2 R2=>?_;symm;refine drawL B2 (by decide) (by decide) λroom o3 r0 r1 B3=>?_;symm;refine drawL B3 (by decide) (by decide) λd1 o4 d10 d11 B4=>?_;symm;refine drawL B4 (by decide) (by decide) λd2 o5 d20 d21 B5=>?_;symm;obtain⟨room2,hv,hv2⟩:=at2 (x:=d1) (y:=400) d20 d21;refine vU hv ?_;have hr2:0<=room2/\room2<=400:=by lia
 clear hv hv2;walk_at "pk";refine⟨_,(ms.map vK).map U.p,rfl, .inl rfl, ?_⟩;walk_at "pk";refine⟨3, .m 2,bits,ms,room,rfl, .inr ⟨2,1,rfl,rfl,rfl⟩,rfl,R,r0,by lia,λM1 f1 S1 l1=>⟨rfl, ?_⟩⟩;have l1:M1.length=6:=l1;have S1:StA C M1 3 4 5 _:=S1;walk_at "pk";refine⟨M1.length, .p (layT bits2 ms2),bits2,ms2,room2,rfl, .inl rfl,by simp,R2,hr2.1,hr2.2,λM2 f2 S2 l2=>⟨rfl, ?_⟩⟩;rw[Uj,l1] at l2 S2;have l2:M2.length=9:=l2;have S2:StA C M2 6 7 8 _:=S2;rw[l1];rw[l1] at f2;have f3:∀i,i<6->M2[i]?=M1[i]?:=λi hi=>by
  rw[f2.2 i (by rw[Uj,l1]; exact Uy hi (by show 6<=7; decide)) (by simp; lia),Ug (by lia)]
 have g0:M2[0]?=some o5:=(f3 0 (by decide)).trans (f1.2 0 (by show 0<4; decide) (by decide));have g1:M2[1]?=some (.lst ((ms.map vK).map U.p)):=(f3 1 (by decide)).trans (f1.2 1 (by show 1<4; decide) (by decide));have g2:M2[2]?=some (.tup [.p (.int bits), .m 1]):=(f3 2 (by decide)).trans (f1.2 2 (by show 2<4; decide) (by decide));have S1:StA C M2 3 4 5 (Mc.new bits ms room):=S1.frm (F:=[]) ⟨by lia,λi hi _=>f3 i (by lia)⟩ (λi _ z=>nomatch z);clear f1 f2 f3 l1;have c1:(Mc.new bits ms room).Cb 0:=⟨⟨UU _,UU _⟩,⟨UU _,UU _⟩,⟨UU _,UU _⟩,r0⟩;have c2:(Mc.new bits2 ms2 room2).Cb 0:=⟨⟨UU _,UU _⟩,⟨UU _,UU _⟩,⟨UU _,UU _⟩,hr2.1⟩;have sh1:=Mc.sh_seen S1.O c1 (by decide);have sh2:=Mc.sh_seen S2.O c2 (by decide);walk_at "pk";refine⟨3,4,5,_,rfl,S1, ?_⟩;walk_at "pk";refine⟨bits,ms,room,rfl,R, ?_⟩;walk_at "pk";refine⟨_,rfl,sh1, ?_⟩;walk_at "pk";refine⟨_,_,LayU.frz (n:=4) (.inr ⟨2,1,rfl,g2,g1⟩),rfl,qaj (λx hx=>?_) ?_⟩
 ·rcases hx with _|⟨_,_|⟨_,hx⟩⟩
  ·exact trivial
  ·exact KZ
  ·cases hx
 walk_at "pk";refine jn (us:=[.p (.int bits), .m 1]) (by simp only[vI,g2]) rfl ⟨1,_,rfl,g1,rfl, ?_⟩;walk_at "pk";have f3:Frm M2 (M2.set 1 (.lst ((ms.map vK).map U.p).reverse)) [1]:=⟨by simp,λi _ hn=>Ul λz=>hn (by simp[z])⟩;have h1:(M2.set 1 (.lst ((ms.map vK).map U.p).reverse))[1]?=_:=Ur (by lia);generalize M2.set 1 (.lst ((ms.map vK).map U.p).reverse)=M3 at f3 h1 ⊢;have g0:M3[0]?=some o5:=(f3.2 0 (by lia) (by decide)).trans g0;have g2:M3[2]?=some (.tup [.p (.int bits), .m 1]):=(f3.2 2 (by lia) (by decide)).trans g2;have S1:=S1.frm f3 (by decide);have S2:=S2.frm f3 (by decide);have l3:=f3.1;clear f3 g1;refine⟨6,7,8,_,rfl,S2, ?_⟩;walk_at "pk";refine⟨bits2,ms2,room2,rfl,R2, ?_⟩;walk_at "pk";refine⟨_,rfl,sh2, ?_⟩;walk_at "pk";refine⟨6,7,8,_,rfl,S2,c2.mono (by decide), ?_⟩;walk_at "pk";refine⟨0,6,7,8,o5,_,rfl,g0,B5,S2,c2,by decide,λM4 h4 k4 B J=>?_⟩;have f4:=J.f;have p1:=(f4.2 1 (by lia) (by decide)).trans h1;have p2:=(f4.2 2 (by lia) (by decide)).trans g2;have T1:=S1.frm f4 (by decide);have T2:=J.S;have c3:=J.c;have a4:h4=7\/9<=h4:=J.a.imp id λz=>by lia
 have b4:k4=8\/9<=k4:=J.b.imp id λz=>by lia
 have l4:=f4.1;have l4:9<=M4.length:=by lia
 obtain⟨e1,e2,e3⟩:=J.e;have e1:B.bits=bits2:=e1;have e2:B.ms=ms2:=e2;have e3:B.room=room2:=e3;clear J f4 g0 c2 sh2 S1 S2 h1 g2;subst e1 e2 e3;walk_at "pk";refine⟨6,h4,k4,B,rfl,T2,c3, ?_⟩;walk_at "pk";refine⟨3,4,5,_,rfl,T1, ?_⟩;walk_at "pk";refine⟨bits,ms,room,rfl,R, ?_⟩;walk_at "pk";refine⟨_,rfl,sh1, ?_⟩;walk_at "pk";refine jn (us:=[.p (.int bits), .m 1]) (by simp only[vI,p2]) rfl ?_;rw[<-List.map_reverse] at p1;refine⟨(ms.map vK).reverse,by simp only[sn,p1]; rw[zj]; rfl, ?_⟩;rw[List.reverse_reverse];refine GW rfl ?_;walk_at "pk";refine kZ KZ ?_;walk_at "pk";clear p1 p2 T1 sh1;refine⟨6,h4,k4,B,rfl,T2, ?_⟩;walk_at "pk";refine mS T2 (by rfl) ⟨6,h4,k4,B,rfl,T2, ?_⟩;walk_at "pk";have ap:∀{L:MM},StA C (M4++L) 6 h4 k4 B:=λ{L}=>T2.frm (F:=[]) ⟨by simp,λi hi _=>Ug hi⟩ (λi _ z=>nomatch z);refine mS ap (by rfl) ⟨6,h4,k4,B,rfl,ap, ?_⟩;walk_at "pk";simp only[Us,Uj];simp only[U1,UV,Um,UP,Di,Nat.reduceAdd];have q0:(M4++[iM B.ws,iM B.os,MO.lst [U.m M4.length,U.m (M4.length+1)]])[M4.length]?=some (iM B.ws):=by simp
 have q1:(M4++[iM B.ws,iM B.os,MO.lst [U.m M4.length,U.m (M4.length+1)]])[M4.length+1]?=some (iM B.os):=by simp
 have q2:(M4++[iM B.ws,iM B.os,MO.lst [U.m M4.length,U.m (M4.length+1)]])[M4.length+2]?=some (MO.lst [U.m M4.length,U.m (M4.length+1)]):=by simp
 have T3:=ap (L:=[iM B.ws,iM B.os,MO.lst [U.m M4.length,U.m (M4.length+1)]]);have l5:(M4++[iM B.ws,iM B.os,MO.lst [U.m M4.length,U.m (M4.length+1)]]).length=M4.length+3:=by simp
 have m1:=(Ue.mp T2.S.h0).1;have m2:=(Ue.mp T2.S.k0).1;clear ap T2;generalize M4++[iM B.ws,iM B.os,MO.lst [U.m M4.length,U.m (M4.length+1)]]=M5 at q0 q1 q2 T3 l5 ⊢;generalize M4.length=n at q0 q1 q2 m1 m2 l4 l5 ⊢;refine jn (us:=[.m n, .m (n+1)]) (by simp only[qD,q2]) rfl ?_;refine⟨_,by rw[sns,xj q0]; rfl,_,_,rfl,rfl, ?_⟩;refine jn (us:=[.m n, .m (n+1)]) (by simp only[qD,q2]) rfl ?_;refine⟨_,by rw[sns,xj q1]; rfl,_,_,rfl,rfl, ?_⟩;walk_at "pk";refine⟨_,(B.ms.map vK).map U.p,rfl, .inl rfl, ?_⟩;walk_at "pk";simp only[Us,Uj,U1,UV,Um,UP,Di,Nat.reduceAdd,l5,Bh];have f6:∀L:MM,Frm M5 (M5++L) []:=λL=>⟨by simp,λi hi _=>Ug hi⟩;have f6:=f6 [MO.lst ((B.ms.map vK).map U.p),MO.tup [.p (.int B.bits), .m (n+3)]];have q3:(M5++[MO.lst ((B.ms.map vK).map U.p),MO.tup [.p (.int B.bits), .m (n+3)]])[n+3]?=some (.lst ((B.ms.map vK).map U.p)):=by rw[<-l5]; simp
 have q4:(M5++[MO.lst ((B.ms.map vK).map U.p),MO.tup [.p (.int B.bits), .m (n+3)]])[n+4]?=some (.tup [.p (.int B.bits), .m (n+3)]):=by rw[show n+4=M5.length+1 by lia]; simp
 have l6:(M5++[MO.lst ((B.ms.map vK).map U.p),MO.tup [.p (.int B.bits), .m (n+3)]]).length=n+5:=by simp[l5]
 generalize M5++[MO.lst ((B.ms.map vK).map U.p),MO.tup [.p (.int B.bits), .m (n+3)]]=M6 at f6 q3 q4 l6 ⊢;have q0:=(f6.2 n (by lia) (λz=>nomatch z)).trans q0;have q1:=(f6.2 (n+1) (by lia) (λz=>nomatch z)).trans q1;have q2:=(f6.2 (n+2) (by lia) (λz=>nomatch z)).trans q2;have T3:=T3.frm f6 (λi _ z=>nomatch z);clear f6 l5;refine jn (us:=[.m n, .m (n+1)]) (by simp only[qD,q2]) rfl ?_;refine jn (us:=[.m n, .m (n+1)]) (by simp only[qD,q2]) rfl ?_;refine⟨.m (n+4),n,n+1,B,rfl, .inr ⟨n+4,n+3,rfl,q4,q3⟩,T3.O,hr2.1,q0,q1,λM7 s7 h7 k7 f7 n1 n2 n3 S7=>?_⟩;have q0:=(f7.2 n (by lia) (λz=>nomatch z)).trans q0;have q1:=(f7.2 (n+1) (by lia) (λz=>nomatch z)).trans q1;have q2:=(f7.2 (n+2) (by lia) (λz=>nomatch z)).trans q2;have q3:=(f7.2 (n+3) (by lia) (λz=>nomatch z)).trans q3;have T3:=T3.frm f7 (λi _ z=>nomatch z);have l7:=f7.1;clear f7 q4;rw[l6] at n1 n2 n3 l7;walk_at "pk";refine⟨n+3,_,rfl,q3,rfl, ?_⟩;walk_at "pk";have st:∀{M:MM}{i:Nat}{x:MO},Frm M (M.set i x) [i]:=⟨by simp,λi _ hn=>Ul λz=>hn (by simp[z])⟩;have f8:=st (M:=M7) (i:=n+3) (x:=.lst []);have l8:=f8.1;generalize M7.set (n+3) (.lst [])=M8 at f8 l8 ⊢;have q0:=(f8.2 n (by lia) (by simp)).trans q0;have q1:=(f8.2 (n+1) (by lia) (by simp)).trans q1;have q2:=(f8.2 (n+2) (by lia) (by simp)).trans q2;have T3:=T3.frm f8 (by simp; lia);have S8:=S7.frm f8 (by simp; lia);clear f8 q3;have e8:frzN 5 M8 (.m (n+2))=some (.lst [.lst (B.ws.map T.int), .lst (B.os.map T.int)]):=by
  rw[frzN,q2];show(frzs (frzN 4 M8) [.m n, .m (n+1)]).map T.lst=_;simp only[frzs,jp q0,jp q1];rfl
 refine⟨_,_,e8,rfl,kZ (λx hx=>?_) ?_⟩
 ·rcases hx with _|⟨_,_|⟨_,hx⟩⟩
  ·exact qah
  ·exact qah
  ·cases hx
 walk_at "pk";have c8:B.anew.Cb 0:=⟨⟨UU _,UU _⟩,⟨UU _,UU _⟩,⟨UU _,UU _⟩,hr2.1⟩;have sh8:=Mc.sh_seen S8.O c8 (by decide);refine⟨s7,h7,k7,_,rfl,S8,by rw[sizeLine_eq]; decide, ?_⟩;walk_at "pk";refine⟨_,rfl,sh8, ?_⟩;walk_at "pk";refine jn (us:=[.m n, .m (n+1)]) (by simp only[qD,q2]) rfl ⟨n,_,rfl,q0,rfl, ?_⟩;have f9:=st (M:=M8) (i:=n) (x:=.lst ((B.ws.map T.int).map U.p).reverse);have l9:=f9.1;walk_at "pk";generalize M8.set n (.lst ((B.ws.map T.int).map U.p).reverse)=M9 at f9 l9 ⊢;have q1:=(f9.2 (n+1) (by lia) (by simp)).trans q1;have q2:=(f9.2 (n+2) (by lia) (by simp)).trans q2;have T3:=T3.frm f9 (by simp; lia);have S9:=S8.frm f9 (by simp; lia);clear f9 q0 e8;refine jn (us:=[.m n, .m (n+1)]) (by simp only[qD,q2]) rfl ⟨n+1,_,rfl,q1,rfl, ?_⟩;have f10:=st (M:=M9) (i:=n+1) (x:=.lst []);have l10:=f10.1;walk_at "pk";generalize M9.set (n+1) (.lst [])=M10 at f10 l10 ⊢;have T3:=T3.frm f10 (by simp; lia);have S10:=S9.frm f10 (by simp; lia);clear f10 q1 q2 st;refine⟨s7,h7,k7,_,rfl,S10,by rw[sizeLine_eq]; decide, ?_⟩;walk_at "pk";refine⟨_,rfl,sh8, ?_⟩;walk_at "pk";refine mS S10 (by rfl) ?_;walk_at "pk";refine⟨s7,h7,k7,_,0,1,rfl,S10,by decide,by decide,λM11 h11 k11 f11 a11 b11 S11=>?_⟩;have T3:=T3.frm f11 (by simp; lia);have l11:=f11.1;unfold Nw at a11 b11;clear f11;walk_at "pk";refine mS S11 (by rfl) ?_;walk_at "pk";have hx:(B.anew.put 0 (.w ("one", ((1:Nat):Int)))).rg[0]?=some (.w ("one", ((1:Nat):Int))):=Ur (by show 0<B.rg.length; rw[T3.O.l8]; decide);have c11:(B.anew.put 0 (.w ("one", ((1:Nat):Int)))).Cb 1:=c8.up Mc.kp_put;generalize B.anew.put 0 (.w ("one", ((1:Nat):Int)))=D at S11 hx c11;refine⟨s7,h11,k11,D.bits,D.ms,D.room,D.ws,D.os,D.qu,D.sl,D.sw,D.od.map D.pl,rfl,S11.S,Mc.si S11.O,Mc.fit S11.O,λM12 h12 k12 f12 n12 m12 S12=>?_⟩;rw[Mc.ws_swp S11.O,Mc.os_swp S11.O] at S12;have S12:StA C M12 s7 h12 k12 D.swp:=⟨Mc.ok_swp S11.O,S12⟩;have T3:=T3.frm f12 (by simp; lia);have c12:=c11.up Mc.kp_swp;walk_at "pk";refine⟨6,h4,k4,B,rfl,T3, ?_⟩;walk_at "pk";refine⟨_,rfl,Mc.sh_seen T3.O c3 (by decide), ?_⟩;walk_at "pk";refine mS S12 (by rfl) ⟨s7,h12,k12,D.swp,0,_,rfl,S12,hx, ?_⟩;have et:D.swp.tl (.w ("one", ((1:Nat):Int)))=.str "no" := by
  show tOf ("one", 1)=_;unfold tOf;rw[if_neg (by decide),if_pos rfl];rfl
 rw[et];walk_at "pk";exact⟨s7,h12,k12,D.swp,rfl,S12,c12.mono (by decide),rfl⟩
--@XI
abbrev Jg:Stmt:=qr (top 3) 0
theorem scWkInit:FnScope ["self","part"] ["self","part"] (qg Jg):=⟨rfl,rfl,rfl,by decide +kernel,rfl,by decide +kernel,by decide +kernel⟩
theorem ok_winit(F:Fun Ξ "__init__" "WrongKind.__init__" Jg f fd)(ck:ExcK Ξ C f)(na:NoAttr Ξ C "part")(ib:InitB Ξ mg "WordError" B):FnOk P w Ξ mg base CX0 1 f fd ["self","part"] (spI C):=by
 refine F.okQ scWkInit (λvs H Q E h=>?_) (λcdv A outer s H vs Q E hr h=>?_)
 ·obtain⟨_,_,rfl,_⟩:=h
  rfl
 refine⟨_,(qf (qs_initB ck ib (qa_c (qv 0) (qa_c (qe_fs3 (by decide) (by decide) (qv 1)) qd)))
  (qi (qs_setX ck na (qv 0) (qv 1)))), ?_⟩
 obtain⟨a,n,rfl,hn,ha,q⟩:=h;refine⟨.ref a,rfl, .int n,rfl,n,rfl,hn.1,hn.2.1,a,none,_,rfl,ha,by show 1<=1000; decide, ?_⟩;refine⟨.int n,rfl, .ref a,rfl,a,rfl,ha,λd hd=>q d hd⟩
end
end Mw
local macro_rules | `(tactic| walk_at "fk") => `(tactic| (refine' L2.fun_mk ?l ?c ?k; (case l=>k_is); (case c=>k_is); (case k=>k_is)))
local macro_rules | `(tactic| walk_at "fg") => `(tactic| (refine' ⟨?n, ?m⟩; (case n=>show _=_; k_is); (case m=>walk_at "fk")))
local macro_rules | `(tactic| walk_at "mg") => `(tactic| (refine' ⟨?u, ?n, ?m⟩; (case u=>k_is); (case n=>k_is); (case m=>walk_at "fk")))
namespace Mw
open PySem L2
structure FG(K:PySem.W.Frag)(x:Str)(s:Stmt)(f:Addr)(d:FuncData):Prop where
 a:W.nsIn K mainGlobals x=some (some (.ref f))
 F:Fun K x x s f d
structure MG(K:PySem.W.Frag)(C:Addr)(x q:Str)(s:Stmt)(f:Addr)(d:FuncData):Prop where
 a:W.findIn K (.ref C) x=some (some (.ref f))
 n:W.isFn K (.ref f)=true
 F:Fun K x q s f d
structure GB(P:Program)(w:World)(K:PySem.W.Frag)(mg:Str->Option Value)(base h:Heap):Prop where
 X:K.In h
 G:h.Ns mainGlobals mg
theorem mk1{P:Program}{w:World}{K:PySem.W.Frag}{h base:Heap}{mg:Str->Option Value}{x:Str}{st:Stmt}{f:Addr}{d:FuncData}{k:Nat}{ps:List Str}{sp:Sp}(B:GB P w K mg base h)(A:FG K x st f d)(F:FnOk P w K mg base CX0 k f d ps sp)(b:∀(kV doc pm:Value)(an:Option Addr)(cdv ct:Value)(us:List Value),us.length=ps.length->bindArgs (W.fnOf x x (zR st) (vz st) (qg st) .none kV doc pm an cdv ct) ⟨us, []⟩=pure (ps.zip us)):Def P w K mg base x k ps sp:=⟨f,_,RD B.X B.G A.a,A.F.kp,A.F.binds b,F⟩
theorem mk1X{P:Program}{w:World}{K:PySem.W.Frag}{h base:Heap}{mg:Str->Option Value}{x:Str}{st:Stmt}{f:Addr}{d:FuncData}{k:Nat}{ps:List Str}{sp:Sp}(B:GB P w K mg base h)(A:FG K x st f d)(F:FnOk P w K mg base (CXe P w) k f d ps sp)(b:∀(kV doc pm:Value)(an:Option Addr)(cdv ct:Value)(us:List Value),us.length=ps.length->bindArgs (W.fnOf x x (zR st) (vz st) (qg st) .none kV doc pm an cdv ct) ⟨us, []⟩=pure (ps.zip us)):DefX P w K mg base x k ps sp:=⟨f,_,RD B.X B.G A.a,A.F.kp,A.F.binds b,F⟩
theorem mk2{C:Addr}{q:Str}{P:Program}{w:World}{K:PySem.W.Frag}{h base:Heap}{mg:Str->Option Value}{x:Str}{st:Stmt}{f:Addr}{d:FuncData}{k:Nat}{ps:List Str}{sp:Sp}(B:GB P w K mg base h)(A:MG K C x q st f d)(F:FnOk P w K mg base CX0 k f d ps sp)(b:∀(kV doc pm:Value)(an:Option Addr)(cdv ct:Value)(us:List Value),us.length=ps.length->bindArgs (W.fnOf x q (zR st) (vz st) (qg st) .none kV doc pm an cdv ct) ⟨us, []⟩=pure (ps.zip us)):MDef P w K mg base C x k ps sp:=⟨f,_,⟨A.a,A.n,A.F.kp⟩,A.F.binds b,F⟩
theorem mk2X{C:Addr}{q:Str}{P:Program}{w:World}{K:PySem.W.Frag}{h base:Heap}{mg:Str->Option Value}{x:Str}{st:Stmt}{f:Addr}{d:FuncData}{k:Nat}{ps:List Str}{sp:Sp}(B:GB P w K mg base h)(A:MG K C x q st f d)(F:FnOk P w K mg base (CXe P w) k f d ps sp)(b:∀(kV doc pm:Value)(an:Option Addr)(cdv ct:Value)(us:List Value),us.length=ps.length->bindArgs (W.fnOf x q (zR st) (vz st) (qg st) .none kV doc pm an cdv ct) ⟨us, []⟩=pure (ps.zip us)):MDefX P w K mg base C x k ps sp:=⟨f,_,⟨A.a,A.n,A.F.kp⟩,A.F.binds b,F⟩
theorem ln1{α:Type}:∀{l:List α},l.length=1->∃a,l=[a]
 | [a],_=>⟨a,rfl⟩
theorem ln2{α:Type}:∀{l:List α},l.length=2->∃a b,l=[a,b]
 | [a,b],_=>⟨a,b,rfl⟩
theorem ln3{α:Type}:∀{l:List α},l.length=3->∃a b c,l=[a,b,c]
 | [a,b,c],_=>⟨a,b,c,rfl⟩
theorem ln4{α:Type}:∀{l:List α},l.length=4->∃a b c d,l=[a,b,c,d]
 | [a,b,c,d],_=>⟨a,b,c,d,rfl⟩
theorem ln5{α:Type}:∀{l:List α},l.length=5->∃a b c d e,l=[a,b,c,d,e]
 | [a,b,c,d,e],_=>⟨a,b,c,d,e,rfl⟩
set_option hygiene false
local macro_rules | `(tactic| walk_at "bn") => `(tactic| (intro _ _ _ _ _ _ _ h; first|(obtain⟨_,rfl⟩:=ln1 h; rfl)|(obtain⟨_,_,rfl⟩:=ln2 h; rfl)|(obtain⟨_,_,_,rfl⟩:=ln3 h; rfl)|(obtain⟨_,_,_,_,rfl⟩:=ln4 h; rfl)|(obtain⟨_,_,_,_,_,rfl⟩:=ln5 h; rfl)))
set_option hygiene true
abbrev Uc(K:PySem.W.Frag)(x:Str)(v:Value):=W.nsIn K mainGlobals x=some (some v)
abbrev Ud(K:PySem.W.Frag)(x:Str):=W.nsIn K mainGlobals x=some none
theorem all_mk{l:PySem.W.OpenLaw}{w:World}{K:PySem.W.Frag}{h:Heap}{mg:Str->Option Value}(X:K.In h)(G:h.Ns mainGlobals mg)(hfa:mg "law" = some (.ref fa))(ca1:Uc K "Store" (.ref C1))(cb1:W.plainGet K C1 Str.empty=true)(cc1:W.hasDictIn K C1=true)(cd1:W.plainOver K C1=true)(ce1:W.findIn K (.ref C1) "__setattr__" = some (some (.builtin "object.__setattr__")))(cf1:W.makesIn K C1=true)(cg1:W.keepIn K (.ref C1)=true)(ch1_1:W.findIn K (.ref C1) "laying" = some none)(ch1_2:W.findIn K (.ref C1) "room" = some none)(ch1_3:W.findIn K (.ref C1) "held" = some none)(ch1_4:W.findIn K (.ref C1) "kept" = some none)(ch1_5:W.findIn K (.ref C1) "quick" = some none)(ch1_6:W.findIn K (.ref C1) "slow" = some none)(ch1_7:W.findIn K (.ref C1) "sweeps" = some none)(xaNought:Uc K "Nought" (.ref CENought))(xaNoRoom:Uc K "NoRoom" (.ref CENoRoom))(xoNought:W.excIn K CENought [.type "ValueError", .type "Exception", .type "BaseException", .type "object"] "ValueError.__new__" = true)(xoNoRoom:W.excIn K CENoRoom [.type "ValueError", .type "Exception", .type "BaseException", .type "object"] "ValueError.__new__" = true)(xaWk:Uc K "WrongKind" (.ref CEWk))(xaWordError:Uc K "WordError" (.ref CEWordError))(ENoRoom_NoRoom:W.exmOne K (.ref CENoRoom) (.ref CENoRoom)=some true)(A1:FG K "_law_bag" sBag f1 d1)(A2:FG K "_law_draw" Jo f2 d2)(A3:FG K "_law_draw" Jo f3 d3)(A4:FG K "_law_draw" Jo f4 d4)(A5:FG K "_law_full_laying" je f5 d5)(A6:FG K "_law_laying" Jm f6 d6)(A7:FG K "mark_for" VL f7 d7)(A8:FG K "_law_mark" sMark f8 d8)(A9:FG K "load_bits" Qp f9 d9)(A10:FG K "kinds_on" VM f10 d10)(A11:FG K "mark_of" Jk f11 d11)(A12:FG K "load_of" Jl f12 d12)(A13:FG K "marked" Jj f13 d13)(A14:FG K "small_of" VJ f14 d14)(A15:FG K "worth_of" VH f15 d15)(A16:FG K "word_of" Jf f16 d16)(A17:FG K "is_small" VN f17 d17)(A18:FG K "size_at" Jh f18 d18)(A19:FG K "number_at" Qn f19 d19)(A20:FG K "heads_in" VP f20 d20)(A21:FG K "address_of" j3 f21 d21)(A22:FG K "most_outside" xt f22 d22)(A23:FG K "pair_words_at" xp f23 d23)(A24:FG K "reached_from" xo f24 d24)(A25:FG K "new_places" jX f25 d25)(A26:FG K "moved_word" jY f26 d26)(A27:FG K "moved_thing" jd f27 d27)(A28:FG K "swept" Wp f28 d28)(A29:MG K C1 "sweep" "Store.sweep" ja f29 d29)(A30:MG K C1 "lacks" "Store.lacks" jb f30 d30)(A31:MG K C1 "make_room" "Store.make_room" zy f31 d31)(A32:FG K "limb_count" jZ f32 d32)(A33:FG K "is_great" VO f33 d33)(A34:FG K "rows_of" Ji f34 d34)(A35:MG K C1 "lay" "Store.lay" Qm f35 d35)(A36:MG K C1 "number" "Store.number" zb f36 d36)(A37:MG K C1 "words" "Store.words" zm f37 d37)(A38:MG K C1 "outside" "Store.outside" vQ f38 d38)(A39:MG K C1 "in_word" "Store.in_word" xn f39 d39)(A40:MG K C1 "kind" "Store.kind" jR f40 d40)(A41:FG K "read_worth" jV f41 d41)(A42:MG K C1 "told" "Store.told" jK f42 d42)(a43:W.findIn K (.ref CEWk) "__init__" = some (some (.ref f43)))(F43:Fun K "__init__" "WrongKind.__init__" Jg f43 d43)(A44:FG K "need_numbers" xq f44 d44)(A45:FG K "need_divisor" xr f45 d45)(A46:MG K C1 "come_of_two" "Store.come_of_two" zo f46 d46)(A47:MG K C1 "plus" "Store.plus" jN f47 d47)(A48:MG K C1 "less" "Store.less" jQ f48 d48)(A49:MG K C1 "times" "Store.times" xZ f49 d49)(A50:MG K C1 "over" "Store.over" jP f50 d50)(A51:MG K C1 "rest" "Store.rest" jM f51 d51)(A52:MG K C1 "sign" "Store.sign" jL f52 d52)(A53:MG K C1 "one" "Store.one" Ql f53 d53)(A54:MG K C1 "copy" "Store.copy" jT f54 d54)(A55:FG K "need_pair" Qo f55 d55)(A56:MG K C1 "pair_in" "Store.pair_in" xl f56 d56)(A57:MG K C1 "pair" "Store.pair" jO f57 d57)(A58:MG K C1 "first" "Store.first" jc f58 d58)(A59:MG K C1 "second" "Store.second" xk f59 d59)(A60:MG K C1 "set_first" "Store.set_first" zx f60 d60)(A61:MG K C1 "set_second" "Store.set_second" zn f61 d61)(A62:FG K "own_laying" jW f62 d62)(A63:MG K C1 "__init__" "Store.__init__" jS f63 d63)(A64:MG K C1 "words" "Store.words" zm f64 d64)(A65:MG K C1 "outside" "Store.outside" vQ f65 d65)(A66:FG K "store_of" VI f66 d66)(A67:FG K "_law_alike" Ws f67 d67)(A68:FG K "_law_seen" sSeen f68 d68)(A69:FG K "_law_begun" Wq f69 d69)(A70:FG K "_law_lists_own" Qq f70 d70)(A71:MG K C1 "number" "Store.number" zb f71 d71)(A72:FG K "_law_some_deeds" jU f72 d72)(A73:FG K "law" sLaw f73 d73)(xk1Wk:W.excInI K CEWk f43=true)(xk2Wk:W.findIn K (.ref CEWk) "__setattr__" = some (some (.builtin "object.__setattr__")))(xk3Wk:W.excOver K CEWk=true)(xk4Wk:W.findIn K (.ref CEWk) "__getattribute__" = some (some (.builtin "BaseException.__getattribute__")))(xk5Wk:W.findIn K (.ref CEWk) "__getattr__" = some none)(xk6Wk:W.mroIn K CEWk (.type "BaseException")=some true)(xk7Wk:W.hasDictIn K CEWk=true)(xk8Wk:W.findIn K (.ref CEWk) "part" = some none)(xb1WordError:W.specialIn K (.ref CEWordError) "__getattribute__" = some (some (.builtin "type.__getattribute__")))(xb2WordError:W.readsIn K CEWordError (.type "type")=true)(xb3WordError:W.findCls K (.ref CEWordError) (.type "type") "__init__" = some (.val (.builtin "ValueError.__init__")))(ynNRepr:Ud K "repr")(y1:Ud K "reversed")(z1:Ud K "abs")(z2:Ud K "len")(z3:Ud K "min")(z4:Ud K "max")(z5:Ud K "sum")(z6:Ud K "sorted")(z7:Ud K "all")(z8:Ud K "any")(z9:Ud K "isinstance")(z10:Ud K "range")(z11:Ud K "int")(z12:Ud K "list")(z13:Ud K "str")(z14:Ud K "bool")(z15:Ud K "tuple")(z16:Ud K "zip")(z17:Ud K "enumerate")(z18:Ud K "dict")(p1:Uc K "THREE" (.ref ft1))(q1:K.lookup ft1=some ⟨.type "tuple", none, .seq #[.str "none" tk1_0, .str "no" tk1_1, .str "yes" tk1_2] tn1,tsl1⟩)(g1:W.nsIn K mainGlobals "SIGNS" = some (some (.int 128 gk1)))(g2:W.nsIn K mainGlobals "REGISTERS" = some (some (.int 8 gk2)))(g3:W.nsIn K mainGlobals "PAIR_HEAD" = some (some (.int 1 gk3)))(g4:W.nsIn K mainGlobals "PAIR_SIZE" = some (some (.int 3 gk4)))(kg1:Uc K "KINDS_BY_MARK" (.ref fd_1))(kl1:K.lookup fd_1=some ⟨.type "dict", none, .dict (([("small", ka1_0, .str "number" kb1_0),("far", ka1_1, .str "number" kb1_1),("pair", ka1_2, .str "pair" kb1_2),("sign", ka1_3, .str "sign" kb1_3),("one", ka1_4, .str "one" kb1_4)]:List (Str×Tok×Value)).map (entD w.params)).toArray ke1, #[]⟩) :
  ∃fd:FuncData,(∀(s:Shared)(v:Value),BindsTo s fd ⟨[v], []⟩ [("script", v)])/\∀base:Heap,K.In base->base.Ns mainGlobals mg->FnOk l.prog w K mg base CX0 13 fa fd ["script"] (Wi K):=by
 have e:=hfa.symm.trans (RD X G A73.a);cases e;have mo:=λ{x:Str} {v:Value} (a:W.nsIn K mainGlobals x=some (some v))=>RD X G a;have mn:=λ{x:Str} (a:W.nsIn K mainGlobals x=some none)=>W.mg_none_of X G a;have N:Nms mg:=⟨mn z1,mn z2,mn z3,mn z4,mn z5,mn z6,mn z7,mn z8,mn z9,mn z10,mn z11,mn z12,mn z13,mn z14,mn z15,mn z16,mn z17,mn z18⟩;have T3:Tup3 K mg "THREE" ft1 "none" "no" "yes" := ⟨mo p1,_,_,_,_,_,q1⟩;have N2:Nms2 mg:=⟨mn y1⟩;have GSigns:GInt mg "SIGNS" 128:=⟨_,mo g1⟩;have GReg:GInt mg "REGISTERS" 8:=⟨_,mo g2⟩;have GHead:GInt mg "PAIR_HEAD" 1:=⟨_,mo g3⟩;have GSize:GInt mg "PAIR_SIZE" 3:=⟨_,mo g4⟩;have DKinds:KDi K w mg "KINDS_BY_MARK" fd_1 GR:=⟨mo kg1,_,_,kl1,by show(["small","far","pair","sign","one"]:List Str).Nodup; decide +kernel, .cons ⟨rfl,_,rfl⟩ (.cons ⟨rfl,_,rfl⟩ (.cons ⟨rfl,_,rfl⟩ (.cons ⟨rfl,_,rfl⟩ (.cons ⟨rfl,_,rfl⟩ (.nil)))))⟩;have TStore:Cls K C1:=⟨cb1,cc1,cd1,ce1⟩;have XStore:TxStore K C1:=⟨TStore,ch1_1,ch1_2,ch1_3,ch1_4,ch1_5,ch1_6,ch1_7⟩;have ONought:ExcC K mg "Nought" CENought:=⟨mo xaNought,xoNought⟩;have ONoRoom:ExcC K mg "NoRoom" CENoRoom:=⟨mo xaNoRoom,xoNoRoom⟩;have CWk:ExcK K CEWk f43:=⟨xk1Wk,xk2Wk,xk3Wk,xk4Wk,xk5Wk,xk6Wk,xk7Wk⟩;have AWk:NoAttr K CEWk "part" := xk8Wk;have BWk:=mo xaWk;have IWordError:InitB K mg "WordError" CEWordError:=⟨mo xaWordError,xb1WordError,xb2WordError,xb3WordError⟩;have BNought:=mo xaNought;have BNoRoom:=mo xaNoRoom;have NRepr:=mn ynNRepr;have b43:=F43.binds (ps:=["self","part"]) λ_ _ _ _ _ _ _ h=>by obtain⟨_,_,rfl⟩:=ln2 h; rfl
 have b63:=A63.F.binds (ps:=["self","laying","room"]) λ_ _ _ _ _ _ _ h=>by obtain⟨_,_,_,rfl⟩:=ln3 h; rfl
 refine⟨d73,λs v=>?_,λbase _ _=>?_⟩
 ·obtain⟨_,_,_,_,_,_,_,_,_,rfl,_⟩:=A73.F.ex
  exact .of_eq rfl
 have B:GB l.prog w K mg base h:=⟨X,G⟩;have DBag:=mk1 B A1 (ok_bag A1.F N) (by walk_at "bn");have DDraw:=mk1 B A2 (ok_draw A2.F N) (by walk_at "bn");have DDraw:=mk1 B A3 (KB A3.F N) (by walk_at "bn");have DDraw:=mk1 B A4 (ok_drawU A4.F N) (by walk_at "bn");have DFullLaying:=mk1 B A5 (ok_fullU A5.F N DDraw) (by walk_at "bn");have DLaying:=mk1 B A6 (Yw A6.F N DDraw DFullLaying) (by walk_at "bn");have DMarkFor:=mk1 B A7 (Z7 A7.F) (by walk_at "bn");have DMark:=mk1 B A8 (Z8 A8.F) (by walk_at "bn");have DLoadBits:=mk1 B A9 (V4 A9.F DMarkFor) (by walk_at "bn");have DKindsOn:=mk1 B A10 (Z9 A10.F) (by walk_at "bn");have DMarkOf:=mk1 B A11 (Jz A11.F DKindsOn) (by walk_at "bn");have DLoadOf:=mk1 B A12 (JA A12.F DMarkFor) (by walk_at "bn");have DMarked:=mk1 B A13 (Yv A13.F DMarkFor) (by walk_at "bn");have DSmallOf:=mk1 B A14 (Z6 A14.F) (by walk_at "bn");have DWorthOf:=mk1 B A15 (Z4 A15.F N T3 GSigns DMarkOf DLoadOf DSmallOf DLoadBits) (by walk_at "bn");have DWordOf:=mk1 B A16 (Jy A16.F N T3 DMarked DLoadBits) (by walk_at "bn");have DIsSmall:=mk1 B A17 (Xa A17.F DLoadBits) (by walk_at "bn");have DSizeAt:=mk1 B A18 (ok_sizeG A18.F GHead GSize) (by walk_at "bn");have DNumberAt:=mk1 B A19 (ok_numG A19.F N2 DSizeAt) (by walk_at "bn");have DHeadsIn:=mk1 B A20 (ok_heads A20.F N DSizeAt) (by walk_at "bn");have DAddressOf:=mk1 B A21 (ok_addr A21.F DMarkOf DLoadOf) (by walk_at "bn");have DMostOutside:=mk1 B A22 (ok_most A22.F N DLoadBits) (by walk_at "bn");have DPairWordsAt:=mk1 B A23 (ok_pairW A23.F GHead) (by walk_at "bn");have DReachedFrom:=mk1 B A24 (ok_reach A24.F N DAddressOf DPairWordsAt) (by walk_at "bn");have DNewPlaces:=mk1 B A25 (ok_newPl A25.F DHeadsIn DSizeAt) (by walk_at "bn");have DMovedWord:=mk1 B A26 (Gp A26.F DAddressOf DMarkOf DWordOf) (by walk_at "bn");have DMovedThing:=mk1 B A27 (Gq A27.F GHead DPairWordsAt DMovedWord DSizeAt) (by walk_at "bn");have DSwept:=mk1 B A28 (ok_swept A28.F DReachedFrom DNewPlaces DMovedThing DMovedWord) (by walk_at "bn");have MStoreSweep:=mk2 B A29 (ok_sweep A29.F XStore DSwept) (by walk_at "bn");have MStoreLacks:=mk2 B A30 (ok_lacks A30.F N XStore DMostOutside) (by walk_at "bn");have MStoreMakeRoom:=mk2X B A31 (ok_roomS A31.F TStore ONoRoom MStoreLacks MStoreSweep) (by walk_at "bn");have DLimbCount:=mk1 B A32 (Va A32.F N) (by walk_at "bn");have DIsGreat:=mk1 B A33 (Xb A33.F DLimbCount) (by walk_at "bn");have DRowsOf:=mk1 B A34 (ok_rowsU A34.F N DLimbCount) (by walk_at "bn");have MStoreLay:=mk2 B A35 (ok_layS A35.F N XStore DWordOf) (by walk_at "bn");have MStoreNumber:=mk2X B A36 (Gn A36.F N XStore TStore ONoRoom DIsSmall DWordOf DIsGreat DRowsOf MStoreMakeRoom MStoreLay) (by walk_at "bn");have MStoreWords:=mk2 B A37 (Gh A37.F N XStore) (by walk_at "bn");have MStoreOutside:=mk2 B A38 (ok_sout A38.F N XStore) (by walk_at "bn");have MStoreInWord:=mk2 B A39 (ok_sinw A39.F XStore DMarkOf) (by walk_at "bn");have MStoreKind:=mk2 B A40 (ok_skind A40.F N XStore DKinds DMarkOf) (by walk_at "bn");have DReadWorth:=mk1 B A41 (ok_readW A41.F N DWorthOf DMarkOf DNumberAt) (by walk_at "bn");have MStoreTold:=mk2 B A42 (ok_stold A42.F N XStore TStore MStoreKind DReadWorth) (by walk_at "bn");have DWk:ExcD l.prog w K mg base "WrongKind" CEWk 1:=⟨mo xaWk,f43,_,CWk,b43,ok_winit F43 CWk AWk IWordError⟩;have DNeedNumbers:=mk1X B A44 (ok_needN A44.F TStore DWk MStoreKind) (by walk_at "bn");have DNeedDivisor:=mk1X B A45 (ok_needD A45.F TStore ONought DNeedNumbers MStoreTold) (by walk_at "bn");have MStoreComeOfTwo:=mk2X B A46 (ok_stwo A46.F XStore TStore MStoreInWord MStoreNumber) (by walk_at "bn");have MStorePlus:=mk2X B A47 (ok_splus A47.F TStore DNeedNumbers MStoreTold MStoreComeOfTwo) (by walk_at "bn");have MStoreLess:=mk2X B A48 (ok_sless A48.F TStore DNeedNumbers MStoreTold MStoreComeOfTwo) (by walk_at "bn");have MStoreTimes:=mk2X B A49 (Gi A49.F TStore DNeedNumbers MStoreTold MStoreComeOfTwo) (by walk_at "bn");have MStoreOver:=mk2X B A50 (ok_sover A50.F TStore DNeedDivisor MStoreTold MStoreComeOfTwo) (by walk_at "bn");have MStoreRest:=mk2X B A51 (ok_srest A51.F TStore DNeedDivisor MStoreTold MStoreComeOfTwo) (by walk_at "bn");have MStoreSign:=mk2 B A52 (ok_ssign A52.F XStore DWordOf) (by walk_at "bn");have MStoreOne:=mk2 B A53 (ok_sone A53.F XStore DWordOf) (by walk_at "bn");have MStoreCopy:=mk2 B A54 (ok_scopy A54.F XStore) (by walk_at "bn");have DNeedPair:=mk1X B A55 (ok_needP A55.F TStore DWk MStoreKind) (by walk_at "bn");have MStorePairIn:=mk2X B A56 (Gm A56.F XStore DNeedPair DAddressOf) (by walk_at "bn");have MStorePair:=mk2X B A57 (ok_spair A57.F XStore TStore GHead GSize MStoreMakeRoom MStoreLay) (by walk_at "bn");have MStoreFirst:=mk2X B A58 (Gk A58.F XStore TStore MStorePairIn) (by walk_at "bn");have MStoreSecond:=mk2X B A59 (Yu A59.F XStore TStore MStorePairIn) (by walk_at "bn");have MStoreSetFirst:=mk2X B A60 (ok_ssetf A60.F XStore TStore MStorePairIn) (by walk_at "bn");have MStoreSetSecond:=mk2X B A61 (ok_ssets A61.F XStore TStore MStorePairIn) (by walk_at "bn");have DOwnLaying:=mk1 B A62 (ok_ownL A62.F N) (by walk_at "bn");have KStore:MkDef l.prog w K mg base C1 "Store" 4 ["self","laying","room"] (spU (Zd C1)):=⟨f63,_,⟨cf1,A63.a,A63.n,cg1⟩,mo ca1,b63,Gj A63.F XStore GReg DOwnLaying DWordOf⟩;have NStoreWords:=mk2 B A64 (Ys A64.F N XStore) (by walk_at "bn");have NStoreOutside:=mk2 B A65 (ok_soutN A65.F N XStore) (by walk_at "bn");have DStoreOf:=mk1 B A66 (Yt A66.F N XStore TStore KStore) (by walk_at "bn");have DAlike:=mk1 B A67 (Gr A67.F NRepr) (by walk_at "bn");have DSeen:=mk1 B A68 (ok_seen A68.F XStore TStore MStoreWords MStoreOutside) (by walk_at "bn");have DBegun:=mk1 B A69 (ok_begun A69.F DMark) (by walk_at "bn");have DListsOwn:=mk1 B A70 (JB A70.F N TStore DSeen DAlike NStoreWords NStoreOutside) (by walk_at "bn");have NStoreNumber:=mk2 B A71 (ok_numC A71.F N XStore TStore ONoRoom DIsSmall DWordOf DIsGreat DRowsOf MStoreMakeRoom MStoreLay) (by walk_at "bn");have DSomeDeeds:=mk1 B A72 (Z5 A72.F N TStore ONoRoom BNoRoom ENoRoom_NoRoom DDraw MStoreOne MStoreSign MStoreCopy MStoreSweep NStoreNumber MStorePair MStoreSetFirst MStoreSetSecond MStoreFirst MStoreSecond MStoreNumber MStorePlus MStoreLess MStoreTimes MStoreOver MStoreRest) (by walk_at "bn");exact ok_lawU A73.F N XStore TStore KStore DBag DDraw DLaying DAlike DSeen DBegun DListsOwn DSomeDeeds DStoreOf NStoreWords NStoreOutside MStoreOne MStoreSweep MStoreTold
theorem walk{l:PySem.W.OpenLaw}{q:Program}{loose:List Str}{XP:(Str->Option Value)->Heap->Prop}{YP:World->Heap->Prop}{d:DefRec}{K:Params->PySem.W.Frag}(hn:l.most=some 63)(hdf:d.params.defaults=[])(hY:∀(w:World)(h:Heap),YP w h->(K w.params).In h)(F:∀(w:World)(mg:Str->Option Value)(fa:Addr)(h:Heap),(K w.params).In h->h.Ns mainGlobals mg->mg d.name=some (.ref fa) ->
   ∃fd:FuncData,(∀(s:Shared)(u:Value),BindsTo s fd ⟨[u], []⟩ [("script", u)])/\∀base:Heap,(K w.params).In base->base.Ns mainGlobals mg->FnOk l.prog w (K w.params) mg base CX0 13 fa fd ["script"] (Wi (K w.params))) :
  PySem.W.WalkO q loose XP YP l.row.toRowW d [] (λf vs=>PySem.call f vs) :=
 L2.walk_of (n:=63) (k:=13) (x := "script") (CX:=λ_=>CX0) (sp:=λw=>Wi (K w.params)) hn (by decide) hdf ⟨rfl,by decide,by decide,rfl⟩ hY F (λ_ _ a ns hl _ hS=>⟨a,ns,rfl,hS,hl,λ_=>rfl⟩) λ_ _ _ _ _ z=>z
end Mw
open PySem PySem.W PyProof.Rows
set_option maxRecDepth 100000 in
set_option maxHeartbeats 0 in
theorem PySem.Challenge.cw_markwords_k31_a_store_begins_holds : PySem.Challenge.rw_markwords_k31_a_store_begins.Holds := by
 w_on; o_law
 refine Hd.close (q:=Mx.vw) (loose:=Mx.ls) (lv:=Mx.lv) (H:=kHook Mx.K Mx.KA Mx.K_as) (N:=7264) Mx.hLf9 (by rfl) (by rfl) (by rfl) (by rfl) (by assumption) (by decide +kernel) ⟨rfl,rfl,rfl,rfl,rfl,by decide +kernel⟩ ?hw ?hc
 case hw=>w_witness2
 k_fill
 refine Mw.walk (l:=PySem.Challenge.rw_markwords_k31_a_store_begins) rfl rfl (fun w h Y=>PySem.W.kIn_of Y) ?F
 case F =>
  intro w mg fa h KX G hmg
  refine' Mw.all_mk KX G hmg ?ca1 ?cb1 ?cc1 ?cd1 ?ce1 ?cf1 ?cg1 ?ch1_1 ?ch1_2 ?ch1_3 ?ch1_4 ?ch1_5 ?ch1_6 ?ch1_7 ?xaNought ?xaNoRoom ?xoNought ?xoNoRoom ?xaWk ?xaWordError ?ENoRoom_NoRoom ?A1 ?A2 ?A3 ?A4 ?A5 ?A6 ?A7 ?A8 ?A9 ?A10 ?A11 ?A12 ?A13 ?A14 ?A15 ?A16 ?A17 ?A18 ?A19 ?A20 ?A21 ?A22 ?A23 ?A24 ?A25 ?A26 ?A27 ?A28 ?A29 ?A30 ?A31 ?A32 ?A33 ?A34 ?A35 ?A36 ?A37 ?A38 ?A39 ?A40 ?A41 ?A42 ?a43 ?F43 ?A44 ?A45 ?A46 ?A47 ?A48 ?A49 ?A50 ?A51 ?A52 ?A53 ?A54 ?A55 ?A56 ?A57 ?A58 ?A59 ?A60 ?A61 ?A62 ?A63 ?A64 ?A65 ?A66 ?A67 ?A68 ?A69 ?A70 ?A71 ?A72 ?A73 ?xk1Wk ?xk2Wk ?xk3Wk ?xk4Wk ?xk5Wk ?xk6Wk ?xk7Wk ?xk8Wk ?xb1WordError ?xb2WordError ?xb3WordError ?ynNRepr ?y1 ?z1 ?z2 ?z3 ?z4 ?z5 ?z6 ?z7 ?z8 ?z9 ?z10 ?z11 ?z12 ?z13 ?z14 ?z15 ?z16 ?z17 ?z18 ?p1 ?q1 ?g1 ?g2 ?g3 ?g4 ?kg1 ?kl1
  (case ca1|cb1|cc1|cd1|ce1|cf1|cg1|ch1_1|ch1_2|ch1_3|ch1_4|ch1_5|ch1_6|ch1_7|xaNought|xaNoRoom|xaWk|xaWordError|a43|ynNRepr|y1|z1|z2|z3|z4|z5|z6|z7|z8|z9|z10|z11|z12|z13|z14|z15|z16|z17|z18|p1|q1|g1|g2|g3|g4|kg1|kl1=>show _=_;k_is)
  (case xoNought|xoNoRoom|ENoRoom_NoRoom|xk1Wk|xk2Wk|xk3Wk|xk4Wk|xk5Wk|xk6Wk|xk7Wk|xk8Wk|xb1WordError|xb2WordError|xb3WordError=>kernel_rfl)
  (case A1|A2|A3|A4|A5|A6|A7|A8|A9|A10|A11|A12|A13|A14|A15|A16|A17|A18|A19|A20|A21|A22|A23|A24|A25|A26|A27|A28|A32|A33|A34|A41|A44|A45|A55|A62|A66|A67|A68|A69|A70|A72|A73=>walk_at "fg")
  (case A29|A30|A31|A35|A36|A37|A38|A39|A40|A42|A46|A47|A48|A49|A50|A51|A52|A53|A54|A56|A57|A58|A59|A60|A61|A63|A64|A65|A71=>walk_at "mg")
  (case F43=>walk_at "fk")
