import PyProof.Rows.All
import Wide.All
import OpenK.AllK
import Wide.FinOn
import Lean
import PyProof.EqAt
import PyProof.EqKinds
import PyProof.TupleCall
import PyProof.NeKinds
import PyProof.RulesTry
import PyProof.ExcArgsOwn
import PyProof.InstStoreFacts
import PyProof.ExcInit
import PyProof.ExcClass3
import KE.KTryMore
import PyProof.NsDelKeeps
import PyProof.RulesAs
import PyProof.InstEq
import PyProof.Rows.EqMixed
import PyProof.FactsAll.tuple_1
import PySem.Challenge.RW_markwords_k42_first_fault_of_images
set_option Elab.async false
set_option linter.all false
set_option maxRecDepth 100000
set_option maxHeartbeats 8000000
set_option compiler.extract_closed false
local macro_rules | `(tactic| lia) => `(tactic| first | lia (config := {}) | omega)
local macro_rules | `(tactic| symm) => `(tactic| walk_at "v")
local macro_rules | `(tactic| nofun) => `(tactic| walk_at "u")
def Uj:=@List.getElem?_eq_some_iff
def Uk:=@List.getElem?_eq_getElem
def Ul:=@List.length_map
def Um:=@List.mem_of_getElem?
def Uo:=@List.getElem?_append_left
def Up:=@Nat.le_refl
def Uq:=@List.mem_singleton
def Ur:=@List.length_cons
def Us:=@List.mem_append
def Ut:=@List.size_toArray
def Uu:=@List.length_append
def Uv:=@Bool.false_ne_true
def Uw:=@List.mem_cons
def Ux:=@List.map_append
def Uy:=@Nat.lt_of_lt_of_le
def Uz:=@List.getElem?_append_right
def UB:=@List.mem_append_right
def UC:=@Nat.le_of_lt
def UD:=@List.append_assoc
def UF:=@List.take_length
def UH:=@List.mem_append_left
def UJ:=@Nat.ne_of_lt
def UL:=@List.getElem?_set_self
def UM:=@List.lookup_cons
def UN:=@List.length_set
def UP:=@List.mem_filter
def UQ:=@List.map_cons
def UR:=@Int.one_mul
def UU:=@List.getElem?_map
def UV:=@List.mem_cons_of_mem
def UW:=@List.getElem?_set_ne
def UY:=@Nat.le_trans
def UZ:=@List.mem_cons_self
def U0:=@List.append_nil
def U1:=@List.length_nil
def U2:=@Int.emod_lt_of_pos
def U3:=@List.length_take
def U4:=@Nat.zero_le
def U5:=@List.mem_filterMap
def U6:=@Bool.false_eq_true
def U7:=@List.mem_map
def U8:=@List.filter_append
def U9:=@PySem.W.kia_one
def Da:=@Int.emod_nonneg
def Db:=@List.replicate_succ
def Dc:=@List.mem_range
def Dd:=@PySem.W.kia_tup
def De:=@Bool.and_eq_true
def Df:=@List.not_mem_nil
def Dg:=@Bool.not_eq_true'
def Dh:=@Nat.lt_irrefl
def Di:=@List.length_singleton
def Dj:=@List.take_append_drop
def Dk:=@Nat.le_succ
def Dl:=@Nat.pow_le_pow_right
def Dm:=@Nat.sub_self
def Dn:=@Int.emod_eq_of_lt
def Do:=@List.nil_append
def Dp:=@List.cons_append
def Dq:=@List.pairwise_cons
def Dr:=@List.mem_take_iff_getElem
def Ds:=@List.getElem?_of_mem
def Dt:=@List.mem_of_mem_take
def Du:=@List.mem_of_mem_drop
def Dv:=@List.flatten_cons
def Dw:=@List.find?_cons
def Dx:=@Nat.min_eq_left
def Dy:=@List.any_cons
def Dz:=@List.getElem?_cons_zero
def DA:=@List.all_eq_true
def DB:=@Option.map_eq_some_iff
def DC:=@List.set_cons_zero
def DD:=@List.map_replicate
def DF:=@Bool.eq_iff_iff
def DG:=@List.map_nil
def DH:=@PySem.W.hideAll_none
def DI:=@List.pairwise_iff_getElem
def DJ:=@List.findIdx?_eq_none_iff
def DL:=@PySem.W.hideAll_get
def DM:=@Array.length_toList
def DN:=@List.nodup_cons
def DO:=@List.getElem?_replicate
def DP:=@List.getElem?_cons_succ
def DQ:=@List.set_cons_succ
def DR:=@Int.ediv_nonneg
def DS:=@Nat.add_sub_cancel_left
def DT:=@List.find?_eq_none
def DU:=@List.findIdx?_eq_some_iff_getElem
def DV:=@List.take_of_length_le
def DW:=@List.getElem_cons_drop
def DX:=@PySem.W.kitx_list
def DY:=@PySem.W.kitx_dict
def DZ:=@Int.toNat_natCast
def D0:=@List.nodup_append
def D1:=@List.flatMap_cons
def D2:=@Nat.le_of_eq
def D3:=@Nat.succ_pos
def D4:=@List.set_append_right
def D5:=@List.length_drop
def D6:=@List.filterMap_cons
def D7:=@List.mem_map_of_mem
def D8:=@Int.fdiv_eq_ediv_of_nonneg
def D9:=@Int.add_mul_emod_self_left
def Ra:=@List.findSome?_eq_some_iff
def Rb:=@List.findSome?_eq_none_iff
def Rc:=@Array.append_assoc
def Re:=@PySem.W.callWith_K
def Rf:=@Nat.lt_of_le_of_lt
def Rg:=@List.zip_cons_cons
def Rh:=@List.zip_nil_right
def Ri:=@List.drop_eq_getElem_cons
def Rj:=@List.getElem?_take_of_lt
def Rk:=@Nat.le_succ_of_le
def Rl:=@List.zip_nil_left
def Rm:=@Int.dvd_iff_emod_eq_zero
def Rn:=@List.all_cons
def Ro:=@List.eraseIdx_cons_succ
def Rp:=@List.filter_cons_of_pos
def Rq:=@Nat.lt_succ_self
def Rr:=@PySem.W.cellsFrom_some
def Rs:=@List.find?_cons_of_neg
def Ru:=@List.zipWith_cons_cons
def Rv:=@List.length_pos_of_mem
def Rw:=@List.sum_replicate_nat
def Rx:=@Nat.eq_of_beq_eq_true
def Ry:=@List.of_mem_zip
def Rz:=@List.length_replicate
def RA:=@List.foldl_cons
def RB:=@List.getElem?_eq_none
def RC:=@Nat.zero_add
def RD:=@Int.mul_comm
def RE:=@List.perm_append_comm
def RF:=@List.length_filter_le
def RG:=@Bool.beq_eq_decide_eq
def RH:=@Int.le_of_lt
def RI:=@List.isPerm_iff
def RJ:=@Bool.and_eq_true_iff
def RK:=@List.set_append_left
def RL:=@Int.emod_emod_of_dvd
def RM:=@List.drop_zero
def RN:=@Array.getElem?_push
def RO:=@PySem.W.findObj_own
def RP:=@Int.pow_add
def RQ:=@Int.le_refl
def RS:=@List.flatMap_append
def RT:=@List.length_flatten
def RU:=@PySem.W.of_hideAll
def RV:=@Array.find?_toList
def RW:=@PySem.W.kitx_float
def RX:=@PySem.W.kitx_tuple
def RY:=@List.contains_cons
def RZ:=@List.lookup_append
def R0:=@List.getElem?_take
def R1:=@Nat.lt_or_eq_of_le
def R3:=@Nat.ne_of_gt
def R4:=@Nat.add_comm
def R5:=@Nat.min_self
def R6:=@List.map_map
def R7:=@Int.zero_add
def R8:=@List.set_set
def R9:=@Int.ne_of_gt
namespace L2
open PySem PySem.Spec PyProof.Rows
def qY(s:Stmt)(j:Nat):Stmt:=match s with
 |.ClassDef _ _ _ body _ _ _ _ _ _ _=>body.getD j (.Pass ⟨0,0,0,0⟩)
 |_=>.Pass ⟨0,0,0,0⟩
def QD(s:Stmt):Arguments:=match s with
 |.FunctionDef _ a _ _ _ _ _ _ _ _=>a
 |_=>{ posonlyargs:=[],args:=[],vararg:=none,kwonlyargs:=[],kw_defaults:=[],kwarg:=none,defaults:=[] }
def vS(s:Stmt):List Stmt:=match s with
 |.FunctionDef _ _ b _ _ _ _ _ _ _=>b
 |_=>[]
def ql(s:Stmt):Scope:=match s with
 |.FunctionDef _ _ _ _ _ _ sc _ _ _=>sc
 |_=>{ kind:=.function,names:=[],isGenerator:=false,isCoroutine:=false }
end L2
namespace Hd
open PySem PySem.W PySem.Calls PyProof.Rows
def topT(tb:String->Option Builtin)(p:Program)(w:World)(m:Nat)(an:Option Value):Nat->SharedT->Thread->Option SharedT
 |0,_,_=>none
 |k+1,s,t=>match through t with
  |true=>some s
  |false=>match stepOk m an t with
   |false=>none
   |true=>match stepT (denote tb) p w s t with
    |some (s1,t1)=>topT tb p w m an k s1 t1
    |none=>none
theorem JV :
  ∀{k:Nat}{s r:SharedT}{t:Thread},topT tb p w m an k s t=some r->topRun tb p w m an k s.abs t=some r.abs
 |0,_,_,_,h=>by cases h
 |k+1,s,r,t,h=>by
  unfold topT at h;unfold topRun;cases ht:through t with
  |true=>rw[ht] at h; cases h; rfl
  |false =>
   rw[ht] at h;cases hk:stepOk m an t with
   |false=>rw[hk] at h; cases h
   |true =>
    rw[hk] at h;cases hs:stepT (denote tb) p w s t with
    |none=>rw[hs] at h; cases h
    |some x =>
     obtain⟨s1,t1⟩:=x;rw[hs] at h;rw[stepT_spec hs];exact JV h
noncomputable def bootT(P:Params):BT :=
 .node (boot_o_0 P) (.node (boot_o_1 P) (.node (boot_o_3 P) (.node (boot_o_7 P) .nil .nil) .nil) (.node (boot_o_5 P) (.node (boot_o_9 P) .nil .nil) .nil))
  (.node (boot_o_2 P) (.node (boot_o_4 P) (.node (boot_o_8 P) .nil .nil) .nil) (.node (boot_o_6 P) (.node (boot_o_10 P) .nil .nil) .nil))
abbrev bootL:Life:={}
theorem G7(P:Params):boot_heap P=absHeap (bootT P) 11 bootL:=by kernel_rfl
noncomputable def S0(w:World)(os:OsState):SharedT:=⟨bootT w.params,11,bootL, #[],boot_drawn,boot_toks,os⟩
noncomputable def Look(p q:Program)(loose:List Str)(Xt:Shared->Bool){α:Type}(Yf:Shared->α)(w:World)(s:Shared) :=
 ((staticsOk (importedModules p.main.body) (boot_heap w.params) s.heap&&namesBound p s.heap&&gensDone s&&laidKept (boot_heap w.params) s.heap),openSeen q loose (importedModules p.main.body) Xt true s,Yf s)
theorem left_of{p q:Program}{loose:List Str}{Xt:Shared->Bool}{α:Type}{Yf:Shared->α}{Ya:World->α}{N M:Nat}(e:opening p=plainProg p.main.scope.names)(hN:Nat.ble 600 N=true)(f:∀s,fenceModules? p s=some s)(le:Nat.ble M N=true)(run:∀w os,(topT treeTable p w 11 (some (.ref 6)) M (S0 w os) (topStub p)).map (λs=>Look p q loose Xt Yf w s.abs)=some (true,openGood q loose,Ya w))(hs:∀P:Params,((boot_heap P).isNs mainGlobals,(boot_heap P).nsMap mainGlobals "__annotations__")=(true,some (.ref 6))):LeftO p q loose Xt Yf Ya N:=λw=>by
 obtain⟨⟨h,gs,d,k,os⟩,e1,e2⟩:=DB.mp (boot_open e hN f w);obtain⟨rfl,rfl,rfl,rfl⟩:h=boot_heap w.params/\gs=Array.mk []/\d=boot_drawn/\k=boot_toks:=by simpa using e2
 obtain⟨z1,z3⟩:_/\_:=by simpa only[Prod.mk.injEq] using hs w.params
 obtain⟨r,r1,r2⟩:=DB.mp (run w os);obtain⟨l1,l2,l3⟩:_/\_/\_:=by simpa only[Look,Prod.mk.injEq] using r2
 have r3:=topRun_mono (N-M) _ _ _ _ (JV r1);rw[show M+(N-M)=N by have:=Nat.le_of_ble_eq_true le; lia] at r3;have a:(S0 w os).abs=⟨boot_heap w.params, #[],boot_drawn,boot_toks,os⟩:=by rw[G7]; rfl
 rw[a] at r3;have t:topFrom treeTable p w N ⟨boot_heap w.params, #[],boot_drawn,boot_toks,os⟩=some r.abs:=by
  unfold topFrom;dsimp only;rw[z1,z3,show(boot_heap w.params).objs.size=11 from rfl,r3];show(match staticsOk (importedModules p.main.body) (boot_heap w.params) r.abs.heap&&namesBound p r.abs.heap&&gensDone r.abs&&laidKept (boot_heap w.params) r.abs.heap with|true=>_|false=>_)=_;rw[l1]
 unfold openEnds;rw[e1];show(topFrom treeTable p w N _).map _=_;rw[t];exact congrArg some (Prod.ext l2 l3)
def fill(f:Nat->Obj):List Nat->Frag->List Obj
 | [],_=>[]
 |i::r, []=>f i::fill f r []
 |i::r,(a,o)::Ξ=>match Nat.beq a i with
  |true=>o::fill f r Ξ
  |false=>f i::fill f r ((a,o)::Ξ)
theorem Zg:∀{r:List Nat}{Ξ:Frag},(∀p∈Ξ,f p.1=p.2)->fill f r Ξ=r.map f
 | [],_,_=>rfl
 |i::r, [],h=>congrArg (f i :: ·) (Zg h)
 |i::r,(a,o)::Ξ,h=>by
  unfold fill;cases e:Nat.beq a i with
  |true =>
   cases Rx e;exact(congrArg (· :: fill f r Ξ) (h (i,o) (.head _)).symm).trans (congrArg (f i :: ·) (Zg λp m=>h p (.tail _ m)))
  |false=>exact congrArg (f i :: ·) (Zg h)
noncomputable def BR(P:Params):Frag:=[(0,boot_o_0 P),(1,boot_o_1 P),(4,boot_o_4 P),(5,boot_o_5 P),(6,boot_o_6 P),(7,boot_o_7 P),(8,boot_o_8 P),(9,boot_o_9 P),(10,boot_o_10 P)]
def ins(x:Nat×Obj):Frag->Frag
 | []=>[x]
 |y::r=>match Nat.ble x.1 y.1 with
  |true=>x::y::r
  |false=>y::ins x r
def KX(Ξ R:Frag):Frag:=R.foldr ins Ξ
def E0:Obj:=⟨.none,none, .fields #[], #[]⟩
noncomputable def SE(Ξ R:Frag)(Q:List Nat)(n:Nat)(f:Nat->Obj)(l:Life)(d:Drawn)(k:Nat)(os:OsState):Shared:=⟨⟨(fill (λi=>match Q.any (Nat.beq i) with|true=>E0|false=>f i) (List.range n) (KX Ξ R)).toArray,l⟩, #[],d,k,os⟩
theorem SE_is{s:SharedT}(h:(s.n,s.gens,Q.map s.tree.get,(KX Ξ R).map λp=>s.tree.get p.1)=(n, #[],Q.map (λ_=>some E0),(KX Ξ R).map λp=>some p.2)):s.abs=SE Ξ R Q n (λi=>(s.tree.get i).getD default) s.life s.drawn s.toks s.os:=by
 obtain⟨T,m,l,g,d,k,os⟩:=s;obtain⟨rfl,rfl,h2,h3⟩:m=n/\g=#[]/\_/\_:=by simpa only[Prod.mk.injEq] using h
 show Shared.mk (absHeap T m l) _ _ _ _=Shared.mk _ _ _ _ _;have q:(λi=>match Q.any (Nat.beq i) with|true=>E0|false=>(T.get i).getD default)=λi=>(T.get i).getD default:=funext λi=>by
  cases e:Q.any (Nat.beq i) with
  |false=>rfl
  |true =>
   obtain⟨j,hj,x⟩:=List.any_eq_true.mp e;cases Rx x;show E0=(T.get i).getD default;rw[List.map_inj_left.mp h2 i hj]; rfl
 unfold absHeap BT.list;show _=Shared.mk ⟨(fill (λi=>match Q.any (Nat.beq i) with|true=>E0|false=>(T.get i).getD default) _ _).toArray,_⟩ _ _ _ _;rw[q,Zg λp m=>by show(T.get p.1).getD default=_; rw[List.map_inj_left.mp h3 p m]; rfl]
noncomputable def LkA(p q:Program)(w:World)(s:Shared):=((staticsOk (importedModules p.main.body) (boot_heap w.params) s.heap&&namesBound p s.heap&&gensDone s&&laidKept (boot_heap w.params) s.heap),seen ((recsOf q).map (·.name)) (ownsOf q) [] { s with gens:=#[] },s.heap.bltView)
noncomputable def GdA(q:Program):=(true,expectedOf q,bltViewBooted)
noncomputable def LkB(p q:Program)(loose:List Str)(Xt:Shared->Bool)(s:Shared):=(s.heap.keysOk (looseW q loose) ((recsOf q).map (·.name)) ((litsOf q).map (·.1)) ((clssOf q (looseW q loose)).map (·.name))&&s.heap.accountedOkI (importedModules p.main.body)&&s.heap.isNs mainGlobals&&s.heap.isNs builtinsNs&&tablesOk q s.heap&&Xt s&&(if true then s.gens.size==0 else !leftWithCleanup s.gens))
noncomputable def LkD(q:Program)(loose:List Str)(s:Shared):=(pinSeenD q (drecsOf q) s,plainSeenE q (looseW q loose) s,plainSeenD q loose s,wideSeen q s,clsSeenW q loose s)
noncomputable def GdD(q:Program)(loose:List Str):=(pinGoodD (drecsOf q),plainGoodE q (looseW q loose),plainGoodD q loose,wideGood q,clsGoodW q loose)
theorem look3{p q:Program}{loose:List Str}{Xt:Shared->Bool}{α:Type}{Yf:Shared->α}{w:World}{y:α}{s:Shared}(hA:LkA p q w s=GdA q)(hB:(LkB p q loose Xt s,tabsOk q s)=(true,true))(hD:LkD q loose s=GdD q loose)(hC:Yf s=y):Look p q loose Xt Yf w s=(true,openGood q loose,y) :=
 Prod.ext (congrArg (·.1) hA) (Prod.ext (Prod.ext (congrArg (·.2.1) hA) (Prod.ext (congrArg (·.2.2) hA) (Prod.ext (congrArg (·.1) hB) (Prod.ext (congrArg (·.2) hB) hD)))) hC)
theorem left_ofE{Ξ R:Params->Frag}{as:∀P,KA=(Ξ P).map (·.1)}(e:opening p=plainProg p.main.scope.names)(hN:Nat.ble 600 N=true)(f:∀s,fenceModules? p s=some s)(le:Nat.ble M N=true)(run:∀w os,(topT treeTable p w 11 (some (.ref 6)) M (S0 w os) (topStub p)).map (λs=>(s.n,s.gens,Q.map s.tree.get,(KX (Ξ w.params) (R w.params)).map λp=>s.tree.get p.1))=some (n, #[],Q.map (λ_=>some E0),(KX (Ξ w.params) (R w.params)).map λp=>some p.2))(look:∀w f l d k os,Look p q loose Xt (kHook Ξ KA as).obs w (SE (Ξ w.params) (R w.params) Q n f l d k os)=(true,openGood q loose,(kHook Ξ KA as).val w))(hs:∀P:Params,((boot_heap P).isNs mainGlobals,(boot_heap P).nsMap mainGlobals "__annotations__")=(true,some (.ref 6))):LeftO p q loose Xt (kHook Ξ KA as).obs (kHook Ξ KA as).val N :=
 left_of e hN f le (λw os=>by
  obtain⟨r,r1,r2⟩:=DB.mp (run w os);rw[r1];exact congrArg some ((congrArg _ (SE_is r2)).trans (look w _ _ _ _ _))) hs
theorem boot_main(P:Params):((boot_heap P).isNs mainGlobals,(boot_heap P).nsMap mainGlobals "__annotations__")=(true,some (.ref 6)):=by kernel_rfl
end Hd
namespace Hd
open PySem PySem.W PySem.Calls PyProof.Rows
theorem close{H:Hook}(left:LeftO r.prog q loose (λs=>xlAt q lv s&&recOk (RowW.records (OpenRow.toRowW r)) s) H.obs H.val N)(h1:defOf q r.name=some (d,kwd))(h2:r.prog.theDef r.name=some (d.params,d.body,d.scope))(h3:kwWritten? d.params.kwonlyargs d.params.kw_defaults=some kwd)(h4:(!r.writes||r.records.isEmpty)=true)(h5:r.wellSaid=true)(h6:(chainsOk q&&opensWell r.prog&&(frees r.toRowW&&r.within.isEmpty))=true)(h7:r.prog.bare)(hw:r.toRowW.promised)(hc:WalkO q loose (XL q lv) H.says r.toRowW d kwd λf vs=>PySem.call f vs):r.Holds :=
 holds_open left H.of H.keeps (λs z=>xl_of s (RJ.mp z).1) XL.keeps h1 h2 h3 (λs z=>recFacts_of (RJ.mp z).2) h4 h5 h6 h7 hw hc
end Hd
namespace Mw
open PySem L2
def top(i:Nat):Stmt:=PySem.Challenge.pw_markwords_k42_first_fault_of_images.main.body.getD i (.Pass ⟨0,0,0,0⟩)
end Mw
theorem PySem.W.Fast.te13284508909471653622:True:=True.intro
def PySem.W.Fast.tw13620915537236712781:PySem.Program:=PySem.Challenge.pw_markwords_k42_first_fault_of_images
theorem PySem.W.Fast.te13620915537236712781:PySem.Challenge.pw_markwords_k42_first_fault_of_images=PySem.W.Fast.tw13620915537236712781:=rfl
namespace Mx
open PySem PySem.W PySem.Calls PyProof.Rows L2 Mw
abbrev kC(n q:Str)(t l a:Nat)(x7:Int)(r8:Nat)(b9:Bool)(r11:Nat)(v12 v13 v14:Value)(r15 t16 t18:Nat):Obj:=⟨.type "code", none,(.fields #[.str n t, .str q (t+1), .str "/claim/cut.py" (t+2), .int l 0, .int a 0, .int 0 0, .int 0 0, .int x7 0, .ref r8, .bool b9, .int 181 0, .ref r11,v12,v13,v14, .ref r15, .int t16 0, .int l 0, .str "/claim/cut.py" t18]), #[]⟩
abbrev kF(n q:Str)(s:Stmt)(m:Value)(c:Nat):Obj:=⟨.type "function", none,(.func (W.fnOf n q (QD s) (vS s) (ql s) .none .none .none m none (.ref c) .none)), #[]⟩
abbrev kT(l:List Value):Obj:=⟨.type "tuple", none,(.seq l.toArray 0), #[]⟩
abbrev kD(n q:Str)(t l a:Nat)(x:Int)(r u:Nat):Obj:=kC n q t l a x r true (r+1) .none (.ref (r+2)) (.ref (r+3)) (r+4) u (u+1)
abbrev kd(n:Str):=kD n n
abbrev kn(n:Str)(t l a:Nat)(x:Int)(r u:Nat):Obj:=kC n n t l a x r true (r+1) .none .none .none (r+2) u (u+1)
abbrev kx:List Value:=[.type "ValueError", .type "Exception", .type "BaseException", .type "object"]
abbrev kK(n:Str)(b m:List Value)(s:Nat)(l:List Value)(c:Option Value)(t u:Nat)(w:String):Obj:=⟨.type "type", none,(.cls { name:=n,bases:=b,mro:=m,ns:=s,qualname:=n,hasDict:=true,slotNames:=[],subclasses:=l,abstract:=false,collection:=none,hasDel:=false }), #[c,none,some (.str n t),some (.str n u),some (.builtin w),some (.bool true)]⟩
abbrev kE(l:List DictEntry)(n:Nat):Obj:=⟨.type "dict", none,(.dict l.toArray n), #[]⟩
abbrev kf(n:Str):=kF n n
abbrev y0:Value:=.str "__main__" 164
abbrev y1:Value:=.str "markwords.errors" 194
abbrev y2:Value:=.str "markwords.layings" 282
abbrev y3:Value:=.str "markwords.limbs" 399
abbrev y4:Value:=.str "markwords.needs" 455
abbrev y5:Value:=.str "markwords.words" 467
abbrev y6:Value:=.str "markwords.things" 538
abbrev y7:Value:=.str "markwords.sweeping" 567
abbrev y8:Value:=.str "markwords.store" 614
abbrev y9:Value:=.str "markwords.images" 936
abbrev y10:Value:=.str "law_markwords_k42_first_fault_of_images" 1037
abbrev oE(P:Params)(n:Str)(t:Nat)(v:Value):DictEntry:=⟨PyData.keyHash P n, .str n t,v⟩
abbrev o(P:Params)(n:Str)(t a:Nat):=oE P n t (.ref a)
noncomputable def K:Params->Frag:=λP =>
(nat_lit 2,⟨.none,none,(.dict #[] 0), #[]⟩) ::
(nat_lit 3,kE [oE P "__name__" 165 (.str "law_markwords_k42_first_fault_of_images" 1037),oE P "__doc__" 166 (.none),oE P "__package__" 167 (.none),oE P "__loader__" 168 (.builtin "__main__.__loader__#opaque"),oE P "__spec__" 169 (.none),o P "__annotations__" 170 6,o P "__builtins__" 171 4,oE P "__file__" 173 (.str "/claim/cut.py" 172),oE P "__cached__" 174 (.none),o P "_wall" 193 21,o P "WordError" 213 31,o P "WrongKind" 238 51,o P "NoRoom" 254 63,o P "Faulty" 281 82,o P "KINDS" 289 85,o P "LEAST_LOAD_BITS" 305 86,oE P "FEWEST_BITS" 307 (.int (8) 306),oE P "MOST_BITS" 309 (.int (32) 308),o P "bits_go" 316 93,o P "width_goes" 324 100,o P "load_goes" 333 107,o P "marks_go" 344 114,o P "has_form" 350 119,o P "kinds_on" 356 124,o P "least_double" 362 129,o P "laying_fault" 375 136,o P "mark_of" 384 143,o P "mark_for" 390 148,o P "load_bits" 398 155,oE P "PAIR_HEAD" 402 (.int (1) 401),oE P "PAIR_SIZE" 404 (.int (3) 403),o P "limb_count" 413 162,o P "rows_of" 426 169,o P "size_at" 435 176,o P "number_at" 446 183,o P "is_great" 454 190,o P "need_pair" 464 197,oE P "REGISTERS" 466 (.int (8) 465),o P "THREE" 472 198,oE P "SIGNS" 474 (.int (128) 473),o P "load_of" 483 205,o P "marked" 493 212,o P "small_of" 501 219,o P "worth_of" 511 226,o P "word_of" 519 233,o P "is_small" 528 240,o P "address_of" 537 247,o P "heads_in" 548 254,o P "pair_words_at" 556 261,o P "read_worth" 566 268,o P "reached_from" 580 275,o P "new_places" 591 282,o P "moved_word" 601 289,o P "moved_thing" 607 294,o P "swept" 613 299,o P "KINDS_BY_MARK" 631 300,o P "own_laying" 638 307,o P "most_outside" 646 314,o P "Store" 924 520,o P "store_of" 935 531,oE P "MOST_ROOM" 939 (.int (400) 938),o P "room_goes" 949 538,o P "word_fault" 959 545,o P "is_head" 966 552,o P "fault_at" 976 559,o P "thing_fault" 986 566,o P "marks_by_head" 995 573,o P "worth_places" 1004 580,o P "worth_fault" 1017 587,o P "image_fault" 1028 594,o P "opened" 1036 601,o P "_law_bag" 1044 606,o P "_law_draw" 1053 613,o P "_law_full_laying" 1059 618,o P "_law_laying" 1065 623,o P "_law_mark" 1071 628,o P "_law_load" 1079 635,o P "_law_is_small" 1088 642,o P "_law_right" 1094 647,o P "_law_number_in" 1105 654,o P "_law_ref_of" 1118 661,o P "_law_things_fault" 1130 668,o P "_law_leads_fault" 1136 673,o P "_law_image_fault" 1152 680,o P "_law_any_thing" 1158 685,o P "_law_any_word" 1164 690,o P "_law_any_image" 1170 695,o P "_law_whole" 1177 702,o P "_law_alike" 1183 707,o P "_law_spoilt_word" 1196 714,o P "_law_spoilt_list" 1207 721,o P "_law_spoilt_laying" 1223 728,o P "_law_spoilt" 1236 735,o P "_law_fault_of" 1245 742,o P "law" 1262 749] 95) ::
(nat_lit 20,kd "_wall" 187 1 1 3 15 191) ::
(nat_lit 21,kf "_wall" (top 0) y0 20) ::
(nat_lit 22,kT [.type "ValueError"]) ::
(nat_lit 29,kT []) ::
(nat_lit 30,kE [oE P "__module__" 203 (.str "markwords.errors" 194),oE P "__firstlineno__" 207 (.int (5) 206),o P "__static_attributes__" 208 29,o P "__weakref__" 210 32,oE P "__doc__" 211 (.none)] 3) ::
(nat_lit 31,kK "WordError" [.type "ValueError"] (.ref 31::kx) 30 [.ref 51, .ref 63, .ref 82] (some (.ref 22)) 196 204 "ValueError.__new__") ::
(nat_lit 32,⟨.type "getset_descriptor", none,(.fields #[.str "__weakref__" 209, .ref 31, .builtin "ExceptionGroup.__weakref__", .none]), #[]⟩) ::
(nat_lit 35,kT [.ref 31]) ::
(nat_lit 47,kD "__init__" "WrongKind.__init__" 226 9 2 3 42 231) ::
(nat_lit 48,kF "__init__" "WrongKind.__init__" (qY (top 3) 0) y1 47) ::
(nat_lit 49,kT [.str "part" 234]) ::
(nat_lit 50,kE [oE P "__module__" 221 (.str "markwords.errors" 194),oE P "__firstlineno__" 225 (.int (7) 224),o P "__init__" 233 48,o P "__static_attributes__" 235 49,oE P "__doc__" 236 (.none)] 2) ::
(nat_lit 51,kK "WrongKind" [.ref 31] (.ref 51 :: .ref 31::kx) 50 [] (some (.ref 35)) 214 222 "ValueError.__new__") ::
(nat_lit 54,kT [.ref 31]) ::
(nat_lit 61,kT []) ::
(nat_lit 62,kE [oE P "__module__" 246 (.str "markwords.errors" 194),oE P "__firstlineno__" 250 (.int (12) 249),o P "__static_attributes__" 251 61,oE P "__doc__" 252 (.none)] 2) ::
(nat_lit 63,kK "NoRoom" [.ref 31] (.ref 63 :: .ref 31::kx) 62 [] (some (.ref 54)) 239 247 "ValueError.__new__") ::
(nat_lit 66,kT [.ref 31]) ::
(nat_lit 78,kD "__init__" "Faulty.__init__" 267 16 3 3 73 273) ::
(nat_lit 79,kF "__init__" "Faulty.__init__" (qY (top 5) 0) y1 78) ::
(nat_lit 80,kT [.str "k" 276, .str "word" 277]) ::
(nat_lit 81,kE [oE P "__module__" 262 (.str "markwords.errors" 194),oE P "__firstlineno__" 266 (.int (14) 265),o P "__init__" 275 79,o P "__static_attributes__" 278 80,oE P "__doc__" 279 (.none)] 2) ::
(nat_lit 82,kK "Faulty" [.ref 31] (.ref 82 :: .ref 31::kx) 81 [] (some (.ref 66)) 255 263 "ValueError.__new__") ::
(nat_lit 85,kT [.str "small" 284, .str "far" 285, .str "pair" 286, .str "sign" 287, .str "one" 288]) ::
(nat_lit 86,kE [oE P "small" 290 (.int (2) 291),oE P "far" 292 (.int (3) 293),oE P "pair" 294 (.int (3) 295),oE P "sign" 296 (.int (7) 297),oE P "one" 298 (.int (2) 299)] 5) ::
(nat_lit 92,kd "bits_go" 310 25 1 3 87 314) ::
(nat_lit 93,kf "bits_go" (top 11) y2 92) ::
(nat_lit 99,kd "width_goes" 317 27 2 3 94 322) ::
(nat_lit 100,kf "width_goes" (top 12) y2 99) ::
(nat_lit 106,kd "load_goes" 325 29 3 3 101 331) ::
(nat_lit 107,kf "load_goes" (top 13) y2 106) ::
(nat_lit 113,kd "marks_go" 334 31 2 3 108 342) ::
(nat_lit 114,kf "marks_go" (top 14) y2 113) ::
(nat_lit 118,kn "has_form" 345 36 1 3 115 348) ::
(nat_lit 119,kf "has_form" (top 15) y2 118) ::
(nat_lit 123,kn "kinds_on" 351 44 2 3 120 354) ::
(nat_lit 124,kf "kinds_on" (top 16) y2 123) ::
(nat_lit 128,kn "least_double" 357 46 1 3 125 360) ::
(nat_lit 129,kf "least_double" (top 17) y2 128) ::
(nat_lit 135,kd "laying_fault" 363 49 1 3 130 373) ::
(nat_lit 136,kf "laying_fault" (top 18) y2 135) ::
(nat_lit 142,kd "mark_of" 376 61 2 3 137 382) ::
(nat_lit 143,kf "mark_of" (top 19) y2 142) ::
(nat_lit 147,kn "mark_for" 385 64 2 3 144 388) ::
(nat_lit 148,kf "mark_for" (top 20) y2 147) ::
(nat_lit 154,kd "load_bits" 391 66 2 3 149 396) ::
(nat_lit 155,kf "load_bits" (top 21) y2 154) ::
(nat_lit 161,kd "limb_count" 405 71 2 3 156 411) ::
(nat_lit 162,kf "limb_count" (top 25) y3 161) ::
(nat_lit 168,kd "rows_of" 414 74 2 3 163 424) ::
(nat_lit 169,kf "rows_of" (top 26) y3 168) ::
(nat_lit 175,kd "size_at" 427 83 2 3 170 433) ::
(nat_lit 176,kf "size_at" (top 27) y3 175) ::
(nat_lit 182,kd "number_at" 436 86 3 3 177 444) ::
(nat_lit 183,kf "number_at" (top 28) y3 182) ::
(nat_lit 189,kd "is_great" 447 91 2 3 184 452) ::
(nat_lit 190,kf "is_great" (top 29) y3 189) ::
(nat_lit 196,kd "need_pair" 457 94 2 3 191 462) ::
(nat_lit 197,kf "need_pair" (top 31) y4 196) ::
(nat_lit 198,kT [.str "none" 469, .str "no" 470, .str "yes" 471]) ::
(nat_lit 204,kd "load_of" 475 101 3 3 199 481) ::
(nat_lit 205,kf "load_of" (top 36) y5 204) ::
(nat_lit 211,kd "marked" 484 103 3 3 206 491) ::
(nat_lit 212,kf "marked" (top 37) y5 211) ::
(nat_lit 218,kd "small_of" 494 106 2 3 213 499) ::
(nat_lit 219,kf "small_of" (top 38) y5 218) ::
(nat_lit 225,kd "worth_of" 502 108 2 3 220 509) ::
(nat_lit 226,kf "worth_of" (top 39) y5 225) ::
(nat_lit 232,kd "word_of" 512 120 2 3 227 517) ::
(nat_lit 233,kf "word_of" (top 40) y5 232) ::
(nat_lit 239,kd "is_small" 520 126 2 3 234 526) ::
(nat_lit 240,kf "is_small" (top 41) y5 239) ::
(nat_lit 246,kd "address_of" 529 129 2 3 241 535) ::
(nat_lit 247,kf "address_of" (top 42) y5 246) ::
(nat_lit 253,kd "heads_in" 540 133 1 3 248 546) ::
(nat_lit 254,kf "heads_in" (top 44) y6 253) ::
(nat_lit 260,kd "pair_words_at" 549 140 2 3 255 554) ::
(nat_lit 261,kf "pair_words_at" (top 45) y6 260) ::
(nat_lit 267,kd "read_worth" 557 142 3 3 262 564) ::
(nat_lit 268,kf "read_worth" (top 46) y6 267) ::
(nat_lit 274,kd "reached_from" 569 148 3 3 269 578) ::
(nat_lit 275,kf "reached_from" (top 48) y7 274) ::
(nat_lit 281,kd "new_places" 581 157 2 3 276 589) ::
(nat_lit 282,kf "new_places" (top 49) y7 281) ::
(nat_lit 288,kd "moved_word" 592 165 3 3 283 599) ::
(nat_lit 289,kf "moved_word" (top 50) y7 288) ::
(nat_lit 293,kn "moved_thing" 602 170 4 3 290 605) ::
(nat_lit 294,kf "moved_thing" (top 51) y7 293) ::
(nat_lit 298,kn "swept" 608 174 3 3 295 611) ::
(nat_lit 299,kf "swept" (top 52) y7 298) ::
(nat_lit 300,kE [oE P "small" 616 (.str "number" 617),oE P "far" 618 (.str "number" 619),oE P "pair" 620 (.str "pair" 621),oE P "sign" 622 (.str "sign" 623),oE P "one" 624 (.str "one" 625)] 5) ::
(nat_lit 306,kd "own_laying" 632 182 1 3 301 636) ::
(nat_lit 307,kf "own_laying" (top 55) y8 306) ::
(nat_lit 313,kd "most_outside" 639 184 2 3 308 644) ::
(nat_lit 314,kf "most_outside" (top 56) y8 313) ::
(nat_lit 327,kD "__init__" "Store.__init__" 659 188 3 3 322 665) ::
(nat_lit 328,kF "__init__" "Store.__init__" (qY (top 57) 0) y8 327) ::
(nat_lit 334,kD "words" "Store.words" 668 197 1 3 329 672) ::
(nat_lit 335,kF "words" "Store.words" (qY (top 57) 1) y8 334) ::
(nat_lit 341,kD "outside" "Store.outside" 675 200 1 3 336 679) ::
(nat_lit 342,kF "outside" "Store.outside" (qY (top 57) 2) y8 341) ::
(nat_lit 348,kD "sweep" "Store.sweep" 682 203 1 3 343 687) ::
(nat_lit 349,kF "sweep" "Store.sweep" (qY (top 57) 3) y8 348) ::
(nat_lit 355,kD "lacks" "Store.lacks" 690 209 2 3 350 695) ::
(nat_lit 356,kF "lacks" "Store.lacks" (qY (top 57) 4) y8 355) ::
(nat_lit 362,kD "make_room" "Store.make_room" 698 212 2 3 357 703) ::
(nat_lit 363,kF "make_room" "Store.make_room" (qY (top 57) 5) y8 362) ::
(nat_lit 369,kD "lay" "Store.lay" 706 218 4 3 364 713) ::
(nat_lit 370,kF "lay" "Store.lay" (qY (top 57) 6) y8 369) ::
(nat_lit 376,kD "number" "Store.number" 716 222 3 3 371 723) ::
(nat_lit 377,kF "number" "Store.number" (qY (top 57) 7) y8 376) ::
(nat_lit 383,kD "sign" "Store.sign" 726 232 3 3 378 732) ::
(nat_lit 384,kF "sign" "Store.sign" (qY (top 57) 8) y8 383) ::
(nat_lit 390,kD "one" "Store.one" 735 235 3 3 385 741) ::
(nat_lit 391,kF "one" "Store.one" (qY (top 57) 9) y8 390) ::
(nat_lit 397,kD "copy" "Store.copy" 744 238 3 3 392 750) ::
(nat_lit 398,kF "copy" "Store.copy" (qY (top 57) 10) y8 397) ::
(nat_lit 404,kD "in_word" "Store.in_word" 753 241 2 3 399 758) ::
(nat_lit 405,kF "in_word" "Store.in_word" (qY (top 57) 11) y8 404) ::
(nat_lit 411,kD "come_of_two" "Store.come_of_two" 761 244 5 3 406 769) ::
(nat_lit 412,kF "come_of_two" "Store.come_of_two" (qY (top 57) 12) y8 411) ::
(nat_lit 418,kD "plus" "Store.plus" 772 247 4 3 413 779) ::
(nat_lit 419,kF "plus" "Store.plus" (qY (top 57) 13) y8 418) ::
(nat_lit 425,kD "less" "Store.less" 782 250 4 3 420 789) ::
(nat_lit 426,kF "less" "Store.less" (qY (top 57) 14) y8 425) ::
(nat_lit 432,kD "times" "Store.times" 792 253 4 3 427 799) ::
(nat_lit 433,kF "times" "Store.times" (qY (top 57) 15) y8 432) ::
(nat_lit 439,kD "over" "Store.over" 802 256 4 3 434 809) ::
(nat_lit 440,kF "over" "Store.over" (qY (top 57) 16) y8 439) ::
(nat_lit 446,kD "rest" "Store.rest" 812 259 4 3 441 819) ::
(nat_lit 447,kF "rest" "Store.rest" (qY (top 57) 17) y8 446) ::
(nat_lit 453,kD "pair" "Store.pair" 822 262 4 3 448 829) ::
(nat_lit 454,kF "pair" "Store.pair" (qY (top 57) 18) y8 453) ::
(nat_lit 460,kD "pair_in" "Store.pair_in" 832 266 2 3 455 837) ::
(nat_lit 461,kF "pair_in" "Store.pair_in" (qY (top 57) 19) y8 460) ::
(nat_lit 467,kD "first" "Store.first" 840 270 3 3 462 846) ::
(nat_lit 468,kF "first" "Store.first" (qY (top 57) 20) y8 467) ::
(nat_lit 474,kD "second" "Store.second" 849 273 3 3 469 855) ::
(nat_lit 475,kF "second" "Store.second" (qY (top 57) 21) y8 474) ::
(nat_lit 481,kD "set_first" "Store.set_first" 858 276 3 3 476 864) ::
(nat_lit 482,kF "set_first" "Store.set_first" (qY (top 57) 22) y8 481) ::
(nat_lit 488,kD "set_second" "Store.set_second" 867 279 3 3 483 873) ::
(nat_lit 489,kF "set_second" "Store.set_second" (qY (top 57) 23) y8 488) ::
(nat_lit 495,kD "below" "Store.below" 876 282 3 3 490 882) ::
(nat_lit 496,kF "below" "Store.below" (qY (top 57) 24) y8 495) ::
(nat_lit 502,kD "same" "Store.same" 885 285 3 3 497 891) ::
(nat_lit 503,kF "same" "Store.same" (qY (top 57) 25) y8 502) ::
(nat_lit 509,kD "kind" "Store.kind" 894 288 2 3 504 899) ::
(nat_lit 510,kF "kind" "Store.kind" (qY (top 57) 26) y8 509) ::
(nat_lit 516,kD "told" "Store.told" 902 291 2 3 511 907) ::
(nat_lit 517,kF "told" "Store.told" (qY (top 57) 27) y8 516) ::
(nat_lit 518,kT [.str "held" 910, .str "kept" 911, .str "laying" 912, .str "quick" 913, .str "room" 914, .str "slow" 915, .str "sweeps" 916]) ::
(nat_lit 519,kE [oE P "__module__" 654 (.str "markwords.store" 614),oE P "__firstlineno__" 658 (.int (186) 657),o P "__init__" 667 328,o P "words" 674 335,o P "outside" 681 342,o P "sweep" 689 349,o P "lacks" 697 356,o P "make_room" 705 363,o P "lay" 715 370,o P "number" 725 377,o P "sign" 734 384,o P "one" 743 391,o P "copy" 752 398,o P "in_word" 760 405,o P "come_of_two" 771 412,o P "plus" 781 419,o P "less" 791 426,o P "times" 801 433,o P "over" 811 440,o P "rest" 821 447,o P "pair" 831 454,o P "pair_in" 839 461,o P "first" 848 468,o P "second" 857 475,o P "set_first" 866 482,o P "set_second" 875 489,o P "below" 884 496,o P "same" 893 503,o P "kind" 901 510,o P "told" 909 517,o P "__static_attributes__" 917 518,o P "__dict__" 919 521,o P "__weakref__" 921 522,oE P "__doc__" 922 (.none)] 4) ::
(nat_lit 520,kK "Store" [.type "object"] [.ref 520, .type "object"] 519 [] none 647 655 "object.__new__") ::
(nat_lit 521,⟨.type "getset_descriptor", none,(.fields #[.str "__dict__" 918, .ref 520, .builtin "function.__dict__", .builtin "function.__dict__#set"]), #[]⟩) ::
(nat_lit 522,⟨.type "getset_descriptor", none,(.fields #[.str "__weakref__" 920, .ref 520, .builtin "ExceptionGroup.__weakref__", .none]), #[]⟩) ::
(nat_lit 530,kd "store_of" 925 295 4 3 525 933) ::
(nat_lit 531,kf "store_of" (top 58) y8 530) ::
(nat_lit 537,kd "room_goes" 940 302 4 3 532 947) ::
(nat_lit 538,kf "room_goes" (top 61) y9 537) ::
(nat_lit 544,kd "word_fault" 950 306 2 3 539 957) ::
(nat_lit 545,kf "word_fault" (top 62) y9 544) ::
(nat_lit 551,kd "is_head" 960 311 1 3 546 964) ::
(nat_lit 552,kf "is_head" (top 63) y9 551) ::
(nat_lit 558,kd "fault_at" 967 313 3 3 553 974) ::
(nat_lit 559,kf "fault_at" (top 64) y9 558) ::
(nat_lit 565,kd "thing_fault" 977 324 2 3 560 984) ::
(nat_lit 566,kf "thing_fault" (top 65) y9 565) ::
(nat_lit 572,kd "marks_by_head" 987 332 1 3 567 993) ::
(nat_lit 573,kf "marks_by_head" (top 66) y9 572) ::
(nat_lit 579,kd "worth_places" 996 337 1 3 574 1002) ::
(nat_lit 580,kf "worth_places" (top 67) y9 579) ::
(nat_lit 586,kd "worth_fault" 1005 344 3 3 581 1015) ::
(nat_lit 587,kf "worth_fault" (top 68) y9 586) ::
(nat_lit 593,kd "image_fault" 1018 354 1 3 588 1026) ::
(nat_lit 594,kf "image_fault" (top 69) y9 593) ::
(nat_lit 600,kd "opened" 1029 368 1 3 595 1034) ::
(nat_lit 601,kf "opened" (top 70) y9 600) ::
(nat_lit 605,kn "_law_bag" 1039 374 1 3 602 1042) ::
(nat_lit 606,kf "_law_bag" (top 72) y10 605) ::
(nat_lit 612,kd "_law_draw" 1045 379 2 3 607 1051) ::
(nat_lit 613,kf "_law_draw" (top 73) y10 612) ::
(nat_lit 617,kn "_law_full_laying" 1054 390 3 3 614 1057) ::
(nat_lit 618,kf "_law_full_laying" (top 74) y10 617) ::
(nat_lit 622,kn "_law_laying" 1060 398 1 3 619 1063) ::
(nat_lit 623,kf "_law_laying" (top 75) y10 622) ::
(nat_lit 627,kn "_law_mark" 1066 420 2 3 624 1069) ::
(nat_lit 628,kf "_law_mark" (top 76) y10 627) ::
(nat_lit 634,kd "_law_load" 1072 422 2 3 629 1077) ::
(nat_lit 635,kf "_law_load" (top 77) y10 634) ::
(nat_lit 641,kd "_law_is_small" 1080 424 2 3 636 1086) ::
(nat_lit 642,kf "_law_is_small" (top 78) y10 641) ::
(nat_lit 646,kn "_law_right" 1089 427 1 3 643 1092) ::
(nat_lit 647,kf "_law_right" (top 79) y10 646) ::
(nat_lit 653,kd "_law_number_in" 1095 442 3 3 648 1103) ::
(nat_lit 654,kf "_law_number_in" (top 80) y10 653) ::
(nat_lit 660,kd "_law_ref_of" 1106 447 2 3 655 1116) ::
(nat_lit 661,kf "_law_ref_of" (top 81) y10 660) ::
(nat_lit 667,kd "_law_things_fault" 1119 460 2 3 662 1128) ::
(nat_lit 668,kf "_law_things_fault" (top 82) y10 667) ::
(nat_lit 672,kn "_law_leads_fault" 1131 477 4 3 669 1134) ::
(nat_lit 673,kf "_law_leads_fault" (top 83) y10 672) ::
(nat_lit 679,kd "_law_image_fault" 1137 489 1 3 674 1150) ::
(nat_lit 680,kf "_law_image_fault" (top 84) y10 679) ::
(nat_lit 684,kn "_law_any_thing" 1153 502 2 3 681 1156) ::
(nat_lit 685,kf "_law_any_thing" (top 85) y10 684) ::
(nat_lit 689,kn "_law_any_word" 1159 511 3 3 686 1162) ::
(nat_lit 690,kf "_law_any_word" (top 86) y10 689) ::
(nat_lit 694,kn "_law_any_image" 1165 524 2 3 691 1168) ::
(nat_lit 695,kf "_law_any_image" (top 87) y10 694) ::
(nat_lit 706,kn "_law_alike" 1178 542 2 3 703 1181) ::
(nat_lit 707,kf "_law_alike" (top 89) y10 706) ::
(nat_lit 713,kd "_law_spoilt_word" 1184 552 3 3 708 1194) ::
(nat_lit 714,kf "_law_spoilt_word" (top 90) y10 713) ::
(nat_lit 720,kd "_law_spoilt_list" 1197 557 3 3 715 1205) ::
(nat_lit 721,kf "_law_spoilt_list" (top 91) y10 720) ::
(nat_lit 727,kd "_law_spoilt_laying" 1208 565 2 3 722 1221) ::
(nat_lit 728,kf "_law_spoilt_laying" (top 92) y10 727) ::
(nat_lit 734,kd "_law_spoilt" 1224 576 2 3 729 1234) ::
(nat_lit 735,kf "_law_spoilt" (top 93) y10 734) ::
(nat_lit 741,kd "_law_fault_of" 1237 586 1 3 736 1243) ::
(nat_lit 742,kf "_law_fault_of" (top 94) y10 741) ::
(nat_lit 748,kd "law" 1246 593 1 3 743 1260) ::
(nat_lit 749,kf "law" (top 95) y10 748) ::
[]
def KA:List Addr:=[2,3,20,21,22,29,30,31,32,35,47,48,49,50,51,54,61,62,63,66,78,79,80,81,82,85,86,92,93,99,100,106,107,113,114,118,119,123,124,128,129,135,136,142,143,147,148,154,155,161,162,168,169,175,176,182,183,189,190,196,197,198,204,205,211,212,218,219,225,226,232,233,239,240,246,247,253,254,260,261,267,268,274,275,281,282,288,289,293,294,298,299,300,306,307,313,314,327,328,334,335,341,342,348,349,355,356,362,363,369,370,376,377,383,384,390,391,397,398,404,405,411,412,418,419,425,426,432,433,439,440,446,447,453,454,460,461,467,468,474,475,481,482,488,489,495,496,502,503,509,510,516,517,518,519,520,521,522,530,531,537,538,544,545,551,552,558,559,565,566,572,573,579,580,586,587,593,594,600,601,605,606,612,613,617,618,622,623,627,628,634,635,641,642,646,647,653,654,660,661,667,668,672,673,679,680,684,685,689,690,694,695,706,707,713,714,720,721,727,728,734,735,741,742,748,749]
theorem K_as:∀P,KA=(K P).map (·.1):=λ_=>by kernel_rfl
noncomputable def KR(P:Params):Frag:=Hd.BR P++[(nat_lit 701,kd "_law_whole" 1171 540 1 3 696 1175),(nat_lit 702,kf "_law_whole" (top 88) y10 701)]
def Q:List Nat:=[16,43,74,88,95,102,109,116,121,126,131,138,145,150,157,164,171,178,185,192,200,207,214,221,228,235,242,249,256,263,270,277,284,291,296,302,309,323,330,337,344,351,358,365,372,379,386,393,400,407,414,421,428,435,442,449,456,463,470,477,484,491,498,505,512,526,533,540,547,554,561,568,575,582,589,596,603,608,615,620,625,630,637,644,649,656,663,670,675,682,687,692,697,704,709,716,723,730,737,744]
noncomputable def vw:Program:=W.view PySem.Challenge.pw_markwords_k42_first_fault_of_images [0,2,3,4,5,7,8,9,10,11,12,13,14,15,16,17,18,19,20,21,23,24,25,26,27,28,29,31,32,34,35,36,37,38,39,40,41,42,44,45,46,48,49,50,51,52,54,55,56,57,58,60,61,62,63,64,65,66,67,68,69,70,72,73,74,75,76,77,78,79,80,81,82,83,84,85,86,87,88,89,90,91,92,93,94,95]
def ls:List Str:=["LEAST_LOAD_BITS","KINDS_BY_MARK"]
def lv:List (Str×WData):=[]
noncomputable def Xt(s:Shared):Bool:=xlAt vw lv s&&recOk (RowW.records (OpenRow.toRowW (OpenLaw.row PySem.Challenge.rw_markwords_k42_first_fault_of_images))) s
noncomputable def Lf(w:World)(os:OsState):=(Hd.topT treeTable PySem.Challenge.pw_markwords_k42_first_fault_of_images w 11 (some (.ref 6)) 9136 (Hd.S0 w os) (topStub PySem.Challenge.pw_markwords_k42_first_fault_of_images)).map (λs=>(s.n,s.gens,Q.map s.tree.get,(Hd.KX (K w.params) (KR w.params)).map λp=>s.tree.get p.1))
noncomputable def Rt(w:World)(_:OsState):Option (Nat×Array GenState×List (Option Obj)×List (Option Obj)):=some (750, #[],Q.map (λ_=>some Hd.E0),(Hd.KX (K w.params) (KR w.params)).map λp=>some p.2)
theorem Lf_is:Lf=Lf:=rfl
theorem Rt_is:Rt=Rt:=rfl
name_quick MwLq for Lf by Lf_is
name_quick MwRq for Rt by Rt_is
theorem run0(w:World):Lf (World.withFollow w "special-get-raises" false)=Rt (World.withFollow w "special-get-raises" false) :=
 (congrFun PySem.W.Fast.MwLq_eq (World.withFollow w "special-get-raises" false)).trans (Eq.trans (by kernel_rfl:PySem.W.Fast.MwLq (World.withFollow w "special-get-raises" false)=PySem.W.Fast.MwRq (World.withFollow w "special-get-raises" false)) (congrFun PySem.W.Fast.MwRq_eq (World.withFollow w "special-get-raises" false)).symm)
theorem run1(w:World):Lf (World.withFollow w "special-get-raises" true)=Rt (World.withFollow w "special-get-raises" true) :=
 (congrFun PySem.W.Fast.MwLq_eq (World.withFollow w "special-get-raises" true)).trans (Eq.trans (by kernel_rfl:PySem.W.Fast.MwLq (World.withFollow w "special-get-raises" true)=PySem.W.Fast.MwRq (World.withFollow w "special-get-raises" true)) (congrFun PySem.W.Fast.MwRq_eq (World.withFollow w "special-get-raises" true)).symm)
theorem run(w:World):Lf w=Rt w:=byRow2 "special-get-raises" (P:=λw=>Lf w=Rt w) run0 run1 w
theorem L_eq(w:World)(os:OsState):Lf w os=(Hd.topT treeTable PySem.Challenge.pw_markwords_k42_first_fault_of_images w 11 (some (.ref 6)) 9136 (Hd.S0 w os) (topStub PySem.Challenge.pw_markwords_k42_first_fault_of_images)).map (λs=>(s.n,s.gens,Q.map s.tree.get,(Hd.KX (K w.params) (KR w.params)).map λp=>s.tree.get p.1)):=by delta Lf; exact Eq.refl _
theorem R_eq(w:World)(os:OsState):Rt w os=some (750, #[],Q.map (λ_=>some Hd.E0),(Hd.KX (K w.params) (KR w.params)).map λp=>some p.2):=by delta Rt; exact Eq.refl _
noncomputable def LfA(w:World)(f:Nat->Obj)(l:Life)(d:Drawn)(k:Nat)(os:OsState):=Hd.LkA PySem.Challenge.pw_markwords_k42_first_fault_of_images vw w (Hd.SE (K w.params) (KR w.params) Q 750 f l d k os)
noncomputable def RtA(w:World)(f:Nat->Obj)(l:Life)(d:Drawn)(k:Nat)(os:OsState):=Hd.GdA vw
theorem LfA_is:LfA=LfA:=rfl
name_quick MwLAq for LfA by LfA_is
theorem RtA_is:RtA=RtA:=rfl
name_quick MwRAq for RtA by RtA_is
theorem lookA(w:World):LfA (w)=RtA (w) :=
 (congrFun PySem.W.Fast.MwLAq_eq (w)).trans (Eq.trans (by kernel_rfl:PySem.W.Fast.MwLAq (w)=PySem.W.Fast.MwRAq (w)) (congrFun PySem.W.Fast.MwRAq_eq (w)).symm)
theorem HA_eq(w:World)(f:Nat->Obj)(l:Life)(d:Drawn)(k:Nat)(os:OsState):Hd.LkA PySem.Challenge.pw_markwords_k42_first_fault_of_images vw w (Hd.SE (K w.params) (KR w.params) Q 750 f l d k os)=Hd.GdA vw:=Eq.trans (by delta LfA; exact Eq.refl _:_=LfA w f l d k os) ((congrFun (congrFun (congrFun (congrFun (congrFun (lookA w) f) l) d) k) os).trans (by delta RtA; exact Eq.refl _))
noncomputable def LfB(w:World)(f:Nat->Obj)(l:Life)(d:Drawn)(k:Nat)(os:OsState):=(λs=>(Hd.LkB PySem.Challenge.pw_markwords_k42_first_fault_of_images vw ls Xt s,tabsOk vw s)) (Hd.SE (K w.params) (KR w.params) Q 750 f l d k os)
noncomputable def RtB(w:World)(f:Nat->Obj)(l:Life)(d:Drawn)(k:Nat)(os:OsState):=(true,true)
theorem LfB_is:LfB=LfB:=rfl
name_quick MwLBq for LfB by LfB_is
theorem lookB(w:World):LfB w=RtB w:=(congrFun PySem.W.Fast.MwLBq_eq w).trans (by kernel_rfl)
theorem HB_eq(w:World)(f:Nat->Obj)(l:Life)(d:Drawn)(k:Nat)(os:OsState):(λs=>(Hd.LkB PySem.Challenge.pw_markwords_k42_first_fault_of_images vw ls Xt s,tabsOk vw s)) (Hd.SE (K w.params) (KR w.params) Q 750 f l d k os)=(true,true):=Eq.trans (by delta LfB; exact Eq.refl _:_=LfB w f l d k os) ((congrFun (congrFun (congrFun (congrFun (congrFun (lookB w) f) l) d) k) os).trans (by delta RtB; exact Eq.refl _))
noncomputable def LfD(w:World)(f:Nat->Obj)(l:Life)(d:Drawn)(k:Nat)(os:OsState):=Hd.LkD vw ls (Hd.SE (K w.params) (KR w.params) Q 750 f l d k os)
noncomputable def RtD(w:World)(f:Nat->Obj)(l:Life)(d:Drawn)(k:Nat)(os:OsState):=Hd.GdD vw ls
theorem LfD_is:LfD=LfD:=rfl
name_quick MwLDq for LfD by LfD_is
theorem RtD_is:RtD=RtD:=rfl
name_quick MwRDq for RtD by RtD_is
theorem lookD(w:World):LfD (w)=RtD (w) :=
 (congrFun PySem.W.Fast.MwLDq_eq (w)).trans (Eq.trans (by kernel_rfl:PySem.W.Fast.MwLDq (w)=PySem.W.Fast.MwRDq (w)) (congrFun PySem.W.Fast.MwRDq_eq (w)).symm)
theorem HD_eq(w:World)(f:Nat->Obj)(l:Life)(d:Drawn)(k:Nat)(os:OsState):Hd.LkD vw ls (Hd.SE (K w.params) (KR w.params) Q 750 f l d k os)=Hd.GdD vw ls:=Eq.trans (by delta LfD; exact Eq.refl _:_=LfD w f l d k os) ((congrFun (congrFun (congrFun (congrFun (congrFun (lookD w) f) l) d) k) os).trans (by delta RtD; exact Eq.refl _))
noncomputable def LfC(w:World)(f:Nat->Obj)(l:Life)(d:Drawn)(k:Nat)(os:OsState):=(kHook K KA K_as).obs (Hd.SE (K w.params) (KR w.params) Q 750 f l d k os)
noncomputable def RtC(w:World)(f:Nat->Obj)(l:Life)(d:Drawn)(k:Nat)(os:OsState):=(kHook K KA K_as).val w
theorem LfC_is:LfC=LfC:=rfl
name_quick MwLCq for LfC by LfC_is
theorem RtC_is:RtC=RtC:=rfl
name_quick MwRCq for RtC by RtC_is
theorem lookC(w:World):LfC (w)=RtC (w) :=
 (congrFun PySem.W.Fast.MwLCq_eq (w)).trans (Eq.trans (by kernel_rfl:PySem.W.Fast.MwLCq (w)=PySem.W.Fast.MwRCq (w)) (congrFun PySem.W.Fast.MwRCq_eq (w)).symm)
theorem HC_eq(w:World)(f:Nat->Obj)(l:Life)(d:Drawn)(k:Nat)(os:OsState):(kHook K KA K_as).obs (Hd.SE (K w.params) (KR w.params) Q 750 f l d k os)=(kHook K KA K_as).val w:=Eq.trans (by delta LfC; exact Eq.refl _:_=LfC w f l d k os) ((congrFun (congrFun (congrFun (congrFun (congrFun (lookC w) f) l) d) k) os).trans (by delta RtC; exact Eq.refl _))
theorem hLf9:LeftO PySem.Challenge.pw_markwords_k42_first_fault_of_images vw ls Xt (kHook K KA K_as).obs (kHook K KA K_as).val 9136 :=
 Hd.left_ofE (R:=KR) (Q:=Q) (M:=9136) (n:=750) (by kernel_rfl) (by decide) (λ_=>by kernel_rfl) (by decide) (λw os=>(L_eq w os).symm.trans ((congrFun (run w) os).trans (R_eq w os))) (λw f l d k os=>Hd.look3 (HA_eq w f l d k os) (HB_eq w f l d k os) (HD_eq w f l d k os) (HC_eq w f l d k os)) Hd.boot_main
end Mx
namespace L2
open PySem PySem.Spec PyProof.Rows
section
theorem X2(h:Q 4238894112 { s with toks:=s.toks+1 }):wpAny (model prog w) A (pyHash .none) Q E s:=by
 unfold pyHash;have hv:[Value.none].any Value.onHeap=false:=rfl;refine wpAny_bind ?_;rw[cRoomFor,if_neg (by rw[hv]; exact Uv)];refine wpAny_pure ?_;refine wpAny_bind (wpAny_specialOf (typeIs_none s) F.slot_NoneType_hash.lookup ?_);show wpAny _ _ (if(some (Value.builtin "NoneType.__hash__")==some Value.none)=true then _ else _) Q E s;rw[if_neg (by rw[beq_builtin_none]; exact Uv)];refine wpAny_bind (wpAny_specialOf (typeIs_none s) F.slot_NoneType_hash.lookup ?_);show wpAny _ _ (callSpecialIfBoundUnlessNone? .none "__hash__" _ >>= _) Q E s;refine wpAny_bind (wpAny_callSpecialIfBoundUnlessNone?_slot (typeIs_none s) F.slot_NoneType_hash
  (wpAny_call_entry F.slot_NoneType_hash (typeIs_none s) F.entry_NoneType_hash
   (show wpAny _ _ (do ret (<-mkInt 4238894112)) _ _ s from wpAny_ret_mkInt ?_) (F.args_NoneType_hash_1 _)))
 show wpAny _ _ (if(decide (-(2:Int)^63<=4238894112)&&decide ((4238894112:Int)<2^63))=true then _ else _) Q E _;rw[if_pos (by decide)];exact wpAny_pure h
end
inductive Key where
 |inl (i:Int)|inr (x:Str)|non
 deriving DecidableEq
def Ji:Key->Value->Bool
 |.inl k,v=>Value.isInt k v
 |.inr x,v=>Value.isStrOf x v
 |.non, .none=>true
 |.non,_=>false
def keyH(w:World):Key->Int
 |.inl k=>hashInt k
 |.inr x=>hashStr w x
 |.non=>4238894112
theorem vk:∀{k:Key}{v:Value},Ji k v=true->(∃i t,k=Key.inl i/\v=Value.int i t)\/(∃x t,k=Key.inr x/\v=Value.str x t)\/(k=Key.non/\v=Value.none)
 |.inl i,v,h=>by
  obtain⟨t,e⟩:=Value.isInt_shape (k:=i) (v:=v) h;exact .inl ⟨i,t,rfl,e⟩
 |.inr x,v,h=>by
  obtain⟨t,e⟩:=Value.isStrOf_shape (x:=x) (v:=v) h;exact .inr (.inl ⟨x,t,rfl,e⟩)
 |.non,v,h=>by
  cases v<;>first|exact .inr (.inr ⟨rfl,rfl⟩)|exact absurd h (by simp[Ji])
theorem Ga(i:Int)(t:Tok):Ji (.inl i) (.int i t)=true:=by simp[Ji,Value.isInt]
theorem W9(x:Str)(t:Tok):Ji (.inr x) (.str x t)=true:=by simp[Ji,Value.isStrOf]
theorem key_ll(a b:Int):decide ((Key.inl a:Key)=Key.inl b)=(a==b):=by
 by_cases e:a=b
 ·subst e; simp
 ·have h:¬(Key.inl a:Key)=Key.inl b:=λq=>e (Key.inl.inj q)
  rw[decide_eq_false h];exact(beq_eq_false_iff_ne.mpr e).symm
theorem key_rr(a b:Str):decide ((Key.inr a:Key)=Key.inr b)=decide (a=b):=by
 by_cases e:a=b
 ·subst e; simp
 ·have h:¬(Key.inr a:Key)=Key.inr b:=λq=>e (Key.inr.inj q)
  rw[decide_eq_false h,decide_eq_false e]
theorem key_lr(a:Int)(b:Str):decide ((Key.inl a:Key)=Key.inr b)=false:=decide_eq_false (λq=>nomatch q)
theorem key_rl(a:Str)(b:Int):decide ((Key.inr a:Key)=Key.inl b)=false:=decide_eq_false (λq=>nomatch q)
def vq(prog:Program)(w:World):PySem.KeyKind prog w Key where
 is:=Ji
 hash:=keyH w
 inj:=λv a b ha hb=>by
  rcases vk ha with⟨i,t,rfl,rfl⟩|⟨x,t,rfl,rfl⟩|⟨rfl,rfl⟩
  ·rcases vk hb with⟨j,u,rfl,e⟩|⟨y,u,rfl,e⟩|⟨rfl,e⟩
   ·injection e with e1 _; rw[e1]
   ·exact nomatch e
   ·exact nomatch e
  ·rcases vk hb with⟨j,u,rfl,e⟩|⟨y,u,rfl,e⟩|⟨rfl,e⟩
   ·exact nomatch e
   ·injection e with e1 _; rw[e1]
   ·exact nomatch e
  ·rcases vk hb with⟨j,u,rfl,e⟩|⟨y,u,rfl,e⟩|⟨rfl,e⟩
   ·exact nomatch e
   ·exact nomatch e
   ·rfl
 byValue:=λk v h=>by
  rcases vk h with⟨i,t,rfl,rfl⟩|⟨x,t,rfl,rfl⟩|⟨rfl,rfl⟩<;>rfl
 pyHash:=λhv h=>by
  rcases vk hv with⟨i,t,rfl,rfl⟩|⟨x,t,rfl,rfl⟩|⟨rfl,rfl⟩
  ·exact wpAny_pyHash_int h
  ·exact wpAny_pyHash_str h
  ·exact X2 h
 eqBool:=λhu hv h=>by
  rcases vk hu with⟨i,t,rfl,rfl⟩|⟨x,t,rfl,rfl⟩|⟨rfl,rfl⟩
  ·rcases vk hv with⟨j,u,rfl,rfl⟩|⟨y,u,rfl,rfl⟩|⟨rfl,rfl⟩
   ·rw[key_ll] at h; exact wpAny_eqBool_int h
   ·rw[key_lr] at h; exact SeqAt.EqAt.int_str i t y u _ _ _ _ h
   ·exact SeqAt.EqAt.int_none i t _ _ _ _ h
  ·rcases vk hv with⟨j,u,rfl,rfl⟩|⟨y,u,rfl,rfl⟩|⟨rfl,rfl⟩
   ·rw[key_rl] at h; exact SeqAt.EqAt.str_int x t j u _ _ _ _ h
   ·rw[key_rr] at h; exact wpAny_eqBool_str h
   ·exact SeqAt.EqAt.str_none x t _ _ _ _ h
  ·rcases vk hv with⟨j,u,rfl,rfl⟩|⟨y,u,rfl,rfl⟩|⟨rfl,rfl⟩
   ·exact SeqAt.EqAt.none_int j u _ _ _ _ h
   ·exact SeqAt.EqAt.none_str y u _ _ _ _ h
   ·exact SeqAt.EqAt.same .none _ _ _ _ h
 «strs»:=λk x t v h=>by
  rcases vk h with⟨i,u,rfl,e⟩|⟨y,u,rfl,e⟩|⟨rfl,e⟩
  ·exact nomatch e
  ·injection e with e1 _
   subst e1;cases v<;>rfl
  ·exact nomatch e
theorem Jd(prog:Program)(w:World)(i:Int)(t:Tok):(vq prog w).is (.inl i) (.int i t)=true:=Ga i t
theorem jq(prog:Program)(w:World)(x:Str)(t:Tok):(vq prog w).is (.inr x) (.str x t)=true:=W9 x t
inductive V where
 |non|bl (b:Bool)|int (i:Int)|str (x:Str)|byt (b:Array UInt8)|flt (b:UInt64)|ref (a:Addr)|ty (n:String)
 deriving DecidableEq
def RelV:V->Value->Prop
 |.non,u=>u=Value.none
 |.bl b,u=>u=Value.bool b
 |.int i,u=>∃t,u=Value.int i t
 |.str x,u=>∃t,u=Value.str x t
 |.byt b,u=>∃t,u=Value.bytes b t
 |.flt b,u=>∃t,u=Value.float b t
 |.ref a,u=>u=Value.ref a
 |.ty n,u=>u=Value.type n
abbrev Vals:List V->List Value->Prop:=Paired RelV
theorem Vals.length(r:Vals xs us):xs.length=us.length:=Paired.length r
theorem Vals.get:∀{xs:List V}{us:List Value}{i:Nat}{x:V},Vals xs us->xs[i]?=some x->∃u,us[i]?=some u/\RelV x u
 |_,_,_,_, .nil,e=>by simp at e
 |_,_,0,_, .cons r _,e=>by simp at e; subst e; exact⟨_,rfl,r⟩
 |_,_,i+1,x, .cons _ t,e=>by
  obtain⟨u,h1,h2⟩:=Vals.get (i:=i) (x:=x) t (by simpa using e);exact⟨u,by simpa using h1,h2⟩
theorem Vals.set(r:RelV x u):∀{xs:List V}{us:List Value}(i:Nat),Vals xs us->Vals (xs.set i x) (us.set i u)
 |_,_,_, .nil=>.nil
 |_,_,0, .cons _ t=>.cons r t
 |_,_,i+1, .cons q t=>.cons q (Vals.set r i t)
theorem Vals.append:∀{xs ys:List V}{us ws:List Value},Vals xs us->Vals ys ws->Vals (xs++ys) (us++ws)
 |_,_,_,_, .nil,s=>s
 |_,_,_,_, .cons r t,s=>.cons r (Vals.append t s)
theorem Vals.take:∀{xs:List V}{us:List Value}(n:Nat),Vals xs us->Vals (xs.take n) (us.take n)
 |_,_,0,_=>.nil
 |_,_,_+1, .nil=>.nil
 |_,_,n+1, .cons r t=>.cons r (Vals.take n t)
theorem Vals.drop:∀{xs:List V}{us:List Value}(n:Nat),Vals xs us->Vals (xs.drop n) (us.drop n)
 |_,_,0,r=>r
 |_,_,_+1, .nil=>.nil
 |_,_,n+1, .cons _ t=>Vals.drop n t
def RelO:Option V->Option Value->Prop
 |some v,some u=>RelV v u
 |none,none=>True
 |_,_=>False
def KV{κ:Type}:List (κ×V)->List (κ×Value)->Prop:=Paired λ(p:κ×V) (q:κ×Value)=>p.1=q.1/\RelV p.2 q.2
def kV:Key->V
 |.inl i=>.int i
 |.inr x=>.str x
 |.non=>.non
inductive HO where
  |lst (xs:List V)
  |tup (xs:List V)
  |dK (kvs:List (Key×V))|dT (kvs:List (List Key×V))
  |set (S:Int->Bool) (n:Nat)
  |ins (C dx:Addr) (fs:List (Str×V))
  |own (x:Addr)
  |xd (fs:List (Str×V))
  |met (f x:Addr)
  |rng (lo hi:Int)
  |frz (o:Obj) (u:HO)
  |tbl (ps:Array Value)
  |ext (φ:Heap->Prop)
abbrev Hp:=Addr->Option HO
def upd(H:Hp)(a:Addr)(o:HO):Hp:=λb=>if b=a then some o else H b
theorem upd_same:upd H a o a=some o:=by unfold upd; rw[if_pos rfl]
theorem upd_ne(h:b≠a):upd H a o b=H b:=by unfold upd; rw[if_neg h]
theorem ne_of{H:Hp}(h:H a=some o)(h':H b=some u)(d:o≠u):a≠b:=by
 intro e; subst e; rw[h] at h'; exact d (Option.some.inj h')
theorem vj{H:Hp}(h:H a=some o)(h':H b=none):a≠b:=by
 intro e; subst e; rw[h] at h'; cases h'
section
variable (P:Program) (w:World)
def ObjOk(H:Hp)(h:Heap)(a:Addr):HO->Prop
 |.lst xs=>xs.length<=sizeLine/\∃(its:List Value)(n:Nat),Vals xs its/\h.get? a=some { cls:=.type "list", data:=.seq its.toArray n }
 |.tup xs=>xs.length<=sizeLine/\∃its:List Value,Vals xs its/\IsTup h a its.toArray
 |.dK kvs=>kvs.length<=sizeLine/\(a==sysModules)=false/\∃vs,KV kvs vs/\h.DictOf (vq P w) a vs
 |.dT kvs=>kvs.length<=sizeLine/\(a==sysModules)=false/\∃xs:List (List Key×Addr×Value),
   Paired (λ(p:List Key×V) (q:List Key×Addr×Value)=>p.1=q.1/\H q.2.1=some (.tup (p.1.map kV))/\RelV p.2 q.2.2) kvs xs /\
   ∃o es ep,h.get? a=some o/\o.ExactDict/\o.data=.dict es ep/\es.toList=xs.map (entryOfKey (tupleKind (vq P w)))/\(xs.map (·.1)).Nodup
 |.set S n=>h.SetOf (intKind P w) a S n
 |.ins C dx fs=>H dx=some (.own a)/\fs.length<=1000/\dx≠a/\h.get? a=some (W.instObj C dx) /\
   ∃mA,h.Ns1 dx mA/\(∀f,RelO (fs.lookup f) (mA f))/\PySem.Within mA (fs.map (·.1))
 |.own _=>∃o,h.get? a=some o
 |.xd fs=>∃mA,h.Ns1 a mA/\∀f,RelO (fs.lookup f) (mA f)
 |.rng lo hi=>∃t u v,h.get? a=some { cls:=.type "range", data:=.fields #[.int lo t, .int hi u, .int 1 v] }
 |.frz o u=>h.get? a=some o/\ObjOk H h a u
 |.tbl ps=>h.get? a=some { cls:=.none,data:=.fields ps }
 |.met f x=>h.get? a=some (W.methodObj (.ref f) (.ref x))
 |.ext φ=>φ h/\(∃o,h.get? a=some o)/\∀h1 h2:Heap,φ h1->(∀o,h1.get? a=some o->h2.get? a=some o)->φ h2
def HOk(H:Hp)(h:Heap):Prop:=∀a o,H a=some o->ObjOk P w H h a o
end
section
theorem ObjOk.lt(x:ObjOk P w H h a o):a<h.objs.size:=by
 cases o with
 |lst xs=>obtain⟨_,_,_,_,e⟩:=x; exact Heap.lt_size e
 |tup xs=>obtain⟨_,_,_,p⟩:=x; exact p.lt
 |dK kvs=>obtain⟨_,_,_,_,o,_,_,e,_⟩:=x; exact Heap.lt_size e
 |dT kvs=>obtain⟨_,_,_,_,o,_,_,e,_⟩:=x; exact Heap.lt_size e
 |set S n=>obtain⟨o,_,_,_,e,_⟩:=x; exact Heap.lt_size e
 |ins C dx fs=>obtain⟨_,_,_,e,_⟩:=x; exact Heap.lt_size e
 |own y=>obtain⟨_,e⟩:=x; exact Heap.lt_size e
 |xd fs=>obtain⟨_,⟨_,_,_,e,_⟩,_⟩:=x; exact Heap.lt_size e
 |rng lo hi=>obtain⟨_,_,_,e⟩:=x; exact Heap.lt_size e
 |frz ob u=>obtain⟨e,_⟩:=x; exact Heap.lt_size e
 |tbl ps=>exact Heap.lt_size (show h.get? a=some _ from x)
 |met f y=>exact Heap.lt_size (show h.get? a=some _ from x)
 |ext φ=>obtain⟨_,⟨_,e⟩,_⟩:=x; exact Heap.lt_size e
theorem Paired.mapP{α β:Type}{F G:α->β->Prop}:∀{l₁:List α}{l₂:List β},Paired F l₁ l₂->(∀a b,F a b->G a b)->Paired G l₁ l₂
 |_,_, .nil,_=>.nil
 |_,_, .cons r t,f=>.cons (f _ _ r) (Paired.mapP t f)
theorem ObjOk.stay(x:ObjOk P w H h a o)(k:∀b u,(b=a\/H b=some (.own a))->h.get? b=some u->h'.get? b=some u)(ho:∀b,H b=some (.own a)->H' b=some (.own a))(ht:∀b xs,H b=some (.tup xs)->H' b=some (.tup xs)):ObjOk P w H' h' a o:=by
 induction o with
 |lst xs=>obtain⟨z,its,n,r,e⟩:=x; exact⟨z,its,n,r,k _ _ (.inl rfl) e⟩
 |tup xs=>obtain⟨z,its,r,ob,e,c⟩:=x; exact⟨z,its,r,ob,k _ _ (.inl rfl) e,c⟩
 |dK kvs=>obtain⟨z,y,vs,r,ob,es,ep,e,c⟩:=x; exact⟨z,y,vs,r,ob,es,ep,k _ _ (.inl rfl) e,c⟩
 |dT kvs =>
  obtain⟨z,y,xs,r,ob,es,ep,e,c⟩:=x;exact⟨z,y,xs,Paired.mapP r λp q z=>⟨z.1,ht _ _ z.2.1,z.2.2⟩,ob,es,ep,k _ _ (.inl rfl) e,c⟩
 |set S n=>obtain⟨ob,es,ep,t,e,c⟩:=x; exact⟨ob,es,ep,t,k _ _ (.inl rfl) e,c⟩
 |ins C dx fs =>
  obtain⟨d,z,ne,e,mA,⟨od,es,ep,e2,c⟩,r⟩:=x;exact⟨ho _ d,z,ne,k _ _ (.inl rfl) e,mA,⟨od,es,ep,k _ _ (.inr d) e2,c⟩,r⟩
 |own y=>obtain⟨ob,e⟩:=x; exact⟨ob,k _ _ (.inl rfl) e⟩
 |xd fs=>obtain⟨mA,⟨od,es,ep,e,c⟩,r⟩:=x; exact⟨mA,⟨od,es,ep,k _ _ (.inl rfl) e,c⟩,r⟩
 |rng lo hi=>obtain⟨t,u,v,e⟩:=x; exact⟨t,u,v,k _ _ (.inl rfl) e⟩
 |frz ob u ih=>obtain⟨e,q⟩:=x; exact⟨k _ _ (.inl rfl) e,ih q⟩
 |tbl ps =>
  have e:h.get? a=some { cls:=.none,data:=.fields ps }:=x;show h'.get? a=some { cls:=.none,data:=.fields ps };exact k a _ (.inl rfl) e
 |met f y =>
  have e:h.get? a=some (W.methodObj (.ref f) (.ref y)):=x;show h'.get? a=some (W.methodObj (.ref f) (.ref y));exact k a _ (.inl rfl) e
 |ext φ=>obtain⟨p,⟨o,e⟩,st⟩:=x; exact⟨st _ _ p λo q=>k _ _ (.inl rfl) q,⟨o,k _ _ (.inl rfl) e⟩,st⟩
theorem HOk.lt(x:HOk P w H h)(e:H a=some o):a<h.objs.size:=(x a o e).lt
theorem HOk.fresh(x:HOk P w H h)(e:h.objs.size<=a):H a=none:=by
 cases q:H a with
 |none=>rfl
 |some u=>exact absurd (Uy (x.lt q) e) (Dh _)
theorem HOk.kept(x:HOk P w H h)(k:∀b u,h.get? b=some u->h'.get? b=some u):HOk P w H h':=λa o e =>
 (x a o e).stay (λb u _ q=>k b u q) (λ_ q=>q) λ_ _ q=>q
theorem HOk.laid(x:HOk P w H h)(k:∀b u,h.get? b=some u->h'.get? b=some u)(hp:h.objs.size<=a)(new:ObjOk P w (upd H a o) h' a o):HOk P w (upd H a o) h':=λb u e=>by
 have hn:=x.fresh hp;by_cases hb:b=a
 ·subst hb; rw[upd_same] at e; cases e; exact new
 ·rw[upd_ne hb] at e
  exact(x b u e).stay (λc v _ q=>k c v q) (λc q=>by rw[upd_ne (vj q hn)]; exact q) λc xs q=>by rw[upd_ne (vj q hn)]; exact q
end
def Rd(H:Hp)(a:Addr)(u:HO):Prop:=H a=some u\/∃o,H a=some (.frz o u)
theorem Rd.of(h:H a=some u):Rd H a u:=.inl h
theorem Rd.ok(r:Rd H a u)(x:HOk P w H h):ObjOk P w H h a u:=by
 rcases r with r|⟨o,r⟩
 ·exact x a u r
 ·obtain⟨_,q⟩:=x a _ r
  exact q
def Mut:Option HO->Prop
 |some (.lst _)=>True
 |some (.dK _)=>True
 |some (.dT _)=>True
 |some (.set _ _)=>True
 |some (.ins _ _ _)=>True
 |some (.ext _)=>True
 |_=>False
section
theorem HOk.write(ok:HOk P w H h)(mu:Mut (H x))(he:e=x\/H e=some (.own x))(k:∀b u,b≠e->h.get? b=some u->h'.get? b=some u)(heo:∃u,h'.get? e=some u)(new:ObjOk P w (upd H x o') h' x o'):HOk P w (upd H x o') h':=λb u q=>by
 have nown:∀c y,H c=some (.own y)->c≠x:=λc y r z=>by subst z; rw[r] at mu; exact mu
 have ntup:∀c xs,H c=some (.tup xs)->c≠x:=λc xs r z=>by subst z; rw[r] at mu; exact mu
 by_cases hb:b=x
 ·subst hb; rw[upd_same] at q; cases q; exact new
 ·rw[upd_ne hb] at q
  by_cases hbe:b=e
  ·have q':H b=some (.own x):=by
    rcases he with z|z
    ·exact absurd (hbe.trans z) hb
    ·rw[hbe]; exact z
   rw[q] at q'; cases q';obtain⟨v,hv⟩:=heo;exact⟨v,by rw[hbe]; exact hv⟩
  ·refine(ok b u q).stay (λc v hc r=>k c v ?_ r) (λc r=>by rw[upd_ne (nown c b r)]; exact r) λc xs r=>by rw[upd_ne (ntup c xs r)]; exact r
   rcases hc with rfl|hc
   ·exact hbe
   ·rintro rfl
    rcases he with z|z
    ·exact nown c b hc z
    ·rw[hc] at z; cases z; exact hb rfl
end
structure Un(fs ex:List Addr)(H H':Hp)(h h':Heap):Prop where
 keep:∀b o,h.get? b=some o->H b=none->b∉fs->b∉ex->h'.get? b=some o
 slot:∀b o,h.get? b=some o->H b=none->b∈fs->b∉ex->∃sl,h'.get? b=some { o with slots:=sl }
 free:∀b o,h.get? b=some o->H b=none->b∉ex->H' b=none
 there:∀b o,h.get? b=some o->b∉ex->∃o',h'.get? b=some o'
 tups:∀b xs,H b=some (.tup xs)->H' b=some (.tup xs)
 frzs:∀b o u,H b=some (.frz o u)->H' b=some (.frz o u)
 tbls:∀b ps,H b=some (.tbl ps)->∃more,H' b=some (.tbl (ps++more))
section
theorem Un.any(u:Un fs ex H H1 h h1)(q:h.get? b=some ob)(n:H b=none)(hx:b∉ex):∃sl,h1.get? b=some { ob with slots:=sl }:=by
 by_cases hb:b∈fs
 ·exact u.slot b ob q n hb hx
 ·exact⟨ob.slots,u.keep b ob q n hb hx⟩
theorem Un.trans(a:Un fs ex H H1 h h1)(b:Un fs ex H1 H2 h1 h2):Un fs ex H H2 h h2 where
 keep:=λc ob q n hc hx=>b.keep c ob (a.keep c ob q n hc hx) (a.free c ob q n hx) hc hx
 slot:=λc ob q n hc hx=>by
  obtain⟨sl,e1⟩:=a.slot c ob q n hc hx;obtain⟨sl',e2⟩:=b.slot c _ e1 (a.free c ob q n hx) hc hx;exact⟨sl',e2⟩
 free:=λc ob q n hx=>by
  obtain⟨o',e1⟩:=a.there c ob q hx;exact b.free c o' e1 (a.free c ob q n hx) hx
 there:=λc ob q hx=>by
  obtain⟨o',e1⟩:=a.there c ob q hx;exact b.there c o' e1 hx
 tups:=λc xs q=>b.tups c xs (a.tups c xs q)
 frzs:=λc ob xs q=>b.frzs c ob xs (a.frzs c ob xs q)
 tbls:=λc ps q=>by
  obtain⟨m1,e1⟩:=a.tbls c ps q;obtain⟨m2,e2⟩:=b.tbls c _ e1;exact⟨m1++m2,by rw[e2,Rc]⟩
theorem Un.kept(k:∀b u,h.get? b=some u->h'.get? b=some u):Un fs ex H H h h' :=
 ⟨λb ob q _ _ _=>k b ob q,λb ob q _ _ _=>⟨ob.slots,k b ob q⟩,λ_ _ _ n _=>n,λb ob q _=>⟨ob,k b ob q⟩,λ_ _ q=>q,λ_ _ _ q=>q,λ_ ps q=>⟨#[],by rw[q]; simp⟩⟩
theorem Un.refl:Un fs ex H H h h:=Un.kept λ_ _ q=>q
theorem Un.laid(k:∀b u,h.get? b=some u->h'.get? b=some u)(hp:h.objs.size<=a)(hn:H a=none):Un fs ex H (upd H a o) h h' where
 keep:=λb u q _ _ _=>k b u q
 slot:=λb u q _ _ _=>⟨u.slots,k b u q⟩
 free:=λb u q n _=>by rw[upd_ne (UJ (Uy (Heap.lt_size q) hp))]; exact n
 there:=λb u q _=>⟨u,k b u q⟩
 tups:=λb xs q=>by rw[upd_ne (vj q hn)]; exact q
 frzs:=λb u xs q=>by rw[upd_ne (vj q hn)]; exact q
 tbls:=λb ps q=>⟨#[],by rw[upd_ne (vj q hn),q]; simp⟩
theorem Un.write(mu:Mut (H x))(he:e=x\/H e=some (.own x))(k:∀b u,b≠e->h.get? b=some u->h'.get? b=some u)(heo:∃u,h'.get? e=some u):Un fs ex H (upd H x o) h h':=by
 have hx:∀b,H b=none->b≠x:=λb n z=>by subst z; rw[n] at mu; exact mu
 have hb:∀b,H b=none->b≠e:=λb n z=>by
  subst z;rcases he with r|r
  ·exact hx b n r
  ·rw[n] at r; cases r
 have hm:∀b u,H b=some u->¬Mut (some u)->b≠x:=λb u q nm z=>by subst z; rw[q] at mu; exact nm mu
 refine⟨λb u q n _ _=>k b u (hb b n) q,λb u q n _ _=>⟨u.slots,k b u (hb b n) q⟩,λb u q n _=>by rw[upd_ne (hx b n)]; exact n,λb u q _=>?_,
  λb xs q=>by rw[upd_ne (hm b _ q λz=>z)]; exact q,λb u xs q=>by rw[upd_ne (hm b _ q λz=>z)]; exact q,λb ps q=>⟨#[],by rw[upd_ne (hm b _ q λz=>z),q]; simp⟩⟩
 by_cases hbe:b=e
 ·subst hbe; exact heo
 ·exact⟨u,k b u hbe q⟩
theorem Un.mono(u:Un fs ex H H1 h h1)(hs:∀b∈fs,b∈fs')(hx:∀b∈ex,b∈ex'):Un fs' ex' H H1 h h1 :=
 ⟨λb ob q n hb he=>u.keep b ob q n (λz=>hb (hs b z)) λz=>he (hx b z),λ_ _ q n _ he=>u.any q n λz=>he (hx _ z),λb ob q n he=>u.free b ob q n λz=>he (hx b z),λb ob q he=>u.there b ob q λz=>he (hx b z),u.tups,u.frzs,u.tbls⟩
end
def trk(h:Heap)(H:Hp):List Addr:=(List.range h.objs.size).filter λa=>(H a).isSome
def hidT(h:Heap)(H:Hp):Heap:=W.hideAll h (trk h H)
theorem Gn(h:Heap)(H:Hp):(hidT h H).objs.size=h.objs.size:=W.hideAll_size _ _
theorem hidT_get(e:h.get? b=some o)(n:H b=none):(hidT h H).get? b=some o :=
 DL _ e λhm=>by
  have q:(H b).isSome=true:=(UP.mp hm).2;rw[n] at q; simp at q
theorem of_hidT(e:(hidT h H).get? b=some o):h.get? b=some o/\H b=none:=by
 have e':h.get? b=some o:=RU (trk h H) e;refine⟨e', ?_⟩;cases q:H b with
 |none=>rfl
 |some x =>
  have hm:b∈trk h H:=UP.mpr ⟨Dc.mpr (Heap.lt_size e'),by simp[q]⟩;have z:(hidT h H).get? b=none:=DH (trk h H) hm;rw[z] at e; cases e
structure Mod(Ξ:PySem.W.Frag)(mg:Str->Option Value)(base:Heap):Prop where
 kin:Ξ.In base
 glob:base.Ns mainGlobals mg
 blt:∃mb,base.Ns builtinsNs mb/\∀x:Str,x ≠ "__name__" -> mb x=bootBuiltins x
 nolimit:base.NoLimit
structure Cx where
 prog:Program
 w:World
 K:PySem.W.Frag
 mg:Str->Option Value
 base:Heap
 A:Around
 N:List Str
 s₀:Shared
 H₀:Hp
 env:Env
 outer:List Env
 stack:List Env
 ex:List Addr
 fn:Str->Bool
 calm:Bool
 pn:List (Addr×Obj)
 xe:Value->Shared->Prop
def frs(l:List Env):List Addr:=l.filterMap (·.frame)
abbrev Cx.fs(X:Cx):List Addr:=frs X.outer
def Vis(sc:Scope)(x:Str):Prop:=sc.names.lookup x=some .local\/sc.names.lookup x=some .cell\/sc.names.lookup x=some .free
def Loc(sc:Scope)(x:Str):Prop:=sc.names.lookup x=some .local\/sc.names.lookup x=some .cell
def Look(env:Env)(h:Heap)(m:Str->Option Value)(x:Str)(u:Value):Prop :=
 (env.kindOf x=some .local/\m x=some u)\/((env.kindOf x=some .cell\/env.kindOf x=some .free)/\∃c,env.cells.lookup x=some c/\h.IsCell c (some u))
structure Cx.Ok(X:Cx):Prop where
 mod:Mod X.K X.mg X.base
 kind:X.env.scope.kind=.function
 glob:X.env.globals=mainGlobals
 blt:X.env.builtins=builtinsNs
 above:X.s₀.heap.objs.size<=X.env.locals
 inj:∀x y c,X.env.cells.lookup x=some c->X.env.cells.lookup y=some c->x=y
 has:∀x,(X.env.kindOf x=some .cell\/X.env.kindOf x=some .free)->∃c,X.env.cells.lookup x=some c
 cab:∀x c,X.fn x=true->X.env.cells.lookup x=some c->X.s₀.heap.objs.size<=c
 hd:X.calm=true->X.A.handled=none
 frames:X.A.frames=some X.stack
 stk:X.stack=X.outer\/(X.stack=X.env::X.outer/\X.env.frame=some X.env.locals)
 exf:∀b∈X.ex,b≠X.env.locals/\∀x c,X.env.cells.lookup x=some c->c≠b
 bs:∀b o,X.base.get? b=some o->X.s₀.heap.get? b=some o/\X.H₀ b=none
 bsz:X.base.objs.size<=X.s₀.heap.objs.size
 noex:∀b o,X.base.get? b=some o->b∉X.ex
 exfs:∀b∈X.ex,b∉X.fs
 funs:X.s₀.heap.FunFrames X.base X.outer
 frf:∀b∈X.fs,X.H₀ b=none
structure Inv(X:Cx)(pins:List (Addr×Obj))(σ:List (Option V))(H:Hp)(s:Shared):Prop where
 ok:X.Ok
 os:s.os=X.s₀.os
 bare:AllBare s.gens
 base:Un X.fs X.ex X.H₀ H X.s₀.heap s.heap
 loc:∃m,s.heap.Ns X.env.locals m/\∀(i:Nat)(x:Str)(v:V),X.N[i]?=some x->σ[i]?=some (some v)->Vis X.env.scope x->∃u,RelV v u/\Look X.env s.heap m x u
 cell:∀x c,X.env.cells.lookup x=some c->∃v,s.heap.IsCell c v
 free:H X.env.locals=none
 freeC:∀x c,X.env.cells.lookup x=some c->H c=none
 pin:∀p∈X.pn++pins,s.heap.get? p.1=some p.2/\H p.1=none/\p.1≠X.env.locals/\p.1∉X.fs/\∀v,p.2.data ≠ .cell v
 hok:HOk X.prog X.w H s.heap
 len:σ.length=X.N.length
section
theorem Cx.Ok.nofr{X:Cx}(ok:X.Ok)(e:X.base.get? b=some o):b∉X.fs:=λhb=>by
 have:=(ok.funs.mem hb).1;rw[e] at this; cases this
theorem Inv.bs(I:Inv X pins σ H s):∀b o,X.base.get? b=some o->s.heap.get? b=some o/\H b=none:=λb o e =>
 ⟨I.base.keep b o (I.ok.bs b o e).1 (I.ok.bs b o e).2 (I.ok.nofr e) (I.ok.noex b o e),I.base.free b o (I.ok.bs b o e).1 (I.ok.bs b o e).2 (I.ok.noex b o e)⟩
theorem Inv.bk(I:Inv X pins σ H s):∀b o,X.base.get? b=some o->s.heap.get? b=some o:=λb o e=>(I.bs b o e).1
theorem Inv.mod(I:Inv X pins σ H s):Mod X.K X.mg X.base:=I.ok.mod
theorem Inv.kIn(I:Inv X pins σ H s):X.K.In s.heap:=I.ok.mod.kin.keeps I.bk
theorem Inv.fr(I:Inv X pins σ H s):∃m,Fr X.base X.env.locals s.heap m :=
 let⟨m,hn,_⟩:=I.loc
 ⟨m,hn,I.bk,UY I.ok.bsz I.ok.above⟩
theorem Inv.lt(I:Inv X pins σ H s):X.env.locals<s.heap.objs.size:=let⟨_,hn,_⟩:=I.loc; hn.lt
theorem Inv.sz(I:Inv X pins σ H s):X.s₀.heap.objs.size<=s.heap.objs.size:=UY I.ok.above (UC I.lt)
theorem Inv.nofs(I:Inv X pins σ H s)(h:s.heap.objs.size<=a):a∉X.fs:=λhb=>by
 obtain⟨_,o,ho,_⟩:=I.ok.funs.mem hb;exact absurd (Uy (Heap.lt_size ho) (UY I.sz h)) (Dh _)
theorem Inv.cne(I:Inv X pins σ H s):∀x c,X.env.cells.lookup x=some c->c≠X.env.locals:=λx c e z=>by
 obtain⟨v,o,ho,hd⟩:=I.cell x c e;obtain⟨m,⟨o',es,ep,ho',hd',_⟩,_⟩:=I.loc;rw[z,ho'] at ho; cases ho; rw[hd'] at hd; cases hd
theorem Inv.funs(I:Inv X pins σ H s):s.heap.FunFrames X.base X.outer:=by
 have all:∀(l:List Env),(∀b∈frs l,b∈X.fs)->X.s₀.heap.FunFrames X.base l->s.heap.FunFrames X.base l:=by
  intro l
  induction l with
  |nil=>intro _ _; trivial
  |cons env r ih =>
   intro hs hl;obtain⟨hk,⟨L,o,hf,hn,ho,hd⟩,hr⟩:=hl;have hL:L∈X.fs:=hs L (by unfold frs; rw[D6,hf]; exact UZ);obtain⟨sl,e⟩:=I.base.slot L o ho (I.ok.frf L hL) hL λz=>I.ok.exfs L z hL;exact⟨hk,⟨L,_,hf,hn,e,hd⟩,ih (λb hb=>hs b (by unfold frs; rw[D6,hf]; exact UV _ hb)) hr⟩
 exact all X.outer (λ_ hb=>hb) I.ok.funs
theorem Inv.stack(I:Inv X pins σ H s):s.heap.FunFrames X.base X.stack:=by
 rcases I.ok.stk with e|⟨e,hf⟩
 ·rw[e]; exact I.funs
 ·rw[e]
  obtain⟨m,hn,_⟩:=I.loc;refine .cons (by rw[I.ok.kind]; decide) hf hn ?_ I.funs;exact Heap.get?_none_of_le (UY I.ok.bsz I.ok.above)
theorem Inv.stkSub(I:Inv X pins σ H s):∀b∈frs X.stack,b∈X.env.locals::X.fs:=λb hb=>by
 rcases I.ok.stk with e|⟨e,hf⟩
 ·rw[e] at hb; exact UV _ hb
 ·rw[e] at hb
  unfold frs at hb;rw[D6,hf] at hb;exact hb
theorem Inv.stkFree(I:Inv X pins σ H s):∀b∈frs X.stack,H b=none:=λb hb=>by
 rcases Uw.mp (I.stkSub b hb) with e|hb
 ·rw[e]; exact I.free
 ·obtain⟨_,o,ho,_⟩:=I.ok.funs.mem hb
  exact I.base.free b o ho (I.ok.frf b hb) λz=>I.ok.exfs b z hb
theorem Inv.step{ch:List Addr}(I:Inv X pins σ H s)(hch:∀b∈ch,(b∈X.ex\/X.s₀.heap.objs.size<=b)/\b≠X.env.locals/\(∀x c,X.env.cells.lookup x=some c->c≠b)/\∀p∈X.pn++pins,p.1≠b)(keep:∀b o,b≠X.env.locals->b∉X.fs->b∉ch->s.heap.get? b=some o->H b=none->h'.get? b=some o)(slot:∀b o,b≠X.env.locals->b∈X.fs->b∉ch->s.heap.get? b=some o->H b=none->∃sl,h'.get? b=some { o with slots:=sl })(free:∀b o,b∉ch->s.heap.get? b=some o->H b=none->H' b=none)(there:∀b o,b∉ch->s.heap.get? b=some o->∃o',h'.get? b=some o')(tups:∀b xs,H b=some (.tup xs)->H' b=some (.tup xs))(frzs:∀b o u,H b=some (.frz o u)->H' b=some (.frz o u))(tbls:∀b ps,H b=some (.tbl ps)->∃more,H' b=some (.tbl (ps++more)))(ns:∀m,s.heap.Ns X.env.locals m->h'.Ns X.env.locals m)(hok:HOk X.prog X.w H' h')(hg:AllBare g') :
  Inv X pins σ H' { s with heap:=h',gens:=g',drawn:=d',toks:=t' }:=by
 have neL:∀b o,X.s₀.heap.get? b=some o->b≠X.env.locals:=λb o e=>UJ (Uy (Heap.lt_size e) I.ok.above);have neC:∀b o,X.s₀.heap.get? b=some o->b∉X.ex->b∉ch:=λb o e hx hb=>by
  rcases(hch b hb).1 with z|z
  ·exact hx z
  ·exact absurd (Uy (Heap.lt_size e) z) (Dh _)
 have cellK:∀x c,X.env.cells.lookup x=some c->∀v,s.heap.IsCell c v->h'.IsCell c v:=λx c e v ⟨o,ho,hd⟩=>by
  have nch:c∉ch:=λz=>(hch c z).2.2.1 x c e rfl;by_cases hc:c∈X.fs
  ·obtain⟨sl,q⟩:=slot c o (I.cne x c e) hc nch ho (I.freeC x c e)
   exact⟨_,q,hd⟩
  ·exact⟨o,keep c o (I.cne x c e) hc nch ho (I.freeC x c e),hd⟩
 refine⟨I.ok,I.os,hg,⟨λb o e n hb hx=>?_,λb o e n hb hx=>?_,λb o e n hx=>?_,λb o e hx=>?_,λb xs e=>tups b xs (I.base.tups b xs e),λb o xs e=>frzs b o xs (I.base.frzs b o xs e),λb ps e=>?_⟩, ?_,λx c e=>?_, ?_,λx c e=>?_,λp hp=>?_,hok,I.len⟩
 ·exact keep b o (neL b o e) hb (neC b o e hx) (I.base.keep b o e n hb hx) (I.base.free b o e n hx)
 ·obtain⟨sl,e1⟩:=I.base.slot b o e n hb hx
  obtain⟨sl',e2⟩:=slot b _ (neL b o e) hb (neC b o e hx) e1 (I.base.free b o e n hx);exact⟨sl',e2⟩
 ·obtain⟨o',e1⟩:=I.base.there b o e hx
  exact free b o' (neC b o e hx) e1 (I.base.free b o e n hx)
 ·obtain⟨o',e1⟩:=I.base.there b o e hx
  exact there b o' (neC b o e hx) e1
 ·obtain⟨m1,e1⟩:=I.base.tbls b ps e
  obtain⟨m2,e2⟩:=tbls b _ e1;exact⟨m1++m2,by rw[e2,Rc]⟩
 ·obtain⟨m,hn,hl⟩:=I.loc
  refine⟨m,ns m hn,λi x v e1 e2 e3=>?_⟩;obtain⟨u,r,l⟩:=hl i x v e1 e2 e3;refine⟨u,r, ?_⟩;rcases l with l|⟨k,c,e,z⟩
  ·exact .inl l
  ·exact .inr ⟨k,c,e,cellK x c e _ z⟩
 ·obtain⟨v,z⟩:=I.cell x c e
  exact⟨v,cellK x c e v z⟩
 ·obtain⟨m,⟨o,_,_,ho,_⟩,_⟩:=I.loc
  exact free _ o (λz=>(hch _ z).2.1 rfl) ho I.free
 ·obtain⟨v,o,ho,hd⟩:=I.cell x c e
  exact free c o (λz=>(hch c z).2.2.1 x c e rfl) ho (I.freeC x c e)
 ·obtain⟨e,n,ne,nf,d⟩:=I.pin p hp
  have nch:p.1∉ch:=λz=>(hch p.1 z).2.2.2 p hp rfl;exact⟨keep p.1 p.2 ne nf nch e n,free p.1 p.2 nch e n,ne,nf,d⟩
theorem Inv.un(I:Inv X pins σ H s)(u:Un X.fs [] H H' s.heap h')(hok:HOk X.prog X.w H' h'):Inv X pins σ H' { s with heap:=h',toks:=t' }:=by
 obtain⟨m,⟨o,es,ep,ho,r⟩,_⟩:=id I.loc;obtain⟨sl,hL⟩:=u.any ho I.free (by simp);exact I.step (g':=s.gens) (d':=s.drawn) (ch:=[]) (λ_ z=>nomatch z) (λb o _ hb _ e n=>u.keep b o e n hb (by simp)) (λb o _ hb _ e n=>u.slot b o e n hb (by simp)) (λb o _ e n=>u.free b o e n (by simp)) (λb o _ e=>u.there b o e (by simp)) u.tups u.frzs u.tbls (λm' hm=>by
  obtain⟨o',es',ep',ho',r'⟩:=hm;rw[ho] at ho'; cases ho';exact⟨_,es',ep',hL,r'⟩) hok I.bare
theorem Inv.call(I:Inv X pins σ H s)(u:Un (frs X.stack) ch H H' s.heap h')(hok:HOk X.prog X.w H' h')(hg:AllBare g')(hch:∀b∈ch,(b∈X.ex\/X.s₀.heap.objs.size<=b)/\b≠X.env.locals/\(∀x c,X.env.cells.lookup x=some c->c≠b)/\∀p∈X.pn++pins,p.1≠b) :
  Inv X pins σ H' { s with heap:=h',gens:=g',drawn:=d',toks:=t' }:=by
 obtain⟨m,⟨o,es,ep,ho,r⟩,_⟩:=id I.loc;obtain⟨sl,hL⟩:=u.any ho I.free λz=>(hch _ z).2.1 rfl;exact I.step (ch:=ch) hch (λb o hL hb hc e n=>u.keep b o e n (λz=>(Uw.mp (I.stkSub b z)).elim hL hb) hc) (λb o _ _ hc e n=>u.any e n hc) (λb o hc e n=>u.free b o e n hc) (λb o hc e=>u.there b o e hc) u.tups u.frzs u.tbls (λm' hm=>by
  obtain⟨o',es',ep',ho',r'⟩:=hm;rw[ho] at ho'; cases ho';exact⟨_,es',ep',hL,r'⟩) hok hg
theorem Inv.turned(I:Inv X pins σ H s)(k:∀b o,b≠it->s.heap.get? b=some o->h'.get? b=some o)(hn:H it=none)(hL:it≠X.env.locals)(h1:it∈X.ex\/X.s₀.heap.objs.size<=it)(h2:∀x c,X.env.cells.lookup x=some c->c≠it)(h3:∀p∈X.pn++pins,p.1≠it):Inv X pins σ H { s with heap:=h',toks:=t' }:=by
 have nit:∀b u,H b=some u->b≠it:=λb u e z=>by rw[z,hn] at e; cases e
 refine I.step (g':=s.gens) (d':=s.drawn) (ch:=[it]) (λb hb=>?_) (λb o _ _ hc e _=>k b o (λz=>hc (by simp[z])) e) (λb o _ _ hc e _=>⟨o.slots,k b o (λz=>hc (by simp[z])) e⟩) (λ_ _ _ _ n=>n)
  (λb o hc e=>⟨o,k b o (λz=>hc (by simp[z])) e⟩) (λ_ _ e=>e) (λ_ _ _ e=>e) (λb ps e=>⟨#[],by rw[e]; simp⟩) (λm hm=>?_) (λb u e=>?_) I.bare
 ·have e:b=it:=by simpa using hb
  subst e;exact⟨h1,hL,h2,h3⟩
 ·obtain⟨o,es,ep,ho,r⟩:=hm
  exact⟨o,es,ep,k _ o (Ne.symm hL) ho,r⟩
 ·refine(I.hok b u e).stay (λc v hc q=>k c v ?_ q) (λ_ q=>q) λ_ _ q=>q
  rcases hc with z|z
  ·rw[z]; exact nit b u e
  ·exact nit c _ z
theorem Inv.tok(I:Inv X pins σ H s)(t:Nat):Inv X pins σ H { s with toks:=t }:=I.un (h':=s.heap) (t':=t) Un.refl I.hok
theorem Inv.kept(I:Inv X pins σ H s)(k:∀b u,s.heap.get? b=some u->h'.get? b=some u):Inv X pins σ H { s with heap:=h',toks:=t' }:=I.un (Un.kept k) (I.hok.kept k)
theorem Inv.laid(I:Inv X pins σ H s)(k:∀b u,s.heap.get? b=some u->h'.get? b=some u)(hp:s.heap.objs.size<=a)(new:ObjOk X.prog X.w (upd H a o) h' a o) :
  Inv X pins σ (upd H a o) { s with heap:=h',toks:=t' }:=I.un (Un.laid k hp (I.hok.fresh hp)) (I.hok.laid k hp new)
theorem Inv.write(I:Inv X pins σ H s)(mu:Mut (H x))(he:e=x\/H e=some (.own x))(k:∀b u,b≠e->s.heap.get? b=some u->h'.get? b=some u)(heo:∃u,h'.get? e=some u)(new:ObjOk X.prog X.w (upd H x o) h' x o):Inv X pins σ (upd H x o) { s with heap:=h',toks:=t' }:=I.un (Un.write mu he k heo) (I.hok.write mu he k heo new)
theorem Inv.weak(I:Inv X pins σ H s)(hl:σ'.length=σ.length)(w:∀(i:Nat) v,σ'[i]?=some (some v)->σ[i]?=some (some v)):Inv X pins σ' H s :=
 ⟨I.ok,I.os,I.bare,I.base,let⟨m,hn,hl'⟩:=I.loc; ⟨m,hn,λi x v e1 e2 e3=>hl' i x v e1 (w i v e2) e3⟩,I.cell,I.free,I.freeC,I.pin,I.hok,hl.trans I.len⟩
theorem Inv.pins_of(I:Inv X pins σ H s)(h:∀p∈pins',s.heap.get? p.1=some p.2/\H p.1=none/\p.1≠X.env.locals/\p.1∉X.fs/\∀v,p.2.data ≠ .cell v):Inv X pins' σ H s :=
 ⟨I.ok,I.os,I.bare,I.base,I.loc,I.cell,I.free,I.freeC,λp hp=>(Us.mp hp).elim (λz=>I.pin p (UH _ z)) (h p),I.hok,I.len⟩
theorem VQ{N:List Str}(hN:N.Nodup){i j:Nat}(a:N[i]?=some x)(b:N[j]?=some x):i=j:=by
 obtain⟨h1,e1⟩:=Uj.mp a;obtain⟨h2,e2⟩:=Uj.mp b;exact(List.getElem_inj hN).mp (e1.trans e2.symm)
theorem Zy(I:Inv X pins σ H s)(hN:X.N.Nodup)(hi:X.N[i]?=some x)(hx:Loc X.env.scope x)(r:RelV v u)(h:∀s',Inv X pins (σ.set i (some v)) H s'->(∃a,Heap.SameBut a s.heap s'.heap/\(a=X.env.locals\/X.env.cells.lookup x=some a))->Q () s')(hf:X.fn x=true\/X.env.scope.names.lookup x=some .local:=by first|exact .inl rfl|exact .inr rfl|assumption):wpAny M A (storeName X.env x u) Q E s:=by
 obtain⟨m,hn,hl⟩:=id I.loc;have hcls:(X.env.scope.kind == .class||(X.env.scope.kind == .module&&X.env.locals != X.env.globals))=false:=by rw[I.ok.kind]; rfl
 have hiσ:i<σ.length:=by rw[I.len]; exact(Uj.mp hi).1
 have cne:=I.cne;have tracked:∀{a:Addr}{h':Heap},(∃o,s.heap.get? a=some o/\H a=none)->Heap.SameBut a s.heap h'->HOk X.prog X.w H h':=λ{a h'} ha hs b ob e=>by
  obtain⟨_,_,hfree⟩:=ha;refine(I.hok b ob e).stay (λc w' hc q=>(hs.2 c ?_).trans q) (λ_ q=>q) λ_ _ q=>q;rintro rfl;rcases hc with rfl|hc
  ·rw[hfree] at e; cases e
  ·rw[hfree] at hc; cases hc
 rcases hx with hk|hk
 ·refine wpAny_storeName_local hk hn (λh' hn' hs=>?_) hcls
  obtain⟨oL,_,_,hoL,_⟩:=id hn;refine h _ ⟨I.ok,I.os,I.bare,⟨λb o e n hb hx=>?_,λb o e n hb hx=>?_,I.base.free,λb o e hx=>?_,I.base.tups,I.base.frzs,I.base.tbls⟩,⟨_,hn',λj y v' e1 e2 e3=>?_⟩,λy c e=>?_,I.free,I.freeC,λp hp=>?_,tracked ⟨oL,hoL,I.free⟩ hs,by simpa using I.len⟩ ⟨_,hs, .inl rfl⟩
  ·exact(hs.2 b (UJ (Uy (Heap.lt_size e) I.ok.above))).trans (I.base.keep b o e n hb hx)
  ·obtain⟨sl,e1⟩:=I.base.slot b o e n hb hx
   exact⟨sl,(hs.2 b (UJ (Uy (Heap.lt_size e) I.ok.above))).trans e1⟩
  ·obtain⟨o',e1⟩:=I.base.there b o e hx
   exact⟨o',(hs.2 b (UJ (Uy (Heap.lt_size e) I.ok.above))).trans e1⟩
  ·by_cases hj:j=i
   ·subst hj
    rw[hi] at e1; cases e1;rw[UL hiσ] at e2;cases e2;exact⟨u,r, .inl ⟨hk,by simp⟩⟩
   ·rw[UW (Ne.symm hj)] at e2
    obtain⟨u',r',q⟩:=hl j y v' e1 e2 e3;refine⟨u',r', ?_⟩;rcases q with⟨k,e⟩|⟨k,c,e,z⟩
    ·refine .inl ⟨k, ?_⟩
     have:y≠x:=λe=>hj (VQ hN e1 (e▸hi));simp[this,e]
    ·exact .inr ⟨k,c,e,z.sameBut hs (cne y c e)⟩
  ·obtain⟨w',z⟩:=I.cell y c e
   exact⟨w',z.sameBut hs (cne y c e)⟩
  ·obtain⟨e,n,ne,nf,d⟩:=I.pin p hp
   exact⟨(hs.2 p.1 ne).trans e,n,ne,nf,d⟩
 ·have hfn:X.fn x=true:=by
   rcases hf with z|z
   ·exact z
   ·rw[z] at hk; cases hk
  obtain⟨c,hc⟩:=I.ok.has x (.inl hk);obtain⟨w',z⟩:=I.cell x c hc;refine wpAny_storeName_cell I.ok.kind hk hc z (λh' hc' hs=>?_);obtain⟨oc,hoc,hocd⟩:=id z;refine h { s with heap:=h' } ⟨I.ok,I.os,I.bare,⟨λb o e n hb hx=>?_,λb o e n hb hx=>?_,I.base.free,λb o e hx=>?_,I.base.tups,I.base.frzs,I.base.tbls⟩,⟨m,hn.sameBut hs (Ne.symm (cne x c hc)),λj y v' e1 e2 e3=>?_⟩,λy c' e=>?_,I.free,I.freeC,λp hp=>?_,tracked ⟨oc,hoc,I.freeC x c hc⟩ hs,by simpa using I.len⟩ ⟨c,hs, .inr hc⟩
  ·exact(hs.2 b (UJ (Uy (Heap.lt_size e) (I.ok.cab x c hfn hc)))).trans (I.base.keep b o e n hb hx)
  ·obtain⟨sl,e1⟩:=I.base.slot b o e n hb hx
   exact⟨sl,(hs.2 b (UJ (Uy (Heap.lt_size e) (I.ok.cab x c hfn hc)))).trans e1⟩
  ·obtain⟨o',e1⟩:=I.base.there b o e hx
   exact⟨o',(hs.2 b (UJ (Uy (Heap.lt_size e) (I.ok.cab x c hfn hc)))).trans e1⟩
  ·by_cases hj:j=i
   ·subst hj
    rw[hi] at e1; cases e1;rw[UL hiσ] at e2;cases e2;exact⟨u,r, .inr ⟨.inl hk,c,hc,hc'⟩⟩
   ·rw[UW (Ne.symm hj)] at e2
    obtain⟨u',r',q⟩:=hl j y v' e1 e2 e3;refine⟨u',r', ?_⟩;rcases q with q|⟨k,c',e,z'⟩
    ·exact .inl q
    ·refine .inr ⟨k,c',e,z'.sameBut hs ?_⟩
     rintro rfl;exact hj (VQ hN e1 (I.ok.inj _ _ _ e hc▸hi))
  ·by_cases hcc:c'=c
   ·subst hcc; exact⟨_,hc'⟩
   ·obtain⟨w2,z2⟩:=I.cell y c' e
    exact⟨w2,z2.sameBut hs hcc⟩
  ·obtain⟨e,n,ne,nf,d⟩:=I.pin p hp
   refine⟨(hs.2 p.1 ?_).trans e,n,ne,nf,d⟩;intro q;rw[q,hoc] at e;have q':oc=p.2:=Option.some.inj e;exact d w' (by rw[<-q']; exact hocd)
theorem kJ(I:Inv X pins σ H s)(hN:X.N.Nodup)(hi:X.N[i]?=some x)(hx:Loc X.env.scope x)(r:RelV v u)(h:∀s',Inv X pins (σ.set i (some v)) H s'->Q () s')(hf:X.fn x=true\/X.env.scope.names.lookup x=some .local:=by first|exact .inl rfl|exact .inr rfl|assumption):wpAny M A (storeName X.env x u) Q E s :=
 Zy I hN hi hx r (λs' I' _=>h s' I') hf
theorem Inv.call'(I:Inv X pins σ H s)(ho:s'.os=s.os)(u:Un (frs X.stack) ch H H' s.heap s'.heap)(hok:HOk X.prog X.w H' s'.heap)(hg:AllBare s'.gens)(hch:∀b∈ch,(b∈X.ex\/X.s₀.heap.objs.size<=b)/\b≠X.env.locals/\(∀x c,X.env.cells.lookup x=some c->c≠b)/\∀p∈X.pn++pins,p.1≠b):Inv X pins σ H' s':=by
 obtain⟨h',g',d',t',o'⟩:=s';have e:o'=s.os:=ho;subst e;exact I.call (g':=g') (t':=t') (d':=d') u hok hg hch
end
abbrev XK:=Value->Option Addr->Hp->Prop
abbrev St:=List (Option V)
abbrev VK:=V->Hp->Prop
abbrev TE:=St->Hp->VK->Prop
abbrev TT:=St->Hp->(Bool->Hp->Prop)->Prop
abbrev TA:=St->Hp->(List V->Hp->Prop)->Prop
structure Ends where
 nx:St->Hp->Prop
 rt:VK
 bk:St->Hp->Prop:=λ_ _=>False
 ct:St->Hp->Prop:=λ_ _=>False
abbrev TS:=Ends->St->Hp->Prop
def EP(X:Cx)(pins:List (Addr×Obj))(σ:St)(Q:VK)(u:Value)(s':Shared):Prop:=∃v H',Inv X pins σ H' s'/\RelV v u/\Q v H'
def TP(X:Cx)(pins:List (Addr×Obj))(σ:St)(Q:Bool->Hp->Prop)(b:Bool)(s':Shared):Prop:=∃H',Inv X pins σ H' s'/\Q b H'
def AP(X:Cx)(pins:List (Addr×Obj))(σ:St)(Q:List V->Hp->Prop)(us:List Value)(s':Shared):Prop:=∃vs H',Inv X pins σ H' s'/\Vals vs us/\Q vs H'
def SP(X:Cx)(pins:List (Addr×Obj))(D:Ends)(f:Flow)(s':Shared):Prop :=
 match f with
 |.next=>∃σ' H',Inv X pins σ' H' s'/\D.nx σ' H'
 |.brk=>∃σ' H',Inv X pins σ' H' s'/\D.bk σ' H'
 |.cont=>∃σ' H',Inv X pins σ' H' s'/\D.ct σ' H'
 |.ret u=>∃v σ' H',Inv X pins σ' H' s'/\RelV v u/\D.rt v H'
def PE(X:Cx)(e:Expr)(t:TE):Prop :=
 ∀(pins:List (Addr×Obj))(s:Shared)(σ:St)(H:Hp)(Q:VK),Inv X pins σ H s->t σ H Q->wpAny (model X.prog X.w) X.A (eval e X.env) (EP X pins σ Q) X.xe s
def PT(X:Cx)(e:Expr)(t:TT):Prop :=
 ∀(pins:List (Addr×Obj))(s:Shared)(σ:St)(H:Hp)(Q:Bool->Hp->Prop),Inv X pins σ H s->t σ H Q->wpAny (model X.prog X.w) X.A (isTrue e X.env (eval e X.env)) (TP X pins σ Q) X.xe s
def PW(X:Cx)(e:Expr)(t:TT):Prop :=
 ∀(whole:Sem Value)(pins:List (Addr×Obj))(s:Shared)(σ:St)(H:Hp)(Q:Bool->Hp->Prop),Inv X pins σ H s->t σ H Q->wpAny (model X.prog X.w) X.A (isTrue e X.env whole) (TP X pins σ Q) X.xe s
theorem PW.pt(h:PW X e t):PT X e t:=h _
def PA(X:Cx)(es:List Expr)(t:TA):Prop :=
 ∀(pos:Pos)(pins:List (Addr×Obj))(s:Shared)(σ:St)(H:Hp)(Q:List V->Hp->Prop),Inv X pins σ H s->t σ H Q->wpAny (model X.prog X.w) X.A (spliced (backTo pos (starEach es X.env))) (AP X pins σ Q) X.xe s
def PS(X:Cx)(st:Stmt)(t:TS):Prop :=
 ∀(pins:List (Addr×Obj))(s:Shared)(σ:St)(H:Hp)(D:Ends),Inv X pins σ H s->t D σ H->wpAny (model X.prog X.w) X.A (exec st X.env) (SP X pins D) X.xe s
def PSs(X:Cx)(st:List Stmt)(t:TS):Prop :=
 ∀(pins:List (Addr×Obj))(s:Shared)(σ:St)(H:Hp)(D:Ends),Inv X pins σ H s->t D σ H->wpAny (model X.prog X.w) X.A (execs st X.env) (SP X pins D) X.xe s
theorem thn{α:Type}{t:Sem α}{Q Q':α->Shared->Prop}{M:Model}{A:Around}{E:Value->Shared->Prop}{s:Shared}(h:wpAny M A t Q E s)(hQ:∀a s,Q a s->Q' a s):wpAny M A t Q' E s:=wpAny_mono h hQ λ_ _ x=>x
section
variable {X:Cx}
theorem bin{a b:Expr}{ta tb:TE}(ha:PE X a ta)(hb:PE X b tb){pins:List (Addr×Obj)}{s:Shared}{σ:St}{H:Hp}{R:V->V->Hp->Prop}(I:Inv X pins σ H s)(h:ta σ H λx H1=>tb σ H1 λy H2=>R x y H2){α:Type}{Q:α->Shared->Prop}{f:Value->Value->Sem α}(hf:∀v u s2 x y H2,Inv X pins σ H2 s2->RelV x v->RelV y u->R x y H2->wpAny (model X.prog X.w) X.A (f v u) Q X.xe s2) :
  wpAny (model X.prog X.w) X.A (eval a X.env) (λv s₁=>wpAny (model X.prog X.w) X.A (eval b X.env) (λu s₂=>wpAny (model X.prog X.w) X.A (f v u) Q X.xe s₂) X.xe s₁) X.xe s:=by
 refine thn (ha pins s σ H _ I h) λv s1 ⟨x,H1,I1,r1,q1⟩=>?_;refine thn (hb pins s1 σ H1 _ I1 q1) λu s2 ⟨y,H2,I2,r2,q2⟩=>?_;exact hf v u s2 x y H2 I2 r1 r2 q2
def tVar(i:Nat):TE:=λσ H Q=>∃v,σ[i]?=some (some v)/\Q v H
def tC(v:V):TE:=λ_ H Q=>Q v H
theorem pe_var(hN:X.N[i]?=some x)(hv:Vis X.env.scope x)(hd:(x==("__debug__" : Str))=false:=by decide)(hcd:(x==("__classdict__" : Str))=false:=by decide):PE X (.Name x pos) (tVar i):=by
 intro pins s σ H Q I h;obtain⟨v,e,h⟩:=h;obtain⟨m,hn,hl⟩:=I.loc;obtain⟨u,r,l⟩:=hl i x v hN e hv;have fin:EP X pins σ Q u s:=⟨v,H,I,r,h⟩;rcases l with⟨hk,hm⟩|⟨hk,c,hc,hcell⟩
 ·exact wpAny_Name (wpAny_loadName_local I.ok.kind hk hn hm fin) hd
 ·rcases hk with hk|hk
  ·exact wpAny_Name (wpAny_loadName_cell I.ok.kind hk hc hcell fin) hd
  ·exact wpAny_Name (wpAny_loadName_free I.ok.kind hk hc hcell fin hcd) hd
theorem pe_int:PE X (.Constant (.int i) j pos) (tC (.int i)):=λ_ _ _ H _ I h=>wpAny_Constant_int ⟨.int i,H,I.tok _,⟨_,rfl⟩,h⟩
theorem pe_bl:PE X (.Constant (.bool b) j pos) (tC (.bl b)):=λ_ _ _ H _ I h=>Constant_bool ⟨.bl b,H,I,rfl,h⟩
theorem pe_non:PE X (.Constant .none j pos) (tC .non):=λ_ _ _ H _ I h=>Constant_none ⟨.non,H,I,rfl,h⟩
theorem pe_str:PE X (.Constant (.str x) j pos) (tC (.str x)):=λ_ _ _ H _ I h=>Calls.Constant_str ⟨.str x,H,I.tok _,⟨_,rfl⟩,h⟩
def Gl(X:Cx)(x:Str):Prop:=X.env.kindOf x=some .globalImplicit
theorem xz(I:Inv X pins σ H s)(hg:Gl X x)(hm:X.mg x=some u)(h:Q u s)(hd:(x==("__debug__" : Str))=false:=by decide):wpAny (model X.prog X.w) X.A (eval (.Name x pos) X.env) Q E s :=
 Calls.Name_function_global I.ok.kind hg (Calls.loadGlobal_global (by rw[I.ok.glob]; exact I.mod.glob.keeps I.bk) hm h) hd
theorem Qp(I:Inv X pins σ H s)(hg:Gl X x)(hm:X.mg x=none)(hv:bootBuiltins x=some u)(h:Q u s)(hn:x ≠ "__name__" := by decide)(hd:(x==("__debug__" : Str))=false:=by decide):wpAny (model X.prog X.w) X.A (eval (.Name x pos) X.env) Q E s:=by
 obtain⟨mb,h1,h2⟩:=I.mod.blt;exact Calls.Name_function_global I.ok.kind hg (Calls.loadGlobal_builtin (by rw[I.ok.glob]; exact I.mod.glob.keeps I.bk) hm (by rw[I.ok.blt]; exact h1.keeps I.bk) ((h2 x hn).trans hv) h) hd
theorem Wj(hg:Gl X x)(hm:X.mg x=some u)(r:RelV v u)(hd:(x==("__debug__" : Str))=false:=by decide):PE X (.Name x pos) (tC v) :=
 λ_ _ _ H _ I h=>xz I hg hm ⟨v,H,I,r,h⟩ hd
variable {a b:Expr} {ta tb:TE} {pos:Pos}
def PC(X:Cx)(op:CmpOp)(a b:Expr)(t:TE):Prop :=
 ∀(pins:List (Addr×Obj))(s:Shared)(σ:St)(H:Hp)(Q:VK),Inv X pins σ H s->t σ H Q ->
  wpAny (model X.prog X.w) X.A (eval a X.env) (λv s₁=>wpAny (model X.prog X.w) X.A (eval b X.env) (λu s₂=>wpAny (model X.prog X.w) X.A (compareOp op v u) (EP X pins σ Q) X.xe s₂) X.xe s₁) X.xe s
def tB(t:TE):TT:=λσ H Q=>t σ H λx H1=>∃c,x=.bl c/\Q c H1
theorem pt_cmp(h:PC X op a b t)(h1:behindInMarks op b=false:=by first|exact nobehind _ (by decide) (by decide)|rfl):PT X (.Compare a [op] [b] pos) (tB t):=by
 intro pins s σ H Q I hw;refine wpAny_isTrue_Compare1 (thn (h pins s σ H _ I hw) λv s1 h1=>thn h1 λu s2 h2=>thn h2 λc s3 ⟨x,H1,I1,r1,q1⟩=>?_) h1;obtain⟨d,rfl,q⟩:=q1;cases r1;exact wpAny_truthy_bool ⟨H1,I1,q⟩
variable {tA tB':TT} {rest:List Expr}
def tAnd(t u:TT):TT:=λσ H Q=>t σ H λc H1=>if c=true then u σ H1 Q else Q false H1
def tOr(t u:TT):TT:=λσ H Q=>t σ H λc H1=>if c=true then Q true H1 else u σ H1 Q
def tNot(t:TT):TT:=λσ H Q=>t σ H λc H1=>Q (!c) H1
def Zw(ta tb:TE):TE:=λσ H Q=>ta σ H λx H1=>∃c,x=.bl c/\if c=true then tb σ H1 Q else Q (.bl false) H1
def tOrV(ta tb:TE):TE:=λσ H Q=>ta σ H λx H1=>∃c,x=.bl c/\if c=true then Q (.bl true) H1 else tb σ H1 Q
def tNotV(ta:TE):TE:=λσ H Q=>ta σ H λx H1=>∃c,x=.bl c/\Q (.bl (!c)) H1
def tIf(t:TT)(ta tb:TE):TE:=λσ H Q=>t σ H λc H1=>if c=true then ta σ H1 Q else tb σ H1 Q
end
def SqL(Ξ:PySem.W.Frag)(H:Hp)(a:Addr)(xs:List V):Prop :=
 Rd H a (.lst xs) \/
  ∃(o:Obj)(its:Array Value)(n:Nat),Ξ.lookup a=some o/\o.cls=.type "list" /\ o.dict=none/\o.data=.seq its n/\its.size<=sizeLine/\Vals xs its.toList
def SqT(Ξ:PySem.W.Frag)(H:Hp)(a:Addr)(xs:List V):Prop :=
 Rd H a (.tup xs) \/
  ∃(o:Obj)(its:Array Value)(n:Nat),Ξ.lookup a=some o/\o.cls=.type "tuple" /\ o.data=.seq its n/\its.size<=sizeLine/\Vals xs its.toList
def absV:Value->Option V
 |.none=>some .non
 |.bool b=>some (.bl b)
 |.int i _=>some (.int i)
 |.str x _=>some (.str x)
 |.bytes b _=>some (.byt b)
 |.float b _=>some (.flt b)
 |.ref a=>some (.ref a)
 |.type n=>some (.ty n)
 |_=>none
theorem RelV.abs(r:RelV x u):absV u=some x:=by
 cases x with
 |non=>cases r; rfl
 |bl _=>cases r; rfl
 |int _=>obtain⟨t,rfl⟩:=r; rfl
 |str _=>obtain⟨t,rfl⟩:=r; rfl
 |byt _=>obtain⟨t,rfl⟩:=r; rfl
 |flt _=>obtain⟨t,rfl⟩:=r; rfl
 |ref _=>cases r; rfl
 |ty _=>cases r; rfl
theorem RelV.inj(r:RelV x u)(q:RelV y u):x=y:=Option.some.inj (r.abs.symm.trans q.abs)
theorem Vals.inj:∀{xs ys:List V}{us:List Value},Vals xs us->Vals ys us->xs=ys
 |_,_,_, .nil, .nil=>rfl
 |_,_,_, .cons r t, .cons r' t'=>by rw[r.inj r',Vals.inj t t']
section
theorem SqL.of(h:H a=some (.lst xs)):SqL Ξ H a xs:=.inl (.inl h)
theorem SqT.of(h:H a=some (.tup xs)):SqT Ξ H a xs:=.inl (.inl h)
theorem Inv.list(I:Inv X pins σ H s)(h:SqL X.K H a xs):∃its:List Value,Vals xs its/\PlainL s.heap a its.toArray/\xs.length<=sizeLine:=by
 rcases h with h|⟨o,its,n,hk,hc,hd,hs,hz,r⟩
 ·obtain⟨z,its,n,r,e⟩:=h.ok I.hok
  exact⟨its,r,⟨_,n,e,rfl,rfl,rfl⟩,z⟩
 ·refine⟨its.toList,r,⟨o,n,I.kIn a o hk,hc,hd,by simpa using hs⟩, ?_⟩
  have e:=r.length;simp only[DM] at e;lia
theorem Inv.tuple(I:Inv X pins σ H s)(h:SqT X.K H a xs):∃its:List Value,Vals xs its/\IsTup s.heap a its.toArray/\xs.length<=sizeLine:=by
 rcases h with h|⟨o,its,n,hk,hc,hs,hz,r⟩
 ·obtain⟨z,its,r,p⟩:=h.ok I.hok
  exact⟨its,r,p,z⟩
 ·refine⟨its.toList,r,⟨o,I.kIn a o hk,hc,n,by simpa using hs⟩, ?_⟩
  have e:=r.length;simp only[DM] at e;lia
theorem Inv.list_inj(I:Inv X pins σ H s)(h:SqL X.K H a xs)(h':SqL X.K H a ys):xs=ys:=by
 obtain⟨its,r,⟨o,n,e,_,_,d⟩,_⟩:=I.list h;obtain⟨its',r',⟨o',n',e',_,_,d'⟩,_⟩:=I.list h';rw[e] at e'; cases e';rw[d] at d';injection d' with d1 _
 have:its=its':=by simpa using congrArg Array.toList d1
 subst this;exact r.inj r'
end
abbrev Cx.wish(X:Cx)(E:Value->Shared->Prop):Cx:={ X with xe:=E }
abbrev Cx.nox(X:Cx):Cx:=X.wish λ_ _=>False
theorem Cx.Ok.wish{X:Cx}(ok:X.Ok)(E:Value->Shared->Prop):(X.wish E).Ok :=
 ⟨ok.mod,ok.kind,ok.glob,ok.blt,ok.above,ok.inj,ok.has,ok.cab,ok.hd,ok.frames,ok.stk,ok.exf,ok.bs,ok.bsz,ok.noex,ok.exfs,ok.funs,ok.frf⟩
theorem Cx.Ok.unwish{X:Cx}(ok:(X.wish E).Ok):X.Ok :=
 ⟨ok.mod,ok.kind,ok.glob,ok.blt,ok.above,ok.inj,ok.has,ok.cab,ok.hd,ok.frames,ok.stk,ok.exf,ok.bs,ok.bsz,ok.noex,ok.exfs,ok.funs,ok.frf⟩
section
theorem Inv.wish(I:Inv X pins σ H s)(E:Value->Shared->Prop):Inv (X.wish E) pins σ H s:=⟨I.ok.wish E,I.os,I.bare,I.base,I.loc,I.cell,I.free,I.freeC,I.pin,I.hok,I.len⟩
theorem Inv.unwish(I:Inv (X.wish E) pins σ H s):Inv X pins σ H s:=⟨I.ok.unwish,I.os,I.bare,I.base,I.loc,I.cell,I.free,I.freeC,I.pin,I.hok,I.len⟩
theorem SP.unwish(h:SP (X.wish E) pins D f s'):SP X pins D f s':=by
 cases f with
 |next=>obtain⟨σ',H',I,q⟩:=h; exact⟨σ',H',I.unwish,q⟩
 |brk=>obtain⟨σ',H',I,q⟩:=h; exact⟨σ',H',I.unwish,q⟩
 |cont=>obtain⟨σ',H',I,q⟩:=h; exact⟨σ',H',I.unwish,q⟩
 |ret u=>obtain⟨v,σ',H',I,r,q⟩:=h; exact⟨v,σ',H',I.unwish,r,q⟩
theorem PT.nox(h:PT X.nox e t):PT X e t:=λpins s σ H Q I hw =>
 wpAny_mono (h pins s σ H Q (I.wish _) hw) (λ_ _ ⟨H',I',q⟩=>⟨H',I'.unwish,q⟩) λ_ _ z=>False.elim z
theorem PSs.nox{st:List Stmt}(h:PSs X.nox st t):PSs X st t:=λpins s σ H D I hw =>
 wpAny_mono (h pins s σ H D (I.wish _) hw) (λ_ _ q=>q.unwish) λ_ _ z=>False.elim z
end
section
def Vp:TS:=λD σ H=>D.nx σ H
def tSeq(t u:TS):TS:=λD σ H=>t { D with nx:=u D } σ H
theorem pss_nil:PSs X [] Vp:=λ_ _ σ H _ I h=>wpAny_execs_nil ⟨σ,H,I,h⟩
theorem Inv.quiet(I:Inv X pins σ H s):interactive X.env=false:=by simp[interactive,I.ok.kind]
def Zv(te:TE):TS:=λD σ H=>te σ H λ_ H1=>D.nx σ H1
def tRet(te:TE):TS:=λD σ H=>te σ H D.rt
def tRetN:TS:=λD _ H=>D.rt .non H
def tIfS(c:TT)(t u:TS):TS:=λD σ H=>c σ H λb H1=>if b=true then t D σ H1 else u D σ H1
end
abbrev TG:=V->St->Hp->(St->Hp->Prop)->Prop
abbrev TGs:=List V->St->Hp->(St->Hp->Prop)->Prop
def PG(X:Cx)(target:Expr)(t:TG):Prop :=
 ∀(pins:List (Addr×Obj))(s:Shared)(σ:St)(H:Hp)(v:V)(u:Value)(Q:St->Hp->Prop),Inv X pins σ H s->RelV v u->t v σ H Q ->
  wpAny (model X.prog X.w) X.A (assign target X.env u) (λ_ s'=>∃σ' H',Inv X pins σ' H' s'/\Q σ' H') X.xe s
def PGs(X:Cx)(ts:List Expr)(t:TGs):Prop :=
 ∀(pins:List (Addr×Obj))(s:Shared)(σ:St)(H:Hp)(vs:List V)(us:List Value)(Q:St->Hp->Prop),Inv X pins σ H s->Vals vs us->t vs σ H Q ->
  wpAny (model X.prog X.w) X.A (assignInOrder ((assignEach ts X.env).map (·.2)) us) (λ_ s'=>∃σ' H',Inv X pins σ' H' s'/\Q σ' H') X.xe s
abbrev TSet:=V->V->V->Hp->(Hp->Prop)->Prop
def PSet(X:Cx)(t:TSet):Prop :=
 ∀(pins:List (Addr×Obj))(s:Shared)(σ:St)(H:Hp)(o i v:V)(ov iv u:Value)(Q:Hp->Prop),Inv X pins σ H s->RelV o ov->RelV i iv->RelV v u->t o i v H Q ->
  wpAny (model X.prog X.w) X.A (setItem ov iv u) (λ_ s'=>∃H',Inv X pins σ H' s'/\Q H') X.xe s
abbrev TIp:=V->V->Hp->VK->Prop
def PIp(X:Cx)(op:Operator)(t:TIp):Prop :=
 ∀(pins:List (Addr×Obj))(s:Shared)(σ:St)(H:Hp)(x y:V)(v u:Value)(Q:VK),Inv X pins σ H s->RelV x v->RelV y u->t x y H Q ->
  wpAny (model X.prog X.w) X.A (inplaceOp op v u) (EP X pins σ Q) X.xe s
section
def vc(i:Nat):TG:=λv σ H Q=>Q (σ.set i (some v)) H
theorem jZ(hN:X.N.Nodup)(hi:X.N[i]?=some x)(hx:Loc X.env.scope x)(hf:X.fn x=true\/X.env.scope.names.lookup x=some .local:=by first|exact .inl rfl|exact .inr rfl|assumption):PG X (.Name x pos) (vc i):=by
 intro pins s σ H v u Q I r h;exact wpAny_assign_Name (kJ I hN hi hx r (λs' I'=>⟨_,H,I',h⟩) hf)
def gNil:TGs:=λvs σ H Q=>vs=[]/\Q σ H
def vB(t:TG)(u:TGs):TGs:=λvs σ H Q=>∃v r,vs=v::r/\t v σ H λσ' H'=>u r σ' H' Q
theorem X3:PGs X [] gNil:=by
 intro pins s σ H vs us Q I r h;obtain⟨e,h⟩:=h;subst e;cases r;exact assignInOrder_nil ⟨σ,H,I,h⟩
theorem xI(h1:PG X e t)(h2:PGs X es u)(hs:(assignEach (e::es) X.env).map (·.2)=assign e X.env::(assignEach es X.env).map (·.2):=by rfl):PGs X (e::es) (vB t u):=by
 intro pins s σ H vs us Q I r h;obtain⟨v,vr,e1,h⟩:=h;subst e1;cases r with
 |cons r rr =>
  rw[hs];refine assignInOrder_cons (thn (h1 pins s σ H _ _ _ I r h) λ_ s1 ⟨σ1,H1,I1,q1⟩=>?_);exact h2 pins s1 σ1 H1 _ _ Q I1 rr q1
def gTup(Ξ:PySem.W.Frag)(n:Nat)(t:TGs):TG:=λv σ H Q=>∃a xs,v=.ref a/\SqT Ξ H a xs/\xs.length=n/\t xs σ H Q
theorem Wi(hc:X.calm=true)(h:PGs X es t)(hn:(assignEach es X.env).length=n:=by rfl)(hst:(assignEach es X.env).findIdx? (·.1)=none:=by rfl):PG X (.Tuple es k pos) (gTup X.K n t):=by
 intro pins s σ H v u Q I r hw;obtain⟨a,xs,e1,hq,hl,hw⟩:=hw;subst e1;cases r;obtain⟨its,rv,ht,hz⟩:=I.tuple hq;refine assign_Tuple_tuple (I.ok.hd hc) ht (by simp[hn, <-hl,rv.length]) hst λh' hx=>?_;have I1:Inv X pins σ H { s with heap:=h' }:=I.kept (t':=s.toks) λb o e=>hx b o (UJ (Heap.lt_size e)) e;exact h pins _ σ H xs _ Q I1 (by simpa using rv) hw
def gSub(to ti:TE)(t:TSet):TG:=λv σ H Q=>to σ H λo H1=>ti σ H1 λi H2=>t o i v H2 λH3=>Q σ H3
def tAsg(te:TE)(g:TG):TS:=λD σ H=>te σ H λx H1=>g x σ H1 D.nx
def tAug(i:Nat)(te:TE)(ti:TIp):TS:=λD σ H=>∃x,σ[i]?=some (some x)/\te σ H λy H1=>ti x y H1 λz H2=>D.nx (σ.set i (some z)) H2
def ipI(f:Int->Int->Int):TIp:=λx y H Q=>∃i j,x=.int i/\y=.int j/\Q (.int (f i j)) H
theorem ip_add:PIp X .Add (ipI λi j=>i+j):=by
 intro pins s σ H x y v u Q I r1 r2 h;obtain⟨i,j,e1,e2,q⟩:=h;subst e1; subst e2;obtain⟨t,rfl⟩:=r1;obtain⟨t',rfl⟩:=r2;exact iadd_int ⟨.int _,H,I.tok _,⟨_,rfl⟩,q⟩
end
section
def JW(c:TT)(tb:TS):TS:=λD σ H=>∃W:Nat->St->Hp->Prop,(∃m,W m σ H)/\∀m σ H,W m σ H ->
 c σ H λb H1=>if b=true then ∃N:St->Hp->Prop,(∀σ' H',N σ' H'->∃m',m'<m/\W m' σ' H')/\tb { D with nx:=N,ct:=N,bk:=D.nx } σ H1 else D.nx σ H1
end
structure It where
 go:Nat->Hp->Prop
 yld:Nat->Hp->V->Hp->Prop
 stop:Nat->Hp->Prop
def FpOk(X:Cx)(pins:List (Addr×Obj))(H:Hp)(b:Addr):Prop :=
 H b=none/\b≠X.env.locals/\b∉X.fs/\(b∈X.ex\/X.s₀.heap.objs.size<=b)/\(∀x c,X.env.cells.lookup x=some c->c≠b)/\∀p∈X.pn++pins,p.1≠b
theorem Inv.fpOk(I:Inv X pins σ H s)(hb:s.heap.objs.size<=b)(hn:H' b=none):FpOk X pins H' b:=by
 refine⟨hn,R3 (Uy I.lt hb),I.nofs hb, .inr (UY I.sz hb),λx c e z=>?_,λp hp z=>?_⟩
 ·obtain⟨v,q⟩:=I.cell x c e
  exact absurd (Uy q.lt (by rw[z]; exact hb)) (Dh _)
 ·exact absurd (Uy (Heap.lt_size (I.pin p hp).1) (by rw[z]; exact hb)) (Dh _)
structure Turn(P:Program)(w:World)(Ξ:PySem.W.Frag)(tg:Expr)(J:It)(fp:List Addr)(it:Addr)(tn:Nat->Heap->Prop):Prop where
 mem:it∈fp
 obj:∀i h,tn i h->∀b∈fp,∃o,h.get? b=some o/\∀v,o.data ≠ .cell v
 keep:∀i h h',tn i h->(∀b∈fp,∀o,h.get? b=some o->h'.get? b=some o)->tn i h'
 item:∀(X:Cx),X.prog=P->X.w=w->X.K=Ξ->X.calm=true->∀(i:Nat)(pins:List (Addr×Obj))(s:Shared)(σ:St)(H:Hp)(E:Value->Shared->Prop),Inv X pins σ H s->(∀b∈fp,FpOk X pins H b)->tn i s.heap->J.go i H ->
  wpAny (model P w) X.A (pyNext (.ref it)) (λr s1=>∃u,r=some u /\
   wpAny (model P w) X.A (letOwnedTupleGo tg (.ref it) u) (λ_ s2=>∃x H',Inv X pins σ H' s2/\RelV x u/\J.yld i H x H'/\tn (i+1) s2.heap/\∀b∈fp,H' b=none) E s1) E s
 done:∀(X:Cx),X.prog=P->X.w=w->X.K=Ξ->X.calm=true->∀(i:Nat)(pins:List (Addr×Obj))(s:Shared)(σ:St)(H:Hp)(E:Value->Shared->Prop),Inv X pins σ H s->(∀b∈fp,FpOk X pins H b)->tn i s.heap->J.stop i H ->
  wpAny (model P w) X.A (pyNext (.ref it)) (λr s1=>r=none/\Inv X pins σ H s1) E s
 self:∀(A:Around)(i:Nat)(s:Shared)(Q:Value->Shared->Prop)(E:Value->Shared->Prop),tn i s.heap->Q (.ref it) s->wpAny (model P w) A (pyIter (.ref it)) Q E s
abbrev TI:=St->Hp->(It->Hp->Prop)->Prop
def PIE(X:Cx)(pins:List (Addr×Obj))(σ:St)(tg:Expr)(R:It->Hp->Prop)(itv:Value)(s2:Shared):Prop :=
 ∃(it:Addr)(fp:List Addr)(tn:Nat->Heap->Prop)(J:It)(H':Hp),itv=.ref it/\Inv X pins σ H' s2/\Turn X.prog X.w X.K tg J fp it tn/\tn 0 s2.heap/\(∀b∈fp,FpOk X pins H' b)/\R J H'
def PI(X:Cx)(tg iter:Expr)(wi:TI):Prop :=
 ∀(pins:List (Addr×Obj))(s:Shared)(σ:St)(H:Hp)(R:It->Hp->Prop),Inv X pins σ H s->wi σ H R ->
  wpAny (model X.prog X.w) X.A (eval iter X.env) (λv s1=>wpAny (model X.prog X.w) X.A (pyIter v) (PIE X pins σ tg R) X.xe s1) X.xe s
theorem go_of(ho:s.heap.get? it=some o)(hc:o.cls=.type n)(hd:o.data=.fields vs)(hn:["enumerate","zip","dict_itemiterator","dict_reverseitemiterator","odict_iterator","itertools.zip_longest","itertools.pairwise"].contains n=false)(hQ:Q () s):wpAny M A (letOwnedTupleGo tg (.ref it) u) Q E s:=by
 unfold letOwnedTupleGo;cases tg<;>first
  |exact wpAny_pure hQ
  | (cases u<;>first
    |exact wpAny_pure hQ
    | (refine wpAny_bind (wpAny_load ho ?_)
       rw[hc,hd];show wpAny M A (if(["enumerate","zip","dict_itemiterator","dict_reverseitemiterator","odict_iterator","itertools.zip_longest","itertools.pairwise"].contains n&&vs[0]?==some (rawInt _))=true then _ else _) Q E s;rw[if_neg (by intro h; rw[hn,Bool.false_and] at h; cases h)];exact wpAny_pure hQ))
def Itl(Ξ:PySem.W.Frag)(a:Addr):It :=
 ⟨λi H=>∃xs x,SqL Ξ H a xs/\xs[i]?=some x,λi H x H'=>H'=H/\∀xs,SqL Ξ H a xs->xs[i]?=some x,λi H=>∃xs,SqL Ξ H a xs/\xs.length<=i⟩
def Itr(lo:Int)(n:Nat):It:=⟨λi _=>i<n,λi H x H'=>H'=H/\x=.int (lo+i),λi _=>n<=i⟩
theorem YH(a it:Addr):Turn P w Ξ tg (Itl Ξ a) [it] it (λi h=>h.IsListIter it a i) where
 mem:=by simp
 obj:=λi h st b hb=>by
  have e:b=it:=by simpa using hb
  subst e;obtain⟨o,e,c,d⟩:=st;exact⟨o,e,λv z=>by rw[d] at z; cases z⟩
 keep:=λi h h' st k=>st.at λo e=>k it (by simp) o e
 item:=by
  intro X hP hw hK hc i pins s σ H E I hf st hg;subst hP hw hK;obtain⟨xs,x,hq,hx⟩:=hg;obtain⟨its,rv,p,hz⟩:=I.list hq;obtain⟨u,hu,ru⟩:=rv.get hx;obtain⟨f0,f1,f2,f3,f4,f5⟩:=hf it (by simp);refine wpAny_pyNext_list_item st p.isList (x:=u) (by simpa using hu) λh' st' sb=>?_;have I1:Inv X pins σ H { s with heap:=h' }:=I.turned (t':=s.toks) (λb o hb e=>(sb.2 b hb).trans e) f0 f1 f3 f4 f5;obtain⟨o,e,c,d⟩:=id st';exact⟨u,rfl,go_of (s:={ s with heap:=h' }) e c d (by decide) ⟨x,H,I1,ru,⟨rfl,λys hy=>by rw[I.list_inj hy hq]; exact hx⟩,st',λb hb=>(hf b hb).1⟩⟩
 done:=by
  intro X hP hw hK hc i pins s σ H E I hf st hg;subst hP hw hK;obtain⟨xs,hq,hx⟩:=hg;obtain⟨its,rv,p,hz⟩:=I.list hq;obtain⟨f0,f1,f2,f3,f4,f5⟩:=hf it (by simp);have hl:=rv.length;exact wpAny_pyNext_list_end (I.ok.hd hc) st p.isList (by simp; lia) λh' eb=>⟨rfl,I.turned (t':=s.toks) (λb o hb e=>eb b o hb e) f0 f1 f3 f4 f5⟩
 self:=λ_ _ _ _ _ st h=>wpAny_pyIter_listiter st h
theorem KK(it:Addr)(lo:Int)(n:Nat):Turn P w Ξ tg (Itr lo n) [it] it (λi h=>IsRangeIter h it (lo+(i:Nat)*1) ((n:Int)-(i:Nat)) 1) where
 mem:=by simp
 obj:=λi h st b hb=>by
  have e:b=it:=by simpa using hb
  subst e;exact⟨_,st,λv z=>by
   have z':Data.fields _=Data.cell v:=z;cases z'⟩
 keep:=λi h h' st k=>k it (by simp) _ st
 item:=by
  intro X hP hw hK hc i pins s σ H E I hf st hg;subst hP hw hK;obtain⟨f0,f1,f2,f3,f4,f5⟩:=hf it (by simp);have W:=Walks.range (prog:=X.prog) (w:=X.w) (I.ok.hd hc) it lo 1 n;refine W.item i s _ _ hg st λv h' tk hv st' kk=>?_;obtain⟨t,rfl⟩:=hv;have I1:Inv X pins σ H { s with heap:=h',toks:=tk }:=I.turned (λb o hb e=>kk b o (by simpa using hb) e) f0 f1 f3 f4 f5;refine⟨_,rfl,go_of (s:={ s with heap:=h',toks:=tk }) (n := "range_iterator") st' rfl rfl (by decide) ⟨.int (lo+i),H,I1,⟨t, ?_⟩,⟨rfl,rfl⟩,st',λb hb=>(hf b hb).1⟩⟩;rw[Int.mul_one]
 done:=by
  intro X hP hw hK hc i pins s σ H E I hf st hg;subst hP hw hK;obtain⟨f0,f1,f2,f3,f4,f5⟩:=hf it (by simp);exact wpAny_pyNext_range_end (I.ok.hd hc) st (by have:n<=i:=hg; lia) λh' eb=>⟨rfl,I.turned (t':=s.toks) (λb o hb e=>eb b o hb e) f0 f1 f3 f4 f5⟩
 self:=λ_ _ _ _ _ st h=>wpAny_pyIter_rangeiter st h
section
def Yl(Ξ:PySem.W.Frag)(tl:TE):TI:=λσ H R=>tl σ H λx H1=>∃a,x=.ref a/\(∃xs,SqL Ξ H1 a xs)/\R (Itl Ξ a) H1
theorem pi_list(hl:PE X l tl):PI X tg l (Yl X.K tl):=by
 intro pins s σ H R I h;refine thn (hl pins s σ H _ I h) λv s1 ⟨x,H1,I1,r1,q1⟩=>?_;obtain⟨a,e,⟨xs,hq⟩,q⟩:=q1;subst e;cases r1;obtain⟨its,rv,p,hz⟩:=I1.list hq;refine wpAny_pyIter_list p.isList ?_;refine⟨s1.heap.objs.size, [s1.heap.objs.size],_,_,H1,rfl,I1.kept (t':=s1.toks) λb o e=>Heap.get?_push_of_some _ e,YH a _,⟨_,Heap.get?_push_size _ rfl,rfl,rfl⟩,λb hb=>?_,q⟩;have e:b=s1.heap.objs.size:=by simpa using hb
 subst e;exact I1.fpOk (Up _) (I1.hok.fresh (Up _))
theorem range_it{lo hi:Int}(I:Inv X pins σ H s)(h1 : -(2^62)<=lo)(h2:lo<2^62)(h3 : -(2^62)<=hi)(h4:hi<2^62)(q:R (Itr lo (hi-lo).toNat) H):wpAny (model X.prog X.w) X.A (pyIter (.ref s.heap.objs.size)) (PIE X pins σ tg R) E { s with heap:=s.heap.push { cls:=.type "range", data:=.fields #[.int lo t, .int hi u, .int 1 v] },toks:=tk }:=by
 refine wpAny_pyIter_range (IsRange.new ..) (small_one h1 h2 h3 h4) ?_;have I1:Inv X pins σ H { s with heap:=s.heap.push { cls:=.type "range", data:=.fields #[.int lo t, .int hi u, .int 1 v] },toks:=tk }:=I.kept λb o e=>Heap.get?_push_of_some _ e;refine⟨(s.heap.push { cls:=.type "range", data:=.fields #[.int lo t, .int hi u, .int 1 v] }).objs.size, [(s.heap.push { cls:=.type "range", data:=.fields #[.int lo t, .int hi u, .int 1 v] }).objs.size],_,_,H,rfl,
  I1.kept (t':=tk) λb o e=>Heap.get?_push_of_some _ e,KK _ lo (hi-lo).toNat, ?_,λb hb=>?_,q⟩
 ·have e1:lo+((0:Nat):Int)*1=lo:=by simp
  have e2:(((hi-lo).toNat:Nat):Int)-((0:Nat):Int)=Builtin.Range.rangeSize lo hi 1:=by rw[rangeSize_one]; split<;>lia
  show IsRangeIter _ _ (lo+((0:Nat):Int)*1) ((((hi-lo).toNat:Nat):Int)-((0:Nat):Int)) 1;rw[e1,e2];exact Heap.get?_push_size _ rfl
 ·have e:b=(s.heap.push { cls:=.type "range", data:=.fields #[.int lo t, .int hi u, .int 1 v] }).objs.size:=by simpa using hb
  subst e;exact I1.fpOk (Up _) (I1.hok.fresh (Up _))
def Gk(ta:TA):TI:=λσ H R=>ta σ H λvs H1=>∃j:Int,vs=[.int j] /\ -(2^62)<=j/\j<2^62/\R (Itr 0 j.toNat) H1
def tFor(wi:TI)(g:TG)(tb:TS):TS:=λD σ H=>wi σ H λJ H1=>∃W:Nat->Nat->St->Hp->Prop,(∃m,W 0 m σ H1)/\∀i m σ H,W i m σ H ->
 (J.stop i H/\D.nx σ H)\/(J.go i H/\∃N:St->Hp->Prop,(∀σ' H',N σ' H'->∃m',m'<m/\W (i+1) m' σ' H')/\∀x H',J.yld i H x H'->g x σ H' λσ2 H2=>tb { D with nx:=N,ct:=N,bk:=D.nx } σ2 H2)
def ZJ(fp:List Addr)(h:Heap):List (Addr×Obj):=fp.filterMap λb=>(h.get? b).map λo=>(b,o)
theorem xK(hb:b∈fp)(e:h.get? b=some o):(b,o)∈ZJ fp h:=U5.mpr ⟨b,hb,by rw[e]; rfl⟩
theorem WL(hp:p∈ZJ fp h):p.1∈fp/\h.get? p.1=some p.2:=by
 obtain⟨b,hb,e⟩:=U5.mp hp;cases q:h.get? b with
 |none=>rw[q] at e; cases e
 |some o =>
  rw[q] at e;have e':(b,o)=p:=Option.some.inj e;subst e';exact⟨hb,q⟩
theorem Inv.pinned(I:Inv X pins σ H s)(hf:∀b∈fp,FpOk X pins H b)(ho:∀b∈fp,∃o,s.heap.get? b=some o/\∀v,o.data ≠ .cell v):Inv X (pins++ZJ fp s.heap) σ H s :=
 I.pins_of λp hp=>(Us.mp hp).elim (λz=>I.pin p (UB _ z)) λz=>by
  obtain⟨hb,e⟩:=WL z;obtain⟨f0,f1,f2,_⟩:=hf p.1 hb;obtain⟨o,e',d⟩:=ho p.1 hb;rw[e] at e'; cases e';exact⟨e,f0,f1,f2,d⟩
theorem Inv.unpinned(I:Inv X (pins++pl) σ H s):Inv X pins σ H s:=I.pins_of λp hp=>I.pin p (UB _ (UH _ hp))
theorem ps_for(hp:PassesOwn (model X.prog X.w) X.A X.env X.xe)(hc:X.calm=true)(hi:PI X tg iter wi)(hg:PG X tg g)(hb:PSs X body tb)(hs:∀x,foldedSetIterable iter X.env x=pure x:=by intro _; rfl):PS X (.For tg iter body [] pos) (tFor wi g tb):=by
 intro pins s σ H D I h;refine wpAny_For (thn (hi pins s σ H _ I h) λv s1 h1=>thn h1 λitv s2 h2=>?_) hs;obtain⟨it,fp,tn,J,H2,e,I2,T,st2,f2,W,⟨m0,w0⟩,turn⟩:=h2;subst e
 -- what stays true of the iterator's objects through the loop
 have stat:∀{H':Hp},(∀b∈fp,H' b=none)->∀b∈fp,FpOk X pins H' b:=λhn b hb=>⟨hn b hb,(f2 b hb).2⟩;refine codeAny_forLoop_any (λn s'=>∃i σ' H',Inv X pins σ' H' s'/\tn i s'.heap/\(∀b∈fp,H' b=none)/\W i n σ' H') ?_ m0 ⟨0,σ,H2,I2,st2,λb hb=>(f2 b hb).1,w0⟩;rintro n s3 ⟨i,σ3,H3,I3,st3,fr3,w3⟩;rcases turn i n σ3 H3 w3 with⟨stop,qn⟩|⟨go,N,hN,step⟩
 ·refine wpAny_passesOwn hp (thn (T.done X rfl rfl rfl hc i pins s3 σ3 H3 X.xe I3 (stat fr3) st3 stop) λr s4 ⟨hr,I4⟩=>?_)
  subst hr;exact wpAny_execs_nil ⟨σ3,H3,I4,qn⟩
 ·refine wpAny_passesOwn hp (thn (T.item X rfl rfl rfl hc i pins s3 σ3 H3 X.xe I3 (stat fr3) st3 go) λr s4 ⟨u,hr,h4⟩=>?_)
  subst hr;refine wpAny_passesOwn hp (thn h4 λ_ s5 ⟨x,H5,I5,r5,y5,st5,fr5⟩=>?_);have I5':=I5.pinned (stat fr5) (T.obj _ _ st5);refine wpAny_passesOwn hp (thn (hg _ s5 σ3 H5 x u _ I5' r5 (step x H5 y5)) λ_ s6 ⟨σ6,H6,I6,q6⟩=>?_);refine wpAny_passesOwn hp (thn (hb _ s6 σ6 H6 _ I6 q6) λf s7 q7=>?_);have again:∀{σ7:St}{H7:Hp},Inv X (pins++ZJ fp s5.heap) σ7 H7 s7->N σ7 H7->∃m,m<n/\∃i σ' H',Inv X pins σ' H' s7/\tn i s7.heap/\(∀b∈fp,H' b=none)/\W i m σ' H':=λ{σ7 H7} I7 n7=>by
   obtain⟨m',hm,w7⟩:=hN σ7 H7 n7;refine⟨m',hm,i+1,σ7,H7,I7.unpinned,T.keep _ _ _ st5 λb hb o e=>(I7.pin (b,o) (UB _ (UB _ (xK hb e)))).1,λb hb=>?_,w7⟩;obtain⟨o,e,d⟩:=T.obj _ _ st5 b hb;exact(I7.pin (b,o) (UB _ (UB _ (xK hb e)))).2.1
  cases f with
  |next=>obtain⟨σ7,H7,I7,n7⟩:=q7; exact again I7 n7
  |cont=>obtain⟨σ7,H7,I7,n7⟩:=q7; exact again I7 n7
  |brk=>obtain⟨σ7,H7,I7,q7⟩:=q7; exact⟨σ7,H7,I7.unpinned,q7⟩
  |ret v=>obtain⟨x7,σ7,H7,I7,r7,q7⟩:=q7; exact⟨x7,σ7,H7,I7.unpinned,r7,q7⟩
end
theorem for_list{g:TG}{tb:TS}{D:Ends}(Pv:Nat->St->Hp->Prop)(h0:Pv 0 σ H)(hl:∀i σ H,i<=xs.length->Pv i σ H->SqL Ξ H a xs)(hs:∀i x σ H,xs[i]?=some x->Pv i σ H->g x σ H λσ2 H2=>tb { D with nx:=Pv (i+1),ct:=Pv (i+1),bk:=D.nx } σ2 H2)(hd:∀σ H,Pv xs.length σ H->D.nx σ H) :
  ∃W:Nat->Nat->St->Hp->Prop,(∃m,W 0 m σ H)/\∀i m σ H,W i m σ H ->
   ((Itl Ξ a).stop i H/\D.nx σ H)\/((Itl Ξ a).go i H/\∃N:St->Hp->Prop,(∀σ' H',N σ' H'->∃m',m'<m/\W (i+1) m' σ' H')/\∀x H',(Itl Ξ a).yld i H x H'->g x σ H' λσ2 H2=>tb { D with nx:=N,ct:=N,bk:=D.nx } σ2 H2):=by
 refine⟨λi m σ H=>m=xs.length-i/\i<=xs.length/\Pv i σ H,⟨xs.length,by simp,U4 _,h0⟩, ?_⟩;rintro i m σ H ⟨rfl,hi,p⟩;have q:=hl i σ H hi p;by_cases hlt:i<xs.length
 ·refine .inr ⟨⟨xs,xs[i],q,by simp[hlt]⟩,Pv (i+1),λσ' H' p'=>⟨xs.length-(i+1),by lia,rfl,hlt,p'⟩,λx H' y=>?_⟩
  obtain⟨e,y⟩:=y;subst e;exact hs i x σ _ (y xs q) p
 ·have e:i=xs.length:=by lia
  subst e;exact .inl ⟨⟨xs,q,Up _⟩,hd σ H p⟩
abbrev R2:=V->V->Hp->VK->Prop
def OpR(X:Cx)(f:Value->Value->Sem Value)(r:R2):Prop :=
 ∀(pins:List (Addr×Obj))(s:Shared)(σ:St)(H:Hp)(x y:V)(v u:Value)(Q:VK),Inv X pins σ H s->RelV x v->RelV y u->r x y H Q ->
  wpAny (model X.prog X.w) X.A (f v u) (EP X pins σ Q) X.xe s
def UnR(X:Cx)(f:Value->Sem Value)(r:V->Hp->VK->Prop):Prop :=
 ∀(pins:List (Addr×Obj))(s:Shared)(σ:St)(H:Hp)(x:V)(v:Value)(Q:VK),Inv X pins σ H s->RelV x v->r x H Q ->
  wpAny (model X.prog X.w) X.A (f v) (EP X pins σ Q) X.xe s
def zJ(X:Cx)(f:Value)(r:List V->Hp->VK->Prop):Prop :=
 ∀(pins:List (Addr×Obj))(s:Shared)(σ:St)(H:Hp)(xs:List V)(us:List Value)(Q:VK),Inv X pins σ H s->Vals xs us->r xs H Q ->
  wpAny (model X.prog X.w) X.A (call f us) (EP X pins σ Q) X.xe s
def TruR(X:Cx)(r:V->Hp->(Bool->Hp->Prop)->Prop):Prop :=
 ∀(pins:List (Addr×Obj))(s:Shared)(σ:St)(H:Hp)(x:V)(v:Value)(Q:Bool->Hp->Prop),Inv X pins σ H s->RelV x v->r x H Q ->
  wpAny (model X.prog X.w) X.A (truthy v) (TP X pins σ Q) X.xe s
def tOp(r:R2)(ta tb:TE):TE:=λσ H Q=>ta σ H λx H1=>tb σ H1 λy H2=>r x y H2 Q
def tUn(r:V->Hp->VK->Prop)(ta:TE):TE:=λσ H Q=>ta σ H λx H1=>r x H1 Q
def rI(C:Int->Int->Prop)(g:Int->Int->V):R2:=λx y H Q=>∃i j,x=.int i/\y=.int j/\C i j/\Q (g i j) H
def rI0(g:Int->Int->V):R2:=λx y H Q=>∃i j,x=.int i/\y=.int j/\Q (g i j) H
def rU(g:Int->V):V->Hp->VK->Prop:=λx H Q=>∃i,x=.int i/\Q (g i) H
section
theorem binT(ha:PE X a ta)(hb:PE X b tb){R:V->V->Hp->Prop}(I:Inv X pins σ H s)(h:ta σ H λx H1=>tb σ H1 λy H2=>R x y H2){f:Value->Value->Sem Value}(hf:∀v u s2 x y H2,Inv X pins σ H2 s2->RelV x v->RelV y u->R x y H2->wpAny (model X.prog X.w) X.A (f v u) Q X.xe s2) :
  wpAny (model X.prog X.w) X.A (eval a X.env) (λv s₁=>wpAny (model X.prog X.w) X.A (eval b X.env) (λu s₂=>wpAny (model X.prog X.w) X.A (f v u) Q X.xe s₂) X.xe s₁) X.xe s:=by
 refine thn (ha pins s σ H _ I h) λv s1 ⟨x,H1,I1,r1,q1⟩=>?_;refine thn (hb pins s1 σ H1 _ I1 q1) λu s2 ⟨y,H2,I2,r2,q2⟩=>?_;exact hf v u s2 x y H2 I2 r1 r2 q2
theorem opI{g:Int->Int->Int}(rule:∀(i j:Int)(t u:Tok)(s:Shared)(Q:Value->Shared->Prop)(E:Value->Shared->Prop),C i j->Q (.int (g i j) s.toks) { s with toks:=s.toks+1 }->wpAny (model X.prog X.w) X.A (f (.int i t) (.int j u)) Q E s) :
  OpR X f (rI C λi j=>.int (g i j)):=by
 intro pins s σ H x y v u Q I rx ry h;obtain⟨i,j,rfl,rfl,hc,q⟩:=h;obtain⟨t,rfl⟩:=rx;obtain⟨t',rfl⟩:=ry;exact rule i j t t' s _ _ hc ⟨.int (g i j),H,I.tok _,⟨_,rfl⟩,q⟩
theorem opI0{g:Int->Int->Int}(rule:∀(i j:Int)(t u:Tok)(s:Shared)(Q:Value->Shared->Prop)(E:Value->Shared->Prop),Q (.int (g i j) s.toks) { s with toks:=s.toks+1 }->wpAny (model X.prog X.w) X.A (f (.int i t) (.int j u)) Q E s) :
  OpR X f (rI0 λi j=>.int (g i j)):=by
 intro pins s σ H x y v u Q I rx ry h;obtain⟨i,j,rfl,rfl,q⟩:=h;obtain⟨t,rfl⟩:=rx;obtain⟨t',rfl⟩:=ry;exact rule i j t t' s _ _ ⟨.int (g i j),H,I.tok _,⟨_,rfl⟩,q⟩
theorem opB0{g:Int->Int->Bool}(rule:∀(i j:Int)(t u:Tok)(s:Shared)(Q:Value->Shared->Prop)(E:Value->Shared->Prop),Q (.bool (g i j)) s->wpAny (model X.prog X.w) X.A (f (.int i t) (.int j u)) Q E s) :
  OpR X f (rI0 λi j=>.bl (g i j)):=by
 intro pins s σ H x y v u Q I rx ry h;obtain⟨i,j,rfl,rfl,q⟩:=h;obtain⟨t,rfl⟩:=rx;obtain⟨t',rfl⟩:=ry;exact rule i j t t' s _ _ ⟨.bl (g i j),H,I,rfl,q⟩
def CPow(i j:Int):Prop:=0<=j/\j<=1000000/\i.natAbs<2^64
def CMul(i j:Int):Prop:=(-(2^64)<i/\i<2^64)\/(-(2^64)<j/\j<2^64)
theorem CMul.ok(h:CMul i j):IntMulOk i j:=by
 rcases h with⟨h1,h2⟩|⟨h1,h2⟩
 ·exact .of_left (intBits_le_64 h1 h2)
 ·exact .of_right (intBits_le_64 h1 h2)
theorem KJ(k:Nat):(0:Int)<=2^k:=by
 rw[two_pow_cast];exact Int.natCast_nonneg _
theorem qP:OpR X (binaryOp .Add) (rI0 λi j=>.int (i+j)):=opI0 λ_ _ _ _ _ _ _ q=>add_int q
theorem vh:OpR X (binaryOp .Sub) (rI0 λi j=>.int (i-j)):=opI0 λ_ _ _ _ _ _ _ q=>sub_int q
theorem Qk:OpR X (binaryOp .Mult) (rI CMul λi j=>.int (i*j)):=opI λ_ _ _ _ _ _ _ hc q=>mul_int q hc.ok
theorem zz:OpR X (binaryOp .Mod) (rI (λ_ j=>0<j) λi j=>.int (i % j)):=opI λi j _ _ _ _ _ hc q=>by
 have h1:(0:Int)<j:=hc;exact mod_int' (by lia) (by rw[Int.fmod_eq_emod_of_nonneg i (by lia)]; exact q)
theorem ZL:OpR X (binaryOp .Pow) (rI CPow λi j=>.int (i^j.toNat)):=opI λ_ _ _ _ _ _ _ hc q=>pow_int_small hc.1 hc.2.1 hc.2.2 q
theorem vn:OpR X (binaryOp .LShift) (rI CPow λi j=>.int (i*2^j.toNat)):=opI λ_ _ _ _ _ _ _ hc q=>lshift_int_small hc.1 hc.2.1 hc.2.2 q
theorem op_shr:OpR X (binaryOp .RShift) (rI (λ_ j=>0<=j) λi j=>.int (i / 2^j.toNat)):=opI λi j _ _ _ _ _ hc q =>
 rshift_int hc (by rw[D8 i (KJ _)]; exact q)
theorem op_xor:OpR X (binaryOp .BitXor) (rI0 λi j=>.int (Builtin.bitXor i j)):=opI0 λ_ _ _ _ _ _ _ q=>xor_int q
theorem unI{g:Int->Int}(rule:∀(i:Int)(t:Tok)(s:Shared)(Q:Value->Shared->Prop)(E:Value->Shared->Prop),Q (.int (g i) s.toks) { s with toks:=s.toks+1 }->wpAny (model X.prog X.w) X.A (f (.int i t)) Q E s) :
  UnR X f (rU λi=>.int (g i)):=by
 intro pins s σ H x v Q I rx h;obtain⟨i,rfl,q⟩:=h;obtain⟨t,rfl⟩:=rx;exact rule i t s _ _ ⟨.int (g i),H,I.tok _,⟨_,rfl⟩,q⟩
theorem xT:UnR X (unaryOp .USub) (rU λi=>.int (-i)):=unI λ_ _ _ _ _ q=>neg_int q
end
def scal:V->V->Bool
 |.non, .non=>true | .non, .int _=>true | .int _, .non=>true | .non, .bl _=>true | .bl _, .non=>true | .non, .str _=>true | .str _, .non=>true
 |.int _, .int _=>true | .bl _, .bl _=>true | .str _, .str _=>true | .byt _, .byt _=>true
 |.int _, .str _=>true | .str _, .int _=>true | .bl _, .str _=>true | .str _, .bl _=>true
 |_,_=>false
def rEq:R2:=λx y H Q=>scal x y=true/\Q (.bl (decide (x=y))) H
def rNe:R2:=λx y H Q=>scal x y=true/\Q (.bl (!decide (x=y))) H
theorem GL:decide (V.int i=V.int j)=(i==j):=by
 rw[DF];simp
theorem dec_bl:decide (V.bl i=V.bl j)=(i==j):=by
 rw[DF];simp
theorem GK:decide (V.str i=V.str j)=(i==j):=by
 rw[DF];simp
theorem GM:decide (V.byt i=V.byt j)=(i.toList==j.toList):=by
 rw[DF];cases i;cases j;simp
section
theorem vo(I:Inv X pins σ H s)(q:Q (.bl k) H)(e:k=k'):EP X pins σ Q (.bool k') s:=by
 subst e;exact⟨.bl k,H,I,rfl,q⟩
theorem vK:OpR X (compareOp .Eq) rEq:=by
 intro pins s σ H x y v u Q I rx ry h;obtain⟨hs,q⟩:=h;cases x with
 |non =>
  cases rx;cases y with
  |non=>cases ry; exact PySem.EqNone.eq_none_none (vo I q (by simp))
  |bl j=>cases ry; exact PySem.EqNone.eq_none_bool (vo I q (by simp))
  |int j=>obtain⟨t',rfl⟩:=ry; exact PySem.EqNone.eq_none_int (vo I q (by simp))
  |str j=>obtain⟨t',rfl⟩:=ry; exact PySem.EqNone.eq_none_str (vo I q (by simp))
  |_=>exact absurd (show false=true from hs) Uv
 |bl i =>
  cases rx;cases y with
  |non=>cases ry; exact PySem.EqNone.eq_bool_none (vo I q (by simp))
  |bl j=>cases ry; exact eq_bool (vo I q dec_bl)
  |str j=>obtain⟨t',rfl⟩:=ry; exact PySem.EqMixed.eq_bool_str (vo I q (by simp))
  |_=>exact absurd (show false=true from hs) Uv
 |int i =>
  obtain⟨t,rfl⟩:=rx;cases y with
  |non=>cases ry; exact PySem.EqNone.eq_int_none (vo I q (by simp))
  |int j=>obtain⟨t',rfl⟩:=ry; exact eq_int (vo I q GL)
  |str j=>obtain⟨t',rfl⟩:=ry; exact PySem.EqMixed.eq_int_str (vo I q (by simp))
  |_=>exact absurd (show false=true from hs) Uv
 |str i =>
  obtain⟨t,rfl⟩:=rx;cases y with
  |non=>cases ry; exact PySem.EqNone.eq_str_none (vo I q (by simp))
  |bl j=>cases ry; exact PySem.EqMixed.eq_str_bool (vo I q (by simp))
  |int j=>obtain⟨t',rfl⟩:=ry; exact PySem.EqMixed.eq_str_int (vo I q (by simp))
  |str j=>obtain⟨t',rfl⟩:=ry; exact eq_str (vo I q GK)
  |_=>exact absurd (show false=true from hs) Uv
 |byt i =>
  obtain⟨t,rfl⟩:=rx;cases y with
  |byt j=>obtain⟨t',rfl⟩:=ry; exact W.eq_bytes (vo I q GM)
  |_=>exact absurd (show false=true from hs) Uv
 |_=>cases y<;>exact absurd (show false=true from hs) Uv
theorem j3:OpR X (compareOp .NotEq) rNe:=by
 intro pins s σ H x y v u Q I rx ry h;obtain⟨hs,q⟩:=h;cases x with
 |non =>
  cases rx;cases y with
  |non=>cases ry; exact PySem.EqNone.ne_none_none (vo I q (by simp))
  |bl j=>cases ry; exact PySem.EqNone.ne_none_bool (vo I q (by simp))
  |int j=>obtain⟨t',rfl⟩:=ry; exact PySem.EqNone.ne_none_int (vo I q (by simp))
  |str j=>obtain⟨t',rfl⟩:=ry; exact PySem.EqNone.ne_none_str (vo I q (by simp))
  |_=>exact absurd (show false=true from hs) Uv
 |bl i =>
  cases rx;cases y with
  |non=>cases ry; exact PySem.EqNone.ne_bool_none (vo I q (by simp))
  |bl j=>cases ry; exact ne_bool (vo I q (congrArg not dec_bl))
  |str j=>obtain⟨t',rfl⟩:=ry; exact PySem.EqMixed.ne_bool_str (vo I q (by simp))
  |_=>exact absurd (show false=true from hs) Uv
 |int i =>
  obtain⟨t,rfl⟩:=rx;cases y with
  |non=>cases ry; exact PySem.EqNone.ne_int_none (vo I q (by simp))
  |int j=>obtain⟨t',rfl⟩:=ry; exact ne_int (vo I q (congrArg not GL))
  |str j=>obtain⟨t',rfl⟩:=ry; exact PySem.EqMixed.ne_int_str (vo I q (by simp))
  |_=>exact absurd (show false=true from hs) Uv
 |str i =>
  obtain⟨t,rfl⟩:=rx;cases y with
  |non=>cases ry; exact PySem.EqNone.ne_str_none (vo I q (by simp))
  |bl j=>cases ry; exact PySem.EqMixed.ne_str_bool (vo I q (by simp))
  |int j=>obtain⟨t',rfl⟩:=ry; exact PySem.EqMixed.ne_str_int (vo I q (by simp))
  |str j=>obtain⟨t',rfl⟩:=ry; exact ne_str (vo I q (congrArg not GK))
  |_=>exact absurd (show false=true from hs) Uv
 |byt i =>
  obtain⟨t,rfl⟩:=rx;cases y with
  |byt j=>obtain⟨t',rfl⟩:=ry; exact W.ne_bytes (vo I q (congrArg not GM))
  |_=>exact absurd (show false=true from hs) Uv
 |_=>cases y<;>exact absurd (show false=true from hs) Uv
theorem zF:OpR X (compareOp .Lt) (rI0 λi j=>.bl (decide (i<j))):=opB0 λ_ _ _ _ _ _ _ q=>lt_int q
theorem j4:OpR X (compareOp .LtE) (rI0 λi j=>.bl (decide (i<=j))):=opB0 λ_ _ _ _ _ _ _ q=>le_int q
theorem X5:OpR X (compareOp .Gt) (rI0 λi j=>.bl (decide (j<i))):=opB0 λ_ _ _ _ _ _ _ q=>gt_int q
theorem ZN:OpR X (compareOp .GtE) (rI0 λi j=>.bl (decide (j<=i))):=opB0 λ_ _ _ _ _ _ _ q=>ge_int q
theorem Q5:OpR X (compareOp .Is) (λx y H Q=>y=.non/\Q (.bl (decide (x=.non))) H):=by
 intro pins s σ H x y v u Q I rx ry h;obtain⟨rfl,q⟩:=h;cases ry;refine is_none_gen (vo I q ?_);cases x<;>first
  | (cases rx; rfl)
  | (obtain⟨t,rfl⟩:=rx; rfl)
theorem Qj:OpR X (compareOp .IsNot) (λx y H Q=>y=.non/\Q (.bl (!decide (x=.non))) H):=by
 intro pins s σ H x y v u Q I rx ry h;obtain⟨rfl,q⟩:=h;cases ry;refine isnot_none_gen (vo I q ?_);cases x<;>first
  | (cases rx; rfl)
  | (obtain⟨t,rfl⟩:=rx; rfl)
theorem qB(b:Expr)(h:op ≠ .In:=by decide)(h2:op ≠ .NotIn:=by decide):behindInMarks op b=false:=by
 have e1:(op==CmpOp.In)=false:=by cases op<;>first|rfl|exact absurd rfl h
 have e2:(op==CmpOp.NotIn)=false:=by cases op<;>first|rfl|exact absurd rfl h2
 cases b<;>simp[behindInMarks,e1,e2]
def k7(t:TE):TT:=λσ H Q=>t σ H λx H'=>∃k,x=.bl k/\Q k H'
def xV(r r':R2)(ta tb tc:TE):TE:=λσ H Q=>ta σ H λx H1=>tb σ H1 λy H2=>r x y H2 λz H3=>∃k,z=.bl k /\
 (if k=true then tc σ H3 λw' H4=>r' y w' H4 Q else Q (.bl false) H3)
def TruV(Ξ:PySem.W.Frag)(x:V)(H:Hp)(k:Bool):Prop :=
 match x with
 |.non=>k=false
 |.bl b=>k=b
 |.int i=>k=(i != 0)
 |.str y=>y.length<=sizeLine/\k=((y.length:Int) != 0)
 |.byt y=>y.size<=sizeLine/\k=((y.size:Int) != 0)
 |.ref p=>(∃xs,SqL Ξ H p xs/\k = !xs.isEmpty)\/(∃xs,SqT Ξ H p xs/\k = !xs.isEmpty)\/∃kvs,H p=some (.dK kvs)/\k = !kvs.isEmpty
 |_=>False
theorem Yk{κ:Type}{kvs:List (κ×V)}{vs:List (κ×Value)}(r:KV kvs vs):(!vs.isEmpty) = !kvs.isEmpty:=by
 cases r<;>rfl
theorem Q7(r:Vals xs its):(!its.toArray.isEmpty) = !xs.isEmpty:=by
 cases r<;>simp
theorem Z5:(sizeLine:Nat)<2^63:=by rw[sizeLine_eq]; decide
theorem tru_ok:TruR X (λx H Q=>∃k,TruV X.K x H k/\Q k H):=by
 intro pins s σ H x v Q I rx h;obtain⟨k,e,q⟩:=h;have hl:=Z5;have hs:sizeLine=16777216:=sizeLine_eq;cases x with
 |non =>
  cases rx;have e':k=false:=e;subst e';exact truthy_none ⟨H,I,q⟩
 |bl b =>
  cases rx;have e':k=b:=e;subst e';exact wpAny_truthy_bool ⟨H,I,q⟩
 |int i =>
  obtain⟨t,rfl⟩:=rx;have e':k=(i != 0):=e;subst e';exact PySem.P.truthy_int ⟨H,I,q⟩
 |str y =>
  obtain⟨t,rfl⟩:=rx;obtain⟨hy,e'⟩:y.length<=sizeLine/\k=((y.length:Int) != 0):=e;subst e';exact PySem.P.truthy_str (by lia) ⟨H,I.tok _,q⟩
 |byt y =>
  obtain⟨t,rfl⟩:=rx;obtain⟨hy,e'⟩:y.size<=sizeLine/\k=((y.size:Int) != 0):=e;subst e';exact W.truthy_bytes (by lia) ⟨H,I.tok _,q⟩
 |ref p =>
  cases rx;have e':(∃xs,SqL X.K H p xs/\k = !xs.isEmpty)\/(∃xs,SqT X.K H p xs/\k = !xs.isEmpty)\/∃kvs,H p=some (.dK kvs)/\k = !kvs.isEmpty:=e;rcases e' with⟨xs,hx,e'⟩|⟨xs,hx,e'⟩|⟨kvs,hx,e'⟩
  ·subst e'
   obtain⟨its,r,pl,hz⟩:=I.list hx;have hlen:=r.length;exact wpAny_truthy_list pl.isList (by simp only[Ut]; lia) ⟨H,I.tok _,by rw[Q7 r]; exact q⟩
  ·subst e'
   obtain⟨its,r,pl,hz⟩:=I.tuple hx;have hlen:=r.length;exact truthy_tuple pl (by simp only[Ut]; lia) ⟨H,I.tok _,by rw[Q7 r]; exact q⟩
  ·subst e'
   obtain⟨hz,hS,vs,r,m⟩:kvs.length<=sizeLine/\(p==sysModules)=false/\∃vs,KV kvs vs/\s.heap.DictOf (vq X.prog X.w) p vs:=I.hok p _ hx;have hlen:kvs.length=vs.length:=Paired.length r;exact wpAny_truthy_dict hS m (by lia) ⟨H,I.tok _,by rw[Yk r]; exact q⟩
 |_=>exact(show False from e).elim
theorem pt_truth(ha:PE X a ta)(he:∀whole,isTrue a X.env whole=(do let v <-whole; standAt a.pos; holding [v] (truthy v))) :
  PT X a (λσ H Q=>ta σ H λx H'=>∃k,TruV X.K x H' k/\Q k H'):=by
 intro pins s σ H Q I h;exact isTrue_plain (thn (ha pins s σ H _ I h) λv s1 ⟨x,H1,I1,r1,q1⟩=>tru_ok pins s1 σ H1 x v Q I1 r1 q1) (he _)
theorem ky(r:Vals [x] us):∃u,us=[u]/\RelV x u:=by
 cases r with
 |cons r1 r2=>cases r2; exact⟨_,rfl,r1⟩
theorem Yt(r:Vals [x,y] us):∃u w',us=[u,w']/\RelV x u/\RelV y w':=by
 cases r with
 |cons r1 r2 =>
  cases r2 with
  |cons r3 r4=>cases r4; exact⟨_,_,rfl,r1,r3⟩
theorem call_abs:zJ X (.builtin "abs") (λxs H Q=>∃i,xs=[.int i]/\Q (.int (if i<0 then -i else i)) H):=by
 intro pins s σ H xs us Q I r h;obtain⟨i,rfl,q⟩:=h;obtain⟨u,rfl,t,rfl⟩:=ky r;exact call_abs_int λu tk=>⟨.int (if i<0 then -i else i),H,I.tok _,⟨_,rfl⟩,q⟩
theorem G5(hc:X.calm=true):zJ X (.builtin "max") (λxs H Q=>∃i j,xs=[.int i, .int j]/\Q (.int (if j>i then j else i)) H):=by
 intro pins s σ H xs us Q I r h;obtain⟨i,j,rfl,q⟩:=h;obtain⟨u,w',rfl,⟨t,rfl⟩,⟨t',rfl⟩⟩:=Yt r;refine max_two_ints (I.ok.hd hc) λh' tk k=>⟨_,H,I.kept k, ?_,q⟩;by_cases hj:j>i
 ·rw[if_pos hj,if_pos hj]; exact⟨_,rfl⟩
 ·rw[if_neg hj,if_neg hj]; exact⟨_,rfl⟩
theorem Xl(hc:X.calm=true):zJ X (.builtin "min") (λxs H Q=>∃i j,xs=[.int i, .int j]/\Q (.int (if j<i then j else i)) H):=by
 intro pins s σ H xs us Q I r h;obtain⟨i,j,rfl,q⟩:=h;obtain⟨u,w',rfl,⟨t,rfl⟩,⟨t',rfl⟩⟩:=Yt r;refine min_two_ints (I.ok.hd hc) λh' tk k=>⟨_,H,I.kept k, ?_,q⟩;by_cases hj:j<i
 ·rw[if_pos hj,if_pos hj]; exact⟨_,rfl⟩
 ·rw[if_neg hj,if_neg hj]; exact⟨_,rfl⟩
theorem Xn:zJ X (.type "int") (λxs H Q=>(∃i,xs=[.int i]/\Q (.int i) H)\/∃k,xs=[.bl k]/\Q (.int (if k then 1 else 0)) H):=by
 intro pins s σ H xs us Q I r h;rcases h with⟨i,rfl,q⟩|⟨k,rfl,q⟩
 ·obtain⟨u,rfl,t,rfl⟩:=ky r
  exact call_int_int ⟨.int i,H,I,⟨_,rfl⟩,q⟩
 ·obtain⟨u,rfl,r1⟩:=ky r
  cases r1;exact call_int_bool ⟨.int (if k then 1 else 0),H,I.tok _,⟨_,rfl⟩,q⟩
end
structure ObjM(h:Heap)(x dx C:Addr)(mA:Str->Option Value):Prop where
 obj:h.get? x=some (W.instObj C dx)
 ns:h.Ns1 dx mA
 ne:dx≠x
theorem jG{h:Heap}(n:h.Ns1 dx mA):∃od,h.get? dx=some od/\∀name,W.lookIn name od=some (mA name):=by
 obtain⟨o,es,ep,ho,hd,hk,_,hm⟩:=n;refine⟨o,ho,λname=>?_⟩;have e:=hm name;unfold nsFind findBy at e;rw[<-RV] at e;unfold W.lookIn;rw[hd];dsimp only;split
 ·rename_i y q
  rw[q] at e;exact congrArg some e
 ·rename_i q
  rw[q] at e;have a:es.toList.any (·.refKey)=false:=by
   rw[List.any_eq_false];intro y hy;obtain⟨z,t,hkey⟩:=hk y (Array.mem_toList_iff.mp hy);simp[DictEntry.refKey,hkey]
  have a':¬es.toList.any (·.refKey)=true:=by rw[a]; exact Uv
  rw[if_neg a'];exact congrArg some e
theorem ObjM.look(I:ObjM h x dx C mA):∃od,PySem.W.InstAt h x (W.instObj C dx) C (some od)/\∀name,W.lookIn name od=some (mA name) :=
 let⟨od,ho,hl⟩:=jG I.ns
 ⟨od,⟨I.obj,rfl,rfl,ho⟩,hl⟩
section
theorem set_map(X:Ξ.In s.heap)(I:ObjM s.heap x dx C mA)(hs:W.findIn Ξ (.ref C) "__setattr__" = some (some (.builtin "object.__setattr__")))(hp:W.plainOver Ξ C=true)(ht:W.takerIn Ξ C name=some none)(hh:W.hasDictIn Ξ C=true)(hw:PySem.Within mA ns)(hsz:ns.length<=sizeLine)(h:∀h',ObjM h' x dx C (λy=>if y=name then some v else mA y)->Heap.SameBut dx s.heap h'->Q () { s with heap:=h',toks:=s.toks+2 }) :
  wpAny (model prog w) A (setAttr (.ref x) name v) Q E s:=by
 obtain⟨od,J,hl⟩:=I.look;refine W.set_plain X J hs (W.osa_open (s:={ s with toks:=s.toks+1 }) (r:=none) X J hp ht λb=>?_);obtain⟨cd,hc,hd'⟩:=W.any_some hh;have hx:s.heap.get? x=some ⟨.ref C,some dx, .plain, #[]⟩:=I.obj;refine wpAny_bind (wpAny_pure (wpAny_bind (wpAny_bind (wpAny_loadPart hx (wpAny_bind (PySem.W.Looks.here (s:={ s with toks:=s.toks+1 }) (W.looks_clsIn X hc) ?_))))));rw[hd'];refine wpAny_pure (a:=some dx) (wpAny_bind (wpAny_pure (wpAny_bind ?_)));refine wpAny_nsSet1 (s:={ s with toks:=s.toks+1 }) I.ns λh' hn2 hs2=>?_;obtain⟨oD,esD,epD,hoD,hdD,hcD⟩:=hn2.count (PySem.Within.cons name v hw);refine wpAny_bind (wpAny_lookBehind hoD (by rw[hdD]; exact pastItsLine_dict (UY hcD (by rw[Ur]; lia))) ?_);exact wpAny_pure (h _ ⟨(hs2.2 _ (Ne.symm I.ne)).trans I.obj,hn2,I.ne⟩ hs2)
theorem make_map(X:Ξ.In s.heap)(hm:W.makesIn Ξ C=true)(hi:W.findIn Ξ (.ref C) "__init__" = some (some (.ref f)))(hf:W.typeIn Ξ (.ref f)=some (.type "function"))(h:codeAny (model prog w) (A.under (.builtin "type.__call__" ⟨.ref C::vs,kw⟩)) (.call (.ref f) ⟨.ref (s.heap.objs.size+1)::vs,kw⟩) (PySem.W.InitBack (s.heap.objs.size+1) R)
   { s with heap:=(s.heap.push W.emptyDict).push (W.instObj C s.heap.objs.size) }) :
  codeAny (model prog w) A (.call (.ref C) ⟨vs,kw⟩) R s:=by
 obtain⟨hh,g,d,t,os⟩:=s;exact W.make_core (W.makes_of X hm) (W.looks_findIn X hi) (λself=>W.bind_fn X self hf) (.inl rfl) h
end
def putF(f:Str)(v:V):List (Str×V)->List (Str×V)
 | []=>[(f,v)]
 | (g,x)::r=>if g=f then(g,v)::r else(g,x)::putF f v r
theorem Qn(f g:Str)(v:V):∀fs:List (Str×V),(putF f v fs).lookup g=if g=f then some v else fs.lookup g
 | []=>by
  show List.lookup g [(f,v)]=_;by_cases h:g=f
  ·have hb:(g==f)=true:=beq_iff_eq.mpr h
   simp only[List.lookup,hb,if_pos h]
  ·have hb:(g==f)=false:=beq_eq_false_iff_ne.mpr h
   simp only[List.lookup,hb,if_neg h]
 | (k,x)::r=>by
  have ih:=Qn f g v r;rw[show putF f v ((k,x)::r)=(if k=f then(k,v)::r else(k,x)::putF f v r) from rfl];by_cases hk:k=f
  ·rw[if_pos hk]
   by_cases h:g=k
   ·have hb:(g==k)=true:=beq_iff_eq.mpr h
    simp only[List.lookup,hb,if_pos (h.trans hk)]
   ·have hb:(g==k)=false:=beq_eq_false_iff_ne.mpr h
    simp only[List.lookup,hb,if_neg (λe:g=f=>h (e.trans hk.symm))]
  ·rw[if_neg hk]
   by_cases h:g=k
   ·have hb:(g==k)=true:=beq_iff_eq.mpr h
    simp only[List.lookup,hb,if_neg (λe:g=f=>hk (h.symm.trans e))]
   ·have hb:(g==k)=false:=beq_eq_false_iff_ne.mpr h
    simp only[List.lookup,hb];exact ih
theorem Qq(f:Str)(v:V):∀fs:List (Str×V),f∈(putF f v fs).map (·.1)/\∀g,g∈fs.map (·.1)->g∈(putF f v fs).map (·.1)
 | []=>⟨by simp[putF],λg h=>by simp at h⟩
 | (k,x)::r=>by
  obtain⟨i1,i2⟩:=Qq f v r;rw[show putF f v ((k,x)::r)=(if k=f then(k,v)::r else(k,x)::putF f v r) from rfl];by_cases hk:k=f
  ·rw[if_pos hk]
   subst hk;exact⟨by simp,λg h=>by simpa using h⟩
  ·rw[if_neg hk]
   refine⟨?_,λg h=>?_⟩
   ·rw[UQ]
    exact UV _ i1
   ·rw[UQ] at h ⊢
    rcases Uw.mp h with e|e
    ·exact Uw.mpr (.inl e)
    ·exact UV _ (i2 g e)
theorem Qo(f:Str)(v:V):∀fs:List (Str×V),(putF f v fs).length<=fs.length+1
 | []=>by simp[putF]
 | (k,x)::r=>by
  have ih:=Qo f v r;rw[show putF f v ((k,x)::r)=(if k=f then(k,v)::r else(k,x)::putF f v r) from rfl];by_cases hk:k=f
  ·rw[if_pos hk,Ur,Ur]; lia
  ·rw[if_neg hk,Ur,Ur]; lia
theorem RelO.some_of(r:RelO (some v) o):∃u,o=some u/\RelV v u:=by
 cases o with
 |none=>exact(show False from r).elim
 |some u=>exact⟨u,rfl,r⟩
theorem RelO.none_of(r:RelO none o):o=none:=by
 cases o with
 |none=>rfl
 |some u=>exact(show False from r).elim
section
theorem Gj(hok:HOk P w H h)(e:H a=some (.ins C dx fs)):∃mA,ObjM h a dx C mA/\(∀f,RelO (fs.lookup f) (mA f))/\PySem.Within mA (fs.map (·.1))/\fs.length<=1000/\H dx=some (.own a):=by
 obtain⟨d,z,ne,ob,mA,n,r,q⟩:=(show ObjOk P w H h a (.ins C dx fs) from hok a _ e);exact⟨mA,⟨ob,n,ne⟩,r,q,z,d⟩
end
structure Cls(Ξ:PySem.W.Frag)(C:Addr):Prop where
 pg:W.plainGet Ξ C Str.empty=true
 hd:W.hasDictIn Ξ C=true
 po:W.plainOver Ξ C=true
 sa:W.findIn Ξ (.ref C) "__setattr__" = some (some (.builtin "object.__setattr__"))
theorem Cls.get(c:Cls Ξ C)(f:Str):W.plainGet Ξ C f=true:=c.pg
def NoAttr(Ξ:PySem.W.Frag)(C:Addr)(f:Str):Prop:=W.findIn Ξ (.ref C) f=some none
theorem NoAttr.taker(n:NoAttr Ξ C f):W.takerIn Ξ C f=some none:=by
 unfold W.takerIn;rw[show W.findIn Ξ (.ref C) f=some none from n];rfl
section
theorem KL(I:Inv X pins σ H s)(e:H a=some (.ins C dx fs))(c:Cls X.K C)(n:NoAttr X.K C f)(hl:fs.length<1000)(ry:RelV y u)(h:∀s',Inv X pins σ (upd H a (.ins C dx (putF f y fs))) s'->Q () s'):wpAny (model X.prog X.w) A (setAttr (.ref a) f u) Q E s:=by
 obtain⟨mA,O,r,wi,_,ho⟩:=Gj I.hok e;have hz:(fs.map (·.1)).length<=sizeLine:=by rw[Ul,sizeLine_eq]; lia
 refine set_map I.kIn O c.sa c.po n.taker c.hd wi hz λh' O' sb=>h _ ?_;have hd:∃o,h'.get? dx=some o:=let⟨o,_,_,e',_⟩:=O'.ns; ⟨o,e'⟩;refine I.write (x:=a) (e:=dx) (by rw[e]; exact True.intro) (.inr ho) (λb q hb z=>(sb.2 b hb).trans z) hd ?_;refine⟨by rw[upd_ne O.ne]; exact ho, ?_,O.ne,O'.obj,_,O'.ns,λg=>?_,λg hg=>?_⟩
 ·have:=Qo f y fs; lia
 ·show RelO ((putF f y fs).lookup g) (if g=f then some u else mA g)
  rw[Qn];by_cases q:g=f
  ·rw[if_pos q,if_pos q]; exact ry
  ·rw[if_neg q,if_neg q]; exact r g
 ·by_cases q:g=f
  ·rw[q]; exact(Qq f y fs).1
  ·refine(Qq f y fs).2 g (wi g λz=>hg ?_)
   show(if g=f then some u else mA g)=none;rw[if_neg q]; exact z
theorem Inv.made(I:Inv X pins σ H s):Inv X pins σ (upd (upd H s.heap.objs.size (.own (s.heap.objs.size+1))) (s.heap.objs.size+1) (.ins C s.heap.objs.size []))
  { s with heap:=(s.heap.push W.emptyDict).push (W.instObj C s.heap.objs.size) }:=by
 have e1:(s.heap.push W.emptyDict).get? s.heap.objs.size=some W.emptyDict:=Heap.get?_push_size s.heap rfl;have e2:((s.heap.push W.emptyDict).push (W.instObj C s.heap.objs.size)).get? (s.heap.objs.size+1)=some (W.instObj C s.heap.objs.size):=by
  have:=Heap.get?_push_size (s.heap.push W.emptyDict) (o:=W.instObj C s.heap.objs.size) rfl;rwa [Heap.size_push] at this
 have e3:(s.heap.push W.emptyDict).Ns s.heap.objs.size (λ_=>none):=⟨W.emptyDict, #[],_,e1,rfl,(λe he=>absurd he (by simp)),λ_=>rfl⟩;have I1:=I.laid (a:=s.heap.objs.size) (o:=.own (s.heap.objs.size+1)) (h':=s.heap.push W.emptyDict) (t':=s.toks) (λb u q=>Heap.get?_push_of_some _ q) (Up _) ⟨_,e1⟩;refine I1.laid (a:=s.heap.objs.size+1) (o:=.ins C s.heap.objs.size []) (t':=s.toks) (λb u q=>Heap.get?_push_of_some _ q) (D2 (Heap.size_push _ _)) ?_;have ne:s.heap.objs.size≠s.heap.objs.size+1:=UJ (Rq _);refine⟨by rw[upd_ne ne,upd_same],U4 _,ne,e2,λ_=>none,(Heap.Ns1.of_empty e3).at λo q=>Heap.get?_push_of_some _ q,λ_=>True.intro,λy hy=>absurd rfl hy⟩
theorem qaa(hb:attributeBase e f env (eval e env)=eval e env)(h:wpAny (model prog w) A (eval e env) (λo s₁=>wpAny (model prog w) A (getAttr o f true) Q E s₁) E s):wpAny (model prog w) A (eval (.Attribute e f pos) env) Q E s :=
 Attribute_any_ h (by rw[arm_eval_Attribute,hb])
end
def sFld(Ξ:PySem.W.Frag)(ta tv:TE)(f:Str):TS:=λD σ H=>tv σ H λy H1=>ta σ H1 λx H2=>∃a C dx fs,x=.ref a/\H2 a=some (.ins C dx fs)/\Cls Ξ C/\NoAttr Ξ C f/\fs.length<1000 /\
 D.nx σ (upd H2 a (.ins C dx (putF f y fs)))
section
end
section
variable {X:Cx} {pins:List (Addr×Obj)} {σ:St} {H:Hp} {s:Shared} {A:Around} {E:Value->Shared->Prop} {Q:Value->Shared->Prop} {c:Value} {b:Bool}
inductive TyOf(Ξ:PySem.W.Frag)(H:Hp):V->Value->Prop where
 |non:TyOf Ξ H .non (.type "NoneType")
 |bl (x:Bool):TyOf Ξ H (.bl x) (.type "bool")
 |int (i:Int):TyOf Ξ H (.int i) (.type "int")
 |str (x:Str):TyOf Ξ H (.str x) (.type "str")
 |flt (x:UInt64):TyOf Ξ H (.flt x) (.type "float")
 |lst {a:Addr} {xs:List V} (e:H a=some (.lst xs)):TyOf Ξ H (.ref a) (.type "list")
 |frz {a:Addr} {o:Obj} {xs:List V} (e:H a=some (.frz o (.lst xs))):TyOf Ξ H (.ref a) (.type "list")
 |tup {a:Addr} {xs:List V} (e:H a=some (.tup xs)):TyOf Ξ H (.ref a) (.type "tuple")
 |dK {a:Addr} {kvs:List (Key×V)} (e:H a=some (.dK kvs)):TyOf Ξ H (.ref a) (.type "dict")
 |dT {a:Addr} {kvs:List (List Key×V)} (e:H a=some (.dT kvs)):TyOf Ξ H (.ref a) (.type "dict")
 |ins {a C dx:Addr} {fs:List (Str×V)} (e:H a=some (.ins C dx fs)) (cl:Cls Ξ C) (ha:W.findIn Ξ (.ref C) "__class__" = some (some (.builtin "object.__class__")))
   (hn:W.specialIn Ξ (.builtin "object.__class__") "__get__" = some (some (.builtin "getset_descriptor.__get__"))) (htk:W.takesIn Ξ (.builtin "object.__class__")=some true)
   (hm:W.mroIn Ξ C (.type "object")=some true):TyOf Ξ H (.ref a) (.ref C)
theorem Gg(I:Inv X pins σ H s)(rx:RelV x u)(ty:TyOf X.K H x t)(e:W.kitOne X.K t c=some b)(h:∀tk,Q (.bool b) { s with toks:=tk }) :
  wpAny (model X.prog X.w) A (call (.builtin "isinstance") [u,c]) Q E s:=by
 cases ty with
 |non=>cases(show u=Value.none from rx); exact U9 W.kitx_none I.kIn True.intro e (λz=>nomatch z) h
 |bl y=>cases(show u=Value.bool y from rx); exact U9 W.kitx_bool I.kIn True.intro e (λz=>nomatch z) h
 |int i=>obtain⟨t,q⟩:=(show ∃t,u=Value.int i t from rx); cases q; exact U9 W.kitx_int I.kIn True.intro e (λz=>nomatch z) h
 |str y=>obtain⟨t,q⟩:=(show ∃t,u=Value.str y t from rx); cases q; exact U9 W.kitx_str I.kIn True.intro e (λz=>nomatch z) h
 |flt y=>obtain⟨t,q⟩:=(show ∃t,u=Value.float y t from rx); cases q; exact U9 RW I.kIn True.intro e (λz=>nomatch z) h
 | @lst a xs ea =>
  cases(show u=Value.ref a from rx);obtain⟨_,_,n,_,h1⟩:=(show ObjOk X.prog X.w H s.heap a (.lst xs) from I.hok a _ ea);exact U9 DX I.kIn ⟨_,h1,rfl⟩ e (λz=>nomatch z) h
 | @frz a ob xs ea =>
  cases(show u=Value.ref a from rx);obtain⟨_,_,_,n,_,h1⟩:=(show ObjOk X.prog X.w H s.heap a (.frz ob (.lst xs)) from I.hok a _ ea);exact U9 DX I.kIn ⟨_,h1,rfl⟩ e (λz=>nomatch z) h
 | @tup a xs ea =>
  cases(show u=Value.ref a from rx);obtain⟨_,_,_,p⟩:=(show ObjOk X.prog X.w H s.heap a (.tup xs) from I.hok a _ ea);obtain⟨o,h1,h2,_⟩:=p;exact U9 RX I.kIn ⟨o,h1,h2⟩ e (λz=>nomatch z) h
 | @dK a kvs ea =>
  cases(show u=Value.ref a from rx);obtain⟨_,_,vs,_,p⟩:=(show ObjOk X.prog X.w H s.heap a (.dK kvs) from I.hok a _ ea);obtain⟨o,es,ep,h1,h2,_⟩:=p;exact U9 DY I.kIn ⟨o,h1,h2.1⟩ e (λz=>nomatch z) h
 | @dT a kvs ea =>
  cases(show u=Value.ref a from rx);obtain⟨_,_,xs,_,o,es,ep,h1,h2,_⟩:=(show ObjOk X.prog X.w H s.heap a (.dT kvs) from I.hok a _ ea);exact U9 DY I.kIn ⟨o,h1,h2.1⟩ e (λz=>nomatch z) h
 | @ins a C dx fs ea cl ha hn htk hm =>
  cases(show u=Value.ref a from rx);obtain⟨mA,O,_⟩:=Gj I.hok ea;obtain⟨od,J,_⟩:=O.look;exact U9 (W.kitx_own (cl.get _) cl.hd ha hn htk hm) I.kIn J e (λz=>nomatch z) h
end
structure Room(k:Nat)(A:Around):Prop where
 hd:A.handled=none
 dp:A.depth+3*k+5<recursionLimit
 un:A.units+16*k+200<cLine
 gd:A.guards=some []
theorem Room.mono(r:Room k A)(h:j<=k):Room j A:=⟨r.hd,by have:=r.dp; lia,by have:=r.un; lia,r.gd⟩
theorem Room.deeper(r:Room (k+1) A)(env:Env):Room k (A.deeper env) :=
 ⟨r.hd,by have:=r.dp; show A.depth+1+3*k+5<_; lia,by have:=r.un; show A.units+3+16*k+200<_; lia,r.gd⟩
theorem Yg{A:Around}:(A.under (.builtin "type.__call__" ⟨.ref C::us,kw⟩)).depth=A.depth+1:=by
 first|rfl|simp[Around.under,Code.weight,Code.isCreation,Code.isGuard,Code.isCaller,Code.frames,Code.isFrame,guardIds]
theorem Ye{A:Around}:(A.under (.builtin "type.__call__" ⟨.ref C::us,kw⟩)).units=A.units+1:=by
 first|rfl|simp[Around.under,Code.cUnits,Code.frames,Code.isFrame]
theorem make_guards{A:Around}:(A.under (.builtin "type.__call__" ⟨.ref C::us,kw⟩)).guards=A.guards:=by
 first|rfl|simp[Around.under,Code.guards,Code.isGuard,guardIds,pushGuards]
theorem Room.make(r:Room (k+1) A)(C:Addr)(us:List Value)(kw:List (Str×Value)):Room k (A.under (.builtin "type.__call__" ⟨.ref C::us,kw⟩)) :=
 ⟨r.hd,by have:=r.dp; rw[Yg]; lia,by have:=r.un; rw[Ye]; lia,make_guards.trans r.gd⟩
theorem Room.depth(r:Room k A):A.depth<recursionLimit:=by have:=r.dp; lia
theorem Room.units(r:Room k A):A.units+64<cLine:=by have:=r.un; lia
def tNil:TA:=λ_ H Q=>Q [] H
def zK(ta:TE)(tr:TA):TA:=λσ H Q=>ta σ H λx H1=>tr σ H1 λxs H2=>Q (x::xs) H2
section
theorem pa_nil:PA X [] tNil:=λ_ _ _ _ H Q I h=>Calls.spliced_nil ⟨[],H,I, .nil,h⟩
theorem Wm(ha:PE X e te)(hr:PA X es t)(hs:starEach (e::es) X.env=(false,eval e X.env)::starEach es X.env:=by rfl):PA X (e::es) (zK te t):=by
 intro pos pins s σ H Q I h;rw[hs];show wpAny _ _ (spliced ((false,eval e X.env)::backTo pos (starEach es X.env))) _ _ s;refine Calls.spliced_cons (thn (ha pins s σ H _ I h) λu s1 ⟨x,H1,I1,r1,q1⟩=>?_);exact thn (hr pos pins s1 σ H1 _ I1 q1) λus s2 ⟨xs,H2,I2,r2,q2⟩=>⟨x::xs,H2,I2, .cons r1 r2,q2⟩
def tTup(t:TA):TE:=λσ H Q=>t σ H λxs H1=>xs.length<=sizeLine/\∀p,H1 p=none->Q (.ref p) (upd H1 p (.tup xs))
def tLst(t:TA):TE:=λσ H Q=>t σ H λxs H1=>xs.length<=sizeLine/\∀p,H1 p=none->Q (.ref p) (upd H1 p (.lst xs))
end
abbrev Sp:=List V->Hp->VK->XK->Prop
abbrev CXT:=List Env->Hp->Shared->XK->Value->Shared->Prop
structure Env0(P:Program)(w:World)(Ξ:PySem.W.Frag)(mg:Str->Option Value)(base:Heap)(A:Around)(outer:List Env)(s:Shared)(H:Hp):Prop where
 frames:A.frames=some outer
 mod:Mod Ξ mg base
 bs:∀b o,base.get? b=some o->s.heap.get? b=some o/\H b=none
 bsz:base.objs.size<=s.heap.objs.size
 funs:s.heap.FunFrames base outer
 frf:∀b∈frs outer,H b=none
 hok:HOk P w H s.heap
 bare:AllBare s.gens
def CE(outer:List Env)(P:Program)(w:World)(H:Hp)(s:Shared)(Q:VK)(u:Value)(s':Shared):Prop :=
 ∃v H',s'.os=s.os/\AllBare s'.gens/\Un (frs outer) [] H H' s.heap s'.heap/\HOk P w H' s'.heap/\RelV v u/\Q v H'
def CR(CX:CXT)(outer:List Env)(P:Program)(w:World)(H:Hp)(s:Shared)(Q:VK)(E:XK)(r:Result)(s':Shared):Prop :=
 match r with
 |.ok (.ret u)=>CE outer P w H s Q u s'
 |.ok _=>False
 |.error e=>CX outer H s E e s'
structure FnOk(P:Program)(w:World)(Ξ:PySem.W.Frag)(mg:Str->Option Value)(base:Heap)(CX:CXT)(k:Nat)(f:Addr)(fd:FuncData)(ps:List Str)(sp:Sp):Prop where
 len:∀vs H Q E,sp vs H Q E->vs.length=ps.length
 run:∀(A:Around)(outer:List Env)(s:Shared)(H:Hp)(args:Args)(us:List Value)(vs:List V)(Q:VK)(E:XK),Room k A->Env0 P w Ξ mg base A outer s H->BindsTo s fd args (ps.zip us)->Vals vs us->sp vs H Q E ->
  codeAny (model P w) A (.call (.ref f) args) (CR CX outer P w H s Q E) s
theorem FnOk.mono(F:FnOk P w Ξ mg base CX j f fd ps sp)(h:j<=k) :
  FnOk P w Ξ mg base CX k f fd ps sp:=⟨F.len,λA outer s H args us vs Q E hr=>F.run A outer s H args us vs Q E (hr.mono h)⟩
theorem FnOk.imp(F:FnOk P w Ξ mg base CX k f fd ps sp)(h:∀vs H Q E,sp' vs H Q E->sp vs H Q E):FnOk P w Ξ mg base CX k f fd ps sp' :=
 ⟨λvs H Q E q=>F.len vs H Q E (h _ _ _ _ q),λA outer s H args us vs Q E hr he hb hv hs=>F.run A outer s H args us vs Q E hr he hb hv (h _ _ _ _ hs)⟩
theorem Env0.make(e:Env0 P w Ξ mg base A outer s H)(C:Addr)(us:List Value)(kw:List (Str×Value)) :
  Env0 P w Ξ mg base (A.under (.builtin "type.__call__" ⟨.ref C::us,kw⟩)) outer s H:=⟨by first|exact e.frames|(simpa[Around.under,Code.envs,Code.isFrame,pushEnvs] using e.frames),e.mod,e.bs,e.bsz,e.funs,e.frf,e.hok,e.bare⟩
section
theorem Inv.env0(I:Inv X pins σ H s):Env0 X.prog X.w X.K X.mg X.base X.A X.stack s H :=
 ⟨I.ok.frames,I.ok.mod,I.bs,UY I.ok.bsz I.sz,I.stack,I.stkFree,I.hok,I.bare⟩
theorem Inv.after(I:Inv X pins σ H s)(h:CE X.stack X.prog X.w H s Q u s'):EP X pins σ Q u s':=by
 obtain⟨v,H',os,bare,un,hok,r,q⟩:=h;obtain⟨hh,g,d,t,os'⟩:=s';obtain rfl:os'=s.os:=os;exact⟨v,H',I.call (h':=hh) (g':=g) (d':=d) (t':=t) (ch:=[]) un hok bare (λb z=>absurd z (by simp)),r,q⟩
end
def jQ(sp:Sp)(dvs:List V)(E:XK)(t:TA):TE:=λσ H Q=>t σ H λvs H1=>sp (vs++dvs) H1 Q E
def tMake(C:Addr)(sp:Sp)(dvs:List V)(E:XK)(t:TA):TE:=λσ H Q=>t σ H λvs H1=>∀x dx,H1 x=none->H1 dx=none->dx≠x ->
 sp (.ref x::(vs++dvs)) (upd (upd H1 dx (.own x)) x (.ins C dx [])) (λv H2=>v=.non/\Q (.ref x) H2) E
def Binds(Ξ:PySem.W.Frag)(fd:FuncData)(ps:List Str)(ds:List Value):Prop :=
 ∀(s:Shared)(us:List Value),Ξ.In s.heap->(us++ds).length=ps.length->BindsTo s fd ⟨us, []⟩ (ps.zip (us++ds))
theorem Binds.all(h:∀us:List Value,us.length=ps.length->bindArgs fd ⟨us, []⟩=pure (ps.zip us)):Binds Ξ fd ps []:=λs us _ hl=>by
 rw[U0] at hl ⊢;exact .of_eq (h us hl)
def Xs(CX:CXT)(X:Cx)(E:XK):Prop:=∀(pins:List (Addr×Obj))(σ:St)(H:Hp)(s:Shared)(e:Value)(s':Shared),Inv X pins σ H s->CX X.stack H s E e s'->X.xe e s'
section
variable {X:Cx} {CX:CXT} {k:Nat} {f C:Addr} {fd:FuncData} {ps:List Str} {sp:Sp} {dvs:List V} {ds:List Value} {E:XK} {x:Str} {p pos:Pos} {e:Expr} {es:List Expr} {t:TA}
theorem run_fn(F:FnOk X.prog X.w X.K X.mg X.base CX k f fd ps sp)(hr:Room k X.A)(hb:Binds X.K fd ps ds)(hd:Vals dvs ds)(hx:Xs CX X E)(I:Inv X pins σ H s)(r:Vals vs us)(h:sp (vs++dvs) H Q E):wpAny (model X.prog X.w) X.A (call (.ref f) us) (EP X pins σ Q) X.xe s:=by
 have r2:Vals (vs++dvs) (us++ds):=r.append hd;have hl:(us++ds).length=ps.length:=by rw[<-r2.length]; exact F.len _ _ _ _ h
 refine wpAny_call (codeAny_mono (F.run X.A X.stack s H ⟨us, []⟩ (us++ds) (vs++dvs) Q E hr I.env0 (hb s us I.kIn hl) r2 h) λr s' hq=>?_);cases r with
 |error e=>exact hx pins σ H s e s' I hq
 |ok fl =>
  cases fl with
  |ret u=>exact I.after hq
  |next=>exact False.elim hq
  |brk=>exact False.elim hq
  |cont=>exact False.elim hq
theorem pe_call(F:FnOk X.prog X.w X.K X.mg X.base CX k f fd ps sp)(hr:Room k X.A)(hg:Gl X x)(hm:X.mg x=some (.ref f))(hk:W.keepIn X.K (.ref f)=true)(hb:Binds X.K fd ps ds)(hd:Vals dvs ds)(hx:Xs CX X E)(ha:PA X (e::es) t)(hdb:(x==("__debug__" : Str))=false:=by decide)(he:starEach (e::es) X.env=(false,eval e X.env)::starEach es X.env:=by rfl)(hpl:(backTo pos (starEach es X.env)).any (·.1)=false:=by rfl) :
  PE X (.Call (.Name x p) (e::es) [] pos) (jQ sp dvs E t):=by
 intro pins s σ H Q I h;refine wpAny_Call_Name_kw (xz I hg hm ?_ hdb);refine Re (h₀:=X.base) I.ok.mod.kin hk (thn (ha pos pins s σ H _ I h) λus s1 ⟨vs,H1,I1,r,q⟩=>⟨I1.kIn, ?_⟩) he hpl;exact run_fn F hr hb hd hx I1 r q
structure Mk(Ξ:PySem.W.Frag)(C f:Addr):Prop where
 makes:W.makesIn Ξ C=true
 init:W.findIn Ξ (.ref C) "__init__" = some (some (.ref f))
 fn:W.isFn Ξ (.ref f)=true
 kp:W.keepIn Ξ (.ref C)=true
theorem run_make(M:Mk X.K C f)(F:FnOk X.prog X.w X.K X.mg X.base CX k f fd ps sp)(hr:Room (k+1) X.A)(hb:Binds X.K fd ps ds)(hd:Vals dvs ds)(hx:Xs CX X E)(I:Inv X pins σ H s)(r:Vals vs us)(h:∀x dx,H x=none->H dx=none->dx≠x->sp (.ref x::(vs++dvs)) (upd (upd H dx (.own x)) x (.ins C dx [])) (λv H2=>v=.non/\Q (.ref x) H2) E) :
  wpAny (model X.prog X.w) X.A (call (.ref C) us) (EP X pins σ Q) X.xe s:=by
 have hq:=h (s.heap.objs.size+1) s.heap.objs.size (I.hok.fresh (Dk _)) (I.hok.fresh (Up _)) (UJ (Rq _));have I2:=Inv.made (C:=C) I;have r2:Vals (V.ref (s.heap.objs.size+1)::(vs++dvs)) (Value.ref (s.heap.objs.size+1)::(us++ds)):=.cons rfl (r.append hd);have hl:(Value.ref (s.heap.objs.size+1)::us++ds).length=ps.length:=by
  have e:=r2.length;rw[F.len _ _ _ _ hq] at e;exact e.symm
 refine wpAny_call (make_map (f:=f) I.kIn M.makes M.init (beq_iff_eq.mp M.fn) (codeAny_mono (F.run _ X.stack _ _ ⟨Value.ref (s.heap.objs.size+1)::us, []⟩ (Value.ref (s.heap.objs.size+1)::(us++ds)) _ _ E (hr.make C us [])
  (I2.env0.make C us []) (hb _ (Value.ref (s.heap.objs.size+1)::us) I2.kIn hl) r2 hq) λr s' hq'=>?_))
 cases r with
 |error e=>exact hx pins σ _ _ e s' I2 hq'
 |ok fl =>
  cases fl with
  |ret u =>
   obtain⟨v,H',I3,rv,ev,q3⟩:=I2.after hq';subst ev;exact⟨rv,⟨V.ref (s.heap.objs.size+1),H',I3,rfl,q3⟩⟩
  |next=>exact False.elim hq'
  |brk=>exact False.elim hq'
  |cont=>exact False.elim hq'
theorem pe_make(M:Mk X.K C f)(F:FnOk X.prog X.w X.K X.mg X.base CX k f fd ps sp)(hr:Room (k+1) X.A)(hg:Gl X x)(hm:X.mg x=some (.ref C))(hb:Binds X.K fd ps ds)(hd:Vals dvs ds)(hx:Xs CX X E)(ha:PA X (e::es) t)(hdb:(x==("__debug__" : Str))=false:=by decide)(he:starEach (e::es) X.env=(false,eval e X.env)::starEach es X.env:=by rfl)(hpl:(backTo pos (starEach es X.env)).any (·.1)=false:=by rfl) :
  PE X (.Call (.Name x p) (e::es) [] pos) (tMake C sp dvs E t):=by
 intro pins s σ H Q I h;refine wpAny_Call_Name_kw (xz I hg hm ?_ hdb);refine Re (h₀:=X.base) I.ok.mod.kin M.kp (thn (ha pos pins s σ H _ I h) λus s1 ⟨vs,H1,I1,r,q⟩=>⟨I1.kIn, ?_⟩) he hpl;exact run_make M F hr hb hd hx I1 r q
end
def PK(X:Cx)(kws:List Keyword)(t:TA):Prop :=
 ∀(pos:Pos)(pins:List (Addr×Obj))(s:Shared)(σ:St)(H:Hp)(Q:List V->Hp->Prop),Inv X pins σ H s->t σ H Q->wpAny (model X.prog X.w) X.A (evalAll ((backToKw pos (keywordEach kws X.env)).map (·.2))) (AP X pins σ Q) X.xe s
section
theorem pk_nil:PK X [] tNil:=λ_ _ _ _ H Q I h=>wpAny_evalAll_nil ⟨[],H,I, .nil,h⟩
theorem pk_cons(ha:PE X e te)(hr:PK X kws t):PK X (⟨nm,e,kpos⟩::kws) (zK te t):=by
 intro pos pins s σ H Q I h;show wpAny _ _ (evalAll ((do let v <-eval e X.env; standAt pos; pure v)::(backToKw pos (keywordEach kws X.env)).map (·.2))) _ _ s;refine wpAny_evalAll_cons (wpAny_bind (thn (ha pins s σ H _ I h) λu s1 ⟨x,H1,I1,r1,q1⟩=>wpAny_bind (wpAny_standAt (wpAny_pure ?_))));exact thn (hr pos pins s1 σ H1 _ I1 q1) λus s2 ⟨xs,H2,I2,r2,q2⟩=>⟨x::xs,H2,I2, .cons r1 r2,q2⟩
end
structure FnScope(N P:List Str)(sc:Scope):Prop where
 kind:sc.kind=.function
 co:sc.isCoroutine=false
 gen:sc.isGenerator=false
 nd:N.Nodup
 pre:N.take P.length=P
 par:∀x∈P,sc.names.lookup x=some .local\/sc.names.lookup x=some .cell
 nofree:∀y∈sc.names,y.2 ≠ .free
theorem Xo{kindOf:Str->Option NameKind}:∀{binds:List (Str×Value)}{m:Str->Option Value},(∀v,(x,v)∉binds)->bindL kindOf binds m x=m x
 | [],_,_=>rfl
 | (n,v)::r,m,h=>by
  unfold bindL;rw[Xo λw hw=>h w (UV _ hw)];split
  ·have:x≠n:=by rintro rfl; exact h v UZ
   simp[this]
  ·rfl
theorem Xq{kindOf:Str->Option NameKind}:∀{binds:List (Str×Value)}{m:Str->Option Value},(∀v,(x,v)∉binds)->bindC kindOf binds m x=m x
 | [],_,_=>rfl
 | (n,v)::r,m,h=>by
  unfold bindC;rw[Xq λw hw=>h w (UV _ hw)];split
  ·rfl
  ·have:x≠n:=by rintro rfl; exact h v UZ
   simp[this]
theorem Xp{kindOf:Str->Option NameKind}:∀{P:List Str}{vs:List Value}{i:Nat}{m:Str->Option Value},P.Nodup->P[i]?=some x->vs[i]?=some v->kindOf x=some .local ->
  bindL kindOf (P.zip vs) m x=some v
 | [],_,_,_,_,h,_,_=>by simp at h
 |_::_, [],_,_,_,_,h,_=>by simp at h
 |p::P,w::vs,0,m,nd,h1,h2,hk=>by
  simp at h1 h2; subst h1; subst h2;show bindL kindOf ((p,w)::P.zip vs) m p=_;unfold bindL;rw[Xo λv hv=>(DN.mp nd).1 (Ry hv).1,if_pos hk];simp
 |p::P,w::vs,i+1,m,nd,h1,h2,hk=>by
  show bindL kindOf ((p,w)::P.zip vs) m x=_;unfold bindL;exact Xp (i:=i) (DN.mp nd).2 (by simpa using h1) (by simpa using h2) hk
theorem Xr{kindOf:Str->Option NameKind}:∀{P:List Str}{vs:List Value}{i:Nat}{m:Str->Option Value},P.Nodup->P[i]?=some x->vs[i]?=some v->kindOf x≠some .local ->
  bindC kindOf (P.zip vs) m x=some v
 | [],_,_,_,_,h,_,_=>by simp at h
 |_::_, [],_,_,_,_,h,_=>by simp at h
 |p::P,w::vs,0,m,nd,h1,h2,hk=>by
  simp at h1 h2; subst h1; subst h2;show bindC kindOf ((p,w)::P.zip vs) m p=_;unfold bindC;rw[Xq λv hv=>(DN.mp nd).1 (Ry hv).1,if_neg hk];simp
 |p::P,w::vs,i+1,m,nd,h1,h2,hk=>by
  show bindC kindOf ((p,w)::P.zip vs) m x=_;unfold bindC;exact Xr (i:=i) (DN.mp nd).2 (by simpa using h1) (by simpa using h2) hk
def start(N:List Str)(vs:List V):St:=vs.map some++List.replicate (N.length-vs.length) none
def cxOf(CX:CXT)(P:Program)(w:World)(Ξ:PySem.W.Frag)(mg:Str->Option Value)(base:Heap)(N:List Str)(qual:Str)(scope:Scope)(f:Addr)(cd:Value)(A:Around)(outer:List Env)(s:Shared)(H:Hp)(E:XK):Cx where
 prog:=P
 w:=w
 K:=Ξ
 mg:=mg
 base:=base
 A:=A.deeper (envOfC qual scope s.heap.objs.size f cd)
 N:=N
 s₀:=s
 H₀:=H
 env:=envOfC qual scope s.heap.objs.size f cd
 outer:=outer
 stack:=envOfC qual scope s.heap.objs.size f cd::outer
 ex:=[]
 calm:=true
 fn:=λ_=>true
 pn:=[]
 xe:=λe s'=>wpAny (model P w) (A.deeper (envOfC qual scope s.heap.objs.size f cd)) (leaving (envOfC qual scope s.heap.objs.size f cd) e) (λ_ s''=>CX outer H s E e s'') (λe' s''=>CX outer H s E e' s'') s'
theorem Kx{sc:Scope}(h:sc.names.lookup x=some .cell):∃c,(cellsFrom n sc.names []).lookup x=some c:=by
 have q:=Rr sc.names n [] (.inl h);exact Option.isSome_iff_exists.mp q
theorem Gi(S:FnScope N ps scope)(hd:A.handled=none)(e0:Env0 P w Ξ mg base A outer s H)(hl:vs.length=ps.length)(r:Vals vs us)(x:InCallC s s.heap.objs.size (bindL (envOfC qual scope s.heap.objs.size f cd).kindOf (ps.zip us) λ_=>none) (cellsFrom (s.heap.objs.size+1) scope.names []) (bindC (envOfC qual scope s.heap.objs.size f cd).kindOf (ps.zip us) λ_=>none) s1) :
  Inv (cxOf CX P w Ξ mg base N qual scope f cd A outer s H E) [] (start N vs) H s1:=by
 have hpl:ps.length<=N.length:=by have:=congrArg List.length S.pre; rw[U3] at this; lia
 obtain⟨h1,tk,rfl,hk⟩:=x.done;have noA:∀b:Addr,b∉(cxOf CX P w Ξ mg base N qual scope f cd A outer s H E).ex:=λb z=>absurd (show b∈([]:List Addr) from z) (by simp);refine⟨⟨e0.mod,S.kind,rfl,rfl,Up _,λy z c h1 h2=>?_,λy hy=>?_,λy c _ h=>?_,λ_=>hd,Around.frames_deeper e0.frames, .inr ⟨rfl,rfl⟩,λb z=>absurd z (noA b),e0.bs,e0.bsz,λb _ _=>noA b,λb z=>absurd z (noA b),e0.funs,e0.frf⟩,
  rfl,e0.bare,Un.kept hk,⟨_,x.toInCall.ns,λi y v h1 h2 h3=>?_⟩,λy c h=>⟨_,x.cell y c h⟩,e0.hok.fresh (Up _),λy c h=>?_,λp hp=>absurd (show p∈([]:List (Addr×Obj)) from hp) (by simp),e0.hok.kept hk, ?_⟩
 ·exact name_of_addr x.apart (PySem.mem_of_lookup h1) (PySem.mem_of_lookup h2)
 ·have hy:scope.names.lookup y=some .cell\/scope.names.lookup y=some .free:=hy
  rcases hy with hy|hy
  ·exact Kx hy
  ·exact absurd rfl (S.nofree _ (PySem.mem_of_lookup hy))
 ·exact UC (x.above y c (PySem.mem_of_lookup h))
 ·have hi:i<vs.length:=by
   unfold start at h2;by_cases hi:i<vs.length
   ·exact hi
   ·rw[Uz (by simpa using hi)] at h2
    rw[DO] at h2;split at h2<;>cases h2
  have ha:vs[i]?=some v:=by
   unfold start at h2;rw[Uo (by simpa using hi),UU] at h2;cases e:vs[i]? with
   |none=>rw[e] at h2; cases h2
   |some a=>rw[e] at h2; cases h2; rfl
  obtain⟨u,hu,rv⟩:=r.get ha;have hp:ps[i]?=some y:=by
   rw[<-S.pre,Rj (by lia)]; exact h1
  have ndP:ps.Nodup:=by rw[<-S.pre]; exact S.nd.sublist (List.take_sublist _ _)
  refine⟨u,rv, ?_⟩;rcases S.par y (Um hp) with k|k
  ·exact .inl ⟨k,Xp ndP hp hu k⟩
  ·obtain⟨c,e⟩:=Kx (n:=s.heap.objs.size+1) k
   refine .inr ⟨.inl k,c,e, ?_⟩;have q:=x.cell y c e;rw[Xr ndP hp hu (by show scope.names.lookup y≠_; rw[k]; decide)] at q;exact q
 ·exact e0.hok.fresh (UC (x.above y c (PySem.mem_of_lookup h)))
 ·unfold start
  show _=N.length;rw[Uu,Ul,Rz];lia
theorem fn_of{dV kV doc pm cdv ct oc:Value}(lk:Ξ.lookup f=some ⟨oc,od, .func (W.fnOf name qual params body scope dV kV doc pm an cdv ct),osl⟩)(hcd:W.codeIn Ξ cdv qual=true)(S:FnScope N ps scope)(len:∀vs H Q E,sp vs H Q E->vs.length=ps.length)(hbody:∀(A:Around)(outer:List Env)(s:Shared)(H:Hp)(vs:List V)(Q:VK)(E:XK),Room k (A.deeper (envOfC qual scope s.heap.objs.size f cdv))->sp vs H Q E ->
   ∃t,PSs (cxOf CX P w Ξ mg base N qual scope f cdv A outer s H E) body t/\t { nx:=λ_ H'=>Q .non H',rt:=Q } (start N vs) H) :
  FnOk P w Ξ mg base CX (k+1) f (W.fnOf name qual params body scope dV kV doc pm an cdv ct) ps sp:=by
 refine⟨len,λA outer s H args us vs Q E hr e0 hb r hsp=>?_⟩;have hl:=len _ _ _ _ hsp;have KX:Ξ.In s.heap:=e0.mod.kin.keeps λb o e=>(e0.bs b o e).1;have lim:s.heap.NoLimit:=e0.mod.nolimit.keeps λb o e=>(e0.bs b o e).1;have hkind:∀y∈ps.zip us,scope.names.lookup y.1=some .local\/(scope.names.lookup y.1=some .cell/\((cellsFrom (s.heap.objs.size+1) scope.names []).lookup y.1).isSome=true):=λ⟨n,v⟩ hy=>by
  rcases S.par n (Ry hy).1 with q|q
  ·exact .inl q
  ·exact .inr ⟨q,Rr _ _ _ (.inl q)⟩
 refine codeAny_call_function hr.depth (KX _ _ lk) rfl S.co S.gen rfl (W.codeRec_of KX hcd) (hb _ _ _ _ ?_);refine wpAny_newFunctionEnv_cells S.kind hkind λenv he s1 x=>?_;subst he;refine⟨lim.keeps x.toInCall.keep,codeAny_func ?_⟩;obtain⟨t,ht,hq⟩:=hbody A outer s H vs Q E (hr.deeper _) hsp;have I:Inv (cxOf CX P w Ξ mg base N qual scope f cdv A outer s H E) [] (start N vs) H s1:=Gi S hr.hd e0 hl r x;refine wpAny_mono (ht [] s1 (start N vs) H _ I hq) (λfl s' hs=>?_) λe s' hs=>hs;have fin:∀{σ':St}{H':Hp}{v:V}{u:Value},Inv (cxOf CX P w Ξ mg base N qual scope f cdv A outer s H E) [] σ' H' s'->RelV v u->Q v H'->CE outer P w H s Q u s' :=
  λ{σ' H' v u} J rv q=>⟨v,H',J.os,J.bare,J.base,J.hok,rv,q⟩
 cases fl with
 |ret u =>
  obtain⟨v,σ',H',J,rv,q⟩:=hs;exact fin J rv q
 |next =>
  obtain⟨σ',H',J,q⟩:=hs;exact fin (v:=V.non) (u:=Value.none) J rfl q
 |brk =>
  obtain⟨_,_,_,q⟩:=hs;exact False.elim q
 |cont =>
  obtain⟨_,_,_,q⟩:=hs;exact False.elim q
section
variable {X:Cx} {x:Str} {p pos:Pos} {e:Expr} {es:List Expr} {t:TA} {id T:String} {r:List V->Hp->VK->Prop}
def tCB(r:List V->Hp->VK->Prop)(t:TA):TE:=λσ H Q=>t σ H λvs H1=>r vs H1 Q
end
end L2
namespace HT
open PySem PyProof.Rows
section
def sIx(n d:Nat):Option Int->Nat
 |none=>d
 |some v=>if v<0 then(v+(n:Int)).toNat else min v.toNat n
theorem sIx_nat(n d k:Nat):sIx n d (some (k:Int))=min k n:=by
 show(if(k:Int)<0 then((k:Int)+(n:Int)).toNat else min (k:Int).toNat n)=min k n;rw[if_neg (by lia),DZ]
end
end HT
namespace L2
open PySem PySem.Spec PyProof.Rows
abbrev TO:=St->Hp->(Option Int->Hp->Prop)->Prop
def PO(X:Cx)(e:Option Expr)(t:TO):Prop :=
 ∀(pins:List (Addr×Obj))(s:Shared)(σ:St)(H:Hp)(Q:Option Int->Hp->Prop),Inv X pins σ H s->t σ H Q ->
  wpAny (model X.prog X.w) X.A (evalPart e X.env) (λu s'=>∃o H',Inv X pins σ H' s'/\IsPart u o/\Q o H') X.xe s
def xk:TO:=λ_ H Q=>Q none H
def Zu(t:TE):TO:=λσ H Q=>t σ H λx H1=>∃i,x=.int i/\Q (some i) H1
theorem Q8:∀{us:List Value},Vals (ns.map V.int) us->IntsAre us ns:=by
 induction ns with
 |nil=>intro us r; rw[DG] at r; cases r; exact .nil
 |cons n ns ih =>
  intro us r;rw[UQ] at r;cases r with
  |cons r1 r2 =>
   obtain⟨t,e⟩:=r1;subst e;exact .cons n t (ih r2)
section
theorem po_none:PO X none xk:=by
 intro pins s σ H Q I h;rw[evalPart_none];exact wpAny_pure ⟨none,H,I, .none,h⟩
def SlR(X:Cx)(r:V->Option Int->Option Int->Hp->VK->Prop):Prop :=
 ∀(pins:List (Addr×Obj))(s:Shared)(σ:St)(H:Hp)(x:V)(v vl vu:Value)(lo hi:Option Int)(sl:Addr)(Q:VK),Inv X pins σ H s->RelV x v->s.heap.IsSliceOf sl vl vu .none->IsPart vl lo->IsPart vu hi->r x lo hi H Q ->
  ∃T id,typeLookup (.type T) "__getitem__" = pure (some (.builtin id))/\s.TypeIs v T/\wpAny (model X.prog X.w) X.A (getItem v (.ref sl)) (EP X pins σ Q) X.xe s
def tSl(r:V->Option Int->Option Int->Hp->VK->Prop)(te:TE)(tl th:TO):TE:=λσ H Q=>te σ H λx H1=>tl σ H1 λl H2=>th σ H2 λu H3=>r x l u H3 Q
def cutV(xs:List V)(lo hi:Option Int):List V:=(xs.drop (HT.sIx xs.length 0 lo)).take (HT.sIx xs.length xs.length hi-HT.sIx xs.length 0 lo)
theorem JB(xs:List V)(lo hi:Option Int):(cutV xs lo hi).length<=xs.length:=by
 unfold cutV;rw[U3,D5];lia
end
def ixN(n:Nat)(i:Int):Option Nat:=if 0<=i then(if i<n then some i.toNat else none) else if -(n:Int)<=i then some (i+n).toNat else none
def atI{α:Type}(xs:List α)(i:Int):Option α:=(ixN xs.length i).bind λj=>xs[j]?
theorem Gd(h:ixN n i=some j):seqIndex? i n=some j/\j<n /\ -(n:Int)<=i/\i<n:=by
 unfold ixN at h;by_cases h0:0<=i
 ·rw[if_pos h0] at h
  by_cases h1:i<n
  ·rw[if_pos h1] at h
   have e:i.toNat=j:=Option.some.inj h;exact⟨by rw[seqIndex_of h0 h1,e],by lia,by lia,h1⟩
  ·rw[if_neg h1] at h; cases h
 ·rw[if_neg h0] at h
  by_cases h1 : -(n:Int)<=i
  ·rw[if_pos h1] at h
   have e:(i+n).toNat=j:=Option.some.inj h;exact⟨by rw[seqIndex_neg (by lia) h1,e],by lia,h1,by lia⟩
  ·rw[if_neg h1] at h; cases h
theorem qac{α:Type}{xs:List α}{i:Int}{v:α}(h:atI xs i=some v):∃j,seqIndex? i xs.length=some j/\xs[j]?=some v/\j<xs.length /\ -(xs.length:Int)<=i/\i<xs.length:=by
 unfold atI at h;cases e:ixN xs.length i with
 |none=>rw[e] at h; cases h
 |some j =>
  rw[e] at h;obtain⟨h1,h2,h3,h4⟩:=Gd e;exact⟨j,h1,h,h2,h3,h4⟩
theorem jv{α:Type}{xs:List α}{j:Nat}{v:α}(h:xs[j]?=some v):atI xs (j:Int)=some v:=by
 have hj:j<xs.length:=(Uj.mp h).1;have e:ixN xs.length (j:Int)=some j:=by
  unfold ixN;rw[if_pos (by lia),if_pos (by lia)]; simp
 unfold atI; rw[e]; exact h
def qah(b:Expr):Prop:=∀o i,subscripted b false o i=operate [o,i] (getItem o i)
def IxR(X:Cx)(r:R2):Prop :=
 ∀(value slice:Expr)(pins:List (Addr×Obj))(s:Shared)(σ:St)(H:Hp)(x y:V)(v u:Value)(Q:VK),Inv X pins σ H s->RelV x v->RelV y u->r x y H Q ->
  subscripted slice false v u=operate [v,u] (getItem v u)->wpAny (model X.prog X.w) X.A (subscriptTail value slice v u) (EP X pins σ Q) X.xe s
def MtR(X:Cx)(id:String)(r:V->List V->Hp->VK->Prop):Prop :=
 ∀(pins:List (Addr×Obj))(s:Shared)(σ:St)(H:Hp)(x:V)(xs:List V)(v:Value)(us:List Value)(Q:VK),Inv X pins σ H s->RelV x v->Vals xs us->r x xs H Q ->
  wpAny (model X.prog X.w) X.A (call (.builtin id) (v::us)) (EP X pins σ Q) X.xe s
section
theorem IxR.or(h:IxR X r)(h':IxR X r'):IxR X (λx y H Q=>r x y H Q\/r' x y H Q):=by
 intro value slice pins s σ H x y v u Q I rx ry q hs;rcases q with q|q
 ·exact h value slice pins s σ H x y v u Q I rx ry q hs
 ·exact h' value slice pins s σ H x y v u Q I rx ry q hs
def rIxL(Ξ:PySem.W.Frag):R2:=λx y H Q=>∃p xs i v,x=.ref p/\y=.int i/\SqL Ξ H p xs/\atI xs i=some v/\Q v H
def rIxT(Ξ:PySem.W.Frag):R2:=λx y H Q=>∃p xs i v,x=.ref p/\y=.int i/\SqT Ξ H p xs/\atI xs i=some v/\Q v H
theorem ix_list:IxR X (rIxL X.K):=by
 intro value slice pins s σ H x y v u Q I rx ry h hs;obtain⟨p,xs,i,z,rfl,rfl,hq,he,q⟩:=h;cases rx;obtain⟨t,rfl⟩:=ry;obtain⟨its,r,pl,hz⟩:=I.list hq;obtain⟨j,h1,h2,h3,h4,h5⟩:=qac he;obtain⟨w,ew,rw'⟩:=r.get h2;have hl:=r.length;have hn:=Z5;have fin:EP X pins σ Q w s:=⟨z,H,I,rw',q⟩;by_cases h0:0<=i
 ·have hj:i.toNat=j:=by
   rw[seqIndex_of h0 h5] at h1;exact Option.some.inj h1
  exact item_listR pl.isList h0 (by lia) (by rw[hj]; simpa using ew) fin hs
 ·have hj:(i+(its.toArray.size:Int)).toNat=j:=by
   rw[seqIndex_neg (by lia) h4] at h1;rw[Ut, <-hl];exact Option.some.inj h1
  exact subscriptTail_builtinR (x:=w) pl.isList.typeIs slot_list_getitem.lookup
   (wpAny_getItem_list_neg (Q:=λr s'=>r=w/\EP X pins σ Q r s') pl.isList (by lia) (by rw[Ut]<;>lia) (by lia) (by rw[hj]; simpa using ew) ⟨rfl,fin⟩) hs
theorem ix_tup:IxR X (rIxT X.K):=by
 intro value slice pins s σ H x y v u Q I rx ry h hs;obtain⟨p,xs,i,z,rfl,rfl,hq,he,q⟩:=h;cases rx;obtain⟨t,rfl⟩:=ry;obtain⟨its,r,pl,hz⟩:=I.tuple hq;obtain⟨j,h1,h2,h3,h4,h5⟩:=qac he;obtain⟨w,ew,rw'⟩:=r.get h2;have hl:=r.length;have hn:=Z5;have fin:EP X pins σ Q w s:=⟨z,H,I,rw',q⟩;exact subscriptTail_builtinR (x:=w) pl.typeIs slot_tuple_getitem.lookup
  (getItem_tuple (j:=j) (Q:=λr s'=>r=w/\EP X pins σ Q r s') pl (by lia) (by lia) (by rw[Ut, <-hl]; exact h1) (by simpa using ew) ⟨rfl,fin⟩) hs
theorem Yd(its:List Value)(n j:Nat)(u:Value):Obj.mapSeq (·.setIfInBounds j u) { cls:=.type "list", data:=.seq its.toArray n }={ cls:=.type "list", data:=.seq (its.set j u).toArray n }:=by
 simp[Obj.mapSeq]
theorem Inv.lst(I:Inv X pins σ H s)(h:H p=some (.lst xs)) :
  ∃(its:List Value)(n:Nat),Vals xs its/\s.heap.get? p=some { cls:=.type "list", data:=.seq its.toArray n }/\xs.length<=sizeLine:=by
 obtain⟨z,its,n,r,e⟩:=I.hok p _ h;exact⟨its,n,r,e,z⟩
theorem Inv.lstUpd{its its':List Value}(I:Inv X pins σ H s)(h:H p=some (.lst xs))(ho:s.heap.get? p=some { cls:=.type "list", data:=.seq its.toArray n })(hf:f { cls:=.type "list", data:=.seq its.toArray n }={ cls:=.type "list", data:=.seq its'.toArray n' })(r:Vals ys its')(hz:ys.length<=sizeLine)(t:Nat) :
  Inv X pins σ (upd H p (.lst ys)) { s with heap:=s.heap.update p f,toks:=t }:=by
 have e:(s.heap.update p f).get? p=some { cls:=.type "list", data:=.seq its'.toArray n' }:=by
  rw[Heap.get?_update_self f ho (by rw[hf]<;>rfl),hf]
 refine I.write (x:=p) (e:=p) (by rw[h]; trivial) (.inl rfl) (λb u hb q=>(Heap.get?_update_other _ _ (Ne.symm hb)).trans q) ⟨_,e⟩ ?_;exact⟨hz,its',n',r,e⟩
def rSetL:V->V->V->Hp->(Hp->Prop)->Prop:=λo i v H Q=>∃p xs k j,o=.ref p/\i=.int k/\H p=some (.lst xs)/\ixN xs.length k=some j/\Q (upd H p (.lst (xs.set j v)))
theorem zB:PSet X rSetL:=by
 intro pins s σ H o i v ov iv u Q I ro ri rv h;obtain⟨p,xs,k,j,rfl,rfl,hp,hj,q⟩:=h;cases ro;obtain⟨t,rfl⟩:=ri;obtain⟨its,n,r,ho,hz⟩:=I.lst hp;obtain⟨h1,h2,h3,h4⟩:=Gd hj;have hl:=r.length;have hn:=Z5;have I':Inv X pins σ (upd H p (.lst (xs.set j v))) { s with heap:=s.heap.update p (Obj.mapSeq (·.setIfInBounds j u)) } :=
  I.lstUpd hp ho (Yd its n j u) (r.set rv j) (by rw[UN]; exact hz) s.toks
 by_cases h0:0<=k
 ·have hk:k.toNat=j:=by
   rw[seqIndex_of h0 h4] at h1;exact Option.some.inj h1
  exact W.ki_setAt ho h0 (by lia) (by rw[Ut, <-hl]; exact h4) (by rw[hk]; exact⟨_,I',q⟩)
 ·have hk:(k+(its.toArray.size:Int)).toNat=j:=by
   rw[seqIndex_neg (by lia) h3] at h1;rw[Ut, <-hl];exact Option.some.inj h1
  exact W.ki_setBack ho (by lia) (by rw[Ut, <-hl]; exact h3) (by lia) (by rw[hk]; exact⟨_,I',q⟩)
theorem ZD(lo hi:Option Int)(n:Nat):(sliceBounds lo hi none n).1=((HT.sIx n 0 lo:Nat):Int)/\(sliceBounds lo hi none n).2.1=((HT.sIx n n hi:Nat):Int)/\(sliceBounds lo hi none n).2.2=1:=by
 refine⟨?_, ?_,rfl⟩
 ·cases lo with
  |none=>simp[sliceBounds,HT.sIx]
  |some i =>
   simp only[sliceBounds,HT.sIx,Option.getD_none,show(1:Int)>0 by decide,if_true];by_cases h:i<0
   ·simp only[h,if_true]<;>lia
   ·simp only[h,if_false]<;>lia
 ·cases hi with
  |none=>simp[sliceBounds,HT.sIx]
  |some i =>
   simp only[sliceBounds,HT.sIx,Option.getD_none,show(1:Int)>0 by decide,if_true];by_cases h:i<0
   ·simp only[h,if_true]<;>lia
   ·simp only[h,if_false]<;>lia
theorem Vs(its:List Value)(lo hi:Option Int):slicePick its.toArray lo hi none=((its.drop (HT.sIx its.length 0 lo)).take (HT.sIx its.length its.length hi-HT.sIx its.length 0 lo)).toArray:=by
 obtain⟨h1,h2,h3⟩:=ZD lo hi its.toArray.size;unfold slicePick;rw[h1,h2,h3];simp only[sliceRange_one,pick_run,Ut]<;>rfl
def rSlL(Ξ:PySem.W.Frag):V->Option Int->Option Int->Hp->VK->Prop:=λx lo hi H Q=>∃a xs,x=.ref a/\SqL Ξ H a xs/\∀p,H p=none->Q (.ref p) (upd H p (.lst (cutV xs lo hi)))
theorem sl_list:SlR X (rSlL X.K):=by
 intro pins s σ H x v vl vu lo hi sl Q I rx hs pl pu h;obtain⟨a,xs,rfl,hx,q⟩:=h;cases rx;obtain⟨its,r,ht,hz⟩:=I.list hx;have hlen:=r.length;refine⟨"list", _,slot_list_getitem.lookup,ht.isList.typeIs, ?_⟩;refine wpAny_getItem_list_slice ht.isList hs pl pu .none (by simp) ?_ (by rw[Ut]<;>lia);rw[Vs, <-hlen];refine⟨.ref s.heap.objs.size,_,I.laid (t':=s.toks) (o:=.lst (cutV xs lo hi)) (λb ob q=>Heap.get?_push_of_some _ q) (Up _) ?_,rfl,q _ (I.hok.fresh (Up _))⟩;exact⟨UY (JB xs lo hi) hz,_,0,(r.drop (HT.sIx xs.length 0 lo)).take (HT.sIx xs.length xs.length hi-HT.sIx xs.length 0 lo),Heap.get?_push_size _ rfl⟩
def kB:V->Bool
 |.non=>true
 |.bl _=>true
 |.int _=>true
 |.str _=>true
 |_=>false
def eqV:V->V->Bool
 |.non, .non=>true
 |.bl a, .bl b=>a==b
 |.bl a, .int b=>(if a then 1 else 0)==b
 |.int a, .bl b=>a==(if b then 1 else 0)
 |.int a, .int b=>a==b
 |.str a, .str b=>a==b
 |_,_=>false
theorem Xd(ry:RelV y u)(rx:RelV x v)(fy:kB y=true)(fx:kB x=true):SeqAt.EqAt A s u v (eqV y x):=by
 cases y with
 |non =>
  cases ry;cases x with
  |non=>cases rx; exact SeqAt.EqAt.same _
  |bl b=>cases rx; exact SeqAt.EqAt.none_bool b
  |int b=>obtain⟨t,rfl⟩:=rx; exact SeqAt.EqAt.none_int b t
  |str b=>obtain⟨t,rfl⟩:=rx; exact SeqAt.EqAt.none_str b t
  |_=>exact absurd (show false=true from fx) Uv
 |bl a =>
  cases ry;cases x with
  |non=>cases rx; exact SeqAt.EqAt.bool_none a
  |bl b=>cases rx; exact SeqAt.EqAt.bool_bool a b
  |int b=>obtain⟨t,rfl⟩:=rx; exact SeqAt.EqAt.bool_int a b t
  |str b=>obtain⟨t,rfl⟩:=rx; exact SeqAt.EqAt.bool_str a b t
  |_=>exact absurd (show false=true from fx) Uv
 |int a =>
  obtain⟨t',rfl⟩:=ry;cases x with
  |non=>cases rx; exact SeqAt.EqAt.int_none a t'
  |bl b=>cases rx; exact SeqAt.EqAt.int_bool a t' b
  |int b=>obtain⟨t,rfl⟩:=rx; exact SeqAt.EqAt.int_int a t' b t
  |str b=>obtain⟨t,rfl⟩:=rx; exact SeqAt.EqAt.int_str a t' b t
  |_=>exact absurd (show false=true from fx) Uv
 |str a =>
  obtain⟨t',rfl⟩:=ry;cases x with
  |non=>cases rx; exact SeqAt.EqAt.str_none a t'
  |bl b=>cases rx; exact SeqAt.EqAt.str_bool a t' b
  |int b=>obtain⟨t,rfl⟩:=rx; exact SeqAt.EqAt.str_int a t' b t
  |str b=>obtain⟨t,rfl⟩:=rx; exact SeqAt.EqAt.str_str a t' b t
  |_=>exact absurd (show false=true from fx) Uv
 |_=>exact absurd (show false=true from fy) Uv
def eqU(x:V)(u:Value):Bool:=match u with
 |.none=>eqV .non x
 |.bool b=>eqV (.bl b) x
 |.int i _=>eqV (.int i) x
 |.str z _=>eqV (.str z) x
 |_=>false
theorem eqU_of(r:RelV y u)(f:kB y=true):eqU x u=eqV y x:=by
 cases y with
 |non=>cases r; rfl
 |bl b=>cases r; rfl
 |int i=>obtain⟨t,rfl⟩:=r; rfl
 |str z=>obtain⟨t,rfl⟩:=r; rfl
 |_=>exact absurd (show false=true from f) Uv
theorem JJ:∀{xs:List V}{us:List Value},Vals xs us->xs.all kB=true->us.any (eqU x)=xs.any λy=>eqV y x
 |_,_, .nil,_=>rfl
 |y::xs,u::us, .cons r t,f=>by
  rw[Rn,De] at f;rw[Dy,Dy,eqU_of r f.1,JJ t f.2]
theorem VT(rx:RelV x v)(fx:kB x=true):∀{xs:List V}{us:List Value},Vals xs us->xs.all kB=true->∀u∈us,SeqAt.EqAt A s u v (eqU x u)
 |_,_, .nil,_=>λu hu=>by cases hu
 |y::xs,u::us, .cons r t,f=>λu' hu=>by
  rw[Rn,De] at f;rcases Uw.mp hu with rfl|hu
  ·rw[eqU_of r f.1]; exact Xd r rx f.1 fx
  ·exact VT rx fx t f.2 u' hu
def inV(x:V)(xs:List V):Bool:=xs.any λy=>eqV y x
def rIn(Ξ:PySem.W.Frag)(neg:Bool):R2:=λx y H Q=>∃p xs,y=.ref p/\(SqL Ξ H p xs\/SqT Ξ H p xs)/\kB x=true/\xs.all kB=true/\Q (.bl (if neg then !inV x xs else inV x xs)) H
theorem Wr:OpR X (compareOp .In) (rIn X.K false):=by
 intro pins s σ H x y v u Q I rx ry h;obtain⟨p,xs,rfl,hq,fx,fs,q⟩:=h;cases ry;rcases hq with hq|hq
 ·obtain⟨its,r,pl,hz⟩:=I.list hq
  refine SeqAt.in_listAt (eqU x) pl.isList (λw hw=>VT rx fx r fs w (by simpa using hw)) ⟨.bl _,H,I,rfl, ?_⟩;rw[show its.toArray.any (eqU x)=its.any (eqU x) by simp,JJ r fs];exact q
 ·obtain⟨its,r,pl,hz⟩:=I.tuple hq
  refine SeqAt.in_tupleAt (eqU x) pl (λw hw=>VT rx fx r fs w (by simpa using hw)) ⟨.bl _,H,I,rfl, ?_⟩;rw[show its.toArray.any (eqU x)=its.any (eqU x) by simp,JJ r fs];exact q
theorem ku:zJ X (.builtin "len") (λxs H Q=>∃p ys,xs=[.ref p]/\(SqL X.K H p ys\/SqT X.K H p ys)/\Q (.int ys.length) H):=by
 intro pins s σ H xs us Q I r h;obtain⟨p,ys,rfl,hq,q⟩:=h;obtain⟨u,rfl,rx⟩:=ky r;cases rx;have hn:=Z5;rcases hq with hq|hq
 ·obtain⟨its,r',pl,hz⟩:=I.list hq
  have hlen:=r'.length;exact Calls.call_len_list pl.isList (by simp only[Ut]<;>lia) ⟨.int ys.length,H,I.tok _,⟨s.toks+1,by rw[Ut,hlen]⟩,q⟩
 ·obtain⟨its,r',pl,hz⟩:=I.tuple hq
  have hlen:=r'.length;exact len_tuple pl (by simp only[Ut]<;>lia) ⟨.int ys.length,H,I.tok _,⟨s.toks+1,by rw[Ut,hlen]⟩,q⟩
theorem v5:zJ X (.type "list") (λxs H Q=>∃p ys,xs=[.ref p]/\(SqL X.K H p ys\/SqT X.K H p ys)/\∀l,H l=none->Q (.ref l) (upd H l (.lst ys))):=by
 intro pins s σ H xs us Q I r h;obtain⟨p,ys,rfl,hq,q⟩:=h;obtain⟨u,rfl,rx⟩:=ky r;cases rx;have fin:∀(its:List Value),Vals ys its->ys.length<=sizeLine->∀(h':Heap)(c':Nat),(∀b o',s.heap.get? b=some o'->h'.get? b=some o') ->
   h'.get? s.heap.objs.size=some { cls:=.type "list", dict:=none,data:=.seq its.toArray c',slots:=#[] }->EP X pins σ Q (.ref s.heap.objs.size) { s with heap:=h' }:=λits r' hz h' c' kp e =>
  ⟨.ref s.heap.objs.size,_,I.laid (t':=s.toks) kp (Up _) (show ObjOk X.prog X.w _ h' _ (.lst ys) from⟨hz,its,c',r',e⟩),rfl,q _ (I.hok.fresh (Up _))⟩
 rcases hq with hq|hq
 ·obtain⟨its,r',pl,hz⟩:=I.list hq
  have hlen:=r'.length;obtain⟨o,ho,hc,n,hd⟩:=pl.isList;exact call_list_seq p (.inl rfl) ho hc hd (λh' c' kp e=>fin its r' hz h' c' kp e) (by simp only[Ut]<;>lia)
 ·obtain⟨its,r',pl,hz⟩:=I.tuple hq
  have hlen:=r'.length;obtain⟨o,ho,hc,n,hd⟩:=pl;exact call_list_seq p (.inr rfl) ho hc hd (λh' c' kp e=>fin its r' hz h' c' kp e) (by simp only[Ut]<;>lia)
def tyV(Ξ:PySem.W.Frag)(T:String)(x:V)(H:Hp):Prop:=match x with
 |.str _=>T = "str"
 |.int _=>T = "int"
 |.ref p=>(T = "list" /\ ∃xs,SqL Ξ H p xs)\/(T = "tuple" /\ ∃o,Ξ.lookup p=some o/\o.cls=.type "tuple" /\ o.dict=none) \/
   (T = "dict" /\ ((∃kvs,H p=some (.dK kvs))\/∃kvs,H p=some (.dT kvs)))\/(T = "set" /\ ∃S n,H p=some (.set S n))
 |_=>False
theorem tyV_is{T:String}(I:Inv X pins σ H s)(r:RelV x v)(ty:tyV X.K T x H) :
  s.TypeIs v T/\∀a,v=.ref a->∃ob,s.heap.get? a=some ob/\ob.dict=none:=by
 cases x with
 |str z =>
  obtain⟨t,rfl⟩:=r;cases(show T = "str" from ty);exact⟨typeIs_str s z t,λ_ e=>nomatch e⟩
 |int i =>
  obtain⟨t,rfl⟩:=r;cases(show T = "int" from ty);exact⟨typeIs_int s i t,λ_ e=>nomatch e⟩
 |ref p =>
  cases r;rcases ty with⟨rfl,xs,hq⟩|⟨rfl,o,hk,hc,hd⟩|⟨rfl,hk⟩|⟨rfl,S,n,hk⟩
  ·obtain⟨its,_,pl,_⟩:=I.list hq
   refine⟨pl.isList.typeIs,λa e=>?_⟩;cases e;obtain⟨o,n,e,c,hd,_⟩:=pl;exact⟨o,e,hd⟩
  ·refine⟨⟨o,I.kIn p o hk,hc⟩,λa e=>?_⟩
   cases e;exact⟨o,I.kIn _ o hk,hd⟩
  ·have z:∃o,s.heap.get? p=some o/\o.ExactDict:=by
    rcases hk with⟨kvs,hk⟩|⟨kvs,hk⟩
    ·obtain⟨_,_,_,_,o,_,_,e,ex,_⟩:=I.hok p _ hk
     exact⟨o,e,ex⟩
    ·obtain⟨_,_,_,_,o,_,_,e,ex,_⟩:=I.hok p _ hk
     exact⟨o,e,ex⟩
   obtain⟨o,e,ex⟩:=z;refine⟨⟨o,e,ex.1⟩,λa e2=>?_⟩;cases e2;exact⟨o,e,ex.2.1⟩
  ·obtain⟨o,_,_,_,e,ex,_⟩:=I.hok p _ hk
   refine⟨⟨o,e,ex.1⟩,λa e2=>?_⟩;cases e2;exact⟨o,e,ex.2.1⟩
 |_=>exact False.elim ty
def tBM0(Ξ:PySem.W.Frag)(T:String)(r:V->List V->Hp->VK->Prop)(to:TE):TE:=λσ H Q=>to σ H λx H1=>tyV Ξ T x H1/\r x [] H1 Q
def tBM(Ξ:PySem.W.Frag)(T:String)(r:V->List V->Hp->VK->Prop)(to:TE)(t:TA):TE:=λσ H Q=>to σ H λx H1=>tyV Ξ T x H1/\t σ H1 λxs H2=>r x xs H2 Q
end
def MtM(X:Cx)(id:String)(r:V->List V->Hp->VK->Prop):Prop :=
 ∀(pins:List (Addr×Obj))(s:Shared)(σ:St)(H:Hp)(x:V)(xs:List V)(v:Value)(us:List Value)(Q:VK),Inv X pins σ H s->RelV x v->Vals xs us->r x xs H Q ->
  wpAny (model X.prog X.w) X.A (call (.builtin id) (v::us)) (EP X pins σ Q) X.xe s
theorem Vals.one:∀{x:V}{us:List Value},Vals [x] us->∃u,us=[u]/\RelV x u
 |_,_, .cons r .nil=>⟨_,rfl,r⟩
theorem Vals.eraseIdx:∀{xs:List V}{us:List Value}(i:Nat),Vals xs us->Vals (xs.eraseIdx i) (us.eraseIdx i)
 |_,_,_, .nil=>.nil
 |_,_,0, .cons _ t=>t
 |_,_,i+1, .cons r t=>.cons r (Vals.eraseIdx i t)
theorem Vals.rep(h:Vals xs us):∀k:Nat,Vals (List.replicate k xs).flatten (List.replicate k us).flatten
 |0=>.nil
 |k+1=>by
  rw[Db,Db,Dv,Dv];exact Vals.append h (Vals.rep h k)
theorem Z6{α:Type}:∀(l:List α)(i:Nat),(l.eraseIdx i).length<=l.length
 | [],_=>Up _
 |_::_,0=>Dk _
 |_::r,i+1=>Nat.succ_le_succ (Z6 r i)
theorem Xc(its:List Value):∀(k:Nat)(acc:List Value),
  List.foldl (λx1 x2=>x1++x2) acc.toArray (List.replicate k its.toArray)=(acc++(List.replicate k its).flatten).toArray
 |0,acc=>by simp
 |k+1,acc=>by
  have e:acc.toArray++its.toArray=(acc++its).toArray:=by simp
  have e2:(acc++its)++(List.replicate k its).flatten=acc++(List.replicate (k+1) its).flatten:=by
   rw[Db,Dv,UD]
  rw[<-e2, <-Xc its k (acc++its), <-e,Db,RA]
section
theorem Inv.lset{its its':List Value}(I:Inv X pins σ H s)(hH:H l=some (.lst xs))(e:s.heap.get? l=some { cls:=.type "list", data:=.seq its.toArray n })(hf:f its.toArray=its'.toArray)(hv:Vals ys its')(hz:ys.length<=sizeLine) :
  Inv X pins σ (upd H l (.lst ys)) { s with heap:=s.heap.update l (Obj.mapSeq f),toks:=t' }:=by
 have q:=PySem.IsL.update e f;rw[hf] at q;refine I.write (x:=l) (e:=l) (by rw[hH]; exact trivial) (.inl rfl) (λb' u hb hu=>(Heap.get?_update_other s.heap (Obj.mapSeq f) (Ne.symm hb)).trans hu) ⟨_,q⟩ ?_;exact⟨hz,its',_,hv,q⟩
theorem Inv.lnew(I:Inv X pins σ H s)(hv:Vals ys its)(hz:ys.length<=sizeLine) :
  Inv X pins σ (upd H s.heap.objs.size (.lst ys)) { s with heap:=s.heap.push { cls:=.type "list", data:=.seq its.toArray },toks:=t' } :=
 I.laid (λ_ _ q=>Heap.get?_push_of_some _ q) (Up _) ⟨hz,its,0,hv,Heap.get?_push_size _ rfl⟩
theorem Inv.fresh(I:Inv X pins σ H s):H s.heap.objs.size=none:=I.hok.fresh (Up _)
theorem Inv.lstM(I:Inv X pins σ H s)(hH:H l=some (.lst xs)):xs.length<=sizeLine/\∃(its:List Value)(n:Nat),Vals xs its/\xs.length=its.length/\s.heap.get? l=some { cls:=.type "list", data:=.seq its.toArray n }:=by
 obtain⟨z,its,n,r,e⟩:=I.hok l _ hH;exact⟨z,its,n,r,r.length,e⟩
theorem Kb(h:n<=sizeLine):Builtin.List.listTooLong n=false:=by
 unfold Builtin.List.listTooLong;exact decide_eq_false (by lia)
end
section
def Y6:V->List V->Hp->VK->Prop:=λx vs H Q=>∃l xs y,x=.ref l/\vs=[y]/\H l=some (.lst xs)/\xs.length<sizeLine/\Q .non (upd H l (.lst (xs++[y])))
theorem zl:MtM X "list.append" Y6:=by
 intro pins s σ H x vs v us Q I rx rv h;obtain⟨l,xs,y,rfl,rfl,hH,hz,q⟩:=h;cases rx;obtain⟨u,rfl,ru⟩:=rv.one;obtain⟨z,its,n,r,hl,e⟩:=I.lstM hH;refine call_meets F.slot_list_append ⟨_,e,rfl⟩ F.entry_list_append (F.args_list_append_2 _ _) (PySem.list_append l its.toArray n u (by rw[Ut]; lia)) ⟨e, ?_⟩;refine⟨.non,_,I.lset (its':=its++[u]) hH e (by simp) (r.append (.cons ru .nil)) ?_,rfl,q⟩;rw[Uu,Di];lia
def rExtend:V->List V->Hp->VK->Prop:=λx vs H Q=>∃l b xs zs,x=.ref l/\vs=[.ref b]/\H l=some (.lst xs)/\H b=some (.lst zs)/\xs.length+zs.length<=sizeLine/\Q .non (upd H l (.lst (xs++zs)))
theorem mt_extend:MtM X "list.extend" rExtend:=by
 intro pins s σ H x vs v us Q I rx rv h;obtain⟨l,b,xs,zs,rfl,rfl,hH,hB,hz,q⟩:=h;cases rx;obtain⟨u,rfl,ru⟩:=rv.one;cases ru;obtain⟨z,its,n,r,hl,e⟩:=I.lstM hH;obtain⟨z2,its2,n2,r2,hl2,e2⟩:=I.lstM hB;have hsz:its.toArray.size+its2.toArray.size<=sizeLine:=by rw[Ut,Ut]; lia
 have hlong:¬(!its.toArray.isEmpty&&Builtin.List.listTooLong (its.toArray.size+its2.toArray.size))=true:=by
  rw[Kb hsz,Bool.and_false];exact Uv
 refine call_meets F.slot_list_extend ⟨_,e,rfl⟩ F.entry_list_extend (F.args_list_extend_2 _ _)
  (AutoSeq1.list_extend_list_list_0 l its.toArray n b its2.toArray n2 hlong (by rw[Ut]; lia) (by lia)) ⟨e,e2, ?_⟩
 refine⟨.non,_,I.lset (its':=its++its2) hH e (by simp) (r.append r2) ?_,rfl,q⟩;rw[Uu];lia
def rCat:R2:=λx y H Q=>∃l b xs zs,x=.ref l/\y=.ref b/\H l=some (.lst xs)/\H b=some (.lst zs)/\xs.length+zs.length<=sizeLine/\∀p,H p=none->Q (.ref p) (upd H p (.lst (xs++zs)))
theorem vZ:OpR X (binaryOp .Add) rCat:=by
 intro pins s σ H x y v u Q I rx ry h;obtain⟨l,b,xs,zs,rfl,rfl,hH,hB,hz,q⟩:=h;cases rx;cases ry;obtain⟨z,its,n,r,hl,e⟩:=I.lstM hH;obtain⟨z2,its2,n2,r2,hl2,e2⟩:=I.lstM hB;refine PySem.P.add_list e e2 ?_ (by rw[Ut,Ut]; lia);have ea:its.toArray++its2.toArray=(its++its2).toArray:=by simp
 rw[ea];exact⟨.ref _,_,I.lnew (t':=s.toks) (r.append r2) (by rw[Uu]; lia),rfl,q _ I.fresh⟩
def rRep:R2:=λx y H Q=>∃l k xs,x=.ref l/\y=.int k/\H l=some (.lst xs) /\ -(2^63)<=k/\k<2^63/\xs.length*k.toNat<=sizeLine /\
 ∀p,H p=none->Q (.ref p) (upd H p (.lst (List.replicate k.toNat xs).flatten))
theorem len_rep{α:Type}(xs:List α)(k:Nat):(List.replicate k xs).flatten.length=k*xs.length:=by
 induction k with
 |zero=>simp
 |succ k ih=>rw[Db,Dv,Uu,ih,Nat.succ_mul,R4]
theorem Ka:OpR X (binaryOp .Mult) rRep:=by
 intro pins s σ H x y v u Q I rx ry h;obtain⟨l,k,xs,rfl,rfl,hH,h1,h2,hz,q⟩:=h;cases rx;obtain⟨t,rfl⟩:=ry;obtain⟨z,its,n,r,hl,e⟩:=I.lstM hH;have hlen:its.toArray.size*k.toNat<=sizeLine:=by rw[Ut, <-hl]; exact hz
 have hcap:¬its.toArray.size*k.toNat>(2^63-1) / 8:=by
  have:(sizeLine:Nat)<=(2^63-1) / 8:=by decide
  lia
 have hfit:¬(!Builtin.List.listFitsIndex k)=true:=by
  rw[fitsIndex_both h1 h2];exact Uv
 have hlong:¬Builtin.List.listTooLong (its.toArray.size*k.toNat)=true:=by
  rw[Kb hlen];exact Uv
 have hnew:List.foldl (λx1 x2=>x1++x2) #[] (List.replicate (if its.toArray.isEmpty=true then 0 else k.toNat) its.toArray)=(List.replicate k.toNat its).flatten.toArray:=by
  have f0:∀m:Nat,List.foldl (λx1 x2=>x1++x2) #[] (List.replicate m its.toArray)=(List.replicate m its).flatten.toArray:=λm=>by
   have:=Xc its m [];rw[Do] at this;exact this
  rw[f0];cases its with
  |nil=>simp
  |cons a r'=>rw[if_neg (by simp)]
 refine wpAny_binaryOp_repeat_ref (T := "list") (U := "int") (by decide) ⟨_,e,rfl⟩ (λs'=>typeIs_int s' k t) noFill_list_mul F.fills_int_mul F.slot_int_rmul repeat_list F.slot_int_index.lookup
  (call_meets F.slot_int_rmul (typeIs_int s k t) F.entry_int_rmul (F.args_int_rmul_2 _ _) (int___rmul___int_list k t l its.toArray n)
   ⟨e,rfl,⟨_,e,rfl⟩,call_meets F.slot_list_mul ⟨_,e,rfl⟩ F.entry_list_mul (F.args_list_mul_2 _ _) (AutoListH.list___mul___list_int_3 l its.toArray n k t hfit hcap hlong) ⟨e, ?_⟩⟩)
 rw[hnew];exact⟨.ref _,_,I.lnew (t':=s.toks) (r.rep k.toNat) (by rw[len_rep,Nat.mul_comm]; exact hz),rfl,q _ I.fresh⟩
end
end L2
namespace Att
open PySem PySem.W PySem.Calls PyProof.Rows
theorem Qr:∀(ns:List Int)(vs:List Value),WellAll P h vs (ns.map WData.int)->IntsAre vs ns:=by
 intro ns
 induction ns with
 |nil =>
  intro vs w;rw[DG] at w;cases w;exact .nil
 |cons n ns ih =>
  intro vs w;rw[UQ] at w;cases w with
  |cons a b =>
   cases a;exact .cons _ _ (ih _ b)
theorem YU{l:OpenLaw}(hn:l.most=some n)(hpre:l.row.toRowW.claim.pre args=true)(hwl:WellAll P h vals args) :
  ∃a vs ns,vals=[Value.ref a]/\args=[WData.list (ns.map WData.int)]/\h.get? a=some { cls:=.type "list", data:=.seq vs.toArray }/\IntsAre vs ns/\ns.length<=n:=by
 have hsh:WShape.hasAll [] args [.list .int]=true:=(pre_splitW hpre).1;have hc:l.pre.holds [] { args:=args }=true:=(pre_splitW hpre).2;obtain⟨d,r,rfl,h1,h2⟩:=hasAllW_cons hsh;obtain rfl:=hasAllW_nil h2;obtain⟨xs,rfl,h3⟩:=hasW_list h1;obtain⟨ns,rfl⟩:=items_int h3;have hlen:ns.length<=n:=by
  unfold OpenLaw.pre at hc;have h4:(WTm.not (.lt (.lit (.int (n:Int))) (.len (.arg 0)))).holds [] { args:=[.list (ns.map .int)] }=true:=by
   have h4:=(holds_andW hc).1;rw[hn] at h4;exact h4
  have h5:=condW_of h4 (w_not (w_lt w_lit (w_len_list (w_arg rfl))));rw[Ul] at h5;refine Nat.le_of_not_lt λq=>?_;have q':(n:Int)<((ns.length:Nat):Int):=by lia
  first
   | (rw[decide_eq_true q'] at h5; exact absurd h5 (by decide))
   | (simp at h5; lia)
 cases hwl with
 |cons w1 w2 =>
  cases w2;cases w1 with
  |list ho hall=>exact⟨_,_,ns,rfl,rfl,ho,Qr ns _ hall,hlen⟩
theorem Wg(l:OpenLaw)(args:List WData):l.row.toRowW.claim.post args (.bool true) args=true :=
 postW_of (r:=l.row.toRowW) (X:=(true==true))
  (show WShape.has [] (.bool true) .bool=true by first|rfl|decide|simp[WShape.has,WShape.arms,WShape.armsAll])
  (show(WTm.eq .res (.lit (.bool true))).value [] { args:=args,res:=some (.bool true),after:=args }=some (.bool (true==true)) from w_eq_bool (w_res rfl) w_lit) rfl
theorem attach_call{l:OpenLaw}(hn:l.most=some n)(hdf:d.params.defaults=[])(call:∀(w:World)(s₀ s₁:Shared)(mg mb:Str->Option Value)(fa:Addr)(o:Obj)(pm cd doc:Value)(a:Addr)(vs:List Value)(ns:List Int),
   Ground q loose [] XP w s₀ mg mb s₁.heap->YP w s₁.heap ->
   s₁.heap.get? fa=some o->o.data=.func (docDef d.name d.params d.body d.scope pm cd doc)->s₁.heap.CodeRec cd d.name->mg d.name=some (.ref fa) ->
   s₁.heap.get? a=some { cls:=.type "list", data:=.seq vs.toArray }->IntsAre vs ns->ns.length<=n->s₁.gens=#[] ->
   codeAny (model l.prog w) callerA (.call (.ref fa) ⟨[.ref a], []⟩) (λr s'=>r=.ok (.ret (.bool true))/\OldK s₁.heap s'.heap/\s'.os=s₁.os/\AllBare s'.gens) s₁) :
  WalkO q loose XP YP l.row.toRowW d [] (λf vs=>PySem.call f vs):=by
 intro w s₀ s₁ mg mb G Y fa o pm cd doc dV kV ho hd hcd hD hmg hg args vals as hpre hlay hrd hwl hlo;obtain rfl:dV=.none:=Dflts.none hD hdf;obtain rfl:kV=.none:=Dflts.noKw hD;obtain⟨a,vs,ns,rfl,rfl,hobj,hints,hlen⟩:=YU hn hpre hwl;refine enter_call (codeAny_mono (call w s₀ s₁ mg mb fa o pm cd doc a vs ns G Y ho (fd_plain hd) hcd hmg hobj hints hlen hg) λr s' hq=>?_);obtain⟨rfl,h2,h3,h4⟩:=hq;exact⟨.inl ⟨.bool true, .bool true, [],rfl,λ_=>rfl, .bool true,Wg l _,λ_=>⟨List.Pairwise.nil,λ_ hm=>(nomatch hm)⟩⟩,h2,h3,h4⟩
end Att
namespace L2
open PySem PySem.Spec PyProof.Rows
theorem Zq:∀{vs:List Value}{ns:List Int},IntsAre vs ns->Vals (ns.map V.int) vs
 |_,_, .nil=>.nil
 |_,_, .cons n t h=>.cons ⟨t,rfl⟩ (Zq h)
def Only(H:Hp):Prop:=∀b,H b=none\/∃o xs,H b=some (.frz o (.lst xs))
theorem law_call(KX:Ξ.In s₁.heap)(hns:s₁.heap.Ns mainGlobals mg)(hb:s₁.heap.Ns builtinsNs mb)(hbb:∀x:Str,x ≠ "__name__" -> mb x=bootBuiltins x)(hlim:s₁.heap.NoLimit)(hg:s₁.gens=#[])(ha:s₁.heap.get? a=some { cls:=.type "list", data:=.seq vs.toArray })(hi:IntsAre vs ns)(hl:ns.length<=sizeLine)(hr:Room k callerA)(F:∀base:Heap,Ξ.In base->base.Ns mainGlobals mg->FnOk P w Ξ mg base CX k fa fd [x] sp)(hbind:∀(s:Shared)(u:Value),BindsTo s fd ⟨[u], []⟩ [(x,u)])(hsp:∀H:Hp,Only H->SqL Ξ H a (ns.map V.int)->sp [.ref a] H (λv _=>v=.bl true) λ_ _ _=>False)(hCX:∀H e s',CX [] H s₁ (λ_ _ _=>False) e s'->False) :
  codeAny (model P w) callerA (.call (.ref fa) ⟨[.ref a], []⟩) (λr s'=>r=.ok (.ret (.bool true))/\OldK s₁.heap s'.heap/\s'.os=s₁.os/\AllBare s'.gens) s₁:=by
 have rv:=Zq hi;have lenV:=hi.length
 -- from an abstract heap in which nothing but the script may be tracked
 have core:∀H:Hp,Only H->SqL Ξ H a (ns.map V.int)->HOk P w H s₁.heap->(∀b,H b≠none->b=a)->(H a≠none->Ξ.lookup a=none) ->
   codeAny (model P w) callerA (.call (.ref fa) ⟨[.ref a], []⟩) (λr s'=>r=.ok (.ret (.bool true))/\OldK s₁.heap s'.heap/\s'.os=s₁.os/\AllBare s'.gens) s₁:=by
  intro H hO hS hok hA hK;have base_of:∀{b:Addr}{o:Obj},s₁.heap.get? b=some o->H b=none->(hidT s₁.heap H).get? b=some o:=λe n=>hidT_get e n;have noA:∀{b:Addr}{o:Obj}{es:Array DictEntry}{ep:Nat},s₁.heap.get? b=some o->o.data=.dict es ep->H b=none:=λ{b o es ep} e d=>by
   cases q:H b with
   |none=>rfl
   |some u =>
    have e':b=a:=hA b (by rw[q]; simp);subst e';rw[ha] at e; cases e;have d':Data.seq vs.toArray _=Data.dict es ep:=d;cases d'
  have nsK:∀{b:Addr}{m:Str->Option Value},s₁.heap.Ns b m->(hidT s₁.heap H).Ns b m:=λ{b m} ⟨o,es,ep,e,d,r⟩=>⟨o,es,ep,base_of e (noA e d),d,r⟩;have hKb:Ξ.In (hidT s₁.heap H):=λb o e=>base_of (KX b o e) (by
   cases q:H b with
   |none=>rfl
   |some u =>
    have e':b=a:=hA b (by rw[q]; simp);subst e';rw[hK (by rw[q]; simp)] at e; cases e)
  have hM:Mod Ξ mg (hidT s₁.heap H):=⟨hKb,nsK hns,⟨mb,nsK hb,hbb⟩,let⟨mc,h1,h2⟩:=hlim; ⟨mc,nsK h1,h2⟩⟩;have e0:Env0 P w Ξ mg (hidT s₁.heap H) callerA [] s₁ H:=⟨rfl,hM,λb o e=>of_hidT e,D2 (Gn _ _),trivial,λb hb=>absurd (show b∈([]:List Addr) from hb) (by simp),hok, .of_eq hg⟩;refine codeAny_mono ((F _ hKb (nsK hns)).run callerA [] s₁ H ⟨[.ref a], []⟩ [.ref a] [.ref a] _ _ hr e0 (hbind s₁ (.ref a)) (.cons rfl .nil) (hsp H hO hS)) λr s' h=>?_;cases r with
  |error e=>exact(hCX H e s' h).elim
  |ok fl =>
   cases fl with
   |next=>exact False.elim h
   |brk=>exact False.elim h
   |cont=>exact False.elim h
   |ret u =>
    obtain⟨v,H',os,bare,un,hok',r',q⟩:=h;have q':v=.bl true:=q;subst q';obtain rfl:u=Value.bool true:=r';refine⟨rfl,OldK.of_keep λb o e=>?_,os,bare⟩;cases q:H b with
    |none=>exact un.keep b o e q (by intro z; exact absurd (show b∈([]:List Addr) from z) (by simp)) (by simp)
    |some u =>
     rcases hO b with z|⟨ob,xs,z⟩
     ·rw[q] at z; cases z
     ·have z2:=un.frzs b ob _ z
      obtain⟨e1,_⟩:=hok b _ z;obtain⟨e2,_⟩:=hok' b _ z2;rw[e] at e1; cases e1;exact e2
 cases hk:Ξ.lookup a with
 |some o =>
  -- the script is one of the module's own objects
  have e:=KX a o hk;rw[ha] at e;cases e;refine core (λ_=>none) (λ_=>.inl rfl) (.inr ⟨_,vs.toArray,_,hk,rfl,rfl,rfl,by rw[Ut,lenV]; exact hl,by simpa using rv⟩) (λb u z=>by have z':(none:Option HO)=some u:=z; cases z') (λb z=>absurd rfl z) λz=>absurd rfl z
 |none =>
  refine core (λb=>if b=a then some (.frz { cls:=.type "list", data:=.seq vs.toArray } (.lst (ns.map V.int))) else none) (λb=>?_) (.inl (.inr ⟨{ cls:=.type "list", data:=.seq vs.toArray },if_pos rfl⟩)) (λb u z=>?_) (λb z=>?_) λ_=>hk
  ·by_cases hb:b=a
   ·exact .inr ⟨_,_,if_pos hb⟩
   ·exact .inl (if_neg hb)
  ·by_cases hb:b=a
   ·have z':=(if_pos hb).symm.trans z
    cases z';subst hb;exact⟨ha,by rw[Ul]; exact hl,vs,_,rv,ha⟩
   ·have z':=(if_neg hb).symm.trans z
    cases z'
  ·by_cases hb:b=a
   ·exact hb
   ·exact absurd (if_neg hb) z
theorem walk_of{l:PySem.W.OpenLaw}{Ξ:Params->PySem.W.Frag}{CX:World->CXT}{sp:World->Sp}(hn:l.most=some n)(hn2:n<=sizeLine)(hdf:d.params.defaults=[])(hr:Room k callerA)(hY:∀(w:World)(h:Heap),YP w h->(Ξ w.params).In h)(F:∀(w:World)(mg:Str->Option Value)(fa:Addr)(h:Heap),(Ξ w.params).In h->h.Ns mainGlobals mg->mg d.name=some (.ref fa) ->
   ∃fd:FuncData,(∀(s:Shared)(u:Value),BindsTo s fd ⟨[u], []⟩ [(x,u)]) /\
    ∀base:Heap,(Ξ w.params).In base->base.Ns mainGlobals mg->FnOk l.prog w (Ξ w.params) mg base (CX w) k fa fd [x] (sp w))(hsp:∀(w:World)(H:Hp)(a:Addr)(ns:List Int),ns.length<=n->Only H->SqL (Ξ w.params) H a (ns.map V.int)->sp w [.ref a] H (λv _=>v=.bl true) λ_ _ _=>False)(hCX:∀(w:World)(H:Hp)(s:Shared)(e:Value)(s':Shared),CX w [] H s (λ_ _ _=>False) e s'->False) :
  PySem.W.WalkO q loose XP YP l.row.toRowW d [] (λf vs=>PySem.call f vs):=by
 refine Att.attach_call hn hdf λw s₀ s₁ mg mb fa o pm cd doc a vs ns G Y ho hd hcd hmg hobj hints hlen hg=>?_;have KX:=hY w _ Y;obtain⟨fd,hb,hF⟩:=F w mg fa _ KX G.T.g hmg;exact law_call KX G.T.g G.T.b G.T.builtins G.T.nolimit hg hobj hints (UY hlen hn2) hr hF hb (λH hO hS=>hsp w H a ns hlen hO hS) λH e s'=>hCX w H s₁ e s'
abbrev CX0:CXT:=λ_ _ _ _ _ _=>False
abbrev E0:XK:=λ_ _ _=>False
theorem pass0:Xs CX0 X E0:=λ_ _ _ _ _ _ _ h=>h.elim
structure Fun(Ξ:PySem.W.Frag)(x qual:Str)(st:Stmt)(f:Addr)(fd:FuncData):Prop where
 ex:∃(oc:Value)(od:Option Addr)(kV doc pm:Value)(an:Option Addr)(cdv ct:Value)(osl:Array (Option Value)),
  fd=W.fnOf x qual (QD st) (vS st) (ql st) .none kV doc pm an cdv ct/\Ξ.lookup f=some ⟨oc,od, .func fd,osl⟩/\W.codeIn Ξ cdv qual=true
 kp:W.keepIn Ξ (.ref f)=true
section
theorem Fun.ok{st:Stmt}(F:Fun Ξ x qual st f fd)(S:FnScope N ps (ql st))(len:∀vs H Q E,sp vs H Q E->vs.length=ps.length)(hbody:∀(cdv:Value)(A:Around)(outer:List Env)(s:Shared)(H:Hp)(vs:List V)(Q:VK)(E:XK),Room k (A.deeper (envOfC qual (ql st) s.heap.objs.size f cdv))->sp vs H Q E ->
   ∃t,PSs (cxOf CX0 P w Ξ mg base N qual (ql st) f cdv A outer s H E).nox (vS st) t/\t { nx:=λ_ H'=>Q .non H',rt:=Q } (start N vs) H):FnOk P w Ξ mg base CX0 (k+1) f fd ps sp:=by
 obtain⟨oc,od,kV,doc,pm,an,cdv,ct,osl,rfl,lk,hcd⟩:=F.ex;refine fn_of lk hcd S len λA outer s H vs Q E hr hsp=>?_;obtain⟨t,h,q⟩:=hbody cdv A outer s H vs Q E hr hsp;exact⟨t,h.nox,q⟩
theorem Fun.binds{st:Stmt}(F:Fun Ξ x qual st f fd)(h:∀(kV doc pm:Value)(an:Option Addr)(cdv ct:Value)(us:List Value),us.length=ps.length->bindArgs (W.fnOf x qual (QD st) (vS st) (ql st) .none kV doc pm an cdv ct) ⟨us, []⟩=pure (ps.zip us)):Binds Ξ fd ps []:=by
 obtain⟨oc,od,kV,doc,pm,an,cdv,ct,osl,rfl,lk,hcd⟩:=F.ex;exact .all (h kV doc pm an cdv ct)
theorem fun_mk{st:Stmt}{kV doc pm cdv ct:Value}(l:Ξ.lookup f=some ⟨oc,od, .func (W.fnOf x qual (QD st) (vS st) (ql st) .none kV doc pm an cdv ct),osl⟩)(c:W.codeIn Ξ cdv qual=true)(k:W.keepIn Ξ (.ref f)=true):Fun Ξ x qual st f (W.fnOf x qual (QD st) (vS st) (ql st) .none kV doc pm an cdv ct):=⟨⟨oc,od,kV,doc,pm,an,cdv,ct,osl,rfl,l,c⟩,k⟩
end
theorem kA(hr:Room k A):A.units+1<cLine:=Rf (Nat.add_le_add_left (by decide:1<=64) _) hr.units
theorem qJ(h:n<=1000):n<sizeLine:=Rf h (by decide)
section
end
theorem ite2{c A B:Prop}[Decidable c](h1:c->A)(h2:¬c->B):if c then A else B:=by
 by_cases h:c
 ·rw[if_pos h]
  exact h1 h
 ·rw[if_neg h]
  exact h2 h
def Same(H H':Hp):Prop:=∀b o,H b=some o->H' b=some o
theorem Same.refl(H:Hp):Same H H:=λ_ _ h=>h
theorem Same.trans(a:Same H H1)(b:Same H1 H2):Same H H2:=λc o h=>b c o (a c o h)
theorem Same.free(e:Same H H')(h:H' l=Option.none):H l=Option.none:=by
 cases q:H l with
 |none=>rfl
 |some o =>
  rw[e l o q] at h;cases h
theorem Same.seq(e:Same H H')(h:SqL Ξ H a xs):SqL Ξ H' a xs:=by
 rcases h with(h|⟨o,h⟩)|h
 ·exact .inl (.inl (e _ _ h))
 ·exact .inl (.inr ⟨o,e _ _ h⟩)
 ·exact .inr h
section
variable {κ:Type} [DecidableEq κ]
def valV(kvs:List (κ×V))(k:κ):Option V:=(kvs.find? λkv=>decide (kv.1=k)).map (·.2)
def putK(kvs:List (κ×V))(k:κ)(v:V):List (κ×V) :=
 if(kvs.any λkv=>decide (kv.1=k))=true then kvs.map (λkv=>if kv.1=k then(kv.1,v) else kv) else kvs++[(k,v)]
def dropK(kvs:List (κ×V))(k:κ):List (κ×V):=kvs.filter λkv=>decide (kv.1≠k)
theorem Vl{p:κ×V}{r:List (κ×V)}{k:κ}(e:p.1=k):valV (p::r) k=some p.2:=by simp[valV,Dw,e]
theorem Vm{p:κ×V}{r:List (κ×V)}{k:κ}(e:¬p.1=k):valV (p::r) k=valV r k:=by simp[valV,Dw,e]
theorem JP(k:κ):∀kvs:List (κ×V),(kvs.any λkv=>decide (kv.1=k))=(valV kvs k).isSome
 | []=>rfl
 |p::r=>by
  rw[Dy];by_cases e:p.1=k
  ·simp only[Vl e,decide_eq_true e,Bool.true_or,Option.isSome_some]
  ·rw[Vm e,decide_eq_false e,Bool.false_or]; exact JP k r
theorem jr(kvs:List (κ×V))(k:κ)(v:V):(putK kvs k v).length<=kvs.length+1:=by
 unfold putK;split
 ·rw[Ul]; lia
 ·rw[Uu,Ur,U1]; lia
theorem RelO.isSome_eq(r:RelO o u):o.isSome=u.isSome:=by
 cases o with
 |none=>cases u with
  |none=>rfl
  |some _=>exact(show False from r).elim
 |some _=>cases u with
  |none=>exact(show False from r).elim
  |some _=>rfl
theorem RelO.getD(r:RelO o u)(rd:RelV d d'):RelV (o.getD d) (u.getD d'):=by
 cases o with
 |none=>cases u with
  |none=>exact rd
  |some _=>exact(show False from r).elim
 |some _=>cases u with
  |none=>exact(show False from r).elim
  |some _=>exact r
theorem KV.val{kvs:List (κ×V)}{vs:List (κ×Value)}(r:KV kvs vs)(k:κ):RelO (valV kvs k) (valueAt vs k):=by
 unfold KV at r
 induction r with
 |nil=>exact True.intro
 | @cons p q ps qs h t ih =>
  obtain⟨h1,h2⟩:=h;by_cases e:p.1=k
  ·have e':q.1=k:=h1.symm.trans e
   have b:valueAt (q::qs) k=some q.2:=by simp[valueAt,Dw,e']
   rw[Vl e,b]; exact h2
  ·have e':¬q.1=k:=λz=>e (h1.trans z)
   have b:valueAt (q::qs) k=valueAt qs k:=by simp[valueAt,Dw,e']
   rw[Vm e,b]; exact ih
theorem KV.any{kvs:List (κ×V)}{vs:List (κ×Value)}(r:KV kvs vs)(k:κ):(kvs.any λkv=>decide (kv.1=k))=vs.any λkv=>decide (kv.1=k):=by
 unfold KV at r
 induction r with
 |nil=>rfl
 |cons h t ih=>rw[Dy,Dy,ih,h.1]
theorem KV.repl{kvs:List (κ×V)}{vs:List (κ×Value)}(r:KV kvs vs)(k:κ){y:V}{u:Value}(ry:RelV y u) :
  KV (kvs.map λkv=>if kv.1=k then(kv.1,y) else kv) (vs.map λkv=>if kv.1=k then(kv.1,u) else kv):=by
 unfold KV at r ⊢
 induction r with
 |nil=>exact .nil
 | @cons p q ps qs h t ih =>
  rw[UQ,UQ];refine .cons ?_ ih;obtain⟨h1,h2⟩:=h;by_cases e:p.1=k
  ·rw[if_pos e,if_pos (h1.symm.trans e)]; exact⟨h1,ry⟩
  ·rw[if_neg e,if_neg (λz=>e (h1.trans z))]; exact⟨h1,h2⟩
theorem KV.put{kvs:List (κ×V)}{vs:List (κ×Value)}(r:KV kvs vs)(k:κ){y:V}{u:Value}(ry:RelV y u):KV (putK kvs k y) (stored vs k u):=by
 unfold putK stored;rw[r.any k];by_cases e:(vs.any λkv=>decide (kv.1=k))=true
 ·rw[if_pos e,if_pos e]; exact r.repl k ry
 ·rw[if_neg e,if_neg e]; exact Paired.snoc r ⟨rfl,ry⟩
theorem KV.drop{kvs:List (κ×V)}{vs:List (κ×Value)}(r:KV kvs vs)(k:κ):KV (dropK kvs k) (without vs k):=by
 unfold KV at r ⊢;unfold dropK without
 induction r with
 |nil=>exact .nil
 | @cons p q ps qs h t ih =>
  obtain⟨h1,h2⟩:=h;rw[List.filter_cons,List.filter_cons];by_cases e:p.1=k
  ·have a:¬decide (p.1≠k)=true:=by simp[e]
   have b:¬decide (q.1≠k)=true:=by simp[h1.symm.trans e]
   rw[if_neg a,if_neg b]; exact ih
  ·have e':¬q.1=k:=λz=>e (h1.trans z)
   have a:decide (p.1≠k)=true:=by simp[e]
   have b:decide (q.1≠k)=true:=by simp[e']
   rw[if_pos a,if_pos b]; exact .cons ⟨h1,h2⟩ ih
theorem KV.length{kvs:List (κ×V)}{vs:List (κ×Value)}(r:KV kvs vs):kvs.length=vs.length:=Paired.length r
end
theorem Yj(r:RelV (kV k) u):(vq P w).is k u=true:=by
 cases k with
 |inl i=>obtain⟨t,e⟩:=(show ∃t,u=Value.int i t from r); subst e; exact Jd P w i t
 |inr x=>obtain⟨t,e⟩:=(show ∃t,u=Value.str x t from r); subst e; exact jq P w x t
 |non=>cases(show u=Value.none from r); rfl
theorem Z7:∀{ks:List Key}{us:List Value},Vals (ks.map kV) us->ItemsAre (vq P w) ks us
 | [],_,r=>by rw[DG] at r; cases r; exact .nil
 |k::ks,_,r=>by
  rw[UQ] at r;cases r with
  |cons h t=>exact .cons (Yj h) (Z7 t)
abbrev KT(H:Hp):List (List Key×V)->List (List Key×Addr×Value)->Prop:=Paired λp q=>p.1=q.1/\H q.2.1=some (.tup (p.1.map kV))/\RelV p.2 q.2.2
theorem KT.val(r:KT H kvs xs)(k:List Key):RelO (valV kvs k) ((atKey xs k).map (·.2)):=by
 induction r with
 |nil=>exact True.intro
 | @cons p q ps qs h t ih =>
  obtain⟨h1,_,h2⟩:=h;by_cases e:p.1=k
  ·have e':q.1=k:=h1.symm.trans e
   have b:atKey (q::qs) k=some q.2:=by simp[atKey,Dw,e']
   rw[Vl e,b]; exact h2
  ·have e':¬q.1=k:=λz=>e (h1.trans z)
   have b:atKey (q::qs) k=atKey qs k:=by simp[atKey,Dw,e']
   rw[Vm e,b]; exact ih
theorem KT.repl(r:KT H kvs xs)(k:List Key)(ry:RelV y u) :
  KT H (kvs.map λkv=>if kv.1=k then(kv.1,y) else kv) (xs.map (putAt k u)):=by
 induction r with
 |nil=>exact .nil
 | @cons p q ps qs h t ih =>
  rw[UQ,UQ];refine .cons ?_ ih;obtain⟨h1,h2,h3⟩:=h;unfold putAt;by_cases e:p.1=k
  ·rw[if_pos e,if_pos (h1.symm.trans e)]; exact⟨h1,h2,ry⟩
  ·rw[if_neg e,if_neg (λz=>e (h1.trans z))]; exact⟨h1,h2,h3⟩
theorem KT.put(r:KT H kvs xs)(k:List Key)(hb:H b=some (.tup (k.map kV)))(ry:RelV y u) :
  KT H (putK kvs k y) (storedH xs k b u):=by
 have e:(kvs.any λkv=>decide (kv.1=k))=(atKey xs k).isSome:=by
  rw[JP,(r.val k).isSome_eq,Option.isSome_map]
 unfold putK storedH;rw[e];by_cases q:(atKey xs k).isSome=true
 ·rw[if_pos q,if_pos q]; exact r.repl k ry
 ·rw[if_neg q,if_neg q]; exact Paired.snoc r ⟨rfl,hb,ry⟩
theorem KT.keeps(r:KT H kvs xs)(ht:∀b ys,H b=some (.tup ys)->H' b=some (.tup ys)):KT H' kvs xs :=
 Paired.mapP r λ_ _ z=>⟨z.1,ht _ _ z.2.1,z.2.2⟩
section
theorem rd_of(ok:HOk P w H h)(e:Rd H a u):ObjOk P w H h a u:=e.ok ok
theorem GG(ok:HOk P w H h)(e:Rd H a (.dK kvs)):kvs.length<=sizeLine/\(a==sysModules)=false/\∃vs,KV kvs vs/\h.DictOf (vq P w) a vs :=
 show ObjOk P w H h a (.dK kvs) from rd_of ok e
theorem dk_of(ok:HOk P w H h)(e:H a=some (.dK kvs)):kvs.length<=sizeLine/\(a==sysModules)=false/\∃vs,KV kvs vs/\h.DictOf (vq P w) a vs:=GG ok (.inl e)
theorem Kf(ok:HOk P w H h)(e:H a=some (.tup (ks.map kV))):(tupleKind (vq P w)).is h ks a:=by
 obtain⟨_,its,r,o,h1,h2,n,h3⟩:=(show ObjOk P w H h a (.tup (ks.map kV)) from ok a _ e);exact⟨o,its.toArray,n,h1,h2,h3,by simpa using Z7 r⟩
theorem GF(ok:HOk P w H h)(e:Rd H a (.dT kvs)):kvs.length<=sizeLine/\(a==sysModules)=false /\
  ∃xs,KT H kvs xs/\h.DictOfH (tupleKind (vq P w)) a xs:=by
 obtain⟨z,y,xs,r,o,es,ep,h1,h2,h3,h4,h5⟩:=(show ObjOk P w H h a (.dT kvs) from rd_of ok e);refine⟨z,y,xs,r,o,es,ep,h1,h2,h3,h4,λx hx=>?_,h5⟩;have all:∀{l:List (List Key×V)}{m:List (List Key×Addr×Value)},KT H l m->∀x∈m,(tupleKind (vq P w)).is h x.1 x.2.1:=by
  intro l m q
  induction q with
  |nil=>intro x hx; exact nomatch hx
  | @cons p q ps qs hq t ih =>
   intro x hx;rcases Uw.mp hx with e|hx
   ·subst e
    exact Kf ok (by rw[<-hq.1]; exact hq.2.1)
   ·exact ih x hx
 exact all r x hx
theorem dt_of(ok:HOk P w H h)(e:H a=some (.dT kvs)):kvs.length<=sizeLine/\(a==sysModules)=false /\
  ∃xs,KT H kvs xs/\h.DictOfH (tupleKind (vq P w)) a xs:=GF ok (.inl e)
end
def DGet(H:Hp)(a:Addr)(y:V)(r:Option V):Prop :=
 (∃kvs k,Rd H a (.dK kvs)/\y=kV k/\r=valV kvs k)\/∃kvs k b,Rd H a (.dT kvs)/\y=.ref b/\H b=some (.tup (k.map kV))/\r=valV kvs k
def DPut(H:Hp)(a:Addr)(y v:V)(H':Hp):Prop :=
 (∃kvs k,H a=some (.dK kvs)/\y=kV k/\kvs.length<sizeLine/\H'=upd H a (.dK (putK kvs k v))) \/
 ∃kvs k b,H a=some (.dT kvs)/\y=.ref b/\H b=some (.tup (k.map kV))/\kvs.length<sizeLine/\H'=upd H a (.dT (putK kvs k v))
theorem DGet.k{k:Key}(e:H a=some (.dK kvs)):DGet H a (kV k) (valV kvs k):=.inl ⟨kvs,k, .inl e,rfl,rfl⟩
theorem DGet.t{k:List Key}(e:H a=some (.dT kvs))(eb:H b=some (.tup (k.map kV))):DGet H a (.ref b) (valV kvs k):=.inr ⟨kvs,k,b, .inl e,rfl,eb,rfl⟩
theorem DPut.k{k:Key}(e:H a=some (.dK kvs))(hl:kvs.length<sizeLine):DPut H a (kV k) v (upd H a (.dK (putK kvs k v))):=.inl ⟨kvs,k,e,rfl,hl,rfl⟩
theorem DPut.t{k:List Key}(e:H a=some (.dT kvs))(eb:H b=some (.tup (k.map kV)))(hl:kvs.length<sizeLine) :
  DPut H a (.ref b) v (upd H a (.dT (putK kvs k v))):=.inr ⟨kvs,k,b,e,rfl,eb,hl,rfl⟩
section
theorem Inv.big(I:Inv X pins σ H s):sysModules<s.heap.objs.size:=by
 have h:mainGlobals<s.heap.objs.size:=(I.mod.glob.keeps I.bk).lt;exact Nat.lt_trans (by decide) h
theorem GO(hu:A.units+1<cLine)(I:Inv X pins σ H s)(g:DGet H a y (some v))(ry:RelV y u)(h:∀w' s',Inv X pins σ H s'->RelV v w'->Q w' s') :
  wpAny (model X.prog X.w) A (getItem (.ref a) u) Q E s:=by
 rcases g with⟨kvs,k,e,ey,l⟩|⟨kvs,k,b,e,ey,eb,l⟩
 ·subst ey
  obtain⟨z,hd,vs,rel,dd⟩:=GG I.hok e;obtain⟨w',hw,rw'⟩:=RelO.some_of (v:=v) (o:=valueAt vs k) (by rw[l]; exact rel.val k);exact wpAny_getItem_of (Yj ry) dd.mapOf hw (h w' _ (I.tok _) rw')
 ·subst ey
  cases(show u=Value.ref b from ry);obtain⟨z,hd,xs,rel,dd⟩:=GF I.hok e;obtain⟨w',hw,rw'⟩:=RelO.some_of (v:=v) (o:=(atKey xs k).map (·.2)) (by rw[l]; exact rel.val k);obtain⟨p,hp,hp2⟩:=DB.mp hw;refine wpAny_getItem_heap (tupleKind_room_in1 hu) (Kf I.hok eb) dd hp ?_;rw[hp2];exact h w' _ (I.tok _) rw'
theorem JA(I:Inv X pins σ H s)(mu:Mut (H a))(hs:Heap.SameBut a s.heap h')(he:∃q,h'.get? a=some q)(new:ObjOk X.prog X.w (upd H a ob) h' a ob) :
  Inv X pins σ (upd H a ob) { s with heap:=h',toks:=t' } :=
 I.write (x:=a) (e:=a) mu (.inl rfl) (λb q hb z=>(hs.2 b hb).trans z) he new
theorem dk_new(z:kvs.length<=sizeLine)(hd:(a==sysModules)=false)(rel:KV kvs vs)(dd:h'.DictOf (vq P w) a vs) :
  ObjOk P w H' h' a (.dK kvs):=⟨z,hd,vs,rel,dd⟩
theorem GN(hu:A.units+1<cLine)(I:Inv X pins σ H s)(g:DPut H a y v H')(ry:RelV y u)(rv:RelV v r)(h:∀s',Inv X pins σ H' s'->Q () s') :
  wpAny (model X.prog X.w) A (setItem (.ref a) u r) Q E s:=by
 rcases g with⟨kvs,k,e,ey,l,eH⟩|⟨kvs,k,b,e,ey,eb,l,eH⟩
 ·subst ey eH
  obtain⟨z,hd,vs,rel,dd⟩:=dk_of I.hok e;have hz:vs.length<=sizeLine:=by rw[<-rel.length]; exact z
  have hl:(putK kvs k v).length<=sizeLine:=by have:=jr kvs k v; lia
  refine wpAny_setItem_pairs (hsz:=hz) (Yj ry) dd λh' dd' hs=>h _ ?_;have he:∃q,h'.get? a=some q:=let⟨q,_,_,hq,_⟩:=dd'; ⟨q,hq⟩;exact JA I (by rw[e]; exact True.intro) hs he (dk_new hl hd (rel.put k rv) dd')
 ·subst ey eH
  cases(show u=Value.ref b from ry);obtain⟨z,hd,xs,rel,dd⟩:=dt_of I.hok e;have hz:xs.length<=sizeLine:=by rw[<-Paired.length rel]; exact z
  have hl:(putK kvs k v).length<=sizeLine:=by have:=jr kvs k v; lia
  refine wpAny_setItem_heap (hsz:=hz) (tupleKind_room_in1 hu) (Kf I.hok eb) dd λh' dd' hs=>h _ ?_;obtain⟨q,es,ep,hq,h2,h3,h4,_,h5⟩:=dd';refine JA I (by rw[e]; exact True.intro) hs ⟨q,hq⟩ ⟨hl,hd,_,(rel.put k eb rv).keeps λc ys ec=>?_,q,es,ep,hq,h2,h3,h4,h5⟩;rw[upd_ne (ne_of ec e (λz=>nomatch z))];exact ec
end
def NoSl(i:Expr):Prop:=∀ov iv,subscripted i false ov iv=operate [ov,iv] (getItem ov iv)
theorem YQ{prog:Program}{w:World}{A:Around}{E:Value->Shared->Prop}{s:Shared}{env:Env}{value slice:Expr}{pos:Pos}{T id:String}{Q:Value->Shared->Prop}(hl:typeLookup (.type T) "__getitem__" = pure (some (.builtin id)))(hs:NoSl slice)(h:wpAny (model prog w) A (eval value env) (λo s₁=>wpAny (model prog w) A (eval slice env) (λi s₂=>s₂.TypeIs o T/\wpAny (model prog w) A (getItem o i) Q E s₂) E s₁) E s) :
  wpAny (model prog w) A (eval (.Subscript value slice pos) env) Q E s:=by
 refine Subscript_ (wpAny_mono h (λo s₁ h₁=>wpAny_mono h₁ (λi s₂ h₂=>?_) λ_ _ x=>x) λ_ _ x=>x);obtain⟨hT,h₂⟩:=h₂;unfold subscriptTail;refine wpAny_bind ?_;rw[getitemInPython_of_ne hT.not_modules];refine wpAny_bind (wpAny_specialOf hT hl ?_);have fin:wpAny (model prog w) A (subscripted slice false o i) (λr s₃=>wpAny (model prog w) A (letTemporaryGo value o r >>= λ_=>pure r) Q E s₃) E s₂:=by
  rw[hs o i];exact wpAny_operating (wpAny_mono h₂ (λr s₃ h₃=>wpAny_bind (wpAny_letTemporaryGo (wpAny_pure h₃))) λ_ _ x=>x)
 first
  |exact wpAny_pure (wpAny_bind fin)
  |exact wpAny_bind (wpAny_pure (wpAny_bind fin))
  |exact wpAny_bind fin
theorem Jz(I:Inv X pins σ H s)(g:DGet H a y o):s.TypeIs (.ref a) "dict" := by
 rcases g with⟨kvs,k,e,_,_⟩|⟨kvs,k,b,e,_,_,_⟩
 ·obtain⟨_,_,vs,_,dd⟩:=GG I.hok e
  exact dd.typeIs
 ·obtain⟨_,_,xs,_,dd⟩:=GF I.hok e
  exact dd.typeIs
def YN(td ty:TE):TE:=λσ H Q=>td σ H λx H1=>ty σ H1 λy H2=>∃a v,x=.ref a/\DGet H2 a y (some v)/\Q v H2
def sDPut(td ty tv:TE):TS:=λD σ H=>tv σ H λv H1=>td σ H1 λx H2=>ty σ H2 λy H3=>∃a H4,x=.ref a/\DPut H3 a y v H4/\D.nx σ H4
section
end
theorem Kr(h:Heap)(hb:sysModules<h.objs.size):ObjOk P w H (h.push { cls:=.type "dict", data:=.dict #[] }) h.objs.size (.dK []) :=
 ⟨U4 _,beq_eq_false_iff_ne.mpr (Ne.symm (UJ hb)), [], .nil,Heap.DictOf.new h⟩
def JY:TE:=λ_ H Q=>∀p,H p=none->Q (.ref p) (upd H p (.dK []))
section
end
def JX:List (TE×TE)->St->Hp->(List (V×V)->Hp->Prop)->Prop
 | [],_,H,Q=>Q [] H
 | (tk,tv)::r,σ,H,Q=>tk σ H λx H1=>tv σ H1 λy H2=>JX r σ H2 λps H3=>Q ((x,y)::ps) H3
abbrev VV:List (V×V)->List (Value×Value)->Prop:=Paired λp q=>RelV p.1 q.1/\RelV p.2 q.2
def PPs(X:Cx)(pos:Pos)(keys:List (Option Expr))(values:List Expr)(trs:List (TE×TE)):Prop :=
 ∀(pins:List (Addr×Obj))(s:Shared)(σ:St)(H:Hp)(Q:List (V×V)->Hp->Prop),Inv X pins σ H s->JX trs σ H Q ->
  wpAny (model X.prog X.w) X.A (evalPairs (pairTrees keys values X.env pos)) (λvs s'=>∃ps H',Inv X pins σ H' s'/\VV ps vs/\Q ps H') X.xe s
theorem pps_nil:PPs X pos [] [] []:=λpins s σ H Q I h=>pairTrees_nil_walk ⟨[],H,I, .nil,h⟩
def Qm(kvs more:List (Key×V)):List (Key×V):=more.foldl (λacc kv=>putK acc kv.1 kv.2) kvs
theorem KV.merge:∀{more:List (Key×V)}{rs:List (Key×Value)}{kvs:List (Key×V)}{vs:List (Key×Value)},KV more rs->KV kvs vs->KV (Qm kvs more) (merged vs rs):=by
 intro more rs kvs vs r;unfold KV at r
 induction r generalizing kvs vs with
 |nil=>intro q; exact q
 | @cons p q ps qs h t ih =>
  intro r0;have e:KV (putK kvs p.1 p.2) (stored vs q.1 q.2):=by
   have:=r0.put p.1 h.2;rw[<-h.1]; exact this
  exact ih e
theorem jH:∀(more kvs:List (Key×V)),(Qm kvs more).length<=kvs.length+more.length
 | [],kvs=>by show kvs.length<=kvs.length+0; lia
 |p::r,kvs=>by
  have h1:=jH r (putK kvs p.1 p.2);have h2:=jr kvs p.1 p.2;show(Qm (putK kvs p.1 p.2) r).length<=_;rw[Ur]; lia
theorem Vh:∀{kvs:List (Key×V)}{ws:List (Value×Value)},VV (kvs.map λkv=>(kV kv.1,kv.2)) ws->∃rs,Carries (vq P w) ws rs/\KV kvs rs
 | [],_,r=>by rw[DG] at r; cases r; exact⟨[],True.intro, .nil⟩
 |p::kvs,_,r=>by
  rw[UQ] at r;cases r with
  | @cons a b as bs h t =>
   obtain⟨rs,c,q⟩:=Vh (P:=P) (w:=w) t;obtain⟨b1,b2⟩:=b;exact⟨(p.1,b2)::rs,⟨Yj h.1,rfl,c⟩, .cons ⟨rfl,h.2⟩ q⟩
def tDisp(trs:List (TE×TE)):TE:=λσ H Q=>∀p,H p=none->JX trs σ (upd H p (.dK [])) λps H2=>H2 p=some (.dK [])/\∃kvs:List (Key×V),ps=kvs.map (λkv=>(kV kv.1,kv.2))/\kvs.length<=15/\Q (.ref p) (upd H2 p (.dK (Qm [] kvs)))
structure M1(X:Cx)(o:Expr)(m:Str)(apos:Pos)(e:Expr)(cpos:Pos):Prop where
 base:attributeBase o m X.env (eval o X.env)=eval o X.env
 few:((backTo cpos (starEach [e] X.env)).all (λx => !x.1)&&(backToKw cpos (keywordEach [] X.env)).all (λx=>x.1.isSome)
  && decide (([e]:List Expr).length+([]:List Keyword).length+(if([]:List Keyword).isEmpty then 0 else 1)<30))=true
 line:(apos.endLine==cpos.line)=true
 trees:backTo cpos (starEach [e] X.env)=[(false,eval e X.env)]
structure M2(X:Cx)(o:Expr)(m:Str)(apos:Pos)(e f:Expr)(cpos:Pos):Prop where
 base:attributeBase o m X.env (eval o X.env)=eval o X.env
 few:((backTo cpos (starEach [e,f] X.env)).all (λx => !x.1)&&(backToKw cpos (keywordEach [] X.env)).all (λx=>x.1.isSome)
  && decide (([e,f]:List Expr).length+([]:List Keyword).length+(if([]:List Keyword).isEmpty then 0 else 1)<30))=true
 line:(apos.endLine==cpos.line)=true
 trees:backTo cpos (starEach [e,f] X.env)=[(false,eval e X.env),(false,eval f X.env)]
def IsD(H:Hp)(a:Addr):Prop:=(∃kvs,Rd H a (.dK kvs))\/∃kvs,Rd H a (.dT kvs)
theorem isD_at(I:Inv X pins σ H s)(d:IsD H a) :
  s.TypeIs (.ref a) "dict" /\ (∀b,Value.ref a=.ref b->∃ob,s.heap.get? b=some ob/\ob.dict=none)/\(a==sysModules)=false:=by
 rcases d with⟨kvs,e⟩|⟨kvs,e⟩
 ·obtain⟨_,hd,vs,_,dd⟩:=GG I.hok e
  refine⟨dd.typeIs,λb q=>?_,hd⟩;cases q;obtain⟨ob,_,_,h1,h2,_⟩:=dd;exact⟨ob,h1,h2.2.1⟩
 ·obtain⟨_,hd,xs,_,dd⟩:=GF I.hok e
  refine⟨dd.typeIs,λb q=>?_,hd⟩;cases q;obtain⟨ob,_,_,h1,h2,_⟩:=dd;exact⟨ob,h1,h2.2.1⟩
section
theorem d_get1(hu:A.units+1<cLine)(I:Inv X pins σ H s)(g:DGet H a y o)(ry:RelV y u)(h:∀w' s',Inv X pins σ H s'->RelV (o.getD .non) w'->Q w' s') :
  wpAny (model X.prog X.w) A (call (.builtin "dict.get") [.ref a,u]) Q E s:=by
 rcases g with⟨kvs,k,e,ey,l⟩|⟨kvs,k,b,e,ey,eb,l⟩
 ·subst ey
  obtain⟨z,hd,vs,rel,dd⟩:=GG I.hok e;refine call_meetsIn PySem.F.slot_dict_get dd.typeIs PySem.F.entry_dict_get (PySem.F.args_dict_get_2 _ _) (meets_dict_get (vq X.prog X.w) a (Yj ry) hd) ⟨_,dd.mapOf,h _ _ (I.tok _) ?_⟩;rw[l];exact(rel.val k).getD rfl
 ·subst ey
  cases(show u=Value.ref b from ry);obtain⟨z,hd,xs,rel,dd⟩:=GF I.hok e;refine call_meetsIn PySem.F.slot_dict_get dd.typeIs PySem.F.entry_dict_get (PySem.F.args_dict_get_2 _ _) (meetsH_dict_get (tupleKind (vq X.prog X.w)) a b hd) ⟨tupleKind_room_in1 hu,k,xs,Kf I.hok eb,dd,h _ _ (I.tok _) ?_⟩;rw[l];exact(rel.val k).getD rfl
end
def JZ(td ty:TE):TE:=λσ H Q=>td σ H λx H1=>∃a,x=.ref a/\IsD H1 a/\ty σ H1 λy H2=>∃o,DGet H2 a y o/\Q (o.getD .non) H2
section
end
def cxC(X:Cx)(scope:Scope)(cl:List (Str×Addr))(M:List Str)(fp:List Addr)(s:Shared)(H:Hp):Cx :=
 { X with N:=M,s₀:=s,H₀:=H,env:=compEnvC scope cl s.heap.objs.size X.env,outer:=X.stack,stack:=X.stack,ex:=fp,fn:=λ_=>false,pn:=[],xe:=λ_ _=>False }
def zN(bs:List Bool)(n:Nat)(σ:St):St:=(bs.zip σ).map (λp=>if p.1 then p.2 else none)++List.replicate n none
def ExtS(σ τ:St):Prop:=∀(i:Nat) v,σ[i]?=some (some v)->τ[i]?=some (some v)
theorem ExtS.refl(σ:St):ExtS σ σ:=λ_ _ h=>h
theorem ExtS.trans(h:ExtS a b)(k:ExtS b c):ExtS a c:=λi v e=>k i v (h i v e)
theorem ExtS.put(h:ExtS σ τ)(e:σ[i]?=some none):ExtS σ (τ.set i (some v)):=λj w q=>by
 by_cases hj:i=j
 ·subst hj; rw[e] at q; cases q
 ·rw[UW hj]; exact h j w q
def CompW(J:It)(acc:Addr)(g:TG)(tt:TT)(te:TE)(σ0:St)(H1:Hp)(Q:VK):Prop:=∃W:Nat->Nat->Hp->Prop,(∃m,W 0 m (upd H1 acc (.lst []))) /\
 ∀i m H2,W i m H2->(J.stop i H2/\Q (.ref acc) H2)\/(J.go i H2/\∃N:Hp->Prop,(∀H',N H'->∃m',m'<m/\W (i+1) m' H')/\∀x H3,J.yld i H2 x H3->g x σ0 H3 λσ4 H4=>(ExtS σ0 σ4/\σ4.length=σ0.length)/\tt σ4 H4 λb H5 =>
  if b=true then te σ4 H5 λv H6=>∃ys,H6 acc=some (.lst ys)/\ys.length<sizeLine/\N (upd H6 acc (.lst (ys++[v]))) else N H5)
def jc(wi:TI)(bs:List Bool)(n:Nat)(g:TG)(tt:TT)(te:TE):TE:=λσ H Q=>wi σ H λJ H1=>∀acc,H1 acc=none->CompW J acc g tt te (zN bs n σ) H1 Q
def PTs(X:Cx)(ifs:List Expr)(t:TT):Prop :=
 ∀(pins:List (Addr×Obj))(s:Shared)(σ:St)(H:Hp)(Q:Bool->Hp->Prop),Inv X pins σ H s->t σ H Q ->
  wpAny (model X.prog X.w) X.A (forIn ifs true λc r=>if r=true then do let ok <-isTrue c X.env (eval c X.env); pure (ForInStep.yield ok) else pure (ForInStep.yield r)) (TP X pins σ Q) X.xe s
def tYes:TT:=λ_ H Q=>Q true H
theorem pts_nil:PTs X [] tYes:=λ_ _ _ H _ I h=>wpAny_tests_nil ⟨H,I,h⟩
structure CompS(X:Cx)(scope:Scope)(cl:List (Str×Addr))(bs:List Bool)(ext:List Str):Prop where
 clos:closureFor scope X.env=pure cl
 cell:∀y∈scope.names,y.2 ≠ .cell
 kind:scope.kind=.function
 names:∀y∈scope.names,y.2=.local->scope.names.lookup y.1=some .local
 sub:∀x c,cl.lookup x=some c->X.env.cells.lookup x=some c
 has:∀x,((relabel scope X.env).names.lookup x=some .cell\/(relabel scope X.env).names.lookup x=some .free)->∃c,cl.lookup x=some c
 len:bs.length=X.N.length
 vis:∀(i:Nat) x,X.N[i]?=some x->bs[i]?=some true->Vis (relabel scope X.env) x->(relabel scope X.env).names.lookup x≠some .local/\(X.env.kindOf x=some .cell\/X.env.kindOf x=some .free)/\Vis X.env.scope x
theorem WY(h:bs.length=σ.length):(zN bs n σ).length=σ.length+n:=by
 unfold zN; simp[h]
theorem WZ(h:bs.length=σ.length)(e:(zN bs n σ)[i]?=some (some v)):i<σ.length/\bs[i]?=some true/\σ[i]?=some (some v):=by
 unfold zN at e;by_cases hi:i<σ.length
 ·rw[Uo (by simp[h]; exact hi),UU] at e
  have hb:i<bs.length:=by lia
  rw[Uk (by simp[h]; exact hi)] at e;simp only[List.getElem_zip,Option.map_some] at e;split at e
  ·rename_i hb2
   refine⟨hi, ?_, ?_⟩
   ·rw[Uk hb]; rw[hb2]
   ·rw[Uk hi]; exact e
  ·cases e
 ·rw[Uz (by simp[h]; lia),DO] at e
  split at e<;>cases e
section
theorem cxC_ok(S:CompS X scope cl bs ext)(I:Inv X pins σ H s)(hf:∀b∈fp,FpOk X pins H b)(hfs:∀b∈fp,b<s.heap.objs.size) :
  (cxC X scope cl (X.N++ext) fp s H).Ok where
 mod:=I.ok.mod
 kind:=S.kind
 glob:=I.ok.glob
 blt:=I.ok.blt
 above:=Up _
 inj:=λx y c a b=>I.ok.inj x y c (S.sub x c a) (S.sub y c b)
 has:=S.has
 cab:=λx c h=>nomatch h
 hd:=I.ok.hd
 frames:=I.ok.frames
 stk:=.inl rfl
 exf:=λb hb=>⟨UJ (hfs b hb),λx c e=>(hf b hb).2.2.2.2.1 x c (S.sub x c e)⟩
 bs:=I.bs
 bsz:=UY I.ok.bsz I.sz
 noex:=λb o e hb=>by
  rcases(hf b hb).2.2.2.1 with z|z
  ·exact I.ok.noex b o e z
  ·exact absurd (Uy (Uy (Heap.lt_size e) I.ok.bsz) z) (Dh _)
 exfs:=λb hb z=>by
  rcases Uw.mp (I.stkSub b z) with q|q
  ·exact(hf b hb).2.1 q
  ·exact(hf b hb).2.2.1 q
 funs:=I.stack
 frf:=I.stkFree
theorem GP(S:CompS X scope cl bs ext)(I:Inv X pins σ H s)(hf:∀b∈fp,FpOk X pins H b)(hfs:∀b∈fp,b<s.heap.objs.size)(hn:h1.Ns s.heap.objs.size (λ_=>none))(k:∀b o,s.heap.get? b=some o->h1.get? b=some o) :
  Inv (cxC X scope cl (X.N++ext) fp s H) [] (zN bs ext.length σ) H { s with heap:=h1,toks:=t' }:=by
 have hl:bs.length=σ.length:=S.len.trans I.len.symm;have cellk:∀c v,s.heap.IsCell c v->h1.IsCell c v:=λc v ⟨o,ho,hd⟩=>⟨o,k c o ho,hd⟩;refine⟨cxC_ok S I hf hfs,rfl,I.bare,Un.kept k,⟨_,hn,λi x v e1 e2 e3=>?_⟩,λx c e=>?_,I.hok.fresh (Up _),λx c e=>I.freeC x c (S.sub x c e),λp hp=>absurd hp (by simp[cxC]),I.hok.kept k, ?_⟩
 ·obtain⟨hi,hb,hs⟩:=WZ hl e2
  have e1':X.N[i]?=some x:=by
   have e1'':(X.N++ext)[i]?=some x:=e1;rwa [Uo (by have:=I.len; lia)] at e1''
  obtain⟨nl,kk,vv⟩:=S.vis i x e1' hb e3;obtain⟨m,_,hloc⟩:=I.loc;obtain⟨u,r,l⟩:=hloc i x v e1' hs vv;refine⟨u,r, .inr ⟨?_, ?_⟩⟩
  ·rcases e3 with z|z|z
   ·exact absurd z nl
   ·exact .inl z
   ·exact .inr z
  ·have hc:=S.has x (by
    rcases e3 with z|z|z
    ·exact absurd z nl
    ·exact .inl z
    ·exact .inr z)
   obtain⟨c,hc⟩:=hc;rcases l with⟨kl,_⟩|⟨_,c',hc',hcell⟩
   ·rcases kk with z|z<;>(rw[kl] at z; cases z)
   ·rw[S.sub x c hc] at hc'
    cases hc';exact⟨c,hc,cellk c _ hcell⟩
 ·obtain⟨v,z⟩:=I.cell x c (S.sub x c e)
  exact⟨v,cellk c v z⟩
 ·rw[WY hl,I.len]; show _=(X.N++ext).length; simp
theorem GQ(I:Inv X pins σ H s)(hf:∀b∈fp,FpOk X pins H b)(J:Inv (cxC X scope cl (X.N++ext) fp s H) pins' σ' H' s')(sb:Heap.SameBut s.heap.objs.size s'.heap h'):Inv X pins σ H' { s' with heap:=h' }:=by
 have B:Un (frs X.stack) fp H H' s.heap s'.heap:=J.base;have nC:∀b o,s.heap.get? b=some o->b≠s.heap.objs.size:=λb o e=>UJ (Heap.lt_size e);refine I.call' (ch:=fp) (s':={ s' with heap:=h' }) J.os ⟨λb o e n hb hx=>?_,λb o e n hb hx=>?_,λb o e n hx=>B.free b o e n hx,λb o e hx=>?_,B.tups,B.frzs,B.tbls⟩ ?_ J.bare λb hb=>⟨(hf b hb).2.2.2.1,(hf b hb).2.1,(hf b hb).2.2.2.2.1,(hf b hb).2.2.2.2.2⟩
 ·exact sb.extBut b o (nC b o e) (B.keep b o e n hb hx)
 ·obtain⟨sl,q⟩:=B.slot b o e n hb hx
  exact⟨sl,sb.extBut b _ (nC b o e) q⟩
 ·obtain⟨o',q⟩:=B.there b o e hx
  exact⟨o',sb.extBut b o' (nC b o e) q⟩
 ·intro a o e
  have fr:H' s.heap.objs.size=none:=J.free;refine(J.hok a o e).stay (λb u hb q=>sb.extBut b u ?_ q) (λ_ q=>q) λ_ _ q=>q;rcases hb with z|z
  ·subst z; intro z; rw[z,fr] at e; cases e
  ·intro z2; rw[z2,fr] at z; cases z
end
section
theorem Ks(S:CompS X scope cl bs ext)(hc:X.calm=true)(hi:PI X tg iter wi)(hg:∀fp s H,PG (cxC X scope cl (X.N++ext) fp s H) tg g)(ht:∀fp s H,PTs (cxC X scope cl (X.N++ext) fp s H) ifs tt)(he:∀fp s H,PE (cxC X scope cl (X.N++ext) fp s H) elt te)(hs:∀x,foldedSetIterable iter X.env x=pure x)(I:Inv X pins σ H s)(h:jc wi bs ext.length g tt te σ H Q)(ep:Pos)(hend:∀(acc:Addr)(s2:Shared)(H2:Hp)(fp:List Addr)(σ':St)(H':Hp)(s':Shared),Inv X pins σ H2 s2->(∀b∈fp,FpOk X pins H2 b)->Inv (cxC X scope cl (X.N++ext) fp s2 H2) [] σ' H' s'->Q (.ref acc) H' ->
   compPost (model X.prog X.w) X.A X.xe use RR (.ref acc) s2.heap.objs.size (.ok .next) s') :
  wpAny (model X.prog X.w) X.A (comprehension (.ListComp elt [⟨tg,iter,ifs,0⟩] scope pos) scope X.env ep (newList []) false (eval iter X.env) use) RR X.xe s:=by
 refine wpAny_comprehension_free (use:=use) rfl hs S.clos S.kind S.names (thn (hi pins s σ H _ I h) λv s1 h1=>thn h1 λitv s2 h2=>?_);obtain⟨it,fp,tn,J,H2,e,I2,T,st2,f2,hW⟩:=h2;subst e;refine wpAny_newList ?_ (by decide);have hn2:H2 s2.heap.objs.size=none:=I2.hok.fresh (Up _);obtain⟨W,⟨m0,w0⟩,turn⟩:=hW s2.heap.objs.size hn2;have I3:=I2.lnew (its:=[]) (ys:=[]) (t':=s2.toks) .nil (U4 _);generalize hs3:({ s2 with heap:=s2.heap.push { cls:=.type "list", data:=.seq ([]:List Value).toArray },toks:=s2.toks }:Shared)=s3 at I3;have hsz3:s3.heap.objs.size=s2.heap.objs.size+1:=by rw[<-hs3]; exact Heap.size_push ..
 have k3:∀b o,s2.heap.get? b=some o->s3.heap.get? b=some o:=λb o e=>by rw[<-hs3]; exact Heap.get?_push_of_some _ e
 have fpo:∀b∈fp,b<s2.heap.objs.size:=λb hb=>by obtain⟨o,e,_⟩:=T.obj _ _ st2 b hb; exact Heap.lt_size e
 have f3:∀b∈fp,FpOk X pins (upd H2 s2.heap.objs.size (.lst [])) b:=λb hb=>⟨by rw[upd_ne (UJ (fpo b hb))]; exact(f2 b hb).1,(f2 b hb).2⟩;have fps:∀b∈fp,b<s3.heap.objs.size:=λb hb=>by rw[hsz3]; exact Nat.lt_succ_of_lt (fpo b hb)
 have st3:tn 0 s3.heap:=T.keep _ _ _ st2 λb hb o e=>k3 b o e;refine wpAny_newFunctionEnv S.cell (by intro y hy; simp at hy) (λh4 hns4 hsb4=>?_) S.kind;have k4:∀b o,s3.heap.get? b=some o->h4.get? b=some o:=λb o e=>hsb4.extBut b o (UJ (Heap.lt_size e)) (Heap.get?_push_of_some _ e);have I4:=GP (ext:=ext) (t':=s3.toks+([]:List (Str×Value)).length) S I3 f3 fps (h1:=h4) hns4 k4;have st4:tn 0 h4:=T.keep _ _ _ st3 λb hb o e=>k4 b o e;generalize hs4:({ s3 with heap:=h4,toks:=s3.toks+([]:List (Str×Value)).length }:Shared)=s4 at I4 ⊢;have st4':tn 0 s4.heap:=by rw[<-hs4]; exact st4
 -- the block
 generalize hY:cxC X scope cl (X.N++ext) fp s3 (upd H2 s2.heap.objs.size (.lst []))=Y at I4;have hYs:∀{H':Hp},(∀b∈fp,H' b=none)->∀b∈fp,FpOk Y [] H' b:=λhn b hb=>by
  subst hY;refine⟨hn b hb,UJ (fps b hb),λz=>?_, .inl hb,λx c e=>(f3 b hb).2.2.2.2.1 x c (S.sub x c e),λp hp=>absurd hp (by simp[cxC])⟩;rcases Uw.mp (I3.stkSub b z) with q|q
  ·exact(f3 b hb).2.1 q
  ·exact(f3 b hb).2.2.1 q
 have hgY:PG Y tg g:=by subst hY; exact hg _ _ _
 have htY:PTs Y ifs tt:=by subst hY; exact ht _ _ _
 have heY:PE Y elt te:=by subst hY; exact he _ _ _
 have hYc:Y.calm=true:=by subst hY; exact hc
 have hYm:Y.prog=X.prog/\Y.w=X.w/\Y.K=X.K/\Y.A=X.A/\Y.env=compEnvC scope cl s3.heap.objs.size X.env/\Y.xe=λ_ _=>False:=by subst hY; exact⟨rfl,rfl,rfl,rfl,rfl,rfl⟩
 obtain⟨e1,e2,e3,e4,e5,e6⟩:=hYm;have never:∀{α:Type}{t:Sem α}{Q:α->Shared->Prop}{s:Shared}{E:Value->Shared->Prop},wpAny (model Y.prog Y.w) Y.A t Q Y.xe s->wpAny (model X.prog X.w) X.A t Q E s:=λ{α t Q s E} q=>by
  rw[e1,e2,e4,e6] at q;exact wpAny_mono q (λ_ _ z=>z) λ_ _ z=>z.elim
 have loop:codeAny (model X.prog X.w) X.A (.compLoop (.ListComp elt [⟨tg,iter,ifs,0⟩] scope pos) 0 (.ref it) (.ref s2.heap.objs.size) (compEnvC scope cl s3.heap.objs.size X.env))
   (compPost (model X.prog X.w) X.A X.xe use RR (.ref s2.heap.objs.size) s3.heap.objs.size) s4:=by
  refine codeAny_loop rfl (λn s'=>∃i H',Inv Y [] (zN bs ext.length σ) H' s'/\tn i s'.heap/\(∀b∈fp,H' b=none)/\W i n H') (λn s5 hI=>?_) m0 ⟨0,_,I4,st4',λb hb=>(f3 b hb).1,w0⟩;obtain⟨i,H5,I5,st5,fr5,w5⟩:=hI;show wpAny _ X.A ((compTurn (.ListComp elt [⟨tg,iter,ifs,0⟩] scope pos) 0 (.ref it) (.ref s2.heap.objs.size) (compEnvC scope cl s3.heap.objs.size X.env)).onRaise (λx=>do noteFrame x (compEnvC scope cl s3.heap.objs.size X.env); theTreesLotGoes x)) _ _ s5;refine wpAny_noted ?_;rw[compTurn_list];rcases turn i n H5 w5 with⟨stop,qn⟩|⟨go,N,hN,step⟩
  ·refine wpAny_bind (wpAny_standAt (wpAny_bind ?_))
   have hd:=T.done Y e1 e2 e3 hYc i [] s5 _ H5 (λ_ _=>False) I5 (hYs fr5) st5 stop;rw[e4] at hd;refine wpAny_mono hd (λr s6 ⟨hr,I6⟩=>?_) λ_ _ z=>z.elim;subst hr;subst hY;exact wpAny_pure (hend s2.heap.objs.size s3 _ fp _ H5 s6 I3 f3 I6 qn)
  ·refine wpAny_bind (wpAny_standAt (wpAny_bind ?_))
   have hd:=T.item Y e1 e2 e3 hYc i [] s5 _ H5 (λ_ _=>False) I5 (hYs fr5) st5 go;rw[e4] at hd;refine wpAny_mono hd (λr s6 ⟨u,hr,h6⟩=>?_) λ_ _ z=>z.elim;subst hr;refine wpAny_bind (wpAny_mono h6 (λ_ s7 ⟨x,H7,I7,r7,y7,st7,fr7⟩=>?_) λ_ _ z=>z.elim);have I7':=I7.pinned (hYs fr7) (T.obj _ _ st7);rw[<-e5];refine wpAny_bind (never (thn (hgY _ s7 _ H7 x u _ I7' r7 (step x H7 y7)) λ_ s8 ⟨σ8,H8,I8,⟨hx8,hl8⟩,q8⟩=>?_));refine wpAny_bind (never (thn (htY _ s8 σ8 H8 _ I8 q8) λb s9 ⟨H9,I9,q9⟩=>?_));have again:∀{H10:Hp}{s10:Shared}{m':Nat},Inv Y ([]++ZJ fp s7.heap) σ8 H10 s10->m'<n->W (i+1) m' H10->∃m,m<n/\∃i H',Inv Y [] (zN bs ext.length σ) H' s10/\tn i s10.heap/\(∀b∈fp,H' b=none)/\W i m H':=λ{H10 s10 m'} I10 hm w10=>by
    refine⟨m',hm,i+1,H10,(I10.unpinned).weak hl8.symm hx8,T.keep _ _ _ st7 λb hb o e=>(I10.pin (b,o) (UB _ (UB _ (xK hb e)))).1,λb hb=>?_,w10⟩;obtain⟨o,e,d⟩:=T.obj _ _ st7 b hb;exact(I10.pin (b,o) (UB _ (UB _ (xK hb e)))).2.1
   cases b with
   |false =>
    rw[if_neg Uv] at q9;obtain⟨m',hm,w9⟩:=hN _ q9;exact wpAny_pure ⟨by rw[e5],again I9 hm w9⟩
   |true =>
    rw[if_pos rfl] at q9;refine wpAny_bind (wpAny_bind (never (thn (heY _ s9 σ8 H9 _ I9 q9) λxv s10 ⟨y,H10,I10,r10,ys,hys,hz,n10⟩=>?_)));obtain⟨m',hm,w10⟩:=hN _ n10;refine wpAny_bind (never (thn (zl (X:=Y) _ s10 σ8 H10 (.ref s2.heap.objs.size) [y] (.ref s2.heap.objs.size) [xv] (λ_ H=>∃m',m'<n/\W (i+1) m' H) I10 rfl (.cons r10 .nil) ⟨_,ys,y,rfl,rfl,hys,hz,m',hm,w10⟩) λ_ s11 ⟨_,H11,I11,_,m2,hm2,w11⟩=>?_));exact wpAny_pure (wpAny_pure ⟨by rw[e5],again I11 hm2 w11⟩)
 exact codeAny_compStart_list loop (T.self X.A 0 s4 _ _ st4' loop)
theorem pe_comp(S:CompS X scope cl bs ext)(hc:X.calm=true)(hi:PI X tg iter wi)(hg:∀fp s H,PG (cxC X scope cl (X.N++ext) fp s H) tg g)(ht:∀fp s H,PTs (cxC X scope cl (X.N++ext) fp s H) ifs tt)(he:∀fp s H,PE (cxC X scope cl (X.N++ext) fp s H) elt te)(hs:∀x,foldedSetIterable iter X.env x=pure x:=by intro _; rfl):PE X (.ListComp elt [⟨tg,iter,ifs,0⟩] scope pos) (jc wi bs ext.length g tt te):=by
 intro pins s σ H Q I h;rw[eval_ListComp];refine Ks (use:=none) S hc hi hg ht he hs I h _ λacc s2 H2 fp σ' H' s' I2 f2 J q=>?_;obtain⟨m,hn,_⟩:=J.loc;exact⟨m,hn,λh' sb=>⟨.ref acc,H',GQ I2 f2 J sb,rfl,q⟩⟩
theorem ps_comp(S:CompS X scope cl bs ext)(hc:X.calm=true)(hN:X.N.Nodup)(hix:X.N[i]?=some x)(hx:X.env.scope.names.lookup x=some .local)(hi:PI X tg iter wi)(hg:∀fp s H,PG (cxC X scope cl (X.N++ext) fp s H) tg g)(ht:∀fp s H,PTs (cxC X scope cl (X.N++ext) fp s H) ifs tt)(he:∀fp s H,PE (cxC X scope cl (X.N++ext) fp s H) elt te)(hsw:swapsWith (.ListComp elt [⟨tg,iter,ifs,0⟩] scope pos) (some (.Name x pos')) spos.line X.env=pure true)(hs:∀x,foldedSetIterable iter X.env x=pure x:=by intro _; rfl):PS X (.Assign [.Name x pos'] (.ListComp elt [⟨tg,iter,ifs,0⟩] scope pos) spos) (tAsg (jc wi bs ext.length g tt te) (vc i)):=by
 intro pins s σ H D I h;rw[exec_Assign_Name_used _ _ _ _ hsw];refine wpAny_bind (wpAny_standAt (wpAny_bind ?_));show wpAny _ X.A (do let _ <-comprehension (.ListComp elt [⟨tg,iter,ifs,0⟩] scope pos) scope X.env _ (newList []) false (eval iter X.env) (some (assign (.Name x pos') X.env))) _ _ s;refine wpAny_bind (wpAny_mono (Ks (use:=some (assign (.Name x pos') X.env)) (RR:=λ_ s'=>SP X pins D .next s') S hc hi hg ht he hs I h _ λacc s2 H2 fp σ' H' s' I2 f2 J q=>?_) (λ_ s' hq=>wpAny_pure (wpAny_pure hq)) λ_ _ e=>e);have I5:Inv X pins σ H' s':=by
  have:=GQ (h':=s'.heap) I2 f2 J (.refl ..);exact this
 show wpAny _ X.A (assign (.Name x pos') X.env (.ref acc)) _ _ s';obtain⟨m,hn,_⟩:=J.loc;have hCL:s2.heap.objs.size≠X.env.locals:=R3 I2.lt;have nC:∀b o,s2.heap.get? b=some o->b≠s2.heap.objs.size:=λb o e=>UJ (Heap.lt_size e);have cC:∀y c,X.env.cells.lookup y=some c->c≠s2.heap.objs.size:=λy c e=>by
  obtain⟨v,o,ho,_⟩:=I2.cell y c e;exact nC c o ho
 refine wpAny_assign_Name (Zy I5 hN hix (.inl hx) (v:=.ref acc) rfl (λs6 I6 k6=>?_) (.inr hx));obtain⟨a,sb6,ha⟩:=k6;have haC:a≠s2.heap.objs.size:=by
  rcases ha with z|z
  ·rw[z]; exact hCL.symm
  ·exact cC x a z
 refine⟨m,hn.sameBut sb6 haC.symm,λh' sb=>?_⟩;refine⟨_,H',I6.turned (t':=s6.toks) (it:=s2.heap.objs.size) (λb o hb e=>sb.extBut b o hb e) ?_ hCL (.inr (UY I2.ok.above (UC I2.lt))) cC λp hp=>?_,q⟩
 ·have fr:H' s2.heap.objs.size=none:=J.free
  exact fr
 ·exact nC p.1 p.2 (I2.pin p hp).1
end
theorem GT(Pv:Nat->Hp->Prop)(h0:Pv 0 (upd H1 acc (.lst [])))(hl:∀i H,i<=xs.length->Pv i H->SqL Ξ H a xs)(hs:∀i x H,xs[i]?=some x->Pv i H->g x σ0 H λσ4 H4=>(ExtS σ0 σ4/\σ4.length=σ0.length)/\tt σ4 H4 λb H5 =>
   if b=true then te σ4 H5 λv H6=>∃ys,H6 acc=some (.lst ys)/\ys.length<sizeLine/\Pv (i+1) (upd H6 acc (.lst (ys++[v]))) else Pv (i+1) H5)(hd:∀H,Pv xs.length H->Q (.ref acc) H):CompW (Itl Ξ a) acc g tt te σ0 H1 Q:=by
 refine⟨λi m H=>m=xs.length-i/\i<=xs.length/\Pv i H,⟨xs.length,by simp,U4 _,h0⟩, ?_⟩;rintro i m H ⟨rfl,hi,p⟩;have q:=hl i H hi p;by_cases hlt:i<xs.length
 ·refine .inr ⟨⟨xs,xs[i],q,by simp[hlt]⟩,Pv (i+1),λH' p'=>⟨xs.length-(i+1),by lia,rfl,hlt,p'⟩,λx H' y=>?_⟩
  obtain⟨e,y⟩:=y;subst e;exact hs i x _ (y xs q) p
 ·have e:i=xs.length:=by lia
  subst e;exact .inl ⟨⟨xs,q,Up _⟩,hd H p⟩
theorem Yo{lo:Int}(Pv:Nat->Hp->Prop)(h0:Pv 0 (upd H1 acc (.lst [])))(hs:∀(i:Nat) H,i<n->Pv i H->g (.int (lo+i)) σ0 H λσ4 H4=>(ExtS σ0 σ4/\σ4.length=σ0.length)/\tt σ4 H4 λb H5 =>
   if b=true then te σ4 H5 λv H6=>∃ys,H6 acc=some (.lst ys)/\ys.length<sizeLine/\Pv (i+1) (upd H6 acc (.lst (ys++[v]))) else Pv (i+1) H5)(hd:∀H,Pv n H->Q (.ref acc) H):CompW (Itr lo n) acc g tt te σ0 H1 Q:=by
 refine⟨λi m H=>m=n-i/\i<=n/\Pv i H,⟨n,by simp,U4 _,h0⟩, ?_⟩;rintro i m H ⟨rfl,hi,p⟩;by_cases hlt:i<n
 ·refine .inr ⟨hlt,Pv (i+1),λH' p'=>⟨n-(i+1),by lia,rfl,hlt,p'⟩,λx H' y=>?_⟩
  obtain⟨e,y⟩:=y;subst e y;exact hs i _ hlt p
 ·have e:i=n:=by lia
  subst e;exact .inl ⟨Up _,hd H p⟩
def clOf(env:Env):List (Str×NameKind)->List (Str×Addr)->List (Str×Addr)
 | [],cs=>cs
 | (n,k)::r,cs=>clOf env r (if(k==NameKind.free)=true then(n,(env.cells.lookup n).getD 0)::cs else cs)
theorem clos_eq(scope:Scope)(h:∀p∈scope.names,p.2=.free->∃c,env.cells.lookup p.1=some c):closureFor scope env=pure (clOf env scope.names []):=by
 unfold closureFor;generalize([]:List (Str×Addr))=cs0;generalize scope.names=ns at h;have key:∀(ns:List (Str×NameKind))(cs:List (Str×Addr)),(∀p∈ns,p.2=.free->∃c,env.cells.lookup p.1=some c) ->
   (forIn ns cs λ(x:Str×NameKind) (r:List (Str×Addr))=>(match x with|(name,kind)=>if(kind==NameKind.free)=true then do let c <-cellOf env name; pure (ForInStep.yield ((name,c)::r)) else pure (ForInStep.yield r):Sem (ForInStep (List (Str×Addr)))))=pure (clOf env ns cs):=by
  intro ns
  induction ns with
  |nil=>intro cs _; rfl
  |cons p r ih =>
   intro cs hp;obtain⟨n,k⟩:=p;rw[List.forIn_cons];by_cases hk:(k==NameKind.free)=true
   ·obtain⟨c,hc⟩:=hp (n,k) UZ (by simpa using hk)
    have hcell:cellOf env n=pure c:=by unfold cellOf; rw[hc]
    simp only[hk,if_true,hcell,pure_bind];rw[ih _ λq hq=>hp q (UV _ hq)];have hc':List.lookup n env.cells=some c:=hc;simp[clOf,hk,hc']
   ·simp only[hk,U6,if_false,pure_bind]
    rw[ih _ λq hq=>hp q (UV _ hq)];simp[clOf,hk]
 have:=key ns cs0 h;rw[show(do
   let mut cs:=cs0
   for (name,kind) in ns do
    if kind == .free then cs:=(name, <-cellOf env name)::cs
   return cs:Sem (List (Str×Addr)))=(forIn ns cs0 λ(x:Str×NameKind) (r:List (Str×Addr))=>(match x with|(name,kind)=>if(kind==NameKind.free)=true then do let c <-cellOf env name; pure (ForInStep.yield ((name,c)::r)) else pure (ForInStep.yield r):Sem (ForInStep (List (Str×Addr))))) >>= pure from rfl]
 rw[this,pure_bind]
theorem Kt:∀(ns:List (Str×NameKind))(cs:List (Str×Addr)),(∀p∈ns,p.2=.free->∃c,env.cells.lookup p.1=some c)->(∀x c,cs.lookup x=some c->env.cells.lookup x=some c)->∀x c,(clOf env ns cs).lookup x=some c->env.cells.lookup x=some c
 | [],cs,_,h,x,c,e=>h x c e
 | (n,k)::r,cs,hp,h,x,c,e=>by
  refine Kt r _ (λq hq=>hp q (UV _ hq)) (λy d e'=>?_) x c e;split at e'
  ·rename_i hk
   obtain⟨c',hc⟩:=hp (n,k) UZ (by simpa using hk);rw[UM] at e';have hc':List.lookup n env.cells=some c':=hc;rw[hc'] at e';split at e'
   ·rename_i hy
    have hy':y=n:=by simpa using hy
    subst hy';rw[<-e']; exact hc'
   ·exact h y d e'
  ·exact h y d e'
theorem Ku:∀(ns:List (Str×NameKind))(cs:List (Str×Addr))(x:Str),((x,NameKind.free)∈ns\/∃c,cs.lookup x=some c)->∃c,(clOf env ns cs).lookup x=some c
 | [],cs,x,h=>by
  rcases h with h|h
  ·cases h
  ·exact h
 | (n,k)::r,cs,x,h=>by
  refine Ku r _ x ?_;rcases h with h|⟨c,h⟩
  ·rcases Uw.mp h with h|h
   ·injection h with h1 h2
    subst h1 h2;right;exact⟨_,by simp[UM]; rfl⟩
   ·exact .inl h
  ·right
   split
   ·rw[UM]
    split
    ·exact⟨_,rfl⟩
    ·exact⟨c,h⟩
   ·exact⟨c,h⟩
def ka(scope:Scope)(env:Env)(N:List Str)(bs:List Bool):Bool :=
 scope.names.all (λp=>p.2 != .cell)&&(scope.kind == .function)&&scope.names.all (λp=>p.2 != .local||scope.names.lookup p.1==some .local)&&(bs.length==N.length)
  && scope.names.all (λp=>p.2 != .free||(env.kindOf p.1==some .cell||env.kindOf p.1==some .free))&&(N.zip bs).all (λp => !p.2||scope.names.lookup p.1==some .free)
theorem mem_of_lookup{β:Type}{x:Str}{b:β}:∀{l:List (Str×β)},l.lookup x=some b->(x,b)∈l
 | [],h=>by simp at h
 | (y,c)::r,h=>by
  rw[UM] at h;split at h
  ·rename_i hy
   have:x=y:=by simpa using hy
   subst this; cases h; exact UZ
  ·exact UV _ (mem_of_lookup h)
theorem v8{env:Env}:∀{names:List (Str×NameKind)}{x:Str}{k:NameKind},
  (names.map λ(n,k)=>if(k==NameKind.free&&env.scope.kind == .function&&env.kindOf n==some .cell) then(n,NameKind.cell) else(n,k)).lookup x=some k->names.lookup x=some k\/(k=.cell/\names.lookup x=some .free)
 | [],_,_,h=>by simp at h
 | (n,k')::r,x,k,h=>by
  have ih:=@v8 env r x k;have h':List.lookup x ((if(k'==NameKind.free&&env.scope.kind == .function&&env.kindOf n==some .cell)=true then(n,NameKind.cell) else(n,k'))::(r.map λ(n,k)=>if(k==NameKind.free&&env.scope.kind == .function&&env.kindOf n==some .cell) then(n,NameKind.cell) else(n,k)))=some k:=h;by_cases hc:(k'==NameKind.free&&env.scope.kind == .function&&env.kindOf n==some .cell)=true
  ·rw[if_pos hc,UM] at h'
   rw[UM];have hf:k'=.free:=by
    cases k'<;>first|rfl|(exfalso; revert hc; simp)
   split at h'
   ·right
    injection h' with h'
    rw[hf];exact⟨h'.symm,rfl⟩
   ·exact ih h'
  ·rw[if_neg hc,UM] at h'
   rw[UM];split at h'
   ·exact .inl h'
   ·exact ih h'
theorem CompS.of(I:Inv X pins σ H s)(h:ka scope X.env X.N bs=true):CompS X scope (clOf X.env scope.names []) bs ext:=by
 unfold ka at h;simp only[De,DA] at h;obtain⟨⟨⟨⟨⟨h1,h2⟩,h3⟩,h4⟩,h5⟩,h6⟩:=h;have hc:∀p∈scope.names,p.2=.free->∃c,X.env.cells.lookup p.1=some c:=λp hp hf=>by
  have:=h5 p hp;rw[hf] at this;refine I.ok.has p.1 ?_;simpa using this
 have nocell:∀{x:Str},scope.names.lookup x≠some .cell:=λ{x} e=>by
  have:=h1 _ (mem_of_lookup e);simp at this
 refine⟨clos_eq scope hc,λy hy=>by simpa using h1 y hy,by simpa using h2,λy hy hl=>?_,λx c e=>Kt scope.names [] hc (λ_ _ z=>by simp at z) x c e,λx hx=>?_,by simpa using h4,λi x hN hb hv=>?_⟩
 ·have:=h3 y hy
  rw[hl] at this;simpa using this
 ·refine Ku scope.names [] x (.inl ?_)
  rcases hx with hx|hx
  ·rcases v8 hx with z|⟨_,z⟩
   ·exact absurd z nocell
   ·exact mem_of_lookup z
  ·rcases v8 hx with z|⟨z,_⟩
   ·exact mem_of_lookup z
   ·cases z
 ·have hz:(x,true)∈X.N.zip bs:=by
   have:(X.N.zip bs)[i]?=some (x,true):=by
    rw[List.getElem?_zip_eq_some]; exact⟨hN,hb⟩
   exact Um this
  have hf:=h6 _ hz;have hf:scope.names.lookup x=some .free:=by simpa using hf
  have hk:=h5 _ (mem_of_lookup hf);have hk:X.env.kindOf x=some .cell\/X.env.kindOf x=some .free:=by simpa using hk
  refine⟨λz=>?_,hk, ?_⟩
  ·rcases v8 z with q|⟨q,_⟩
   ·rw[hf] at q; cases q
   ·cases q
  ·rcases hk with q|q
   ·exact .inr (.inl q)
   ·exact .inr (.inr q)
section
abbrev cxB(X:Cx)(scope:Scope)(ext:List Str)(fp:List Addr)(s:Shared)(H:Hp):Cx:=cxC X scope (clOf X.env scope.names []) (X.N++ext) fp s H
theorem pe_lc(bs:List Bool)(ext:List Str)(hi:PI X tg iter wi)(hg:∀fp s H,PG (cxB X scope ext fp s H) tg g)(ht:∀fp s H,PTs (cxB X scope ext fp s H) ifs tt)(he:∀fp s H,PE (cxB X scope ext fp s H) elt te)(hk:ka scope X.env X.N bs=true:=by rfl)(hc:X.calm=true:=by rfl)(hs:∀x,foldedSetIterable iter X.env x=pure x:=by intro _; rfl) :
  PE X (.ListComp elt [⟨tg,iter,ifs,0⟩] scope pos) (jc wi bs ext.length g tt te):=λpins s σ H Q I h=>pe_comp (CompS.of I hk) hc hi hg ht he hs pins s σ H Q I h
theorem ps_lc(bs:List Bool)(ext:List Str)(hN:X.N.Nodup)(hix:X.N[i]?=some x)(hx:X.env.scope.names.lookup x=some .local)(hi:PI X tg iter wi)(hg:∀fp s H,PG (cxB X scope ext fp s H) tg g)(ht:∀fp s H,PTs (cxB X scope ext fp s H) ifs tt)(he:∀fp s H,PE (cxB X scope ext fp s H) elt te)(hk:ka scope X.env X.N bs=true:=by rfl)(hc:X.calm=true:=by rfl)(hsw:swapsWith (.ListComp elt [⟨tg,iter,ifs,0⟩] scope pos) (some (.Name x pos')) spos.line X.env=pure true:=by rfl)(hs:∀x,foldedSetIterable iter X.env x=pure x:=by intro _; rfl) :
  PS X (.Assign [.Name x pos'] (.ListComp elt [⟨tg,iter,ifs,0⟩] scope pos) spos) (tAsg (jc wi bs ext.length g tt te) (vc i)):=λpins s σ H D I h=>ps_comp (CompS.of I hk) hc hN hix hx hi hg ht he hsw hs pins s σ H D I h
end
def CDivB(i j:Int):Prop:=0<j/\j.natAbs.log2<9000
theorem noPyl(h:CDivB i j):Builtin.divisionGoesByPylong i j=false:=PyProof.noPylong_of_log2 h.2
theorem xJ:OpR X (binaryOp .FloorDiv) (rI CDivB λi j=>.int (i / j)):=opI λi j _ _ _ _ _ hc q=>by
 refine floordiv_int (by have:=hc.1; lia) ?_ (.inl (noPyl hc));rw[D8 _ (by have:=hc.1; lia)];exact q
section
theorem rd_I:rI C g (.int i) (.int j) H Q=(C i j/\Q (g i j) H) :=
 propext ⟨λ⟨_,_,e1,e2,h⟩=>by cases e1; cases e2; exact h,λh=>⟨i,j,rfl,rfl,h⟩⟩
theorem rd_I0:rI0 g (.int i) (.int j) H Q=Q (g i j) H :=
 propext ⟨λ⟨_,_,e1,e2,h⟩=>by cases e1; cases e2; exact h,λh=>⟨i,j,rfl,rfl,h⟩⟩
theorem rd_U:rU g (.int i) H Q=Q (g i) H :=
 propext ⟨λ⟨_,e1,h⟩=>by cases e1; exact h,λh=>⟨i,rfl,h⟩⟩
theorem VJ:k7 t σ H R=t σ H λx H'=>∃k,x=.bl k/\R k H':=rfl
theorem rd_bl{R:Bool->Prop}:(∃k',V.bl k=.bl k'/\R k')=R k:=propext ⟨λ⟨_,e,h⟩=>by cases e; exact h,λh=>⟨k,rfl,h⟩⟩
theorem rd_l1{R:Int->Prop}:(∃j,([V.int i]:List V)=[V.int j]/\R j)=R i:=propext ⟨λ⟨_,e,h⟩=>by cases e; exact h,λh=>⟨i,rfl,h⟩⟩
theorem rd_l2{R:Int->Int->Prop}:(∃i j,([V.int a,V.int b]:List V)=[V.int i,V.int j]/\R i j)=R a b:=propext ⟨λ⟨_,_,e,h⟩=>by cases e; exact h,λh=>⟨a,b,rfl,h⟩⟩
theorem rd_lr{R:Addr->List V->Prop}:(∃p ys,([V.ref a]:List V)=[V.ref p]/\R p ys)=∃ys,R a ys:=propext ⟨λ⟨_,ys,e,h⟩=>by cases e; exact⟨ys,h⟩,λ⟨ys,h⟩=>⟨a,ys,rfl,h⟩⟩
theorem zq(hp:H p=none)(h:H x=some o):upd H p o' x=some o:=by rw[upd_ne (vj h hp)]; exact h
theorem kI(hn:x≠p)(h:H x=some o):upd H p o' x=some o:=by rw[upd_ne hn]; exact h
theorem Zf(h:upd H p o' x=none):H x=none/\x≠p:=by
 have hx:x≠p:=λe=>by subst e; rw[upd_same] at h; cases h
 rw[upd_ne hx] at h;exact⟨h,hx⟩
theorem Same.upd{H:Hp}{H1:Hp}{p:Addr}{o:HO}(s:Same H H1)(h:H p=none):Same H (upd H1 p o):=λb o' e=>by
 rw[upd_ne (vj e h)]; exact s b o' e
theorem ExtS.nl:ExtS [] []:=λ_ _ h=>h
theorem ExtS.no(h:ExtS a b):ExtS (none::a) (x::b):=λi v e=>by
 cases i with
 |zero=>simp at e
 |succ i=>simpa using h i v (by simpa using e)
theorem ExtS.sm(h:ExtS a b):ExtS (x::a) (x::b):=λi v e=>by
 cases i with
 |zero=>simpa using e
 |succ i=>simpa using h i v (by simpa using e)
end
structure Def(P:Program)(w:World)(Ξ:PySem.W.Frag)(mg:Str->Option Value)(base:Heap)(x:Str)(k:Nat)(ps:List Str)(sp:Sp):Prop where
 ex:∃(f:Addr)(fd:FuncData),mg x=some (.ref f)/\W.keepIn Ξ (.ref f)=true/\Binds Ξ fd ps []/\FnOk P w Ξ mg base CX0 k f fd ps sp
section
end
def rIsi(Ξ:PySem.W.Frag):List V->Hp->VK->Prop:=λxs H Q=>∃x n t b,xs=[x, .ty n]/\TyOf Ξ H x (.type t)/\W.kitOne Ξ (.type t) (.type n)=some b/\Q (.bl b) H
theorem call_isi:zJ X (.builtin "isinstance") (rIsi X.K):=by
 intro pins s σ H xs us Q I r h;obtain⟨x,n,t,b,rfl,ty,e,q⟩:=h;obtain⟨u,v,rfl,ru,rv⟩:=Yt r;obtain rfl:v=Value.type n:=rv;exact Gg I ru ty e λtk=>⟨.bl b,H,I.tok tk,rfl,q⟩
inductive DE(Ξ:PySem.W.Frag)(H:Hp):Nat->V->V->Bool->Prop
 |flat {n:Nat} {x y:V}:kB x=true->kB y=true->DE Ξ H n x y (eqV x y)
 |same {n:Nat} {a:Addr}:DE Ξ H n (.ref a) (.ref a) true
 |tup {n:Nat} {a b:Addr} {xs ys:List V} {e:Nat->Bool}:a≠b->SqT Ξ H a xs->SqT Ξ H b ys->(∀(j:Nat) x y,xs[j]?=some x->ys[j]?=some y->DE Ξ H n x y (e j))->DE Ξ H (n+1) (.ref a) (.ref b) ((List.range (min xs.length ys.length)).all e&&xs.length==ys.length)
 |lst {n:Nat} {a b:Addr} {xs ys:List V} {e:Nat->Bool}:a≠b->SqL Ξ H a xs->SqL Ξ H b ys->xs.length=ys.length->(∀(j:Nat) x y,xs[j]?=some x->ys[j]?=some y->DE Ξ H n x y (e j))->DE Ξ H (n+1) (.ref a) (.ref b) ((List.range xs.length).all e)
 |lstN {n:Nat} {a b:Addr} {xs ys:List V}:a≠b->SqL Ξ H a xs->SqL Ξ H b ys->xs.length≠ys.length->DE Ξ H (n+1) (.ref a) (.ref b) false
theorem zT{A:Around}:A.in1.units=A.units+1:=rfl
theorem DE.eqAt(I:Inv X pins σ H s)(d:DE X.K H n x y b):∀{A:Around}{u v:Value},A.units+n<cLine->RelV x u->RelV y v->SeqAt.EqAt A s u v b:=by
 induction d with
 |flat f g=>intro A u v _ rx ry; exact Xd rx ry f g
 |same =>
  intro A u v _ rx ry;obtain rfl:u=_:=rx;obtain rfl:v=_:=ry;exact SeqAt.EqAt.same _
 | @tup n a b xs ys e ne ha hb _ ih =>
  intro A u v hu rx ry;obtain rfl:u=Value.ref a:=rx;obtain rfl:v=Value.ref b:=ry;obtain⟨its,r1,p1,_⟩:=I.tuple ha;obtain⟨its2,r2,p2,_⟩:=I.tuple hb;have:=SeqAt.RcAt.tuples (A:=A) (e:=e) p1 p2 (by lia) λj h1 h2=>by
   have l1:j<xs.length:=by rw[r1.length]; simpa using h1
   have l2:j<ys.length:=by rw[r2.length]; simpa using h2
   obtain⟨u1,q1,s1⟩:=r1.get (Uk l1);obtain⟨u2,q2,s2⟩:=r2.get (Uk l2);have e1:its.toArray[j]=u1:=by
    have:=Uj.mp q1;obtain⟨_,z⟩:=this;simpa using z
   have e2:its2.toArray[j]=u2:=by
    have:=Uj.mp q2;obtain⟨_,z⟩:=this;simpa using z
   rw[e1,e2];exact ih j _ _ (Uk l1) (Uk l2) (by rw[zT]; lia) s1 s2
  rw[Ut,Ut, <-r1.length, <-r2.length] at this;exact .of_refs ne this
 | @lst n a b xs ys e ne ha hb hl _ ih =>
  intro A u v hu rx ry;obtain rfl:u=Value.ref a:=rx;obtain rfl:v=Value.ref b:=ry;obtain⟨its,r1,p1,_⟩:=I.list ha;obtain⟨its2,r2,p2,_⟩:=I.list hb;have:=SeqAt.RcAt.lists (A:=A) (e:=e) p1.isList p2.isList (by simp[<-r1.length, <-r2.length,hl]) (by lia) λj h1 h2=>by
   have l1:j<xs.length:=by rw[r1.length]; simpa using h1
   have l2:j<ys.length:=by rw[r2.length]; simpa using h2
   obtain⟨u1,q1,s1⟩:=r1.get (Uk l1);obtain⟨u2,q2,s2⟩:=r2.get (Uk l2);have e1:its.toArray[j]=u1:=by
    have:=Uj.mp q1;obtain⟨_,z⟩:=this;simpa using z
   have e2:its2.toArray[j]=u2:=by
    have:=Uj.mp q2;obtain⟨_,z⟩:=this;simpa using z
   rw[e1,e2];exact ih j _ _ (Uk l1) (Uk l2) (by rw[zT]; lia) s1 s2
  rw[Ut, <-r1.length] at this;exact .of_refs ne this
 | @lstN n a b xs ys ne ha hb hl =>
  intro A u v hu rx ry;obtain rfl:u=Value.ref a:=rx;obtain rfl:v=Value.ref b:=ry;obtain⟨its,r1,p1,_⟩:=I.list ha;obtain⟨its2,r2,p2,_⟩:=I.list hb;exact .of_refs ne (SeqAt.RcAt.lists_lengths p1.isList p2.isList (by simp[<-r1.length, <-r2.length,hl]) (by lia))
end L2
namespace PySem.SeqAt
open AutoSeq1 (wpAny_loadPart')
open MeetsSeq MeetsSeq2 MeetsSeq3 SeqRoads2
theorem VH(l:Addr)(items:Array Value)(n:Nat)(x:Value)(e:Nat->Bool)(j:Nat)(hj:j<items.size)(hit:e j=true)(k:Nat)(hs1:items.size<=sizeLine) :
  ∀i:Nat,j-i=k->i<=j->(∀m (hm:m<items.size),i<=m->m<j->e m=false)->Meets (Builtin.«list.remove.loop» ⟨[.ref l,x,rawInt i], []⟩)
   (λA R s=>s.heap.get? l=some { cls:=.type "list", dict:=none,data:=.seq items n,slots:=#[] }/\(∀m (hm:m<items.size),m<=j->EqAt A.in1 s items[m] x (e m))/\R (.ok (.ret .none)) { s with heap:=s.heap.update l (Obj.mapSeq λxs=>xs.eraseIdxIfInBounds j) }):=by
 induction k with
 |zero =>
  intro i hk hij hno prog w A R s h;obtain⟨hp,g,d,tk,os⟩:=s; obtain⟨hl,he,h⟩:=h;have hij':i=j:=by lia
  subst hij'
  wp_walk using wpAny_loadPart' hl;have hi:items[((i:Nat):Int).toNat]?=some items[i]:=by simp[hj]
  rw[hi];refine wpAny_bind (he _ hj (Up _) prog w _ _ ?_);rw[hit];have hz':(items.eraseIdxIfInBounds i).size<=sizeLine+1:=UY (size_erased items _) (Rk hs1)
  wp_walk using(wpAny_updateSeq hl rfl (hz:=hs1) (_hz':=hz')),wpAny_loadPart' hl;simpa using h
 |succ k ih =>
  intro i hk hij hno prog w A R s h;obtain⟨hp,g,d,tk,os⟩:=s; obtain⟨hl,he,h⟩:=h;have hlt:i<items.size:=by lia
  wp_walk using wpAny_loadPart' hl;have hi:items[((i:Nat):Int).toNat]?=some items[i]:=by simp[hlt]
  have hc:((i:Int)+1)=((i+1:Nat):Int):=by push_cast; rfl
  rw[hi];refine wpAny_bind (he _ hlt (by lia) prog w _ _ ?_);rw[hno i hlt (Up _) (by lia)]
  wp_walk;rw[hc];exact⟨plainId_quiet plain_remove_loop _,codeAny_builtin entry_remove_loop (by
   rw[Around.under_plainId plain_remove_loop _];exact ih (i+1) (by lia) (by lia) (λm hm h1 h2=>hno m hm (by lia) h2) prog w A R _ ⟨hl,he,h⟩)⟩
theorem list_removeAt(l:Addr)(items:Array Value)(n:Nat)(x:Value)(e:Nat->Bool)(j:Nat)(hj:j<items.size)(hit:e j=true)(hno:∀m (hm:m<items.size),m<j->e m=false)(hs1:items.size<=sizeLine:=by size_fits) :
  Meets (Builtin.«list.remove» ⟨[.ref l,x], []⟩)
   (λA R s=>s.heap.get? l=some { cls:=.type "list", dict:=none,data:=.seq items n,slots:=#[] }/\(∀m (hm:m<items.size),m<=j->EqAt A.in1 s items[m] x (e m))/\R (.ok (.ret .none)) { s with heap:=s.heap.update l (Obj.mapSeq λxs=>xs.eraseIdxIfInBounds j) }):=by
 intro prog w A R s h;obtain⟨hp,g,d,tk,os⟩:=s; obtain⟨hl,he,h⟩:=h
 wp_walk using wpAny_loadPart' hl;exact⟨plainId_quiet plain_remove_loop _,codeAny_builtin entry_remove_loop (by
  rw[Around.under_plainId plain_remove_loop _];exact VH l items n x e j hj hit _ hs1 0 rfl (U4 _) (λm hm _ h2=>hno m hm h2) prog w A R _ ⟨hl,he,h⟩)⟩
end PySem.SeqAt
namespace L2
open PySem PySem.Spec PyProof.Rows
def XU(Ξ:PySem.W.Frag):V->List V->Hp->VK->Prop:=λx vs H Q=>∃l xs y j,∃e:Nat->Bool,x=.ref l/\vs=[y]/\H l=some (.lst xs)/\j<xs.length/\e j=true/\(∀m,m<j->e m=false)/\(∀(m:Nat) z,m<=j->xs[m]?=some z->DE Ξ H 20 z y (e m))/\Q .non (upd H l (.lst (xs.eraseIdx j)))
theorem WR(hu:X.A.units+64<cLine):MtM X "list.remove" (XU X.K):=by
 intro pins s σ H x vs v us Q I rx rv h;obtain⟨l,xs,y,j,e,rfl,rfl,hH,hj,hit,hno,he,q⟩:=h;cases rx;obtain⟨u,rfl,ru⟩:=rv.one;obtain⟨z,its,n,r,hl,eo⟩:=I.lstM hH;refine call_meets F.slot_list_remove ⟨_,eo,rfl⟩ F.entry_list_remove (F.args_list_remove_2 _ _) (SeqAt.list_removeAt l its.toArray n u e j (by simp; lia) hit (λm _ hm=>hno m hm) (by rw[Ut]; lia)) ⟨eo,λm hm hmj=>?_, ?_⟩
 ·have l1:m<xs.length:=by rw[hl]; simpa using hm
  obtain⟨u1,q1,s1⟩:=r.get (Uk l1);have e1:its.toArray[m]=u1:=by
   have:=Uj.mp q1;obtain⟨_,z⟩:=this;simpa using z
  rw[e1];exact(he m _ hmj (Uk l1)).eqAt I (by rw[zT]; lia) s1 ru
 ·refine⟨.non,_,I.lset (its':=its.eraseIdx j) hH eo (by simp) (r.eraseIdx j) (UY (Z6 _ _) z),rfl,q⟩
structure Nms(mg:Str->Option Value):Prop where
 abs:mg "abs" = none
 len:mg "len" = none
 min:mg "min" = none
 max:mg "max" = none
 sum:mg "sum" = none
 sorted:mg "sorted" = none
 all:mg "all" = none
 any:mg "any" = none
 isinstance:mg "isinstance" = none
 range:mg "range" = none
 int:mg "int" = none
 list:mg "list" = none
 str:mg "str" = none
 bool:mg "bool" = none
 tuple:mg "tuple" = none
 zip:mg "zip" = none
 enumerate:mg "enumerate" = none
 dict:mg "dict" = none
theorem b_abs:bootBuiltins "abs" = some (.builtin "abs"):=by decide +kernel
theorem ze:bootBuiltins "len" = some (.builtin "len"):=by decide +kernel
theorem Yq:bootBuiltins "min" = some (.builtin "min"):=by decide +kernel
theorem b_max:bootBuiltins "max" = some (.builtin "max"):=by decide +kernel
theorem Zo:bootBuiltins "sorted" = some (.builtin "sorted"):=by decide +kernel
theorem b_all:bootBuiltins "all" = some (.builtin "all"):=by decide +kernel
theorem va:bootBuiltins "isinstance" = some (.builtin "isinstance"):=by decide +kernel
theorem b_range:bootBuiltins "range" = some (.type "range"):=by decide +kernel
theorem G9:bootBuiltins "int" = some (.type "int"):=by decide +kernel
theorem xF:bootBuiltins "list" = some (.type "list"):=by decide +kernel
theorem b_str:bootBuiltins "str" = some (.type "str"):=by decide +kernel
theorem b_bool:bootBuiltins "bool" = some (.type "bool"):=by decide +kernel
theorem JH:bootBuiltins "tuple" = some (.type "tuple"):=by decide +kernel
def SameB(b:Addr)(H H':Hp):Prop:=∀x o,H x=some o->x≠b->H' x=some o
theorem SameB.trans(h:SameB b H H1)(k:SameB b H1 H2):SameB b H H2:=λx o e n=>k x o (h x o e n) n
theorem SameB.of(h:Same H H'):SameB b H H':=λx o e _=>h x o e
theorem SameB.upd{b p:Addr}{H H1:Hp}{o:HO}(s:SameB b H H1)(h:H p=none\/p=b):SameB b H (upd H1 p o):=λx o' e n=>by
 have:x≠p:=by
  rcases h with h|h
  ·exact vj e h
  ·rw[h]; exact n
 rw[upd_ne this]; exact s x o' e n
def rLenL:List V->Hp->VK->Prop:=λvs H Q=>∃p ys,vs=[.ref p]/\H p=some (.lst ys)/\Q (.int ys.length) H
theorem qV:zJ X (.builtin "len") rLenL:=by
 intro pins s σ H xs us Q I r h;obtain⟨p,ys,e,h,q⟩:=h;exact ku pins s σ H xs us Q I r ⟨p,ys,e, .inl (SqL.of h),q⟩
section
theorem Ge(h:H p=some (.lst xs))(e:atI xs i=some v)(q:Q v H):rIxL Ξ (.ref p) (.int i) H Q:=⟨p,xs,i,v,rfl,rfl,SqL.of h,e,q⟩
theorem ixT_at(h:H p=some (.tup xs))(e:atI xs i=some v)(q:Q v H):rIxT Ξ (.ref p) (.int i) H Q:=⟨p,xs,i,v,rfl,rfl,SqT.of h,e,q⟩
theorem at0{α:Type}{x:α}{l:List α}:atI (x::l) 0=some x:=jv (j:=0) rfl
theorem at1{α:Type}{x y:α}{l:List α}:atI (x::y::l) 1=some y:=jv (j:=1) rfl
theorem setL_at(h:H p=some (.lst xs))(e:ixN xs.length i=some j)(q:R (upd H p (.lst (xs.set j v)))):rSetL (.ref p) (.int i) v H R:=⟨p,xs,i,j,rfl,rfl,h,e,q⟩
theorem GC(h:scal x y=true)(q:Q (.bl (decide (x=y))) H):rEq x y H Q:=⟨h,q⟩
theorem ne_at(h:scal x y=true)(q:Q (.bl (!decide (x=y))) H):rNe x y H Q:=⟨h,q⟩
theorem len_at(h:H p=some (.lst xs))(q:Q (.int xs.length) H):rLenL [.ref p] H Q:=⟨p,xs,rfl,h,q⟩
theorem Kl(h:H p=some (.tup [x,y]))(q:R ((σ.set i (some x)).set j (some y)) H):gTup Ξ 2 (vB (vc i) (vB (vc j) gNil)) (.ref p) σ H R :=
 ⟨p,_,rfl,SqT.of h,rfl,_,_,rfl,_,_,rfl,rfl,q⟩
theorem VX(h:H p=some (.tup [x,y,z]))(q:R (((σ.set i (some x)).set j (some y)).set k (some z)) H):gTup Ξ 3 (vB (vc i) (vB (vc j) (vB (vc k) gNil))) (.ref p) σ H R :=
 ⟨p,_,rfl,SqT.of h,rfl,_,_,rfl,_,_,rfl,_,_,rfl,rfl,q⟩
theorem xO:(V.int i=V.int j)=(i=j):=propext ⟨λh=>by cases h; rfl,λh=>by rw[h]⟩
theorem xN:(V.str i=V.str j)=(i=j):=propext ⟨λh=>by cases h; rfl,λh=>by rw[h]⟩
end
section
theorem pg_t2(hN:X.N.Nodup)(hc:X.calm=true)(hi:X.N[i]?=some x)(hj:X.N[j]?=some y)(lx:Loc X.env.scope x)(ly:Loc X.env.scope y)(fx:X.fn x=true\/X.env.scope.names.lookup x=some .local)(fy:X.fn y=true\/X.env.scope.names.lookup y=some .local) :
  PG X (.Tuple [.Name x px, .Name y py] kk pos) (gTup X.K 2 (vB (vc i) (vB (vc j) gNil))):=Wi hc (xI (jZ hN hi lx fx) (xI (jZ hN hj ly fy) X3))
theorem pg_t3(hN:X.N.Nodup)(hc:X.calm=true)(hi:X.N[i]?=some x)(hj:X.N[j]?=some y)(hk:X.N[k]?=some z)(lx:Loc X.env.scope x)(ly:Loc X.env.scope y)(lz:Loc X.env.scope z)(fx:X.fn x=true\/X.env.scope.names.lookup x=some .local)(fy:X.fn y=true\/X.env.scope.names.lookup y=some .local)(fz:X.fn z=true\/X.env.scope.names.lookup z=some .local) :
  PG X (.Tuple [.Name x px, .Name y py, .Name z pz] kk pos) (gTup X.K 3 (vB (vc i) (vB (vc j) (vB (vc k) gNil)))):=Wi hc (xI (jZ hN hi lx fx) (xI (jZ hN hj ly fy) (xI (jZ hN hk lz fz) X3)))
end
section
theorem qw(h:X.K=Ξ):IxR X (rIxL Ξ):=h▸ix_list
theorem qK(h:X.K=Ξ):IxR X (rIxT Ξ):=h▸ix_tup
theorem vz(h:X.K=Ξ):SlR X (rSlL Ξ):=h▸sl_list
theorem ZM(h:X.K=Ξ):OpR X (compareOp .In) (rIn Ξ false):=h▸Wr
theorem vP(h:X.K=Ξ):zJ X (.builtin "isinstance") (rIsi Ξ):=h▸call_isi
theorem Yb(h:X.K=Ξ)(hu:X.A.units+64<cLine):MtM X "list.remove" (XU Ξ):=h▸WR hu
def tTru(Ξ:PySem.W.Frag)(ta:TE):TT:=λσ H Q=>ta σ H λx H'=>∃k,TruV Ξ x H' k/\Q k H'
def LmStep(x:V)(H:Hp)(k:Prop):Prop:=∃p xs,x=.ref p/\H p=some (.lst xs)/\k
theorem lm_at(h:H p=some (.lst xs))(q:k):LmStep (.ref p) H k:=⟨p,xs,rfl,h,q⟩
def tLM(r:V->List V->Hp->VK->Prop)(to:TE)(t:TA):TE:=λσ H Q=>to σ H λx H1=>LmStep x H1 (t σ H1 λvs H2=>r x vs H2 Q)
end
def ForW(J:It)(g:TG)(tb:TS)(D:Ends)(σ:St)(H1:Hp):Prop:=∃W:Nat->Nat->St->Hp->Prop,(∃m,W 0 m σ H1)/\∀i m σ H,W i m σ H ->
 (J.stop i H/\D.nx σ H)\/(J.go i H/\∃N:St->Hp->Prop,(∀σ' H',N σ' H'->∃m',m'<m/\W (i+1) m' σ' H')/\∀x H',J.yld i H x H'->g x σ H' λσ2 H2=>tb { D with nx:=N,ct:=N,bk:=D.nx } σ2 H2)
theorem J4:tFor wi g tb D σ H=wi σ H λJ H1=>ForW J g tb D σ H1:=rfl
def ItStep(Ξ:PySem.W.Frag)(x:V)(H:Hp)(R:It->Hp->Prop):Prop:=∃a,x=.ref a/\(∃xs,SqL Ξ H a xs)/\R (Itl Ξ a) H
theorem kM:Yl Ξ tl σ H R=tl σ H λx H1=>ItStep Ξ x H1 R:=rfl
theorem it_at(h:H p=some (.lst xs))(q:R (Itl Ξ p) H):ItStep Ξ (.ref p) H R:=⟨p,rfl,⟨xs,SqL.of h⟩,q⟩
def RgStep(vs:List V)(H:Hp)(R:It->Hp->Prop):Prop:=∃j:Int,vs=[.int j] /\ -(2^62)<=j/\j<2^62/\R (Itr 0 j.toNat) H
theorem kL:Gk ta σ H R=ta σ H λvs H1=>RgStep vs H1 R:=rfl
theorem rg_at(h1 : -(2^62)<=j)(h2:j<2^62)(q:R (Itr 0 j.toNat) H):RgStep [.int j] H R:=⟨j,rfl,h1,h2,q⟩
theorem rd_pi{R:Int->Prop}:(∃i,V.int k=.int i/\R i)=R k:=propext ⟨λ⟨_,e,h⟩=>by cases e; exact h,λh=>⟨k,rfl,h⟩⟩
theorem km(ty:TyOf Ξ H x (.type t))(e:W.kitOne Ξ (.type t) (.type n)=some b)(q:Q (.bl b) H):rIsi Ξ [x, .ty n] H Q:=⟨x,n,t,b,rfl,ty,e,q⟩
def rEqT(Ξ:PySem.W.Frag):R2:=λx y H Q=>∃a b xs ys e,x=.ref a/\y=.ref b/\SqT Ξ H a xs/\SqT Ξ H b ys/\(∀(j:Nat) x y,xs[j]?=some x->ys[j]?=some y->DE Ξ H 20 x y (e j))/\Q (.bl ((List.range (min xs.length ys.length)).all e&&xs.length==ys.length)) H
theorem op_eqTK(hK:X.K=Ξ)(hu:X.A.units+64<cLine):OpR X (compareOp .Eq) (rEqT Ξ):=by
 subst hK;intro pins s σ H x y v u Q I rx ry h;obtain⟨a,b,xs,ys,e,rfl,rfl,ha,hb,he,q⟩:=h;obtain rfl:v=Value.ref a:=rx;obtain rfl:u=Value.ref b:=ry;obtain⟨its,r1,p1,_⟩:=I.tuple ha;obtain⟨its2,r2,p2,_⟩:=I.tuple hb;refine SeqAt.eq_tupleAt (A:=X.A) (e:=e) p1 p2 (by lia) (λj h1 h2=>?_) ⟨.bl _,H,I,rfl, ?_⟩
 ·have l1:j<xs.length:=by rw[r1.length]; simpa using h1
  have l2:j<ys.length:=by rw[r2.length]; simpa using h2
  obtain⟨u1,q1,s1⟩:=r1.get (Uk l1);obtain⟨u2,q2,s2⟩:=r2.get (Uk l2);have e1:its.toArray[j]=u1:=by
   obtain⟨_,z⟩:=Uj.mp q1;simpa using z
  have e2:its2.toArray[j]=u2:=by
   obtain⟨_,z⟩:=Uj.mp q2;simpa using z
  rw[e1,e2];exact(he j _ _ (Uk l1) (Uk l2)).eqAt I (by rw[zT]; lia) s1 s2
 ·rw[Ut,Ut, <-r1.length, <-r2.length]
  exact q
def rIsiT(Ξ:PySem.W.Frag):List V->Hp->VK->Prop:=λxs H Q=>∃(x:V)(p:Addr)(ns:List String)(t:String)(b:Bool),xs=[x, .ref p]/\H p=some (.tup (ns.map V.ty))/\TyOf Ξ H x (.type t)/\W.kitAny Ξ (.type t) (ns.map Value.type)=some b/\Q (.bl b) H
theorem Ys:∀{ns:List String}{us:List Value},Vals (ns.map V.ty) us->us=ns.map Value.type
 | [],_,h=>by cases h; rfl
 |n::ns,_,h=>by
  cases h with
  |cons r t =>
   have:=Ys t;subst this;obtain rfl:=(show _=Value.type n from r);rfl
theorem Xm(hK:X.K=Ξ):zJ X (.builtin "isinstance") (rIsiT Ξ):=by
 subst hK;intro pins s σ H xs us Q I r h;obtain⟨x,p,ns,t,b,rfl,hp,ty,e,q⟩:=h;obtain⟨u,v,rfl,ru,rv⟩:=Yt r;obtain rfl:v=Value.ref p:=rv;obtain⟨_,its,r1,o,ho,hc,n,hd⟩:=(show ObjOk X.prog X.w H s.heap p (.tup (ns.map V.ty)) from I.hok p _ hp);obtain rfl:=Ys r1;obtain⟨c,dd,dt,sl⟩:=o;simp only at hc hd;subst hc hd;have fin:∀tk,EP X pins σ Q (.bool b) { s with toks:=tk }:=λtk=>⟨.bl b,H,I.tok tk,rfl,q⟩;cases ty with
 |non=>cases(show u=Value.none from ru); exact Dd W.kitx_none I.kIn True.intro ho e (λz=>nomatch z) fin
 |bl y=>cases(show u=Value.bool y from ru); exact Dd W.kitx_bool I.kIn True.intro ho e (λz=>nomatch z) fin
 |int i=>obtain⟨t,q'⟩:=(show ∃t,u=Value.int i t from ru); cases q'; exact Dd W.kitx_int I.kIn True.intro ho e (λz=>nomatch z) fin
 |str y=>obtain⟨t,q'⟩:=(show ∃t,u=Value.str y t from ru); cases q'; exact Dd W.kitx_str I.kIn True.intro ho e (λz=>nomatch z) fin
 |flt y=>obtain⟨t,q'⟩:=(show ∃t,u=Value.float y t from ru); cases q'; exact Dd RW I.kIn True.intro ho e (λz=>nomatch z) fin
 | @lst a xs ea =>
  cases(show u=Value.ref a from ru);obtain⟨_,_,n,_,h1⟩:=(show ObjOk X.prog X.w H s.heap a (.lst xs) from I.hok a _ ea);exact Dd DX I.kIn ⟨_,h1,rfl⟩ ho e (λz=>nomatch z) fin
 | @frz a ob xs ea =>
  cases(show u=Value.ref a from ru);obtain⟨_,_,_,n,_,h1⟩:=(show ObjOk X.prog X.w H s.heap a (.frz ob (.lst xs)) from I.hok a _ ea);exact Dd DX I.kIn ⟨_,h1,rfl⟩ ho e (λz=>nomatch z) fin
 | @tup a xs ea =>
  cases(show u=Value.ref a from ru);obtain⟨_,_,_,o2,h1,h2,_⟩:=(show ObjOk X.prog X.w H s.heap a (.tup xs) from I.hok a _ ea);exact Dd RX I.kIn ⟨o2,h1,h2⟩ ho e (λz=>nomatch z) fin
 | @dK a kvs ea =>
  cases(show u=Value.ref a from ru);obtain⟨_,_,vs,_,p2⟩:=(show ObjOk X.prog X.w H s.heap a (.dK kvs) from I.hok a _ ea);obtain⟨o2,es,ep,h1,h2,_⟩:=p2;exact Dd DY I.kIn ⟨o2,h1,h2.1⟩ ho e (λz=>nomatch z) fin
 | @dT a kvs ea =>
  cases(show u=Value.ref a from ru);obtain⟨_,_,xs,_,o2,es,ep,h1,h2,_⟩:=(show ObjOk X.prog X.w H s.heap a (.dT kvs) from I.hok a _ ea);exact Dd DY I.kIn ⟨o2,h1,h2.1⟩ ho e (λz=>nomatch z) fin
end L2
namespace PySem.SeqAt
open AutoSeq1 (wpAny_loadPart')
open MeetsSeq MeetsSeq2 MeetsSeq3 SeqRoads2
theorem tuple_index3(l:Addr)(its:Array Value)(n:Nat)(dd:Option Addr)(sl:Array (Option Value))(a b c x:Value)(e:Nat->Bool)(hi:its=#[a,b,c])(j:Nat)(hj:j<3)(hit:e j=true)(hno:∀m,m<j->e m=false) :
  Meets (Builtin.«tuple.index» ⟨[.ref l,x], []⟩)
   (λA R s=>s.heap.get? l=some { cls:=.type "tuple", dict:=dd,data:=.seq its n,slots:=sl }/\EqAt A.in1 s a x (e 0)/\EqAt A.in1 s b x (e 1)/\EqAt A.in1 s c x (e 2)/\R (.ok (.ret (.int j s.toks))) { s with toks:=s.toks+1 }):=by
 intro prog w A R s h;obtain⟨hp,g,d,tk,os⟩:=s; obtain⟨hl,h0,h1,h2,h⟩:=h;subst hi;unfold Builtin.«tuple.index»;simp only[Std.Legacy.Range.forIn_eq_forIn_range']
 wp_walk using wpAny_loadPart' hl;simp only[Ut,Ur,U1,Std.Legacy.Range.size,R5,show List.range' 0 ((0+1+1+1-0+1-1) / 1) 1=[0,1,2] from rfl,List.forIn_cons,List.forIn_nil];simp only[List.forIn'.loop];rcases(show j=0\/j=1\/j=2 by lia) with rfl|rfl|rfl
 ·rw[hit] at h0
  refine wpAny_bind (wpAny_bind (h0 prog w _ _ ?_))
  wp_walk;exact h
 ·rw[hno 0 (by lia)] at h0
  rw[hit] at h1;refine wpAny_bind (wpAny_bind (h0 prog w _ _ ?_));simp only[U6,if_false];refine wpAny_pure ?_;refine wpAny_bind (wpAny_bind (h1 prog w _ _ ?_))
  wp_walk;exact h
 ·rw[hno 0 (by lia)] at h0
  rw[hno 1 (by lia)] at h1;rw[hit] at h2;refine wpAny_bind (wpAny_bind (h0 prog w _ _ ?_));simp only[U6,if_false];refine wpAny_pure ?_;refine wpAny_bind (wpAny_bind (h1 prog w _ _ ?_));simp only[U6,if_false];refine wpAny_pure ?_;refine wpAny_bind (wpAny_bind (h2 prog w _ _ ?_))
  wp_walk;exact h
end PySem.SeqAt
namespace L2
open PySem PySem.Spec PyProof.Rows
theorem GD(a b:Str):eqV (.str a) (.str b)=decide (a=b):=by
 by_cases h:a=b<;>simp[eqV,h]
structure Tup3(Ξ:PySem.W.Frag)(mg:Str->Option Value)(nm:Str)(p:Addr)(x y z:Str):Prop where
 mg:mg nm=some (.ref p)
 lk:∃(a b c:Tok)(n:Nat)(sl:Array (Option Value)),Ξ.lookup p=some ⟨.type "tuple", none, .seq #[.str x a, .str y b, .str z c] n,sl⟩
theorem Tup3.sq{mg:Str->Option Value}(T:Tup3 Ξ mg nm p x y z)(H:Hp):SqT Ξ H p [.str x, .str y, .str z]:=by
 obtain⟨a,b,c,n,sl,e⟩:=T.lk;exact .inr ⟨_,_,n,e,rfl,rfl,(by decide:3<=sizeLine), .cons ⟨a,rfl⟩ (.cons ⟨b,rfl⟩ (.cons ⟨c,rfl⟩ .nil))⟩
theorem Tup3.ty{mg:Str->Option Value}(T:Tup3 Ξ mg nm p x y z)(H:Hp):tyV Ξ "tuple" (.ref p) H:=by
 obtain⟨a,b,c,n,sl,e⟩:=T.lk;exact .inr (.inl ⟨rfl,_,e,rfl,rfl⟩)
def rIdxT(p:Addr)(x y z:Str):V->List V->Hp->VK->Prop:=λv vs H Q=>∃(t:Str)(j:Nat),v=.ref p/\vs=[.str t]/\[x,y,z][j]?=some t/\(∀m,m<j->[x,y,z][m]?≠some t)/\Q (.int j) H
theorem WS(hK:X.K=Ξ)(T:Tup3 Ξ mg nm p x y z):MtR X "tuple.index" (rIdxT p x y z):=by
 subst hK;intro pins s σ H v vs w us Q I rx rv h;obtain⟨t,j,rfl,rfl,hj,hno,q⟩:=h;cases rx;obtain⟨u,rfl,ru⟩:=rv.one;obtain⟨tk,rfl⟩:=ru;obtain⟨a,b,c,n,sl,e⟩:=T.lk;have eo:=I.kIn p _ e;have hj3:j<3:=(Uj.mp hj).1;refine call_meets F.slot_tuple_index ⟨_,eo,rfl⟩ F.entry_tuple_index (F.args_tuple_index_2 _ _) (SeqAt.tuple_index3 p _ n none sl (.str x a) (.str y b) (.str z c) (.str t tk) (λm=>match m with|0=>eqV (.str x) (.str t)|1=>eqV (.str y) (.str t)|2=>eqV (.str z) (.str t)|_=>false) rfl j hj3 ?_ ?_)
  ⟨eo,Xd (y:=.str x) (x:=.str t) ⟨a,rfl⟩ ⟨tk,rfl⟩ rfl rfl,Xd (y:=.str y) (x:=.str t) ⟨b,rfl⟩ ⟨tk,rfl⟩ rfl rfl,Xd (y:=.str z) (x:=.str t) ⟨c,rfl⟩ ⟨tk,rfl⟩ rfl rfl,⟨.int j,H,I.tok _,⟨_,rfl⟩,q⟩⟩
 ·rcases(show j=0\/j=1\/j=2 by lia) with rfl|rfl|rfl<;>(simp at hj; subst hj; simp[GD])
 ·intro m hm
  have:=hno m hm;rcases(show m=0\/m=1\/m=2 by lia) with rfl|rfl|rfl<;>(simp at this; simp[GD,this])
def h00:Heap:={}
def Kc(h:Heap)(L:Addr):List (Addr×Obj):=(List.range h.objs.size).filterMap λa=>if a=L then none else(h.get? a).map λo=>(a,o)
theorem Kj(a:Addr):h00.get? a=none:=Heap.get?_none_of_le (U4 _)
theorem news_mem(e:h.get? b=some o)(n:b≠L):(b,o)∈Kc h L:=by
 refine U5.mpr ⟨b,Dc.mpr (Heap.lt_size e), ?_⟩;rw[if_neg n,e];rfl
theorem news_of:News h00 L h (Kc h L):=λp hp=>by
 obtain⟨a,_,e⟩:=U5.mp hp;by_cases n:a=L
 ·rw[if_pos n] at e; cases e
 ·rw[if_neg n] at e
  cases q:h.get? a with
  |none=>rw[q] at e; cases e
  |some o=>rw[q] at e; cases e; exact⟨q,n,Kj _⟩
theorem Inv.ledger(I:Inv X pins σ H s):∃m,Fr h00 X.env.locals s.heap m/\News h00 X.env.locals s.heap (Kc s.heap X.env.locals) /\
  ∀(h':Heap)(tk:Nat),Fr h00 X.env.locals h' m->News h00 X.env.locals h' (Kc s.heap X.env.locals)->Inv X pins σ H { s with heap:=h',toks:=tk }:=by
 obtain⟨m,hn,_⟩:=I.loc;refine⟨m,⟨hn,λb o e=>(by rw[Kj] at e; cases e),U4 _⟩,news_of,λh' tk F W=>?_⟩;have kp:∀b o,b≠X.env.locals->s.heap.get? b=some o->h'.get? b=some o:=λb o n e=>(W _ (news_mem e n)).1;refine I.step (ch:=[]) (H':=H) (λb hb=>nomatch hb) (λb o n _ _ e _=>kp b o n e) (λb o n _ _ e _=>⟨o.slots,kp b o n e⟩) (λb o _ _ z=>z) (λb o _ e=>?_) (λ_ _ z=>z) (λ_ _ _ z=>z) (λb ps z=>⟨#[],by simpa using z⟩) (λm' hm'=>?_) (λa o e=>?_) I.bare
 ·by_cases n:b=X.env.locals
  ·subst n
   obtain⟨o',_,_,e',_⟩:=F.ns;exact⟨o',e'⟩
  ·exact⟨o,kp b o n e⟩
 ·have:m'=m:=funext λx=>by
   obtain⟨o,es,ep,e1,e2,e3,e4⟩:=hm';obtain⟨o',es',ep',f1,f2,f3,f4⟩:=hn;rw[e1] at f1; cases f1;rw[e2] at f2; cases f2;rw[<-e4, <-f4]
  rw[this];exact F.ns
 ·refine(I.hok a o e).stay (λb u hb q=>kp b u ?_ q) (λ_ q=>q) λ_ _ q=>q
  intro z;subst z;have:=I.free;rcases hb with hb|hb
  ·subst hb; rw[e] at this; cases this
  ·rw[hb] at this; cases this
theorem KC:∀{bs:List Bool}{us:List Value},Vals (bs.map V.bl) us->LSm.BoolsAre us bs
 | [],_,h=>by cases h; exact .nil
 |b::bs,_,h=>by
  cases h with
  |cons r t =>
   obtain rfl:=(show _=Value.bool b from r);exact .cons b (KC t)
def rAll:List V->Hp->VK->Prop:=λxs H Q=>∃(l:Addr)(bs:List Bool),xs=[.ref l]/\H l=some (.lst (bs.map V.bl))/\Q (.bl (bs.all id)) H
theorem call_all(hc:X.calm=true):zJ X (.builtin "all") rAll:=by
 intro pins s σ H xs us Q I r h;obtain⟨l,bs,rfl,hl,q⟩:=h;obtain⟨u,rfl,rx⟩:=ky r;cases rx;obtain⟨its,r',pl,hz⟩:=I.list (SqL.of hl);obtain⟨m,F,W,fin⟩:=I.ledger;exact LSm.all_bools F W (I.ok.hd hc) pl.isList (KC r') λh' tk F' W'=>⟨.bl _,H,fin h' tk F' W',rfl,q⟩
def rRng1:List V->Hp->VK->Prop:=λxs H Q=>∃j:Int,xs=[.int j]/\∀l,H l=none->Q (.ref l) (upd H l (.rng 0 j))
theorem JG:zJ X (.type "range") rRng1:=by
 intro pins s σ H xs us Q I r h;obtain⟨j,rfl,q⟩:=h;obtain⟨u,rfl,t,rfl⟩:=ky r;refine call_range_1 ⟨.ref s.heap.objs.size,_,I.laid (t':=s.toks+1+1) (λb o e=>Heap.get?_push_of_some _ e) (Up _) (show ObjOk X.prog X.w _ _ _ (.rng 0 j) from⟨_,_,_,Heap.get?_push_size _ rfl⟩),rfl,q _ (I.hok.fresh (Up _))⟩
theorem ki:∀{ns:List Int}{us:List Value},CarriedAll us (ns.map PyData.int)->Vals (ns.map V.int) us
 | [],_,h=>by cases h; exact .nil
 |n::ns,_,h=>by
  cases h with
  |cons r t =>
   cases r with
   |int i tk=>exact .cons ⟨tk,rfl⟩ (ki t)
def J5:List V->Hp->VK->Prop:=λxs H Q=>∃(p:Addr)(lo hi:Int)(n:Nat),xs=[.ref p]/\H p=some (.rng lo hi) /\ -(2^62)<=lo/\hi<2^62/\hi=lo+n/\n<=1000000/\∀l,H l=none->Q (.ref l) (upd H l (.lst ((List.range n).map λk:Nat=>V.int (lo+k))))
theorem Zn(hc:X.calm=true):zJ X (.type "list") J5:=by
 intro pins s σ H xs us Q I r h;obtain⟨p,lo,hi,n,rfl,hp,b1,b2,e,hn,q⟩:=h;obtain⟨u,rfl,rx⟩:=ky r;cases rx;obtain⟨t,u,v,ho⟩:=(show ObjOk X.prog X.w H s.heap p (.rng lo hi) from I.hok p _ hp);obtain⟨m,F,W,fin⟩:=I.ledger;refine list_rangeD (n:=n) (I.ok.hd hc) F W ho (small_one (by lia) (by lia) (by lia) (by lia)) (by rw[rangeSize_one]; split<;>lia) (UY hn (by decide)) λh' tk ys F' W' kp _ _ np ca=>?_;have hv:Vals ((List.range n).map λk:Nat=>V.int (lo+k)) ys:=by
  have:=ki ca;unfold rangeInts at this;rw[R6] at this;have e2:(V.int ∘ λi:Nat=>lo+(i:Int)*1)=λk:Nat=>V.int (lo+k):=funext λk=>by simp
  rw[e2] at this;exact this
 have hz:((List.range n).map λk:Nat=>V.int (lo+k)).length<=sizeLine:=by
  rw[Ul,List.length_range]; exact UY hn (by decide)
 refine⟨.ref s.heap.objs.size,_,I.laid (t':=tk) kp (Up _) (show ObjOk X.prog X.w _ h' _ (.lst _) from ?_),rfl,q _ (I.hok.fresh (Up _))⟩;obtain⟨pl,_⟩:=np;obtain⟨n',e'⟩:=pl;exact⟨hz,ys,n',hv,e'⟩
def rIxA(Ξ:PySem.W.Frag):R2:=λx y H Q=>rIxL Ξ x y H Q\/rIxT Ξ x y H Q
theorem Gc(h:X.K=Ξ):IxR X (rIxA Ξ):=(qw h).or (qK h)
def rLenA(Ξ:PySem.W.Frag):List V->Hp->VK->Prop:=λxs H Q=>∃p ys,xs=[.ref p]/\(SqL Ξ H p ys\/SqT Ξ H p ys)/\Q (.int ys.length) H
theorem zY(h:X.K=Ξ):zJ X (.builtin "len") (rLenA Ξ):=h▸ku
structure GInt(mg:Str->Option Value)(nm:Str)(n:Int):Prop where
 ex:∃t,mg nm=some (.int n t)
def Bt(n:Nat)(i:Int):Prop:=i.natAbs<2^n
theorem Bt.bits(h:Bt n i):Builtin.Int.intBits i<=n:=intBits_le_iff.mpr h
theorem Bt.mono(h:Bt n i)(hm:n<=m):Bt m i:=Uy h (Dl (by decide) hm)
theorem Bt.neg(h:Bt n i):Bt n (-i):=by unfold Bt; rw[Int.natAbs_neg]; exact h
theorem Bt.small(h0 : -(2^62)<i)(h1:i<2^62)(hn:62<=n):Bt n i:=by
 refine Bt.mono (n:=62) ?_ hn;unfold Bt;lia
theorem Bt.sign(h:Bt n i)(hs:s=1\/s = -1):Bt n (s*i):=by
 rcases hs with rfl|rfl
 ·rw[UR]; exact h
 ·rw[Int.neg_mul,UR]; exact h.neg
def CShlB(i j:Int):Prop:=0<=j/\j<=100000/\Bt 100000 i
theorem Wp:OpR X (binaryOp .LShift) (rI CShlB λi j=>.int (i*2^j.toNat)):=opI λi j _ _ _ _ _ hc q=>lshift_int hc.1 (by
 have:=hc.2.2.bits;have h2:=hc.2.1;lia) q
structure Nms2(mg:Str->Option Value):Prop where
 reversed:mg "reversed" = none
def Itv(Ξ:PySem.W.Frag)(a:Addr)(n:Nat):It :=
 ⟨λi H=>i<n/\∃xs,SqL Ξ H a xs/\xs.length=n,λi H x H'=>H'=H/\∀xs,SqL Ξ H a xs->xs[n-1-i]?=some x,λi H=>n=i⟩
theorem turn_rev(a it:Addr)(n:Nat):Turn P w Ξ tg (Itv Ξ a n) [it] it (λi h=>h.IsRevIter it a ((n:Int)-1-i)) where
 mem:=by simp
 obj:=λi h st b hb=>by
  have e:b=it:=by simpa using hb
  subst e;obtain⟨o,e,c,d⟩:=st;exact⟨o,e,λv z=>by rw[d] at z; cases z⟩
 keep:=λi h h' st k=>st.at λo e=>k it (by simp) o e
 item:=by
  intro X hP hw hK hc i pins s σ H E I hf st hg;subst hP hw hK;obtain⟨hi,xs,hq,hn⟩:=hg;obtain⟨its,rv,p,hz⟩:=I.list hq;have hx:xs[n-1-i]?=some xs[n-1-i]:=Uk (by lia);obtain⟨u,hu,ru⟩:=rv.get hx;obtain⟨f0,f1,f2,f3,f4,f5⟩:=hf it (by simp);have st2:s.heap.IsRevIter it a (((n-1-i:Nat)):Int):=by
   have e:(((n-1-i:Nat)):Int)=(n:Int)-1-i:=by lia
   rw[e]; exact st
  refine wpAny_pyNext_rev_item st2 p.isList (x:=u) (by simpa using hu) λh' st' sb=>?_;have I1:Inv X pins σ H { s with heap:=h' }:=I.turned (t':=s.toks) (λb o hb e=>(sb.2 b hb).trans e) f0 f1 f3 f4 f5;obtain⟨o,e,c,d⟩:=id st';have st3:h'.IsRevIter it a ((n:Int)-1-((i+1:Nat):Int)):=by
   have e:(n:Int)-1-((i+1:Nat):Int)=((n-1-i:Nat):Int)-1:=by lia
   rw[e]; exact st'
  exact⟨u,rfl,go_of (s:={ s with heap:=h' }) e c d (by decide) ⟨_,H,I1,ru,⟨rfl,λys hy=>by rw[I.list_inj hy hq]; exact hx⟩,st3,λb hb=>(hf b hb).1⟩⟩
 done:=by
  intro X hP hw hK hc i pins s σ H E I hf st hg;subst hP hw hK;obtain⟨f0,f1,f2,f3,f4,f5⟩:=hf it (by simp);have st2:s.heap.IsRevIter it a (-1):=by
   have e:(n:Int)-1-i = -1:=by have:n=i:=hg; lia
   rw[e] at st; exact st
  exact wpAny_pyNext_rev_end (I.ok.hd hc) st2 λh' eb=>⟨rfl,I.turned (t':=s.toks) (λb o hb e=>eb b o hb e) f0 f1 f3 f4 f5⟩
 self:=λ_ _ _ _ _ st h=>wpAny_pyIter_revIter st h
def RvStep(Ξ:PySem.W.Frag)(vs:List V)(H:Hp)(R:It->Hp->Prop):Prop:=∃a xs,vs=[.ref a]/\SqL Ξ H a xs/\R (Itv Ξ a xs.length) H
def iRev(Ξ:PySem.W.Frag)(ta:TA):TI:=λσ H R=>ta σ H λvs H1=>RvStep Ξ vs H1 R
theorem VL:iRev Ξ ta σ H R=ta σ H λvs H1=>RvStep Ξ vs H1 R:=rfl
theorem Inv.turned2(I:Inv X pins σ H s)(k:∀b u,b≠e->b≠it->s.heap.get? b=some u->h'.get? b=some u)(fe:FpOk X pins H e)(fi:FpOk X pins H it)(hp:s.heap.objs.size<=a)(new:ObjOk X.prog X.w (upd H a o) h' a o):Inv X pins σ (upd H a o) { s with heap:=h',toks:=t' }:=by
 have hn:=I.hok.fresh hp;have na:∀b u,s.heap.get? b=some u->b≠a:=λb u q z=>by
  have:=Heap.lt_size q;subst z;exact absurd (Uy this hp) (Dh _)
 have ne:∀b u,H b=some u->b≠e:=λb u q z=>by rw[z,fe.1] at q; cases q
 have ni:∀b u,H b=some u->b≠it:=λb u q z=>by rw[z,fi.1] at q; cases q
 have hc:∀b,b∉[e,it]->b≠e/\b≠it:=λb hb=>⟨λz=>hb (by simp[z]),λz=>hb (by simp[z])⟩;refine I.step (g':=s.gens) (d':=s.drawn) (ch:=[e,it]) (λb hb=>?_) (λb u _ _ c q _=>k b u (hc b c).1 (hc b c).2 q) (λb u _ _ c q _=>⟨u.slots,k b u (hc b c).1 (hc b c).2 q⟩) (λb u _ q n=>by rw[upd_ne (na b u q)]; exact n)
  (λb u c q=>⟨u,k b u (hc b c).1 (hc b c).2 q⟩) (λb xs q=>zq hn q) (λb _ _ q=>zq hn q) (λb ps q=>⟨#[],by rw[zq hn q]; simp⟩) (λm hm=>?_) (λb u q=>?_) I.bare
 ·rcases Uw.mp hb with z|z
  ·subst z
   exact⟨fe.2.2.2.1,fe.2.1,fe.2.2.2.2.1,fe.2.2.2.2.2⟩
  ·have z:b=it:=by simpa using z
   subst z;exact⟨fi.2.2.2.1,fi.2.1,fi.2.2.2.2.1,fi.2.2.2.2.2⟩
 ·obtain⟨o,es,ep,ho,r⟩:=hm
  exact⟨o,es,ep,k _ o (Ne.symm fe.2.1) (Ne.symm fi.2.1) ho,r⟩
 ·by_cases hb:b=a
  ·subst hb; rw[upd_same] at q; cases q; exact new
  ·rw[upd_ne hb] at q
   refine(I.hok b u q).stay (λc v hcc qq=>?_) (λc qq=>zq hn qq) λc xs qq=>zq hn qq;rcases hcc with z|z
   ·subst z; exact k c v (ne c u q) (ni c u q) qq
   ·exact k c v (ne c _ z) (ni c _ z) qq
def Ite(Ξ:PySem.W.Frag)(a:Addr):It :=
 ⟨λi H=>∃xs x,SqL Ξ H a xs/\xs[i]?=some x,λi H x H'=>∃(p:Addr)(v:V),x=.ref p/\H p=none/\H'=upd H p (.tup [.int i,v])/\∀xs,SqL Ξ H a xs->xs[i]?=some v,λi H=>∃xs,SqL Ξ H a xs/\xs.length<=i⟩
theorem YI(a e it:Addr):Turn P w Ξ (.Tuple elts kk pos) (Ite Ξ a) [e,it] e (λi h=>e≠it/\(∃old,IsEnum h e it i old)/\h.IsListIter it a i) where
 mem:=by simp
 obj:=λi h ⟨ne,⟨old,st⟩,li⟩ b hb=>by
  rcases Uw.mp hb with z|z
  ·subst z
   exact⟨_,st,λv z=>by
    have z':Data.fields _=Data.cell v:=z;cases z'⟩
  ·have z:b=it:=by simpa using z
   subst z;obtain⟨o,e,c,d⟩:=li;exact⟨o,e,λv z=>by rw[d] at z; cases z⟩
 keep:=λi h h' ⟨ne,⟨old,st⟩,li⟩ k=>⟨ne,⟨old,k e (by simp) _ st⟩,li.at λo q=>k it (by simp) o q⟩
 item:=by
  intro X hP hw hK hc i pins s σ H E I hf st hg;subst hP hw hK;obtain⟨ne,⟨old,st⟩,li⟩:=st;obtain⟨xs,x,hq,hx⟩:=hg;obtain⟨its,rv,p,hz⟩:=I.list hq;obtain⟨u,hu,ru⟩:=rv.get hx;refine wpAny_pyNext_enum_item st li p.isList (x:=u) (by simpa using hu) ne λh' eo li' tp sz kp=>⟨_,rfl, ?_⟩;unfold letOwnedTupleGo;refine wpAny_bind (wpAny_load eo ?_);have hb:((some (rawInt (s.heap.objs.size:Int)):Option Value)==some (rawInt (s.heap.objs.size:Int)))=true:=by simp
  show wpAny _ _ (if(true&&((some (rawInt (s.heap.objs.size:Int)):Option Value)==some (rawInt (s.heap.objs.size:Int))))=true then _ else _) _ _ _;rw[hb];simp only[Bool.and_self,if_true];unfold updateField
  wp_walk using wpAny_load eo;have fe:=hf e (by simp);have fi:=hf it (by simp);have hne:s.heap.objs.size≠e:=λz=>by
   have:=Heap.lt_size st;rw[<-z] at this;exact absurd this (Dh _)
  have hni:s.heap.objs.size≠it:=λz=>by
   obtain⟨o,q,_⟩:=li;have:=Heap.lt_size q;rw[<-z] at this;exact absurd this (Dh _)
  have up:∀b,b≠e->(h'.update e (Obj.mapFields λx=>x.setIfInBounds 0 Value.none)).get? b=h'.get? b:=λb hb=>Heap.get?_update_ne _ _ _ _ hb;have upe:(h'.update e (Obj.mapFields λx=>x.setIfInBounds 0 Value.none)).get? e=some { cls:=.type "enumerate", data:=.fields #[.none, .bool false, .ref it,rawInt ((i:Int)+1), .none,u] }:=by
   exact Heap.get?_update_self _ eo rfl
  have hfr:=I.hok.fresh (Up s.heap.objs.size);have tp2:(h'.update e (Obj.mapFields λx=>x.setIfInBounds 0 Value.none)).get? s.heap.objs.size=some { cls:=.type "tuple", data:=.seq #[.int (i:Int) s.toks,u] }:=(up _ hne).trans tp;refine⟨.ref s.heap.objs.size,_,I.turned2 (o:=.tup [.int i,x]) (λb v h1 h2 q=>(up b h1).trans (kp b v h1 h2 q)) fe fi (Up _) ?_,rfl,⟨_,x,rfl,hfr,rfl,λys hy=>by rw[I.list_inj hy hq]; exact hx⟩,⟨ne,⟨u,by exact_mod_cast upe⟩, ?_⟩,λb hb=>?_⟩
  ·exact⟨by show 2<=sizeLine; decide, [.int i s.toks,u], .cons ⟨_,rfl⟩ (.cons ru .nil),_,tp2,rfl,_,rfl⟩
  ·exact li'.at λo q=>(up it ne.symm).trans q
  ·have:=(hf b hb).1
   rcases Uw.mp hb with z|z
   ·subst z; rw[upd_ne hne.symm]; exact this
   ·have z:b=it:=by simpa using z
    subst z; rw[upd_ne hni.symm]; exact this
 done:=by
  intro X hP hw hK hc i pins s σ H E I hf st hg;subst hP hw hK;obtain⟨ne,⟨old,st⟩,li⟩:=st;obtain⟨xs,hq,hx⟩:=hg;obtain⟨its,rv,p,hz⟩:=I.list hq;obtain⟨f0,f1,f2,f3,f4,f5⟩:=hf it (by simp);have hl:=rv.length;exact wpAny_pyNext_enum_end (I.ok.hd hc) st li p.isList (by simp; lia) λh' eb=>⟨rfl,I.turned (t':=s.toks) (λb o hb e=>eb b o hb e) f0 f1 f3 f4 f5⟩
 self:=λ_ _ _ _ _ st h=>by
  obtain⟨ne,⟨old,st⟩,li⟩:=st;exact wpAny_pyIter_enum st h
def EnStep(Ξ:PySem.W.Frag)(vs:List V)(H:Hp)(R:It->Hp->Prop):Prop:=∃a xs,vs=[.ref a]/\SqL Ξ H a xs/\R (Ite Ξ a) H
def Gm(Ξ:PySem.W.Frag)(ta:TA):TI:=λσ H R=>ta σ H λvs H1=>EnStep Ξ vs H1 R
theorem kN:Gm Ξ ta σ H R=ta σ H λvs H1=>EnStep Ξ vs H1 R:=rfl
def rNeL(Ξ:PySem.W.Frag):R2:=λx y H Q=>∃a b xs ys,x=.ref a/\y=.ref b/\SqL Ξ H a xs/\SqL Ξ H b ys/\((xs.length≠ys.length/\Q (.bl true) H)\/(xs.length=ys.length/\∃e:Nat->Bool,(∀(j:Nat) x y,xs[j]?=some x->ys[j]?=some y->DE Ξ H 20 x y (e j))/\Q (.bl (!(List.range xs.length).all e)) H))
def rEqL(Ξ:PySem.W.Frag):R2:=λx y H Q=>∃a b xs ys,x=.ref a/\y=.ref b/\SqL Ξ H a xs/\SqL Ξ H b ys/\((xs.length≠ys.length/\Q (.bl false) H)\/(xs.length=ys.length/\∃e:Nat->Bool,(∀(j:Nat) x y,xs[j]?=some x->ys[j]?=some y->DE Ξ H 20 x y (e j))/\Q (.bl ((List.range xs.length).all e)) H))
theorem Wq(hK:X.K=Ξ)(hu:X.A.units+64<cLine):OpR X (compareOp .NotEq) (rNeL Ξ):=by
 subst hK;intro pins s σ H x y v u Q I rx ry h;obtain⟨a,b,xs,ys,rfl,rfl,ha,hb,h⟩:=h;obtain rfl:v=Value.ref a:=rx;obtain rfl:u=Value.ref b:=ry;obtain⟨its,r1,p1,_⟩:=I.list ha;obtain⟨its2,r2,p2,_⟩:=I.list hb;rcases h with⟨hl,q⟩|⟨hl,e,he,q⟩
 ·exact EqBoolInt.of_rcne (SeqAt.RcNeAt.lists_lengths (A:=X.A) p1.isList p2.isList (by simp[<-r1.length, <-r2.length,hl]) (by lia)) ⟨.bl _,H,I,rfl,q⟩
 ·refine EqBoolInt.of_rcne (SeqAt.RcNeAt.lists (A:=X.A) (e:=e) p1.isList p2.isList (by simp[<-r1.length, <-r2.length,hl]) (by lia) λj h1 h2=>?_) ⟨.bl _,H,I,rfl, ?_⟩
  ·have l1:j<xs.length:=by rw[r1.length]; simpa using h1
   have l2:j<ys.length:=by rw[r2.length]; simpa using h2
   obtain⟨u1,q1,s1⟩:=r1.get (Uk l1);obtain⟨u2,q2,s2⟩:=r2.get (Uk l2);have e1:its.toArray[j]=u1:=by
    obtain⟨_,z⟩:=Uj.mp q1;simpa using z
   have e2:its2.toArray[j]=u2:=by
    obtain⟨_,z⟩:=Uj.mp q2;simpa using z
   rw[e1,e2];exact(he j _ _ (Uk l1) (Uk l2)).eqAt I (by rw[zT]; lia) s1 s2
  ·rw[Ut, <-r1.length]
   exact q
theorem Ws(hK:X.K=Ξ)(hu:X.A.units+64<cLine):OpR X (compareOp .Eq) (rEqL Ξ):=by
 subst hK;intro pins s σ H x y v u Q I rx ry h;obtain⟨a,b,xs,ys,rfl,rfl,ha,hb,h⟩:=h;obtain rfl:v=Value.ref a:=rx;obtain rfl:u=Value.ref b:=ry;obtain⟨its,r1,p1,_⟩:=I.list ha;obtain⟨its2,r2,p2,_⟩:=I.list hb;rcases h with⟨hl,q⟩|⟨hl,e,he,q⟩
 ·exact EqBoolInt.of_rc (SeqAt.RcAt.lists_lengths (A:=X.A) p1.isList p2.isList (by simp[<-r1.length, <-r2.length,hl]) (by lia)) ⟨.bl _,H,I,rfl,q⟩
 ·refine EqBoolInt.of_rc (SeqAt.RcAt.lists (A:=X.A) (e:=e) p1.isList p2.isList (by simp[<-r1.length, <-r2.length,hl]) (by lia) λj h1 h2=>?_) ⟨.bl _,H,I,rfl, ?_⟩
  ·have l1:j<xs.length:=by rw[r1.length]; simpa using h1
   have l2:j<ys.length:=by rw[r2.length]; simpa using h2
   obtain⟨u1,q1,s1⟩:=r1.get (Uk l1);obtain⟨u2,q2,s2⟩:=r2.get (Uk l2);have e1:its.toArray[j]=u1:=by
    obtain⟨_,z⟩:=Uj.mp q1;simpa using z
   have e2:its2.toArray[j]=u2:=by
    obtain⟨_,z⟩:=Uj.mp q2;simpa using z
   rw[e1,e2];exact(he j _ _ (Uk l1) (Uk l2)).eqAt I (by rw[zT]; lia) s1 s2
  ·rw[Ut, <-r1.length]
   exact q
theorem qag{α:Type}[DecidableEq α]{ns ms:List α}(hl:ns.length=ms.length):(List.range ns.length).all (λj=>ns[j]?==ms[j]?)=decide (ns=ms):=by
 rw[DF,decide_eq_true_iff,DA];constructor
 ·intro h
  refine List.ext_getElem? λj=>?_;by_cases hj:j<ns.length
  ·exact eq_of_beq (h j (Dc.mpr hj))
  ·rw[RB (by lia),RB (by lia)]
 ·rintro rfl j _
  simp
def ixRev(n:Nat):List Nat:=sliceRange (sliceBounds none none (some (-1)) n).1 (sliceBounds none none (some (-1)) n).2.1 (sliceBounds none none (some (-1)) n).2.2
def pickV(xs:List V):List V:=(ixRev xs.length).filterMap λi=>xs[i]?
def RevStep(Ξ:PySem.W.Frag)(x:V)(H:Hp)(Q:VK):Prop:=∃a xs,x=.ref a/\SqL Ξ H a xs/\∀r,H r=none->Q (.ref r) (upd H r (.lst (pickV xs)))
def tRev(Ξ:PySem.W.Frag)(te:TE):TE:=λσ H Q=>te σ H λx H1=>RevStep Ξ x H1 Q
def WM:Expr->Bool
 |.Starred _ _=>false
 |_=>true
theorem YR(h:WM e=true):starEach (e::es) env=(false,eval e env)::starEach es env:=by
 cases e<;>first|rfl|cases h
structure QE(X:Cx)(e:Expr)(t:TE):Prop where
 h:PE X e t
structure QT(X:Cx)(e:Expr)(t:TT):Prop where
 h:PT X e t
structure QW(X:Cx)(e:Expr)(t:TT):Prop where
 h:PW X e t
structure QA(X:Cx)(e:List Expr)(t:TA):Prop where
 h:PA X e t
structure QS(X:Cx)(e:Stmt)(t:TS):Prop where
 h:PS X e t
structure QSs(X:Cx)(e:List Stmt)(t:TS):Prop where
 h:PSs X e t
structure QG(X:Cx)(e:Expr)(t:TG):Prop where
 h:PG X e t
structure QGs(X:Cx)(e:List Expr)(t:TGs):Prop where
 h:PGs X e t
structure QTs(X:Cx)(e:List Expr)(t:TT):Prop where
 h:PTs X e t
structure QO(X:Cx)(e:Option Expr)(t:TO):Prop where
 h:PO X e t
structure QI(X:Cx)(tg e:Expr)(t:TI):Prop where
 h:PI X tg e t
structure QPs(X:Cx)(pos:Pos)(ks:List (Option Expr))(vs:List Expr)(t:List (TE×TE)):Prop where
 h:PPs X pos ks vs t
section
theorem qI:QSs X [] Vp:=⟨pss_nil ⟩
end
section
theorem qi{st:Stmt}(h1:QS X st t):QSs X [st] t:=⟨by
 intro pins s σ H D I h;refine wpAny_execs_cons (thn (h1.h pins s σ H D I h) λf s1 q=>?_);cases f with
 |next=>exact wpAny_execs_nil q
 |ret v=>exact q
 |brk=>exact q
 |cont=>exact q⟩
end
section
theorem qg{rest:List Stmt}{st:Stmt}(h1:QS X st t)(h2:QSs X rest u):QSs X (st::rest) (tSeq t u):=⟨by
 intro pins s σ H D I h;refine wpAny_execs_cons (thn (h1.h pins s σ H { D with nx:=u D } I h) λf s1 q=>?_);cases f with
 |next =>
  obtain⟨σ',H',I',q⟩:=q;exact h2.h pins s1 σ' H' D I' q
 |ret v=>exact q
 |brk=>exact q
 |cont=>exact q⟩
end
section
theorem Y9(bs:List Bool)(ext:List Str)(hN:X.N.Nodup)(hix:X.N[i]?=some x)(hx:X.env.scope.names.lookup x=some .local)(hi:QI X tg iter wi)(hg:∀fp s H,QG (cxB X scope ext fp s H) tg g)(ht:∀fp s H,QTs (cxB X scope ext fp s H) ifs tt)(he:∀fp s H,QE (cxB X scope ext fp s H) elt te)(hk:ka scope X.env X.N bs=true:=by rfl)(hc:X.calm=true:=by rfl)(hsw:swapsWith (.ListComp elt [⟨tg,iter,ifs,0⟩] scope pos) (some (.Name x pos')) spos.line X.env=pure true:=by rfl)(hs:∀x,foldedSetIterable iter X.env x=pure x:=by intro _; rfl):QS X (.Assign [.Name x pos'] (.ListComp elt [⟨tg,iter,ifs,0⟩] scope pos) spos) (tAsg (jc wi bs ext.length g tt te) (vc i)):=⟨ps_lc bs ext hN hix hx hi.h (λfp s H=>(hg fp s H).h) (λfp s H=>(ht fp s H).h) (λfp s H=>(he fp s H).h) hk hc hsw hs⟩
end
section
theorem jC(ha:QE X o ta)(hv:QE X value tv)(hs:swapsWith value (some (.Attribute o f pos')) pos.line X.env=pure false):QS X (.Assign [.Attribute o f pos'] value pos) (sFld X.K ta tv f):=⟨by
 intro pins s σ H D I h;refine plainObj_wpAny_Assign_Attribute (thn (hv.h pins s σ H _ I h) λu s1 ⟨y,H1,I1,ry,q⟩=>thn (ha.h pins s1 σ H1 _ I1 q) λov s2 ⟨x,H2,I2,rx,a,C,dx,fs,ex,ea,c,n,l,q2⟩=>?_) hs;subst ex;obtain rfl:ov=Value.ref a:=rx;exact KL I2 ea c n l ry λs3 I3=>⟨σ,_,I3,q2⟩⟩
end
section
theorem qF(hN:X.N.Nodup)(hi:X.N[i]?=some x)(hx:Loc X.env.scope x)(he:QE X e te)(hs:swapsWith e (some (.Name x pos')) pos.line X.env=pure false:=by rfl)(hf:X.fn x=true\/X.env.scope.names.lookup x=some .local:=by first|exact .inl rfl|exact .inr rfl|assumption):QS X (.Assign [.Name x pos'] e pos) (tAsg te (vc i)):=⟨by
 intro pins s σ H D I h;refine wpAny_Assign_Name (thn (he.h pins s σ H _ I h) λv s1 ⟨y,H1,I1,r1,q1⟩=>?_) hs;exact kJ I1 hN hi hx r1 (λs2 I2=>⟨_,H1,I2,q1⟩) hf⟩
end
section
theorem vY(he:QE X e te)(hg:QG X tg g)(hs:swapsWithSole [tg] e pos.line X.env=pure false:=by rfl)(hw:swappedStores [tg] e X.env=pure none:=by rfl)(h1:(assignEach [tg] X.env).map (·.2)=[assign tg X.env]:=by rfl):QS X (.Assign [tg] e pos) (tAsg te g):=⟨by
 intro pins s σ H D I h;refine wpAny_Assign_stores (thn (he.h pins s σ H _ I h) λv s1 ⟨x,H1,I1,r1,q1⟩=>?_) hs hw;rw[h1];exact thn (hg.h pins s1 σ H1 x v _ I1 r1 q1) λ_ s2 q=>q⟩
end
section
theorem qs_aug(hN:X.N.Nodup)(hi:X.N[i]?=some x)(hx:Loc X.env.scope x)(he:QE X e te)(ho:PIp X op ti)(hf:X.fn x=true\/X.env.scope.names.lookup x=some .local:=by first|exact .inl rfl|exact .inr rfl|assumption):QS X (.AugAssign (.Name x pos') op e pos) (tAug i te ti):=⟨by
 intro pins s σ H D I h;obtain⟨v,e1,h⟩:=h;obtain⟨m,hn,hl⟩:=I.loc;have vis:Vis X.env.scope x:=by rcases hx with k|k; exact .inl k; exact .inr (.inl k)
 obtain⟨u,r,l⟩:=hl i x v hi e1 vis;refine wpAny_AugAssign_Name ?_;have go:wpAny (model X.prog X.w) X.A (eval e X.env) (λw s₂=>wpAny (model X.prog X.w) X.A (inplaceOp op u w) (λr s₃=>wpAny (model X.prog X.w) X.A (storeName X.env x r) (λ_=>SP X pins D .next) X.xe s₃) X.xe s₂) X.xe s:=by
  refine thn (he.h pins s σ H _ I h) λw s1 ⟨y,H1,I1,r1,q1⟩=>?_;refine thn (ho pins s1 σ H1 v y u w _ I1 r r1 q1) λz s2 ⟨zv,H2,I2,r2,q2⟩=>?_;exact kJ I2 hN hi hx r2 (λs3 I3=>⟨_,H2,I3,q2⟩) hf
 rcases l with⟨hk,hm⟩|⟨hk,c,hc,hcell⟩
 ·exact wpAny_loadName_local I.ok.kind hk hn hm go
 ·rcases hk with hk|hk
  ·exact wpAny_loadName_cell I.ok.kind hk hc hcell go
  ·rcases hx with k|k
   ·have:X.env.scope.names.lookup x=some .free:=hk
    rw[k] at this; cases this
   ·have:X.env.scope.names.lookup x=some .free:=hk
    rw[k] at this; cases this⟩
end
section
theorem qy(he:QE X e te):QS X (.Return (some e) pos) (tRet te):=⟨by
 intro pins s σ H D I h;exact wpAny_Return_some (thn (he.h pins s σ H _ I h) λv s1 ⟨x,H1,I1,r1,q1⟩=>⟨x,σ,H1,I1,r1,q1⟩)⟩
end
section
theorem qX(hc:QT X c tc)(ha:QSs X a t)(hb:QSs X b u):QS X (.If c a b pos) (tIfS tc t u):=⟨by
 intro pins s σ H D I h;refine wpAny_If (thn (hc.h pins s σ H _ I h) λd s1 ⟨H1,I1,q1⟩=>?_);cases d with
 |true=>exact ha.h pins s1 σ H1 D I1 q1
 |false=>exact hb.h pins s1 σ H1 D I1 q1⟩
end
section
theorem vX(hp:PassesOwn (model X.prog X.w) X.A X.env X.xe)(hc:X.calm=true)(hi:QI X tg iter wi)(hg:QG X tg g)(hb:QSs X body tb)(hs:∀x,foldedSetIterable iter X.env x=pure x:=by intro _; rfl):QS X (.For tg iter body [] pos) (tFor wi g tb):=⟨ps_for hp hc hi.h hg.h hb.h hs⟩
end
section
theorem kO(hp:PassesOwn (model X.prog X.w) X.A X.env X.xe)(hc:QT X c tc)(hb:QSs X body tb):QS X (.While c body [] pos) (JW tc tb):=⟨by
 intro pins s σ H D I h;obtain⟨W,⟨m0,w0⟩,turn⟩:=h;refine wpAny_While (codeAny_whileLoop (λn s'=>∃σ' H',Inv X pins σ' H' s'/\W n σ' H') ?_ m0 ⟨σ,H,I,w0⟩);rintro n s1 ⟨σ1,H1,I1,w1⟩;refine wpAny_passesOwn hp (thn (hc.h pins s1 σ1 H1 _ I1 (turn n σ1 H1 w1)) λb s2 ⟨H2,I2,q2⟩=>?_);cases b with
 |true =>
  obtain⟨N,hN,q2⟩:=q2;rw[if_pos rfl];refine wpAny_passesOwn hp (thn (hb.h pins s2 σ1 H2 _ I2 q2) λf s3 q3=>?_);cases f with
  |next =>
   obtain⟨σ3,H3,I3,n3⟩:=q3;obtain⟨m',hm,w3⟩:=hN σ3 H3 n3;exact⟨m',hm,σ3,H3,I3,w3⟩
  |cont =>
   obtain⟨σ3,H3,I3,n3⟩:=q3;obtain⟨m',hm,w3⟩:=hN σ3 H3 n3;exact⟨m',hm,σ3,H3,I3,w3⟩
  |brk=>exact q3
  |ret v=>exact q3
 |false =>
  rw[if_neg Uv];exact wpAny_execs_nil ⟨σ1,H2,I2,q2⟩⟩
end
section
theorem xy(he:QE X e te)(hs:swapsWith e none pos.line X.env=pure false:=by rfl):QS X (.Expr e pos) (Zv te):=⟨by
 intro pins s σ H D I h;exact wpAny_Expr_any (thn (he.h pins s σ H _ I h) λv s1 ⟨x,H1,I1,r1,q1⟩=>⟨σ,H1,I1,q1⟩) I.quiet hs⟩
end
section
theorem vM(hg:Gl X "range")(hm:X.mg "range" = none)(ha:QA X [a] ta)(hs:starEach [a] X.env=[(false,eval a X.env)]:=by rfl):QI X tg (.Call (.Name "range" p) [a] [] pos) (Gk ta):=⟨by
 intro pins s σ H R I h;refine Call_ (Qp I hg hm boot_range (PyProof.Rows.callWith_type1 (thn (ha.h pos pins s σ H _ I h) λus s1 ⟨vs,H1,I1,r1,q1⟩=>?_) hs rfl));obtain⟨j,e,q1,q2,q⟩:=q1;subst e;cases r1 with
 |cons r rr =>
  cases rr;obtain⟨t,rfl⟩:=r;exact call_range_1 (range_it I1 (by lia) (by lia) q1 q2 (by simpa using q))⟩
end
section
theorem qi_revK(hK:X.K=Ξ)(hg:Gl X "reversed")(hm:X.mg "reversed" = none)(ha:QA X [a] ta)(hs:starEach [a] X.env=[(false,eval a X.env)]:=by rfl):QI X tg (.Call (.Name "reversed" p) [a] [] pos) (iRev Ξ ta):=⟨by
 subst hK;intro pins s σ H R I h;refine Call_ (Qp I hg hm boot_reversed (PyProof.Rows.callWith_type1 (thn (ha.h pos pins s σ H _ I h) λus s1 ⟨vs,H1,I1,r1,q1⟩=>?_) hs rfl));obtain⟨l,xs,e,hq,q⟩:=q1;subst e;cases r1 with
 |cons r rr =>
  cases rr;cases r;obtain⟨its,rv,pl,hz⟩:=I1.list hq;have hlen:=rv.length;refine call_reversed_list pl.isList (wpAny_pyIter_revIter ⟨_,Heap.get?_push_size _ rfl,rfl,rfl⟩ ?_);refine⟨s1.heap.objs.size, [s1.heap.objs.size],_,_,H1,rfl,I1.kept (t':=s1.toks) λb o e=>Heap.get?_push_of_some _ e,turn_rev l _ xs.length, ?_,λb hb=>?_,q⟩
  ·refine⟨_,Heap.get?_push_size _ rfl,rfl, ?_⟩
   rw[hlen];simp;rfl
  ·have e:b=s1.heap.objs.size:=by simpa using hb
   subst e;exact I1.fpOk (Up _) (I1.hok.fresh (Up _))⟩
end
section
theorem qi_enumK(hK:X.K=Ξ)(hg:Gl X "enumerate")(hm:X.mg "enumerate" = none)(ha:QA X [a] ta)(hs:starEach [a] X.env=[(false,eval a X.env)]:=by rfl):QI X (.Tuple elts kk tpos) (.Call (.Name "enumerate" p) [a] [] pos) (Gm Ξ ta):=⟨by
 subst hK;intro pins s σ H R I h;refine Call_ (Qp I hg hm boot_enumerate (PyProof.Rows.callWith_type1 (thn (ha.h pos pins s σ H _ I h) λus s1 ⟨vs,H1,I1,r1,q1⟩=>?_) hs rfl));obtain⟨l,xs,e,hq,q⟩:=q1;subst e;cases r1 with
 |cons r rr =>
  cases rr;cases r;obtain⟨its,rv,pl,hz⟩:=I1.list hq;refine call_enumerate_list pl.isList λh' en li sz kp=>wpAny_pyIter_enum en ?_;have I2:Inv X pins σ H1 { s1 with heap:=h' }:=I1.kept (t':=s1.toks) kp;refine⟨s1.heap.objs.size+1, [s1.heap.objs.size+1,s1.heap.objs.size],_,_,H1,rfl,I2,YI l _ _,⟨Nat.succ_ne_self _,⟨_,en⟩,li⟩,λb hb=>?_,q⟩;rcases Uw.mp hb with z|z
  ·subst z
   exact I1.fpOk (Dk _) (I1.hok.fresh (Dk _))
  ·have z:b=s1.heap.objs.size:=by simpa using z
   subst z;exact I1.fpOk (Up _) (I1.hok.fresh (Up _))⟩
end
section
theorem vm(h:X.K=Ξ)(hl:QE X l tl):QI X tg l (Yl Ξ tl):=⟨h▸pi_list hl.h⟩
end
section
theorem qU(hN:X.N.Nodup)(hi:X.N[i]?=some x)(hx:Loc X.env.scope x)(hf:X.fn x=true\/X.env.scope.names.lookup x=some .local:=by first|exact .inl rfl|exact .inr rfl|assumption):QG X (.Name x pos) (vc i):=⟨jZ hN hi hx hf⟩
end
section
theorem Q3(h:X.K=Ξ)(hN:X.N.Nodup)(hc:X.calm=true)(hi:X.N[i]?=some x)(hj:X.N[j]?=some y)(lx:Loc X.env.scope x)(ly:Loc X.env.scope y)(fx:X.fn x=true\/X.env.scope.names.lookup x=some .local)(fy:X.fn y=true\/X.env.scope.names.lookup y=some .local):QG X (.Tuple [.Name x px, .Name y py] kk pos) (gTup Ξ 2 (vB (vc i) (vB (vc j) gNil))):=⟨h▸pg_t2 hN hc hi hj lx ly fx fy⟩
end
section
theorem xY(h:X.K=Ξ)(hN:X.N.Nodup)(hc:X.calm=true)(hi:X.N[i]?=some x)(hj:X.N[j]?=some y)(hk:X.N[k]?=some z)(lx:Loc X.env.scope x)(ly:Loc X.env.scope y)(lz:Loc X.env.scope z)(fx:X.fn x=true\/X.env.scope.names.lookup x=some .local)(fy:X.fn y=true\/X.env.scope.names.lookup y=some .local)(fz:X.fn z=true\/X.env.scope.names.lookup z=some .local):QG X (.Tuple [.Name x px, .Name y py, .Name z pz] kk pos) (gTup Ξ 3 (vB (vc i) (vB (vc j) (vB (vc k) gNil)))):=⟨h▸pg_t3 hN hc hi hj hk lx ly lz fx fy fz⟩
end
section
theorem Wa(hc:X.calm=true)(h:QGs X es t)(hn:(assignEach es X.env).length=n:=by rfl)(hst:(assignEach es X.env).findIdx? (·.1)=none:=by rfl):QG X (.Tuple es k pos) (gTup X.K n t):=⟨Wi hc h.h hn hst⟩
end
section
theorem XZ:QGs X [] gNil:=⟨X3 ⟩
end
section
theorem vV(h1:QG X e t)(h2:QGs X es u)(hs:(assignEach (e::es) X.env).map (·.2)=assign e X.env::(assignEach es X.env).map (·.2):=by rfl):QGs X (e::es) (vB t u):=⟨xI h1.h h2.h hs⟩
end
section
theorem jD(ho:QE X o to)(hi:QE X i ti)(hs:PSet X t)(ha:∀v,assign (.Subscript o i pos) X.env v=(do
   let ov <-holding [v] (eval o X.env);let iv <-holding [v,ov] (eval i X.env)
   standAt pos
   holding [v,ov,iv] (setItem ov iv v)
   release [v,ov,iv] []):=by intro _; rfl):QG X (.Subscript o i pos) (gSub to ti t):=⟨by
 intro pins s σ H v u Q I r h;rw[ha];refine wpAny_bind (wpAny_holding (thn (ho.h pins s σ H _ I h) λov s1 ⟨x,H1,I1,r1,q1⟩=>?_));refine wpAny_bind (wpAny_holding (thn (hi.h pins s1 σ H1 _ I1 q1) λiv s2 ⟨y,H2,I2,r2,q2⟩=>?_));refine wpAny_bind (wpAny_standAt (wpAny_bind (wpAny_holding (thn (hs pins s2 σ H2 x y v ov iv u _ I2 r1 r2 r q2) λ_ s3 ⟨H3,I3,q3⟩=>?_))));exact wpAny_release ⟨σ,H3,I3,q3⟩⟩
end
section
theorem xx:QTs X [] tYes:=⟨pts_nil ⟩
end
section
theorem jo(h:QT X c t):QTs X [c] t:=⟨λpins s σ H Q I q=>wpAny_tests_one (h.h pins s σ H Q I q)⟩
end
section
theorem qa_c(ha:QE X e te)(hr:QA X es t)(h:WM e=true:=by rfl):QA X (e::es) (zK te t):=⟨Wm ha.h hr.h (YR h)⟩
end
section
theorem qf:QA X [] tNil:=⟨pa_nil ⟩
end
section
theorem qp(ho:OpR X (compareOp op) r)(ha:QE X a ta)(hb:QE X b tb)(hm:behindInMarks op b=false):QT X (.Compare a [op] [b] pos) (k7 (tOp r ta tb)):=⟨by
 intro pins s σ H Q I h;refine wpAny_isTrue_Compare1 (thn (ha.h pins s σ H _ I h) λv s1 ⟨x,H1,I1,r1,q1⟩=>thn (hb.h pins s1 σ H1 _ I1 q1) λu s2 ⟨y,H2,I2,r2,q2⟩ =>
  thn (ho pins s2 σ H2 x y v u _ I2 r1 r2 q2) λc s3 ⟨z,H3,I3,r3,k,e,q3⟩=>?_) hm
 subst e;cases r3;exact wpAny_truthy_bool ⟨H3,I3,q3⟩⟩
end
section
theorem VM(ho:OpR X (compareOp op) r)(ho':OpR X (compareOp op') r')(ha:QE X a ta)(hb:QE X b tb)(hc:QE X c tc)(hm:lastMarks [op,op'] [b,c]=false:=by with_unfolding_all rfl):QT X (.Compare a [op,op'] [b,c] pos) (k7 (xV r r' ta tb tc)):=⟨by
 intro pins s σ H Q I h;refine isTrue_chain (thn (ha.h pins s σ H _ I h) λv s1 ⟨x,H1,I1,r1,q1⟩=>test_link (thn (hb.h pins s1 σ H1 _ I1 q1) λu s2 ⟨y,H2,I2,r2,q2⟩ =>
  thn (ho pins s2 σ H2 x y v u _ I2 r1 r2 q2) λd s3 ⟨z,H3,I3,r3,k,e,q3⟩=>?_)) hm
 subst e;cases r3;refine wpAny_truthy_bool ?_;cases k with
 |false =>
  obtain⟨k',e',q'⟩:=q3;cases e';exact ite_ff ⟨H3,I3,q'⟩
 |true =>
  refine ite_tt (test_last (thn (hc.h pins s3 σ H3 _ I3 q3) λw' s4 ⟨z',H4,I4,r4,q4⟩=>thn (ho' pins s4 σ H4 y z' u w' _ I4 r2 r4 q4) λd' s5 ⟨z2,H5,I5,r5,k2,e2,q5⟩=>?_));subst e2;cases r5;exact wpAny_truthy_bool ⟨H5,I5,q5⟩⟩
end
section
theorem xc(h:QW X e t):QT X e t:=⟨PW.pt h.h⟩
end
section
theorem jB{rest:List Expr}(ha:QT X a tA)(hb:QW X (.BoolOp .And (b::rest) pos) tB'):QW X (.BoolOp .And (a::b::rest) pos) (tAnd tA tB'):=⟨by
 intro wh pins s σ H Q I h;refine isTrue_and (thn (ha.h pins s σ H _ I h) λc s1 ⟨H1,I1,q1⟩=>?_);cases c with
 |true=>exact hb.h wh pins s1 σ H1 Q I1 q1
 |false=>exact⟨H1,I1,q1⟩⟩
end
section
theorem xw(ha:QT X a tA):QW X (.BoolOp .And [a] pos) tA:=⟨by
 intro wh pins s σ H Q I h;refine isTrue_and (thn (ha.h pins s σ H Q I h) λc s1 e=>?_);cases c with
 |true=>exact isTrue_and_nil e
 |false=>exact e⟩
end
section
theorem xR{rest:List Expr}(ha:QT X a tA)(hb:QW X (.BoolOp .Or (b::rest) pos) tB'):QW X (.BoolOp .Or (a::b::rest) pos) (tOr tA tB'):=⟨by
 intro wh pins s σ H Q I h;refine isTrue_or (thn (ha.h pins s σ H _ I h) λc s1 ⟨H1,I1,q1⟩=>?_);cases c with
 |true=>exact⟨H1,I1,q1⟩
 |false=>exact hb.h wh pins s1 σ H1 Q I1 q1⟩
end
section
theorem xu(ha:QT X a tA):QW X (.BoolOp .Or [a] pos) tA:=⟨by
 intro wh pins s σ H Q I h;refine isTrue_or (thn (ha.h pins s σ H Q I h) λc s1 e=>?_);cases c with
 |false=>exact isTrue_or_nil e
 |true=>exact e⟩
end
section
theorem xi(ha:QT X a tA):QT X (.UnaryOp .Not a pos) (tNot tA):=⟨by
 intro pins s σ H Q I h;exact isTrue_not (ha.h pins s σ H (λc H1=>Q (!c) H1) I h)⟩
end
section
theorem zE(h:QE X e t)(he:∀whole,isTrue e X.env whole=(do let v <-whole; standAt e.pos; holding [v] (truthy v)):=by intro _; rfl):QT X e (tB t):=⟨by
 intro pins s σ H Q I hw;refine isTrue_plain (thn (h.h pins s σ H _ I hw) λv s1 ⟨x,H1,I1,r1,q1⟩=>?_) (he _);obtain⟨d,rfl,q⟩:=q1;cases r1;exact wpAny_truthy_bool ⟨H1,I1,q⟩⟩
end
section
theorem Y8(h:X.K=Ξ)(ha:QE X a ta)(he:∀whole,isTrue a X.env whole=(do let v <-whole; standAt a.pos; holding [v] (truthy v))):QT X a (tTru Ξ ta):=⟨h▸pt_truth ha.h he⟩
end
section
theorem vC:QE X (.Constant .none j pos) (tC .non):=⟨pe_non ⟩
end
section
theorem jY:QE X (.Constant (.bool b) j pos) (tC (.bl b)):=⟨pe_bl ⟩
end
section
theorem qe:QE X (.Constant (.int i) j pos) (tC (.int i)):=⟨pe_int ⟩
end
section
theorem qE:QE X (.Constant (.str x) j pos) (tC (.str x)):=⟨pe_str ⟩
end
section
theorem qv(i:Nat)(hN:X.N[i]?=some x:=by rfl)(hv:Vis X.env.scope x:=by first|exact Or.inl rfl|exact Or.inr (Or.inl rfl)|exact Or.inr (Or.inr rfl))(hd:(x==("__debug__" : Str))=false:=by decide)(hcd:(x==("__classdict__" : Str))=false:=by decide):QE X (.Name x pos) (tVar i):=⟨pe_var hN hv hd hcd⟩
end
section
theorem QM(ho:UnR X (unaryOp op) r)(ha:QE X a ta):QE X (.UnaryOp op a pos) (tUn r ta):=⟨by
 intro pins s σ H Q I h;exact UnaryOp_ (thn (ha.h pins s σ H _ I h) λv s1 ⟨x,H1,I1,r1,q1⟩=>ho pins s1 σ H1 x v Q I1 r1 q1)⟩
end
section
theorem qt(ho:OpR X (binaryOp op) r)(ha:QE X a ta)(hb:QE X b tb):QE X (.BinOp a op b pos) (tOp r ta tb):=⟨by
 intro pins s σ H Q I h;exact wpAny_BinOp (binT ha.h hb.h I h λv u s2 x y H2 I2 rx ry q=>ho pins s2 σ H2 x y v u Q I2 rx ry q)⟩
end
section
theorem zM(ho:OpR X (compareOp op) r)(ha:QE X a ta)(hb:QE X b tb)(hm:behindInMarks op b=false):QE X (.Compare a [op] [b] pos) (tOp r ta tb):=⟨by
 intro pins s σ H Q I h;exact wpAny_Compare1 (binT ha.h hb.h I h λv u s2 x y H2 I2 rx ry q=>ho pins s2 σ H2 x y v u Q I2 rx ry q) hm⟩
end
section
theorem kP(ho:OpR X (compareOp op) r)(ho':OpR X (compareOp op') r')(ha:QE X a ta)(hb:QE X b tb)(hc:QE X c tc)(hm:lastMarks [op,op'] [b,c]=false:=by with_unfolding_all rfl):QE X (.Compare a [op,op'] [b,c] pos) (xV r r' ta tb tc):=⟨by
 intro pins s σ H Q I h;refine Compare_chain (thn (ha.h pins s σ H _ I h) λv s1 ⟨x,H1,I1,r1,q1⟩=>chain_link (thn (hb.h pins s1 σ H1 _ I1 q1) λu s2 ⟨y,H2,I2,r2,q2⟩ =>
  thn (ho pins s2 σ H2 x y v u _ I2 r1 r2 q2) λd s3 ⟨z,H3,I3,r3,k,e,q3⟩=>?_)) hm
 subst e;cases r3;refine wpAny_truthy_bool ?_;cases k with
 |false=>exact ite_ff ⟨.bl false,H3,I3,rfl,q3⟩
 |true=>exact ite_tt (chain_last (thn (hc.h pins s3 σ H3 _ I3 q3) λw' s4 ⟨z',H4,I4,r4,q4⟩=>ho' pins s4 σ H4 y z' u w' Q I4 r2 r4 q4))⟩
end
section
theorem J7(h:QE X a t):QE X (.BoolOp op [a] pos) t:=⟨λpins s σ H Q I hw=>BoolOp_one (h.h pins s σ H Q I hw)⟩
end
section
theorem Wb{rest:List Expr}(ha:QE X a ta)(hb:QE X (.BoolOp .And (b::rest) pos) tb):QE X (.BoolOp .And (a::b::rest) pos) (Zw ta tb):=⟨by
 intro pins s σ H Q I h;refine BoolOp_and (thn (ha.h pins s σ H _ I h) λv s1 ⟨x,H1,I1,r1,q1⟩=>?_);obtain⟨c,rfl,q1⟩:=q1;cases r1;refine wpAny_truthy_bool ?_;cases c with
 |true=>exact hb.h pins s1 σ H1 Q I1 q1
 |false=>exact⟨.bl false,H1,I1,rfl,q1⟩⟩
end
section
theorem qe_or{rest:List Expr}(ha:QE X a ta)(hb:QE X (.BoolOp .Or (b::rest) pos) tb):QE X (.BoolOp .Or (a::b::rest) pos) (tOrV ta tb):=⟨by
 intro pins s σ H Q I h;refine BoolOp_or (thn (ha.h pins s σ H _ I h) λv s1 ⟨x,H1,I1,r1,q1⟩=>?_);obtain⟨c,rfl,q1⟩:=q1;cases r1;refine wpAny_truthy_bool ?_;cases c with
 |false=>exact hb.h pins s1 σ H1 Q I1 q1
 |true=>exact⟨.bl true,H1,I1,rfl,q1⟩⟩
end
section
theorem vF(hc:QT X c tA)(ha:QE X a ta)(hb:QE X b tb):QE X (.IfExp c a b pos) (tIf tA ta tb):=⟨by
 intro pins s σ H Q I h;refine wpAny_IfExp (thn (hc.h pins s σ H _ I h) λd s1 ⟨H1,I1,q1⟩=>?_);cases d with
 |true=>exact ha.h pins s1 σ H1 Q I1 q1
 |false=>exact hb.h pins s1 σ H1 Q I1 q1⟩
end
section
theorem qW(h:QA X es t):QE X (.List es pos) (tLst t):=⟨by
 intro pins s σ H Q I hq;refine wpAny_List_spliced (thn (h.h pos pins s σ H _ I hq) λus s1 ⟨xs,H1,I1,r,z,q⟩=>⟨by rw[<-r.length]; exact z, ?_⟩);have hf:H1 s1.heap.objs.size=none:=I1.hok.fresh (Up _);refine⟨.ref s1.heap.objs.size,upd H1 s1.heap.objs.size (.lst xs),I1.laid (t':=s1.toks) (λb u e=>Heap.get?_push_of_some _ e) (Up _) ?_,rfl,q _ hf⟩;exact⟨z,us,0,r,Heap.get?_push_size _ rfl⟩⟩
end
section
theorem qN(h:QA X es t):QE X (.Tuple es x1 pos) (tTup t):=⟨by
 intro pins s σ H Q I hq;refine wpAny_Tuple_spliced (thn (h.h pos pins s σ H _ I hq) λus s1 ⟨xs,H1,I1,r,z,q⟩=>⟨by rw[<-r.length]; exact z, ?_⟩);have hf:H1 s1.heap.objs.size=none:=I1.hok.fresh (Up _);refine⟨.ref s1.heap.objs.size,upd H1 s1.heap.objs.size (.tup xs),I1.laid (t':=s1.toks) (λb u e=>Heap.get?_push_of_some _ e) (Up _) ?_,rfl,q _ hf⟩;exact⟨z,us,r,⟨_,Heap.get?_push_size _ rfl,rfl,_,rfl⟩⟩⟩
end
section
theorem vA{hi lo:Option Expr}(hr:SlR X r)(he:QE X e te)(hl:QO X lo tl)(hu:QO X hi th):QE X (.Subscript e (.Slice lo hi none p2) pos) (tSl r te tl th):=⟨by
 intro pins s σ H Q I h;refine Subscript_ (thn (he.h pins s σ H _ I h) λv s1 ⟨x,H1,I1,r1,q1⟩=>?_);refine wpAny_Slice (thn (hl.h pins s1 σ H1 _ I1 q1) λvl s2 ⟨l,H2,I2,pl,q2⟩=>thn (hu.h pins s2 σ H2 _ I2 q2) λvu s3 ⟨u,H3,I3,pu,q3⟩=>?_);rw[evalPart_none];refine wpAny_pure ?_;have I4:Inv X pins σ H3 { s3 with heap:=s3.heap.push { cls:=.type "slice", data:=.fields #[vl,vu, .none] } }:=I3.kept (t':=s3.toks) λb ob q=>Heap.get?_push_of_some _ q;obtain⟨T,id,hT,ht,hg⟩:=hr pins { s3 with heap:=s3.heap.push { cls:=.type "slice", data:=.fields #[vl,vu, .none] } } σ H3 x v vl vu l u s3.heap.objs.size Q I4 r1 (Heap.IsSliceOf.new ..) pl pu q3;show wpAny (model X.prog X.w) X.A (subscriptTail e (.Slice lo hi none p2) v (.ref s3.heap.objs.size)) (EP X pins σ Q) X.xe { s3 with heap:=s3.heap.push { cls:=.type "slice", data:=.fields #[vl,vu, .none] } };exact tail_any (ops:=[.ref s3.heap.objs.size,v]) ht hT hg (by with_unfolding_all rfl)⟩
end
section
theorem vD(h:QE X e te):QO X (some e) (Zu te):=⟨by
 intro pins s σ H Q I hw;rw[evalPart_some];refine thn (h.h pins s σ H _ I hw) λu s1 ⟨x,H1,I1,r1,q1⟩=>?_;obtain⟨i,rfl,q⟩:=q1;obtain⟨t,rfl⟩:=r1;exact⟨some i,H1,I1, .int i t,q⟩⟩
end
section
theorem v7:QO X none xk:=⟨po_none ⟩
end
section
theorem qH(hr:IxR X r)(ha:QE X a ta)(hb:QE X b tb)(hs:qah b):QE X (.Subscript a b pos) (tOp r ta tb):=⟨by
 intro pins s σ H Q I h;exact Subscript_ (binT ha.h hb.h I h λv u s2 x y H2 I2 rx ry q=>hr a b pins s2 σ H2 x y v u Q I2 rx ry q (hs _ _))⟩
end
section
theorem jp(hu:X.A.units+1<cLine)(ho:QE X o td)(hi:QE X i ty)(hs:NoSl i):QE X (.Subscript o i pos) (YN td ty):=⟨by
 intro pins s σ H Q I h;refine YQ PySem.F.slot_dict_getitem.lookup hs (thn (ho.h pins s σ H _ I h) λu s1 ⟨x,H1,I1,rx,q1⟩=>thn (hi.h pins s1 σ H1 _ I1 q1) λiv s2 ⟨y,H2,I2,ry,a,v,ex,g,q2⟩=>?_);subst ex;obtain rfl:u=Value.ref a:=rx;exact⟨Jz I2 g,GO hu I2 g ry λw' s3 I3 rw'=>⟨v,H2,I3,rw',q2⟩⟩⟩
end
section
theorem QN(bs:List Bool)(ext:List Str)(hi:QI X tg iter wi)(hg:∀fp s H,QG (cxB X scope ext fp s H) tg g)(ht:∀fp s H,QTs (cxB X scope ext fp s H) ifs tt)(he:∀fp s H,QE (cxB X scope ext fp s H) elt te)(hk:ka scope X.env X.N bs=true:=by rfl)(hc:X.calm=true:=by rfl)(hs:∀x,foldedSetIterable iter X.env x=pure x:=by intro _; rfl):QE X (.ListComp elt [⟨tg,iter,ifs,0⟩] scope pos) (jc wi bs ext.length g tt te):=⟨pe_lc bs ext hi.h (λfp s H=>(hg fp s H).h) (λfp s H=>(ht fp s H).h) (λfp s H=>(he fp s H).h) hk hc hs⟩
end
section
theorem X1(h:QPs X pos keys values trs)(hall:keys.all (·.isSome)=true)(hl:keys.length=values.length)(h0:keys≠[])(h15:keys.length<=15):QE X (.Dict keys values pos) (tDisp trs):=⟨by
 intro pins s σ H Q I q;have hn:=I.hok.fresh (Up s.heap.objs.size);have I1:=I.laid (a:=s.heap.objs.size) (o:=.dK []) (h':=s.heap.push { cls:=.type "dict", data:=.dict #[] }) (t':=s.toks) (λ_ _ q=>Heap.get?_push_of_some _ q) (Up _) (Kr s.heap I.big);refine wpAny_Dict_walk (knd:=vq X.prog X.w) hall hl h0 h15 (thn (h.h pins _ σ _ _ I1 (q _ hn)) λws s2 ⟨ps,H2,I2,rel,e,kvs,ep,lk,q2⟩=>?_);subst ep;obtain⟨rs,c,rk⟩:=Vh (P:=X.prog) (w:=X.w) rel;obtain⟨z,hd,vs0,r0,dd⟩:=dk_of I2.hok e;cases r0;refine⟨rs,c,dd,λh' dd' hs=>⟨.ref s.heap.objs.size,_, ?_,rfl,q2⟩⟩;have hz:(Qm [] kvs).length<=sizeLine:=by
  have h1:=jH kvs [];rw[U1] at h1;rw[sizeLine_eq]; lia
 have he:∃q,h'.get? s.heap.objs.size=some q:=let⟨q,_,_,hq,_⟩:=dd'; ⟨q,hq⟩;exact JA I2 (by rw[e]; exact True.intro) hs he (dk_new hz hd (rk.merge .nil) dd')⟩
end
section
theorem XX:QPs X pos [] [] []:=⟨pps_nil ⟩
end
section
theorem vU(hk:QE X k tk)(hv:QE X v tv)(hr:QPs X pos ks vs trs):QPs X pos (some k::ks) (v::vs) ((tk,tv)::trs):=⟨λpins s σ H Q I h =>
 pairTrees_cons_walk (thn (hk.h pins s σ H _ I h) λu s1 ⟨x,H1,I1,rx,q1⟩=>thn (hv.h pins s1 σ H1 _ I1 q1) λw2 s2 ⟨y,H2,I2,ry,q2⟩ =>
  thn (hr.h pins s2 σ H2 _ I2 q2) λws s3 ⟨ps,H3,I3,rel,q3⟩=>⟨(x,y)::ps,H3,I3, .cons ⟨rx,ry⟩ rel,q3⟩)⟩
end
section
theorem qu(D:Def X.prog X.w X.K X.mg X.base x k ps sp)(hr:Room k X.A)(ha:QA X (e::es) t)(hg:Gl X x:=by rfl)(hdb:(x==("__debug__" : Str))=false:=by decide)(he:starEach (e::es) X.env=(false,eval e X.env)::starEach es X.env:=by rfl)(hpl:(backTo pos (starEach es X.env)).any (·.1)=false:=by rfl):QE X (.Call (.Name x p) (e::es) [] pos) (jQ sp [] E0 t):=⟨by
 obtain⟨f,fd,h1,h2,h3,h4⟩:=D.ex;exact pe_call h4 hr hg h1 h2 h3 .nil pass0 ha.h hdb he hpl⟩
end
section
theorem qG{id:String}(hc:zJ X (.builtin id) r)(hg:Gl X x)(hm:X.mg x=none)(hv:bootBuiltins x=some (.builtin id))(ha:QA X (e::es) t)(hn:x ≠ "__name__" := by decide)(hdb:(x==("__debug__" : Str))=false:=by decide)(he:starEach (e::es) X.env=(false,eval e X.env)::starEach es X.env:=by rfl)(hpl:(backTo pos (starEach es X.env)).any (·.1)=false:=by rfl):QE X (.Call (.Name x p) (e::es) [] pos) (tCB r t):=⟨by
 intro pins s σ H Q I h;refine wpAny_Call_Name_kw (Qp I hg hm hv ?_ hn hdb);exact PyProof.Rows.callWith_builtin1 (thn (ha.h pos pins s σ H _ I h) λus s1 ⟨vs,H1,I1,r1,q1⟩=>hc pins s1 σ H1 vs us Q I1 r1 q1) he hpl⟩
end
section
theorem vT{T:String}(hc:zJ X (.type T) r)(hg:Gl X x)(hm:X.mg x=none)(hv:bootBuiltins x=some (.type T))(ha:QA X (e::es) t)(hn:x ≠ "__name__" := by decide)(hdb:(x==("__debug__" : Str))=false:=by decide)(he:starEach (e::es) X.env=(false,eval e X.env)::starEach es X.env:=by rfl)(hpl:(backTo pos (starEach es X.env)).any (·.1)=false:=by rfl):QE X (.Call (.Name x p) (e::es) [] pos) (tCB r t):=⟨by
 intro pins s σ H Q I h;refine wpAny_Call_Name_kw (Qp I hg hm hv ?_ hn hdb);exact PyProof.Rows.callWith_type1 (thn (ha.h pos pins s σ H _ I h) λus s1 ⟨vs,H1,I1,r1,q1⟩=>hc pins s1 σ H1 vs us Q I1 r1 q1) he hpl⟩
end
section
theorem vW(hg:Gl X x)(hm:X.mg x=none)(hv:bootBuiltins x=some u)(r:RelV v u)(hn:x ≠ "__name__" := by decide)(hd:(x==("__debug__" : Str))=false:=by decide):QE X (.Name x pos) (tC v):=⟨
 λ_ _ _ H _ I h=>Qp I hg hm hv ⟨v,H,I,r,h⟩ hn hd⟩
end
section
theorem qe_bm{T id:String}(pa:PlainAttrs T)(slot:Slot T name id)(hty:typeOf (.builtin id)=pure (.type "method_descriptor"))(hm:MtR X id r)(ho:QE X o to)(ha:QA X (e::es) t)(hbase:attributeBase o name X.env (eval o X.env)=eval o X.env:=by rfl)(hfew:((backTo cpos (starEach (e::es) X.env)).all (λx => !x.1)&&(backToKw cpos (keywordEach [] X.env)).all (λx=>x.1.isSome)
   && decide ((e::es).length+([]:List Keyword).length+(if([]:List Keyword).isEmpty then 0 else 1)<30))=true:=by rfl)(hline:(apos.endLine==cpos.line)=true:=by rfl)(hs:starEach (e::es) X.env=(false,eval e X.env)::starEach es X.env:=by rfl)(hplain:(backTo cpos (starEach es X.env)).any (·.1)=false:=by rfl):QE X (.Call (.Attribute o name apos) (e::es) [] cpos) (tBM X.K T r to t):=⟨by
 intro pins s σ H Q I h;refine wpAny_Call_method_late hbase hfew hline rfl (thn (ho.h pins s σ H _ I h) λv s1 ⟨x,H1,I1,r1,ty,q1⟩=>?_);obtain⟨h1,h2⟩:=tyV_is I1 r1 ty;refine⟨T,id,pa,slot,hty,h1,h2, ?_⟩;have hA:=ha.h cpos pins s1 σ H1 _ I1 q1;rw[hs] at hA ⊢;refine Calls.callWith_builtin (by show(false||(backTo cpos (starEach es X.env)).any (·.1))=false; rw[hplain]<;>rfl) (Calls.evalArgs_plain ?_);exact thn hA λus s2 ⟨vs,H2,I2,r2,q2⟩=>hm pins s2 σ H2 x vs v us Q I2 r1 r2 q2⟩
end
section
theorem ZH{id:String}(slot:Slot "list" name id)(hty:typeOf (.builtin id)=pure (.type "method_descriptor"))(hm:MtR X id r)(ho:QE X o to)(ha:QA X (e::es) t)(hbase:attributeBase o name X.env (eval o X.env)=eval o X.env:=by rfl)(hfew:((backTo cpos (starEach (e::es) X.env)).all (λx => !x.1)&&(backToKw cpos (keywordEach [] X.env)).all (λx=>x.1.isSome)
   && decide ((e::es).length+([]:List Keyword).length+(if([]:List Keyword).isEmpty then 0 else 1)<30))=true:=by rfl)(hline:(apos.endLine==cpos.line)=true:=by rfl)(hs:starEach (e::es) X.env=(false,eval e X.env)::starEach es X.env:=by rfl)(hplain:(backTo cpos (starEach es X.env)).any (·.1)=false:=by rfl):QE X (.Call (.Attribute o name apos) (e::es) [] cpos) (tLM r to t):=⟨by
 intro pins s σ H Q I h;refine wpAny_Call_method_late hbase hfew hline rfl (thn (ho.h pins s σ H _ I h) λv s1 ⟨x,H1,I1,r1,p,xs,ex,hp,q1⟩=>?_);subst ex;obtain⟨h1,h2⟩:=tyV_is (T := "list") I1 r1 (.inl ⟨rfl,xs,SqL.of hp⟩);refine⟨"list", id,PySem.F.plainAttrs_list,slot,hty,h1,h2, ?_⟩;have hA:=ha.h cpos pins s1 σ H1 _ I1 q1;rw[hs] at hA ⊢;refine Calls.callWith_builtin (by show(false||(backTo cpos (starEach es X.env)).any (·.1))=false; rw[hplain]<;>rfl) (Calls.evalArgs_plain ?_);exact thn hA λus s2 ⟨vs,H2,I2,r2,q2⟩=>hm pins s2 σ H2 (.ref p) vs v us Q I2 r1 r2 q2⟩
end
section
theorem vQ(G:GInt X.mg x n)(hg:Gl X x)(hd:(x==("__debug__" : Str))=false:=by decide):QE X (.Name x pos) (tC (.int n)):=⟨by
 obtain⟨t,e⟩:=G.ex;exact Wj hg e ⟨t,rfl⟩ hd⟩
end
section
theorem XW(hu:X.A.units+1<cLine)(ho:QE X o td)(hi:QE X i ty)(hv:QE X value tv)(hs:swapsWith value (some (.Subscript o i pos')) pos.line X.env=pure false:=by rfl):QS X (.Assign [.Subscript o i pos'] value pos) (sDPut td ty tv):=⟨by
 intro pins s σ H D I h;refine wpAny_Assign_Subscript (thn (hv.h pins s σ H _ I h) λr s1 ⟨v,H1,I1,rv,q1⟩=>thn (ho.h pins s1 σ H1 _ I1 q1) λu s2 ⟨x,H2,I2,rx,q2⟩=>thn (hi.h pins s2 σ H2 _ I2 q2) λiv s3 ⟨y,H3,I3,ry,a,H4,ex,g,q3⟩=>?_) hs;subst ex;obtain rfl:u=Value.ref a:=rx;exact GN hu I3 g ry rv λs4 I4=>⟨σ,H4,I4,q3⟩⟩
theorem X0:QE X (.Dict [] [] pos) JY:=⟨λpins s σ H Q I h =>
 wpAny_Dict_empty ⟨.ref s.heap.objs.size,_,I.laid (a:=s.heap.objs.size) (o:=.dK []) (t':=s.toks) (λ_ _ q=>Heap.get?_push_of_some _ q) (Up _) (Kr s.heap I.big),rfl,h _ (I.hok.fresh (Up _))⟩⟩
theorem Qi(hg:Gl X x)(hm:X.mg x=some u)(r:RelV v u)(hd:(x==("__debug__" : Str))=false:=by decide):QE X (.Name x pos) (tC v):=⟨Wj hg hm r hd⟩
end
structure MkDef(P:Program)(w:World)(Ξ:PySem.W.Frag)(mg:Str->Option Value)(base:Heap)(C:Addr)(x:Str)(k:Nat)(ps:List Str)(sp:Sp):Prop where
 ex:∃(f:Addr)(fd:FuncData),Mk Ξ C f/\mg x=some (.ref C)/\Binds Ξ fd ps []/\FnOk P w Ξ mg base CX0 k f fd ps sp
section
theorem qe_mk(D:MkDef X.prog X.w X.K X.mg X.base C x k ps sp)(hr:Room (k+1) X.A)(hg:Gl X x)(ha:QA X (e::es) t)(hdb:(x==("__debug__" : Str))=false:=by decide)(he:starEach (e::es) X.env=(false,eval e X.env)::starEach es X.env:=by rfl)(hpl:(backTo pos (starEach es X.env)).any (·.1)=false:=by rfl):QE X (.Call (.Name x p) (e::es) [] pos) (tMake C sp [] E0 t):=by
 obtain⟨f,fd,h1,h2,h3,h4⟩:=D.ex;exact⟨pe_make h1 h4 hr hg h2 h3 .nil pass0 ha.h hdb he hpl⟩
end
def Obk(h h':Heap):Prop:=∀(b:Nat)(o:Obj),h.objs[b]?=some o->∃o',h'.objs[b]?=some o'/\o'.dict=o.dict
theorem Obk.refl(h:Heap):Obk h h:=λb o e=>⟨o,e,rfl⟩
theorem Obk.trans(x:Obk h h')(y:Obk h' h''):Obk h h'':=λb o e=>by
 obtain⟨o',e',d'⟩:=x b o e;obtain⟨o2,e2,d2⟩:=y b o' e';exact⟨o2,e2,d2.trans d'⟩
theorem Obk.push(h:Heap)(o:Obj):Obk h (h.push o):=λb u e=>⟨u,by
 have hb:b<h.objs.size:=(Array.getElem?_eq_some_iff.mp e).1;cases h;simp only[Heap.push] at e hb ⊢;rw[RN,if_neg (UJ hb)]; exact e,rfl⟩
theorem Obk.update(h:Heap)(a:Addr)(hf:∀o,(f o).dict=o.dict):Obk h (h.update a f):=λb u e=>by
 cases h;simp only[Heap.update] at e ⊢;rw[Array.getElem?_modify];split
 ·exact⟨f u,by rw[e]; rfl,hf u⟩
 ·exact⟨u,e,rfl⟩
theorem Obk.get{h h':Heap}{a d:Addr}{o o':Obj}(x:Obk h h')(e:h.get? a=some o)(e':h'.get? a=some o'):o'.dict=o.dict:=by
 obtain⟨u,eu,du⟩:=x a o (Heap.get?_some_iff.mp e).1;rw[(Heap.get?_some_iff.mp e').1] at eu;cases eu;exact du
def DK{α:Type}:Sem α->Prop
 |.pure _=>True
 |.raise _=>True
 |.unsupported _=>True
 |.finish _=>True
 |.rule _ k=>DK (k ())
 |.at _ k=>DK (k ())
 |.load _ _ k=>∀o,DK (k o)
 |.update _ _ f k=>(∀o,(f o).dict=o.dict)/\DK (k ())
 |.alloc _ k=>∀a,DK (k a)
 |.loadIfAlive _ k=>∀o,DK (k o)
 |.point _ k=>DK (k ())
 |.register _ _=>True
 |.fresh k=>∀t,DK (k t)
 |.ask k=>∀x,DK (k x)
 |.choose _ _ k=>∀n,DK (k n)
 |.os _ _ k=>∀r,DK (k r)
 |.call _ _ _ _ _=>False
 |.handled _ k=>∀x,DK (k x)
 |.newGen _ k=>∀n,DK (k n)
 |.genState _ k=>∀x,DK (k x)
 |.resume _ _ _ _=>False
 |.yield _ _ _ _=>True
 |.stack k=>∀l,DK (k l)
 |.fork _ _=>True
 |.thread k=>∀n,DK (k n)
 |.await _ _ _ _ _=>True
theorem DK.wp{α:Type}{M:Model}{Γ:PySem.Ctx}:∀{t:Sem α}{Q:α->Pos->Shared->Prop}{E:Value->Pos->Shared->Prop}{p:Pos}{s:Shared},DK t->Sem.wp M Γ t Q E p s ->
  Sem.wp M Γ t (λa p' s'=>Q a p' s'/\Obk s.heap s'.heap) (λe p' s'=>E e p' s'/\Obk s.heap s'.heap) p s:=by
 intro t
 induction t with
 |pure a=>intro Q E p s _ h; rw[Sem.wp] at h ⊢; exact⟨h, .refl _⟩
 |raise e=>intro Q E p s _ h; rw[Sem.wp] at h ⊢; exact⟨h, .refl _⟩
 |unsupported x=>intro Q E p s _ h; rw[Sem.wp] at h; exact h.elim
 |finish x=>intro Q E p s _ h; rw[Sem.wp] at h; exact h.elim
 |rule x k ih=>intro Q E p s d h; rw[Sem.wp] at h ⊢; exact ih () d h
 | «at» x k ih=>intro Q E p s d h; rw[Sem.wp] at h ⊢; exact ih () d h
 |load a x k ih=>intro Q E p s d h; rw[Sem.wp] at h ⊢; obtain⟨o,e,h⟩:=h; exact⟨o,e,ih o (d o) h⟩
 |update a x f k ih =>
  intro Q E p s d h; rw[Sem.wp] at h ⊢;refine⟨h.1,Sem.wp_mono M Γ _ (λa p' s' z=>⟨z.1,(Obk.update _ _ d.1).trans z.2⟩) (λa p' s' z=>⟨z.1,(Obk.update _ _ d.1).trans z.2⟩) _ _ (ih () d.2 h.2)⟩
 |alloc o k ih =>
  intro Q E p s d h; rw[Sem.wp] at h ⊢;exact Sem.wp_mono M Γ _ (λa p' s' z=>⟨z.1,(Obk.push _ _).trans z.2⟩) (λa p' s' z=>⟨z.1,(Obk.push _ _).trans z.2⟩) _ _ (ih _ (d _) h)
 |loadIfAlive a k ih=>intro Q E p s d h; rw[Sem.wp] at h ⊢; exact ih _ (d _) h
 |point x k ih=>intro Q E p s d h; rw[Sem.wp] at h ⊢; exact ih () d h
 |register a k ih=>intro Q E p s d h; rw[Sem.wp] at h; exact h.elim
 |fresh k ih=>intro Q E p s d h; rw[Sem.wp] at h ⊢; exact ih _ (d _) h
 |ask k ih=>intro Q E p s d h; rw[Sem.wp] at h ⊢; exact ih _ (d _) h
 |choose x n k ih=>intro Q E p s d h; rw[Sem.wp] at h ⊢; exact⟨h.1,ih _ (d _) h.2⟩
 |os q l k ih=>intro Q E p s d h; rw[Sem.wp] at h ⊢; exact ih _ (d _) h
 |call c x g l k ih=>intro Q E p s d h; exact d.elim
 |handled x k ih=>intro Q E p s d h; rw[Sem.wp] at h ⊢; exact ih _ (d _) h
 |newGen c k ih=>intro Q E p s d h; rw[Sem.wp] at h ⊢; exact ih _ (d _) h
 |genState g k ih=>intro Q E p s d h; rw[Sem.wp] at h ⊢; obtain⟨o,e,h⟩:=h; exact⟨o,e,ih _ (d _) h⟩
 |resume g r l k ih=>intro Q E p s d h; exact d.elim
 |yield v g l k ih=>intro Q E p s d h; rw[Sem.wp] at h; exact h.elim
 |stack k ih=>intro Q E p s d h; rw[Sem.wp] at h ⊢; exact ih _ (d _) h
 |fork c k ih=>intro Q E p s d h; rw[Sem.wp] at h; exact h.elim
 |thread k ih=>intro Q E p s d h; rw[Sem.wp] at h ⊢; exact ih _ (d _) h
 |await a f b l k ih=>intro Q E p s d h; rw[Sem.wp] at h; exact h.elim
theorem DK.any{α:Type}{M:Model}{A:Around}{t:Sem α}{Q:α->Shared->Prop}{E:Value->Shared->Prop}{s:Shared}(d:DK t)(h:wpAny M A t Q E s) :
  wpAny M A t (λa s'=>Q a s'/\Obk s.heap s'.heap) (λe s'=>E e s'/\Obk s.heap s'.heap) s:=λΓ p hΓ=>DK.wp d (h Γ p hΓ)
theorem DK.bind{α β:Type}{f:α->Sem β}:∀{m:Sem α},DK m->(∀a,DK (f a))->DK (m >>= f):=by
 intro m;show DK m->_->DK (m.bind f)
 induction m with
 |pure a=>intro _ h; exact h a
 |update a x g k ih=>intro d h; exact⟨d.1,ih () d.2 h⟩
 |raise e=>intro _ _; trivial
 |unsupported x=>intro _ _; trivial
 |finish x=>intro _ _; trivial
 |rule x k ih=>intro d h; exact ih () d h
 | «at» x k ih=>intro d h; exact ih () d h
 |load a x k ih=>intro d h o; exact ih o (d o) h
 |alloc o k ih=>intro d h o; exact ih o (d o) h
 |loadIfAlive a k ih=>intro d h o; exact ih o (d o) h
 |point x k ih=>intro d h; exact ih () d h
 |register a k ih=>intro _ _; trivial
 |fresh k ih=>intro d h o; exact ih o (d o) h
 |ask k ih=>intro d h o; exact ih o (d o) h
 |choose x n k ih=>intro d h o; exact ih o (d o) h
 |os q l k ih=>intro d h o; exact ih o (d o) h
 |call c x g l k ih=>intro d h; exact d.elim
 |handled x k ih=>intro d h o; exact ih o (d o) h
 |newGen c k ih=>intro d h o; exact ih o (d o) h
 |genState g k ih=>intro d h o; exact ih o (d o) h
 |resume g r l k ih=>intro d h; exact d.elim
 |yield v g l k ih=>intro _ _; trivial
 |stack k ih=>intro d h o; exact ih o (d o) h
 |fork c k ih=>intro _ _; trivial
 |thread k ih=>intro d h o; exact ih o (d o) h
 |await a f b l k ih=>intro _ _; trivial
theorem Jx(a:Addr):DK (load a):=λ_=>trivial
theorem dk_stack:DK stack:=λ_=>trivial
theorem Xe(a:Addr)(h:∀o,(f o).dict=o.dict):DK (update a f):=⟨h,trivial⟩
theorem Xg(f:Array Value->Array Value)(o:Obj):(Obj.mapFields f o).dict=o.dict:=by
 unfold Obj.mapFields;split<;>rfl
theorem Jy(v:Value):DK (fieldsOf v):=by
 unfold fieldsOf;split
 ·refine(Jx _).bind λo=>?_
  split<;>trivial
 ·trivial
theorem kS(v:Value)(i:Nat):DK (field v i):=by
 unfold field;refine(Jy v).bind λo=>?_;split<;>trivial
theorem jt(v:Value)(i:Nat)(x:Value):DK (setField v i x):=by
 unfold setField;split
 ·unfold updateField
  refine(Jx _).bind λo=>?_;split
  ·split
   ·exact Xe _ (Xg _)
   ·trivial
  ·trivial
 ·trivial
theorem xA(e:Value)(f:Option Addr):DK (setFlight e f):=by
 unfold setFlight;refine(kS _ _).bind λo=>?_;split
 ·exact jt _ _ _
 ·trivial
theorem Xf(ty:String)(vs:List Value):DK (newFields ty vs):=by
 unfold newFields newObj;dsimp only;split
 ·trivial
 ·unfold newObjAsIs
  exact λa=>trivial
theorem GI(env:Env)(l:List Env):DK (behindIsImport env l):=by
 unfold behindIsImport;split
 ·trivial
 ·split
  ·trivial
  ·exact(kS _ _).bind λ_=>trivial
theorem dk_kept(env:Env)(b:Bool)(l:List Env):DK (keptBack env b l):=by
 unfold keptBack;split
 ·split
  ·trivial
  ·unfold underTheClaimsCaller
   exact DK.bind (dk_stack.bind λ_=>trivial) λ_=>trivial
 ·trivial
theorem Kq:∀l:List Env,DK (readyFrames l)
 | []=>by unfold readyFrames; trivial
 |env::outer=>by
  unfold readyFrames;split
  ·refine(Jx _).bind λo=>?_
   split
   ·trivial
   ·refine(GI _ _).bind λ_=>(dk_kept _ _ _).bind λ_=>DK.bind ?_ λ_=>Kq outer
    exact Xe _ λo=>rfl
  ·trivial
theorem Yn(env:Env):DK (PySem.frameOf env):=by
 unfold PySem.frameOf frameEnvs;refine DK.bind (dk_stack.bind λ_=>trivial) λl=>DK.bind ?_ λx=>?_
 ·unfold frameObject
  split
  ·trivial
  ·exact(Kq _).bind λ_=>trivial
 ·split<;>trivial
theorem dk_place(f:Addr)(b:Bool):DK (entryPlaceOf f b):=by
 unfold entryPlaceOf;refine dk_stack.bind λl=>?_;split<;>trivial
theorem GH(e:Value)(env:Env):DK (noteFrame e env):=by
 unfold noteFrame;have k:∀f head,DK (do setField e 1 (<-EntryCells.newEntry head (<-PySem.frameOf env) .none (rawInt f) .none (<-entryPlaceOf f (head != .none))):Sem Unit):=λf head =>
  (Yn _).bind λ_=>(dk_place _ _).bind λ_=>DK.bind (by unfold EntryCells.newEntry; exact Xf _ _) λ_=>jt _ _ _
 split
 ·refine(kS _ _).bind λhead=>?_
  split
  ·refine(kS _ _).bind λ_=>?_
   split
   ·trivial
   ·exact(jt _ _ _).bind λ_=>k _ _
  ·exact k _ _
 ·trivial
theorem Vd(env:Env)(e:Value):DK (leaving env e):=by
 unfold leaving;exact(GH _ _).bind λ_=>xA _ _
end L2
namespace PySem.W
open Builtin.ObjectAttr
section
theorem getX_value(X:Ξ.In s.heap)(I:InstAt s.heap x ox C od)(hga:findIn Ξ (.ref C) "__getattribute__" = some (some (.builtin "BaseException.__getattribute__")))(hgt:findIn Ξ (.ref C) "__getattr__" = some none)(hm:mroIn Ξ C (.type "BaseException")=some true)(hf:findObj Ξ C od name=some (.value v))(hh:handedIn v=true)(h:Q v { s with toks:=s.toks+1 }):wpAny (model prog w) A (getAttr (.ref x) name expr) Q E s:=by
 obtain⟨hp,g,d,t,os⟩:=s;have L0:=I.type (M:=model prog w);have L1:=looks_findIn (M:=model prog w) X hga;have L2:=looks_findIn (M:=model prog w) X hgt;have L3:=looks_find (M:=model prog w) X I hf;have L4:=looks_mroIn (M:=model prog w) X hm;have FB:=PySem.F.excAttr_ValueError;have f3:=FB.ga.bind (.ref x);have hx0:(expr&&onTheHeap (Value.builtin "BaseException.__getattribute__"))=false:=by cases expr<;>rfl
 have hx2:(Value.builtin "BaseException.__getattribute__" == Value.builtin "object.__getattribute__")=false:=by decide +kernel
 have hx1:(onTheHeap (Value.ref C)&&Value.builtin "BaseException.__getattribute__" == Value.builtin "object.__getattribute__")=false:=by rw[hx2]; rfl
 have ha:=F.args_bexc_ga (.ref x) (.str name t);have hk:builtinKind "BaseException.__getattribute__" = some .slot:=by decide +kernel
 have hsplit:splitId "BaseException.__getattribute__" = some ("BaseException","__getattribute__"):=by decide +kernel
 unfold getAttr getAttrBy;refine wpAny_bind (wpAny_mkText (wpAny_holding (wpAny_bind (L0.at (wpAny_bind (L1.at ?_))))))
 repeat (any_goals (first|assumption|with_reducible refine L0.at ?_|with_reducible refine L2.at ?_|wp_step))
 refine codeAny_call_builtin FB.ga.plain F.entry_bexc_ga ?_;simp only[checkBuiltinCall,hk,hsplit,Dp,Do];refine wpAny_bind ?_;unfold isInstance;refine wpAny_bind (L0.at (L4.at ?_))
 repeat (any_goals (first|assumption|with_reducible refine L0.at ?_|with_reducible refine L3.at ?_|wp_step))
 show wpAny _ _ (handedOut v) _ _ _;rw[handedOut_of hh]; exact wpAny_pure h
def jM(bmB:List Value):List Value->Bool
 |.ref _::r=>jM bmB r
 |l=>l==bmB
theorem Vb:jM bmB (.ref c::r)=jM bmB r:=by rw[jM]
theorem jL(h:refuseLoop self "__setattr__" bmB=pure ()):∀l,jM bmB l=true->refuseLoop self "__setattr__" l=pure ():=by
 intro l
 induction l with
 |nil=>intro e; have e:(([]:List Value)==bmB)=true:=e; rw[eq_of_beq e]; exact h
 |cons x r ih =>
  intro e;cases x with
  |ref c=>rw[refuseLoop_ref]; exact ih (by rw[Vb] at e; exact e)
  |_ =>
   rw[jM] at e
   ·rw[eq_of_beq e]; exact h
   ·intro a r' q; cases q
theorem Vc(h:bmB.contains v=true):∀l,jM bmB l=true->l.contains v=true:=by
 intro l
 induction l with
 |nil=>intro e; have e:(([]:List Value)==bmB)=true:=e; rw[eq_of_beq e]; exact h
 |cons x r ih =>
  intro e;cases x with
  |ref c=>rw[RY,ih (by rw[Vb] at e; exact e),Bool.or_true]
  |_ =>
   rw[jM] at e
   ·rw[eq_of_beq e]; exact h
   ·intro a r' q; cases q
def excOver(Ξ:Frag)(C:Addr):Bool:=(clsIn Ξ C).any λcd=>jM [.type "ValueError", .type "Exception", .type "BaseException", .type "object"] cd.mro&&cd.hasDict && !cd.mro.isEmpty
theorem setX_new(X:Ξ.In s.heap)(I:InstAt s.heap x ox C none)(hdn:ox.dict=none)(hdt:ox.data=.fields vs)(hsa:findIn Ξ (.ref C) "__setattr__" = some (some (.builtin "object.__setattr__")))(hp:excOver Ξ C=true)(ht:findIn Ξ (.ref C) name=some none)(h:∀h' d,d=s.heap.objs.size->(∀b o,b≠x->s.heap.get? b=some o->h'.get? b=some o)->h'.get? x=some { ox with dict:=some d }->h'.Ns1 d (λy=>if y=name then some v else none)->Q () { s with heap:=h',toks:=s.toks+2 }) :
  wpAny (model prog w) A (setAttr (.ref x) name v) Q E s:=by
 have SF:=PySem.F.store_ValueError;obtain⟨cd,hc,ho⟩:=any_some hp;simp only[De,Dg] at ho;obtain⟨⟨ho,hd⟩,ne⟩:=ho;refine set_plain X I hsa ?_;have sub:Looks (model prog w) s.heap (isInstance (.ref x) (.type "object")) true:=I.type.andThen (looks_mroIn X (by unfold mroIn; rw[hc,Option.bind_some,if_neg (by rw[ne]; decide),Vc (by decide) _ ho]));refine codeAny_call_builtin SF.slot.plain SF.entry (@check_slot (model prog w) _ _ { s with toks:=s.toks+1 } "object.__setattr__" "object" "__setattr__" (.ref x) [.str name s.toks,v] [] _ SF.kind SF.split sub (SF.args (.ref x) (.str name s.toks) v) ?_);have hm:Looks (model prog w) s.heap (mroOf (.ref C)) cd.mro:=(looks_clsIn X hc).andThen .now;rw[osa_eq,refuse_eq];refine wpAny_bind (wpAny_bind (Looks.here (s:={ s with toks:=s.toks+1 }) I.type (wpAny_bind (Looks.here (s:={ s with toks:=s.toks+1 }) hm ?_))));rw[jL (SF.passes _) _ ho];refine wpAny_pure (wpAny_bind (Looks.here (s:={ s with toks:=s.toks+1 }) I.type (wpAny_bind (Looks.here (s:={ s with toks:=s.toks+1 }) (looks_findIn X ht) (wpAny_bind (wpAny_pure ?_))))));obtain⟨hx,hcl,hn, -⟩:=I;obtain⟨oc,odi,oda,osl⟩:=ox;dsimp only at hcl hdn hdt;subst hcl hdn hdt;refine wpAny_bind (wpAny_pure (wpAny_bind (wpAny_bind (wpAny_loadPart hx (wpAny_bind (Looks.here (s:={ s with toks:=s.toks+1 }) (looks_clsIn X hc) ?_))))));rw[hd];have hx₁:(s.heap.push { cls:=.type "dict", data:=.dict #[] }).get? x=some ⟨.ref C,none, .fields vs,osl⟩:=Heap.get?_push_of_some _ hx;have hxs:x≠s.heap.objs.size:=UJ (Heap.lt_size hx);refine wpAny_bind (wpAny_alloc' (wpAny_bind (wpAny_update' hx₁ (wpAny_pure ?_))));have hgd:((s.heap.push { cls:=.type "dict", data:=.dict #[] }).update x λo=>{ cls:=o.cls,dict:=some s.heap.objs.size,data:=o.data,slots:=o.slots }).get? s.heap.objs.size=some { cls:=.type "dict", data:=.dict #[] } :=
  (Heap.get?_update_ne _ _ _ _ hxs.symm).trans (Heap.get?_push_at rfl rfl)
 have hnd:((s.heap.push { cls:=.type "dict", data:=.dict #[] }).update x λo=>{ cls:=o.cls,dict:=some s.heap.objs.size,data:=o.data,slots:=o.slots }).Ns s.heap.objs.size (λ_=>none) :=
  ⟨_, #[],_,hgd,rfl,λe he=>absurd he (by simp),λ_=>rfl⟩
 show wpAny _ _ (storeInDict s.heap.objs.size (.str name s.toks) name v) _ _ _;unfold storeInDict newKeyGuard;refine wpAny_bind (wpAny_pure (wpAny_bind (wpAny_nsSet1 (Heap.Ns1.of_empty hnd) λh' hn' hs=>?_)));obtain⟨oD,esD,epD,hoD,hdD,hcD⟩:=hn'.count (Within.cons name v Within.nil);refine wpAny_bind (wpAny_lookBehind hoD (by rw[hdD]; exact pastItsLine_dict (UY hcD (by rw[Ur,U1,sizeLine_eq]; lia))) ?_);refine wpAny_pure (h h' s.heap.objs.size rfl (λb ob hbx hb=>?_) ?_ hn')
 ·exact(hs.2 b (UJ (Heap.lt_size hb))).trans ((Heap.get?_update_ne _ _ _ _ hbx).trans (Heap.get?_push_of_some _ hb))
 ·exact(hs.2 x hxs).trans (Heap.get?_update_self _ hx₁ rfl)
end
end PySem.W
namespace PySem.W
abbrev bmV:List Value:=[.type "ValueError", .type "Exception", .type "BaseException", .type "object"]
structure ExcI(h:Heap)(C f:Addr):Prop where
 ex:∃bm N nm qn bs hdct sn sub ab col dd k0 k1 k2 k3 k5 mN oI,h.get? C=some (excClassObj nm qn C N bs bm hdct sn sub ab col dd k0 k1 k2 k3 k5 "ValueError.__new__")/\h.Ns N mN/\mN "__init__" = some (.ref f)/\OwnTail h bmV bm/\h.get? f=some oI/\oI.cls=.type "function"
def excInI(Ξ:Frag)(C f:Addr):Bool:=match Ξ.lookup C with
 |some ⟨.type "type", _, .cls cd,sl⟩=>(match cd.mro,sl.toList with
  |.ref C'::bm, [_,_,_,_,some (.builtin n),_]=>C'==C&&n == "ValueError.__new__" && !cd.hasDel&&tailIn Ξ bmV bm&&nsOkIn Ξ cd.ns&&nsIn Ξ cd.ns "__init__" == some (some (.ref f))&&typeIn Ξ (.ref f)==some (.type "function")
  |_,_=>false)
 |_=>false
theorem K5(X:Ξ.In h)(G:h.Ns N mg)(e:nsIn Ξ N n=some (some v)):mg n=some v:=by
 obtain⟨o,es,ep,ho,hd,_,hf⟩:=G;unfold nsIn at e;split at e
 ·rename_i c d es' n' sl q
  have:=X _ _ q;rw[ho] at this;cases this;cases hd;split at e
  ·rename_i en he
   cases e;rw[<-hf];unfold nsFind findBy;rw[<-RV,he];rfl
  ·first|cases e|(split at e<;>cases e)
 ·cases e
theorem fn_obj(X:Ξ.In h)(e:typeIn Ξ (.ref f)=some (.type "function")):∃oI,h.get? f=some oI/\oI.cls=.type "function" := by
 unfold typeIn at e;dsimp only at e;cases q:Ξ.lookup f with
 |none=>rw[q] at e; cases e
 |some o=>rw[q] at e; exact⟨o,X _ _ q,by simpa using e⟩
theorem excI_of(X:Ξ.In h)(q:excInI Ξ C f=true):ExcI h C f:=by
 unfold excInI at q;split at q
 ·rename_i dd cd sl ho
  split at q
  ·rename_i C' bm k0 k1 k2 k3 n k5 hm hs
   obtain⟨nm,bs,mro,ns,qn,hd,sn,sub,ab,col,del⟩:=cd;simp only[De,beq_iff_eq,Dg] at q hm;obtain⟨⟨⟨⟨⟨⟨z1,z2⟩,z3⟩,z4⟩,z5⟩,z6⟩,z7⟩:=q;subst z1; subst z2; subst hm; subst z3;obtain⟨l⟩:=sl;have hs:l=_:=hs;subst hs;obtain⟨oI,e1,e2⟩:=fn_obj X z7;have N1:=Heap.Ns.of_isNs (isNs_of_in X z5);exact⟨bm,ns,nm,qn,bs,hd,sn,sub,ab,col,dd,k0,k1,k2,k3,k5,_,oI,X _ _ ho,N1,K5 X N1 z6,tail_of_in X z4,e1,e2⟩
  ·cases q
 ·cases q
section
theorem QL{os:OsState}(J:ExcI h C f)(hrest:rest.length<=sizeLine)(hq:∀h' e,Heap.MadeExcOf h h' e (.ref C) rest->wpAny (model prog w) A (call (.ref f) (.ref e::rest)) (λr s'=>r=.none/\Q (.done (.ret (.ref e))) s') E ⟨h',g,d,t,os⟩) :
  wpAny (model prog w) A (Builtin.«type.__call__» ⟨.ref C::rest, []⟩) Q E ⟨h,g,d,t,os⟩:=by
 obtain⟨bm,N,nm,qn,bs,hdct,sn,sub,ab,col,dd,k0,k1,k2,k3,k5,mN,oI,hC,hn,hi,T,hfI,hfc⟩:=J.ex;have Fn:=PySem.F.excBase_ValueError
 repeat (first|with_reducible refine wpAny_loadPart_at hC ?_|with_reducible refine wpAny_madeBy_exc hC ?_|wp_step)
 refine codeAny_call_builtin_code (Code.quiet_builtin _ Fn.quiet) (wpAny_check_new_subU Fn (by decide) T hC ?_);refine codeAny_exc_new_subU Fn (by decide) Fn T hC ?_ hrest;show wpAny _ _ _ _ _ _;have kk:∀b o,h.get? b=some o->((h.push { cls:=.type "tuple", data:=.seq rest.toArray }).push { cls:=.ref C,data:=.fields #[.ref h.objs.size, .none, .none, .none, .bool false, .none] }).get? b=some o :=
  λb o e=>Heap.get?_push_of_some _ (Heap.get?_push_of_some _ e)
 have hget:((h.push { cls:=.type "tuple", data:=.seq rest.toArray }).push
   { cls:=.ref C,data:=.fields #[.ref h.objs.size, .none, .none, .none, .bool false, .none] }).get? (h.objs.size+1)=some
   { cls:=.ref C,data:=.fields #[.ref h.objs.size, .none, .none, .none, .bool false, .none] }:=by heap_get
 have hC₁:=kk _ _ hC;have hn₁:=hn.keeps kk;have T₁:=T.keeps kk;have hcC:(Value.ref C::bm).contains (.ref C)=true:=by simp
 unfold isInstance
 repeat (first|with_reducible refine wpAny_loadPart_at hget ?_|(with_reducible refine wpAny_isSubtype_exc hC₁ ?_; rw[hcC])|wp_step)
 show wpAny _ _ (typeLookup (.ref C) _) _ _ _;refine wpAny_typeLookup_tail hC₁ hn₁ T₁ Fn.mroIs Fn.init.lookup ?_;rw[hi];refine wpAny_holding (wpAny_bind ?_);unfold bindSpecial;refine wpAny_bind (wpAny_typeOf (T := "function") ⟨_,kk _ _ hfI,hfc⟩ ?_);rw[if_pos (by decide)];refine wpAny_pure (wpAny_bind (wpAny_mono (hq _ (h.objs.size+1) ⟨kk,Heap.get?_none_of_le (Dk _),h.objs.size,hget,Heap.get?_none_of_le (Up _), ?_⟩) (λr s' hr=>?_) λ_ _ x=>x))
 ·exact Heap.get?_push_of_some _ (Heap.get?_push_at rfl rfl)
 ·obtain⟨rfl,hQ⟩:=hr
  wp_walk;exact hQ
theorem G6(J:ExcI s.heap C f)(hrest:rest.length<=sizeLine)(hq:∀h' e,Heap.MadeExcOf s.heap h' e (.ref C) rest->wpAny (model prog w) (A.under (.builtin "type.__call__" ⟨.ref C::rest, []⟩)) (call (.ref f) (.ref e::rest)) (λr s'=>r=.none/\Q (.ref e) s') E { s with heap:=h' }) :
  wpAny (model prog w) A (call (.ref C) rest) Q E s:=by
 obtain⟨h,g,d,t,os⟩:=s;obtain⟨bm,N,nm,qn,bs,hdct,sn,sub,ab,col,dd,k0,k1,k2,k3,k5,mN,oI,hC,hn,hi,T,hfI,hfc⟩:=J.ex;have f1:=tc_lookup;have f2:=tc_bind (.ref C);have hT:(⟨h,g,d,t,os⟩:Shared).TypeIs (.ref C) "type" := ⟨_,hC,rfl⟩;refine wpAny_call (codeAny_of_tree ?_);show wpAny _ _ (callAny (.ref C) _) _ _ _
 repeat (any_goals (first|assumption|with_reducible refine wpAny_loadPart_at hC ?_|wp_step))
 refine⟨rfl, ?_⟩;refine codeAny_call_builtin_at (Code.quiet_builtin _ (by decide +kernel)) entry_typeCall (wpAny_check_type_call_sub hC (QL J hrest λh' e hm=>?_));exact hq h' e hm
abbrev excOb(C:Addr)(d:Option Addr)(t:Addr):Obj:={ cls:=.ref C,dict:=d,data:=.fields #[.ref t, .none, .none, .none, .bool false, .none] }
theorem XT(hh:A.handled=none)(h:wpAny (model prog w) A x (λv s₁=>∃e d t,v=.ref e/\ExcI s₁.heap C f/\s₁.heap.get? e=some (excOb C d t)/\E (.ref e) s₁) E s):wpAny (model prog w) A (raiseStmt env (some x) none) Q E s:=by
 unfold raiseStmt;refine wpAny_bind (wpAny_mono h (λv s₁ h₁=>?_) λ_ _ x=>x);obtain⟨e,dx,tx,rfl,J,he,hE⟩:=h₁;obtain⟨bm,N,nm,qn,bs,hdct,sn,sub,ab,col,dd,k0,k1,k2,k3,k5,mN,oI,hC,hn,hi,T,hfI,hfc⟩:=J.ex;have hcB:(Value.ref C::bm).contains (.type "BaseException")=true:=by rw[RY,T.hasType (b:=true) (by decide),Bool.or_true]
 obtain⟨hp,g,d,tk,os⟩:=s₁
 repeat (first|with_reducible refine wpAny_loadPart_at he ?_|with_reducible refine wpAny_loadPart_at hC ?_|(with_reducible refine wpAny_isSubtype_exc hC ?_; rw[hcB])|wp_step)
 exact wpAny_raiseNew_none hh hE
theorem Raise_I(hh:A.handled=none)(hplain:(backTo cpos (starEach args env)).any (·.1)=false)(h:wpAny (model prog w) A (eval (.Name x np) env) (λc s₁=>c=.ref C/\wpAny (model prog w) A (evalArgs (.ref C) true (backTo cpos (starEach args env)) [])
   (λa s₂=>a.kw=[]/\a.pos.length<=sizeLine/\ExcI s₂.heap C f/\∀h' e,Heap.MadeExcOf s₂.heap h' e (.ref C) a.pos ->
    wpAny (model prog w) (A.under (.builtin "type.__call__" ⟨.ref C::a.pos, []⟩)) (call (.ref f) (.ref e::a.pos)) (λr s'=>r=.none/\∃d t,ExcI s'.heap C f/\s'.heap.get? e=some (excOb C d t)/\E (.ref e) s') E { s₂ with heap:=h' }) E s₁) E s) :
  wpAny (model prog w) A (exec (.Raise (some (.Call (.Name x np) args [] cpos)) none pos) env) Q E s:=by
 rw[arm_exec_Raise];refine wpAny_bind (wpAny_standAt (XT (C:=C) (f:=f) hh ?_));refine wpAny_bind (wpAny_mono (wpAny_Call_ofName (wpAny_mono h (λc s₁ h₁=>?_) λ_ _ x=>x)) (λv s₃ h₃=>wpAny_bind (wpAny_standAt (wpAny_pure h₃))) λ_ _ x=>x);obtain⟨rfl,h₁⟩:=h₁;unfold callWith;refine wpAny_bind (wpAny_holding (wpAny_mono h₁ (λa s₂ h₂=>wpAny_bind (wpAny_standAt ?_)) λ_ _ x=>x));obtain⟨apos,akw⟩:=a;obtain⟨hkw,hlen,J,h₂⟩:=h₂;obtain rfl:akw=[]:=hkw;obtain⟨bm,N,nm,qn,bs,hdct,sn,sub,ab,col,dd,k0,k1,k2,k3,k5,mN,oI,hC,hn,hi,T,hfI,hfc⟩:=J.ex;obtain⟨hp,g,d,tk,os⟩:=s₂;simp only[hplain];refine wpAny_bind (wpAny_keeperOf_exc hC ?_);refine wpAny_bind (G6 J hlen λh' e hm=>wpAny_mono (h₂ h' e hm) (λr s' z=>⟨z.1,wpAny_bind (wpAny_holding (wpAny_point (wpAny_pure ?_)))⟩) λ_ _ x=>x);obtain⟨_,dx,tx,J',he,hE⟩:=z;exact⟨e,dx,tx,rfl,J',he,hE⟩
theorem bexc_init(J:ExcI s.heap C f)(he:s.heap.get? e=some (excOb C dx tx))(hrest:rest.length<=sizeLine)(hq:∀h' t',(∀b o,b≠e->s.heap.get? b=some o->h'.get? b=some o)->h'.get? e=some (excOb C dx t')->R (.ok (.ret .none)) { s with heap:=h' }) :
  codeAny (model prog w) A (.call (.builtin "ValueError.__init__") ⟨.ref e::rest, []⟩) R s:=by
 obtain⟨bm,N,nm,qn,bs,hdct,sn,sub,ab,col,dd,k0,k1,k2,k3,k5,mN,oI,hC,hn,hi,T,hfI,hfc⟩:=J.ex;have F:=PySem.F.excBase_ValueError;obtain⟨h,g,d,t,os⟩:=s;refine codeAny_call_builtin F.init.plain F.initEntry (wpAny_check_init_subU F T hC he rfl ?_);have hne:e≠h.objs.size:=UJ (Heap.lt_size he);have he1:(h.push { cls:=.type "tuple", data:=.seq rest.toArray }).get? e=some (excOb C dx tx):=Heap.get?_push_of_some _ he
 wp_walk;refine hq _ h.objs.size (λb o hb q=>?_) ?_
 ·rw[Heap.get?_update_other _ _ (Ne.symm hb)]; exact Heap.get?_push_of_some _ q
 ·exact(Heap.get?_update_self _ he1 rfl).trans rfl
end
end PySem.W
namespace L2
open PySem PySem.Spec PyProof.Rows
def ExcAt(a C:Addr)(d:Option Addr):Heap->Prop:=λh=>∃t,h.get? a=some (W.excOb C d t)
abbrev excO(a C:Addr)(d:Option Addr):HO:=.ext (ExcAt a C d)
theorem Jw(e:h.get? a=some (W.excOb C d t)):ObjOk P w H h a (excO a C d) :=
 ⟨⟨t,e⟩,⟨_,e⟩,λh1 h2 ⟨t',e'⟩ k=>⟨t',k _ e'⟩⟩
theorem jK(x:HOk P w H h)(e:H a=some (excO a C d)):∃t,h.get? a=some (W.excOb C d t):=(x a _ e).1
structure ExcK(Ξ:PySem.W.Frag)(C f:Addr):Prop where
 i:W.excInI Ξ C f=true
 sa:W.findIn Ξ (.ref C) "__setattr__" = some (some (.builtin "object.__setattr__"))
 ov:W.excOver Ξ C=true
 ga:W.findIn Ξ (.ref C) "__getattribute__" = some (some (.builtin "BaseException.__getattribute__"))
 gt:W.findIn Ξ (.ref C) "__getattr__" = some none
 mr:W.mroIn Ξ C (.type "BaseException")=some true
 hd:W.hasDictIn Ξ C=true
section
structure InitB(Ξ:PySem.W.Frag)(mg:Str->Option Value)(x:Str)(B:Addr):Prop where
 b:mg x=some (.ref B)
 sp:W.specialIn Ξ (.ref B) "__getattribute__" = some (some (.builtin "type.__getattribute__"))
 rd:W.readsIn Ξ B (.type "type")=true
 fi:W.findCls Ξ (.ref B) (.type "type") "__init__" = some (.val (.builtin "ValueError.__init__"))
def sInitB(C:Addr)(ta:TA):TS:=λD σ H=>ta σ H λvs H1=>∃a d rest,vs=.ref a::rest/\H1 a=some (excO a C d)/\rest.length<=1000/\D.nx σ H1
theorem qs_initB(c:ExcK X.K C g)(b:InitB X.K X.mg x B)(ha:QA X (e::es) tl)(hg:Gl X x:=by rfl)(hdb:(x==("__debug__" : Str))=false:=by decide)(hst:starEach (e::es) X.env=(false,eval e X.env)::starEach es X.env:=by rfl)(hpl:(backTo pos (starEach es X.env)).any (·.1)=false:=by rfl)(ht:eval (.Call (.Attribute (.Name x p) "__init__" apos) (e::es) [] pos) X.env=(do
   let ov <-eval (.Name x p) X.env
   standAt apos.atName;let(f,first) <-holding [ov] (getMethod ov "__init__" pl)
   callWith pos f first (backTo pos (starEach (e::es) X.env)) (backToKw pos (keywordEach [] X.env))):=by rfl)(hs:swapsWith (.Call (.Attribute (.Name x p) "__init__" apos) (e::es) [] pos) none pos'.line X.env=pure false:=by rfl) :
  QS X (.Expr (.Call (.Attribute (.Name x p) "__init__" apos) (e::es) [] pos) pos') (sInitB C tl):=⟨by
 intro pins s σ H D I h;refine wpAny_Expr_any ?_ I.quiet hs;refine W.methodCall_KW (pl:=pl) (xz I hg b.b ?_ hdb) ht;refine W.method_cls I.kIn b.sp (W.cls_value I.kIn b.rd b.fi rfl ?_);refine PyProof.Rows.callWith_builtin1 (thn (ha.h pos pins _ σ H _ (I.tok _) h) λus s1 ⟨vs,H1,I1,r1,a,d,rest,ev,ea,hl,q1⟩=>?_) hst hpl;subst ev;cases r1 with
 |cons ra rr =>
 rename_i u us' _;obtain rfl:u=Value.ref a:=ra;obtain⟨t,hx⟩:=jK I1.hok ea;refine wpAny_call (W.bexc_init (W.excI_of I1.kIn c.i) hx (by rw[<-rr.length,sizeLine_eq]; lia) λh' t' k e1=>?_);have J:=I1.write (x:=a) (e:=a) (o:=excO a C d) (h':=h') (t':=s1.toks) (by rw[ea]; exact True.intro) (.inl rfl) (λb v hb q=>k b v hb q) ⟨_,e1⟩ (Jw (t:=t') e1);refine⟨σ,H1, ?_,q1⟩;have eH:upd H1 a (excO a C d)=H1:=by
  funext b;unfold upd;split
  ·rename_i q; rw[q,ea]
  ·rfl
 rw[eH] at J;exact J⟩
end
structure Fli(P:Program)(w:World)(outer:List Env)(H:Hp)(s:Shared)(a:Addr)(C:Value)(d:Option Addr)(H':Hp)(s':Shared):Prop where
 own:∀o,s'.heap.get? a=some o->o.dict=d
 os:s'.os=s.os
 bare:AllBare s'.gens
 fly:∃(B:Heap)(a0:Value),Heap.FlyingW B outer a C a0 s'.heap/\HOk P w H' B/\(∀b∈frs outer,B.get? b=none)/\(∀b o,s.heap.get? b=some o->H b=none->b∉frs outer->B.get? b=some o) /\
  ∀b o,s.heap.get? b=some o->H b≠none->∃o',B.get? b=some o'
 up:∀b o,s.heap.get? b=some o->H b=none->b∈frs outer->∃sl,s'.heap.get? b=some { o with slots:=sl }
 free:∀b o,s.heap.get? b=some o->H b=none->H' b=none
 tups:∀b xs,H b=some (.tup xs)->H' b=some (.tup xs)
 frzs:∀b o u,H b=some (.frz o u)->H' b=some (.frz o u)
 tbls:∀b ps,H b=some (.tbl ps)->∃more,H' b=some (.tbl (ps++more))
def CXe(P:Program)(w:World):CXT:=λouter H s E e s'=>∃a C d H',e=.ref a/\Fli P w outer H s a C d H' s'/\E C d H'
theorem CXe.mono(h:CXe P w outer H s E e s')(k:∀C d H',E C d H'->E' C d H'):CXe P w outer H s E' e s':=by
 obtain⟨a,C,d,H',e1,f,q⟩:=h;exact⟨a,C,d,H',e1,f,k C d H' q⟩
structure Body(X:Cx)(outer:List Env):Prop where
 stk:X.stack=X.env::outer
 out:X.outer=outer
 fr:X.env.frame=some X.env.locals
 ex:X.ex=[]
section
theorem Inv.old(I:Inv X pins σ H s)(q:X.s₀.heap.get? b=some o):b≠X.env.locals:=λz=>by
 subst z;exact absurd (Heap.lt_size q) (Nat.not_lt.mpr I.ok.above)
theorem Body.mem(Y:Body X outer)(hb:b∈frs X.stack):b=X.env.locals\/b∈frs outer:=by
 rw[Y.stk] at hb;obtain⟨env,he,hf⟩:=U5.mp hb;rcases Uw.mp he with rfl|he
 ·rw[Y.fr] at hf; exact .inl (Option.some.inj hf).symm
 ·exact .inr (U5.mpr ⟨env,he,hf⟩)
theorem Body.in_(Y:Body X outer)(hb:b∈frs outer):b∈frs X.stack:=by
 rw[Y.stk];obtain⟨env,he,hf⟩:=U5.mp hb;exact U5.mpr ⟨env, .tail _ he,hf⟩
def untr(H:Hp)(a:Addr):Hp:=λb=>if b=a then none else H b
theorem jb(h:b≠a):untr H a b=H b:=by unfold untr; rw[if_neg h]
theorem Yv:untr H a a=none:=by unfold untr; rw[if_pos rfl]
theorem HOk.untr{P:Program}{w:World}{H:Hp}{h h':Heap}{a:Addr}{φ:Heap->Prop}(x:HOk P w H h)(ea:H a=some (.ext φ))(k:∀b u,b≠a->H b≠none->h.get? b=some u->h'.get? b=some u):HOk P w (untr H a) h':=λb o e=>by
 have hb:b≠a:=λz=>by rw[z,Yv] at e; cases e
 rw[jb hb] at e;refine(x b o e).stay (λc u hc q=>?_) (λc hc=>?_) λc xs hc=>?_
 ·rcases hc with rfl|hc
  ·exact k _ u hb (by rw[e]; simp) q
  ·exact k c u (λz=>by rw[z,ea] at hc; cases hc) (by rw[hc]; simp) q
 ·rw[jb λz=>by rw[z,ea] at hc; cases hc]; exact hc
 ·rw[jb λz=>by rw[z,ea] at hc; cases hc]; exact hc
theorem Jh(Y:Body X outer)(I:Inv X pins σ H s)(hA:A.frames=some X.stack)(hx:H e=some (excO e C d))(he0:X.s₀.heap.get? e=none)(hE:E (.ref C) d (untr H e)) :
  wpAny M A (leaving X.env (.ref e)) (λ_ s''=>CXe X.prog X.w outer X.H₀ X.s₀ E (.ref e) s'') R s:=by
 obtain⟨t0,hge⟩:=jK I.hok hx;have hin:∀env∈X.stack,∀b,env.frame=some b->b∈e::frs X.stack:=λenv he b hb=>.tail _ (U5.mpr ⟨env,he,hb⟩);have hl:s.heap.FunFrames (W.hideAll s.heap (e::frs X.stack)) X.stack:=W.funFrames_hide I.stack hin;rw[Y.stk] at hA;have ob:∀b o,X.s₀.heap.get? b=some o->b∉frs outer->b∉e::frs X.stack:=λb o q n z=>by
  rcases Uw.mp z with rfl|z
  ·rw[he0] at q; cases q
  ·rcases Y.mem z with z|z
   ·exact I.old q z
   ·exact n z
 have nx:∀b,b∉X.ex:=λb=>by rw[Y.ex]; simp
 have fs:∀b,b∈frs outer↔b∈X.fs:=λb=>by show _↔b∈frs X.outer; rw[Y.out]
 refine wpAny_mono (DK.any (Vd _ _) (wpAny_leaving_firstW (base:=W.hideAll s.heap (e::frs X.stack)) hA (by rw[<-Y.stk]; exact hl) Y.fr hge (λb o q=>RU _ q) (DH _ (.head _)) rfl rfl rfl (Q:=λ_ s'=>Heap.LeftW (W.hideAll s.heap (e::frs X.stack)) (X.env::outer) e (.ref C) (.ref t0) s.heap s'.heap/\∃h',s'={ s with heap:=h' }) λh' q=>⟨q,h',rfl⟩)) (λ_ s' q=>?_) λ_ _ q=>q.1;obtain⟨⟨⟨k1,⟨_,_,k2⟩,k3,k4⟩,h',rfl⟩,kd⟩:=q;refine⟨e, .ref C,d,untr H e,rfl,⟨?_,I.os,I.bare,⟨_, .ref t0,⟨k1,DH _ (.head _),k2,k3⟩, ?_, ?_, ?_, ?_⟩, ?_, ?_, ?_, ?_, ?_⟩,hE⟩
 ·exact λo q=>(kd.get (d:=0) hge q)
 ·exact I.hok.untr hx λb u hb hb0 q=>DL _ q λhm=>by
   rcases Uw.mp hm with z|hm
   ·exact hb z
   ·exact hb0 (I.stkFree b hm)
 ·exact λb hb=>DH _ (.tail _ (Y.in_ hb))
 ·exact λb o q n hb=>DL _ (I.base.keep b o q n (λz=>hb ((fs b).mpr z)) (nx b)) (ob b o q hb)
 ·intro b o q n
  obtain⟨o',e1⟩:=I.base.there b o q (nx b);refine⟨o',DL _ e1 (ob b o q λz=>n (I.ok.frf b ((fs b).mp z)))⟩
 ·intro b o q n hb
  obtain⟨sl,e1⟩:=I.base.slot b o q n ((fs b).mp hb) (nx b);obtain⟨_,o',ho',hd⟩:=I.ok.funs.mem (show b∈X.outer.filterMap (·.frame) from(fs b).mp hb);rw[q] at ho'; cases ho';obtain⟨sl2,e2⟩:=k4 b _ e1 hd;exact⟨sl2,e2⟩
 ·intro b o q n
  have:=I.base.free b o q n (nx b);unfold untr;split
  ·rfl
  ·exact this
 ·intro b xs q
  have:=I.base.tups b xs q;rw[jb λz=>by rw[z,hx] at this; cases this]; exact this
 ·intro b o u q
  have:=I.base.frzs b o u q;rw[jb λz=>by rw[z,hx] at this; cases this]; exact this
 ·intro b ps q
  obtain⟨m,this⟩:=I.base.tbls b ps q;exact⟨m,by rw[jb λz=>by rw[z,hx] at this; cases this]; exact this⟩
theorem Wt(Y:Body X outer)(I:Inv X pins σ H s)(hA:A.frames=some X.stack)(hx:CXe X.prog X.w X.stack H s E e s') :
  wpAny M A (leaving X.env e) (λ_ s''=>CXe X.prog X.w outer X.H₀ X.s₀ E e s'') R s':=by
 obtain⟨a,C,d,H',rfl,F,hE⟩:=hx;obtain⟨B,a0,fl,hok,nb,kp,th⟩:=F.fly;have ob:∀b o,X.s₀.heap.get? b=some o->b∉frs outer->b∉frs X.stack:=λb o q n z=>by
  rcases Y.mem z with z|z
  ·exact I.old q z
  ·exact n z
 have nx:∀b,b∉X.ex:=λb=>by rw[Y.ex]; simp
 have fs:∀b,b∈frs outer↔b∈X.fs:=λb=>by show _↔b∈frs X.outer; rw[Y.out]
 rw[Y.stk] at hA fl;refine wpAny_mono (DK.any (Vd _ _) (wpAny_leaves_onW hA Y.fr fl (Q:=λ_ s2=>(Heap.FlyingW B outer a C a0 s2.heap/\s'.heap.UpToSlots s2.heap)/\∃h',s2={ s' with heap:=h' }) λh' x1 x4=>⟨⟨x1,x4⟩,h',rfl⟩)) (λ_ s2 z=>?_) λ_ _ q=>q.1;obtain⟨⟨⟨x1,x4⟩,h',rfl⟩,kd⟩:=z;refine⟨a,C,d,H',rfl,⟨?_,F.os.trans I.os,F.bare,⟨B,a0,x1,hok,λb hb=>nb b (Y.in_ hb), ?_, ?_⟩, ?_, ?_,λb xs q=>F.tups b xs (I.base.tups b xs q),λb o u q=>F.frzs b o u (I.base.frzs b o u q), ?_⟩,hE⟩
 ·obtain⟨o1,e1,_⟩:=fl.there
  exact λo q=>(kd.get (d:=0) e1 q).trans (F.own o1 e1)
 ·exact λb o q n hb=>kp b o (I.base.keep b o q n (λz=>hb ((fs b).mpr z)) (nx b)) (I.base.free b o q n (nx b)) (ob b o q hb)
 ·intro b o q n
  obtain⟨o',e1⟩:=I.base.there b o q (nx b);cases hb:H b with
  |none=>exact⟨o',kp b o' e1 hb (ob b o q λz=>n (I.ok.frf b ((fs b).mp z)))⟩
  |some u=>exact th b o' e1 (by rw[hb]; simp)
 ·intro b o q n hb
  obtain⟨sl,e1⟩:=I.base.slot b o q n ((fs b).mp hb) (nx b);obtain⟨sl',e2⟩:=F.up b _ e1 (I.base.free b o q n (nx b)) (Y.in_ hb);obtain⟨_,o',ho',hd⟩:=I.ok.funs.mem (show b∈X.outer.filterMap (·.frame) from(fs b).mp hb);rw[q] at ho'; cases ho';obtain⟨sl2,e3⟩:=x4 b _ e2 hd;exact⟨sl2,e3⟩
 ·intro b o q n
  obtain⟨o',e1⟩:=I.base.there b o q (nx b);exact F.free b o' e1 (I.base.free b o q n (nx b))
 ·intro b ps q
  obtain⟨m1,e1⟩:=I.base.tbls b ps q;obtain⟨m2,e2⟩:=F.tbls b _ e1;exact⟨m1++m2,by rw[e2,Rc]⟩
end
def kh:List Str:=["laying","room","word","head","end","limb","small","kind","address"]
def wW(n:Int):Str:=(kh[((n-1000000) % 9).toNat]?).getD ""
def wK(n:Int):Int:=(n-1000000) / 9
def xfs(n:Int):List (Str×V):=if n<1000000 then[("part", .int n)] else[("word", .str (wW n)),("k", .int (wK n))]
theorem Xv(h:1000000<=n):xfs n=([("word", .str (wW n)),("k", .int (wK n))]:List (Str×V)):=if_neg (by lia)
theorem two_ex(hw:w∈kh)(h0:0<=k):∃n,1000000<=n/\wW n=w/\wK n=k:=by
 obtain⟨i,hi⟩:=Ds hw;have hl:=(Uj.mp hi).1;have hl:i<9:=hl;refine⟨1000000+9*k+i,by lia, ?_, ?_⟩
 ·unfold wW
  rw[show((1000000+9*k+(i:Int)-1000000) % 9).toNat=i by lia,hi];rfl
 ·unfold wK
  lia
def pV:Option Int->V
 |none=>.non
 |some n=>.int n
theorem pV_inj(h:pV p=pV q):p=q:=by
 cases p<;>cases q<;>first|rfl|cases h
 rfl
def PartIs(d:Option Addr)(H:Hp):Option Int->Prop
 |none=>d=none
 |some n=>∃x,d=some x/\H x=some (.xd (xfs n))
def EX(mg:Str->Option Value)(D:Ends)(σ:St):XK:=λC d H'=>∃nm p,mg nm=some C/\PartIs d H' p/\D.bk (some (.str nm)::some (pV p)::σ) H'
def Cmp(X:Cx)(E:XK)(σ:St):Prop:=∀pins H s e s',Inv X pins σ H s->CXe X.prog X.w X.stack H s E e s'->X.xe e s'
def CmpD(r:Prop)(X:Cx)(D:Ends):Prop:=(∀σ,Cmp X (EX X.mg D σ) σ)/\(r->∀pins σ H s e C d,Inv X pins σ H s->H e=some (excO e C d)->X.s₀.heap.get? e=none->EX X.mg D σ (.ref C) d (untr H e)->X.xe (.ref e) s)
structure QX(r:Prop)(X:Cx)(st:Stmt)(t:TS):Prop where
 h:∀pins s σ H D,CmpD r X D->Inv X pins σ H s->t D σ H->wpAny (model X.prog X.w) X.A (exec st X.env) (SP X pins D) X.xe s
structure QXs(r:Prop)(X:Cx)(st:List Stmt)(t:TS):Prop where
 h:∀pins s σ H D,CmpD r X D->Inv X pins σ H s->t D σ H->wpAny (model X.prog X.w) X.A (execs st X.env) (SP X pins D) X.xe s
abbrev TX:=St->Hp->VK->XK->Prop
structure QXe(X:Cx)(e:Expr)(t:TX):Prop where
 h:∀pins s σ H Q E,Cmp X E σ->Inv X pins σ H s->t σ H Q E->wpAny (model X.prog X.w) X.A (eval e X.env) (EP X pins σ Q) X.xe s
section
variable {r:Prop} {X:Cx} {st:Stmt} {rest:List Stmt} {t u:TS} {e:Expr} {tx:TX} {pos:Pos}
theorem J6(h1:QX r X st t)(h2:QXs r X rest u):QXs r X (st::rest) (tSeq t u):=⟨λpins s σ H D c I h=>by
 refine wpAny_execs_cons (thn (h1.h pins s σ H { D with nx:=u D } c I h) λf s1 q=>?_);cases f with
 |next =>
  obtain⟨σ',H',I',q⟩:=q;exact h2.h pins s1 σ' H' D c I' q
 |ret v=>exact q
 |brk=>exact q
 |cont=>exact q⟩
theorem qxs_nil:QXs r X [] Vp:=⟨λpins s σ H D c I h=>wpAny_execs_nil ⟨σ,H,I,h⟩⟩
theorem XV(h1:QX r X st t):QXs r X [st] t:=⟨λpins s σ H D c I h=>by
 refine wpAny_execs_cons (thn (h1.h pins s σ H D c I h) λf s1 q=>?_);cases f with
 |next=>exact wpAny_execs_nil q
 |ret v=>exact q
 |brk=>exact q
 |cont=>exact q⟩
theorem qx_of(h:QS X.nox st t):QX r X st t:=⟨λpins s σ H D _ I q=>wpAny_mono (h.h pins s σ H D (I.wish _) q) (λ_ _ z=>z.unwish) λ_ _ z=>False.elim z⟩
theorem qx_if(hc:QT X.nox c tc)(ha:QXs r X a t)(hb:QXs r X b u):QX r X (.If c a b pos) (tIfS tc t u):=⟨λpins s σ H D k I h=>by
 refine wpAny_If (thn (hc.h.nox pins s σ H _ I h) λd s1 ⟨H1,I1,q1⟩=>?_);cases d with
 |true=>exact ha.h pins s1 σ H1 D k I1 q1
 |false=>exact hb.h pins s1 σ H1 D k I1 q1⟩
def tDropX(tx:TX)(mg:Str->Option Value):TS:=λD σ H=>tx σ H (λ_ H1=>D.nx σ H1) (EX mg D σ)
theorem qx_expr(he:QXe X e tx)(hs:swapsWith e none pos.line X.env=pure false:=by rfl):QX r X (.Expr e pos) (tDropX tx X.mg):=⟨λpins s σ H D k I h =>
 wpAny_Expr_any (thn (he.h pins s σ H _ _ (k.1 σ) I h) λv s1 ⟨x,H1,I1,r1,q1⟩=>⟨σ,H1,I1,q1⟩) I.quiet hs⟩
theorem run_fnX(F:FnOk X.prog X.w X.K X.mg X.base (CXe X.prog X.w) k f fd ps sp)(hr:Room k X.A)(hb:Binds X.K fd ps [])(hx:Cmp X E σ)(I:Inv X pins σ H s)(rv:Vals vs us)(h:sp vs H Q E):wpAny (model X.prog X.w) X.A (call (.ref f) us) (EP X pins σ Q) X.xe s:=by
 have hl:us.length=ps.length:=by rw[<-rv.length]; exact F.len _ _ _ _ h
 refine wpAny_call (codeAny_mono (F.run X.A X.stack s H ⟨us, []⟩ us vs Q E hr I.env0 (by simpa using hb s us I.kIn (by simpa using hl)) rv h) λrr s' hq=>?_);cases rr with
 |error e=>exact hx pins H s e s' I hq
 |ok fl =>
  cases fl with
  |ret u=>exact I.after hq
  |next=>exact False.elim hq
  |brk=>exact False.elim hq
  |cont=>exact False.elim hq
structure DefX(P:Program)(w:World)(Ξ:PySem.W.Frag)(mg:Str->Option Value)(base:Heap)(x:Str)(k:Nat)(ps:List Str)(sp:Sp):Prop where
 ex:∃(f:Addr)(fd:FuncData),mg x=some (.ref f)/\W.keepIn Ξ (.ref f)=true/\Binds Ξ fd ps []/\FnOk P w Ξ mg base (CXe P w) k f fd ps sp
def tCallX(sp:Sp)(t:TA):TX:=λσ H Q E=>t σ H λvs H1=>sp vs H1 Q E
theorem qx_call(D:DefX X.prog X.w X.K X.mg X.base x k ps sp)(hr:Room k X.A)(ha:QA X.nox (e::es) ta)(hg:Gl X x:=by rfl)(hdb:(x==("__debug__" : Str))=false:=by decide)(he:starEach (e::es) X.env=(false,eval e X.env)::starEach es X.env:=by rfl)(hpl:(backTo pos (starEach es X.env)).any (·.1)=false:=by rfl) :
  QXe X (.Call (.Name x p) (e::es) [] pos) (tCallX sp ta):=⟨λpins s σ H Q E hx I h=>by
 obtain⟨f,fd,hm,hk,hb,F⟩:=D.ex;refine wpAny_Call_Name_kw (xz I hg hm ?_ hdb);refine Re (h₀:=X.base) I.ok.mod.kin hk (wpAny_mono (ha.h pos pins s σ H _ (I.wish _) h) (λus s1 ⟨vs,H1,I1,r,q⟩=>⟨I1.unwish.kIn, ?_⟩) λ_ _ z=>False.elim z) he hpl;exact run_fnX F hr hb hx I1.unwish r q⟩
end
theorem Inv.none0(I:Inv X pins σ H s)(hx:e∉X.ex)(h:s.heap.get? e=none):X.s₀.heap.get? e=none:=by
 cases z:X.s₀.heap.get? e with
 |none=>rfl
 |some o =>
  obtain⟨o',q⟩:=I.base.there e o z hx;rw[h] at q; cases q
theorem ObjOk.here(x:ObjOk P w H h a o):∃u,h.get? a=some u:=by
 cases o with
 |lst xs=>obtain⟨_,_,_,_,e⟩:=x; exact⟨_,e⟩
 |tup xs=>obtain⟨_,_,_,o,e,_⟩:=x; exact⟨o,e⟩
 |dK kvs=>obtain⟨_,_,_,_,o,_,_,e,_⟩:=x; exact⟨_,e⟩
 |dT kvs=>obtain⟨_,_,_,_,o,_,_,e,_⟩:=x; exact⟨_,e⟩
 |set S n=>obtain⟨o,_,_,_,e,_⟩:=x; exact⟨_,e⟩
 |ins C dx fs=>obtain⟨_,_,_,e,_⟩:=x; exact⟨_,e⟩
 |own y=>obtain⟨_,e⟩:=x; exact⟨_,e⟩
 |xd fs=>obtain⟨_,⟨_,_,_,e,_⟩,_⟩:=x; exact⟨_,e⟩
 |rng lo hi=>obtain⟨_,_,_,e⟩:=x; exact⟨_,e⟩
 |frz ob u=>obtain⟨e,_⟩:=x; exact⟨_,e⟩
 |tbl ps=>exact⟨_,(show h.get? a=some _ from x)⟩
 |met f y=>exact⟨_,(show h.get? a=some _ from x)⟩
 |ext φ=>obtain⟨_,⟨o,e⟩,_⟩:=x; exact⟨o,e⟩
theorem Inv.exc(I:Inv X pins σ H s)(hm:Heap.MadeExcOf s.heap h1 e (.ref C) args):H e=none/\Inv X pins σ (upd H e (excO e C none)) { s with heap:=h1 }:=by
 obtain⟨k,hn,t,ht,_⟩:=hm;have fr:H e=none:=by
  cases z:H e with
  |none=>rfl
  |some o =>
   obtain⟨u,q⟩:=(I.hok e o z).here;rw[hn] at q; cases q
 refine⟨fr, ?_⟩;refine I.un (h':=h1) (t':=s.toks) ⟨λb u q _ _ _=>k b u q,λb u q _ _ _=>⟨u.slots,k b u q⟩,λb u q n _=>?_,λb u q _=>⟨u,k b u q⟩,λb xs q=>?_,λb u xs q=>?_,λb ps q=>⟨#[], ?_⟩⟩ λb u q=>?_
 ·rw[upd_ne λz=>by rw[z,hn] at q; cases q]; exact n
 ·rw[upd_ne (vj q fr)]; exact q
 ·rw[upd_ne (vj q fr)]; exact q
 ·rw[upd_ne (vj q fr),q]; simp
 ·by_cases hb:b=e
  ·subst hb; rw[upd_same] at q; cases q; exact Jw (t:=t) ht
  ·rw[upd_ne hb] at q
   exact(I.hok b u q).stay (λc v _ q=>k c v q) (λc q=>by rw[upd_ne (vj q fr)]; exact q) λc xs q=>by rw[upd_ne (vj q fr)]; exact q
abbrev J1(n:Int):Prop:=n.natAbs.log2<1920/\(Str.ofString (toString n)).length<=10000/\n<1000000
section
def bkX(n:Nat)(mg:Str->Option Value)(E:XK):St->Hp->Prop:=λτ H'=>∃nm p σ',τ=some (.str nm)::some (pV p)::σ'/\σ'.length=n/\∀C d,mg nm=some C->PartIs d H' p->E C d H'
theorem bkX.ex(h:EX mg { nx:=nx,rt:=Q,bk:=bkX n mg E } σ C d H'):E C d H':=by
 obtain⟨nm,p,hm,hp,nm',p',σ',e,_,k⟩:=h;simp only[List.cons.injEq,Option.some.injEq,V.str.injEq] at e;exact k C d (e.1▸hm) (pV_inj e.2.1▸hp)
theorem Fun.okX{st:Stmt}(F:Fun Ξ x qual st f fd)(S:FnScope N ps (ql st))(len:∀vs H Q E,sp vs H Q E->vs.length=ps.length)(hbody:∀(cdv:Value)(A:Around)(outer:List Env)(s:Shared)(H:Hp)(vs:List V)(Q:VK)(E:XK),Room k (A.deeper (envOfC qual (ql st) s.heap.objs.size f cdv))->sp vs H Q E ->
   ∃t,QXs True (cxOf (CXe P w) P w Ξ mg base N qual (ql st) f cdv A outer s H E) (vS st) t/\t { nx:=λ_ H'=>Q .non H',rt:=Q,bk:=bkX N.length mg E } (start N vs) H):FnOk P w Ξ mg base (CXe P w) (k+1) f fd ps sp:=by
 obtain⟨oc,od,kV,doc,pm,an,cdv,ct,osl,rfl,lk,hcd⟩:=F.ex;refine fn_of lk hcd S len λA outer s H vs Q E hr hsp=>?_;obtain⟨t,h,q⟩:=hbody cdv A outer s H vs Q E hr hsp;refine⟨λD σ H1=>D={ nx:=λ_ H'=>Q .non H',rt:=Q }/\t { nx:=λ_ H'=>Q .non H',rt:=Q,bk:=bkX N.length mg E } σ H1,λpins s1 σ H1 D I hd=>?_,rfl,q⟩;obtain⟨rfl,hd⟩:=hd;have Y:Body (cxOf (CXe P w) P w Ξ mg base N qual (ql st) f cdv A outer s H E) outer:=⟨rfl,rfl,rfl,rfl⟩;refine wpAny_mono (h.h pins s1 σ H1 _ ⟨λσ pins H s e s' I hx=>?_,λ_ pins σ H s e C d I hm h0 hx=>?_⟩ I hd) (λfl s' z=>?_) λ_ _ z=>z
 ·exact Wt Y I I.ok.frames (hx.mono λC d H' z=>bkX.ex z)
 ·exact Jh Y I I.ok.frames hm h0 (bkX.ex hx)
 ·cases fl with
  |next=>exact z
  |ret u=>exact z
  |cont=>exact z
  |brk =>
   obtain⟨σ',H',I',nm,p,σ'',e,hl,_⟩:=z;have:=I'.len;rw[e,Ur,Ur,hl] at this;exact absurd this (by show N.length+1+1≠N.length; lia)
end
section
theorem Fli.un(F:Fli P w outer H s a C d H' s'):Un (frs outer) [] H H' s.heap s'.heap/\HOk P w H' s'.heap:=by
 obtain⟨B,a0,fl,hok,nb,kp,th⟩:=F.fly;refine⟨⟨λb o q n hb _=>fl.1 b o (kp b o q n hb),λb o q n hb _=>F.up b o q n hb,λb o q n _=>F.free b o q n,λb o q _=>?_,F.tups,F.frzs,F.tbls⟩,hok.kept fl.1⟩;cases hb:H b with
 |some u =>
  obtain⟨o',e⟩:=th b o q (by rw[hb]; simp);exact⟨o',fl.1 b o' e⟩
 |none =>
  by_cases hf:b∈frs outer
  ·obtain⟨sl,e⟩:=F.up b o q hb hf
   exact⟨_,e⟩
  ·exact⟨o,fl.1 b o (kp b o q hb hf)⟩
theorem Fli.inv(I:Inv X pins σ H s)(F:Fli X.prog X.w X.stack H s a C d H' s'):Inv X pins σ H' s' :=
 I.call' F.os F.un.1 F.un.2 F.bare (ch:=[]) λb z=>absurd z (by simp)
theorem Fli.step(F:Fli P w outer H s a C d H' s'):∃B a0,Heap.FlyingW B outer a C a0 s'.heap/\∀h',Heap.FlyingW B outer a C a0 h'->s'.heap.UpToSlots h'->Obk s'.heap h'->Fli P w outer H s a C d H' { s' with heap:=h' }:=by
 obtain⟨B,a0,fl,hok,nb,kp,th⟩:=F.fly;refine⟨B,a0,fl,λh' fl' up kd=>⟨λo q=>by
  obtain⟨o1,e1,_⟩:=fl.there;exact(kd.get (d:=0) e1 q).trans (F.own o1 e1),F.os,F.bare,⟨B,a0,fl',hok,nb,kp,th⟩,λb o q n hb=>?_,F.free,F.tups,F.frzs,F.tbls⟩⟩
 obtain⟨sl,e⟩:=F.up b o q n hb;obtain⟨_,o',ho',hd⟩:=fl.2.2.1.mem (show b∈outer.filterMap (·.frame) from hb);rw[e] at ho'; cases ho';obtain⟨sl2,e2⟩:=up b _ e hd;exact⟨sl2,e2⟩
theorem Fli.ty(F:Fli P w outer H s a C d H' s'):PySem.W.Looks M s'.heap (typeOf (.ref a)) C:=by
 obtain⟨B,a0,fl,_⟩:=F.fly;obtain⟨ob,hob,hc⟩:=fl.there;subst hc;exact(PySem.W.Looks.ld hob).andThen .now
end
abbrev Cx.caught(X:Cx)(a:Addr):Cx:={ X with A:=X.A.mark (some (.ref a)),calm:=false,xe:=λ_ _=>False }
section
theorem Inv.caught(I:Inv X pins σ H s)(a:Addr):Inv (X.caught a) pins σ H s :=
 ⟨⟨I.ok.mod,I.ok.kind,I.ok.glob,I.ok.blt,I.ok.above,I.ok.inj,I.ok.has,I.ok.cab,(λz=>nomatch z),I.ok.frames,I.ok.stk,I.ok.exf,I.ok.bs,I.ok.bsz,I.ok.noex,I.ok.exfs,I.ok.funs,I.ok.frf⟩,I.os,I.bare,I.base,I.loc,I.cell,I.free,I.freeC,I.pin,I.hok,I.len⟩
abbrev Cx.tried(X:Cx)(pins:List (Addr×Obj))(xe:Value->Shared->Prop):Cx:={ X with pn:=X.pn++pins,xe:=xe }
theorem Inv.tried(I:Inv X pins σ H s)(xe:Value->Shared->Prop):Inv (X.tried pins xe) [] σ H s :=
 ⟨⟨I.ok.mod,I.ok.kind,I.ok.glob,I.ok.blt,I.ok.above,I.ok.inj,I.ok.has,I.ok.cab,I.ok.hd,I.ok.frames,I.ok.stk,I.ok.exf,I.ok.bs,I.ok.bsz,I.ok.noex,I.ok.exfs,I.ok.funs,I.ok.frf⟩,I.os,I.bare,I.base,I.loc,I.cell,I.free,I.freeC,λp hp=>I.pin p (by simpa using hp),I.hok,I.len⟩
theorem Inv.untried(ok:X.Ok)(I:Inv (X.tried pins xe) pins' σ H s):Inv X pins σ H s :=
 ⟨ok,I.os,I.bare,I.base,I.loc,I.cell,I.free,I.freeC,λp hp=>I.pin p (UH _ hp),I.hok,I.len⟩
end
structure QH(X:Cx)(hs:List ExceptHandler)(C:Value)(q:Option Int)(t:TS):Prop where
 h:∀pins σ H1 s1 d H' s a D,Inv X pins σ H1 s1->Fli X.prog X.w X.stack H1 s1 a C d H' s->PartIs d H' q->t D σ H'->wpAny (model X.prog X.w) X.A (handleBy (.ref a) X.env hs) (SP X pins D) X.xe s
def tTry(n:Nat)(tb:TS)(l:List (Str×(Option Int->TS))):TS:=λD σ H=>tb { D with bk:=λτ H'=>∃nm p σ' t,τ=some (.str nm)::some (pV p)::σ'/\σ'.length=n/\l.lookup nm=some t/\t p D σ' H' } σ H
theorem qs_try(Y:Body X outer)(hb:∀pins xe,QXs False (X.tried pins xe) body tb)(hh:∀nm t C,l.lookup nm=some t->X.mg nm=some C->∀p,QH X (h0::hs) C p (t p)):QS X (.Try body (h0::hs) [] [] pos) (tTry X.N.length tb l):=⟨λpins s σ H D I h=>by
 refine wpAny_Try_except ?_;refine wpAny_mono ((hb pins λe s1=>wpAny (model X.prog X.w) X.A (noteFrame e X.env) (λ_ s₂=>wpAny (model X.prog X.w) X.A (setFlight e none) (λ_ s₃=>wpAny (model X.prog X.w) X.A (handleBy e X.env (h0::hs)) (SP X pins D) X.xe s₃) X.xe s₂) X.xe s1).h [] s σ H _ ⟨λσ1 pins' H1 s1 e s' IY hx=>?_,λz=>z.elim⟩ (I.tried _) h) (λf s1 q=>?_) λ_ _ z=>z
 ·obtain⟨a,C,d,H',rfl,F,nm,p,hm,hp,nm',p',σ',t,e,hl,ht,q⟩:=hx
  simp only[List.cons.injEq,Option.some.injEq,V.str.injEq] at e;obtain⟨rfl,ep,rfl⟩:=e;obtain rfl:=pV_inj ep;have I1:Inv X pins σ1 H1 s1:=IY.untried I.ok;have F:Fli X.prog X.w X.stack H1 s1 a C d H' s':=F;obtain⟨B,a0,fl,st⟩:=F.step;have hA:X.A.frames=some (X.env::outer):=by rw[<-Y.stk]; exact I.ok.frames
  rw[Y.stk] at fl;refine wpAny_mono (DK.any (GH _ _) (wpAny_looks_onW hA Y.fr fl (Q:=λ_ s2=>(Heap.HeldW B (X.env::outer) a C a0 X.env.locals s2.heap/\s'.heap.UpToSlots s2.heap)/\∃h',s2={ s' with heap:=h' }) (E:=λ_ _=>False) λh' x1 x4=>⟨⟨x1,x4⟩,h',rfl⟩)) (λ_ s2 z=>?_) λ_ _ q=>q.1.elim;obtain⟨⟨⟨held,up1⟩,h1,rfl⟩,kd1⟩:=z;refine wpAny_mono (DK.any (xA _ _) (wpAny_landsW (s:={ s' with heap:=h1 }) held (Q:=λ_ s2=>(Heap.FlyingW B (X.env::outer) a C a0 s2.heap/\h1.UpToSlots s2.heap)/\∃h',s2={ s' with heap:=h' }) (E:=λ_ _=>False) λh' x1 x4=>⟨⟨x1,x4⟩,h',rfl⟩)) (λ_ s2 z=>?_) λ_ _ q=>q.1.elim;obtain⟨⟨⟨fl2,up2⟩,h2,rfl⟩,kd2⟩:=z;exact(hh nm t C ht hm p).h pins σ1 H1 s1 d H' _ a D I1 (st h2 (by rw[Y.stk]; exact fl2) (up1.trans up2) (kd1.trans kd2)) hp q
 ·cases f with
  |next=>obtain⟨σ',H2,I2,q⟩:=q; exact wpAny_execs_nil ⟨σ',H2,I2.untried I.ok,q⟩
  |cont=>obtain⟨σ',H2,I2,q⟩:=q; exact⟨σ',H2,I2.untried I.ok,q⟩
  |ret u=>obtain⟨v,σ',H2,I2,r,q⟩:=q; exact⟨v,σ',H2,I2.untried I.ok,r,q⟩
  |brk =>
   obtain⟨σ',H2,I2,nm,p,σ'',t,e,hl,_⟩:=q;have:=I2.len;rw[e,Ur,Ur,hl] at this;exact absurd this (by show X.N.length+1+1≠X.N.length; lia)⟩
section
theorem Ql(I:Inv X pins σ H s)(hN:X.N.Nodup)(hi:X.N[i]?=some x)(hk:X.env.scope.names.lookup x=some .local)(h:∀s',Inv X pins (σ.set i none) H s'->Q () s'):wpAny M A (do bindName X.env x .none; unbindBehindTheSuite X.env x pos) Q E s:=by
 obtain⟨m,hn,hl⟩:=id I.loc;have hcls:(X.env.scope.kind == .class||(X.env.scope.kind == .module&&X.env.locals != X.env.globals))=false:=by rw[I.ok.kind]; rfl
 have cne:=I.cne;obtain⟨oL,_,_,hoL,_⟩:=id hn;refine wpAny_nameGoes_keeps hk hn hcls λh' v hn' hs=>h _ ⟨I.ok,I.os,I.bare,⟨λb o e n hb hx=>?_,λb o e n hb hx=>?_,I.base.free,λb o e hx=>?_,I.base.tups,I.base.frzs,I.base.tbls⟩,⟨_,hn',λj y v' e1 e2 e3=>?_⟩,λy c e=>?_,I.free,I.freeC,λp hp=>?_,λb ob e=>?_,by simpa using I.len⟩
 ·exact(hs.2 b (UJ (Uy (Heap.lt_size e) I.ok.above))).trans (I.base.keep b o e n hb hx)
 ·obtain⟨sl,e1⟩:=I.base.slot b o e n hb hx
  exact⟨sl,(hs.2 b (UJ (Uy (Heap.lt_size e) I.ok.above))).trans e1⟩
 ·obtain⟨o',e1⟩:=I.base.there b o e hx
  exact⟨o',(hs.2 b (UJ (Uy (Heap.lt_size e) I.ok.above))).trans e1⟩
 ·have hj:j≠i:=λz=>by
   subst z;rw[List.getElem?_set] at e2;simp only[if_true] at e2;split at e2<;>cases e2
  rw[UW (Ne.symm hj)] at e2;obtain⟨u',r',q⟩:=hl j y v' e1 e2 e3;refine⟨u',r', ?_⟩;rcases q with⟨k,e⟩|⟨k,c,e,z⟩
  ·refine .inl ⟨k, ?_⟩
   have:y≠x:=λe=>hj (VQ hN e1 (e▸hi));simp[this,e]
  ·exact .inr ⟨k,c,e,z.sameBut hs (cne y c e)⟩
 ·obtain⟨w',z⟩:=I.cell y c e
  exact⟨w',z.sameBut hs (cne y c e)⟩
 ·obtain⟨e,n,ne,nf,d⟩:=I.pin p hp
  exact⟨(hs.2 p.1 ne).trans e,n,ne,nf,d⟩
 ·refine(I.hok b ob e).stay (λc w' hc q=>(hs.2 c ?_).trans q) (λ_ q=>q) λ_ _ q=>q
  rintro rfl;have hfree:=I.free;rcases hc with rfl|hc
  ·rw[hfree] at e; cases e
  ·rw[hfree] at hc; cases hc
theorem Fli.new{X:Cx}(F:Fli X.prog X.w X.stack H1 s1 a C d H' s'):s1.heap.get? a=none/\H' a=none/\∃oe vs,s'.heap.get? a=some oe/\oe.cls=C/\oe.dict=d/\oe.data=.fields vs:=by
 obtain⟨B,a0,fl,hok,nb,kp,th⟩:=F.fly;obtain⟨oe,vs,T,oT,ts,he,hc,hd,_⟩:=fl.2.2.2;refine⟨?_, ?_,oe,vs,he,hc.1,F.own oe he,hd⟩
 ·cases z:s1.heap.get? a with
  |none=>rfl
  |some o =>
   exfalso;have hn:=fl.2.1;by_cases hH:H1 a=none
   ·by_cases hf:a∈frs X.stack
    ·obtain⟨_,o',ho',hd'⟩:=fl.2.2.1.mem (show a∈X.stack.filterMap (·.frame) from hf)
     rw[he] at ho'; cases ho';exact hd' vs hd
    ·rw[kp a o z hH hf] at hn; cases hn
   ·obtain⟨o',q⟩:=th a o z hH
    rw[q] at hn; cases hn
 ·cases z:H' a with
  |none=>rfl
  |some u =>
   obtain⟨o,q⟩:=(hok a u z).here;rw[fl.2.1] at q; cases q
theorem Fli.pinned(Y:Body X outer)(I:Inv X pins σ H1 s1)(F:Fli X.prog X.w X.stack H1 s1 a C d H' s')(he:s'.heap.get? a=some oe)(hd:oe.data=.fields vs):Inv X (pins++[(a,oe)]) σ H' s':=by
 have J:=F.inv I;obtain⟨n1,n2,_⟩:=F.new;refine J.pins_of λp hp=>?_;rcases Us.mp hp with hp|hp
 ·exact J.pin p (UB _ hp)
 ·obtain rfl:=Uq.mp hp
  refine⟨he,n2,λz=>?_,λz=>?_,λv z=>?_⟩
  ·obtain⟨m,⟨o,_,_,ho,_⟩,_⟩:=I.loc
   have z:a=X.env.locals:=z;rw[<-z,n1] at ho; cases ho
  ·obtain⟨_,o',ho',_⟩:=I.ok.funs.mem (show a∈X.outer.filterMap (·.frame) from z)
   obtain⟨o2,q⟩:=I.base.there a o' ho' (by rw[Y.ex]; simp);rw[n1] at q; cases q
  ·have z:oe.data=.cell v:=z
   rw[hd] at z; cases z
end
end L2
namespace PySem.W
open Builtin.ObjectAttr
section
theorem setX_more(X:Ξ.In s.heap)(I:InstAt s.heap x ox C od)(hdn:ox.dict=some d)(hdt:ox.data=.fields vs)(hsa:findIn Ξ (.ref C) "__setattr__" = some (some (.builtin "object.__setattr__")))(hp:excOver Ξ C=true)(ht:findIn Ξ (.ref C) name=some none)(hN:s.heap.Ns1 d m)(hW:Within m ns)(hl:ns.length<=100)(h:∀h',Heap.SameBut d s.heap h'->h'.Ns1 d (λy=>if y=name then some v else m y)->Q () { s with heap:=h',toks:=s.toks+2 }) :
  wpAny (model prog w) A (setAttr (.ref x) name v) Q E s:=by
 have SF:=PySem.F.store_ValueError;obtain⟨cd,hc,ho⟩:=any_some hp;simp only[De,Dg] at ho;obtain⟨⟨ho,hd⟩,ne⟩:=ho;refine set_plain X I hsa ?_;have sub:Looks (model prog w) s.heap (isInstance (.ref x) (.type "object")) true:=I.type.andThen (looks_mroIn X (by unfold mroIn; rw[hc,Option.bind_some,if_neg (by rw[ne]; decide),Vc (by decide) _ ho]));refine codeAny_call_builtin SF.slot.plain SF.entry (@check_slot (model prog w) _ _ { s with toks:=s.toks+1 } "object.__setattr__" "object" "__setattr__" (.ref x) [.str name s.toks,v] [] _ SF.kind SF.split sub (SF.args (.ref x) (.str name s.toks) v) ?_);have hm:Looks (model prog w) s.heap (mroOf (.ref C)) cd.mro:=(looks_clsIn X hc).andThen .now;rw[osa_eq,refuse_eq];refine wpAny_bind (wpAny_bind (Looks.here (s:={ s with toks:=s.toks+1 }) I.type (wpAny_bind (Looks.here (s:={ s with toks:=s.toks+1 }) hm ?_))));rw[jL (SF.passes _) _ ho];refine wpAny_pure (wpAny_bind (Looks.here (s:={ s with toks:=s.toks+1 }) I.type (wpAny_bind (Looks.here (s:={ s with toks:=s.toks+1 }) (looks_findIn X ht) (wpAny_bind (wpAny_pure ?_))))));obtain⟨hx,hcl,hn, -⟩:=I;obtain⟨oc,odi,oda,osl⟩:=ox;dsimp only at hcl hdn hdt;subst hcl hdn hdt;refine wpAny_bind (wpAny_pure (wpAny_bind (wpAny_bind (wpAny_loadPart hx (wpAny_bind (Looks.here (s:={ s with toks:=s.toks+1 }) (looks_clsIn X hc) ?_))))));rw[hd];refine wpAny_pure ?_;show wpAny _ _ (storeInDict d (.str name s.toks) name v) _ _ _;unfold storeInDict newKeyGuard;refine wpAny_bind (wpAny_pure (wpAny_bind (wpAny_nsSet1 hN λh' hn' hs=>?_)));have hW':Within (λy=>if y=name then some v else m y) (name::ns):=Within.cons name v hW;obtain⟨oD,esD,epD,hoD,hdD,hcD⟩:=hn'.count hW';refine wpAny_bind (wpAny_lookBehind hoD (by rw[hdD]; exact pastItsLine_dict (UY hcD (by rw[Ur,sizeLine_eq]; lia))) ?_);exact wpAny_pure (h h' hs hn')
end
end PySem.W
namespace L2
open PySem PySem.Spec PyProof.Rows
section
theorem Yh{fs:List (Str×V)}(e:fs.lookup z=some y):z∈fs.map (·.1):=by
 induction fs with
 |nil=>cases e
 |cons p fs ih =>
  rw[UM] at e;by_cases h:z=p.1
  ·rw[h]; exact UZ
  ·rw[beq_eq_false_iff_ne.mpr h] at e
   exact UV _ (ih e)
def XdAt(d:Addr)(fs:List (Str×V)):Heap->Prop:=λh=>∃mA,h.Ns1 d mA/\∀z,RelO (fs.lookup z) (mA z)
abbrev xdO(d:Addr)(fs:List (Str×V)):HO:=.ext (XdAt d fs)
theorem xdO_ok(e:XdAt d fs h):ObjOk P w H h d (xdO d fs):=by
 have e':=e;obtain⟨mA,⟨o,es,ep,ho,_⟩,_⟩:=e';exact⟨e,⟨o,ho⟩,λh1 h2 ⟨mB,n,r⟩ k=>⟨mB,n.at k,r⟩⟩
def sSetX1(Ξ:PySem.W.Frag)(C:Addr)(ta tv:TE)(f:Str):TS:=λD σ H=>tv σ H λy H1=>ta σ H1 λx H2=>∃a,x=.ref a/\H2 a=some (excO a C none)/\∀d,H2 d=none->D.nx σ (upd (upd H2 d (xdO d [(f,y)])) a (excO a C (some d)))
def sSetX2(Ξ:PySem.W.Frag)(C:Addr)(ta tv:TE)(f:Str):TS:=λD σ H=>tv σ H λy H1=>ta σ H1 λx H2=>∃a d fs,x=.ref a/\a≠d/\H2 a=some (excO a C (some d))/\H2 d=some (xdO d fs)/\fs.length<=50/\fs.lookup f=none/\D.nx σ (upd H2 d (.xd (fs++[(f,y)])))
theorem qs_setX2(c:ExcK X.K C g)(n:NoAttr X.K C f)(ha:QE X o ta)(hv:QE X value tv)(hs:swapsWith value (some (.Attribute o f pos')) pos.line X.env=pure false:=by rfl):QS X (.Assign [.Attribute o f pos'] value pos) (sSetX2 X.K C ta tv f):=⟨by
 intro pins s σ H D I h;refine plainObj_wpAny_Assign_Attribute (thn (hv.h pins s σ H _ I h) λu s1 ⟨y,H1,I1,ry,q⟩=>thn (ha.h pins s1 σ H1 _ I1 q) λov s2 ⟨x,H2,I2,rx,a,d,fs,ex,ne,ea,ed,hl,hf,q2⟩=>?_) hs;subst ex;obtain rfl:ov=Value.ref a:=rx;obtain⟨t,hx⟩:=jK I2.hok ea;obtain⟨mA,hns,hrel⟩:=(I2.hok d _ ed).1;obtain⟨od,hod,hlk⟩:=jG hns;have hW:PySem.Within mA (fs.map (·.1)):=λz hz=>by
  have:=hrel z;cases e1:fs.lookup z with
  |none =>
   rw[e1] at this;exact absurd (RelO.none_of this) hz
  |some y=>exact Yh e1
 refine W.setX_more I2.kIn (C:=C) (ox:=W.excOb C (some d) t) (od:=some od) ⟨hx,rfl,rfl,hod⟩ rfl rfl c.sa c.ov n hns hW (by rw[Ul]; lia) λh' e1 e2=>?_;have e3:=e2;obtain⟨od',_,_,hod',_⟩:=e3;have J:=I2.write (x:=d) (e:=d) (o:=.xd (fs++[(f,y)])) (h':=h') (t':=s2.toks+2) (by rw[ed]; exact True.intro) (.inl rfl) (λb v hb q=>by rw[e1.2 b hb]; exact q) ⟨_,hod'⟩ ⟨_,e2,λz=>?_⟩
 ·exact⟨σ,_,J,q2⟩
 ·show RelO ((fs++[(f,y)]).lookup z) (if z=f then some u else mA z)
  by_cases hz:z=f
  ·subst hz
   rw[if_pos rfl,RZ,hf];show RelO (List.lookup z [(z,y)]) (some u);rw[UM,beq_self_eq_true];exact ry
  ·rw[if_neg hz,RZ]
   have:List.lookup z [(f,y)]=none:=by rw[UM,beq_eq_false_iff_ne.mpr hz]; rfl
   rw[this,Option.or_none];exact hrel z⟩
def tFs2(b:Str)(te tb:TE):TE:=λσ H Q=>te σ H λv H1=>∃x,v=.str x/\x.length<=10000/\tb σ H1 λv H2=>∃n,v=.int n/\n.natAbs.log2<1920/\(Str.ofString (toString n)).length<=10000/\Q (.str (Str.empty++x++b++(Str.ofString (toString n)))) H2
theorem qe_fs2(lb:b.length<=10000)(he:QE X e te)(he2:QE X e2 tb):QE X (.JoinedStr [.FormattedValue e (-1) none pf, .Constant (.str b) kb pb, .FormattedValue e2 (-1) none pg] pos) (tFs2 b te tb):=⟨by
 intro pins s σ H Q I h;refine wpAny_JoinedStr ?_;refine wpAny_FormattedValue_plain (thn (he.h pins _ σ H _ I h) λu s1 ⟨v,H1,I1,rv,x,ev,lx,q⟩=>?_);subst ev;obtain⟨t,rfl⟩:=(show ∃t,u=Value.str x t from rv);refine wpAny_formatField_str ?_ ?_ (by rw[sizeLine_eq]; lia)
 all_goals
  refine⟨x,_,rfl,by rw[strLen_append,show Str.empty.length=0 from rfl,sizeLine_eq]; lia, ?_⟩;refine Calls.Constant_str ⟨b,_,rfl,by rw[strLen_append,strLen_append,show Str.empty.length=0 from rfl,sizeLine_eq]; lia, ?_⟩;show wpAny _ _ (eval (.FormattedValue e2 (-1) none pg) X.env) _ _ _
 ·refine wpAny_FormattedValue_plain (thn (he2.h pins _ σ H1 _ (I1.tok _) q) λu s3 ⟨v,H3,I3,rv3,n,ev,hn,ln,q3⟩=>?_)
  subst ev;obtain⟨t3,rfl⟩:=(show ∃t,u=Value.int n t from rv3);have lz:(Str.empty++x++b++Str.ofString (toString n)).length<=sizeLine:=by rw[strLen_append,strLen_append,strLen_append,show Str.empty.length=0 from rfl,sizeLine_eq]; lia
  refine wpAny_formatField_int hn ⟨_,_,rfl,lz,lz, ?_⟩;exact⟨.str (Str.empty++x++b++Str.ofString (toString n)),H3,((I3.tok _).tok _),⟨_,rfl⟩,q3⟩
 ·refine wpAny_FormattedValue_plain (thn (he2.h pins _ σ H1 _ ((I1.tok _).tok _) q) λu s3 ⟨v,H3,I3,rv3,n,ev,hn,ln,q3⟩=>?_)
  subst ev;obtain⟨t3,rfl⟩:=(show ∃t,u=Value.int n t from rv3);have lz:(Str.empty++x++b++Str.ofString (toString n)).length<=sizeLine:=by rw[strLen_append,strLen_append,strLen_append,show Str.empty.length=0 from rfl,sizeLine_eq]; lia
  refine wpAny_formatField_int hn ⟨_,_,rfl,lz,lz, ?_⟩;exact⟨.str (Str.empty++x++b++Str.ofString (toString n)),H3,((I3.tok _).tok _),⟨_,rfl⟩,q3⟩⟩
theorem qs_setX1(c:ExcK X.K C g)(n:NoAttr X.K C f)(ha:QE X o ta)(hv:QE X value tv)(hs:swapsWith value (some (.Attribute o f pos')) pos.line X.env=pure false:=by rfl):QS X (.Assign [.Attribute o f pos'] value pos) (sSetX1 X.K C ta tv f):=⟨by
 intro pins s σ H D I h;refine plainObj_wpAny_Assign_Attribute (thn (hv.h pins s σ H _ I h) λu s1 ⟨y,H1,I1,ry,q⟩=>thn (ha.h pins s1 σ H1 _ I1 q) λov s2 ⟨x,H2,I2,rx,a,ex,ea,q2⟩=>?_) hs;subst ex;obtain rfl:ov=Value.ref a:=rx;obtain⟨t,hx⟩:=jK I2.hok ea;refine W.setX_new I2.kIn (C:=C) (ox:=W.excOb C none t) ⟨hx,rfl,rfl,trivial⟩ rfl rfl c.sa c.ov n λh' d hd k e1 e2=>?_;obtain⟨od,es,ep,ho,hr⟩:=e2;have hf:=(Heap.get?_some_iff.mp ho).2;have hm:(s2.heap.push od).get? d=some od:=by rw[hd]; exact Heap.get?_push_size _ hf
 have ne:a≠d:=by rw[hd]; exact UJ (Heap.lt_size hx)
 have J:=I2.laid (a:=d) (o:=xdO d [(f,y)]) (h':=s2.heap.push od) (t':=s2.toks) (λb v q=>Heap.get?_push_of_some _ q) (by rw[hd]; exact Up _)
  (xdO_ok ⟨_,⟨od,es,ep,hm,hr⟩,λz=>by
   show RelO (([(f,y)]:List (Str×V)).lookup z) (if z=f then some u else none);rw[UM];by_cases q:z=f
   ·subst q; rw[beq_self_eq_true,if_pos rfl]; exact ry
   ·rw[if_neg q,beq_eq_false_iff_ne.mpr q]; exact True.intro⟩)
 have fr:H2 d=none:=I2.hok.fresh (by rw[hd]; exact Up _);have J2:=J.write (x:=a) (e:=a) (o:=excO a C (some d)) (h':=h') (t':=s2.toks+2) (by rw[upd_ne ne,ea]; exact True.intro) (.inl rfl) (λb v hb q=>?_) ⟨_,e1⟩ (Jw (t:=t) e1)
 ·exact⟨σ,_,J2,q2 d fr⟩
 ·by_cases hbd:b=d
  ·subst hbd; rw[hm] at q; rw[ho]; exact q
  ·have q':s2.heap.get? b=some v:=by
    have hz:b≠s2.heap.objs.size:=by rw[<-hd]; exact hbd
    have:=Heap.get?_some_iff.mp q;refine Heap.get?_some_iff.mpr ⟨?_,this.2⟩;have q1:=this.1;revert q1 hz;cases s2.heap;intro hz q1;simp only[Heap.push] at q1 hz ⊢;rw[RN,if_neg hz] at q1;exact q1
   exact k b v hb q'⟩
end
def spW(C:Addr):Sp:=λvs H Q _=>∃a x n,vs=[.ref a, .str x, .int n]/\x.length<=1000/\J1 n/\H a=some (excO a C none)/\∀d H2,H d=none->d≠a->H2=upd (upd H d (.xd [("word", .str x),("k", .int n)])) a (excO a C (some d))->Q .non H2
structure ExcW(P:Program)(w:World)(Ξ:PySem.W.Frag)(mg:Str->Option Value)(base:Heap)(x:Str)(C:Addr)(k:Nat):Prop where
 b:mg x=some (.ref C)
 ex:∃f fd,ExcK Ξ C f/\Binds Ξ fd ["self","word","k"] []/\FnOk P w Ξ mg base CX0 k f fd ["self","word","k"] (spW C)
def YM(x:Str)(t:TA):TS:=λD σ H=>t σ H λvs H1=>∃z k n,vs=[.str z, .int k]/\1000000<=n/\wW n=z/\wK n=k/\z.length<=1000/\J1 k/\∀d,H1 d=none->D.bk (some (.str x)::some (.int n)::σ) (upd H1 d (.xd (xfs n)))
theorem Y7(hc:X.calm=true)(hx:X.ex=[])(O:ExcW X.prog X.w X.K X.mg X.base x C kk)(hr:Room (kk+1) X.A)(ha:QA X.nox (e::es) ta)(hg:Gl X x:=by rfl)(hdb:(x==("__debug__" : Str))=false:=by decide)(he:starEach (e::es) X.env=(false,eval e X.env)::starEach es X.env:=by rfl)(hpl:(backTo cpos (starEach es X.env)).any (·.1)=false:=by rfl) :
  QX True X (.Raise (some (.Call (.Name x np) (e::es) [] cpos)) none pos) (YM x ta):=⟨λpins s σ H D k I h=>by
 obtain⟨f,fd,ck,hb,F⟩:=O.ex;have hh:=I.ok.hd hc;refine PySem.W.Raise_I (C:=C) (f:=f) hh (by rw[he]; show(false||(backTo cpos (starEach es X.env)).any (·.1))=false; rw[hpl]; rfl) (xz I hg O.b ⟨rfl, ?_⟩ hdb);have h1:=ha.h cpos pins s σ H _ (I.wish _) h;rw[he] at h1 ⊢;refine Calls.evalArgs_plain (wpAny_mono h1 (λus s₂ ⟨xs,H1,I1,r,z,n,c,ev,c6,cw,ckk,hz,hn,q⟩=>?_) λ_ _ z=>False.elim z);subst ev;have I2:=I1.unwish;have hl1:us.length=2:=by rw[<-r.length]; rfl
 have hxf:xfs c=([("word", .str z),("k", .int n)]:List (Str×V)):=by rw[Xv c6,cw,ckk]
 refine⟨rfl,by show us.length<=_; rw[hl1,sizeLine_eq]; lia,W.excI_of I2.kIn ck.i,λh' e' hm=>?_⟩;obtain⟨fr,J⟩:=I2.exc hm;have r2:Vals [V.ref e',V.str z,V.int n] (Value.ref e'::us):=.cons rfl r;refine wpAny_call (codeAny_mono (F.run _ X.stack _ _ ⟨Value.ref e'::us, []⟩ (Value.ref e'::us) _ (λv H2=>v=.non/\∃d,H1 d=none/\d≠e'/\H2=upd (upd (upd H1 e' (excO e' C none)) d (.xd (xfs c))) e' (excO e' C (some d))) E0 (hr.make C us [])
  (J.env0.make C us []) (by simpa using hb _ (Value.ref e'::us) J.kIn (by simp[hl1])) r2 ⟨e',z,n,rfl,hz,hn,upd_same,λd H2 hd hde eH=>⟨rfl,d, ?_,hde,by rw[hxf]; exact eH⟩⟩) λrr s' hq'=>?_)
 ·rwa [upd_ne hde] at hd
 ·cases rr with
  |error e=>exact False.elim hq'
  |ok fl =>
   cases fl with
   |ret u =>
    obtain⟨v,H2,I3,rv,ev,d,hd1,hd2,eH⟩:=J.after hq';subst ev eH;obtain⟨t,ht⟩:=jK I3.hok (upd_same (H:=upd (upd H1 e' (excO e' C none)) d (.xd (xfs c))) (o:=excO e' C (some d)));refine⟨rv,some d,t,W.excI_of I3.kIn ck.i,ht, ?_⟩;refine k.2 trivial pins σ _ _ e' C (some d) I3 upd_same (I2.none0 (by rw[hx]; simp) hm.new) ⟨x,some c,O.b,⟨d,rfl, ?_⟩, ?_⟩
    ·rw[jb hd2,upd_ne hd2,upd_same]
    ·have eU:untr (upd (upd (upd H1 e' (excO e' C none)) d (.xd (xfs c))) e' (excO e' C (some d))) e'=upd H1 d (.xd (xfs c)):=by
      funext b;unfold untr upd;by_cases z:b=e'
      ·subst z; simp only[if_true]; rw[if_neg (Ne.symm hd2),fr]
      ·simp only[z,if_false]
     rw[eU];exact q d hd1
   |next=>exact False.elim hq'
   |brk=>exact False.elim hq'
   |cont=>exact False.elim hq'⟩
end L2
namespace PySem
theorem Paired.of_get{α β:Type}{F:α->β->Prop}:∀{l:List α}{m:List β},l.length=m.length->(∀(i:Nat) x y,l[i]?=some x->m[i]?=some y->F x y)->Paired F l m
 | [], [],_,_=>.nil
 | [],_::_,h,_=>by simp at h
 |_::_, [],h,_=>by simp at h
 |x::l,y::m,h,r=>.cons (r 0 x y rfl rfl) (Paired.of_get (by simpa using h) λi a b ha hb=>r (i+1) a b (by simpa using ha) (by simpa using hb))
theorem Paired.len{α β:Type}{F:α->β->Prop}:∀{l:List α}{m:List β},Paired F l m->l.length=m.length
 |_,_, .nil=>rfl
 |_,_, .cons _ t=>by rw[Ur,Ur,Paired.len t]
theorem Paired.get2{α β:Type}{F:α->β->Prop}:∀{l:List α}{m:List β}{i:Nat}{x:α}{y:β},Paired F l m->l[i]?=some x->m[i]?=some y->F x y
 |_,_,_,_,_, .nil,h,_=>by simp at h
 |_,_,0,_,_, .cons r _,h,k=>by simp at h k; subst h k; exact r
 |_,_,i+1,_,_, .cons _ t,h,k=>Paired.get2 (i:=i) t (by simpa using h) (by simpa using k)
theorem Paired.getR{α β:Type}{F:α->β->Prop}{l:List α}{m:List β}{i:Nat}{y:β}(h:Paired F l m)(e:m[i]?=some y):∃x,l[i]?=some x/\F x y:=by
 have hl:=h.len;have hi:=(Uj.mp e).1;have hx:l[i]?=some (l[i]'(by lia)):=Uk (by lia);exact⟨_,hx,h.get2 hx e⟩
theorem Paired.getL{α β:Type}{F:α->β->Prop}{l:List α}{m:List β}{i:Nat}{x:α}(h:Paired F l m)(e:l[i]?=some x):∃y,m[i]?=some y/\F x y:=by
 have hl:=h.len;have hi:=(Uj.mp e).1;have hx:m[i]?=some (m[i]'(by lia)):=Uk (by lia);exact⟨_,hx,h.get2 e hx⟩
theorem Paired.app{α β:Type}{F:α->β->Prop}:∀{l l':List α}{m m':List β},Paired F l m->Paired F l' m'->Paired F (l++l') (m++m')
 |_,_,_,_, .nil,h=>h
 |_,_,_,_, .cons r t,h=>.cons r (Paired.app t h)
theorem Paired.put{α β:Type}{F:α->β->Prop}{x:α}{y:β}(r:F x y):∀{l:List α}{m:List β}(i:Nat),Paired F l m->Paired F (l.set i x) (m.set i y)
 |_,_,_, .nil=>.nil
 |_,_,0, .cons _ t=>.cons r t
 |_,_,i+1, .cons q t=>.cons q (Paired.put r i t)
theorem Paired.tk{α β:Type}{F:α->β->Prop}:∀{l:List α}{m:List β}(n:Nat),Paired F l m->Paired F (l.take n) (m.take n)
 |_,_,0,_=>.nil
 |_,_,_+1, .nil=>.nil
 |_,_,n+1, .cons r t=>.cons r (Paired.tk n t)
theorem Paired.dr{α β:Type}{F:α->β->Prop}:∀{l:List α}{m:List β}(n:Nat),Paired F l m->Paired F (l.drop n) (m.drop n)
 |_,_,0,r=>r
 |_,_,_+1, .nil=>.nil
 |_,_,n+1, .cons _ t=>Paired.dr n t
theorem Paired.erase{α β:Type}{F:α->β->Prop}:∀{l:List α}{m:List β}(n:Nat),Paired F l m->Paired F (l.eraseIdx n) (m.eraseIdx n)
 |_,_,_, .nil=>.nil
 |_,_,0, .cons _ t=>t
 |_,_,n+1, .cons r t=>.cons r (Paired.erase n t)
theorem Paired.mapR{α β γ:Type}{F:α->β->Prop}{G:α->γ->Prop}{f:β->γ}(h:∀a b,F a b->G a (f b)):∀{l:List α}{m:List β},Paired F l m->Paired G l (m.map f)
 |_,_, .nil=>.nil
 |_,_, .cons r t=>.cons (h _ _ r) (Paired.mapR h t)
theorem Paired.unmapR{α β γ:Type}{F:α->β->Prop}{G:α->γ->Prop}{f:β->γ}(h:∀a b,G a (f b)->F a b):∀{m:List β}{l:List α},Paired G l (m.map f)->Paired F l m
 | [],_, .nil=>.nil
 |_::m,_, .cons r t=>.cons (h _ _ r) (Paired.unmapR h (m:=m) t)
theorem Paired.empt{α β:Type}{F:α->β->Prop}{l:List α}{m:List β}(h:Paired F l m):l.isEmpty=m.isEmpty:=by cases h<;>rfl
end PySem
namespace L2
open PySem PySem.Spec PyProof.Rows
inductive T where
 |non|bl (b:Bool)|int (i:Int)|str (x:Str)|tup (xs:List T)|lst (xs:List T)
inductive U where
 |p (t:T)|m (k:Nat)|x (a:Addr) (d:Option Addr) (q:Option Int)
inductive MO where
 |lst (us:List U)|tup (us:List U)|ins (C:Addr) (fs:List (Str×U))|dK (kvs:List (Key×U))|dF (kvs:List (Key×U)) (ob:Obj) (gs:List (Key×V))
abbrev MM:=List MO
abbrev UEnv:=List (Option U)
inductive RepT(A:Addr->Prop)(H:Hp):V->T->Prop
 |non:RepT A H .non .non
 |bl (b:Bool):RepT A H (.bl b) (.bl b)
 |int (i:Int):RepT A H (.int i) (.int i)
 |str (x:Str):RepT A H (.str x) (.str x)
 |tup {p:Addr} {vs:List V} {ts:List T} (na:¬A p) (e:H p=some (.tup vs)) (l:vs.length=ts.length) (r:∀(i:Nat) v t,vs[i]?=some v->ts[i]?=some t->RepT A H v t):RepT A H (.ref p) (.tup ts)
 |lst {p:Addr} {vs:List V} {ts:List T} (na:¬A p) (e:H p=some (.lst vs)) (l:vs.length=ts.length) (r:∀(i:Nat) v t,vs[i]?=some v->ts[i]?=some t->RepT A H v t):RepT A H (.ref p) (.lst ts)
section
variable {A A':Addr->Prop} {H H':Hp} {v:V} {t:T} {ι ι':List Addr} {M:MM} {u:U} {σ:St} {ρ:UEnv}
abbrev RepTs(A:Addr->Prop)(H:Hp):List V->List T->Prop:=Paired (RepT A H)
theorem RepT.tupP(na:¬A p)(e:H p=some (.tup vs))(r:RepTs A H vs ts):RepT A H (.ref p) (.tup ts):=.tup na e r.len λi v t h k=>r.get2 h k
theorem RepT.lstP(na:¬A p)(e:H p=some (.lst vs))(r:RepTs A H vs ts):RepT A H (.ref p) (.lst ts):=.lst na e r.len λi v t h k=>r.get2 h k
theorem RepT.mono(h:∀x o,¬A x->H x=some o->H' x=some o/\¬A' x)(r:RepT A H v t):RepT A' H' v t:=by
 induction r with
 |non=>exact .non
 |bl b=>exact .bl b
 |int i=>exact .int i
 |str x=>exact .str x
 |tup na e l r ih=>exact .tup (h _ _ na e).2 (h _ _ na e).1 l ih
 |lst na e l r ih=>exact .lst (h _ _ na e).2 (h _ _ na e).1 l ih
theorem RepT.tup_inv(r:RepT A H v (.tup ts)):∃p vs,v=.ref p/\¬A p/\H p=some (.tup vs)/\RepTs A H vs ts:=by
 cases r with
 |tup na e l r=>exact⟨_,_,rfl,na,e,Paired.of_get l r⟩
theorem RepT.lst_inv(r:RepT A H v (.lst ts)):∃p vs,v=.ref p/\¬A p/\H p=some (.lst vs)/\RepTs A H vs ts:=by
 cases r with
 |lst na e l r=>exact⟨_,_,rfl,na,e,Paired.of_get l r⟩
def Av(A:Addr->Prop)(ι:List Addr):Addr->Prop:=λx=>A x\/x∈ι
def PartX(ι:List Addr)(H:Hp)(d:Option Addr):Option Int->Prop
 |none=>d=none
 |some n=>∃x0,d=some x0/\x0∉ι/\H x0=some (.xd (xfs n))
inductive RepU(A:Addr->Prop)(ι:List Addr)(H:Hp):V->U->Prop
 |p {v:V} {t:T} (r:RepT (Av A ι) H v t):RepU A ι H v (.p t)
 |m {k:Nat} {a:Addr} (e:ι[k]?=some a):RepU A ι H (.ref a) (.m k)
 |x {a:Addr} {d:Option Addr} {q:Option Int} (h:PartX ι H d q):RepU A ι H (.ref a) (.x a d q)
abbrev RepUs(A:Addr->Prop)(ι:List Addr)(H:Hp):List V->List U->Prop:=Paired (RepU A ι H)
def ObjR(A:Addr->Prop)(ι:List Addr)(H:Hp)(a:Addr):MO->Prop
 |.lst us=>∃vs,H a=some (.lst vs)/\RepUs A ι H vs us
 |.tup us=>∃vs,H a=some (.tup vs)/\RepUs A ι H vs us
 |.ins C fs=>∃dx gs,H a=some (.ins C dx gs)/\H dx=some (.own a)/\dx∉ι/\Paired (λ(g:Str×V) (f:Str×U)=>g.1=f.1/\RepU A ι H g.2 f.2) gs fs
 |.dK kvs=>∃gs,H a=some (.dK gs)/\Paired (λ(g:Key×V) (f:Key×U)=>g.1=f.1/\RepU A ι H g.2 f.2) gs kvs
 |.dF kvs ob gs=>H a=some (.frz ob (.dK gs))/\Paired (λ(g:Key×V) (f:Key×U)=>g.1=f.1/\RepU A ι H g.2 f.2) gs kvs
structure Wd(A:Addr->Prop)(ι:List Addr)(H:Hp)(M:MM):Prop where
 nd:ι.Nodup
 len:ι.length=M.length
 dom:∀x,A x->H x≠none
 na:∀x∈ι,¬A x
 obj:∀(k:Nat) a o,ι[k]?=some a->M[k]?=some o->ObjR A ι H a o
structure Le(ι:List Addr)(H:Hp)(ι':List Addr)(H':Hp):Prop where
 ext:∃n,ι'=ι++n/\∀x∈n,H x=none
 fr:∀x o,H x=some o->x∉ι->H' x=some o
 al:∀x,H x≠none->H' x≠none
theorem Le.refl(ι:List Addr)(H:Hp):Le ι H ι H:=⟨⟨[],by simp,by simp⟩,λ_ _ h _=>h,λ_ h=>h⟩
theorem Le.trans(a:Le ι H ι' H')(b:Le ι' H' ι2 H2):Le ι H ι2 H2:=by
 obtain⟨n,rfl,hn⟩:=a.ext;obtain⟨m,rfl,hm⟩:=b.ext;have key:∀x,H x≠none->x∉ι->x∉ι++n:=λx hx h z=>by
  rcases Us.mp z with z|z
  ·exact h z
  ·exact hx (hn x z)
 refine⟨⟨n++m,by rw[UD],λx hx=>?_⟩,λx o e h=>b.fr x o (a.fr x o e h) (key x (by rw[e]; simp) h),λx h=>b.al x (a.al x h)⟩;rcases Us.mp hx with z|z
 ·exact hn x z
 ·cases q:H x with
  |none=>rfl
  |some o=>exact absurd (hm x z) (a.al x (by rw[q]; simp))
theorem Le.av(l:Le ι H ι' H')(h:¬Av A ι x)(e:H x=some o):H' x=some o/\¬Av A ι' x:=by
 obtain⟨n,rfl,hn⟩:=l.ext;refine⟨l.fr x o e λz=>h (.inr z),λz=>?_⟩;rcases z with z|z
 ·exact h (.inl z)
 ·rcases Us.mp z with z|z
  ·exact h (.inr z)
  ·rw[hn x z] at e; cases e
theorem RepT.le(l:Le ι H ι' H')(r:RepT (Av A ι) H v t):RepT (Av A ι') H' v t:=r.mono λ_ _ h e=>l.av h e
theorem PartX.le(l:Le ι H ι' H')(h:PartX ι H d q):PartX ι' H' d q:=by
 cases q with
 |none=>exact h
 |some n =>
  obtain⟨x0,e,ni,hx⟩:=h;obtain⟨m,rfl,hm⟩:=l.ext;refine⟨x0,e,λz=>?_,l.fr x0 _ hx ni⟩;rcases Us.mp z with z|z
  ·exact ni z
  ·rw[hm x0 z] at hx; cases hx
theorem RepU.le(l:Le ι H ι' H')(r:RepU A ι H v u):RepU A ι' H' v u:=by
 cases r with
 |p r=>exact .p (r.le l)
 |m e =>
  obtain⟨n,rfl,_⟩:=l.ext;exact .m (by rw[Uo (Uj.mp e).1]; exact e)
 |x h=>exact .x (h.le l)
theorem RepUs.le(l:Le ι H ι' H')(r:RepUs A ι H vs us):RepUs A ι' H' vs us:=Paired.mapP r λ_ _ q=>q.le l
theorem ObjR.some{a:Addr}{o:MO}(r:ObjR A ι H a o):∃h,H a=some h:=by
 cases o with
 |lst=>obtain⟨vs,e,_⟩:=r; exact⟨_,e⟩
 |tup=>obtain⟨vs,e,_⟩:=r; exact⟨_,e⟩
 |ins=>obtain⟨_,_,e,_⟩:=r; exact⟨_,e⟩
 |dK=>obtain⟨_,e,_⟩:=r; exact⟨_,e⟩
 |dF=>obtain⟨e,_⟩:=r; exact⟨_,e⟩
theorem ObjR.le'(l:Le ι H ι' H')(ea:H' a=H a)(eo:∀x,H x=Option.some (.own a)->H' x=H x)(r:ObjR A ι H a o):ObjR A ι' H' a o:=by
 cases o with
 |lst=>obtain⟨vs,e,r⟩:=r; exact⟨vs,by rw[ea]; exact e,Paired.mapP r λ_ _ q=>q.le l⟩
 |tup=>obtain⟨vs,e,r⟩:=r; exact⟨vs,by rw[ea]; exact e,Paired.mapP r λ_ _ q=>q.le l⟩
 |ins =>
  obtain⟨dx,gs,e,ed,nd,r⟩:=r;obtain⟨n,rfl,hn⟩:=l.ext;refine⟨dx,gs,by rw[ea]; exact e,by rw[eo dx ed]; exact ed,λz=>?_,Paired.mapP r λ_ _ q=>⟨q.1,q.2.le l⟩⟩;rcases Us.mp z with z|z
  ·exact nd z
  ·rw[hn dx z] at ed; cases ed
 |dK=>obtain⟨gs,e,r⟩:=r; exact⟨gs,by rw[ea]; exact e,Paired.mapP r λ_ _ q=>⟨q.1,q.2.le l⟩⟩
 |dF=>obtain⟨e,r⟩:=r; exact⟨by rw[ea]; exact e,Paired.mapP r λ_ _ q=>⟨q.1,q.2.le l⟩⟩
theorem Wd.al(w:Wd A ι H M){k:Nat}(e:ι[k]?=some a):∃o,M[k]?=some o/\ObjR A ι H a o:=by
 have h:=(Uj.mp e).1;have e2:M[k]?=some (M[k]'(by rw[<-w.len]; exact h)):=Uk _;exact⟨_,e2,w.obj k a _ e e2⟩
theorem Wd.at(w:Wd A ι H M){k:Nat}(e:M[k]?=some o):∃a,ι[k]?=some a/\ObjR A ι H a o:=by
 have h:=(Uj.mp e).1;have e2:ι[k]?=some (ι[k]'(by rw[w.len]; exact h)):=Uk _;exact⟨_,e2,w.obj k _ _ e2 e⟩
theorem Wd.mem_some(w:Wd A ι H M)(h:a∈ι):∃o,H a=some o:=by
 obtain⟨k,e⟩:=Ds h;obtain⟨o,_,r⟩:=w.al e;exact r.some
theorem Wd.not_own(w:Wd A ι H M)(h:a∈ι):H a≠some (.own x):=λz=>by
 obtain⟨k,e⟩:=Ds h;obtain⟨o,_,r⟩:=w.al e;cases o with
 |lst=>obtain⟨vs,e,_⟩:=r; rw[z] at e; cases e
 |tup=>obtain⟨vs,e,_⟩:=r; rw[z] at e; cases e
 |ins=>obtain⟨_,_,e,_⟩:=r; rw[z] at e; cases e
 |dK=>obtain⟨_,e,_⟩:=r; rw[z] at e; cases e
 |dF=>obtain⟨e,_⟩:=r; rw[z] at e; cases e
theorem Le.fresh(h:H p=none):Le ι H ι (upd H p o):=⟨⟨[],by simp,by simp⟩,λx o' e _=>zq h e,λx e=>by
 by_cases z:x=p
 ·subst z; rw[upd_same]; simp
 ·rw[upd_ne z]; exact e⟩
theorem Le.push(h:H p=none):Le ι H (ι++[p]) (upd H p o):=⟨⟨[p],rfl,λx hx=>by rw[Uq.mp hx]; exact h⟩,(Le.fresh (ι:=ι) h).fr,(Le.fresh (ι:=ι) h).al⟩
theorem Le.put(h:p∈ι):Le ι H ι (upd H p o):=⟨⟨[],by simp,by simp⟩,λx o' e n=>by rw[upd_ne (λz=>n (by rw[z]; exact h))]; exact e,λx e=>by
 by_cases z:x=p
 ·subst z; rw[upd_same]; simp
 ·rw[upd_ne z]; exact e⟩
theorem Wd.fresh(w:Wd A ι H M)(h:H p=none):Wd A ι (upd H p o) M :=
 ⟨w.nd,w.len,λx hx=>(Le.fresh (ι:=ι) h).al x (w.dom x hx),w.na,λk a ob e1 e2=>(w.obj k a ob e1 e2).le' (.fresh h) (upd_ne λz=>by
  obtain⟨q,hq⟩:=w.mem_some (Um e1);rw[z,h] at hq; cases hq) λx ex=>upd_ne λz=>by rw[z,h] at ex; cases ex⟩
theorem Wd.nin(w:Wd A ι H M)(h:H p=none):p∉ι:=λz=>by
 obtain⟨q,hq⟩:=w.mem_some z;rw[h] at hq; cases hq
theorem Wd.nA(w:Wd A ι H M)(h:H p=none):¬Av A ι p:=λz=>z.elim (λz=>w.dom p z h) (w.nin h)
theorem Wd.push(w:Wd A ι H M)(h:H p=none)(new:ObjR A (ι++[p]) (upd H p o) p mo):Wd A (ι++[p]) (upd H p o) (M++[mo]):=by
 have np:=w.nin h;refine⟨D0.mpr ⟨w.nd,by simp,λa ha b hb=>?_⟩,by simp[w.len],λx hx=>(Le.fresh (ι:=ι) h).al x (w.dom x hx),λx hx=>?_,λk a ob e1 e2=>?_⟩
 ·rw[Uq.mp hb]; exact λz=>np (by rw[<-z]; exact ha)
 ·rcases Us.mp hx with z|z
  ·exact w.na x z
  ·rw[Uq.mp z]; exact λz=>w.dom p z h
 ·by_cases hk:k<ι.length
  ·rw[Uo hk] at e1
   rw[Uo (by rw[<-w.len]; exact hk)] at e2;exact(w.obj k a ob e1 e2).le' (.push h) (upd_ne λz=>np (by rw[<-z]; exact Um e1)) λx ex=>upd_ne λz=>by rw[z,h] at ex; cases ex
  ·have hk2:=(Uj.mp e1).1
   rw[Uu,Di] at hk2;have:k=ι.length:=by lia
   subst this;rw[Uz (Up _),Dm] at e1;rw[w.len,Uz (Up _),Dm] at e2;simp at e1 e2;subst e1 e2;exact new
theorem Wd.put(w:Wd A ι H M)(e:ι[k]?=some p)(new:ObjR A ι (upd H p o) p mo):Wd A ι (upd H p o) (M.set k mo):=by
 have hp:=Um e;refine⟨w.nd,by rw[UN]; exact w.len,λx hx=>(Le.put hp).al x (w.dom x hx),w.na,λj a ob e1 e2=>?_⟩;by_cases hj:k=j
 ·subst hj
  rw[e] at e1; cases e1;rw[UL (by rw[<-w.len]; exact(Uj.mp e).1)] at e2;cases e2;exact new
 ·rw[UW hj] at e2
  have na:a≠p:=λz=>by
   subst z;have h1:=Uj.mp e;have h2:=Uj.mp e1;exact hj ((List.getElem_inj w.nd).mp (h1.2.trans h2.2.symm))
  exact(w.obj j a ob e1 e2).le' (.put hp) (upd_ne na) λx ex=>upd_ne λz=>by
   rw[z] at ex; exact w.not_own hp ex
def EnvR(A:Addr->Prop)(ι:List Addr)(H:Hp):St->UEnv->Prop:=Paired λ(s:Option V) (r:Option U)=>∀u,r=some u->∃v,s=some v/\RepU A ι H v u
theorem EnvR.le(l:Le ι H ι' H')(r:EnvR A ι H σ ρ):EnvR A ι' H' σ ρ:=Paired.mapP r λ_ _ q u e=>by
 obtain⟨v,h1,h2⟩:=q u e;exact⟨v,h1,h2.le l⟩
theorem EnvR.get(r:EnvR A ι H σ ρ){i:Nat}(e:ρ[i]?=some (some u)):∃v,σ[i]?=some (some v)/\RepU A ι H v u:=by
 obtain⟨s,h1,h2⟩:=Paired.getR r e;obtain⟨v,rfl,h3⟩:=h2 u rfl;exact⟨v,h1,h3⟩
theorem EnvR.put(r:EnvR A ι H σ ρ)(i:Nat)(q:RepU A ι H v u):EnvR A ι H (σ.set i (some v)) (ρ.set i (some u)):=Paired.put (λw e=>by cases e; exact⟨v,rfl,q⟩) i r
def Jf(bs:List Bool)(n:Nat)(ρ:UEnv):UEnv:=(bs.zip ρ).map (λp=>if p.1 then p.2 else none)++List.replicate n none
theorem EnvR.mask(r:EnvR A ι H σ ρ):EnvR A ι H (zN bs n σ) (Jf bs n ρ):=by
 refine Paired.app ?_ ?_
 ·induction r generalizing bs with
  |nil=>simp; exact .nil
  |cons q t ih =>
   cases bs with
   |nil=>exact .nil
   |cons b bs =>
    refine .cons ?_ ih;cases b
    ·intro u e; simp at e
    ·simpa using q
 ·induction n with
  |zero=>exact .nil
  |succ n ih=>exact .cons (λu e=>by cases e) ih
end
abbrev UK:=U->MM->Prop
abbrev UE:=UEnv->MM->UK->Prop
abbrev UT:=UEnv->MM->(Bool->MM->Prop)->Prop
abbrev UA:=UEnv->MM->(List U->MM->Prop)->Prop
def LE(te:TE)(ue:UE):Prop:=∀(A:Addr->Prop)(ι:List Addr)(σ:St)(H:Hp)(ρ:UEnv)(M:MM)(Qu:UK)(Q:VK),Wd A ι H M->EnvR A ι H σ ρ->ue ρ M Qu ->
 (∀u M' ι' v H',Le ι H ι' H'->Wd A ι' H' M'->RepU A ι' H' v u->Qu u M'->Q v H')->te σ H Q
def LT(tt:TT)(ut:UT):Prop:=∀(A:Addr->Prop)(ι:List Addr)(σ:St)(H:Hp)(ρ:UEnv)(M:MM)(Qu:Bool->MM->Prop)(Q:Bool->Hp->Prop),Wd A ι H M->EnvR A ι H σ ρ->ut ρ M Qu ->
 (∀b M' ι' H',Le ι H ι' H'->Wd A ι' H' M'->Qu b M'->Q b H')->tt σ H Q
def LA(n:Nat)(ta:TA)(ua:UA):Prop:=∀(A:Addr->Prop)(ι:List Addr)(σ:St)(H:Hp)(ρ:UEnv)(M:MM)(Qu:List U->MM->Prop)(Q:List V->Hp->Prop),Wd A ι H M->EnvR A ι H σ ρ->ua ρ M Qu ->
 (∀us M' ι' vs H',Le ι H ι' H'->Wd A ι' H' M'->us.length=n->RepUs A ι' H' vs us->Qu us M'->Q vs H')->ta σ H Q
section
def uVar(i:Nat):UE:=λρ M Q=>∃u,ρ[i]?=some (some u)/\Q u M
inductive Sc:V->T->Prop
 |non:Sc .non .non
 |bl (b:Bool):Sc (.bl b) (.bl b)
 |int (i:Int):Sc (.int i) (.int i)
 |str (x:Str):Sc (.str x) (.str x)
theorem Sc.rep(h:Sc v t):RepT A H v t:=by cases h<;>constructor
def uC(t:T):UE:=λ_ M Q=>Q (.p t) M
def uNil:UA:=λ_ M Q=>Q [] M
def uCons(ua:UE)(ul:UA):UA:=λρ M Q=>ua ρ M λx M1=>ul ρ M1 λxs M2=>Q (x::xs) M2
theorem la_nil:LA 0 tNil uNil:=λA ι σ H ρ M Qu Q w e q k=>k [] M ι [] H (.refl _ _) w rfl .nil q
def zk:List U->Option (List T)
 | []=>some []
 |.p t::r=>(zk r).map (t :: ·)
 |.m _::_=>none
 |.x _ _ _::_=>none
@[simp] theorem xH:∀ts:List T,zk (ts.map U.p)=some ts
 | []=>rfl
 |t::r=>by simp[zk,xH r]
theorem zR:∀{us:List U}{ts:List T},zk us=some ts->us=ts.map U.p
 | [],_,h=>by simp[zk] at h; subst h; rfl
 |.p t::r,ts,h=>by
  simp[zk] at h;obtain⟨a,h1,rfl⟩:=h;rw[UQ, <-zR h1]
 |.m _::_,_,h=>by simp[zk] at h
 |.x _ _ _::_,_,h=>by simp[zk] at h
def sn(M:MM):U->Option T
 |.p t=>some t
 |.m k=>match M[k]? with
  |some (.lst us)=>(zk us).map T.lst
  |some (.tup us)=>(zk us).map T.tup
  |_=>none
 |.x _ _ _=>none
def sns(M:MM):List U->Option (List T)
 | []=>some []
 |u::r=>match sn M u,sns M r with
  |some t,some ts=>some (t::ts)
  |_,_=>none
inductive RepV(A:Addr->Prop)(H:Hp):V->T->Prop
 |of {v:V} {t:T} (r:RepT A H v t):RepV A H v t
 |lst {p:Addr} {vs:List V} {ts:List T} (e:H p=some (.lst vs)) (r:RepTs A H vs ts):RepV A H (.ref p) (.lst ts)
 |tup {p:Addr} {vs:List V} {ts:List T} (e:H p=some (.tup vs)) (r:RepTs A H vs ts):RepV A H (.ref p) (.tup ts)
variable {A:Addr->Prop} {H H':Hp} {ι:List Addr} {M:MM} {v:V} {u:U} {t:T}
theorem RepV.lst_inv(r:RepV A H v (.lst ts)):∃p vs,v=.ref p/\H p=some (.lst vs)/\RepTs A H vs ts:=by
 cases r with
 |of r=>obtain⟨p,vs,h1,_,h2,h3⟩:=r.lst_inv; exact⟨p,vs,h1,h2,h3⟩
 |lst e r=>exact⟨_,_,rfl,e,r⟩
theorem RepV.tup_inv(r:RepV A H v (.tup ts)):∃p vs,v=.ref p/\H p=some (.tup vs)/\RepTs A H vs ts:=by
 cases r with
 |of r=>obtain⟨p,vs,h1,_,h2,h3⟩:=r.tup_inv; exact⟨p,vs,h1,h2,h3⟩
 |tup e r=>exact⟨_,_,rfl,e,r⟩
theorem RepV.int_inv(r:RepV A H v (.int i)):v=.int i:=by cases r with|of r=>cases r; rfl
theorem RepV.bl_inv(r:RepV A H v (.bl i)):v=.bl i:=by cases r with|of r=>cases r; rfl
theorem RepV.str_inv(r:RepV A H v (.str i)):v=.str i:=by cases r with|of r=>cases r; rfl
theorem RepV.non_inv(r:RepV A H v .non):v=.non:=by cases r with|of r=>cases r; rfl
theorem RepUs.pures(r:RepUs A ι H vs (ts.map U.p)):RepTs (Av A ι) H vs ts:=Paired.unmapR (λa b q=>by cases q with|p r=>exact r) r
theorem RepTs.ups(r:RepTs (Av A ι) H vs ts):RepUs A ι H vs (ts.map U.p):=Paired.mapR (λa b q=>.p q) r
theorem RepU.sn(w:Wd A ι H M)(r:RepU A ι H v u)(e:sn M u=some t):RepV (Av A ι) H v t:=by
 cases r with
 |p r=>simp[L2.sn] at e; subst e; exact .of r
 |m q =>
  obtain⟨o,h1,h2⟩:=w.al q;simp only[L2.sn,h1] at e;cases o with
  |lst us =>
   simp at e;obtain⟨ts,e1,rfl⟩:=e;obtain⟨vs,h3,h4⟩:=h2;rw[zR e1] at h4;exact .lst h3 h4.pures
  |tup us =>
   simp at e;obtain⟨ts,e1,rfl⟩:=e;obtain⟨vs,h3,h4⟩:=h2;rw[zR e1] at h4;exact .tup h3 h4.pures
  |ins=>simp at e
  |dK=>simp at e
  |dF=>simp at e
 |x h=>simp[L2.sn] at e
theorem RepUs.sns(w:Wd A ι H M):∀{vs:List V}{us:List U}{ts:List T},RepUs A ι H vs us->sns M us=some ts->Paired (RepV (Av A ι) H) vs ts
 |_,_,ts, .nil,e=>by simp[L2.sns] at e; subst e; exact .nil
 |_,_,ts, .cons r q,e=>by
  simp only[L2.sns] at e;split at e
  ·rename_i h1 h2
   simp at e; subst e;exact .cons (r.sn w h1) (RepUs.sns w q h2)
  ·cases e
def OpL(r:R2)(s:T->T->(T->Prop)->Prop):Prop:=∀(A:Addr->Prop)(ι:List Addr)(H:Hp)(M:MM)(x y:V)(a b:T)(Qs:T->Prop)(Q:VK),Wd A ι H M->RepV (Av A ι) H x a->RepV (Av A ι) H y b->s a b Qs ->
 (∀t ι' v H',Le ι H ι' H'->Wd A ι' H' M->RepT (Av A ι') H' v t->Qs t->Q v H')->r x y H Q
def uOp(s:T->T->(T->Prop)->Prop)(ua ub:UE):UE:=λρ M Q=>ua ρ M λx M1=>ub ρ M1 λy M2=>∃a b,sn M2 x=some a/\sn M2 y=some b/\s a b λt=>Q (.p t) M2
def sI(C:Int->Int->Prop)(g:Int->Int->T):T->T->(T->Prop)->Prop:=λa b Q=>∃i j,a=.int i/\b=.int j/\C i j/\Q (g i j)
def sI0(g:Int->Int->T):T->T->(T->Prop)->Prop:=λa b Q=>∃i j,a=.int i/\b=.int j/\Q (g i j)
theorem vg(hg:∀i j,Sc (gv i j) (g i j)):OpL (rI C gv) (sI C g):=λA ι H M x y a b Qs Q w r1 r2 ⟨i,j,ea,eb,c,q⟩ k=>by
 subst ea eb;exact⟨i,j,r1.int_inv,r2.int_inv,c,k _ ι _ H (.refl _ _) w (hg i j).rep q⟩
theorem qo(hg:∀i j,Sc (gv i j) (g i j)):OpL (rI0 gv) (sI0 g):=λA ι H M x y a b Qs Q w r1 r2 ⟨i,j,ea,eb,q⟩ k=>by
 subst ea eb;exact⟨i,j,r1.int_inv,r2.int_inv,k _ ι _ H (.refl _ _) w (hg i j).rep q⟩
def vt:T->Option V
 |.non=>some .non
 |.bl b=>some (.bl b)
 |.int i=>some (.int i)
 |.str x=>some (.str x)
 |_=>none
theorem QY(e:vt t=some x):Sc x t:=by
 cases t<;>simp[vt] at e<;>subst e<;>constructor
theorem RepV.sc{x y:V}(r:RepV A H v t)(e:vt t=some x):v=x:=by
 cases QY e with
 |non=>exact r.non_inv
 |bl=>exact r.bl_inv
 |int=>exact r.int_inv
 |str=>exact r.str_inv
def sEq(neg:Bool):T->T->(T->Prop)->Prop:=λa b Q=>∃x y,vt a=some x/\vt b=some y/\scal x y=true/\Q (.bl (if neg then !decide (x=y) else decide (x=y)))
theorem vi:OpL rEq (sEq false):=λA ι H M x y a b Qs Q w r1 r2 ⟨x',y',e1,e2,sc,q⟩ k=>by
 cases r1.sc (y:=.non) e1; cases r2.sc (y:=.non) e2;exact⟨sc,k _ ι _ H (.refl _ _) w (.bl _) q⟩
theorem jE:OpL rNe (sEq true):=λA ι H M x y a b Qs Q w r1 r2 ⟨x',y',e1,e2,sc,q⟩ k=>by
 cases r1.sc (y:=.non) e1; cases r2.sc (y:=.non) e2;exact⟨sc,k _ ι _ H (.refl _ _) w (.bl _) q⟩
def sStr:T->T->(T->Prop)->Prop:=λa b Q=>∃i j,a=.str i/\b=.str j/\i.length+j.length<=sizeLine/\Q (.str (i++j))
def vts:List T->Option (List V)
 | []=>some []
 |t::r=>match vt t,vts r with
  |some x,some xs=>some (x::xs)
  |_,_=>none
theorem Xx:∀{vs:List V}{ts:List T}{xs:List V},RepTs A H vs ts->vts ts=some xs->vs=xs/\xs.all kB=true
 |_,_,xs, .nil,e=>by simp[vts] at e; subst e; exact⟨rfl,rfl⟩
 |_,_,xs, .cons r q,e=>by
  simp only[vts] at e;split at e
  ·rename_i h1 h2
   simp at e; subst e;obtain⟨z1,z2⟩:=Xx q h2;subst z1;cases(RepV.of r).sc (y:=.non) h1;refine⟨rfl, ?_⟩;rw[Rn,z2];cases QY h1<;>rfl
  ·cases e
def seqT:T->Option (List T)
 |.lst ts=>some ts
 |.tup ts=>some ts
 |_=>none
def sIn(neg:Bool):T->T->(T->Prop)->Prop:=λa b Q=>∃x ts ys,vt a=some x/\seqT b=some ts/\vts ts=some ys/\Q (.bl (if neg then !inV x ys else inV x ys))
theorem ZK:OpL (rIn Ξ neg) (sIn neg):=λA ι H M x y a b Qs Q w r1 r2 ⟨x',ts,ys,e1,e2,e3,q⟩ k=>by
 cases r1.sc (y:=.non) e1;have hf:kB x=true:=by cases QY e1<;>rfl
 cases b<;>simp[seqT] at e2
 ·subst e2
  obtain⟨p,vs,rfl,h,r⟩:=r2.tup_inv;obtain⟨rfl,z⟩:=Xx r e3;exact⟨p,vs,rfl, .inr (SqT.of h),hf,z,k _ ι _ H (.refl _ _) w (.bl _) q⟩
 ·subst e2
  obtain⟨p,vs,rfl,h,r⟩:=r2.lst_inv;obtain⟨rfl,z⟩:=Xx r e3;exact⟨p,vs,rfl, .inl (SqL.of h),hf,z,k _ ι _ H (.refl _ _) w (.bl _) q⟩
theorem zo(w:Wd A ι H M)(h:H p=none)(r:RepTs (Av A ι) H vs ts):RepT (Av A ι) (upd H p (.lst vs)) (.ref p) (.lst ts) :=
 .lstP (w.nA h) upd_same (Paired.mapP r λ_ _ q=>q.le (.fresh h))
theorem Xb(w:Wd A ι H M)(h:H p=none)(r:RepTs (Av A ι) H vs ts):RepT (Av A ι) (upd H p (.tup vs)) (.ref p) (.tup ts) :=
 .tupP (w.nA h) upd_same (Paired.mapP r λ_ _ q=>q.le (.fresh h))
def sCat:T->T->(T->Prop)->Prop:=λa b Q=>∃xs ys,a=.lst xs/\b=.lst ys/\xs.length+ys.length<=sizeLine/\Q (.lst (xs++ys))
theorem vI:OpL rCat sCat:=λA ι H M x y a b Qs Q w r1 r2 ⟨xs,ys,ea,eb,hz,q⟩ k=>by
 subst ea eb;obtain⟨p,vs,rfl,h1,q1⟩:=r1.lst_inv;obtain⟨p2,vs2,rfl,h2,q2⟩:=r2.lst_inv;exact⟨p,p2,vs,vs2,rfl,rfl,h1,h2,by rw[q1.len,q2.len]; exact hz,λp hp=>k _ ι _ _ (.fresh hp) (w.fresh hp) (zo w hp (q1.app q2)) q⟩
theorem j2{α β:Type}{F:α->β->Prop}{l:List α}{m:List β}(h:Paired F l m):∀n:Nat,Paired F (List.replicate n l).flatten (List.replicate n m).flatten
 |0=>.nil
 |n+1=>by rw[Db,Db,Dv,Dv]; exact h.app (j2 h n)
def QR:U->Bool
 |.p .non=>true
 |_=>false
theorem Z8(r:RepU A ι H v u):decide (v=.non)=QR u:=by
 cases r with
 |p r=>cases r<;>simp[QR]
 |m e=>simp[QR]
 |x h=>simp[QR]
def uIsN(neg:Bool)(ua:UE):UE:=λρ M Q=>ua ρ M λx M1=>Q (.p (.bl (if neg then !QR x else QR x))) M1
def uNeg(ua:UE):UE:=λρ M Q=>ua ρ M λx M1=>∃i,x=.p (.int i)/\Q (.p (.int (-i))) M1
def uB(ua:UE):UT:=λρ M Q=>ua ρ M λx M1=>∃b,x=.p (.bl b)/\Q b M1
theorem lt_b(ha:LE ta ua):LT (tB ta) (uB ua):=λA ι σ H ρ M Qu Q w e q k =>
 ha A ι σ H ρ M _ _ w e q λx M1 ι1 v H1 l1 w1 r1 ⟨b,ex,q1⟩=>by
  subst ex;cases r1 with
  |p r=>cases r; exact⟨b,rfl,k b M1 ι1 H1 l1 w1 q1⟩
def truU(M:MM):U->Option Bool
 |.p .non=>some false
 |.p (.bl b)=>some b
 |.p (.int i)=>some (i != 0)
 |.p (.lst ts)=>some (!ts.isEmpty)
 |.p (.tup ts)=>some (!ts.isEmpty)
 |.m k=>match M[k]? with
  |some (.lst us)=>some (!us.isEmpty)
  |some (.tup us)=>some (!us.isEmpty)
  |some (.dK us)=>some (!us.isEmpty)
  |_=>none
 |_=>none
theorem tru_rep(w:Wd A ι H M)(r:RepU A ι H v u)(e:truU M u=some b):TruV Ξ v H b:=by
 cases r with
 |p r =>
  cases r with
  |non=>simp[truU] at e; subst e; rfl
  |bl=>simp[truU] at e; subst e; rfl
  |int=>simp[truU] at e; subst e; simp[TruV]
  |str=>simp[truU] at e
  |tup na e1 l r=>simp only[truU,Option.some.injEq] at e; subst e; exact .inr (.inl ⟨_,SqT.of e1,by rw[(Paired.of_get l r).empt]⟩)
  |lst na e1 l r=>simp only[truU,Option.some.injEq] at e; subst e; exact .inl ⟨_,SqL.of e1,by rw[(Paired.of_get l r).empt]⟩
 |m q =>
  obtain⟨o,h1,h2⟩:=w.al q;simp only[truU,h1] at e;cases o with
  |lst us=>simp only[Option.some.injEq] at e; subst e; obtain⟨vs,h3,h4⟩:=h2; exact .inl ⟨_,SqL.of h3,by rw[h4.empt]⟩
  |tup us=>simp only[Option.some.injEq] at e; subst e; obtain⟨vs,h3,h4⟩:=h2; exact .inr (.inl ⟨_,SqT.of h3,by rw[h4.empt]⟩)
  |ins=>simp at e
  |dK us=>simp only[Option.some.injEq] at e; subst e; obtain⟨vs,h3,h4⟩:=h2; exact .inr (.inr ⟨_,h3,by rw[h4.empt]⟩)
  |dF=>simp at e
 |x h=>simp[truU] at e
def uTru(ua:UE):UT:=λρ M Q=>ua ρ M λx M1=>∃b,truU M1 x=some b/\Q b M1
def uAnd(t s:UT):UT:=λρ M Q=>t ρ M λc M1=>if c=true then s ρ M1 Q else Q false M1
def uOr(t s:UT):UT:=λρ M Q=>t ρ M λc M1=>if c=true then Q true M1 else s ρ M1 Q
def uNot(t:UT):UT:=λρ M Q=>t ρ M λc M1=>Q (!c) M1
def uAndV(ua ub:UE):UE:=λρ M Q=>ua ρ M λx M1=>∃c,x=.p (.bl c)/\if c=true then ub ρ M1 Q else Q (.p (.bl false)) M1
def uOrV(ua ub:UE):UE:=λρ M Q=>ua ρ M λx M1=>∃c,x=.p (.bl c)/\if c=true then Q (.p (.bl true)) M1 else ub ρ M1 Q
def uNotV(ua:UE):UE:=λρ M Q=>ua ρ M λx M1=>∃c,x=.p (.bl c)/\Q (.p (.bl (!c))) M1
def uIf(t:UT)(ua ub:UE):UE:=λρ M Q=>t ρ M λc M1=>if c=true then ua ρ M1 Q else ub ρ M1 Q
def JU(s s':T->T->(T->Prop)->Prop)(ua ub uc:UE):UE:=λρ M Q=>ua ρ M λx M1=>ub ρ M1 λy M2=>∃a b,sn M2 x=some a/\sn M2 y=some b/\s a b λz=>∃k,z=.bl k /\
 if k=true then uc ρ M2 λc M3=>∃b' c',sn M3 y=some b'/\sn M3 c=some c'/\s' b' c' λt=>Q (.p t) M3 else Q (.p (.bl false)) M2
def uTup(ul:UA):UE:=λρ M Q=>ul ρ M λus M1=>∃ts,zk us=some ts/\Q (.p (.tup ts)) M1
def uLst(ul:UA):UE:=λρ M Q=>ul ρ M λus M1=>∃ts,zk us=some ts/\Q (.p (.lst ts)) M1
def uNew(ul:UA):UE:=λρ M Q=>ul ρ M λus M1=>Q (.m M1.length) (M1++[.lst us])
def uNewT(ul:UA):UE:=λρ M Q=>ul ρ M λus M1=>Q (.m M1.length) (M1++[.tup us])
theorem xM{α:Type}{l:List α}{x:α}:(l++[x])[l.length]?=some x:=by rw[Uz (Up _),Dm]; rfl
theorem zG(w:Wd A ι H M)(h:H p=none)(r:RepUs A ι H vs us):Wd A (ι++[p]) (upd H p (.lst vs)) (M++[.lst us])/\RepU A (ι++[p]) (upd H p (.lst vs)) (.ref p) (.m M.length) :=
 ⟨w.push h ⟨vs,upd_same,r.le (.push h)⟩, .m (by rw[<-w.len]; exact xM)⟩
theorem WN(w:Wd A ι H M)(h:H p=none)(r:RepUs A ι H vs us):Wd A (ι++[p]) (upd H p (.tup vs)) (M++[.tup us])/\RepU A (ι++[p]) (upd H p (.tup vs)) (.ref p) (.m M.length) :=
 ⟨w.push h ⟨vs,upd_same,r.le (.push h)⟩, .m (by rw[<-w.len]; exact xM)⟩
def vd(M:MM):U->Option (List U)
 |.p (.lst ts)=>some (ts.map .p)
 |.m k=>match M[k]? with
  |some (.lst us)=>some us
  |_=>none
 |_=>none
def zm(M:MM):U->Option (List U)
 |.p (.tup ts)=>some (ts.map .p)
 |.m k=>match M[k]? with
  |some (.tup us)=>some us
  |_=>none
 |_=>none
theorem vG(w:Wd A ι H M)(r:RepU A ι H v u)(e:vd M u=some us):∃p vs,v=.ref p/\H p=some (.lst vs)/\RepUs A ι H vs us:=by
 cases r with
 |p r =>
  cases r with
  |lst na e1 l r=>simp[vd] at e; subst e; exact⟨_,_,rfl,e1,RepTs.ups (Paired.of_get l r)⟩
  |_=>simp[vd] at e
 |m q =>
  obtain⟨o,h1,h2⟩:=w.al q;simp only[vd,h1] at e;cases o with
  |lst us=>simp at e; subst e; obtain⟨vs,h3,h4⟩:=h2; exact⟨_,_,rfl,h3,h4⟩
  |_=>simp at e
 |x h=>simp[vd] at e
theorem zD(w:Wd A ι H M)(r:RepU A ι H v u)(e:zm M u=some us):∃p vs,v=.ref p/\H p=some (.tup vs)/\RepUs A ι H vs us:=by
 cases r with
 |p r =>
  cases r with
  |tup na e1 l r=>simp[zm] at e; subst e; exact⟨_,_,rfl,e1,RepTs.ups (Paired.of_get l r)⟩
  |_=>simp[zm] at e
 |m q =>
  obtain⟨o,h1,h2⟩:=w.al q;simp only[zm,h1] at e;cases o with
  |tup us=>simp at e; subst e; obtain⟨vs,h3,h4⟩:=h2; exact⟨_,_,rfl,h3,h4⟩
  |_=>simp at e
 |x h=>simp[zm] at e
theorem qab(r:RepUs A ι H vs us)(e:atI us i=some z):∃x,atI vs i=some x/\RepU A ι H x z:=by
 unfold atI at e ⊢;rw[r.len];cases q:ixN us.length i with
 |none=>rw[q] at e; cases e
 |some j =>
  rw[q] at e;exact Paired.getR r e
def uIx(it:MM->U->Option (List U))(ua ub:UE):UE:=λρ M Q=>ua ρ M λx M1=>ub ρ M1 λy M2=>∃us i z,it M2 x=some us/\y=.p (.int i)/\atI us i=some z/\Q z M2
def CbL(r:List V->Hp->VK->Prop)(s:List T->(T->Prop)->Prop):Prop:=∀(A:Addr->Prop)(ι:List Addr)(H:Hp)(M:MM)(vs:List V)(ts:List T)(Qs:T->Prop)(Q:VK),Wd A ι H M->Paired (RepV (Av A ι) H) vs ts->s ts Qs ->
 (∀t ι' v H',Le ι H ι' H'->Wd A ι' H' M->RepT (Av A ι') H' v t->Qs t->Q v H')->r vs H Q
def uCb(s:List T->(T->Prop)->Prop)(ul:UA):UE:=λρ M Q=>ul ρ M λus M1=>∃ts,sns M1 us=some ts/\s ts λt=>Q (.p t) M1
theorem pv1(r:Paired (RepV A H) vs [t]):∃v,vs=[v]/\RepV A H v t:=by
 cases r with
 |cons r q=>cases q; exact⟨_,rfl,r⟩
theorem pv2(r:Paired (RepV A H) vs [t,s]):∃v z,vs=[v,z]/\RepV A H v t/\RepV A H z s:=by
 cases r with
 |cons r q =>
  obtain⟨v,rfl,r2⟩:=pv1 q;exact⟨_,_,rfl,r,r2⟩
def sAbs:List T->(T->Prop)->Prop:=λts Q=>∃i,ts=[.int i]/\Q (.int (if i<0 then -i else i))
def sMin:List T->(T->Prop)->Prop:=λts Q=>∃i j,ts=[.int i, .int j]/\Q (.int (if j<i then j else i))
theorem G2:CbL (λxs H Q=>∃i j,xs=[.int i, .int j]/\Q (.int (if j<i then j else i)) H) sMin:=λA ι H M vs ts Qs Q w r ⟨i,j,e,q⟩ k=>by
 subst e;obtain⟨v,z,ev,r1,r2⟩:=pv2 r;subst ev;cases r1.int_inv; cases r2.int_inv;exact⟨i,j,rfl,k _ ι _ H (.refl _ _) w (.int _) q⟩
def sMax:List T->(T->Prop)->Prop:=λts Q=>∃i j,ts=[.int i, .int j]/\Q (.int (if j>i then j else i))
theorem cbl_max:CbL (λxs H Q=>∃i j,xs=[.int i, .int j]/\Q (.int (if j>i then j else i)) H) sMax:=λA ι H M vs ts Qs Q w r ⟨i,j,e,q⟩ k=>by
 subst e;obtain⟨v,z,ev,r1,r2⟩:=pv2 r;subst ev;cases r1.int_inv; cases r2.int_inv;exact⟨i,j,rfl,k _ ι _ H (.refl _ _) w (.int _) q⟩
def sInt:List T->(T->Prop)->Prop:=λts Q=>(∃i,ts=[.int i]/\Q (.int i))\/∃k,ts=[.bl k]/\Q (.int (if k then 1 else 0))
theorem G3:CbL (λxs H Q=>(∃i,xs=[.int i]/\Q (.int i) H)\/∃k,xs=[.bl k]/\Q (.int (if k then 1 else 0)) H) sInt:=λA ι H M vs ts Qs Q w r h k=>by
 rcases h with⟨i,e,q⟩|⟨b,e,q⟩
 ·subst e
  obtain⟨v,ev,r1⟩:=pv1 r;subst ev;cases r1.int_inv;exact .inl ⟨i,rfl,k _ ι _ H (.refl _ _) w (.int _) q⟩
 ·subst e
  obtain⟨v,ev,r1⟩:=pv1 r;subst ev;cases r1.bl_inv;exact .inr ⟨b,rfl,k _ ι _ H (.refl _ _) w (.int _) q⟩
def bls:List T->Option (List Bool)
 | []=>some []
 |.bl b::r=>(bls r).map (b :: ·)
 |_=>none
@[simp] theorem bls_map:∀bs:List Bool,bls (bs.map T.bl)=some bs
 | []=>rfl
 |b::r=>by simp[bls,bls_map r]
def sListOf:List T->(T->Prop)->Prop:=λts Q=>∃a xs,ts=[a]/\seqT a=some xs/\Q (.lst xs)
theorem kW:CbL (λxs H Q=>∃p ys,xs=[.ref p]/\(SqL Ξ H p ys\/SqT Ξ H p ys)/\∀l,H l=none->Q (.ref l) (upd H l (.lst ys))) sListOf:=λA ι H M vs ts Qs Q w r ⟨a,xs,e,ea,q⟩ k=>by
 subst e;obtain⟨v,ev,r1⟩:=pv1 r;subst ev;cases a<;>simp[seqT] at ea
 ·subst ea
  obtain⟨p,zs,rfl,h1,h2⟩:=r1.tup_inv;exact⟨p,zs,rfl, .inr (SqT.of h1),λl hl=>k _ ι _ _ (.fresh hl) (w.fresh hl) (zo w hl h2) q⟩
 ·subst ea
  obtain⟨p,zs,rfl,h1,h2⟩:=r1.lst_inv;exact⟨p,zs,rfl, .inl (SqL.of h1),λl hl=>k _ ι _ _ (.fresh hl) (w.fresh hl) (zo w hl h2) q⟩
def uLen(it:MM->U->Option (List U))(ul:UA):UE:=λρ M Q=>ul ρ M λus M1=>∃x ys,us=[x]/\it M1 x=some ys/\Q (.p (.int ys.length)) M1
def uBits(ua:UE):UE:=λρ M Q=>ua ρ M λx M1=>∃i,x=.p (.int i)/\Q (.p (.int (Builtin.Int.intBits i))) M1
def cutT(xs:List T)(lo hi:Option Int):List T:=(xs.drop (HT.sIx xs.length 0 lo)).take (HT.sIx xs.length xs.length hi-HT.sIx xs.length 0 lo)
theorem cut_rep{lo hi:Option Int}(r:RepTs A H vs ts):RepTs A H (cutV vs lo hi) (cutT ts lo hi):=by
 unfold cutV cutT;rw[r.len];exact(r.dr _).tk _
abbrev UO:=UEnv->MM->(Option Int->MM->Prop)->Prop
def LO(to:TO)(uo:UO):Prop:=∀(A:Addr->Prop)(ι:List Addr)(σ:St)(H:Hp)(ρ:UEnv)(M:MM)(Qu:Option Int->MM->Prop)(Q:Option Int->Hp->Prop),Wd A ι H M->EnvR A ι H σ ρ->uo ρ M Qu ->
 (∀b M' ι' H',Le ι H ι' H'->Wd A ι' H' M'->Qu b M'->Q b H')->to σ H Q
def Xz:UO:=λ_ M Q=>Q none M
def uPart(ua:UE):UO:=λρ M Q=>ua ρ M λx M1=>∃i,x=.p (.int i)/\Q (some i) M1
theorem lo_none:LO xk Xz:=λA ι σ H ρ M Qu Q w e q k=>k _ M ι H (.refl _ _) w q
def uSl(ua:UE)(ul uh:UO):UE:=λρ M Q=>ua ρ M λx M1=>ul ρ M1 λl M2=>uh ρ M2 λh M3=>∃ts,sn M3 x=some (.lst ts)/\Q (.p (.lst (cutT ts l h))) M3
end
section
variable {te ta tb:TE} {ue ua ub:UE} {tt:TT} {ut:UT} {tl:TA} {ul:UA} {n:Nat} {A A' A2:Addr->Prop} {H H' H1 H2:Hp} {ι ι' ι1 ι2:List Addr} {M M':MM} {v:V} {u:U} {t:T} {σ:St} {ρ:UEnv} {Ξ:PySem.W.Frag}
structure Lea(A:Addr->Prop)(ι:List Addr)(H:Hp)(A':Addr->Prop)(ι':List Addr)(H':Hp):Prop where
 ext:∃n,ι'=ι++n
 av:∀x o,¬Av A ι x->H x=some o->H' x=some o/\¬Av A' ι' x
 xd:∀x fs,x∉ι->H x=some (.xd fs)->x∉ι'/\H' x=some (.xd fs)
theorem Le.xd(l:Le ι H ι' H'):∀x fs,x∉ι->H x=some (.xd fs)->x∉ι'/\H' x=some (.xd fs):=λx fs hx e=>by
 obtain⟨m,rfl,hm⟩:=l.ext;refine⟨λz=>?_,l.fr x _ e hx⟩;rcases Us.mp z with z|z
 ·exact hx z
 ·rw[hm x z] at e; cases e
theorem Le.lea(l:Le ι H ι' H'):Lea A ι H A ι' H':=⟨let⟨n,e,_⟩:=l.ext; ⟨n,e⟩,λ_ _ h e=>l.av h e,l.xd⟩
theorem Lea.trans(a:Lea A ι H A' ι' H')(b:Lea A' ι' H' A2 ι2 H2):Lea A ι H A2 ι2 H2:=by
 obtain⟨n,rfl⟩:=a.ext;obtain⟨m,rfl⟩:=b.ext;exact⟨⟨n++m,by rw[UD]⟩,λx o h e=>b.av x o (a.av x o h e).2 (a.av x o h e).1,λx fs h e=>b.xd x fs (a.xd x fs h e).1 (a.xd x fs h e).2⟩
theorem RepU.lea(l:Lea A ι H A' ι' H')(r:RepU A ι H v u):RepU A' ι' H' v u:=by
 cases r with
 |p r=>exact .p (r.mono l.av)
 |m e =>
  obtain⟨n,rfl⟩:=l.ext;exact .m (by rw[Uo (Uj.mp e).1]; exact e)
 | @x a d q h =>
  refine .x ?_;cases q with
  |none=>exact h
  |some n =>
   obtain⟨x0,e,ni,hx⟩:=h;have:=l.xd x0 _ ni hx;exact⟨x0,e,this.1,this.2⟩
theorem EnvR.lea(l:Lea A ι H A' ι' H')(r:EnvR A ι H σ ρ):EnvR A' ι' H' σ ρ:=Paired.mapP r λ_ _ q u e=>by
 obtain⟨v,h1,h2⟩:=q u e;exact⟨v,h1,h2.lea l⟩
structure UIt where
 n:Nat
 ok:MM->Prop
 item:Nat->U->Prop
def ItR(A:Addr->Prop)(ι1:List Addr)(H1:Hp)(J:It)(it:UIt):Prop:=∀(A':Addr->Prop)(ι:List Addr)(H:Hp)(M:MM)(i:Nat),Lea A ι1 H1 A' ι H->Wd A' ι H M->it.ok M ->
 (i<it.n->J.go i H/\∀x H',J.yld i H x H'->∃u,it.item i u/\Le ι H ι H'/\Wd A' ι H' M/\RepU A' ι H' x u)/\(i=it.n->J.stop i H)
abbrev UI:=UEnv->MM->(UIt->MM->Prop)->Prop
def LI(wi:TI)(ui:UI):Prop:=∀(A:Addr->Prop)(ι:List Addr)(σ:St)(H:Hp)(ρ:UEnv)(M:MM)(Qu:UIt->MM->Prop)(R:It->Hp->Prop),Wd A ι H M->EnvR A ι H σ ρ->ui ρ M Qu ->
 (∀it M' ι' J H',Le ι H ι' H'->Wd A ι' H' M'->ItR A ι' H' J it->Qu it M'->R J H')->wi σ H R
def uIter(ua:UE):UI:=λρ M Q=>ua ρ M λx M1=>∃us,vd M1 x=some us/\Q ⟨us.length,λM=>vd M x=some us,λi z=>us[i]?=some z⟩ M1
def uEnum(ul:UA):UI:=λρ M Q=>ul ρ M λxs M1=>∃(x:U)(ts:List T),xs=[x]/\vd M1 x=some (ts.map U.p)/\Q ⟨ts.length,λM=>vd M x=some (ts.map U.p),λi z=>∃t,ts[i]?=some t/\z=.p (.tup [.int i,t])⟩ M1
def uRev(ul:UA):UI:=λρ M Q=>ul ρ M λxs M1=>∃x us,xs=[x]/\vd M1 x=some us/\Q ⟨us.length,λM=>vd M x=some us,λi z=>us[us.length-1-i]?=some z⟩ M1
def uRng1(ul:UA):UI:=λρ M Q=>ul ρ M λxs M1=>∃j:Int,xs=[.p (.int j)] /\ -(2^62)<=j/\j<2^62/\Q ⟨j.toNat,λ_=>True,λi z=>z=.p (.int i)⟩ M1
theorem itr_ok{lo:Int}:ItR A ι H (Itr lo n) ⟨n,λ_=>True,λi z=>z=.p (.int (lo+i))⟩:=λA' ι2 H2 M2 i l w2 _ =>
 ⟨λhi=>⟨hi,λx H' y=>by
  obtain⟨rfl,rfl⟩:=y;exact⟨_,rfl, .refl _ _,w2, .p (.int _)⟩⟩,λhi=>D2 hi.symm⟩
abbrev UG:=U->UEnv->MM->(UEnv->MM->Prop)->Prop
def LG(g:TG)(ug:UG):Prop:=∀(A:Addr->Prop)(ι:List Addr)(σ:St)(H:Hp)(ρ:UEnv)(M:MM)(v:V)(u:U)(Qu:UEnv->MM->Prop)(Q:St->Hp->Prop),Wd A ι H M->EnvR A ι H σ ρ->RepU A ι H v u->ug u ρ M Qu ->
 (∀ρ' M' ι' σ' H',Le ι H ι' H'->Wd A ι' H' M'->EnvR A ι' H' σ' ρ'->Qu ρ' M'->Q σ' H')->g v σ H Q
def YB(i:Nat):UG:=λu ρ M Q=>Q (ρ.set i (some u)) M
def YA(i j:Nat):UG:=λu ρ M Q=>∃a b,zm M u=some [a,b]/\Q ((ρ.set i (some a)).set j (some b)) M
def Zs(i j k:Nat):UG:=λu ρ M Q=>∃a b c,zm M u=some [a,b,c]/\Q (((ρ.set i (some a)).set j (some b)).set k (some c)) M
theorem rep2(r:RepUs A ι H vs [a,b]):∃x y,vs=[x,y]/\RepU A ι H x a/\RepU A ι H y b:=by
 cases r with
 |cons r q=>cases q with|cons r2 q=>cases q; exact⟨_,_,rfl,r,r2⟩
theorem rep3(r:RepUs A ι H vs [a,b,c]):∃x y z,vs=[x,y,z]/\RepU A ι H x a/\RepU A ι H y b/\RepU A ι H z c:=by
 cases r with
 |cons r q =>
  obtain⟨y,z,rfl,r2,r3⟩:=rep2 q;exact⟨_,_,_,rfl,r,r2,r3⟩
def uSub(uo ui:UE):UG:=λu ρ M Q=>uo ρ M λo M1=>ui ρ M1 λi M2=>∃k us z j,o=.m k/\M2[k]?=some (.lst us)/\i=.p (.int z)/\ixN us.length z=some j/\Q ρ (M2.set k (.lst (us.set j u)))
def xU(bs:List Bool)(n i:Nat):Bool:=match bs[i]? with
 |some b => !b
 |none=>decide (i<bs.length+n)
theorem jF(hl:σ.length=bs.length)(h:xU bs n i=true):(zN bs n σ)[i]?=some none:=by
 unfold xU at h;unfold zN;have hz:((bs.zip σ).map (λp=>if p.1 then p.2 else none)).length=bs.length:=by simp[hl]
 cases e:bs[i]? with
 |some b =>
  rw[e] at h;have hi:=(Uj.mp e).1;rw[Uo (by rw[hz]; exact hi),UU];have hb:b=false:=by simpa using h
  have e2:(bs.zip σ)[i]?=some (b,σ[i]'(by lia)):=by
   rw[Uk (by simp[hl]; exact hi)];simp;exact(Uj.mp e).2
  rw[e2,hb];rfl
 |none =>
  rw[e] at h;have hi:=List.getElem?_eq_none_iff.mp e;simp at h;rw[Uz (by rw[hz]; exact hi),hz,DO];rw[if_pos (by lia)]
def LGx(bs:List Bool)(n:Nat)(g:TG)(ug:UG):Prop:=∀(A:Addr->Prop)(ι:List Addr)(σ:St)(H:Hp)(ρ:UEnv)(M:MM)(v:V)(u:U)(Qu:UEnv->MM->Prop)(Q:St->Hp->Prop),σ.length=bs.length->Wd A ι H M->EnvR A ι H (zN bs n σ) ρ->RepU A ι H v u->ug u ρ M Qu ->
 (∀ρ' σ',EnvR A ι H σ' ρ'->ExtS (zN bs n σ) σ'->σ'.length=(zN bs n σ).length->Qu ρ' M->Q σ' H)->g v (zN bs n σ) H Q
theorem lt_yes:LT tYes (λ_ M Q=>Q true M):=λA ι σ H ρ M Qu Q w e q k=>k true M ι H (.refl _ _) w q
abbrev uYes:UT:=λ_ M Q=>Q true M
def UComp(it:UIt)(ug:UG)(ut:UT)(ue:UE)(ρ0:UEnv)(M1:MM)(Q:UK):Prop:=it.n<=sizeLine/\∃Iv:Nat->List T->MM->Prop,Iv 0 [] M1 /\
 (∀i acc M2,i<it.n->acc.length<=i->Iv i acc M2->it.ok M2/\∀u,it.item i u->ug u ρ0 M2 λρ4 M4=>ut ρ4 M4 λb M5=>if b=true then ue ρ4 M5 λz M6=>∃t,z=.p t/\Iv (i+1) (acc++[t]) M6 else Iv (i+1) acc M5) /\
 (∀acc M2,Iv it.n acc M2->it.ok M2/\Q (.p (.lst acc)) M2)
def uComp(ui:UI)(bs:List Bool)(n:Nat)(ug:UG)(ut:UT)(ue:UE):UE:=λρ M Q=>ui ρ M λit M1=>ρ.length=bs.length/\UComp it ug ut ue (Jf bs n ρ) M1 Q
theorem Wd.addA(w:Wd A ι H M)(h:H p=none):Wd (λx=>A x\/x=p) ι (upd H p o) M:=by
 have w2:=w.fresh (o:=o) h;have hm:∀x o',¬Av A ι x->(upd H p o) x=some o'->H x≠none->(upd H p o) x=some o'/\¬Av (λx=>A x\/x=p) ι x:=λx o' hx e hs=>⟨e,λz=>by
  rcases z with(z|z)|z
  ·exact hx (.inl z)
  ·subst z; exact hs h
  ·exact hx (.inr z)⟩
 have hl:Lea A ι H (λx=>A x\/x=p) ι (upd H p o):=⟨⟨[],by simp⟩,λx o' hx e=>hm x o' hx (zq h e) (by rw[e]; simp),λx fs hx e=>⟨hx,zq h e⟩⟩;refine⟨w.nd,w.len,λx hx=>?_,λx hx z=>?_,λk a ob e1 e2=>?_⟩
 ·rcases hx with hx|hx
  ·exact w2.dom x hx
  ·rw[hx,upd_same]; simp
 ·rcases z with z|z
  ·exact w.na x hx z
  ·exact w.nin h (by rw[<-z]; exact hx)
 ·have r:=w.obj k a ob e1 e2
  have ea:upd H p o a=H a:=upd_ne λz=>by
   obtain⟨q,hq⟩:=r.some;rw[z,h] at hq; cases hq
  cases ob with
  |lst=>obtain⟨vs,e,r⟩:=r; exact⟨vs,by rw[ea]; exact e,Paired.mapP r λ_ _ q=>q.lea hl⟩
  |tup=>obtain⟨vs,e,r⟩:=r; exact⟨vs,by rw[ea]; exact e,Paired.mapP r λ_ _ q=>q.lea hl⟩
  |ins =>
   obtain⟨dx,gs,e,ed,nd,r⟩:=r;exact⟨dx,gs,by rw[ea]; exact e,zq h ed,nd,Paired.mapP r λ_ _ q=>⟨q.1,q.2.lea hl⟩⟩
  |dK=>obtain⟨gs,e,r⟩:=r; exact⟨gs,by rw[ea]; exact e,Paired.mapP r λ_ _ q=>⟨q.1,q.2.lea hl⟩⟩
  |dF=>obtain⟨e,r⟩:=r; exact⟨by rw[ea]; exact e,Paired.mapP r λ_ _ q=>⟨q.1,q.2.lea hl⟩⟩
theorem Wd.lessA(w:Wd A' ι H M)(h:∀x,A x->A' x):Wd A ι H M:=by
 have hl:Lea A' ι H A ι H:=⟨⟨[],by simp⟩,λx o hx e=>⟨e,λz=>hx (z.elim (λz=>.inl (h x z)) .inr)⟩,λx fs hx e=>⟨hx,e⟩⟩;refine⟨w.nd,w.len,λx hx=>w.dom x (h x hx),λx hx z=>w.na x hx (h x z),λk a ob e1 e2=>?_⟩;have r:=w.obj k a ob e1 e2;cases ob with
 |lst=>obtain⟨vs,e,r⟩:=r; exact⟨vs,e,Paired.mapP r λ_ _ q=>q.lea hl⟩
 |tup=>obtain⟨vs,e,r⟩:=r; exact⟨vs,e,Paired.mapP r λ_ _ q=>q.lea hl⟩
 |ins=>obtain⟨dx,gs,e,ed,nd,r⟩:=r; exact⟨dx,gs,e,ed,nd,Paired.mapP r λ_ _ q=>⟨q.1,q.2.lea hl⟩⟩
 |dK=>obtain⟨gs,e,r⟩:=r; exact⟨gs,e,Paired.mapP r λ_ _ q=>⟨q.1,q.2.lea hl⟩⟩
 |dF=>obtain⟨e,r⟩:=r; exact⟨e,Paired.mapP r λ_ _ q=>⟨q.1,q.2.lea hl⟩⟩
theorem Wd.updA(w:Wd A ι H M)(ha:A p)(hp:H p=some (.lst ys)):Lea A ι H A ι (upd H p o)/\Wd A ι (upd H p o) M:=by
 have hl:Lea A ι H A ι (upd H p o):=⟨⟨[],by simp⟩,λx o' hx e=>⟨by rw[upd_ne λz=>hx (.inl (by rw[z]; exact ha))]; exact e,hx⟩,λx fs hx e=>⟨hx,by rw[upd_ne λz=>by rw[z,hp] at e; cases e]; exact e⟩⟩;refine⟨hl,w.nd,w.len,λx hx=>?_,w.na,λk a ob e1 e2=>?_⟩
 ·by_cases z:x=p
  ·rw[z,upd_same]; simp
  ·rw[upd_ne z]; exact w.dom x hx
 ·have r:=w.obj k a ob e1 e2
  have ea:upd H p o a=H a:=upd_ne λz=>w.na a (Um e1) (by rw[z]; exact ha);cases ob with
  |lst=>obtain⟨vs,e,r⟩:=r; exact⟨vs,by rw[ea]; exact e,Paired.mapP r λ_ _ q=>q.lea hl⟩
  |tup=>obtain⟨vs,e,r⟩:=r; exact⟨vs,by rw[ea]; exact e,Paired.mapP r λ_ _ q=>q.lea hl⟩
  |ins =>
   obtain⟨dx,gs,e,ed,nd,r⟩:=r;exact⟨dx,gs,by rw[ea]; exact e,by rw[upd_ne λz=>by rw[z,hp] at ed; cases ed]; exact ed,nd,Paired.mapP r λ_ _ q=>⟨q.1,q.2.lea hl⟩⟩
  |dK=>obtain⟨gs,e,r⟩:=r; exact⟨gs,by rw[ea]; exact e,Paired.mapP r λ_ _ q=>⟨q.1,q.2.lea hl⟩⟩
  |dF=>obtain⟨e,r⟩:=r; exact⟨by rw[ea]; exact e,Paired.mapP r λ_ _ q=>⟨q.1,q.2.lea hl⟩⟩
theorem Le.updF(l:Le ι H ι' H')(h:H p=none):Le ι H ι' (upd H' p o):=⟨l.ext,λx o' e n=>by rw[upd_ne (vj e h)]; exact l.fr x o' e n,λx e=>by
 by_cases z:x=p
 ·rw[z,upd_same]; simp
 ·rw[upd_ne z]; exact l.al x e⟩
end
section
variable {ta:TE} {ua ub uc:UE} {tt:TT} {ut:UT} {tl:TA} {ul:UA} {n:Nat} {A:Addr->Prop} {H H' H1 H2:Hp} {ι ι' ι1 ι2:List Addr} {M M':MM} {v:V} {u:U} {t:T} {σ:St} {ρ:UEnv}
structure UEnds where
 nx:UEnv->MM->Prop
 rt:UK
 bk:UEnv->MM->Prop:=λ_ _=>False
 ct:UEnv->MM->Prop:=λ_ _=>False
abbrev US:=UEnds->UEnv->MM->Prop
structure EndsR(A:Addr->Prop)(ι0:List Addr)(H0:Hp)(E:UEnds)(D:Ends):Prop where
 nx:∀ι σ H ρ M,Le ι0 H0 ι H->Wd A ι H M->EnvR A ι H σ ρ->E.nx ρ M->D.nx σ H
 rt:∀ι v H u M,Le ι0 H0 ι H->Wd A ι H M->RepU A ι H v u->E.rt u M->D.rt v H
 bk:∀ι σ H ρ M,Le ι0 H0 ι H->Wd A ι H M->EnvR A ι H σ ρ->E.bk ρ M->D.bk σ H
 ct:∀ι σ H ρ M,Le ι0 H0 ι H->Wd A ι H M->EnvR A ι H σ ρ->E.ct ρ M->D.ct σ H
theorem EndsR.le(l:Le ι H ι' H')(r:EndsR A ι H E D):EndsR A ι' H' E D :=
 ⟨λ_ _ _ _ _ h=>r.nx _ _ _ _ _ (l.trans h),λ_ _ _ _ _ h=>r.rt _ _ _ _ _ (l.trans h),λ_ _ _ _ _ h=>r.bk _ _ _ _ _ (l.trans h),λ_ _ _ _ _ h=>r.ct _ _ _ _ _ (l.trans h)⟩
def LS(ts:TS)(us:US):Prop:=∀(A:Addr->Prop)(ι:List Addr)(σ:St)(H:Hp)(ρ:UEnv)(M:MM)(D:Ends)(E:UEnds),Wd A ι H M->EnvR A ι H σ ρ->EndsR A ι H E D->us E ρ M->ts D σ H
def uNext:US:=λE ρ M=>E.nx ρ M
def uSeq(a b:US):US:=λE ρ M=>a { E with nx:=b E } ρ M
def uDrop(ua:UE):US:=λE ρ M=>ua ρ M λ_ M1=>E.nx ρ M1
def uRet(ua:UE):US:=λE ρ M=>ua ρ M E.rt
def uRetN:US:=λE ρ M=>E.rt (.p .non) M
def uIfS(c:UT)(a b:US):US:=λE ρ M=>c ρ M λk M1=>if k=true then a E ρ M1 else b E ρ M1
def uAsg(ua:UE)(g:UG):US:=λE ρ M=>ua ρ M λx M1=>g x ρ M1 E.nx
def uAug(i:Nat)(f:Int->Int->Int)(ua:UE):US:=λE ρ M=>∃a,ρ[i]?=some (some (.p (.int a)))/\ua ρ M λy M1=>∃b,y=.p (.int b)/\E.nx (ρ.set i (some (.p (.int (f a b))))) M1
theorem ls_next:LS Vp uNext:=λA ι σ H ρ M D E w e r q=>r.nx ι σ H ρ M (.refl _ _) w e q
def UFor(it:UIt)(ug:UG)(ub:US)(E:UEnds)(ρ:UEnv)(M1:MM):Prop:=∃Iv:Nat->UEnv->MM->Prop,Iv 0 ρ M1 /\
 (∀i ρ2 M2,i<it.n->Iv i ρ2 M2->it.ok M2/\∀u,it.item i u->ug u ρ2 M2 λρ3 M3=>ub { E with nx:=Iv (i+1),ct:=Iv (i+1),bk:=E.nx } ρ3 M3) /\
 (∀ρ2 M2,Iv it.n ρ2 M2->it.ok M2/\E.nx ρ2 M2)
def uFor(ui:UI)(ug:UG)(ub:US):US:=λE ρ M=>ui ρ M λit M1=>UFor it ug ub E ρ M1
def uWhile(uc:UT)(ub:US):US:=λE ρ M=>∃W:Nat->UEnv->MM->Prop,(∃m,W m ρ M)/\∀m ρ M,W m ρ M ->
 uc ρ M λb M1=>if b=true then ∃N:UEnv->MM->Prop,(∀ρ' M',N ρ' M'->∃m',m'<m/\W m' ρ' M')/\ub { E with nx:=N,ct:=N,bk:=E.nx } ρ M1 else E.nx ρ M1
def MeL(r:V->List V->Hp->VK->Prop)(s:List U->List U->(U->List U->Prop)->Prop):Prop:=∀(A:Addr->Prop)(ι:List Addr)(H:Hp)(M:MM)(k:Nat)(a:Addr)(xs ys:List V)(us ws:List U)(Qs:U->List U->Prop)(Q:VK),Wd A ι H M->ι[k]?=some a->H a=some (.lst xs)->M[k]?=some (.lst us)->RepUs A ι H xs us->RepUs A ι H ys ws->s us ws Qs ->
 (∀z us' v xs',RepUs A ι H xs' us'->RepU A ι H v z->Qs z us'->Q v (upd H a (.lst xs')))->r (.ref a) ys H Q
def uMe(s:List U->List U->(U->List U->Prop)->Prop)(uo:UE)(ul:UA):UE:=λρ M Q=>uo ρ M λo M1=>∃k,o=.m k/\(∃zs,M1[k]?=some (.lst zs))/\ul ρ M1 λws M2=>∃us,M2[k]?=some (.lst us)/\s us ws λz us'=>Q z (M2.set k (.lst us'))
def Y1:List U->List U->(U->List U->Prop)->Prop:=λus ws Q=>∃y,ws=[y]/\us.length<sizeLine/\Q (.p .non) (us++[y])
theorem zi:MeL Y6 Y1:=λA ι H M k a xs ys us ws Qs Q w ek h1 h2 rx ry ⟨y,ey,hz,q⟩ kk=>by
 subst ey;cases ry with
 |cons r q' =>
 cases q';exact⟨a,xs,_,rfl,rfl,h1,by rw[rx.len]; exact hz,kk _ _ _ _ (rx.app (.cons r .nil)) (.p .non) q⟩
def spU(G:List U->MM->UK->Prop):Sp:=λvs H Q _=>∃A ι M us Qu,Wd A ι H M/\RepUs A ι H vs us/\G us M Qu/\∀u M' ι' v H',Le ι H ι' H'->Wd A ι' H' M'->RepU A ι' H' v u->Qu u M'->Q v H'
def uCall(G:List U->MM->UK->Prop)(ul:UA):UE:=λρ M Q=>ul ρ M λus M1=>G us M1 Q
def spP(G:List T->(T->Prop)->Prop):Sp:=λvs H Q _=>∃A ts Qt,(∀x,A x->H x≠none)/\RepTs A H vs ts/\G ts Qt/\∀t v H',Same H H'->RepT A H' v t->Qt t->Q v H'
def YG(G:List T->(T->Prop)->Prop)(ul:UA):UE:=λρ M Q=>ul ρ M λus M1=>∃ts,zk us=some ts/\G ts λt=>Q (.p t) M1
def uCallS(G:List T->(T->Prop)->Prop)(ul:UA):UE:=λρ M Q=>ul ρ M λus M1=>∃ts,sns M1 us=some ts/\G ts λt=>(∃x,vt t=some x)/\Q (.p t) M1
theorem Same.le(s:Same H H'):Le ι H ι H':=⟨⟨[],by simp,by simp⟩,λx o e _=>s x o e,λx e=>by
 cases q:H x with
 |none=>exact absurd q e
 |some o=>rw[s x o q]; simp⟩
theorem Wd.same(w:Wd A ι H M)(s:Same H H'):Wd A ι H' M :=
 ⟨w.nd,w.len,λx hx=>(Same.le (ι:=ι) s).al x (w.dom x hx),w.na,λk a ob e1 e2=>(w.obj k a ob e1 e2).le' s.le (by
  obtain⟨o,ho⟩:=(w.obj k a ob e1 e2).some;rw[ho,s _ _ ho]) λx ex=>by rw[ex,s _ _ ex]⟩
theorem Wd.domAv(w:Wd A ι H M):∀x,Av A ι x->H x≠none:=λx h=>by
 rcases h with h|h
 ·exact w.dom x h
 ·obtain⟨o,ho⟩:=w.mem_some h
  rw[ho]; simp
def frzs(f:U->Option T):List U->Option (List T)
 | []=>some []
 |u::r=>match f u,frzs f r with
  |some t,some ts=>some (t::ts)
  |_,_=>none
def frzN:Nat->MM->U->Option T
 |_,_, .p t=>some t
 |0,_, .m _=>none
 |_,_, .x _ _ _=>none
 |n+1,M, .m k=>match M[k]? with
  |some (.lst us)=>(frzs (frzN n M) us).map T.lst
  |some (.tup us)=>(frzs (frzN n M) us).map T.tup
  |_=>none
theorem Ko(r:RepUs A ι H vs us)(h:∀v u t,RepU A ι H v u->f u=some t->RepT A H v t)(e:frzs f us=some ts):RepTs A H vs ts:=by
 induction r generalizing ts with
 |nil=>simp[frzs] at e; subst e; exact .nil
 |cons r q ih =>
  simp only[frzs] at e;split at e
  ·rename_i h1 h2
   simp at e; subst e;exact .cons (h _ _ _ r h1) (ih h2)
  ·cases e
theorem Jv(w:Wd A ι H M):∀{n:Nat}{v:V}{u:U}{t:T},RepU A ι H v u->frzN n M u=some t->RepT A H v t
 |n,v, .p t',t, .p r,e=>by
  cases n<;>simp[frzN] at e<;>subst e<;>exact r.mono λx o hx ex=>⟨ex,λz=>hx (.inl z)⟩
 |0,v, .m k,t,r,e=>by simp[frzN] at e
 |n,v, .x a d q,t,r,e=>by cases n<;>simp[frzN] at e
 |n+1,v, .m k,t,r,e=>by
  cases r with
  |m q =>
  obtain⟨o,h1,h2⟩:=w.al q;have hna:=w.na _ (Um q);simp only[frzN,h1] at e;cases o with
  |lst us =>
   simp at e;obtain⟨ts,e1,rfl⟩:=e;obtain⟨vs,h3,h4⟩:=h2;exact .lstP hna h3 (Ko h4 (λv u t r e=>Jv w r e) e1)
  |tup us =>
   simp at e;obtain⟨ts,e1,rfl⟩:=e;obtain⟨vs,h3,h4⟩:=h2;exact .tupP hna h3 (Ko h4 (λv u t r e=>Jv w r e) e1)
  |ins=>simp at e
  |dK=>simp at e
  |dF=>simp at e
theorem Zd(h:∀t,f (.p t)=some t):∀ts:List T,frzs f (ts.map U.p)=some ts
 | []=>rfl
 |t::r=>by simp[frzs,h t,Zd h r]
@[simp] theorem GA:frzN n M (.p t)=some t:=by cases n<;>rfl
def xW(N:List Str)(us:List U):UEnv:=us.map some++List.replicate (N.length-us.length) none
theorem jA(r:RepUs A ι H vs us):EnvR A ι H (start N vs) (xW N us):=by
 unfold start xW;refine Paired.app ?_ ?_
 ·exact Paired.mapR (f:=some) (F:=λs u=>∃v,s=some v/\RepU A ι H v u) (λa b q u e=>by cases e; exact q) (by
   induction r with
   |nil=>exact .nil
   |cons r q ih=>exact .cons ⟨_,rfl,r⟩ ih)
 ·rw[r.len]
  generalize N.length-us.length=m
  induction m with
  |zero=>exact .nil
  |succ m ih=>exact .cons (λu e=>by cases e) ih
end
section
variable {P:Program} {w:World} {Ξ:PySem.W.Frag} {mg:Str->Option Value} {base:Heap}
theorem Fun.okU{st:Stmt}(F:Fun Ξ x qual st f fd)(S:FnScope N ps (ql st))(len:∀us M Qu,G us M Qu->us.length=ps.length)(hbody:∀(cdv:Value)(A:Around)(outer:List Env)(s:Shared)(H:Hp)(E:XK),Room k (A.deeper (envOfC qual (ql st) s.heap.objs.size f cdv)) ->
   ∃t,PSs (cxOf CX0 P w Ξ mg base N qual (ql st) f cdv A outer s H E).nox (vS st) t/\∃u,LS t u/\∀us M Qu,G us M Qu->u { nx:=λ_ M'=>Qu (.p .non) M',rt:=Qu } (xW N us) M):FnOk P w Ξ mg base CX0 (k+1) f fd ps (spU G):=by
 refine F.ok S (λvs H Q E h=>?_) (λcdv A outer s H vs Q E hr h=>?_)
 ·obtain⟨A,ι,M,us,Qu,w1,r,g,_⟩:=h
  rw[r.len]; exact len us M Qu g
 ·obtain⟨B,ι,M,us,Qu,w1,r,g,kk⟩:=h
  obtain⟨t,ht,u,hu,hb⟩:=hbody cdv A outer s H E hr;refine⟨t,ht,hu B ι _ H _ M _ { nx:=λ_ M'=>Qu (.p .non) M',rt:=Qu } w1 (jA r) ⟨λι1 σ1 H1 ρ1 M1 l1 w1 e1 q1=>kk _ M1 ι1 _ H1 l1 w1 (.p .non) q1,λι1 v H1 z M1 l1 w1 r1 q1=>kk z M1 ι1 v H1 l1 w1 r1 q1,λ_ _ _ _ _ _ _ _ q=>q.elim,λ_ _ _ _ _ _ _ _ q=>q.elim⟩ (hb us M Qu g)⟩
theorem Fun.okP{st:Stmt}(F:Fun Ξ x qual st f fd)(S:FnScope N ps (ql st))(len:∀ts Qt,G ts Qt->ts.length=ps.length)(hbody:∀(cdv:Value)(A:Around)(outer:List Env)(s:Shared)(H:Hp)(E:XK),Room k (A.deeper (envOfC qual (ql st) s.heap.objs.size f cdv)) ->
   ∃t,PSs (cxOf CX0 P w Ξ mg base N qual (ql st) f cdv A outer s H E).nox (vS st) t/\∃u,LS t u/\∀ts Qt,G ts Qt->u { nx:=λ_ _=>Qt .non,rt:=λz M'=>∃t,frzN 4 M' z=some t/\Qt t } (xW N (ts.map U.p)) []):FnOk P w Ξ mg base CX0 (k+1) f fd ps (spP G):=by
 refine F.ok S (λvs H Q E h=>?_) (λcdv A outer s H vs Q E hr h=>?_)
 ·obtain⟨A,ts,Qt,hd,r,g,_⟩:=h
  rw[r.len]; exact len ts Qt g
 ·obtain⟨B,ts,Qt,hd,r,g,kk⟩:=h
  obtain⟨t,ht,u,hu,hb⟩:=hbody cdv A outer s H E hr;have w0:Wd B [] H []:=⟨List.nodup_nil,rfl,hd,λx hx=>by simp at hx,λk a o e _=>by simp at e⟩;have same:∀{ι1:List Addr}{H1:Hp},Le [] H ι1 H1->Same H H1:=λl b o e=>l.fr b o e (by simp);have r0:RepUs B [] H vs (ts.map U.p):=RepTs.ups (Paired.mapP r λ_ _ q=>q.mono λx o hx ex=>⟨ex,λz=>z.elim hx (by simp)⟩);refine⟨t,ht,hu B [] _ H _ [] _ { nx:=λ_ _=>Qt .non,rt:=λz M'=>∃t,frzN 4 M' z=some t/\Qt t } w0 (jA r0) ⟨λι1 σ1 H1 ρ1 M1 l1 w1 e1 q1=>kk _ _ H1 (same l1) .non q1,λι1 v H1 z M1 l1 w1 r1 ⟨t1,et,q1⟩=>kk t1 v H1 (same l1) (Jv w1 r1 et) q1,λ_ _ _ _ _ _ _ _ q=>q.elim,λ_ _ _ _ _ _ _ _ q=>q.elim⟩ (hb ts Qt g)⟩
end
section
def OpS(s:T->T->(T->Prop)->Prop)(M:MM)(x y:U)(Q:UK):Prop:=∃a b,sn M x=some a/\sn M y=some b/\s a b λt=>Q (.p t) M
theorem rd_op:uOp s ua ub ρ M Q=ua ρ M λx M1=>ub ρ M1 λy M2=>OpS s M2 x y Q:=rfl
theorem rd_opS:OpS s M (.p a) (.p b) Q=s a b λt=>Q (.p t) M :=
 propext ⟨λ⟨_,_,e1,e2,h⟩=>by cases e1; cases e2; exact h,λh=>⟨a,b,rfl,rfl,h⟩⟩
theorem ops_at(h1:sn M x=some a)(h2:sn M y=some b)(q:s a b λt=>Q (.p t) M):OpS s M x y Q:=⟨a,b,h1,h2,q⟩
theorem rd_sI:sI C g (.int i) (.int j) Q=(C i j/\Q (g i j)) :=
 propext ⟨λ⟨_,_,e1,e2,h⟩=>by cases e1; cases e2; exact h,λh=>⟨i,j,rfl,rfl,h⟩⟩
theorem rd_sI0:sI0 g (.int i) (.int j) Q=Q (g i j) :=
 propext ⟨λ⟨_,_,e1,e2,h⟩=>by cases e1; cases e2; exact h,λh=>⟨i,j,rfl,rfl,h⟩⟩
theorem rd_eqI:sEq false (.int i) (.int j) Q=Q (.bl (decide (i=j))):=by
 refine propext ⟨λ⟨x,y,e1,e2,_,h⟩=>?_,λh=>⟨_,_,rfl,rfl,rfl, ?_⟩⟩
 ·simp[vt] at e1 e2; subst e1 e2; simpa using h
 ·simpa using h
theorem rd_neI:sEq true (.int i) (.int j) Q=Q (.bl (!decide (i=j))):=by
 refine propext ⟨λ⟨x,y,e1,e2,_,h⟩=>?_,λh=>⟨_,_,rfl,rfl,rfl, ?_⟩⟩
 ·simp[vt] at e1 e2; subst e1 e2; simpa using h
 ·simpa using h
theorem rd_eqS:sEq false (.str i) (.str j) Q=Q (.bl (decide (i=j))):=by
 refine propext ⟨λ⟨x,y,e1,e2,_,h⟩=>?_,λh=>⟨_,_,rfl,rfl,rfl, ?_⟩⟩
 ·simp[vt] at e1 e2; subst e1 e2; simpa using h
 ·simpa using h
theorem rd_neS:sEq true (.str i) (.str j) Q=Q (.bl (!decide (i=j))):=by
 refine propext ⟨λ⟨x,y,e1,e2,_,h⟩=>?_,λh=>⟨_,_,rfl,rfl,rfl, ?_⟩⟩
 ·simp[vt] at e1 e2; subst e1 e2; simpa using h
 ·simpa using h
theorem rd_eqB:sEq false (.bl i) (.bl j) Q=Q (.bl (decide (i=j))):=by
 refine propext ⟨λ⟨x,y,e1,e2,_,h⟩=>?_,λh=>⟨_,_,rfl,rfl,rfl, ?_⟩⟩
 ·simp[vt] at e1 e2; subst e1 e2; simpa using h
 ·simpa using h
theorem rd_neB:sEq true (.bl i) (.bl j) Q=Q (.bl (!decide (i=j))):=by
 refine propext ⟨λ⟨x,y,e1,e2,_,h⟩=>?_,λh=>⟨_,_,rfl,rfl,rfl, ?_⟩⟩
 ·simp[vt] at e1 e2; subst e1 e2; simpa using h
 ·simpa using h
def VarS(o:Option (Option U))(M:MM)(Q:UK):Prop:=∃u,o=some (some u)/\Q u M
theorem rd_var:uVar i ρ M Q=VarS ρ[i]? M Q:=rfl
theorem rd_varS:VarS (some (some u)) M Q=Q u M:=propext ⟨λ⟨_,e,h⟩=>by cases e; exact h,λh=>⟨u,rfl,h⟩⟩
def IntS(x:U)(R:Int->Prop):Prop:=∃i,x=.p (.int i)/\R i
theorem rd_intS:IntS (.p (.int i)) R=R i:=propext ⟨λ⟨_,e,h⟩=>by cases e; exact h,λh=>⟨i,rfl,h⟩⟩
def BlS(x:U)(R:Bool->Prop):Prop:=∃b,x=.p (.bl b)/\R b
theorem rd_blS:BlS (.p (.bl b)) R=R b:=propext ⟨λ⟨_,e,h⟩=>by cases e; exact h,λh=>⟨b,rfl,h⟩⟩
theorem rd_neg:uNeg ua ρ M Q=ua ρ M λx M1=>IntS x λi=>Q (.p (.int (-i))) M1:=rfl
theorem rd_bits:uBits ua ρ M Q=ua ρ M λx M1=>IntS x λi=>Q (.p (.int (Builtin.Int.intBits i))) M1:=rfl
theorem rd_b:uB ua ρ M QB=ua ρ M λx M1=>BlS x λb=>QB b M1:=rfl
theorem rd_andV:uAndV ua ub ρ M Q=ua ρ M λx M1=>BlS x λc=>if c=true then ub ρ M1 Q else Q (.p (.bl false)) M1:=rfl
theorem rd_orV:uOrV ua ub ρ M Q=ua ρ M λx M1=>BlS x λc=>if c=true then Q (.p (.bl true)) M1 else ub ρ M1 Q:=rfl
theorem rd_notV:uNotV ua ρ M Q=ua ρ M λx M1=>BlS x λc=>Q (.p (.bl (!c))) M1:=rfl
def ChS(s':T->T->(T->Prop)->Prop)(uc:UE)(ρ:UEnv)(M:MM)(y:U)(Q:UK)(z:T):Prop:=∃k,z=.bl k/\if k=true then uc ρ M λc M3=>OpS s' M3 y c Q else Q (.p (.bl false)) M
theorem rd_chain:JU s s' ua ub uc ρ M Q=ua ρ M λx M1=>ub ρ M1 λy M2=>OpS s M2 x y λz _=>∃t,z=.p t/\ChS s' uc ρ M2 y Q t :=
 propext (by
  have e:∀(x y:U)(M2:MM),(∃a b,sn M2 x=some a/\sn M2 y=some b/\s a b λz=>∃k,z=.bl k/\if k=true then uc ρ M2 λc M3=>∃b' c',sn M3 y=some b'/\sn M3 c=some c'/\s' b' c' λt=>Q (.p t) M3 else Q (.p (.bl false)) M2)=(OpS s M2 x y λz _=>∃t,z=.p t/\ChS s' uc ρ M2 y Q t):=λx y M2=>by
   unfold OpS ChS;have:∀z:T,(∃t,U.p z=.p t/\∃k,t=.bl k/\if k=true then uc ρ M2 λc M3=>OpS s' M3 y c Q else Q (.p (.bl false)) M2)=(∃k,z=.bl k/\if k=true then uc ρ M2 λc M3=>∃b' c',sn M3 y=some b'/\sn M3 c=some c'/\s' b' c' λt=>Q (.p t) M3 else Q (.p (.bl false)) M2):=λz =>
    propext ⟨λ⟨t,e,h⟩=>by cases e; exact h,λh=>⟨z,rfl,h⟩⟩
   simp only[this]
  unfold JU;simp only[e])
theorem rd_chP:(∃t,U.p (.bl b)=.p t/\ChS s' uc ρ M y Q t)=if b=true then uc ρ M λc M3=>OpS s' M3 y c Q else Q (.p (.bl false)) M :=
 propext ⟨λ⟨t,e,k,e2,h⟩=>by cases e; cases e2; exact h,λh=>⟨_,rfl,b,rfl,h⟩⟩
def PurS(us:List U)(R:List T->Prop):Prop:=∃ts,zk us=some ts/\R ts
theorem Y3:PurS (ts.map U.p) R=R ts:=propext ⟨λ⟨_,e,h⟩=>by rw[xH] at e; cases e; exact h,λh=>⟨ts,xH ts,h⟩⟩
theorem rd_pur0:PurS [] R=R []:=Y3 (ts:=[])
theorem rd_purC:PurS (.p a::us) R=PurS us λts=>R (a::ts):=by
 refine propext ⟨λ⟨ts,e,h⟩=>?_,λ⟨ts,e,h⟩=>⟨a::ts,by simp[zk,e],h⟩⟩;simp[zk] at e;obtain⟨r,e1,rfl⟩:=e;exact⟨r,e1,h⟩
theorem rd_tup:uTup ul ρ M Q=ul ρ M λus M1=>PurS us λts=>Q (.p (.tup ts)) M1:=rfl
theorem rd_lst:uLst ul ρ M Q=ul ρ M λus M1=>PurS us λts=>Q (.p (.lst ts)) M1:=rfl
def IxS(it:MM->U->Option (List U))(M:MM)(x y:U)(Q:UK):Prop:=∃us i z,it M x=some us/\y=.p (.int i)/\atI us i=some z/\Q z M
theorem rd_ix:uIx it ua ub ρ M Q=ua ρ M λx M1=>ub ρ M1 λy M2=>IxS it M2 x y Q:=rfl
theorem ix_at(h1:it M x=some us)(h2:atI us i=some z)(q:Q z M):IxS it M x (.p (.int i)) Q:=⟨us,i,z,h1,rfl,h2,q⟩
theorem JI(h:atI ts i=some t):atI (ts.map U.p) i=some (.p t):=by
 unfold atI at h ⊢;rw[Ul];cases e:ixN ts.length i with
 |none=>rw[e] at h; cases h
 |some j=>rw[e] at h; simp at h ⊢; rw[h]
theorem qS(h:atI ts i=some t)(q:Q (.p t) M):IxS vd M (.p (.lst ts)) (.p (.int i)) Q:=ix_at rfl (JI h) q
theorem Kg(h:atI ts i=some t)(q:Q (.p t) M):IxS zm M (.p (.tup ts)) (.p (.int i)) Q:=ix_at rfl (JI h) q
def SnsS(M:MM)(us:List U)(R:List T->Prop):Prop:=∃ts,sns M us=some ts/\R ts
theorem rd_sns0:SnsS M [] R=R []:=propext ⟨λ⟨_,e,h⟩=>by cases e; exact h,λh=>⟨[],rfl,h⟩⟩
theorem rd_snsC:SnsS M (.p a::us) R=SnsS M us λts=>R (a::ts):=by
 refine propext ⟨λ⟨ts,e,h⟩=>?_,λ⟨ts,e,h⟩=>⟨a::ts,by simp[sns,sn,e],h⟩⟩;simp only[sns,sn] at e;cases q:sns M us with
 |none=>rw[q] at e; cases e
 |some r=>rw[q] at e; simp at e; subst e; exact⟨r,q,h⟩
theorem rd_cb:uCb s ul ρ M Q=ul ρ M λus M1=>SnsS M1 us λts=>s ts λt=>Q (.p t) M1:=rfl
theorem rd_abs':sAbs [.int i] Q=Q (.int (if i<0 then -i else i)):=propext ⟨λ⟨_,e,h⟩=>by cases e; exact h,λh=>⟨i,rfl,h⟩⟩
theorem rd_min':sMin [.int i, .int j] Q=Q (.int (if j<i then j else i)):=propext ⟨λ⟨_,_,e,h⟩=>by cases e; exact h,λh=>⟨i,j,rfl,h⟩⟩
theorem rd_max':sMax [.int i, .int j] Q=Q (.int (if j>i then j else i)):=propext ⟨λ⟨_,_,e,h⟩=>by cases e; exact h,λh=>⟨i,j,rfl,h⟩⟩
theorem rd_int':sInt [.int i] Q=Q (.int i):=by
 refine propext ⟨λh=>?_,λh=>Or.inl ⟨i,rfl,h⟩⟩;rcases h with⟨_,e,h⟩|⟨_,e,h⟩
 ·cases e; exact h
 ·cases e
theorem rd_intB:sInt [.bl k] Q=Q (.int (if k then 1 else 0)):=by
 refine propext ⟨λh=>?_,λh=>Or.inr ⟨k,rfl,h⟩⟩;rcases h with⟨_,e,h⟩|⟨_,e,h⟩
 ·cases e
 ·cases e; exact h
def LenS(it:MM->U->Option (List U))(M:MM)(us:List U)(Q:UK):Prop:=∃x ys,us=[x]/\it M x=some ys/\Q (.p (.int ys.length)) M
theorem rd_len:uLen it ul ρ M Q=ul ρ M λus M1=>LenS it M1 us Q:=rfl
theorem rd_lenP:LenS vd M [.p (.lst ts)] Q=Q (.p (.int ts.length)) M :=
 propext ⟨λ⟨_,_,e1,e2,h⟩=>by cases e1; cases e2; rw[Ul] at h; exact h,λh=>⟨_,_,rfl,rfl,by rw[Ul]; exact h⟩⟩
theorem VU(e:M[k]?=some (.lst us))(h:Q (.p (.int us.length)) M):LenS vd M [.m k] Q:=⟨_,_,rfl,by simp[vd,e],h⟩
def SlS(M:MM)(x:U)(l h:Option Int)(Q:UK):Prop:=∃ts,sn M x=some (.lst ts)/\Q (.p (.lst (cutT ts l h))) M
theorem rd_sl:uSl ua u1 u2 ρ M Q=ua ρ M λx M1=>u1 ρ M1 λl M2=>u2 ρ M2 λh M3=>SlS M3 x l h Q:=rfl
theorem rd_slS:SlS M (.p (.lst ts)) l h Q=Q (.p (.lst (cutT ts l h))) M:=propext ⟨λ⟨_,e,h⟩=>by cases e; exact h,λh=>⟨ts,rfl,h⟩⟩
theorem rd_part{QO:Option Int->MM->Prop}:uPart ua ρ M QO=ua ρ M λx M1=>IntS x λi=>QO (some i) M1:=rfl
theorem Y4{QO:Option Int->MM->Prop}:Xz ρ M QO=QO none M:=rfl
theorem rd_cat:sCat (.lst xs) (.lst ys) Q=(xs.length+ys.length<=sizeLine/\Q (.lst (xs++ys))):=propext ⟨λ⟨_,_,e1,e2,h⟩=>by cases e1; cases e2; exact h,λh=>⟨xs,ys,rfl,rfl,h⟩⟩
theorem rd_str:sStr (.str i) (.str j) Q=(i.length+j.length<=sizeLine/\Q (.str (i++j))):=propext ⟨λ⟨_,_,e1,e2,h⟩=>by cases e1; cases e2; exact h,λh=>⟨i,j,rfl,rfl,h⟩⟩
def itU(x:U)(us:List U):UIt:=⟨us.length,λM=>vd M x=some us,λi z=>us[i]?=some z⟩
def IterS(M:MM)(x:U)(R:UIt->MM->Prop):Prop:=∃us,vd M x=some us/\R (itU x us) M
theorem rd_iter:uIter ua ρ M R=ua ρ M λx M1=>IterS M1 x R:=rfl
theorem rd_iterP:IterS M (.p (.lst ts)) R=R (itU (.p (.lst ts)) (ts.map U.p)) M:=propext ⟨λ⟨_,e,h⟩=>by cases e; exact h,λh=>⟨_,rfl,h⟩⟩
theorem iter_at(e:M[k]?=some (.lst us))(h:R (itU (.m k) us) M):IterS M (.m k) R:=⟨us,by simp[vd,e],h⟩
def itR0(n:Nat):UIt:=⟨n,λ_=>True,λi z=>z=.p (.int i)⟩
def RngS(us:List U)(M:MM)(R:UIt->MM->Prop):Prop:=∃j:Int,us=[.p (.int j)] /\ -(2^62)<=j/\j<2^62/\R (itR0 j.toNat) M
theorem rd_rng1:uRng1 ul ρ M R=ul ρ M λus M1=>RngS us M1 R:=rfl
theorem xX(h1 : -(2^62)<=j)(h2:j<2^62)(q:R (itR0 j.toNat) M):RngS [.p (.int j)] M R:=⟨j,rfl,h1,h2,q⟩
theorem v6(Iv:Nat->UEnv->MM->Prop)(h0:Iv 0 ρ M)(hs:∀i t ρ2 M2,ts[i]?=some t->Iv i ρ2 M2->ug (.p t) ρ2 M2 λρ3 M3=>ub { E with nx:=Iv (i+1),ct:=Iv (i+1),bk:=E.nx } ρ3 M3)(hd:∀ρ2 M2,Iv ts.length ρ2 M2->E.nx ρ2 M2):UFor (itU (.p (.lst ts)) (ts.map U.p)) ug ub E ρ M:=by
 refine⟨Iv,h0,λi ρ2 M2 hi h=>⟨rfl,λu hu=>?_⟩,λρ2 M2 h=>⟨rfl,hd ρ2 M2 (by simpa[itU] using h)⟩⟩;have hu:(ts.map U.p)[i]?=some u:=hu;rw[UU] at hu;cases e:ts[i]? with
 |none=>rw[e] at hu; cases hu
 |some t=>rw[e] at hu; cases hu; exact hs i t ρ2 M2 e h
theorem xG(Iv:Nat->UEnv->MM->Prop)(h0:Iv 0 ρ M)(hs:∀(i:Nat) ρ2 M2,i<m->Iv i ρ2 M2->ug (.p (.int i)) ρ2 M2 λρ3 M3=>ub { E with nx:=Iv (i+1),ct:=Iv (i+1),bk:=E.nx } ρ3 M3)(hd:∀ρ2 M2,Iv m ρ2 M2->E.nx ρ2 M2):UFor (itR0 m) ug ub E ρ M :=
 ⟨Iv,h0,λi ρ2 M2 hi h=>⟨trivial,λu hu=>by cases(show u=_ from hu); exact hs i ρ2 M2 hi h⟩,λρ2 M2 h=>⟨trivial,hd ρ2 M2 h⟩⟩
theorem zg(hz:ts.length<=sizeLine)(Iv:Nat->List T->MM->Prop)(h0:Iv 0 [] M)(hs:∀i t acc M2,ts[i]?=some t->acc.length<=i->Iv i acc M2->ug (.p t) ρ0 M2 λρ4 M4=>ut ρ4 M4 λb M5=>if b=true then ua ρ4 M5 λz M6=>∃t,z=.p t/\Iv (i+1) (acc++[t]) M6 else Iv (i+1) acc M5)(hd:∀acc M2,Iv ts.length acc M2->Q (.p (.lst acc)) M2):UComp (itU (.p (.lst ts)) (ts.map U.p)) ug ut ua ρ0 M Q:=by
 refine⟨by simpa[itU] using hz,Iv,h0,λi acc M2 hi ha h=>⟨rfl,λu hu=>?_⟩,λacc M2 h=>⟨rfl,hd acc M2 (by simpa[itU] using h)⟩⟩;have hu:(ts.map U.p)[i]?=some u:=hu;rw[UU] at hu;cases e:ts[i]? with
 |none=>rw[e] at hu; cases hu
 |some t=>rw[e] at hu; cases hu; exact hs i t acc M2 e ha h
theorem jz(hz:m<=sizeLine)(Iv:Nat->List T->MM->Prop)(h0:Iv 0 [] M)(hs:∀(i:Nat) acc M2,i<m->acc.length<=i->Iv i acc M2->ug (.p (.int i)) ρ0 M2 λρ4 M4=>ut ρ4 M4 λb M5=>if b=true then ua ρ4 M5 λz M6=>∃t,z=.p t/\Iv (i+1) (acc++[t]) M6 else Iv (i+1) acc M5)(hd:∀acc M2,Iv m acc M2->Q (.p (.lst acc)) M2):UComp (itR0 m) ug ut ua ρ0 M Q :=
 ⟨hz,Iv,h0,λi acc M2 hi ha h=>⟨trivial,λu hu=>by cases(show u=_ from hu); exact hs i acc M2 hi ha h⟩,λacc M2 h=>⟨trivial,hd acc M2 h⟩⟩
def T2S(M:MM)(u:U)(R:U->U->Prop):Prop:=∃a b,zm M u=some [a,b]/\R a b
def T3S(M:MM)(u:U)(R:U->U->U->Prop):Prop:=∃a b c,zm M u=some [a,b,c]/\R a b c
theorem rd_name2:YA i j u ρ M R=T2S M u λa b=>R ((ρ.set i (some a)).set j (some b)) M:=rfl
theorem rd_name3:Zs i j k u ρ M R=T3S M u λa b c=>R (((ρ.set i (some a)).set j (some b)).set k (some c)) M:=rfl
theorem rd_t2:T2S M (.p (.tup [a,b])) R=R (.p a) (.p b):=propext ⟨λ⟨_,_,e,h⟩=>by cases e; exact h,λh=>⟨_,_,rfl,h⟩⟩
theorem rd_t3:T3S M (.p (.tup [a,b,c])) R=R (.p a) (.p b) (.p c):=propext ⟨λ⟨_,_,_,e,h⟩=>by cases e; exact h,λh=>⟨_,_,_,rfl,h⟩⟩
theorem rd_callP:YG G ul ρ M Q=ul ρ M λus M1=>PurS us λts=>G ts λt=>Q (.p t) M1:=rfl
theorem rd_callS:uCallS G ul ρ M Q=ul ρ M λus M1=>SnsS M1 us λts=>G ts λt=>(∃x,vt t=some x)/\Q (.p t) M1:=rfl
theorem rd_callU:uCall G ul ρ M Q=ul ρ M λus M1=>G us M1 Q:=rfl
def MeS(s:List U->List U->(U->List U->Prop)->Prop)(ul:UA)(ρ:UEnv)(M:MM)(o:U)(Q:UK):Prop:=∃k,o=.m k/\(∃zs,M[k]?=some (.lst zs))/\ul ρ M λws M2=>∃us,M2[k]?=some (.lst us)/\s us ws λz us'=>Q z (M2.set k (.lst us'))
theorem rd_me:uMe s ua ul ρ M Q=ua ρ M λo M1=>MeS s ul ρ M1 o Q:=rfl
theorem me_at(e:M[k]?=some (.lst zs))(h:ul ρ M λws M2=>∃us,M2[k]?=some (.lst us)/\s us ws λz us'=>Q z (M2.set k (.lst us'))):MeS s ul ρ M (.m k) Q:=⟨k,rfl,⟨zs,e⟩,h⟩
theorem rd_app:Y1 us [y] Q=(us.length<sizeLine/\Q (.p .non) (us++[y])):=propext ⟨λ⟨_,e,h⟩=>by cases e; exact h,λh=>⟨y,rfl,h⟩⟩
theorem ss{α:Type}{a:α}{R:α->Prop}:(∃x,some a=some x/\R x)=R a:=propext ⟨λ⟨_,e,h⟩=>by cases e; exact h,λh=>⟨a,rfl,h⟩⟩
end
inductive EqT:Nat->T->T->Bool->Prop
 |flat {n:Nat} {a b:T} {x y:V}:vt a=some x->vt b=some y->EqT n a b (eqV x y)
 |tup {n:Nat} {xs ys:List T} {e:Nat->Bool}:(∀(j:Nat) x y,xs[j]?=some x->ys[j]?=some y->EqT n x y (e j))->EqT (n+1) (.tup xs) (.tup ys) ((List.range (min xs.length ys.length)).all e&&xs.length==ys.length)
 |lst {n:Nat} {xs ys:List T} {e:Nat->Bool}:xs.length=ys.length->(∀(j:Nat) x y,xs[j]?=some x->ys[j]?=some y->EqT n x y (e j))->EqT (n+1) (.lst xs) (.lst ys) ((List.range xs.length).all e)
 |lstN {n:Nat} {xs ys:List T}:xs.length≠ys.length->EqT (n+1) (.lst xs) (.lst ys) false
section
theorem RepT.inj(r:RepT A H v a):RepT A H v b->a=b:=by
 induction r generalizing b with
 |non=>intro q; cases q; rfl
 |bl=>intro q; cases q; rfl
 |int=>intro q; cases q; rfl
 |str=>intro q; cases q; rfl
 |tup na e l r ih =>
  intro q;cases q with
  |tup na' e' l' r' =>
   rw[e] at e'; cases e'
   congr 1;refine List.ext_getElem (by lia) λi h1 h2=>?_;have h3:=h1;rw[<-l] at h3;exact ih i _ _ (Uk h3) (Uk h1) (r' i _ _ (Uk h3) (Uk h2))
  |lst na' e' l' r'=>rw[e] at e'; cases e'
 |lst na e l r ih =>
  intro q;cases q with
  |lst na' e' l' r' =>
   rw[e] at e'; cases e'
   congr 1;refine List.ext_getElem (by lia) λi h1 h2=>?_;have h3:=h1;rw[<-l] at h3;exact ih i _ _ (Uk h3) (Uk h1) (r' i _ _ (Uk h3) (Uk h2))
  |tup na' e' l' r'=>rw[e] at e'; cases e'
theorem eqV_self:∀{x:V}{t:T},vt t=some x->eqV x x=true:=λ{x t} h=>by cases QY h<;>simp[eqV]
theorem EqT.self(h:EqT n a b r):a=b->r=true:=by
 induction h with
 |flat h1 h2=>intro e; subst e; rw[h1] at h2; cases h2; exact eqV_self h1
 | @tup n xs ys e hh ih =>
  intro q;cases q;simp only[R5,beq_self_eq_true,Bool.and_true,DA,Dc];intro j hj;exact ih j _ _ (Uk hj) (Uk hj) rfl
 | @lst n xs ys e hl hh ih =>
  intro q;cases q;simp only[DA,Dc];intro j hj;exact ih j _ _ (Uk hj) (Uk hj) rfl
 |lstN hl=>intro q; cases q; exact absurd rfl hl
theorem EqT.de(h:EqT n a b r):∀{x y:V},RepT A H x a->RepT A H y b->DE Ξ H n x y r:=by
 induction h with
 | @flat n a b x0 y0 h1 h2 =>
  intro x y r1 r2;cases(RepV.of r1).sc (y:=.non) h1; cases(RepV.of r2).sc (y:=.non) h2;exact .flat (by cases QY h1<;>rfl) (by cases QY h2<;>rfl)
 | @tup n xs ys e hh ih =>
  intro x y r1 r2;obtain⟨p,vs,rfl,_,h1,q1⟩:=r1.tup_inv;obtain⟨p2,vs2,rfl,_,h2,q2⟩:=r2.tup_inv;by_cases hp:p=p2
  ·subst hp
   have:=(EqT.tup (n:=n) hh).self (r1.inj r2);rw[this]; exact .same
  ·have:=DE.tup (Ξ:=Ξ) (H:=H) (n:=n) (e:=e) hp (SqT.of h1) (SqT.of h2) λj x y hx hy=>by
    obtain⟨a,ha,ra⟩:=Paired.getL q1 hx;obtain⟨b,hb,rb⟩:=Paired.getL q2 hy;exact ih j a b ha hb ra rb
   rw[q1.len,q2.len] at this;exact this
 | @lst n xs ys e hl hh ih =>
  intro x y r1 r2;obtain⟨p,vs,rfl,_,h1,q1⟩:=r1.lst_inv;obtain⟨p2,vs2,rfl,_,h2,q2⟩:=r2.lst_inv;by_cases hp:p=p2
  ·subst hp
   have:=(EqT.lst (n:=n) hl hh).self (r1.inj r2);rw[this]; exact .same
  ·have:=DE.lst (Ξ:=Ξ) (H:=H) (n:=n) (e:=e) hp (SqL.of h1) (SqL.of h2) (by rw[q1.len,q2.len,hl]) λj x y hx hy=>by
    obtain⟨a,ha,ra⟩:=Paired.getL q1 hx;obtain⟨b,hb,rb⟩:=Paired.getL q2 hy;exact ih j a b ha hb ra rb
   rw[q1.len] at this;exact this
 | @lstN n xs ys hl =>
  intro x y r1 r2;obtain⟨p,vs,rfl,_,h1,q1⟩:=r1.lst_inv;obtain⟨p2,vs2,rfl,_,h2,q2⟩:=r2.lst_inv;by_cases hp:p=p2
  ·subst hp
   have:=r1.inj r2;cases this;exact absurd rfl hl
  ·exact .lstN hp (SqL.of h1) (SqL.of h2) (by rw[q1.len,q2.len]; exact hl)
def sEqL(neg:Bool):T->T->(T->Prop)->Prop:=λa b Q=>∃xs ys,a=.lst xs/\b=.lst ys/\((xs.length≠ys.length/\Q (.bl neg))\/(xs.length=ys.length/\∃e:Nat->Bool,(∀(j:Nat) x y,xs[j]?=some x->ys[j]?=some y->EqT 20 x y (e j))/\Q (.bl (if neg then !(List.range xs.length).all e else(List.range xs.length).all e))))
theorem Wo:OpL (rEqL Ξ) (sEqL false):=λA ι H M x y a b Qs Q w r1 r2 ⟨xs,ys,ea,eb,h⟩ k=>by
 subst ea eb;obtain⟨p,vs,rfl,h1,q1⟩:=r1.lst_inv;obtain⟨p2,vs2,rfl,h2,q2⟩:=r2.lst_inv;refine⟨p,p2,vs,vs2,rfl,rfl,SqL.of h1,SqL.of h2, ?_⟩;rcases h with⟨hl,q⟩|⟨hl,e,he,q⟩
 ·exact .inl ⟨by rw[q1.len,q2.len]; exact hl,k _ ι _ H (.refl _ _) w (.bl _) q⟩
 ·refine .inr ⟨by rw[q1.len,q2.len]; exact hl,e,λj x y hx hy=>?_,by rw[q1.len]; exact k _ ι _ H (.refl _ _) w (.bl _) q⟩
  obtain⟨a,ha,ra⟩:=Paired.getL q1 hx;obtain⟨b,hb,rb⟩:=Paired.getL q2 hy;exact(he j a b ha hb).de ra rb
theorem Wn:OpL (rNeL Ξ) (sEqL true):=λA ι H M x y a b Qs Q w r1 r2 ⟨xs,ys,ea,eb,h⟩ k=>by
 subst ea eb;obtain⟨p,vs,rfl,h1,q1⟩:=r1.lst_inv;obtain⟨p2,vs2,rfl,h2,q2⟩:=r2.lst_inv;refine⟨p,p2,vs,vs2,rfl,rfl,SqL.of h1,SqL.of h2, ?_⟩;rcases h with⟨hl,q⟩|⟨hl,e,he,q⟩
 ·exact .inl ⟨by rw[q1.len,q2.len]; exact hl,k _ ι _ H (.refl _ _) w (.bl _) q⟩
 ·refine .inr ⟨by rw[q1.len,q2.len]; exact hl,e,λj x y hx hy=>?_,by rw[q1.len]; exact k _ ι _ H (.refl _ _) w (.bl _) q⟩
  obtain⟨a,ha,ra⟩:=Paired.getL q1 hx;obtain⟨b,hb,rb⟩:=Paired.getL q2 hy;exact(he j a b ha hb).de ra rb
abbrev qZ(ns:List Int):T:=.lst (ns.map T.int)
theorem eqNil(q:Q (.bl (if neg then !xs.isEmpty else xs.isEmpty))):sEqL neg (.lst xs) (.lst []) Q:=by
 refine⟨_,_,rfl,rfl, ?_⟩;cases xs with
 |nil=>exact .inr ⟨rfl,λ_=>true,λj x y hx=>by simp at hx,by simpa using q⟩
 |cons x xs=>exact .inl ⟨by simp,by cases neg<;>simpa using q⟩
def sRep:T->T->(T->Prop)->Prop:=λa b Q=>∃xs k,a=.lst xs/\b=.int k /\ -(2^63)<=k/\k<2^63/\xs.length*k.toNat<=sizeLine/\Q (.lst (List.replicate k.toNat xs).flatten)
theorem X4:OpL rRep sRep:=λA ι H M x y a b Qs Q w r1 r2 ⟨xs,kk,ea,eb,k0,k1,hz,q⟩ k=>by
 subst ea eb;obtain⟨p,vs,rfl,h1,q1⟩:=r1.lst_inv;cases r2.int_inv;exact⟨p,kk,vs,rfl,rfl,h1,k0,k1,by rw[q1.len]; exact hz,λl hl=>k _ ι _ _ (.fresh hl) (w.fresh hl) (zo w hl (j2 q1 _)) q⟩
def frzB(b:Nat):Nat->MM->U->Option T
 |_,_, .p t=>some t
 |0,_, .m _=>none
 |_,_, .x _ _ _=>none
 |n+1,M, .m k=>if b<=k then match M[k]? with
  |some (.lst us)=>(frzs (frzB b n M) us).map T.lst
  |some (.tup us)=>(frzs (frzB b n M) us).map T.tup
  |_=>none else none
@[simp] theorem QC:frzB b n M (.p t)=some t:=by cases n<;>rfl
theorem Xa(r:RepUs A ι H vs us)(h:∀v u t,RepU A ι H v u->f u=some t->RepT A' H v t)(e:frzs f us=some ts):RepTs A' H vs ts:=by
 induction r generalizing ts with
 |nil=>simp[frzs] at e; subst e; exact .nil
 |cons r q ih =>
  simp only[frzs] at e;split at e
  ·rename_i h1 h2
   simp at e; subst e;exact .cons (h _ _ _ r h1) (ih h2)
  ·cases e
theorem Ze(w:Wd A (ι++m) H M):∀{n:Nat}{v:V}{u:U}{t:T},RepU A (ι++m) H v u->frzB ι.length n M u=some t->RepT (Av A ι) H v t
 |n,v, .p t',t, .p r,e=>by
  rw[QC] at e; cases e;exact r.mono λx o hx ex=>⟨ex,λz=>hx (z.elim .inl λz=>.inr (UH _ z))⟩
 |0,v, .m k,t,r,e=>by simp[frzB] at e
 |n,v, .x a d q,t,r,e=>by cases n<;>simp[frzB] at e
 |n+1,v, .m k,t,r,e=>by
  cases r with
  |m q =>
  rename_i a;obtain⟨o,h1,h2⟩:=w.al q;simp only[frzB,h1] at e;split at e
  ·rename_i hk
   have hna:¬Av A ι a:=λz=>by
    rcases z with z|z
    ·exact w.na _ (Um q) z
    ·rw[Uz hk] at q
     have hd:=(D0.mp w.nd).2.2;exact hd a z a (Um q) rfl
   cases o with
   |lst us =>
    simp at e;obtain⟨ts,e1,rfl⟩:=e;obtain⟨vs,h3,h4⟩:=h2;exact .lstP hna h3 (Xa h4 (λv u t r e=>Ze w r e) e1)
   |tup us =>
    simp at e;obtain⟨ts,e1,rfl⟩:=e;obtain⟨vs,h3,h4⟩:=h2;exact .tupP hna h3 (Xa h4 (λv u t r e=>Ze w r e) e1)
   |ins=>simp at e
   |dK=>simp at e
   |dF=>simp at e
  ·cases e
def PurO(o:MO):Prop:=∃ts:List T,o=.lst (ts.map U.p)
def zZ(M M':MM):Prop:=∀(i:Nat) o,i<M.length->M'[i]?=some o->M[i]?=some o\/PurO o
theorem RepU.less{m:List Addr}(r:RepU A (ι++m) H v u)(r0:RepU A ι H0 v0 u):RepU A ι H v u:=by
 cases r with
 |p r=>exact .p (r.mono λx o hx ex=>⟨ex,λz=>hx (z.elim .inl λz=>.inr (UH _ z))⟩)
 |m e =>
  cases r0 with
  |m e0 =>
   rw[Uo (Uj.mp e0).1] at e;exact .m e
 | @x a d q h =>
  refine .x ?_;cases q with
  |none=>exact h
  |some n =>
   obtain⟨x0,e,ni,hx⟩:=h;exact⟨x0,e,λz=>ni (UH _ z),hx⟩
theorem zh{α β:Type}{F G L:α->β->Prop}(h:∀a a0 b,F a b->G a0 b->L a b):∀{l l0:List α}{r:List β},Paired F l r->Paired G l0 r->Paired L l r
 |_,_,_, .nil, .nil=>.nil
 |_,_,_, .cons p q, .cons p0 q0=>.cons (h _ _ _ p p0) (zh h q q0)
theorem ObjR.less(r:ObjR A (ι++m) H a o)(r0:ObjR A ι H0 a0 o):ObjR A ι H a o:=by
 cases o with
 |lst=>obtain⟨vs,e,r⟩:=r; obtain⟨_,_,r0⟩:=r0; exact⟨vs,e,zh (λ_ _ _ p q=>p.less q) r r0⟩
 |tup=>obtain⟨vs,e,r⟩:=r; obtain⟨_,_,r0⟩:=r0; exact⟨vs,e,zh (λ_ _ _ p q=>p.less q) r r0⟩
 |ins=>obtain⟨dx,gs,e,ed,nd,r⟩:=r; obtain⟨_,_,_,_,_,r0⟩:=r0; exact⟨dx,gs,e,ed,λz=>nd (UH _ z),zh (λ_ _ _ p q=>⟨p.1,p.2.less q.2⟩) r r0⟩
 |dK=>obtain⟨gs,e,r⟩:=r; obtain⟨_,_,r0⟩:=r0; exact⟨gs,e,zh (λ_ _ _ p q=>⟨p.1,p.2.less q.2⟩) r r0⟩
 |dF=>obtain⟨e,r⟩:=r; obtain⟨_,r0⟩:=r0; exact⟨e,zh (λ_ _ _ p q=>⟨p.1,p.2.less q.2⟩) r r0⟩
theorem Wd.trim(w:Wd A (ι++m) H M')(w0:Wd A ι H0 M)(h:zZ M M'):Wd A ι H (M'.take M.length):=by
 have hl:M.length<=M'.length:=by
  have:=w.len; rw[Uu,w0.len] at this; lia
 refine⟨(D0.mp w.nd).1,by rw[U3,Dx hl]; exact w0.len,w.dom,λx hx=>w.na x (UH _ hx),λk a o e1 e2=>?_⟩;have hk:=(Uj.mp e1).1;rw[Rj (by rw[<-w0.len]; exact hk)] at e2;have r:=w.obj k a o (by rw[Uo hk]; exact e1) e2;rcases h k o (by rw[<-w0.len]; exact hk) e2 with z|⟨ts,rfl⟩
 ·exact r.less (w0.obj k a o e1 z)
 ·obtain⟨vs,e,q⟩:=r
  refine⟨vs,e, ?_⟩;have q2:=q.pures;exact RepTs.ups (Paired.mapP q2 λ_ _ q=>q.mono λx o hx ex=>⟨ex,λz=>hx (z.elim .inl λz=>.inr (UH _ z))⟩)
end
section
theorem Fun.okV{st:Stmt}(F:Fun Ξ x qual st f fd)(S:FnScope N ps (ql st))(len:∀us M Qu,G us M Qu->us.length=ps.length)(hbody:∀(cdv:Value)(A:Around)(outer:List Env)(s:Shared)(H:Hp)(E:XK),Room k (A.deeper (envOfC qual (ql st) s.heap.objs.size f cdv)) ->
   ∃t,PSs (cxOf CX0 P w Ξ mg base N qual (ql st) f cdv A outer s H E).nox (vS st) t/\∃u,LS t u/\∀us M Qu,G us M Qu->u { nx:=λ_ M'=>zZ M M'/\Qu (.p .non) (M'.take M.length),rt:=λz M'=>zZ M M'/\∃t,frzB M.length 4 M' z=some t/\Qu (.p t) (M'.take M.length) } (xW N us) M):FnOk P w Ξ mg base CX0 (k+1) f fd ps (spU G):=by
 refine F.ok S (λvs H Q E h=>?_) (λcdv A outer s H vs Q E hr h=>?_)
 ·obtain⟨A,ι,M,us,Qu,w1,r,g,_⟩:=h
  rw[r.len]; exact len us M Qu g
 ·obtain⟨B,ι,M,us,Qu,w1,r,g,kk⟩:=h
  obtain⟨t,ht,u,hu,hb⟩:=hbody cdv A outer s H E hr;have less:∀{ι1:List Addr}{H1:Hp},Le ι H ι1 H1->Le ι H ι H1:=λl=>⟨⟨[],by simp,by simp⟩,l.fr,l.al⟩;refine⟨t,ht,hu B ι _ H _ M _ { nx:=λ_ M'=>zZ M M'/\Qu (.p .non) (M'.take M.length),rt:=λz M'=>zZ M M'/\∃t,frzB M.length 4 M' z=some t/\Qu (.p t) (M'.take M.length) } w1 (jA r) ⟨λι1 σ1 H1 ρ1 M1 l1 w2 e1 q1=>?_,λι1 v H1 z M1 l1 w2 r1 q1=>?_,λ_ _ _ _ _ _ _ _ q=>q.elim,λ_ _ _ _ _ _ _ _ q=>q.elim⟩ (hb us M Qu g)⟩
  ·obtain⟨tr,q⟩:=q1
   obtain⟨m,rfl,_⟩:=id l1.ext;exact kk _ _ ι _ H1 (less l1) (w2.trim w1 tr) (.p .non) q
  ·obtain⟨tr,t1,et,q⟩:=q1
   obtain⟨m,rfl,_⟩:=id l1.ext;rw[<-w1.len] at et;exact kk _ _ ι v H1 (less l1) (w2.trim w1 tr) (.p (Ze w2 r1 et)) q
end
section
def keyU:Key->U
 |.inl i=>.p (.int i)
 |.inr x=>.p (.str x)
 |.non=>.p .non
def valU(kvs:List (Key×U))(k:Key):Option U:=(kvs.find? λkv=>decide (kv.1=k)).map (·.2)
def putU(kvs:List (Key×U))(k:Key)(y:U):List (Key×U):=if kvs.any (λkv=>decide (kv.1=k)) then kvs.map (λkv=>if kv.1=k then(kv.1,y) else kv) else kvs++[(k,y)]
def xj(kvs more:List (Key×U)):List (Key×U):=more.foldl (λacc kv=>putU acc kv.1 kv.2) kvs
abbrev KR(A:Addr->Prop)(ι:List Addr)(H:Hp):List (Key×V)->List (Key×U)->Prop:=Paired λ(g:Key×V) (f:Key×U)=>g.1=f.1/\RepU A ι H g.2 f.2
theorem Vk(r:KR A ι H gs kvs):match valU kvs k with|some u=>∃v,valV gs k=some v/\RepU A ι H v u|none=>valV gs k=none:=by
 induction r with
 |nil=>rfl
 | @cons g f gs kvs p q ih =>
  obtain⟨e,r⟩:=p;unfold valU valV at ih ⊢;simp only[Dw];by_cases h:f.1=k
  ·rw[e]
   simp only[h,decide_true];exact⟨_,rfl,r⟩
  ·rw[e]
   simp only[h,decide_false];exact ih
theorem any_rep(r:KR A ι H gs kvs):(gs.any λkv=>decide (kv.1=k))=(kvs.any λkv=>decide (kv.1=k)):=by
 induction r with
 |nil=>rfl
 |cons p q ih=>rw[Dy,Dy,ih,p.1]
theorem Jg(r:KR A ι H gs kvs)(rv:RepU A ι H v u):KR A ι H (gs.map λkv=>if kv.1=k then(kv.1,v) else kv) (kvs.map λkv=>if kv.1=k then(kv.1,u) else kv):=by
 induction r with
 |nil=>exact .nil
 | @cons g f gs kvs p q ih =>
  refine .cons ?_ ih;show(if g.1=k then(g.1,v) else g).1=(if f.1=k then(f.1,u) else f).1/\RepU A ι H (if g.1=k then(g.1,v) else g).2 (if f.1=k then(f.1,u) else f).2;by_cases h:f.1=k
  ·rw[if_pos h,if_pos (p.1.trans h)]; exact⟨p.1,rv⟩
  ·rw[if_neg h,if_neg (λz=>h (p.1.symm.trans z))]; exact p
theorem Wc(r:KR A ι H gs kvs)(rv:RepU A ι H v u):KR A ι H (putK gs k v) (putU kvs k u):=by
 unfold putK putU;rw[any_rep r];split
 ·exact Jg r rv
 ·exact r.app (.cons ⟨rfl,rv⟩ .nil)
theorem WX(q:KR A ι H more moreU):∀{gs:List (Key×V)}{kvs:List (Key×U)},KR A ι H gs kvs->KR A ι H (Qm gs more) (xj kvs moreU):=by
 unfold Qm xj
 induction q with
 |nil=>intro gs kvs r; exact r
 |cons p q ih =>
  intro gs kvs r;rw[RA,RA,p.1];exact ih (Wc r p.2)
inductive LPs:List (TE×TE)->List (UE×UE)->Prop
 |nil:LPs [] []
 |cons {tk tv:TE} {uk uv:UE} {ts:List (TE×TE)} {us:List (UE×UE)}:LE tk uk->LE tv uv->LPs ts us->LPs ((tk,tv)::ts) ((uk,uv)::us)
def JR:List (UE×UE)->UEnv->MM->(List (U×U)->MM->Prop)->Prop
 | [],_,M,Q=>Q [] M
 | (k,v)::r,ρ,M,Q=>k ρ M λx M1=>v ρ M1 λy M2=>JR r ρ M2 λps M3=>Q ((x,y)::ps) M3
theorem lps_run(h:LPs trs urs):∀(A:Addr->Prop)(ι:List Addr)(σ:St)(H:Hp)(ρ:UEnv)(M:MM)(Qu:List (U×U)->MM->Prop)(Q:List (V×V)->Hp->Prop),Wd A ι H M->EnvR A ι H σ ρ->JR urs ρ M Qu ->
  (∀us M' ι' vs H',Le ι H ι' H'->Wd A ι' H' M'->Paired (λ(x:V×V) (y:U×U)=>RepU A ι' H' x.1 y.1/\RepU A ι' H' x.2 y.2) vs us->Qu us M'->Q vs H')->JX trs σ H Q:=by
 induction h with
 |nil=>intro A ι σ H ρ M Qu Q w e q k; exact k [] M ι [] H (.refl _ _) w .nil q
 |cons h1 h2 h3 ih =>
  intro A ι σ H ρ M Qu Q w e q k;refine h1 A ι σ H ρ M _ _ w e q λx M1 ι1 v1 H1 l1 w1 r1 q1=>?_;refine h2 A ι1 σ H1 ρ M1 _ _ w1 (e.le l1) q1 λy M2 ι2 v2 H2 l2 w2 r2 q2=>?_;refine ih A ι2 σ H2 ρ M2 _ _ w2 (e.le (l1.trans l2)) q2 λus M3 ι3 vs H3 l3 w3 r3 q3=>?_;exact k _ M3 ι3 _ H3 ((l1.trans l2).trans l3) w3 (.cons ⟨(r1.le l2).le l3,r2.le l3⟩ r3) q3
def Zt(urs:List (UE×UE)):UE:=λρ M Q=>JR urs ρ (M++[.dK []]) λps M2=>M2[M.length]?=some (.dK [])/\∃kvs:List (Key×U),ps=kvs.map (λkv=>(keyU kv.1,kv.2))/\kvs.length<=15/\Q (.m M.length) (M2.set M.length (.dK (xj [] kvs)))
theorem j7(r:RepU A ι H v (keyU k)):v=kV k:=by
 cases k with
 |inl i=>cases r with|p r=>cases r; rfl
 |inr x=>cases r with|p r=>cases r; rfl
 |non=>cases r with|p r=>cases r; rfl
theorem W8:∀{kvs:List (Key×U)}{vs:List (V×V)},Paired (λ(x:V×V) (y:U×U)=>RepU A ι H x.1 y.1/\RepU A ι H x.2 y.2) vs (kvs.map λkv=>(keyU kv.1,kv.2))->∃gs:List (Key×V),vs=gs.map (λkv=>(kV kv.1,kv.2))/\KR A ι H gs kvs
 | [],_, .nil=>⟨[],rfl, .nil⟩
 |kv::kvs,(a,b)::_, .cons p q=>by
  obtain⟨gs,rfl,r⟩:=W8 (kvs:=kvs) q;refine⟨(kv.1,b)::gs, ?_, .cons ⟨rfl,p.2⟩ r⟩;rw[UQ];have:=j7 p.1;simp only at this;rw[this]
def DGetS(M:MM)(x y:U)(Q:UK):Prop:=∃k kvs key w,x=.m k/\M[k]?=some (.dK kvs)/\y=keyU key/\valU kvs key=some w/\Q w M
def uDGet(ua ub:UE):UE:=λρ M Q=>ua ρ M λx M1=>ub ρ M1 λy M2=>DGetS M2 x y Q
theorem rd_dget:uDGet ua ub ρ M Q=ua ρ M λx M1=>ub ρ M1 λy M2=>DGetS M2 x y Q:=rfl
theorem Zi(h1:M[k]?=some (.dK kvs))(h2:valU kvs (.inr x)=some w)(q:Q w M):DGetS M (.m k) (.p (.str x)) Q:=⟨k,kvs, .inr x,w,rfl,h1,rfl,h2,q⟩
def uIfC(c:UT)(t1 t2:T):UE:=λρ M Q=>c ρ M λb M1=>Q (.p (if b=true then t1 else t2)) M1
theorem iteT_int[Decidable c]:(if c then T.int a else T.int b)=T.int (if c then a else b):=by split<;>rfl
theorem iteT_str[Decidable c]:(if c then T.str a else T.str b)=T.str (if c then a else b):=by split<;>rfl
def itV(x:U)(us:List U):UIt:=⟨us.length,λM=>vd M x=some us,λi z=>us[us.length-1-i]?=some z⟩
def RevS(us:List U)(M:MM)(R:UIt->MM->Prop):Prop:=∃x ys,us=[x]/\vd M x=some ys/\R (itV x ys) M
theorem rd_rev:uRev ul ρ M R=ul ρ M λus M1=>RevS us M1 R:=rfl
theorem rd_revP:RevS [.p (.lst ts)] M R=R (itV (.p (.lst ts)) (ts.map U.p)) M:=propext ⟨λ⟨_,_,e1,e2,h⟩=>by cases e1; cases e2; exact h,λh=>⟨_,_,rfl,rfl,h⟩⟩
theorem ufor_rev(Iv:Nat->UEnv->MM->Prop)(h0:Iv 0 ρ M)(hs:∀i t ρ2 M2,i<ts.length->ts[ts.length-1-i]?=some t->Iv i ρ2 M2->ug (.p t) ρ2 M2 λρ3 M3=>ub { E with nx:=Iv (i+1),ct:=Iv (i+1),bk:=E.nx } ρ3 M3)(hd:∀ρ2 M2,Iv ts.length ρ2 M2->E.nx ρ2 M2):UFor (itV (.p (.lst ts)) (ts.map U.p)) ug ub E ρ M:=by
 refine⟨Iv,h0,λi ρ2 M2 hi h=>⟨rfl,λu hu=>?_⟩,λρ2 M2 h=>⟨rfl,hd ρ2 M2 (by simpa[itV] using h)⟩⟩;have hu:(ts.map U.p)[(ts.map U.p).length-1-i]?=some u:=hu;have hi:i<(ts.map U.p).length:=hi;rw[Ul] at hu hi;rw[UU] at hu;cases e:ts[ts.length-1-i]? with
 |none=>rw[e] at hu; cases hu
 |some t=>rw[e] at hu; cases hu; exact hs i t ρ2 M2 hi e h
theorem rd_ch:ChS s' uc ρ M y Q (.bl b)=if b=true then uc ρ M λc M3=>OpS s' M3 y c Q else Q (.p (.bl false)) M :=
 propext ⟨λ⟨k,e,h⟩=>by cases e; exact h,λh=>⟨b,rfl,h⟩⟩
def sRemove:List U->List U->(U->List U->Prop)->Prop:=λus ws Q=>∃(ts:List T)(y:T)(j:Nat)(e:Nat->Bool),us=ts.map U.p/\ws=[.p y]/\j<ts.length/\e j=true/\(∀m,m<j->e m=false)/\(∀(m:Nat) z,m<=j->ts[m]?=some z->EqT 20 z y (e m))/\Q (.p .non) ((ts.eraseIdx j).map U.p)
theorem Z4{α β:Type}(f:α->β):∀(l:List α)(j:Nat),(l.eraseIdx j).map f=(l.map f).eraseIdx j
 | [],_=>rfl
 |_::_,0=>rfl
 |x::l,j+1=>by rw[Ro,UQ,UQ,Ro,Z4 f l j]
theorem Yc:MeL (XU Ξ) sRemove:=λA ι H M k a xs ys us ws Qs Q w ek h1 h2 rx ry ⟨ts,y,j,e,eu,ew,hj,hjt,hjf,hd,q⟩ kk=>by
 subst eu ew;cases ry with
 |cons r q' =>
 cases q';cases r with
 |p r =>
 have rp:=rx.pures;refine⟨a,xs,_,j,e,rfl,rfl,h1,by rw[rp.len]; exact hj,hjt,hjf,λm z hm hz=>?_,kk _ _ _ _ (RepTs.ups (rp.erase j)) (.p .non) q⟩;obtain⟨b,hb,rb⟩:=Paired.getL rp hz;exact(hd m b hm hb).de rb r
end
section
def KTu(Ξ:PySem.W.Frag)(p:Addr)(vs:List V):Prop:=∀H,SqT Ξ H p vs
theorem Tup3.kt{mg:Str->Option Value}(T3:Tup3 Ξ mg nm p x y z):KTu Ξ p [.str x, .str y, .str z]:=T3.sq
theorem atI_pair{α β:Type}{F:α->β->Prop}{vs:List α}{ts:List β}{i:Int}{z:β}(r:Paired F vs ts)(e:atI ts i=some z):∃x,atI vs i=some x/\F x z:=by
 unfold atI at e ⊢;rw[r.len];cases q:ixN ts.length i with
 |none=>rw[q] at e; cases e
 |some j =>
  rw[q] at e;exact Paired.getR r e
theorem YT:∀xs:List Str,Paired Sc (xs.map V.str) (xs.map T.str)
 | []=>.nil
 |x::xs=>.cons (.str x) (YT xs)
def uIxK(ts:List T)(ub:UE):UE:=λρ M Q=>ub ρ M λy M1=>IntS y λi=>∃t,atI ts i=some t/\Q (.p t) M1
def uInK(neg:Bool)(vs:List V)(ua:UE):UE:=λρ M Q=>ua ρ M λx M1=>∃a,x=.p a/\∃y,vt a=some y/\Q (.p (.bl (if neg then !inV y vs else inV y vs))) M1
inductive TyC where
 |int|bool|str|list|tuple
def TyC.name:TyC->String
 |.int => "int" |.bool => "bool" |.str => "str" |.list => "list" |.tuple => "tuple"
def isT:T->TyC->Bool
 |.int _, .int=>true
 |.bl _, .int=>true
 |.bl _, .bool=>true
 |.str _, .str=>true
 |.lst _, .list=>true
 |.tup _, .tuple=>true
 |_,_=>false
def isU(M:MM):U->TyC->Option Bool
 |.p t,c=>some (isT t c)
 |.m k,c=>match M[k]? with
  |some (.lst _)=>some (isT (.lst []) c)
  |some (.tup _)=>some (isT (.tup []) c)
  |_=>none
 |.x _ _ _,_=>none
theorem isi_rep(w:Wd A ι H M)(r:RepU A ι H v u)(e:isU M u c=some b):∃t,TyOf Ξ H v (.type t)/\W.kitOne Ξ (.type t) (.type c.name)=some b:=by
 cases r with
 |p r =>
  simp only[isU,Option.some.injEq] at e;subst e;cases r with
  |non=>exact⟨_, .non,by cases c<;>rfl⟩
  |bl b=>exact⟨_, .bl b,by cases c<;>rfl⟩
  |int i=>exact⟨_, .int i,by cases c<;>rfl⟩
  |str x=>exact⟨_, .str x,by cases c<;>rfl⟩
  |tup na e l r=>exact⟨_, .tup e,by cases c<;>rfl⟩
  |lst na e l r=>exact⟨_, .lst e,by cases c<;>rfl⟩
 |m q =>
  obtain⟨o,h1,h2⟩:=w.al q;simp only[isU,h1] at e;cases o with
  |lst us=>simp only[Option.some.injEq] at e; subst e; obtain⟨vs,h3,_⟩:=h2; exact⟨_, .lst h3,by cases c<;>rfl⟩
  |tup us=>simp only[Option.some.injEq] at e; subst e; obtain⟨vs,h3,_⟩:=h2; exact⟨_, .tup h3,by cases c<;>rfl⟩
  |ins=>simp at e
  |dK=>simp at e
  |dF=>simp at e
 |x h=>simp[isU] at e
def uIsi(c:TyC)(ua:UE):UE:=λρ M Q=>ua ρ M λx M1=>∃b,isU M1 x c=some b/\Q (.p (.bl b)) M1
def uIsi2(c d:TyC)(ua:UE):UE:=λρ M Q=>ua ρ M λx M1=>∃b,isU M1 x c=some b/\∃b',isU M1 x d=some b'/\Q (.p (.bl (b||b'))) M1
def sEqTu(neg:Bool):T->T->(T->Prop)->Prop:=λa b Q=>∃xs ys,∃e:Nat->Bool,a=.tup xs/\b=.tup ys/\(∀(j:Nat) x y,xs[j]?=some x->ys[j]?=some y->EqT 20 x y (e j))/\Q (.bl (if neg then !((List.range (min xs.length ys.length)).all e&&xs.length==ys.length) else((List.range (min xs.length ys.length)).all e&&xs.length==ys.length)))
theorem opl_eqT:OpL (rEqT Ξ) (sEqTu false):=λA ι H M x y a b Qs Q w r1 r2 ⟨xs,ys,e,ea,eb,he,q⟩ k=>by
 subst ea eb;obtain⟨p,vs,rfl,h1,q1⟩:=r1.tup_inv;obtain⟨p2,vs2,rfl,h2,q2⟩:=r2.tup_inv;refine⟨p,p2,vs,vs2,e,rfl,rfl,SqT.of h1,SqT.of h2,λj x y hx hy=>?_,by rw[q1.len,q2.len]; exact k _ ι _ H (.refl _ _) w (.bl _) q⟩;obtain⟨a,ha,ra⟩:=Paired.getL q1 hx;obtain⟨b,hb,rb⟩:=Paired.getL q2 hy;exact(he j a b ha hb).de ra rb
def uDNew:UE:=λ_ M Q=>Q (.m M.length) (M++[.dK []])
theorem le_dnew:LE JY uDNew:=λA ι σ H ρ M Qu Q w e q k p hp =>
 k _ _ (ι++[p]) _ _ (.push hp) (w.push (mo:=.dK []) hp ⟨[],upd_same, .nil⟩) (.m (by rw[<-w.len]; exact xM)) q
def DInS(neg:Bool)(M:MM)(y x:U)(Q:UK):Prop:=∃k kvs key,x=.m k/\M[k]?=some (.dK kvs)/\y=keyU key/\Q (.p (.bl (if neg then !(valU kvs key).isSome else(valU kvs key).isSome))) M
def uDIn(neg:Bool)(ua ub:UE):UE:=λρ M Q=>ua ρ M λy M1=>ub ρ M1 λx M2=>DInS neg M2 y x Q
def DPutS(M:MM)(x y v:U)(R:MM->Prop):Prop:=∃k kvs key,x=.m k/\M[k]?=some (.dK kvs)/\y=keyU key/\kvs.length<sizeLine/\R (M.set k (.dK (putU kvs key v)))
def uDPut(ud uy uv:UE):US:=λE ρ M=>uv ρ M λv M1=>ud ρ M1 λx M2=>uy ρ M2 λy M3=>DPutS M3 x y v λM4=>E.nx ρ M4
theorem rd_din:uDIn neg ua ub ρ M Q=ua ρ M λy M1=>ub ρ M1 λx M2=>DInS neg M2 y x Q:=rfl
theorem rd_dput:uDPut ud uy uv E ρ M=uv ρ M λv M1=>ud ρ M1 λx M2=>uy ρ M2 λy M3=>DPutS M3 x y v λM4=>E.nx ρ M4:=rfl
theorem jN(h1:M[k]?=some (.dK kvs))(hz:kvs.length<sizeLine)(q:R (M.set k (.dK (putU kvs (.inl x) v)))):DPutS M (.m k) (.p (.int x)) v R:=⟨k,kvs, .inl x,rfl,h1,rfl,hz,q⟩
def IdxS(us:List U)(xs:List Str)(M:MM)(Q:UK):Prop:=∃(t:Str)(j:Nat),us=[.p (.str t)]/\xs[j]?=some t/\(∀m,m<j->xs[m]?≠some t)/\Q (.p (.int j)) M
def uIdxK(xs:List Str)(ul:UA):UE:=λρ M Q=>ul ρ M λus M1=>IdxS us xs M1 Q
theorem rd_idxK:uIdxK xs ul ρ M Q=ul ρ M λus M1=>IdxS us xs M1 Q:=rfl
end
section
def LRng2S(us:List U)(M:MM)(Q:UK):Prop:=∃(i j:Int)(n:Nat),us=[.p (.int i), .p (.int j)] /\ -(2^62)<=i/\j<2^62/\j=i+n/\n<=1000000/\Q (.p (.lst ((List.range n).map λk:Nat=>T.int (i+k)))) M
def uLRng2(ul:UA):UE:=λρ M Q=>ul ρ M λus M1=>LRng2S us M1 Q
theorem rd_lrng2:uLRng2 ul ρ M Q=ul ρ M λus M1=>LRng2S us M1 Q:=rfl
theorem gdIx(h:IxS it M x y Q):IxS it M x y Q:=h
theorem gdT2(h:T2S M u R):T2S M u R:=h
theorem gdT3(h:T3S M u R):T3S M u R:=h
theorem gdMe(h:MeS s ul ρ M o Q):MeS s ul ρ M o Q:=h
theorem gdLen(h:LenS it M us Q):LenS it M us Q:=h
end
section
abbrev FR(A:Addr->Prop)(ι:List Addr)(H:Hp):List (Str×V)->List (Str×U)->Prop:=Paired (λ(g:Str×V) (f:Str×U)=>g.1=f.1/\RepU A ι H g.2 f.2)
def VN(f:Str)(v:U):List (Str×U)->List (Str×U)
 | []=>[(f,v)]
 | (g,x)::r=>if g=f then(g,v)::r else(g,x)::VN f v r
theorem putF_rep(r:FR A ι H gs fs)(rv:RepU A ι H v u):FR A ι H (putF f v gs) (VN f u fs):=by
 induction r with
 |nil=>exact .cons ⟨rfl,rv⟩ .nil
 | @cons g h gs fs a rr ih =>
  obtain⟨g1,g2⟩:=g;obtain⟨h1,h2⟩:=h;obtain⟨e1,r1⟩:=a;simp only at e1 r1;subst e1;unfold putF VN;by_cases hk:g1=f
  ·rw[if_pos hk,if_pos hk]; exact .cons ⟨rfl,rv⟩ rr
  ·rw[if_neg hk,if_neg hk]; exact .cons ⟨rfl,r1⟩ ih
def FldS(Ξ:PySem.W.Frag)(f:Str)(x:U)(M:MM)(Q:UK):Prop:=∃k C fs u,x=.m k/\M[k]?=some (.ins C fs)/\Cls Ξ C/\NoAttr Ξ C f/\fs.lookup f=some u/\Q u M
def uFld(Ξ:PySem.W.Frag)(ua:UE)(f:Str):UE:=λρ M Q=>ua ρ M λx M1=>FldS Ξ f x M1 Q
def JL(Ξ:PySem.W.Frag)(f:Str)(x y:U)(M:MM)(R:MM->Prop):Prop:=∃k C fs,x=.m k/\M[k]?=some (.ins C fs)/\Cls Ξ C/\NoAttr Ξ C f/\fs.length<1000/\R (M.set k (.ins C (VN f y fs)))
def XA(Ξ:PySem.W.Frag)(ua uv:UE)(f:Str):US:=λE ρ M=>uv ρ M λy M1=>ua ρ M1 λx M2=>JL Ξ f x y M2 λM3=>E.nx ρ M3
def MethS(C:Addr)(m:Str)(x:U)(M:MM)(R:Prop):Prop:=∃k fs,x=.m k/\M[k]?=some (.ins C fs)/\fs.lookup m=none/\R
def uMeth(C:Addr)(m:Str)(G:List U->MM->UK->Prop)(ua:UE)(ul:UA):UE:=λρ M Q=>ua ρ M λx M1=>MethS C m x M1 (ul ρ M1 λus M2=>G (x::us) M2 Q)
def uMake(C:Addr)(G:List U->MM->UK->Prop)(ul:UA):UE:=λρ M Q=>ul ρ M λus M1=>G (.m M1.length::us) (M1++[.ins C []]) λv M2=>v=.p .non/\Q (.m M1.length) M2
def RepNS(M:MM)(x y:U)(Q:UK):Prop:=∃xs k,x=.p (.lst xs)/\y=.p (.int k) /\ -(2^63)<=k/\k<2^63/\xs.length*k.toNat<=sizeLine/\Q (.m M.length) (M++[.lst ((List.replicate k.toNat xs).flatten.map U.p)])
def Xy(ua ub:UE):UE:=λρ M Q=>ua ρ M λx M1=>ub ρ M1 λy M2=>RepNS M2 x y Q
def flT:T->Bool
 |.int _=>true
 |.str _=>true
 |_=>false
def SubS(M:MM)(o i u:U)(R:MM->Prop):Prop:=∃k us z j,o=.m k/\M[k]?=some (.lst us)/\i=.p (.int z)/\ixN us.length z=some j/\R (M.set k (.lst (us.set j u)))
theorem rd_sub:uSub ua ub u ρ M Q=ua ρ M λo M1=>ub ρ M1 λi M2=>SubS M2 o i u λM3=>Q ρ M3:=rfl
theorem rep4(r:RepUs A ι H vs [a,b,c,d]):∃x y z s,vs=[x,y,z,s]/\RepU A ι H x a/\RepU A ι H y b/\RepU A ι H z c/\RepU A ι H s d:=by
 cases r with
 |cons r q =>
  obtain⟨y,z,s,rfl,r2,r3,r4⟩:=rep3 q;exact⟨_,_,_,_,rfl,r,r2,r3,r4⟩
def Yz(i j k l:Nat):UG:=λu ρ M Q=>∃a b c d,zm M u=some [a,b,c,d]/\Q ((((ρ.set i (some a)).set j (some b)).set k (some c)).set l (some d)) M
def T4S(M:MM)(u:U)(R:U->U->U->U->Prop):Prop:=∃a b c d,zm M u=some [a,b,c,d]/\R a b c d
theorem rd_name4:Yz i j k l u ρ M R=T4S M u λa b c d=>R ((((ρ.set i (some a)).set j (some b)).set k (some c)).set l (some d)) M:=rfl
theorem rd_t4:T4S M (.p (.tup [a,b,c,d])) R=R (.p a) (.p b) (.p c) (.p d):=propext ⟨λ⟨_,_,_,_,e,h⟩=>by cases e; exact h,λh=>⟨_,_,_,_,rfl,h⟩⟩
def P2S(us:List U)(R:U->U->Prop):Prop:=∃a b,us=[a,b]/\R a b
def P3S(us:List U)(R:U->U->U->Prop):Prop:=∃a b c,us=[a,b,c]/\R a b c
def uPar(i j:Nat)(ul:UA):US:=λE ρ M=>ul ρ M λus M1=>P2S us λa b=>E.nx ((ρ.set i (some a)).set j (some b)) M1
def uPar3(i j k:Nat)(ul:UA):US:=λE ρ M=>ul ρ M λus M1=>P3S us λa b c=>E.nx (((ρ.set i (some a)).set j (some b)).set k (some c)) M1
theorem rd_par:uPar i j ul E ρ M=ul ρ M λus M1=>P2S us λa b=>E.nx ((ρ.set i (some a)).set j (some b)) M1:=rfl
theorem rd_par3:uPar3 i j k ul E ρ M=ul ρ M λus M1=>P3S us λa b c=>E.nx (((ρ.set i (some a)).set j (some b)).set k (some c)) M1:=rfl
theorem rd_p2:P2S [a,b] R=R a b:=propext ⟨λ⟨_,_,e,h⟩=>by cases e; exact h,λh=>⟨a,b,rfl,h⟩⟩
theorem rd_p3:P3S [a,b,c] R=R a b c:=propext ⟨λ⟨_,_,_,e,h⟩=>by cases e; exact h,λh=>⟨a,b,c,rfl,h⟩⟩
theorem rd_fld:uFld Ξ ua f ρ M Q=ua ρ M λx M1=>FldS Ξ f x M1 Q:=rfl
theorem Y5:XA Ξ ua uv f E ρ M=uv ρ M λy M1=>ua ρ M1 λx M2=>JL Ξ f x y M2 λM3=>E.nx ρ M3:=rfl
theorem rd_meth:uMeth C m G ua ul ρ M Q=ua ρ M λx M1=>MethS C m x M1 (ul ρ M1 λus M2=>G (x::us) M2 Q):=rfl
theorem rd_make:uMake C G ul ρ M Q=ul ρ M λus M1=>G (.m M1.length::us) (M1++[.ins C []]) λv M2=>v=.p .non/\Q (.m M1.length) M2:=rfl
theorem Y2:Xy ua ub ρ M Q=ua ρ M λx M1=>ub ρ M1 λy M2=>RepNS M2 x y Q:=rfl
theorem zb(c:Cls Ξ C)(na:NoAttr Ξ C f)(e:M[k]?=some (.ins C fs))(hz:fs.length<1000)(q:R (M.set k (.ins C (VN f y fs)))):JL Ξ f (.m k) y M R:=⟨k,C,fs,rfl,e,c,na,hz,q⟩
theorem repN_at(k0 : -(2^63)<=k)(k1:k<2^63)(hz:xs.length*k.toNat<=sizeLine)(q:Q (.m M.length) (M++[.lst ((List.replicate k.toNat xs).flatten.map U.p)])):RepNS M (.p (.lst xs)) (.p (.int k)) Q:=⟨xs,k,rfl,rfl,k0,k1,hz,q⟩
end
section
def gNo:List U->MM->UK->Prop:=λ_ _ _=>False
theorem FnOk.no:FnOk P w Ξ mg base CX0 k f fd ps (spU gNo) :=
 ⟨λvs H Q E ⟨_,_,_,_,_,_,_,h,_⟩=>h.elim,λ_ _ _ _ _ _ _ _ _ _ _ _ _ ⟨_,_,_,_,_,_,_,h,_⟩=>h.elim⟩
end
structure ZE(a:TE)(b:UE):Prop where
 h:LE a b
structure ZT(a:TT)(b:UT):Prop where
 h:LT a b
structure ZA(n:Nat)(a:TA)(b:UA):Prop where
 h:LA n a b
structure ZO(a:TO)(b:UO):Prop where
 h:LO a b
structure ZI(a:TI)(b:UI):Prop where
 h:LI a b
structure ZG(a:TG)(b:UG):Prop where
 h:LG a b
structure ZX(bs:List Bool)(n:Nat)(a:TG)(b:UG):Prop where
 h:LGx bs n a b
structure ZS(a:TS)(b:US):Prop where
 h:LS a b
structure ZP(a:List (TE×TE))(b:List (UE×UE)):Prop where
 h:LPs a b
theorem GS:ZP [] []:=⟨.nil⟩
theorem zr(a:ZE tk uk)(b:ZE tv uv)(c:ZP ts us):ZP ((tk,tv)::ts) ((uk,uv)::us):=⟨.cons a.h b.h c.h⟩
theorem JF(h:ZP trs urs):ZE (tDisp trs) (Zt urs):=⟨by
 intro A ι σ H ρ M Qu Q w e q k p hp;have w1:Wd A (ι++[p]) (upd H p (.dK [])) (M++[.dK []]):=w.push hp ⟨[],upd_same, .nil⟩;have l1:Le ι H (ι++[p]) (upd H p (.dK [])):=.push hp;refine lps_run h.h A _ σ _ ρ _ _ _ w1 (e.le l1) q λus M2 ι2 vs H2 l2 w2 r2 q2=>?_;obtain⟨hm,kvs,rfl,hl,q2⟩:=q2;have ep:ι2[M.length]?=some p:=by
  obtain⟨nn,rfl,_⟩:=l2.ext;rw[Uo (by rw[Uu,w.len]; simp), <-w.len];exact xM
 obtain⟨gs0,h1,h2⟩:=w2.obj _ p _ ep hm;cases h2;obtain⟨gs,rfl,rk⟩:=W8 r2;have hmem:=Um ep;refine⟨h1,gs,rfl,by rw[rk.len]; exact hl,k _ _ ι2 _ _ ((l1.trans l2).trans (.put hmem)) (w2.put (mo:=.dK (xj [] kvs)) ep ⟨_,upd_same, ?_⟩) (.m ep) q2⟩;exact Paired.mapP (WX rk .nil) λ_ _ q=>⟨q.1,q.2.le (.put hmem)⟩⟩
section
theorem qd(i:Nat):ZE (tVar i) (uVar i):=⟨λA ι σ H ρ M Qu Q w e ⟨u,h,q⟩ k=>by
 obtain⟨v,h1,h2⟩:=e.get h;exact⟨v,h1,k u M ι v H (.refl _ _) w h2 q⟩⟩
end
section
theorem ce_c(h:Sc v t):ZE (tC v) (uC t):=⟨λA ι σ H ρ M Qu Q w e q k=>k _ M ι v H (.refl _ _) w (.p h.rep) q⟩
end
section
theorem qh  : ZA 0 tNil uNil:=⟨la_nil ⟩
end
section
theorem qc(ha:ZE ta ua)(hl:ZA n tl ul):ZA (n+1) (zK ta tl) (uCons ua ul):=⟨λA ι σ H ρ M Qu Q w e q k =>
 ha.h A ι σ H ρ M _ _ w e q λx M1 ι1 v H1 l1 w1 r1 q1=>hl.h A ι1 σ H1 ρ M1 _ _ w1 (e.le l1) q1 λxs M2 ι2 vs H2 l2 w2 hn r2 q2 =>
  k (x::xs) M2 ι2 (v::vs) H2 (l1.trans l2) w2 (by rw[Ur,hn]) (.cons (r1.le l2) r2) q2⟩
end
section
theorem qk(h:OpL r s)(ha:ZE ta ua)(hb:ZE tb ub):ZE (tOp r ta tb) (uOp s ua ub):=⟨λA ι σ H ρ M Qu Q w e q k =>
 ha.h A ι σ H ρ M _ _ w e q λx M1 ι1 v H1 l1 w1 r1 q1=>hb.h A ι1 σ H1 ρ M1 _ _ w1 (e.le l1) q1 λy M2 ι2 v2 H2 l2 w2 r2 ⟨a,b,e1,e2,q2⟩ =>
  h A ι2 H2 M2 v v2 a b _ Q w2 ((r1.le l2).sn w2 e1) (r2.sn w2 e2) q2 λt ι3 z H3 l3 w3 r3 q3=>k _ M2 ι3 z H3 ((l1.trans l2).trans l3) w3 (.p r3) q3⟩
end
section
theorem Vg(ha:ZE ta ua):ZE (tOp (λx y H Q=>y=.non/\Q (.bl (decide (x=.non))) H) ta (tC .non)) (uIsN false ua):=⟨λA ι σ H ρ M Qu Q w e q k =>
 ha.h A ι σ H ρ M _ _ w e q λx M1 ι1 v H1 l1 w1 r1 q1=>⟨rfl,by rw[Z8 r1]; exact k _ M1 ι1 _ H1 l1 w1 (.p (.bl _)) q1⟩⟩
end
section
theorem QF(ha:ZE ta ua):ZE (tOp (λx y H Q=>y=.non/\Q (.bl (!decide (x=.non))) H) ta (tC .non)) (uIsN true ua):=⟨λA ι σ H ρ M Qu Q w e q k =>
 ha.h A ι σ H ρ M _ _ w e q λx M1 ι1 v H1 l1 w1 r1 q1=>⟨rfl,by rw[Z8 r1]; exact k _ M1 ι1 _ H1 l1 w1 (.p (.bl _)) q1⟩⟩
end
section
theorem ja(ha:ZE ta ua):ZE (tUn (rU λi=>.int (-i)) ta) (uNeg ua):=⟨λA ι σ H ρ M Qu Q w e q k =>
 ha.h A ι σ H ρ M _ _ w e q λx M1 ι1 v H1 l1 w1 r1 ⟨i,ex,q1⟩=>by
  subst ex;cases r1 with
  |p r=>cases r; exact⟨i,rfl,k _ M1 ι1 _ H1 l1 w1 (.p (.int _)) q1⟩⟩
end
section
theorem ct_b(ha:ZE ta ua):ZT (tB ta) (uB ua):=⟨lt_b ha.h⟩
end
section
theorem qr(ha:ZE ta ua):ZT (k7 ta) (uB ua):=⟨lt_b ha.h⟩
end
section
theorem ct_tru(ha:ZE ta ua):ZT (tTru Ξ ta) (uTru ua):=⟨λA ι σ H ρ M Qu Q w e q k =>
 ha.h A ι σ H ρ M _ _ w e q λx M1 ι1 v H1 l1 w1 r1 ⟨b,eb,q1⟩=>⟨b,tru_rep w1 r1 eb,k b M1 ι1 H1 l1 w1 q1⟩⟩
end
section
theorem kq(ha:ZT tt ut)(hb:ZT tt' ut'):ZT (tAnd tt tt') (uAnd ut ut'):=⟨λA ι σ H ρ M Qu Q w e q k =>
 ha.h A ι σ H ρ M _ _ w e q λc M1 ι1 H1 l1 w1 q1=>by
  cases c with
  |false=>exact k false M1 ι1 H1 l1 w1 q1
  |true=>exact hb.h A ι1 σ H1 ρ M1 _ _ w1 (e.le l1) q1 λb M2 ι2 H2 l2 w2 q2=>k b M2 ι2 H2 (l1.trans l2) w2 q2⟩
end
section
theorem jO(ha:ZT tt ut)(hb:ZT tt' ut'):ZT (tOr tt tt') (uOr ut ut'):=⟨λA ι σ H ρ M Qu Q w e q k =>
 ha.h A ι σ H ρ M _ _ w e q λc M1 ι1 H1 l1 w1 q1=>by
  cases c with
  |true=>exact k true M1 ι1 H1 l1 w1 q1
  |false=>exact hb.h A ι1 σ H1 ρ M1 _ _ w1 (e.le l1) q1 λb M2 ι2 H2 l2 w2 q2=>k b M2 ι2 H2 (l1.trans l2) w2 q2⟩
end
section
theorem xD(ha:ZT tt ut):ZT (tNot tt) (uNot ut):=⟨λA ι σ H ρ M Qu Q w e q k =>
 ha.h A ι σ H ρ M _ _ w e q λc M1 ι1 H1 l1 w1 q1=>k _ M1 ι1 H1 l1 w1 q1⟩
end
section
theorem G1(ha:ZE ta ua)(hb:ZE tb ub):ZE (Zw ta tb) (uAndV ua ub):=⟨λA ι σ H ρ M Qu Q w e q k =>
 ha.h A ι σ H ρ M _ _ w e q λx M1 ι1 v H1 l1 w1 r1 ⟨c,ex,q1⟩=>by
  subst ex;cases r1 with
  |p r =>
   cases r;refine⟨c,rfl, ?_⟩;cases c with
   |false=>exact k _ M1 ι1 _ H1 l1 w1 (.p (.bl _)) q1
   |true=>exact hb.h A ι1 σ H1 ρ M1 _ _ w1 (e.le l1) q1 λb M2 ι2 v2 H2 l2 w2 r2 q2=>k b M2 ι2 v2 H2 (l1.trans l2) w2 r2 q2⟩
end
section
theorem ce_orV(ha:ZE ta ua)(hb:ZE tb ub):ZE (tOrV ta tb) (uOrV ua ub):=⟨λA ι σ H ρ M Qu Q w e q k =>
 ha.h A ι σ H ρ M _ _ w e q λx M1 ι1 v H1 l1 w1 r1 ⟨c,ex,q1⟩=>by
  subst ex;cases r1 with
  |p r =>
   cases r;refine⟨c,rfl, ?_⟩;cases c with
   |true=>exact k _ M1 ι1 _ H1 l1 w1 (.p (.bl _)) q1
   |false=>exact hb.h A ι1 σ H1 ρ M1 _ _ w1 (e.le l1) q1 λb M2 ι2 v2 H2 l2 w2 r2 q2=>k b M2 ι2 v2 H2 (l1.trans l2) w2 r2 q2⟩
end
section
theorem kG(hc:ZT tt ut)(ha:ZE ta ua)(hb:ZE tb ub):ZE (tIf tt ta tb) (uIf ut ua ub):=⟨λA ι σ H ρ M Qu Q w e q k =>
 hc.h A ι σ H ρ M _ _ w e q λc M1 ι1 H1 l1 w1 q1=>by
  cases c with
  |true=>exact ha.h A ι1 σ H1 ρ M1 _ _ w1 (e.le l1) q1 λb M2 ι2 v2 H2 l2 w2 r2 q2=>k b M2 ι2 v2 H2 (l1.trans l2) w2 r2 q2
  |false=>exact hb.h A ι1 σ H1 ρ M1 _ _ w1 (e.le l1) q1 λb M2 ι2 v2 H2 l2 w2 r2 q2=>k b M2 ι2 v2 H2 (l1.trans l2) w2 r2 q2⟩
end
section
theorem xg(h:OpL r s)(h':OpL r' s')(ha:ZE ta ua)(hb:ZE tb ub)(hc:ZE tc uc):ZE (xV r r' ta tb tc) (JU s s' ua ub uc):=⟨by
 intro A ι σ H ρ M Qu Q w e q k;refine ha.h A ι σ H ρ M _ _ w e q λx M1 ι1 v H1 l1 w1 r1 q1=>?_;refine hb.h A ι1 σ H1 ρ M1 _ _ w1 (e.le l1) q1 λy M2 ι2 v2 H2 l2 w2 r2 q2=>?_;obtain⟨a,b,e1,e2,q2⟩:=q2;refine h A ι2 H2 M2 v v2 a b _ _ w2 ((r1.le l2).sn w2 e1) (r2.sn w2 e2) q2 λt ι3 z H3 l3 w3 r3 q3=>?_;obtain⟨kk,et,q3⟩:=q3;subst et;cases r3;refine⟨kk,rfl, ?_⟩;cases kk with
 |false=>exact k _ M2 ι3 _ H3 ((l1.trans l2).trans l3) w3 (.p (.bl _)) q3
 |true =>
  refine hc.h A ι3 σ H3 ρ M2 _ _ w3 (e.le ((l1.trans l2).trans l3)) q3 λc M4 ι4 v4 H4 l4 w4 r4 q4=>?_;obtain⟨b',c',e3,e4,q4⟩:=q4;exact h' A ι4 H4 M4 v2 v4 b' c' _ Q w4 ((r2.le (l3.trans l4)).sn w4 e3) (r4.sn w4 e4) q4 λt ι5 z H5 l5 w5 r5 q5=>k _ M4 ι5 z H5 ((((l1.trans l2).trans l3).trans l4).trans l5) w5 (.p r5) q5⟩
end
section
theorem qO(ha:ZA n tl ul)(hn:n<=1000:=by decide):ZE (tTup tl) (uTup ul):=⟨λA ι σ H ρ M Qu Q w e q k =>
 ha.h A ι σ H ρ M _ _ w e q λus M1 ι1 vs H1 l1 w1 hl r1 ⟨ts,et,q1⟩=>by
  have r2:=r1;rw[zR et] at r2;exact⟨by rw[r1.len,hl]; exact UC (qJ hn),λp hp=>k _ M1 ι1 _ _ (l1.trans (.fresh hp)) (w1.fresh hp) (.p (Xb w1 hp r2.pures)) q1⟩⟩
end
section
theorem vf(ha:ZA n tl ul)(hn:n<=1000:=by decide):ZE (tLst tl) (uLst ul):=⟨λA ι σ H ρ M Qu Q w e q k =>
 ha.h A ι σ H ρ M _ _ w e q λus M1 ι1 vs H1 l1 w1 hl r1 ⟨ts,et,q1⟩=>by
  have r2:=r1;rw[zR et] at r2;exact⟨by rw[r1.len,hl]; exact UC (qJ hn),λp hp=>k _ M1 ι1 _ _ (l1.trans (.fresh hp)) (w1.fresh hp) (.p (zo w1 hp r2.pures)) q1⟩⟩
end
section
theorem kr(ha:ZA n tl ul)(hn:n<=1000:=by decide):ZE (tLst tl) (uNew ul):=⟨λA ι σ H ρ M Qu Q w e q k =>
 ha.h A ι σ H ρ M _ _ w e q λus M1 ι1 vs H1 l1 w1 hl r1 q1=>⟨by rw[r1.len,hl]; exact UC (qJ hn),λp hp=>k _ _ _ _ _ (l1.trans (.push hp)) (zG w1 hp r1).1 (zG w1 hp r1).2 q1⟩⟩
end
section
theorem kc(ha:ZA n tl ul)(hn:n<=1000:=by decide):ZE (tTup tl) (uNewT ul):=⟨λA ι σ H ρ M Qu Q w e q k =>
 ha.h A ι σ H ρ M _ _ w e q λus M1 ι1 vs H1 l1 w1 hl r1 q1=>⟨by rw[r1.len,hl]; exact UC (qJ hn),λp hp=>k _ _ _ _ _ (l1.trans (.push hp)) (WN w1 hp r1).1 (WN w1 hp r1).2 q1⟩⟩
end
section
theorem qT(ha:ZE ta ua)(hb:ZE tb ub):ZE (tOp (rIxL Ξ) ta tb) (uIx vd ua ub):=⟨λA ι σ H ρ M Qu Q w e q k =>
 ha.h A ι σ H ρ M _ _ w e q λx M1 ι1 v H1 l1 w1 r1 q1=>hb.h A ι1 σ H1 ρ M1 _ _ w1 (e.le l1) q1 λy M2 ι2 v2 H2 l2 w2 r2 ⟨us,i,z,e1,e2,e3,q2⟩=>by
  subst e2;obtain⟨p,vs,rfl,h1,h2⟩:=vG w2 (r1.le l2) e1;obtain⟨x',h3,h4⟩:=qab h2 e3;cases r2 with
  |p r=>cases r; exact⟨p,vs,i,x',rfl,rfl,SqL.of h1,h3,k z M2 ι2 x' H2 (l1.trans l2) w2 h4 q2⟩⟩
end
section
theorem qQ(ha:ZE ta ua)(hb:ZE tb ub):ZE (tOp (rIxT Ξ) ta tb) (uIx zm ua ub):=⟨λA ι σ H ρ M Qu Q w e q k =>
 ha.h A ι σ H ρ M _ _ w e q λx M1 ι1 v H1 l1 w1 r1 q1=>hb.h A ι1 σ H1 ρ M1 _ _ w1 (e.le l1) q1 λy M2 ι2 v2 H2 l2 w2 r2 ⟨us,i,z,e1,e2,e3,q2⟩=>by
  subst e2;obtain⟨p,vs,rfl,h1,h2⟩:=zD w2 (r1.le l2) e1;obtain⟨x',h3,h4⟩:=qab h2 e3;cases r2 with
  |p r=>cases r; exact⟨p,vs,i,x',rfl,rfl,SqT.of h1,h3,k z M2 ι2 x' H2 (l1.trans l2) w2 h4 q2⟩⟩
end
section
theorem ju(h:CbL r s)(ha:ZA n tl ul):ZE (tCB r tl) (uCb s ul):=⟨λA ι σ H ρ M Qu Q w e q k =>
 ha.h A ι σ H ρ M _ _ w e q λus M1 ι1 vs H1 l1 w1 hl r1 ⟨ts,e1,q1⟩=>h A ι1 H1 M1 vs ts _ Q w1 (r1.sns w1 e1) q1 λt ι2 z H2 l2 w2 r2 q2=>k _ M1 ι2 z H2 (l1.trans l2) w2 (.p r2) q2⟩
end
section
theorem vO(ha:ZA n tl ul):ZE (tCB rLenL tl) (uLen vd ul):=⟨λA ι σ H ρ M Qu Q w e q k =>
 ha.h A ι σ H ρ M _ _ w e q λus M1 ι1 vs H1 l1 w1 hl r1 ⟨x,ys,e1,e2,q1⟩=>by
  subst e1;cases r1 with
  |cons r q =>
   cases q;obtain⟨p,zs,rfl,h1,h2⟩:=vG w1 r e2;exact⟨p,zs,rfl,h1,by rw[h2.len]; exact k _ M1 ι1 _ H1 l1 w1 (.p (.int _)) q1⟩⟩
end
section
theorem zt  : ZO xk Xz:=⟨lo_none ⟩
end
section
theorem vH(ha:ZE ta ua):ZO (Zu ta) (uPart ua):=⟨λA ι σ H ρ M Qu Q w e q k =>
 ha.h A ι σ H ρ M _ _ w e q λx M1 ι1 v H1 l1 w1 r1 ⟨i,ex,q1⟩=>by
  subst ex;cases r1 with
  |p r=>cases r; exact⟨i,rfl,k _ M1 ι1 H1 l1 w1 q1⟩⟩
end
section
theorem xS(ha:ZE ta ua)(h1:ZO t1 u1)(h2:ZO t2 u2):ZE (tSl (rSlL Ξ) ta t1 t2) (uSl ua u1 u2):=⟨λA ι σ H ρ M Qu Q w e q k =>
 ha.h A ι σ H ρ M _ _ w e q λx M1 ι1 v H1 l1 w1 r1 q1=>h1.h A ι1 σ H1 ρ M1 _ _ w1 (e.le l1) q1 λlo M2 ι2 H2 l2 w2 q2=>h2.h A ι2 σ H2 ρ M2 _ _ w2 (e.le (l1.trans l2)) q2 λhi M3 ι3 H3 l3 w3 ⟨ts,es,q3⟩=>by
  obtain⟨p,vs,rfl,h4,h5⟩:=((r1.le (l2.trans l3)).sn w3 es).lst_inv;exact⟨p,vs,rfl,SqL.of h4,λr hr=>k _ M3 ι3 _ _ (((l1.trans l2).trans l3).trans (.fresh hr)) (w3.fresh hr) (.p (zo w3 hr (cut_rep h5))) q3⟩⟩
end
section
theorem vN(ha:ZE ta ua):ZI (Yl Ξ ta) (uIter ua):=⟨λA ι σ H ρ M Qu R w e q k =>
 ha.h A ι σ H ρ M _ _ w e q λx M1 ι1 v H1 l1 w1 r1 ⟨us,eu,q1⟩=>by
  obtain⟨p,vs,rfl,h1,h2⟩:=vG w1 r1 eu;refine⟨p,rfl,⟨vs,SqL.of h1⟩,k _ M1 ι1 _ H1 l1 w1 ?_ q1⟩;intro A' ι2 H2 M2 i l w2 ok;obtain⟨p',vs2,e2,h3,h4⟩:=vG w2 (r1.lea l) ok;cases e2;have hl:=h4.len;refine⟨λhi=>?_,λhi=>⟨vs2,SqL.of h3,by rw[hl]; exact D2 hi.symm⟩⟩;have hx:vs2[i]?=some (vs2[i]'(by rw[hl]; exact hi)):=Uk _;refine⟨⟨vs2,_,SqL.of h3,hx⟩,λx H' y=>?_⟩;obtain⟨rfl,y⟩:=y;have hx2:=y vs2 (SqL.of h3);obtain⟨z,hz,rz⟩:=Paired.getL h4 hx2;exact⟨z,hz, .refl _ _,w2,rz⟩⟩
end
section
theorem ci_enum(ha:ZA n tl ul):ZI (Gm Ξ tl) (uEnum ul):=⟨λA ι σ H ρ M Qu R w e q k =>
 ha.h A ι σ H ρ M _ _ w e q λxs M1 ι1 vs1 H1 l1 w1 hn r0 ⟨x,ts,ex,eu,q1⟩=>by
  subst ex;cases r0 with
  |cons r1 r0 =>
  cases r0;obtain⟨p,vs,rfl,h1,h2⟩:=vG w1 r1 eu;refine⟨p,vs,rfl,SqL.of h1,k _ M1 ι1 _ H1 l1 w1 ?_ q1⟩;intro A' ι2 H2 M2 i l w2 ok;obtain⟨p',vs2,e2,h3,h4⟩:=vG w2 (r1.lea l) ok;cases e2;have h5:=h4.pures;have hl:=h5.len;refine⟨λhi=>?_,λhi=>⟨vs2,SqL.of h3,by rw[hl]; exact D2 hi.symm⟩⟩;have hx:vs2[i]?=some (vs2[i]'(by rw[hl]; exact hi)):=Uk _;refine⟨⟨vs2,_,SqL.of h3,hx⟩,λx H' y=>?_⟩;obtain⟨r,z,rfl,hr,rfl,y⟩:=y;have hx2:=y vs2 (SqL.of h3);obtain⟨t,ht,rt⟩:=Paired.getL h5 hx2;exact⟨_,⟨t,ht,rfl⟩, .fresh hr,w2.fresh hr, .p (Xb w2 hr (.cons (.int _) (.cons rt .nil)))⟩⟩
end
section
theorem ci_rev(ha:ZA n tl ul):ZI (iRev Ξ tl) (uRev ul):=⟨λA ι σ H ρ M Qu R w e q k =>
 ha.h A ι σ H ρ M _ _ w e q λxs M1 ι1 vs1 H1 l1 w1 hn r0 ⟨x,us,ex,eu,q1⟩=>by
  subst ex;cases r0 with
  |cons r1 r0 =>
  cases r0;obtain⟨p,vs,rfl,h1,h2⟩:=vG w1 r1 eu;refine⟨p,vs,rfl,SqL.of h1,k _ M1 ι1 _ H1 l1 w1 ?_ q1⟩;intro A' ι2 H2 M2 i l w2 ok;obtain⟨p',vs2,e2,h3,h4⟩:=vG w2 (r1.lea l) ok;cases e2;have hl:=h4.len;have hl0:=h2.len;refine⟨λhi=>?_,λhi=>by show vs.length=i; rw[hl0]; exact hi.symm⟩;refine⟨⟨by rw[hl0]; exact hi,vs2,SqL.of h3,by rw[hl,hl0]⟩,λx H' y=>?_⟩;obtain⟨rfl,y⟩:=y;have hx2:=y vs2 (SqL.of h3);obtain⟨z,hz,rz⟩:=Paired.getL h4 hx2;exact⟨z,by rw[<-hl0]; exact hz, .refl _ _,w2,rz⟩⟩
end
section
theorem zO(ha:ZA n tl ul):ZI (Gk tl) (uRng1 ul):=⟨λA ι σ H ρ M Qu R w e q k =>
 ha.h A ι σ H ρ M _ _ w e q λxs M1 ι1 vs1 H1 l1 w1 hn r0 ⟨j,ex,j0,j1,q1⟩=>by
  subst ex;cases r0 with
  |cons r1 r0 =>
  cases r0;cases r1 with
  |p r =>
  cases r;have:=itr_ok (A:=A) (ι:=ι1) (H:=H1) (lo:=0) (n:=j.toNat);simp only[R7] at this;exact⟨j,rfl,j0,j1,k _ M1 ι1 _ H1 l1 w1 this q1⟩⟩
end
section
theorem qm(i:Nat):ZG (vc i) (YB i):=⟨λA ι σ H ρ M v u Qu Q w e r q k=>k _ M ι _ H (.refl _ _) w (e.put i r) q⟩
end
section
theorem xP(i j:Nat):ZG (gTup Ξ 2 (vB (vc i) (vB (vc j) gNil))) (YA i j):=⟨λA ι σ H ρ M v u Qu Q w e r ⟨a,b,ei,q⟩ k=>by
 obtain⟨p,vs,rfl,h1,h2⟩:=zD w r ei;obtain⟨x,y,rfl,r1,r2⟩:=rep2 h2;exact Kl h1 (k _ M ι _ H (.refl _ _) w ((e.put i r1).put j r2) q)⟩
end
section
theorem zL(i j l:Nat):ZG (gTup Ξ 3 (vB (vc i) (vB (vc j) (vB (vc l) gNil)))) (Zs i j l):=⟨λA ι σ H ρ M v u Qu Q w e r ⟨a,b,c,ei,q⟩ k=>by
 obtain⟨p,vs,rfl,h1,h2⟩:=zD w r ei;obtain⟨x,y,z,rfl,r1,r2,r3⟩:=rep3 h2;exact VX h1 (k _ M ι _ H (.refl _ _) w (((e.put i r1).put j r2).put l r3) q)⟩
end
section
theorem Kw(ha:ZE ta ua)(hb:ZE tb ub):ZG (gSub ta tb rSetL) (uSub ua ub):=⟨λA ι σ H ρ M v u Qu Q w e r q k =>
 ha.h A ι σ H ρ M _ _ w e q λo M1 ι1 v1 H1 l1 w1 r1 q1=>hb.h A ι1 σ H1 ρ M1 _ _ w1 (e.le l1) q1 λi M2 ι2 v2 H2 l2 w2 r2 ⟨kk,us,z,j,eo,em,ei,ej,q2⟩=>by
  subst eo ei;cases r2 with
  |p r2 =>
  cases r2;have r1':=r1.le l2;cases r1' with
  |m ek =>
  obtain⟨vs,h1,h2⟩:=w2.obj kk _ _ ek em;have hm:=Um ek;refine⟨_,vs,z,j,rfl,rfl,h1,by rw[h2.len]; exact ej,k _ _ ι2 _ _ ((l1.trans l2).trans (.put hm)) (w2.put (mo:=.lst (us.set j u)) ek ⟨_,upd_same, ?_⟩) (e.le ((l1.trans l2).trans (.put hm))) q2⟩;exact RepUs.le (.put hm) (Paired.put (r.le (l1.trans l2)) j h2)⟩
end
section
theorem zd(i:Nat)(h:xU bs n i=true:=by rfl):ZX bs n (vc i) (YB i):=⟨λA ι σ H ρ M v u Qu Q hl w e r q k =>
 k _ _ (e.put i r) ((ExtS.refl _).put (jF hl h)) (by simp) q⟩
end
section
theorem Xh(i j l:Nat)(h:xU bs n i=true:=by rfl)(h2:xU bs n j=true:=by rfl)(h3:xU bs n l=true:=by rfl):ZX bs n (gTup Ξ 3 (vB (vc i) (vB (vc j) (vB (vc l) gNil)))) (Zs i j l):=⟨λA ι σ H ρ M v u Qu Q hl w e r ⟨a,b,c,ei,q⟩ k=>by
 obtain⟨p,vs,rfl,h1,hh⟩:=zD w r ei;obtain⟨x,y,z,rfl,r1,r2,r3⟩:=rep3 hh;exact VX h1 (k _ _ (((e.put i r1).put j r2).put l r3) ((((ExtS.refl _).put (jF hl h)).put (jF hl h2)).put (jF hl h3)) (by simp) q)⟩
end
section
theorem Ve:ZT tYes (λ_ M Q=>Q true M):=⟨lt_yes ⟩
end
section
theorem zu(hi:ZI wi ui)(hg:ZX bs n g ug)(ht:ZT tt ut)(he:ZE te ue):ZE (jc wi bs n g tt te) (uComp ui bs n ug ut ue):=⟨by
 intro A ι σ H ρ M Qu Q w e q k;refine hi.h A ι σ H ρ M _ _ w e q λit M1 ι1 J H1 l1 w1 hJ q1 acc hacc=>?_;obtain⟨hlen,hsz,Iv,I0,It,Id⟩:=q1;have hσ:σ.length=bs.length:=by rw[<-hlen]; exact e.len
 have e1:=e.le l1;have na:¬Av A ι1 acc:=w1.nA hacc;have key:∀ι2 H2,Le ι1 H1 ι2 H2->(∀x∈ι2,¬(A x\/x=acc))->Lea A ι1 H1 (λx=>A x\/x=acc) ι2 H2:=λι2 H2 l h=>by
  refine⟨let⟨n,e,_⟩:=l.ext; ⟨n,e⟩,λx o hx ex=>?_,l.xd⟩;obtain⟨a1,a2⟩:=l.av hx ex;refine⟨a1,λz=>?_⟩;rcases z with(z|z)|z
  ·exact a2 (.inl z)
  ·rw[z,hacc] at ex; cases ex
  ·exact a2 (.inr z)
 refine⟨λi m H2=>m=it.n-i/\i<=it.n/\∃ι2 M2 at' ys,Le ι1 H1 ι2 H2/\Wd (λx=>A x\/x=acc) ι2 H2 M2/\H2 acc=some (.lst ys)/\RepTs (Av (λx=>A x\/x=acc) ι2) H2 ys at'/\at'.length<=i/\Iv i at' M2,
  ⟨it.n,by simp,U4 _,ι1,M1, [], [], .fresh hacc,w1.addA hacc,upd_same, .nil,Up _,I0⟩, ?_⟩
 rintro i m H2 ⟨rfl,hin,ι2,M2,at',ys,l2,w2,hys,rys,hat,I2⟩;have lea:=key ι2 H2 l2 w2.na;by_cases hlt:i<it.n
 ·obtain⟨ok,step⟩:=It i at' M2 hlt hat I2
  obtain⟨jgo,jy⟩:=(hJ _ ι2 H2 M2 i lea w2 ok).1 hlt;refine .inr ⟨jgo,λH'=>∃ι2 M2 at' ys,Le ι1 H1 ι2 H'/\Wd (λx=>A x\/x=acc) ι2 H' M2/\H' acc=some (.lst ys)/\RepTs (Av (λx=>A x\/x=acc) ι2) H' ys at'/\at'.length<=i+1/\Iv (i+1) at' M2,λH' h=>⟨it.n-(i+1),by lia,rfl,hlt,h⟩,λx H3 y=>?_⟩;obtain⟨u,hu,l3,w3,r3⟩:=jy x H3 y;have l13:=l2.trans l3;have nacc:∀{ι':List Addr}{H':Hp}{M':MM},Wd (λx=>A x\/x=acc) ι' H' M'->acc∉ι':=λw z=>w.na acc z (.inr rfl);have ys3:H3 acc=some (.lst ys):=l3.fr _ _ hys (nacc w2);have env3:EnvR (λx=>A x\/x=acc) ι2 H3 (zN bs n σ) (Jf bs n ρ):=(e1.mask).lea (key ι2 H3 l13 w3.na);refine hg.h _ ι2 σ H3 _ M2 x u _ _ hσ w3 env3 r3 (step u hu) λρ4 σ4 e4 x4 len4 q4=>⟨⟨x4,len4⟩, ?_⟩;refine ht.h _ ι2 σ4 H3 ρ4 M2 _ _ w3 e4 q4 λb M5 ι5 H5 l5 w5 q5=>?_;have ys5:H5 acc=some (.lst ys):=l5.fr _ _ ys3 (nacc w3);have rys5:RepTs (Av (λx=>A x\/x=acc) ι5) H5 ys at':=Paired.mapP rys λ_ _ q=>(q.le l3).le l5;cases b with
  |false=>exact⟨ι5,M5,at',ys,l13.trans l5,w5,ys5,rys5,Rk hat,q5⟩
  |true =>
   refine he.h _ ι5 σ4 H5 ρ4 M5 _ _ w5 (e4.le l5) q5 λz M6 ι6 zv H6 l6 w6 r6 q6=>?_;obtain⟨t,rfl,q6⟩:=q6;have ys6:H6 acc=some (.lst ys):=l6.fr _ _ ys5 (nacc w5);refine⟨ys,ys6, ?_,ι6,M6,at'++[t],ys++[zv],((l13.trans l5).trans l6).updF hacc,(w6.updA (.inr rfl) ys6).2,upd_same, ?_,by rw[Uu,Di]; lia,q6⟩
   ·rw[rys.len]; lia
   ·have hl:=(w6.updA (o:=.lst (ys++[zv])) (.inr rfl) ys6).1
    cases r6 with
    |p r6=>exact Paired.app (Paired.mapP rys5 λ_ _ q=>(q.le l6).mono hl.av) (.cons (r6.mono hl.av) .nil)
 ·have ei:i=it.n:=by lia
  subst ei;obtain⟨ok,fin⟩:=Id at' M2 I2;refine .inl ⟨(hJ _ ι2 H2 M2 _ lea w2 ok).2 rfl,k _ M2 ι2 _ H2 (l1.trans l2) (w2.lessA λx hx=>.inl hx) (.p (.lstP (λz=>?_) hys (Paired.mapP rys λ_ _ q=>q.mono λx o hx ex=>⟨ex,λz=>hx (z.elim (λz=>.inl (.inl z)) .inr)⟩))) fin⟩;rcases z with z|z
  ·exact na (.inl z)
  ·exact w2.na acc z (.inr rfl)⟩
end
section
theorem qL  : ZS Vp uNext:=⟨ls_next ⟩
end
section
theorem qj(ha:ZS ts us)(hb:ZS ts' us'):ZS (tSeq ts ts') (uSeq us us'):=⟨λA ι σ H ρ M D E w e r q =>
 ha.h A ι σ H ρ M _ { E with nx:=us' E } w e ⟨λι1 σ1 H1 ρ1 M1 l w1 e1 q1=>hb.h A ι1 σ1 H1 ρ1 M1 D E w1 e1 (r.le l) q1,r.rt,r.bk,r.ct⟩ q⟩
end
section
theorem xE(ha:ZE ta ua):ZS (Zv ta) (uDrop ua):=⟨λA ι σ H ρ M D E w e r q =>
 ha.h A ι σ H ρ M _ _ w e q λx M1 ι1 v H1 l1 w1 r1 q1=>r.nx ι1 σ H1 ρ M1 l1 w1 (e.le l1) q1⟩
end
section
theorem qC(ha:ZE ta ua):ZS (tRet ta) (uRet ua):=⟨λA ι σ H ρ M D E w e r q =>
 ha.h A ι σ H ρ M _ _ w e q λx M1 ι1 v H1 l1 w1 r1 q1=>r.rt ι1 v H1 x M1 l1 w1 r1 q1⟩
end
section
theorem ve(hc:ZT tt ut)(ha:ZS ts us)(hb:ZS ts' us'):ZS (tIfS tt ts ts') (uIfS ut us us'):=⟨λA ι σ H ρ M D E w e r q =>
 hc.h A ι σ H ρ M _ _ w e q λc M1 ι1 H1 l1 w1 q1=>by
  cases c with
  |true=>exact ha.h A ι1 σ H1 ρ M1 D E w1 (e.le l1) (r.le l1) q1
  |false=>exact hb.h A ι1 σ H1 ρ M1 D E w1 (e.le l1) (r.le l1) q1⟩
end
section
theorem qx(ha:ZE ta ua)(hg:ZG g ug):ZS (tAsg ta g) (uAsg ua ug):=⟨λA ι σ H ρ M D E w e r q =>
 ha.h A ι σ H ρ M _ _ w e q λx M1 ι1 v H1 l1 w1 r1 q1=>hg.h A ι1 σ H1 ρ M1 v x _ _ w1 (e.le l1) r1 q1 λρ2 M2 ι2 σ2 H2 l2 w2 e2 q2=>r.nx ι2 σ2 H2 ρ2 M2 (l1.trans l2) w2 e2 q2⟩
end
section
theorem cs_aug(ha:ZE ta ua):ZS (tAug i ta (ipI f)) (uAug i f ua):=⟨λA ι σ H ρ M D E w e r ⟨a,ea,q⟩=>by
 obtain⟨x,h1,h2⟩:=e.get ea;cases h2 with
 |p h2 =>
 cases h2;refine⟨.int a,h1,ha.h A ι σ H ρ M _ _ w e q λy M1 ι1 v H1 l1 w1 r1 q1=>?_⟩;obtain⟨b,rfl,q1⟩:=q1;cases r1 with
 |p r1 =>
 cases r1;exact⟨a,b,rfl,rfl,r.nx ι1 _ H1 _ M1 l1 w1 ((e.le l1).put i (.p (.int _))) q1⟩⟩
end
section
theorem zc(hi:ZI wi ui)(hg:ZG g ug)(hb:ZS ts us):ZS (tFor wi g ts) (uFor ui ug us):=⟨by
 intro A ι σ H ρ M D E w e r q;refine hi.h A ι σ H ρ M _ _ w e q λit M1 ι1 J H1 l1 w1 hJ q1=>?_;obtain⟨Iv,I0,It,Id⟩:=q1;have r1:=r.le l1;refine⟨λi m σ2 H2=>m=it.n-i/\i<=it.n/\∃ι2 ρ2 M2,Le ι1 H1 ι2 H2/\Wd A ι2 H2 M2/\EnvR A ι2 H2 σ2 ρ2/\Iv i ρ2 M2,⟨it.n,by simp,U4 _,ι1,ρ,M1, .refl _ _,w1,e.le l1,I0⟩, ?_⟩;rintro i m σ2 H2 ⟨rfl,hin,ι2,ρ2,M2,l2,w2,e2,I2⟩;by_cases hlt:i<it.n
 ·obtain⟨ok,step⟩:=It i ρ2 M2 hlt I2
  obtain⟨jgo,jy⟩:=(hJ A ι2 H2 M2 i l2.lea w2 ok).1 hlt;refine .inr ⟨jgo,λσ' H'=>∃ι2 ρ2 M2,Le ι1 H1 ι2 H'/\Wd A ι2 H' M2/\EnvR A ι2 H' σ' ρ2/\Iv (i+1) ρ2 M2,λσ' H' h=>⟨it.n-(i+1),by lia,rfl,hlt,h⟩,λx H3 y=>?_⟩;obtain⟨u,hu,l3,w3,r3⟩:=jy x H3 y;refine hg.h A ι2 σ2 H3 ρ2 M2 x u _ _ w3 (e2.le l3) r3 (step u hu) λρ4 M4 ι4 σ4 H4 l4 w4 e4 q4=>?_;have l14:=(l2.trans l3).trans l4;exact hb.h A ι4 σ4 H4 ρ4 M4 _ { E with nx:=Iv (i+1),ct:=Iv (i+1),bk:=E.nx } w4 e4 ⟨λι5 σ5 H5 ρ5 M5 l5 w5 e5 q5=>⟨ι5,ρ5,M5,l14.trans l5,w5,e5,q5⟩,(r1.le l14).rt,(r1.le l14).nx,λι5 σ5 H5 ρ5 M5 l5 w5 e5 q5=>⟨ι5,ρ5,M5,l14.trans l5,w5,e5,q5⟩⟩ q4
 ·have ei:i=it.n:=by lia
  subst ei;obtain⟨ok,fin⟩:=Id ρ2 M2 I2;exact .inl ⟨(hJ A ι2 H2 M2 _ l2.lea w2 ok).2 rfl,r1.nx ι2 σ2 H2 ρ2 M2 l2 w2 e2 fin⟩⟩
end
section
theorem kU(hc:ZT tt ut)(hb:ZS ts us):ZS (JW tt ts) (uWhile ut us):=⟨by
 intro A ι σ H ρ M D E w e r q;obtain⟨W,⟨m0,W0⟩,step⟩:=q;refine⟨λm σ2 H2=>∃ι2 ρ2 M2,Le ι H ι2 H2/\Wd A ι2 H2 M2/\EnvR A ι2 H2 σ2 ρ2/\W m ρ2 M2,⟨m0,ι,ρ,M, .refl _ _,w,e,W0⟩, ?_⟩;rintro m σ2 H2 ⟨ι2,ρ2,M2,l2,w2,e2,W2⟩;refine hc.h A ι2 σ2 H2 ρ2 M2 _ _ w2 e2 (step m ρ2 M2 W2) λb M3 ι3 H3 l3 w3 q3=>?_;cases b with
 |false=>exact r.nx ι3 σ2 H3 ρ2 M3 (l2.trans l3) w3 (e2.le l3) q3
 |true =>
  obtain⟨N,hN,q3⟩:=q3;have l13:=l2.trans l3;refine⟨λσ' H'=>∃ι4 ρ4 M4,Le ι H ι4 H'/\Wd A ι4 H' M4/\EnvR A ι4 H' σ' ρ4/\N ρ4 M4, ?_, ?_⟩
  ·rintro σ' H' ⟨ι4,ρ4,M4,l4,w4,e4,n4⟩
   obtain⟨m',hm,W4⟩:=hN ρ4 M4 n4;exact⟨m',hm,ι4,ρ4,M4,l4,w4,e4,W4⟩
  ·exact hb.h A ι3 σ2 H3 ρ2 M3 _ { E with nx:=N,ct:=N,bk:=E.nx } w3 (e2.le l3) ⟨λι5 σ5 H5 ρ5 M5 l5 w5 e5 q5=>⟨ι5,ρ5,M5,l13.trans l5,w5,e5,q5⟩,(r.le l13).rt,(r.le l13).nx,λι5 σ5 H5 ρ5 M5 l5 w5 e5 q5=>⟨ι5,ρ5,M5,l13.trans l5,w5,e5,q5⟩⟩ q3⟩
end
section
theorem Xi(h:MeL r s)(ha:ZE ta ua)(hl:ZA n tl ul):ZE (tLM r ta tl) (uMe s ua ul):=⟨λA ι σ H ρ M Qu Q w e q k =>
 ha.h A ι σ H ρ M _ _ w e q λo M1 ι1 v H1 l1 w1 r1 ⟨kk,eo,⟨zs,hz⟩,q1⟩=>by
  subst eo;cases r1 with
  |m ek =>
  rename_i a;obtain⟨xs1,h1,_⟩:=w1.obj kk a _ ek hz;refine⟨a,xs1,rfl,h1,hl.h A ι1 σ H1 ρ M1 _ _ w1 (e.le l1) q1 λws M2 ι2 ys H2 l2 w2 hn r2 q2=>?_⟩;obtain⟨us,hus,q2⟩:=q2;have ek2:ι2[kk]?=some a:=by
   obtain⟨nn,rfl,_⟩:=l2.ext;rw[Uo (Uj.mp ek).1]; exact ek
  obtain⟨xs2,h3,h4⟩:=w2.obj kk a _ ek2 hus;have hm:=Um ek2;exact h A ι2 H2 M2 kk a xs2 ys us ws _ Q w2 ek2 h3 hus h4 r2 q2 λz us' zv xs' rx rz qz=>k z _ ι2 zv _ ((l1.trans l2).trans (.put hm)) (w2.put (mo:=.lst us') ek2 ⟨xs',upd_same,RepUs.le (.put hm) rx⟩) (rz.le (.put hm)) qz⟩
end
section
theorem qD(ha:ZA n tl ul):ZE (jQ (spU G) [] E tl) (uCall G ul):=⟨λA ι σ H ρ M Qu Q w e q k =>
 ha.h A ι σ H ρ M _ _ w e q λus M1 ι1 vs H1 l1 w1 hn r1 q1=>by
  rw[U0];exact⟨A,ι1,M1,us,_,w1,r1,q1,λu M2 ι2 v H2 l2 w2 r2 q2=>k u M2 ι2 v H2 (l1.trans l2) w2 r2 q2⟩⟩
end
section
theorem qA(ha:ZA n tl ul):ZE (jQ (spP G) [] E tl) (YG G ul):=⟨λA ι σ H ρ M Qu Q w e q k =>
 ha.h A ι σ H ρ M _ _ w e q λus M1 ι1 vs H1 l1 w1 hn r1 ⟨ts,et,q1⟩=>by
  rw[U0];rw[zR et] at r1;exact⟨Av A ι1,ts,_,w1.domAv,r1.pures,q1,λt v H2 s r2 q2=>k _ M1 ι1 v H2 (l1.trans s.le) (w1.same s) (.p r2) q2⟩⟩
end
section
theorem Zm(ha:ZE ta ua)(hb:ZE tb ub):ZE (YN ta tb) (uDGet ua ub):=⟨λA ι σ H ρ M Qu Q w e q k =>
 ha.h A ι σ H ρ M _ _ w e q λx M1 ι1 v H1 l1 w1 r1 q1=>hb.h A ι1 σ H1 ρ M1 _ _ w1 (e.le l1) q1 λy M2 ι2 v2 H2 l2 w2 r2 ⟨kk,kvs,key,z,ex,em,ey,ez,q2⟩=>by
  subst ex ey;have r1':=r1.le l2;cases r1' with
  |m ek =>
  obtain⟨gs,h1,h2⟩:=w2.obj kk _ _ ek em;have hv:=Vk (k:=key) h2;rw[ez] at hv;obtain⟨x',hx,rx⟩:=hv;refine⟨_,x',rfl, ?_,k z M2 ι2 x' H2 (l1.trans l2) w2 rx q2⟩;have:=DGet.k (k:=key) h1;rw[hx] at this;rw[j7 r2];exact this⟩
end
section
theorem Kz(hc:ZT tt ut)(h1:Sc v1 t1)(h2:Sc v2 t2):ZE (tIf tt (tC v1) (tC v2)) (uIfC ut t1 t2):=⟨λA ι σ H ρ M Qu Q w e q k =>
 hc.h A ι σ H ρ M _ _ w e q λc M1 ι1 H1 l1 w1 q1=>by
  cases c with
  |true=>exact k _ M1 ι1 _ H1 l1 w1 (.p h1.rep) q1
  |false=>exact k _ M1 ι1 _ H1 l1 w1 (.p h2.rep) q1⟩
end
section
theorem ce_ixK(h:KTu Ξ p vs)(hs:Paired Sc vs ts)(hb:ZE tb ub):ZE (tOp (rIxT Ξ) (tC (.ref p)) tb) (uIxK ts ub):=⟨λA ι σ H ρ M Qu Q w e q k =>
 hb.h A ι σ H ρ M _ _ w e q λy M1 ι1 v1 H1 l1 w1 r1 ⟨i,ey,t,et,q1⟩=>by
  subst ey;cases r1 with
  |p r =>
  cases r;obtain⟨x,hx,sx⟩:=atI_pair hs et;exact⟨p,vs,i,x,rfl,rfl,h H1,hx,k _ M1 ι1 x H1 l1 w1 (.p sx.rep) q1⟩⟩
end
section
theorem GY(h:KTu Ξ p vs):ZE (tCB (rLenA Ξ) (zK (tC (.ref p)) tNil)) (uC (.int vs.length)):=⟨λA ι σ H ρ M Qu Q w e q k =>
 ⟨p,vs,rfl, .inr (h H),k _ M ι _ H (.refl _ _) w (.p (.int _)) q⟩⟩
end
section
theorem GZ(c:TyC)(ha:ZE ta ua):ZE (tCB (rIsi Ξ) (zK ta (zK (tC (.ty c.name)) tNil))) (uIsi c ua):=⟨λA ι σ H ρ M Qu Q w e q k =>
 ha.h A ι σ H ρ M _ _ w e q λx M1 ι1 v1 H1 l1 w1 r1 ⟨b,eb,q1⟩=>by
  obtain⟨t,h1,h2⟩:=isi_rep (Ξ:=Ξ) w1 r1 eb;exact⟨v1,c.name,t,b,rfl,h1,h2,k _ M1 ι1 _ H1 l1 w1 (.p (.bl _)) q1⟩⟩
end
section
theorem JE  : ZE JY uDNew:=⟨le_dnew ⟩
end
section
theorem JC(hd:ZE td ud)(hy:ZE ty uy)(hv:ZE tv uv):ZS (sDPut td ty tv) (uDPut ud uy uv):=⟨λA ι σ H ρ M D E w e r q =>
 hv.h A ι σ H ρ M _ _ w e q λv M1 ι1 vv H1 l1 w1 r1 q1=>hd.h A ι1 σ H1 ρ M1 _ _ w1 (e.le l1) q1 λx M2 ι2 vx H2 l2 w2 r2 q2=>hy.h A ι2 σ H2 ρ M2 _ _ w2 (e.le (l1.trans l2)) q2 λy M3 ι3 vy H3 l3 w3 r3 ⟨kk,kvs,key,ex,em,ey,hz,q3⟩=>by
  subst ex ey;have r2':=r2.le l3;cases r2' with
  |m ek =>
  obtain⟨gs,h1,h2⟩:=w3.obj kk _ _ ek em;have hmem:=Um ek;have l4:=(l1.trans l2).trans l3;refine⟨_,_,rfl, ?_,r.nx ι3 σ _ ρ _ (l4.trans (.put hmem)) (w3.put (mo:=.dK (putU kvs key v)) ek ⟨_,upd_same,Paired.mapP (Wc h2 (r1.le (l2.trans l3))) λ_ _ q=>⟨q.1,q.2.le (.put hmem)⟩⟩) (e.le (l4.trans (.put hmem))) q3⟩;rw[j7 r3];exact DPut.k (k:=key) h1 (by rw[h2.len]; exact hz)⟩
end
section
theorem ce_idxK(T3:Tup3 Ξ mg nm p x y z)(ha:ZA n tl ul):ZE (tBM Ξ "tuple" (rIdxT p x y z) (tC (.ref p)) tl) (uIdxK [x,y,z] ul):=⟨λA ι σ H ρ M Qu Q w e q k =>
 ⟨T3.ty H,ha.h A ι σ H ρ M _ _ w e q λus M1 ι1 vs H1 l1 w1 hn r1 ⟨t,j,eu,ej,hf,q1⟩=>by
  subst eu;cases r1 with
  |cons r q' =>
  cases q';cases r with
  |p r =>
  cases r;exact⟨t,j,rfl,rfl,ej,hf,k _ M1 ι1 _ H1 l1 w1 (.p (.int _)) q1⟩⟩⟩
end
section
theorem jP(ha:ZE ta ua)(hv:ZE tv uv):ZS (sFld Ξ ta tv f) (XA Ξ ua uv f):=⟨λA ι σ H ρ M D E w e r q =>
 hv.h A ι σ H ρ M _ _ w e q λy M1 ι1 vy H1 l1 w1 r1 q1=>ha.h A ι1 σ H1 ρ M1 _ _ w1 (e.le l1) q1 λx M2 ι2 vx H2 l2 w2 r2 ⟨kk,C,fs,ex,em,c,na,hz,q2⟩=>by
  subst ex;cases r2 with
  |m ek =>
  rename_i a;obtain⟨dx,gs,h1,h2,h3,h4⟩:=w2.obj kk _ _ ek em;have hmem:=Um ek;have l4:=l1.trans l2;have hne:dx≠a:=λz=>by rw[z,h1] at h2; cases h2
  refine⟨a,C,dx,gs,rfl,h1,c,na,by rw[h4.len]; exact hz,r.nx ι2 σ _ ρ _ (l4.trans (.put hmem)) (w2.put (mo:=.ins C (VN f y fs)) ek ⟨dx,_,upd_same,by rw[upd_ne hne]; exact h2,h3,Paired.mapP (putF_rep h4 (r1.le l2)) λ_ _ q=>⟨q.1,q.2.le (.put hmem)⟩⟩) (e.le (l4.trans (.put hmem))) q2⟩⟩
end
section
theorem ce_make(hl:ZA n tl ul):ZE (tMake C (spU G) [] E tl) (uMake C G ul):=⟨λA ι σ H ρ M Qu Q w e q k =>
 hl.h A ι σ H ρ M _ _ w e q λus M1 ι1 vs H1 l1 w1 hn r1 q1 x dx hx hdx hne=>by
  have hx2:upd H1 dx (.own x) x=none:=by rw[upd_ne (Ne.symm hne)]; exact hx
  have l2:Le ι1 H1 ι1 (upd H1 dx (.own x)):=.fresh hdx;have w2:=w1.fresh (o:=.own x) hdx;have l3:Le ι1 (upd H1 dx (.own x)) (ι1++[x]) (upd (upd H1 dx (.own x)) x (.ins C dx [])):=.push hx2;have w3:Wd A (ι1++[x]) (upd (upd H1 dx (.own x)) x (.ins C dx [])) (M1++[.ins C []]):=w2.push (mo:=.ins C []) hx2 ⟨dx, [],upd_same,by rw[upd_ne hne,upd_same],λz=>by
   rcases Us.mp z with z|z
   ·exact w1.nin hdx z
   ·exact hne (Uq.mp z), .nil⟩
  have rx:RepU A (ι1++[x]) (upd (upd H1 dx (.own x)) x (.ins C dx [])) (.ref x) (.m M1.length):=.m (by rw[<-w1.len]; exact xM);rw[U0];refine⟨A,ι1++[x],_,_,_,w3, .cons rx (r1.le (l2.trans l3)),q1,λu M4 ι4 v4 H4 l4 w4 r4 q4=>?_⟩;obtain⟨eu,q4⟩:=q4;subst eu;cases r4 with
  |p r4 =>
  cases r4;exact⟨rfl,k _ M4 ι4 _ H4 (l1.trans ((l2.trans l3).trans l4)) w4 (rx.le l4) q4⟩⟩
end
section
theorem GW(ha:ZE ta ua)(hb:ZE tb ub):ZE (tOp rRep ta tb) (Xy ua ub):=⟨λA ι σ H ρ M Qu Q w e q k =>
 ha.h A ι σ H ρ M _ _ w e q λx M1 ι1 v H1 l1 w1 r1 q1=>hb.h A ι1 σ H1 ρ M1 _ _ w1 (e.le l1) q1 λy M2 ι2 v2 H2 l2 w2 r2 ⟨xs,kk,ex,ey,k0,k1,hz,q2⟩=>by
  subst ex ey;have r1':=r1.le l2;cases r1' with
  |p r1 =>
  cases r2 with
  |p r2 =>
  cases r2;obtain⟨p,vs,rfl,na,h1,h2⟩:=r1.lst_inv;refine⟨p,kk,vs,rfl,rfl,h1,k0,k1,by rw[h2.len]; exact hz,λl hl=>?_⟩;have:=zG w2 hl (RepTs.ups (j2 h2 kk.toNat));exact k _ _ _ _ _ ((l1.trans l2).trans (.push hl)) this.1 this.2 q2⟩
end
section
theorem Zk(i j l o:Nat):ZG (gTup Ξ 4 (vB (vc i) (vB (vc j) (vB (vc l) (vB (vc o) gNil))))) (Yz i j l o):=⟨λA ι σ H ρ M v u Qu Q w e r ⟨a,b,c,d,ei,q⟩ k=>by
 obtain⟨p,vs,rfl,h1,h2⟩:=zD w r ei;obtain⟨x,y,z,s,rfl,r1,r2,r3,r4⟩:=rep4 h2;exact⟨p,_,rfl,SqT.of h1,rfl,_,_,rfl,_,_,rfl,_,_,rfl,_,_,rfl,rfl,k _ M ι _ H (.refl _ _) w ((((e.put i r1).put j r2).put l r3).put o r4) q⟩⟩
end
section
variable {P:Program} {w:World} {Ξ:PySem.W.Frag} {mg:Str->Option Value} {base:Heap}
theorem Fun.okQ{st:Stmt}(F:Fun Ξ x qual st f fd)(S:FnScope N ps (ql st))(len:∀vs H Q E,sp vs H Q E->vs.length=ps.length)(hbody:∀(cdv:Value)(A:Around)(outer:List Env)(s:Shared)(H:Hp)(vs:List V)(Q:VK)(E:XK),Room k (A.deeper (envOfC qual (ql st) s.heap.objs.size f cdv))->sp vs H Q E ->
   ∃t,QSs (cxOf CX0 P w Ξ mg base N qual (ql st) f cdv A outer s H E).nox (vS st) t/\t { nx:=λ_ H'=>Q .non H',rt:=Q } (start N vs) H):FnOk P w Ξ mg base CX0 (k+1) f fd ps sp :=
 F.ok S len λcdv A outer s H vs Q E hr hsp=>by
  obtain⟨t,h,q⟩:=hbody cdv A outer s H vs Q E hr hsp;exact⟨t,h.h,q⟩
theorem Fun.zU{st:Stmt}(F:Fun Ξ x qual st f fd)(S:FnScope N ps (ql st))(len:∀us M Qu,G us M Qu->us.length=ps.length)(hbody:∀(cdv:Value)(A:Around)(outer:List Env)(s:Shared)(H:Hp)(E:XK),Room k (A.deeper (envOfC qual (ql st) s.heap.objs.size f cdv)) ->
   ∃t,QSs (cxOf CX0 P w Ξ mg base N qual (ql st) f cdv A outer s H E).nox (vS st) t/\∃u,ZS t u/\∀us M Qu,G us M Qu->u { nx:=λ_ M'=>Qu (.p .non) M',rt:=Qu } (xW N us) M):FnOk P w Ξ mg base CX0 (k+1) f fd ps (spU G) :=
 F.okU S len λcdv A outer s H E hr=>by
  obtain⟨t,h,u,hu,q⟩:=hbody cdv A outer s H E hr;exact⟨t,h.h,u,hu.h,q⟩
theorem Fun.zV{st:Stmt}(F:Fun Ξ x qual st f fd)(S:FnScope N ps (ql st))(len:∀us M Qu,G us M Qu->us.length=ps.length)(hbody:∀(cdv:Value)(A:Around)(outer:List Env)(s:Shared)(H:Hp)(E:XK),Room k (A.deeper (envOfC qual (ql st) s.heap.objs.size f cdv)) ->
   ∃t,QSs (cxOf CX0 P w Ξ mg base N qual (ql st) f cdv A outer s H E).nox (vS st) t/\∃u,ZS t u/\∀us M M1 Qu,M1=M->G us M Qu->u { nx:=λ_ M'=>zZ M M'/\Qu (.p .non) (M'.take M.length),rt:=λz M'=>zZ M M'/\∃t,frzB M.length 4 M' z=some t/\Qu (.p t) (M'.take M.length) } (xW N us) M1):FnOk P w Ξ mg base CX0 (k+1) f fd ps (spU G) :=
 F.okV S len λcdv A outer s H E hr=>by
  obtain⟨t,h,u,hu,q⟩:=hbody cdv A outer s H E hr;exact⟨t,h.h,u,hu.h,λus M Qu g=>q us M M Qu rfl g⟩
theorem Fun.zP{st:Stmt}(F:Fun Ξ x qual st f fd)(S:FnScope N ps (ql st))(len:∀ts Qt,G ts Qt->ts.length=ps.length)(hbody:∀(cdv:Value)(A:Around)(outer:List Env)(s:Shared)(H:Hp)(E:XK),Room k (A.deeper (envOfC qual (ql st) s.heap.objs.size f cdv)) ->
   ∃t,QSs (cxOf CX0 P w Ξ mg base N qual (ql st) f cdv A outer s H E).nox (vS st) t/\∃u,ZS t u/\∀ts Qt,G ts Qt->u { nx:=λ_ _=>Qt .non,rt:=λz M'=>∃t,frzN 4 M' z=some t/\Qt t } (xW N (ts.map U.p)) []):FnOk P w Ξ mg base CX0 (k+1) f fd ps (spP G) :=
 F.okP S len λcdv A outer s H E hr=>by
  obtain⟨t,h,u,hu,q⟩:=hbody cdv A outer s H E hr;exact⟨t,h.h,u,hu.h,q⟩
end
abbrev UX:=Str->Option Int->MM->Prop
def pT:Option Int->T
 |none=>.non
 |some n=>.int n
theorem pT_rep:∀p:Option Int,RepT A H (pV p) (pT p)
 |none=>.non
 |some _=>.int _
theorem pT_inv:∀{p:Option Int},RepT A H v (pT p)->v=pV p
 |none,r=>by cases r; rfl
 |some _,r=>by cases r; rfl
abbrev UXe:=UEnv->MM->UK->UX->Prop
def spX(mg:Str->Option Value)(G:List U->MM->UK->UX->Prop):Sp:=λvs H Q E=>∃A ι M us Qu Xu,Wd A ι H M/\RepUs A ι H vs us/\G us M Qu Xu /\
 (∀u M' ι' v H',Le ι H ι' H'->Wd A ι' H' M'->RepU A ι' H' v u->Qu u M'->Q v H')/\∀nm p C d M' ι' H',mg nm=some C->PartIs d H' p->Le ι H ι' H'->Wd A ι' H' M'->Xu nm p M'->E C d H'
structure ZXe(mg:Str->Option Value)(tx:TX)(ux:UXe):Prop where
 h:∀(A:Addr->Prop)(ι:List Addr)(σ:St)(H:Hp)(ρ:UEnv)(M:MM)(Qu:UK)(Xu:UX)(Q:VK)(E:XK),Wd A ι H M->EnvR A ι H σ ρ->ux ρ M Qu Xu ->
  (∀u M' ι' v H',Le ι H ι' H'->Wd A ι' H' M'->RepU A ι' H' v u->Qu u M'->Q v H')->(∀nm p C d M' ι' H',mg nm=some C->PartIs d H' p->Le ι H ι' H'->Wd A ι' H' M'->Xu nm p M'->E C d H')->tx σ H Q E
section
def uCallX(G:List U->MM->UK->UX->Prop)(ul:UA):UXe:=λρ M Q X=>ul ρ M λus M1=>G us M1 Q X
theorem cx_call(ha:ZA n tl ul):ZXe mg (tCallX (spX mg G) tl) (uCallX G ul):=⟨λA ι σ H ρ M Qu Xu Q E w e q k kx =>
 ha.h A ι σ H ρ M _ _ w e q λus M1 ι1 vs H1 l1 w1 hn r1 q1 =>
  ⟨A,ι1,M1,us,_,_,w1,r1,q1,λu M2 ι2 v H2 l2 w2 r2 q2=>k u M2 ι2 v H2 (l1.trans l2) w2 r2 q2,λnm p C d M2 ι2 H2 hm hp l2 w2 q2=>kx nm p C d M2 ι2 H2 hm hp (l1.trans l2) w2 q2⟩⟩
def tagU(nm:Str)(p:Option Int)(ρ:UEnv):UEnv:=some (.p (.str nm))::some (.p (pT p))::ρ
theorem YL(e:EnvR A ι H σ ρ):EnvR A ι H (some (.str nm)::some (pV p)::σ) (tagU nm p ρ):=.cons (λu q=>by cases q; exact⟨_,rfl, .p (.str _)⟩) (.cons (λu q=>by cases q; exact⟨_,rfl, .p (pT_rep p)⟩) e)
def uDropX(ux:UXe):US:=λE ρ M=>ux ρ M (λ_ M1=>E.nx ρ M1) λnm p M1=>E.bk (tagU nm p ρ) M1
theorem cs_dropX(h:ZXe mg tx ux):ZS (tDropX tx mg) (uDropX ux):=⟨λA ι σ H ρ M D E w e r q =>
 h.h A ι σ H ρ M _ _ _ _ w e q (λx M1 ι1 v H1 l1 w1 r1 q1=>r.nx ι1 σ H1 ρ M1 l1 w1 (e.le l1) q1) λnm p C d M1 ι1 H1 hm hp l1 w1 q1=>⟨nm,p,hm,hp,r.bk ι1 _ H1 _ M1 l1 w1 (YL (e.le l1)) q1⟩⟩
def uTry(n:Nat)(ub:US)(l:List (Str×(Option Int->US))):US:=λE ρ M=>ub { E with bk:=λτ M'=>∃nm p ρ' u,τ=tagU nm p ρ'/\ρ'.length=n/\l.lookup nm=some u/\u p E ρ' M' } ρ M
structure ZHs(l:List (Str×(Option Int->TS)))(l':List (Str×(Option Int->US))):Prop where
 h:∀nm u,l'.lookup nm=some u->∃t,l.lookup nm=some t/\∀p,LS (t p) (u p)
theorem zh_nil:ZHs [] []:=⟨λnm u e=>by simp at e⟩
theorem zh_cons(h:∀p,ZS (t p) (u p))(hr:ZHs l l'):ZHs ((x,t)::l) ((x,u)::l'):=⟨λnm v e=>by
 rw[UM] at e ⊢;cases hx:(nm==x) with
 |true=>rw[hx] at e; cases e; exact⟨t,rfl,λp=>(h p).h⟩
 |false=>rw[hx] at e; exact hr.h nm v e⟩
theorem cs_try(hb:ZS tb ub)(hl:ZHs l l'):ZS (tTry n tb l) (uTry n ub l'):=⟨λA ι σ H ρ M D E w e r q =>
 hb.h A ι σ H ρ M _ { E with bk:=λτ M'=>∃nm p ρ' u,τ=tagU nm p ρ'/\ρ'.length=n/\l'.lookup nm=some u/\u p E ρ' M' } w e ⟨r.nx,r.rt,λι1 σ1 H1 ρ1 M1 l1 w1 e1 q1=>by
  obtain⟨nm,p,ρ',u,rfl,hn,hu,q1⟩:=q1;obtain⟨t,ht,lk⟩:=hl.h nm u hu;cases e1 with
  |cons a b =>
  cases b with
  |cons a2 b =>
  obtain⟨v,rfl,rv⟩:=a _ rfl;obtain⟨v2,rfl,rv2⟩:=a2 _ rfl;cases rv with
  |p rv =>
  cases rv;cases rv2 with
  |p rv2 =>
  cases pT_inv rv2;exact⟨nm,p,_,t,rfl,by rw[b.length]; exact hn,ht,lk p A ι1 _ H1 ρ' M1 D E w1 b (r.le l1) q1⟩,r.ct⟩ q⟩
end
section
def endX(n:Nat)(Qu:UK)(Xu:UX):UEnds:={ nx:=λ_ M'=>Qu (.p .non) M',rt:=Qu,bk:=λτ M'=>∃nm p ρ,τ=tagU nm p ρ/\ρ.length=n/\Xu nm p M' }
theorem Fun.zX{st:Stmt}(F:Fun Ξ x qual st f fd)(S:FnScope N ps (ql st))(len:∀us M Qu Xu,G us M Qu Xu->us.length=ps.length)(hbody:∀(cdv:Value)(A:Around)(outer:List Env)(s:Shared)(H:Hp)(E:XK),Room k (A.deeper (envOfC qual (ql st) s.heap.objs.size f cdv)) ->
   ∃t,QXs True (cxOf (CXe P w) P w Ξ mg base N qual (ql st) f cdv A outer s H E) (vS st) t/\∃u,ZS t u/\∀us M Qu Xu,G us M Qu Xu->u (endX N.length Qu Xu) (xW N us) M):FnOk P w Ξ mg base (CXe P w) (k+1) f fd ps (spX mg G):=by
 refine F.okX S (λvs H Q E h=>?_) (λcdv A outer s H vs Q E hr h=>?_)
 ·obtain⟨A,ι,M,us,Qu,Xu,w1,r,g,_⟩:=h
  rw[r.len]; exact len us M Qu Xu g
 ·obtain⟨B,ι,M,us,Qu,Xu,w1,r,g,kk,kx⟩:=h
  obtain⟨t,ht,u,hu,hb⟩:=hbody cdv A outer s H E hr;refine⟨t,ht,hu.h B ι _ H _ M _ (endX N.length Qu Xu) w1 (jA r) ⟨λι1 σ1 H1 ρ1 M1 l1 w1 e1 q1=>kk _ M1 ι1 _ H1 l1 w1 (.p .non) q1,λι1 v H1 z M1 l1 w1 r1 q1=>kk z M1 ι1 v H1 l1 w1 r1 q1,λι1 σ1 H1 ρ1 M1 l1 w1 e1 q1=>?_,λ_ _ _ _ _ _ _ _ q=>q.elim⟩ (hb us M Qu Xu g)⟩;obtain⟨nm,p,ρ,rfl,hn,q1⟩:=q1;cases e1 with
  |cons a b =>
  cases b with
  |cons a2 b =>
  obtain⟨v,rfl,rv⟩:=a _ rfl;obtain⟨v2,rfl,rv2⟩:=a2 _ rfl;cases rv with
  |p rv =>
  cases rv;cases rv2 with
  |p rv2 =>
  cases pT_inv rv2;exact⟨nm,p,_,rfl,by rw[b.length]; exact hn,λC d hm hp=>kx nm p C d M1 ι1 H1 hm hp l1 w1 q1⟩
end
theorem hh_nil:∀nm t C,([]:List (Str×(Option Int->TS))).lookup nm=some t->X.mg nm=some C->∀p,QH X hs C p (t p):=λnm t C e _=>by simp at e
theorem hh_cons{X:Cx}{hs:List ExceptHandler}{x:Str}{C:Value}{t:Option Int->TS}(hb:X.mg x=some C)(h:∀p,QH X hs C p (t p))(hr:∀nm t C,l.lookup nm=some t->X.mg nm=some C->∀p,QH X hs C p (t p)) :
  ∀nm t' C',((x,t)::l).lookup nm=some t'->X.mg nm=some C'->∀p,QH X hs C' p (t' p):=λnm t' C' e hm=>by
 rw[UM] at e;cases hx:(nm==x) with
 |true =>
  rw[hx] at e;cases e;rw[eq_of_beq hx,hb] at hm;cases hm;exact h
 |false=>rw[hx] at e; exact hr nm t' C' e hm
theorem Paired.app{α β:Type}{F:α->β->Prop}:∀{a c:List α}{b d:List β},Paired F a b->Paired F c d->Paired F (a++c) (b++d)
 |_,_,_,_, .nil,h=>h
 |_,_,_,_, .cons x y,h=>.cons x (Paired.app y h)
abbrev Cx.named(X:Cx)(a:Addr)(oe:Obj):Cx:={ X.caught a with pn:=X.pn++[(a,oe)] }
structure ExcOb(C:Addr)(d:Option Addr)(oe:Obj):Prop where
 c:oe.cls=.ref C
 d:oe.dict=d
 v:∃vs,oe.data=.fields vs
def tAsG(i:Nat)(tb:Addr->Option Addr->TS)(q:Option Int):TS:=λD σ H=>∀a d,PartIs d H q->tb a d { D with nx:=λσ' H'=>D.nx (σ'.set i none) H',bk:=λ_ _=>False,ct:=λσ' H'=>D.ct (σ'.set i none) H' } (σ.set i (some (.ref a))) H
section
theorem qh_gen(Y:Body X outer)(hm:X.mg x=some cX)(he:W.exmOne X.K (.ref C) cX=some true)(hN:X.N.Nodup)(hi:X.N[i]?=some e)(hie:X.env.scope.names.lookup e=some .local)(hb:∀a d oe,ExcOb C d oe->QSs (X.named a oe) (b0::suite) (tb a d))(hg:Gl X x:=by rfl)(hdb:(x==("__debug__" : Str))=false:=by decide) :
  QH X (.ExceptHandler (some (.Name x p)) (some e) (b0::suite) pos::hs) (.ref C) q (tAsG i tb q):=⟨λpins σ H1 s1 d H' s a D I F hq h=>by
 have J:=F.inv I;refine wpAny_handleBy_cons (codeAny_handlers_test (xz (X:=X.caught a) (J.caught a) hg hm ?_ hdb)) (by intro q; cases q);refine W.exm_one J.kIn F.ty he _ _ _ s (λ_ _ z=>z) ?_;show codeAny _ _ _ _ s;refine codeAny_handlers_suite_as ?_;obtain⟨B,a0,fl,st⟩:=F.step;refine wpAny_mono (DK.any (xA _ _) (lands_againW fl (Q:=λ_ s2=>(Heap.FlyingW B X.stack a (.ref C) a0 s2.heap/\s.heap.UpToSlots s2.heap)/\∃h',s2={ s with heap:=h' }) (E:=λ_ _=>False) λh' x1 x4=>⟨⟨x1,x4⟩,h',rfl⟩)) (λ_ s2 z=>?_) λ_ _ q=>q.1.elim;obtain⟨⟨⟨fl',up⟩,h',rfl⟩,kd⟩:=z;have F2:=st h' fl' up kd;obtain⟨n1,n2,oe,vs,hoe,hcl,hdi,hda⟩:=F2.new;have J2:=F2.pinned Y I hoe hda;refine wpAny_mono (E:=λ_ _=>False) (kJ J2 hN hi (.inl hie) (v:=.ref a) (u:=.ref a) rfl (Q:=λ_ s3=>Inv X (pins++[(a,oe)]) (σ.set i (some (.ref a))) H' s3) (λs3 I3=>I3) (.inr hie)) (λ_ s3 I3=>?_) λ_ _ z=>z.elim;have I4:=I3.caught a;have I5:Inv (X.named a oe) pins (σ.set i (some (.ref a))) H' s3:=⟨⟨I4.ok.mod,I4.ok.kind,I4.ok.glob,I4.ok.blt,I4.ok.above,I4.ok.inj,I4.ok.has,I4.ok.cab,I4.ok.hd,I4.ok.frames,I4.ok.stk,I4.ok.exf,I4.ok.bs,I4.ok.bsz,I4.ok.noex,I4.ok.exfs,I4.ok.funs,I4.ok.frf⟩,I4.os,I4.bare,I4.base,I4.loc,I4.cell,I4.free,I4.freeC,λp hp=>I4.pin p (by
  rcases Us.mp hp with z|z
  ·rcases Us.mp z with z|z
   ·exact UH _ z
   ·exact UB _ (UB _ z)
  ·exact UB _ (UH _ z)),I4.hok,I4.len⟩
 have back:∀{σ' H2 s4},Inv (X.named a oe) pins σ' H2 s4->Inv X pins σ' H2 s4:=λI6=>⟨I.ok,I6.os,I6.bare,I6.base,I6.loc,I6.cell,I6.free,I6.freeC,λp hp=>I6.pin p (by
  rcases Us.mp hp with z|z
  ·exact UH _ (UH _ z)
  ·exact UB _ z),I6.hok,I6.len⟩
 refine wpAny_mono ((hb a d oe ⟨hcl,hdi,vs,hda⟩).h pins s3 _ H' _ I5 (h a d hq)) (λf s4 z=>?_) λ_ _ z=>z.elim;cases f with
 |next =>
  obtain⟨σ',H2,I6,q⟩:=z;show wpAny _ _ _ _ _ _;exact Ql (back I6) hN hi hie λs9 I9=>⟨_,H2,I9,q⟩
 |cont =>
  obtain⟨σ',H2,I6,q⟩:=z;show wpAny _ _ _ _ _ _;exact Ql (back I6) hN hi hie λs9 I9=>⟨_,H2,I9,q⟩
 |brk =>
  obtain⟨σ',H2,I6,q⟩:=z;exact q.elim
 |ret u =>
  obtain⟨v,σ',H2,I6,r,q⟩:=z;show wpAny _ _ _ _ _ _;exact Ql (back I6) hN hi hie λs9 I9=>⟨v,_,H2,I9,r,q⟩⟩
end
section
theorem Wd.not_xd(w:Wd A ι H M)(h:a∈ι):H a≠some (.xd fs):=λz=>by
 obtain⟨k,e⟩:=Ds h;obtain⟨o,_,r⟩:=w.al e;cases o with
 |lst=>obtain⟨vs,e,_⟩:=r; rw[z] at e; cases e
 |tup=>obtain⟨vs,e,_⟩:=r; rw[z] at e; cases e
 |ins=>obtain⟨_,_,e,_⟩:=r; rw[z] at e; cases e
 |dK=>obtain⟨_,e,_⟩:=r; rw[z] at e; cases e
 |dF=>obtain⟨e,_⟩:=r; rw[z] at e; cases e
theorem PartIs.x(w:Wd A ι H M)(h:PartIs d H q):PartX ι H d q:=by
 cases q with
 |none=>exact h
 |some n =>
  obtain⟨x0,e,hx⟩:=h;exact⟨x0,e,λz=>w.not_xd z hx,hx⟩
def uAsG(i:Nat)(ub:Addr->Option Addr->US)(q:Option Int):US:=λE ρ M=>∀a d,ub a d { E with nx:=λρ' M'=>E.nx (ρ'.set i none) M',bk:=λ_ _=>False,ct:=λρ' M'=>E.ct (ρ'.set i none) M' } (ρ.set i (some (.x a d q))) M
theorem cs_asG(h:∀a d,ZS (tb a d) (ub a d)):ZS (tAsG i tb q) (uAsG i ub q):=⟨λA ι σ H ρ M D E w e r z a d hp=>by
 have gone:∀{ι1:List Addr}{σ1:St}{H1:Hp}{ρ1:UEnv},EnvR A ι1 H1 σ1 ρ1->EnvR A ι1 H1 (σ1.set i none) (ρ1.set i none):=λe1=>Paired.put (λw z=>by cases z) i e1;exact(h a d).h A ι _ H _ M _ { E with nx:=λρ' M'=>E.nx (ρ'.set i none) M',bk:=λ_ _=>False,ct:=λρ' M'=>E.ct (ρ'.set i none) M' } w (EnvR.put e i (.x (hp.x w))) ⟨λι1 σ1 H1 ρ1 M1 l1 w1 e1 q1=>r.nx ι1 _ H1 _ M1 l1 w1 (gone e1) q1,r.rt,λ_ _ _ _ _ _ _ _ q=>q.elim,λι1 σ1 H1 ρ1 M1 l1 w1 e1 q1=>r.ct ι1 _ H1 _ M1 l1 w1 (gone e1) q1⟩ (z a d)⟩
end
section
theorem Wd.ext(w:Wd A ι H M)(h:∀x o,H x=some o->H' x=some o):Wd A ι H' M:=by
 have l:Le ι H ι H':=⟨⟨[],by simp,by simp⟩,λx o e _=>h x o e,λx e=>by
  cases q:H x with
  |none=>exact absurd q e
  |some o=>rw[h x o q]; simp⟩
 refine⟨w.nd,w.len,λx hx=>l.al x (w.dom x hx),w.na,λk a o e1 e2=>?_⟩;have r:=w.obj k a o e1 e2;obtain⟨q,hq⟩:=r.some;exact r.le' l (by rw[h a q hq,hq]) λx hx=>by rw[h x _ hx,hx]
def flD:Nat->T->Prop
 |0,_=>False
 |n+1, .tup xs=>∀x∈xs,flD n x
 |n+1, .lst xs=>∀x∈xs,flD n x
 |_+1,_=>True
theorem Zh:∀{n:Nat}{t:T},flD n t->∃r,EqT n t t r
 |0,_,h=>h.elim
 |n+1, .non,_=>⟨_, .flat rfl rfl⟩
 |n+1, .bl b,_=>⟨_, .flat rfl rfl⟩
 |n+1, .int i,_=>⟨_, .flat rfl rfl⟩
 |n+1, .str s,_=>⟨_, .flat rfl rfl⟩
 |n+1, .tup xs,h=>by
  have:∀j:Nat,∃r,∀x,xs[j]?=some x->EqT n x x r:=λj=>by
   cases e:xs[j]? with
   |none=>exact⟨true,λx z=>by cases z⟩
   |some x =>
    obtain⟨r,hr⟩:=Zh (h x (Um e));exact⟨r,λy z=>by cases z; exact hr⟩
  exact⟨_, .tup (e:=λj=>(this j).choose) λj x y hx hy=>by rw[hx] at hy; cases hy; exact(this j).choose_spec x hx⟩
 |n+1, .lst xs,h=>by
  have:∀j:Nat,∃r,∀x,xs[j]?=some x->EqT n x x r:=λj=>by
   cases e:xs[j]? with
   |none=>exact⟨true,λx z=>by cases z⟩
   |some x =>
    obtain⟨r,hr⟩:=Zh (h x (Um e));exact⟨r,λy z=>by cases z; exact hr⟩
  exact⟨_, .lst (e:=λj=>(this j).choose) rfl λj x y hx hy=>by rw[hx] at hy; cases hy; exact(this j).choose_spec x hx⟩
end
theorem mem_nm{X:Cx}:(a,oe)∈(X.named a oe).pn:=UB _ (Uq.mpr rfl)
section
def xQ(xs:List Str):List V:=xs.map V.str
end
section
def entD(P:Params)(e:Str×Tok×Value):DictEntry:=⟨PyData.keyHash P e.1, .str e.1 e.2.1,e.2.2⟩
structure KDi(Ξ:PySem.W.Frag)(w:World)(mg:Str->Option Value)(nm:Str)(a:Addr)(kvs:List (Str×V)):Prop where
 g:mg nm=some (.ref a)
 ex:∃(rows:List (Str×Tok×Value))(ep:Nat),Ξ.lookup a=some ⟨.type "dict", none, .dict ((rows.map (entD w.params)).toArray) ep, #[]⟩/\(rows.map (·.1)).Nodup/\Paired (λ(kv:Str×V) (r:Str×Tok×Value)=>kv.1=r.1/\RelV kv.2 r.2.2) kvs rows
def keyR(r:Str×Tok×Value):Key×Value:=(.inr r.1,r.2.2)
theorem Wl:∀rows:List (Str×Tok×Value),Pairs (vq prog w) (rows.map (entD w.params)) (rows.map keyR)
 | []=>.nil
 |r::rows=>.cons (jq prog w r.1 r.2.1) rfl (Wl rows)
theorem keys_D(rows:List (Str×Tok×Value)):KeysOf (vq prog w) (rows.map (entD w.params)).toArray:=λe he=>by
 obtain⟨r,_,rfl⟩:=U7.mp (List.mem_toArray.mp he);exact⟨.inr r.1,jq prog w r.1 r.2.1,rfl⟩
theorem nodup_D:∀{rows:List (Str×Tok×Value)},(rows.map (·.1)).Nodup->((rows.map keyR).map (·.1)).Nodup:=λ{rows} h=>by
 rw[R6];have e:((λx=>x.1) ∘ keyR)=(λx:Str=>(Key.inr x:Key)) ∘ (λr:Str×Tok×Value=>r.1):=rfl;rw[e, <-R6];exact List.Pairwise.map _ (λa b hab z=>hab (Key.inr.inj z)) h
theorem look_D:∀{kvs:List (Str×V)}{rows:List (Str×Tok×Value)},Paired (λ(kv:Str×V) (r:Str×Tok×Value)=>kv.1=r.1/\RelV kv.2 r.2.2) kvs rows->kvs.lookup k=some v->∃u,valueAt (rows.map keyR) (.inr k:Key)=some u/\RelV v u
 |_,_, .nil,e=>by simp at e
 | (a,b)::kvs,r::rows, .cons ⟨e1,e2⟩ q,e=>by
  have e1:a=r.1:=e1;subst e1;by_cases h:k=r.1
  ·subst h
   rw[UM,beq_self_eq_true] at e;cases e;exact⟨r.2.2,by simp[valueAt,keyR],e2⟩
  ·rw[UM,beq_false_of_ne h] at e
   obtain⟨u,h1,h2⟩:=look_D q e;refine⟨u, ?_,h2⟩;unfold valueAt at h1 ⊢;rw[UQ,Rs]
   ·exact h1
   ·intro z
    exact h (Key.inr.inj (of_decide_eq_true z)).symm
theorem kd_at(D:KDi X.K X.w X.mg nm a kvs)(I:Inv X pins σ H s):∃rows:List (Str×Tok×Value),s.heap.DictOf (vq X.prog X.w) a (rows.map keyR)/\Paired (λ(kv:Str×V) (r:Str×Tok×Value)=>kv.1=r.1/\RelV kv.2 r.2.2) kvs rows:=by
 obtain⟨rows,ep,h1,h2,h3⟩:=D.ex;exact⟨rows,⟨_,_,ep,I.kIn a _ h1,⟨rfl,rfl,rfl⟩,rfl,keys_D rows,by simpa using Wl rows,nodup_D h2⟩,h3⟩
def tKD(kvs:List (Str×V))(ty:TE):TE:=λσ H Q=>ty σ H λy H1=>∃k v,y=.str k/\kvs.lookup k=some v/\Q v H1
theorem qe_kd(D:KDi X.K X.w X.mg nm a kvs)(hg:Gl X nm)(hi:QE X i ty)(hs:NoSl i)(hd:(nm==("__debug__" : Str))=false:=by decide):QE X (.Subscript (.Name nm p) i pos) (tKD kvs ty):=⟨by
 intro pins s σ H Q I h;refine YQ PySem.F.slot_dict_getitem.lookup hs (xz I hg D.g (thn (hi.h pins s σ H _ I h) λiv s2 ⟨y,H2,I2,ry,k,v,ey,e,q2⟩=>?_) hd);subst ey;obtain⟨rows,dd,hp⟩:=kd_at D I2;obtain⟨u,hu,ru⟩:=look_D hp e;exact⟨dd.typeIs,wpAny_getItem_of (Yj (k:=.inr k) ry) dd.mapOf hu ⟨v,H2,I2.tok _,ru,q2⟩⟩⟩
def uKD(ks:List (Str×T))(ub:UE):UE:=λρ M Q=>ub ρ M λy M1=>∃k t,y=.p (.str k)/\ks.lookup k=some t/\Q (.p t) M1
theorem W1:∀{kvs:List (Str×V)}{ks:List (Str×T)},Paired (λ(a:Str×V) (b:Str×T)=>a.1=b.1/\Sc a.2 b.2) kvs ks->ks.lookup k=some t->∃v,kvs.lookup k=some v/\Sc v t
 |_,_, .nil,e=>by simp at e
 | (a,b)::kvs,(c,d)::ks, .cons ⟨e1,e2⟩ q,e=>by
  have e1:a=c:=e1;subst e1;rw[UM] at e ⊢;cases h:k==a with
  |true=>rw[h] at e; cases e; exact⟨b,rfl,e2⟩
  |false=>rw[h] at e; exact W1 q e
theorem ce_kd(h:Paired (λ(a:Str×V) (b:Str×T)=>a.1=b.1/\Sc a.2 b.2) kvs ks)(hb:ZE tb ub):ZE (tKD kvs tb) (uKD ks ub):=⟨λA ι σ H ρ M Qu Q w e q k =>
 hb.h A ι σ H ρ M _ _ w e q λy M1 ι1 v H1 l1 w1 r1 ⟨kk,t,ey,el,q1⟩=>by
  subst ey;cases r1 with
  |p r =>
  cases r;obtain⟨v,h1,h2⟩:=W1 h el;exact⟨kk,v,rfl,h1,k _ M1 ι1 _ H1 l1 w1 (.p h2.rep) q1⟩⟩
end
mutual
def toD:T->PyData
 |.non=>.none
 |.bl b=>.bool b
 |.int i=>.int i
 |.str x=>.str x
 |.tup xs=>.tuple (toDs xs)
 |.lst xs=>.list (toDs xs)
def toDs:List T->List PyData
 | []=>[]
 |x::xs=>toD x::toDs xs
end
mutual
theorem noD:∀t:T,(toD t).hasDict=false
 |.non=>rfl
 |.bl _=>rfl
 |.int _=>rfl
 |.str _=>rfl
 |.tup xs=>noDs xs
 |.lst xs=>noDs xs
theorem noDs:∀ts:List T,PyData.hasDictAll (toDs ts)=false
 | []=>rfl
 |x::xs=>by show((toD x).hasDict||PyData.hasDictAll (toDs xs))=false; rw[noD x,noDs xs]; rfl
end
section
theorem xt{h:Heap}:∀{vs:List V}{ts:List T}{us:List Value},Vals vs us->vs.length=ts.length->(∀(i:Nat) v t,vs[i]?=some v->ts[i]?=some t->∀u,RelV v u->∃as,Reads h u (toD t) as)->∃as,ReadsAll h us (toDs ts) as
 | [], [],_, .nil,_,_=>⟨_, .nil⟩
 |v::vs,t::ts,_, .cons r q,hl,ih=>by
  obtain⟨as,h1⟩:=ih 0 v t rfl rfl _ r;obtain⟨bs,h2⟩:=xt q (by simpa using hl) λi v t e1 e2=>ih (i+1) v t (by simpa using e1) (by simpa using e2);exact⟨_, .cons h1 h2⟩
theorem VI{A:Addr->Prop}{v:V}{t:T}(I:Inv X pins σ H s)(r:RepT A H v t):∀u,RelV v u->∃as,Reads s.heap u (toD t) as:=by
 induction r with
 |non=>intro u e; cases e; exact⟨_, .none⟩
 |bl b=>intro u e; cases e; exact⟨_, .bool b⟩
 |int i=>intro u e; obtain⟨t,rfl⟩:=e; exact⟨_, .int i t⟩
 |str x=>intro u e; obtain⟨t,rfl⟩:=e; exact⟨_, .str x t⟩
 |tup na e l r ih =>
  intro u eu;cases eu;obtain⟨its,rv,⟨o,h1,h2,n,h3⟩,_⟩:=I.tuple (SqT.of e);obtain⟨as,q⟩:=xt (h:=s.heap) rv l ih;exact⟨_, .tuple h1 h2 h3 (by simpa using q)⟩
 |lst na e l r ih =>
  intro u eu;cases eu;obtain⟨its,rv,pl,_⟩:=I.list (SqL.of e);obtain⟨o,h1,h2,n,h3⟩:=pl.isList;obtain⟨as,q⟩:=xt (h:=s.heap) rv l ih;exact⟨_, .list h1 h2 h3 (by simpa using q)⟩
structure ShowT(t:T):Prop where
 sh:(toD t).showable=true
 dp:(toD t).depth<=60
 sz:(toD t).shown.length<=sizeLine
def rRepr:List V->Hp->VK->Prop:=λxs H Q=>∃(A:Addr->Prop)(v:V)(t:T),xs=[v]/\RepV A H v t/\ShowT t/\Q (.str (toD t).shown) H
theorem call_repr(hg:X.A.guards=some [])(hu:X.A.units+64<cLine):zJ X (.builtin "repr") rRepr:=by
 intro pins s σ H xs us Q I r h;obtain⟨A,v,t,rfl,rv,ok,q⟩:=h;obtain⟨u,rfl,ru⟩:=ky r;have big:∀(a:Addr)(as:List Addr),Reads s.heap (.ref a) (toD t) as->wpAny (model X.prog X.w) X.A (call (.builtin "repr") [.ref a]) (EP X pins σ Q) X.xe s:=λa as rd =>
  repr_of_reads' rd ok.sh (PyData.noDict_hsm (noD t)) hg (by have:=ok.dp; lia) (λ_ _ e=>e) (λh' u tk hk=>⟨.str _,H,I.kept (t':=tk) hk,⟨_,rfl⟩,q⟩) ok.sz
 cases rv with
 |of r =>
  obtain⟨as,rd⟩:=VI I r u ru;cases r with
  |non=>cases ru; exact PySem.P.repr_of_none ⟨.str _,H,I.tok _,⟨_,rfl⟩,q⟩
  |bl b=>cases ru; exact PySem.P.repr_of_bool ⟨.str _,H,I.tok _,⟨_,rfl⟩,q⟩
  |int i =>
   obtain⟨t,rfl⟩:=ru;exact PySem.P.repr_of_int (of_decide_eq_true ok.sh) ⟨.str _,H,I.tok _,⟨_,rfl⟩,q⟩
  |str x =>
   obtain⟨t,rfl⟩:=ru;exact PySem.P.repr_of_str ⟨.str _,H,I.tok _,⟨_,rfl⟩,q⟩ ok.sz
  |tup=>cases ru; exact big _ _ rd
  |lst=>cases ru; exact big _ _ rd
 |lst e rr =>
  cases ru;obtain⟨its,rv,pl,_⟩:=I.list (SqL.of e);obtain⟨o,h1,h2,n,h3⟩:=pl.isList;obtain⟨as,q⟩:=xt (h:=s.heap) rv rr.len λi v t e1 e2=>VI I (Paired.get2 rr e1 e2);exact big _ _ (.list h1 h2 h3 (by simpa using q))
 |tup e rr =>
  cases ru;obtain⟨its,rv,⟨o,h1,h2,n,h3⟩,_⟩:=I.tuple (SqT.of e);obtain⟨as,q⟩:=xt (h:=s.heap) rv rr.len λi v t e1 e2=>VI I (Paired.get2 rr e1 e2);exact big _ _ (.tuple h1 h2 h3 (by simpa using q))
def sRepr:List T->(T->Prop)->Prop:=λts Q=>∃t,ts=[t]/\ShowT t/\Q (.str (toD t).shown)
theorem cbl_repr:CbL rRepr sRepr:=λA ι H M vs ts Qs Q w r ⟨t,e,ok,q⟩ k=>by
 subst e;obtain⟨v,ev,r1⟩:=pv1 r;subst ev;exact⟨_,v,t,rfl,r1,ok,k _ ι _ H (.refl _ _) w (.str _) q⟩
theorem rd_repr{t:T}{Q:T->Prop}:sRepr [t] Q=(ShowT t/\Q (.str (toD t).shown)):=propext ⟨λ⟨_,e,h⟩=>by cases e; exact h,λh=>⟨t,rfl,h⟩⟩
theorem b_repr:bootBuiltins "repr" = some (.builtin "repr"):=by decide +kernel
end
section
theorem Wd.takeA(w:Wd (λx=>A x\/x=p) ι H M)(ha:¬A p)(hp:H p=some (.lst ys))(r:RepTs (Av (λx=>A x\/x=p) ι) H ys ts):Wd A (ι++[p]) H (M++[.lst (ts.map U.p)])/\p∉ι:=by
 have np:p∉ι:=λz=>w.na p z (.inr rfl);have hl:Lea (λx=>A x\/x=p) ι H A (ι++[p]) H:=⟨⟨[p],rfl⟩,λx o hx e=>⟨e,λz=>hx (z.elim (λz=>.inl (.inl z)) λz=>(Us.mp z).elim .inr λz=>.inl (.inr (Uq.mp z)))⟩,λx fs hx e=>⟨λz=>(Us.mp z).elim hx λz=>(by rw[Uq.mp z,hp] at e; cases e),e⟩⟩;refine⟨⟨D0.mpr ⟨w.nd,by simp,λa ha b hb=>by rw[Uq.mp hb]; exact λz=>np (by rw[<-z]; exact ha)⟩,by simp[w.len],λx hx=>w.dom x (.inl hx),λx hx z=>?_,λk a ob e1 e2=>?_⟩,np⟩
 ·rcases Us.mp hx with h|h
  ·exact w.na x h (.inl z)
  ·rw[Uq.mp h] at z; exact ha z
 ·by_cases hk:k<ι.length
  ·rw[Uo hk] at e1
   rw[Uo (by rw[<-w.len]; exact hk)] at e2;have q:=w.obj k a ob e1 e2;cases ob with
   |lst=>obtain⟨vs,e,q⟩:=q; exact⟨vs,e,Paired.mapP q λ_ _ q=>q.lea hl⟩
   |tup=>obtain⟨vs,e,q⟩:=q; exact⟨vs,e,Paired.mapP q λ_ _ q=>q.lea hl⟩
   |ins =>
    obtain⟨dx,gs,e,ed,nd,q⟩:=q;refine⟨dx,gs,e,ed,λz=>?_,Paired.mapP q λ_ _ q=>⟨q.1,q.2.lea hl⟩⟩;rcases Us.mp z with z|z
    ·exact nd z
    ·rw[Uq.mp z,hp] at ed; cases ed
   |dK=>obtain⟨gs,e,q⟩:=q; exact⟨gs,e,Paired.mapP q λ_ _ q=>⟨q.1,q.2.lea hl⟩⟩
   |dF=>obtain⟨e,q⟩:=q; exact⟨e,Paired.mapP q λ_ _ q=>⟨q.1,q.2.lea hl⟩⟩
  ·have hk2:=(Uj.mp e1).1
   rw[Uu,Di] at hk2;have:k=ι.length:=by lia
   subst this;rw[Uz (Up _),Dm] at e1;rw[w.len,Uz (Up _),Dm] at e2;simp at e1 e2;subst e1 e2;exact⟨ys,hp,RepTs.ups (Paired.mapP r λ_ _ q=>q.mono hl.av)⟩
theorem Le.pushed{H H':Hp}{ι ι':List Addr}{p:Addr}(l:Le ι H ι' H')(h:H p=none)(_:p∉ι'):Le ι H (ι'++[p]) H':=by
 obtain⟨m,rfl,hm⟩:=l.ext;refine⟨⟨m++[p],by rw[UD],λx hx=>?_⟩,l.fr,l.al⟩;rcases Us.mp hx with z|z
 ·exact hm x z
 ·rw[Uq.mp z]; exact h
def UCompN(it:UIt)(ug:UG)(ut:UT)(ue:UE)(ρ0:UEnv)(M1:MM)(Q:UK):Prop:=it.n<=sizeLine/\∃Iv:Nat->List T->MM->Prop,Iv 0 [] M1 /\
 (∀i acc M2,i<it.n->acc.length<=i->Iv i acc M2->it.ok M2/\∀u,it.item i u->ug u ρ0 M2 λρ4 M4=>ut ρ4 M4 λb M5=>if b=true then ue ρ4 M5 λz M6=>∃t,z=.p t/\Iv (i+1) (acc++[t]) M6 else Iv (i+1) acc M5) /\
 (∀acc M2,Iv it.n acc M2->it.ok M2/\Q (.m M2.length) (M2++[.lst (acc.map U.p)]))
def YF(ui:UI)(bs:List Bool)(n:Nat)(ug:UG)(ut:UT)(ue:UE):UE:=λρ M Q=>ui ρ M λit M1=>ρ.length=bs.length/\UCompN it ug ut ue (Jf bs n ρ) M1 Q
theorem ce_compN(hi:ZI wi ui)(hg:ZX bs n g ug)(ht:ZT tt ut)(he:ZE te ue):ZE (jc wi bs n g tt te) (YF ui bs n ug ut ue):=⟨by
 intro A ι σ H ρ M Qu Q w e q k;refine hi.h A ι σ H ρ M _ _ w e q λit M1 ι1 J H1 l1 w1 hJ q1 acc hacc=>?_;obtain⟨hlen,hsz,Iv,I0,It,Id⟩:=q1;have hσ:σ.length=bs.length:=by rw[<-hlen]; exact e.len
 have e1:=e.le l1;have na:¬Av A ι1 acc:=w1.nA hacc;have key:∀ι2 H2,Le ι1 H1 ι2 H2->(∀x∈ι2,¬(A x\/x=acc))->Lea A ι1 H1 (λx=>A x\/x=acc) ι2 H2:=λι2 H2 l h=>by
  refine⟨let⟨n,e,_⟩:=l.ext; ⟨n,e⟩,λx o hx ex=>?_,l.xd⟩;obtain⟨a1,a2⟩:=l.av hx ex;refine⟨a1,λz=>?_⟩;rcases z with(z|z)|z
  ·exact a2 (.inl z)
  ·rw[z,hacc] at ex; cases ex
  ·exact a2 (.inr z)
 refine⟨λi m H2=>m=it.n-i/\i<=it.n/\∃ι2 M2 at' ys,Le ι1 H1 ι2 H2/\Wd (λx=>A x\/x=acc) ι2 H2 M2/\H2 acc=some (.lst ys)/\RepTs (Av (λx=>A x\/x=acc) ι2) H2 ys at'/\at'.length<=i/\Iv i at' M2,
  ⟨it.n,by simp,U4 _,ι1,M1, [], [], .fresh hacc,w1.addA hacc,upd_same, .nil,Up _,I0⟩, ?_⟩
 rintro i m H2 ⟨rfl,hin,ι2,M2,at',ys,l2,w2,hys,rys,hat,I2⟩;have lea:=key ι2 H2 l2 w2.na;by_cases hlt:i<it.n
 ·obtain⟨ok,step⟩:=It i at' M2 hlt hat I2
  obtain⟨jgo,jy⟩:=(hJ _ ι2 H2 M2 i lea w2 ok).1 hlt;refine .inr ⟨jgo,λH'=>∃ι2 M2 at' ys,Le ι1 H1 ι2 H'/\Wd (λx=>A x\/x=acc) ι2 H' M2/\H' acc=some (.lst ys)/\RepTs (Av (λx=>A x\/x=acc) ι2) H' ys at'/\at'.length<=i+1/\Iv (i+1) at' M2,λH' h=>⟨it.n-(i+1),by lia,rfl,hlt,h⟩,λx H3 y=>?_⟩;obtain⟨u,hu,l3,w3,r3⟩:=jy x H3 y;have l13:=l2.trans l3;have nacc:∀{ι':List Addr}{H':Hp}{M':MM},Wd (λx=>A x\/x=acc) ι' H' M'->acc∉ι':=λw z=>w.na acc z (.inr rfl);have ys3:H3 acc=some (.lst ys):=l3.fr _ _ hys (nacc w2);have env3:EnvR (λx=>A x\/x=acc) ι2 H3 (zN bs n σ) (Jf bs n ρ):=(e1.mask).lea (key ι2 H3 l13 w3.na);refine hg.h _ ι2 σ H3 _ M2 x u _ _ hσ w3 env3 r3 (step u hu) λρ4 σ4 e4 x4 len4 q4=>⟨⟨x4,len4⟩, ?_⟩;refine ht.h _ ι2 σ4 H3 ρ4 M2 _ _ w3 e4 q4 λb M5 ι5 H5 l5 w5 q5=>?_;have ys5:H5 acc=some (.lst ys):=l5.fr _ _ ys3 (nacc w3);have rys5:RepTs (Av (λx=>A x\/x=acc) ι5) H5 ys at':=Paired.mapP rys λ_ _ q=>(q.le l3).le l5;cases b with
  |false=>exact⟨ι5,M5,at',ys,l13.trans l5,w5,ys5,rys5,Rk hat,q5⟩
  |true =>
   refine he.h _ ι5 σ4 H5 ρ4 M5 _ _ w5 (e4.le l5) q5 λz M6 ι6 zv H6 l6 w6 r6 q6=>?_;obtain⟨t,rfl,q6⟩:=q6;have ys6:H6 acc=some (.lst ys):=l6.fr _ _ ys5 (nacc w5);refine⟨ys,ys6, ?_,ι6,M6,at'++[t],ys++[zv],((l13.trans l5).trans l6).updF hacc,(w6.updA (.inr rfl) ys6).2,upd_same, ?_,by rw[Uu,Di]; lia,q6⟩
   ·rw[rys.len]; lia
   ·have hl:=(w6.updA (o:=.lst (ys++[zv])) (.inr rfl) ys6).1
    cases r6 with
    |p r6=>exact Paired.app (Paired.mapP rys5 λ_ _ q=>(q.le l6).mono hl.av) (.cons (r6.mono hl.av) .nil)
 ·have ei:i=it.n:=by lia
  subst ei;obtain⟨ok,fin⟩:=Id at' M2 I2;obtain⟨w3,l3⟩:=w2.takeA (λz=>na (.inl z)) hys rys;exact .inl ⟨(hJ _ ι2 H2 M2 _ lea w2 ok).2 rfl,k _ _ (ι2++[acc]) _ H2 (l1.trans (l2.pushed hacc l3)) w3 (.m (by rw[<-w2.len]; exact xM)) fin⟩⟩
theorem UComp.new{M1:MM}(h:UComp it ug ut ue ρ0 M1 R)(k:∀acc M2,R (.p (.lst acc)) M2->Q (.m M2.length) (M2++[.lst (acc.map U.p)])):UCompN it ug ut ue ρ0 M1 Q:=by
 obtain⟨hz,Iv,h0,hs,hd⟩:=h;exact⟨hz,Iv,h0,hs,λacc M2 h=>⟨(hd acc M2 h).1,k acc M2 (hd acc M2 h).2⟩⟩
def LiN(us:List U)(M:MM)(Q:UK):Prop:=∃x ys,us=[x]/\(vd M x=some ys\/zm M x=some ys)/\Q (.m M.length) (M++[.lst ys])
def JS(ul:UA):UE:=λρ M Q=>ul ρ M λus M1=>LiN us M1 Q
theorem Ky(ha:ZA n tl ul):ZE (tCB (λxs H Q=>∃p ys,xs=[.ref p]/\(SqL Ξ H p ys\/SqT Ξ H p ys)/\∀l,H l=none->Q (.ref l) (upd H l (.lst ys))) tl) (JS ul):=⟨λA ι σ H ρ M Qu Q w e q k =>
 ha.h A ι σ H ρ M _ _ w e q λus M1 ι1 vs H1 l1 w1 hn r1 ⟨x,ys,eu,hy,q1⟩=>by
  subst eu;cases r1 with
  |cons r q' =>
  cases q';rcases hy with hy|hy
  ·obtain⟨p,zs,rfl,h1,h2⟩:=vG w1 r hy
   exact⟨p,zs,rfl, .inl (SqL.of h1),λl hl=>k _ _ _ _ _ (l1.trans (.push hl)) (zG w1 hl h2).1 (zG w1 hl h2).2 q1⟩
  ·obtain⟨p,zs,rfl,h1,h2⟩:=zD w1 r hy
   exact⟨p,zs,rfl, .inr (SqT.of h1),λl hl=>k _ _ _ _ _ (l1.trans (.push hl)) (zG w1 hl h2).1 (zG w1 hl h2).2 q1⟩⟩
theorem GE(h:∀x∈xs,flD 20 x)(q:Q (.bl (!neg))):sEqTu neg (.tup xs) (.tup xs) Q:=by
 have:∀j:Nat,∃r,∀x,xs[j]?=some x->EqT 20 x x r:=λj=>by
  cases e:xs[j]? with
  |none=>exact⟨true,λx z=>by cases z⟩
  |some x =>
   obtain⟨r,hr⟩:=Zh (h x (Um e));exact⟨r,λy z=>by cases z; exact hr⟩
 refine⟨xs,xs,λj=>(this j).choose,rfl,rfl,λj x y hx hy=>by rw[hx] at hy; cases hy; exact(this j).choose_spec x hx, ?_⟩;have e:(List.range (min xs.length xs.length)).all (λj=>(this j).choose)=true:=by
  rw[DA];intro j hj;have hj:=Dc.mp hj;exact((this j).choose_spec _ (Uk (by lia))).self rfl
 rw[e];cases neg<;>simpa using q
end
section
theorem k8:∀zs:List Str,RepTs A H (xQ zs) (zs.map T.str)
 | []=>.nil
 |z::zs=>.cons (.str z) (k8 zs)
end
section
def SqB(b:Bool)(Ξ:PySem.W.Frag)(H:Hp)(a:Addr)(xs:List V):Prop:=match b with
 |true=>SqL Ξ H a xs
 |false=>SqT Ξ H a xs
def ItB(b:Bool)(h:Heap)(it a:Addr)(i:Nat):Prop:=match b with
 |true=>h.IsListIter it a i
 |false=>h.IsTupleIter it a i
theorem ItB.ex(x:ItB b h it a i):∃o vs,h.get? it=some o/\o.data=.fields vs:=by
 cases b
 ·obtain⟨o,e,_,d⟩:=(show h.IsTupleIter it a i from x); exact⟨o,_,e,d⟩
 ·obtain⟨o,e,_,d⟩:=(show h.IsListIter it a i from x); exact⟨o,_,e,d⟩
theorem ItB.at(x:ItB b h it a i)(k:∀o,h.get? it=some o->h'.get? it=some o):ItB b h' it a i:=by
 cases b
 ·obtain⟨o,e,r⟩:=(show h.IsTupleIter it a i from x); exact⟨o,k o e,r⟩
 ·obtain⟨o,e,r⟩:=(show h.IsListIter it a i from x); exact⟨o,k o e,r⟩
end
section
theorem J8(hu:X.A.units+1<cLine)(ho:QE X o td)(he:QE X e ty)(m:M1 X o "get" apos e cpos):QE X (.Call (.Attribute o "get" apos) [e] [] cpos) (JZ td ty):=⟨by
 intro pins s σ H Q I h;refine wpAny_Call_method m.base m.few m.line PySem.F.plainAttrs_dict PySem.F.slot_dict_get PySem.F.type_dict_get (thn (ho.h pins s σ H _ I h) λu s1 ⟨x,H1,I1,rx,a,ex,d,q1⟩=>?_);subst ex;obtain rfl:u=Value.ref a:=rx;obtain⟨t1,t2,_⟩:=isD_at I1 d;refine⟨t1,t2, ?_⟩;rw[m.trees];refine Calls.callWith_builtin rfl (Calls.evalArgs_plain (Calls.spliced_cons (thn (he.h pins s1 σ H1 _ I1 q1) λiv s2 ⟨y,H2,I2,ry,ov,g,q2⟩=>Calls.spliced_nil ?_)));exact d_get1 hu I2 g ry λw' s3 I3 rw'=>⟨_,H2,I3,rw',q2⟩⟩
def DG1S(M:MM)(x:U)(ρ:UEnv)(uy:UE)(Q:UK):Prop:=∃k kvs0,x=.m k/\M[k]?=some (.dK kvs0)/\uy ρ M λy M2=>∃kvs key,M2[k]?=some (.dK kvs)/\y=keyU key/\Q ((valU kvs key).getD (.p .non)) M2
def uDGet1(ud uy:UE):UE:=λρ M Q=>ud ρ M λx M1=>DG1S M1 x ρ uy Q
theorem ce_dget1(hd:ZE td ud)(hy:ZE ty uy):ZE (JZ td ty) (uDGet1 ud uy):=⟨λA ι σ H ρ M Qu Q w e q k =>
 hd.h A ι σ H ρ M _ _ w e q λx M1 ι1 v H1 l1 w1 r1 ⟨kk,kvs0,ex,em,q1⟩=>by
  subst ex;cases r1 with
  |m ek =>
  rename_i a;obtain⟨gs0,h0,_⟩:=w1.obj kk a _ ek em;refine⟨a,rfl, .inl ⟨gs0, .inl h0⟩,hy.h A ι1 σ H1 ρ M1 _ _ w1 (e.le l1) q1 λy M2 ι2 v2 H2 l2 w2 r2 ⟨kvs,key,em2,ey,q2⟩=>?_⟩;subst ey;have ek2:ι2[kk]?=some a:=by
   obtain⟨nn,rfl,_⟩:=l2.ext;rw[Uo (Uj.mp ek).1]; exact ek
  obtain⟨gs,h1,h2⟩:=w2.obj kk a _ ek2 em2;have hv:=Vk (k:=key) h2;have g:=DGet.k (k:=key) h1;rw[<-j7 r2] at g;refine⟨_,g, ?_⟩;cases ev:valU kvs key with
  |none =>
   rw[ev] at hv q2;simp only at hv;rw[hv];exact k _ M2 ι2 _ H2 (l1.trans l2) w2 (.p .non) q2
  |some u =>
   rw[ev] at hv q2;obtain⟨x,hx,rx⟩:=hv;rw[hx];exact k _ M2 ι2 _ H2 (l1.trans l2) w2 rx q2⟩
end
section
variable {P:Program} {w:World} {A:Around} {E:Value->Shared->Prop} {s:Shared} {κ:Type} [DecidableEq κ]
def TextT(P:Program)(w:World)(t:Sem Value)(x:Str):Prop:=∀(A:Around)(E:Value->Shared->Prop)(s:Shared)(Q:Value->Shared->Prop),(∀tk t',Q (.str x t') { s with toks:=tk })->wpAny (model P w) A t Q E s
inductive TextPs(P:Program)(w:World):List (Sem Value×Sem Value)->List (Str×Str)->Prop
 |nil:TextPs P w [] []
 |cons {k v:Sem Value} {x y:Str} {ps:List (Sem Value×Sem Value)} {zs:List (Str×Str)} (hk:TextT P w k x) (hv:TextT P w v y) (r:TextPs P w ps zs):TextPs P w ((k,v)::ps) ((x,y)::zs)
theorem TextPs.len(h:TextPs P w ps zs):ps.length=zs.length:=by
 induction h with
 |nil=>rfl
 |cons _ _ _ ih=>rw[Ur,Ur,ih]
inductive TextV:List (Key×Value)->List (Str×Str)->Prop
 |nil:TextV [] []
 |cons {x y:Str} {t:Tok} {l:List (Key×Value)} {zs:List (Str×Str)} (r:TextV l zs):TextV ((.inr x, .str y t)::l) ((x,y)::zs)
theorem TextV.keys(h:TextV l zs):l.map (·.1)=zs.map λz=>Key.inr z.1:=by
 induction h with
 |nil=>rfl
 |cons _ ih=>rw[UQ,UQ,ih]
theorem TextV.len(h:TextV l zs):l.length=zs.length:=by
 have:=congrArg List.length h.keys;simpa using this
end
section
inductive ConstPs:List (Option Expr)->List Expr->List (Str×Str)->Prop
 |nil:ConstPs [] [] []
 |cons {x y:Str} {j j':Nat} {p p':Pos} {ks:List (Option Expr)} {vs:List Expr} {zs:List (Str×Str)} (r:ConstPs ks vs zs):ConstPs (some (.Constant (.str x) j p)::ks) (.Constant (.str y) j' p'::vs) ((x,y)::zs)
theorem ConstPs.all(h:ConstPs ks vs zs):ks.all (·.isSome)=true/\ks.length=vs.length:=by
 induction h with
 |nil=>exact⟨rfl,rfl⟩
 |cons _ ih=>exact⟨by rw[Rn,ih.1]; rfl,by rw[Ur,Ur,ih.2]⟩
theorem TextV.kv(h:TextV l zs):KV (zs.map λz=>((.inr z.1:Key),V.str z.2)) l:=by
 induction h with
 |nil=>exact .nil
 |cons _ ih=>exact .cons ⟨rfl,_,rfl⟩ ih
end
section
theorem Q1{ss:List Str}:∀{its:List Value},Vals (xQ ss) its->StrsAre its ss:=by
 unfold xQ
 induction ss with
 |nil=>intro its h; cases h; exact .nil
 |cons s ss ih =>
  intro its h;cases h with
  |cons r q =>
  obtain⟨t,rfl⟩:=r;exact .cons _ _ (ih q)
theorem Q0{ss:List Str}(h:StrsAre its ss):Vals (xQ ss) its:=by
 induction h with
 |nil=>exact .nil
 |cons _ _ _ ih=>exact .cons ⟨_,rfl⟩ ih
def rSortS(Ξ:PySem.W.Frag):List V->Hp->VK->Prop:=λxs H Q=>∃(p:Addr)(ss:List Str),xs=[.ref p]/\SqL Ξ H p (xQ ss)/\ss.length<64/\∀ss':List Str,ss'.Perm ss->sortedS ss'=true->∀l,H l=none->Q (.ref l) (upd H l (.lst (xQ ss')))
theorem Vi(hK:X.K=Ξ):zJ X (.builtin "sorted") (rSortS Ξ):=by
 subst hK;intro pins s σ H xs us Q I r h;obtain⟨p,ss,rfl,hq,h64,q⟩:=h;obtain⟨u,rfl,rx⟩:=ky r;cases rx;obtain⟨its,r',pl,hz⟩:=I.list hq;have hs:=Q1 r';have hl:its.length=ss.length:=by rw[<-r'.length]; unfold xQ; simp
 refine sorted_strs pl.isList hs (by lia) λout ss' a1 a2 a3=>?_;obtain⟨e,he⟩:=sortedAll_at s.heap its out;have hl2:ss'.length=ss.length:=a2.length_eq;exact⟨.ref (s.heap.objs.size+1),_,I.laid (t':=s.toks) (λ_ _=>sortedAll_old) (Dk _) (show ObjOk X.prog X.w _ _ _ (.lst (xQ ss')) from⟨by unfold xQ; rw[Ul,sizeLine_eq]; lia,out.toList,e,Q0 a1,he⟩),rfl,q ss' a2 a3 _ (I.hok.fresh (Dk _))⟩
def rMinL(Ξ:PySem.W.Frag):List V->Hp->VK->Prop:=λxs H Q=>∃(l:Addr)(ns:List Int),xs=[.ref l]/\SqL Ξ H l (ns.map V.int)/\0<ns.length/\∀M,M∈ns->(∀a∈ns,M<=a)->Q (.int M) H
theorem Xk(hK:X.K=Ξ)(hc:X.calm=true):zJ X (.builtin "min") (rMinL Ξ):=by
 subst hK;intro pins s σ H xs us Q I r h;obtain⟨l,ns,rfl,hl,h0,q⟩:=h;obtain⟨u,rfl,rx⟩:=ky r;cases rx;obtain⟨its,r',pl,hz⟩:=I.list hl;obtain⟨m,F,W,fin⟩:=I.ledger;exact min_list_N (I.ok.hd hc) F W pl.isList (Q8 r') h0 λh' M t tk F' W' hM hall=>⟨.int M,H,fin h' tk F' W',⟨_,rfl⟩,q M hM hall⟩
end
section
theorem collectT(hl:IsTup s.heap l vs.toArray)(hsz:vs.length<=sizeLine)(h:Q vs { s with heap:=(s.heap.push (seqObj "list" #[] 0)).update s.heap.objs.size (Obj.mapSeq (· ++ vs.toArray)) }):wpAny (model prog w) A (collect (.ref l)) Q E s:=by
 obtain⟨o,ho,hc,n,hd⟩:=id hl;unfold collect;refine wpAny_bind (wpAny_runValue (codeAny_builtin entry_proto_collect' ?_));show wpAny _ _ (do again (.builtin "list.__iadd__" ⟨[<-newList [], .ref l], []⟩)) _ _ s;refine wpAny_bind (wpAny_newList (wpAny_pure ⟨Code.quiet_builtin _ (by decide +kernel),codeAny_builtin entry_list_iadd' ?_⟩));show wpAny _ _ (Builtin.List.listExtendWith (.ref s.heap.objs.size) (.ref l) (.ref s.heap.objs.size)) _ _ { s with heap:=s.heap.push (seqObj "list" #[] 0) };unfold Builtin.List.listExtendWith;have ho':(s.heap.push (seqObj "list" #[] 0)).get? l=some o:=Heap.get?_push_of_some _ ho;refine wpAny_bind (wpAny_typeOf (T := "tuple") ⟨o,ho',hc⟩ ?_);have ht:(Value.type "tuple" == Value.type "tuple")=true:=by rfl
 rw[if_pos (by rw[ht]; simp)];refine wpAny_bind (listItems_at ho' hd ?_);refine wpAny_bind (listItems_at (xs:=#[]) (n:=0) (Heap.get?_push_size _ rfl) rfl ?_);rw[if_neg (by simp)];refine wpAny_bind (listUpdate_at (xs:=#[]) (n:=0) (Heap.get?_push_size _ rfl) rfl ?_ (U4 _) (by show(#[]++vs.toArray).size<=sizeLine+1; simp only[Array.size_append,Ut,U1]; lia));refine wpAny_pure ?_;refine wpAny_bind (wpAny_load (get?_update_seq (Heap.get?_push_size _ rfl) _) ?_);show wpAny _ _ (pure ((#[]:Array Value)++vs.toArray).toList) Q E _;rw[show((#[]:Array Value)++vs.toArray).toList=vs by simp];exact wpAny_pure h
theorem ZC{ss:List Str}(hl:IsTup s.heap l vs.toArray)(hS:StrsAre vs ss)(h64:vs.length<64)(h:∀(out:Array Value)(ss':List Str),StrsAre out.toList ss'->ss'.Perm ss->sortedS ss'=true->Q (.ref (s.heap.objs.size+1)) { s with heap:=sortedAll s.heap vs out }) :
  wpAny (model prog w) A (call (.builtin "sorted") [.ref l]) Q E s:=by
 refine Calls.call_function_entry kind_sorted plain_sorted entry_sorted (args_sorted1 _) ?_;unfold Builtin.«sorted»;refine wpAny_bind (m:=checkCount "sorted" 1 1 _) (wpAny_pure ?_);refine wpAny_bind (collectT hl (by rw[sizeLine_eq]; lia) ?_);refine wpAny_bind (wpAny_newList ?_);have hsz:((s.heap.push (seqObj "list" #[] 0)).update s.heap.objs.size (Obj.mapSeq (· ++ vs.toArray))).objs.size=s.heap.objs.size+1:=by
  rw[Heap.size_update,size_push']
 have hoL:(((s.heap.push (seqObj "list" #[] 0)).update s.heap.objs.size (Obj.mapSeq (· ++ vs.toArray))).push (seqObj "list" vs.toArray 0)).get? (s.heap.objs.size+1)=some (seqObj "list" vs.toArray 0):=by
  rw[<-hsz]; exact Heap.get?_push_size _ rfl
 show wpAny _ _ _ _ _ { s with heap:=((s.heap.push (seqObj "list" #[] 0)).update s.heap.objs.size (Obj.mapSeq (· ++ vs.toArray))).push (seqObj "list" vs.toArray 0) };rw[hsz];refine wpAny_bind (wpAny_holding (wpAny_call_entry slot_list_sort ⟨_,hoL,rfl⟩ entry_list_sort (list_sort_treeK strKind_oneLt hoL hS.keysOf (λv₁ v₂ rest e=>keyKind_strs (by rw[<-e]; exact hS)) h64 λst' hp hs=>⟨_,rfl, ?_⟩) (args_list_sort _)));obtain⟨ss',h1,h2,h3⟩:=sorted_out_str hS hp hs;exact wpAny_pure ⟨_,rfl,h _ ss' h1 h2 h3⟩
end
section
def rSortT(Ξ:PySem.W.Frag):List V->Hp->VK->Prop:=λxs H Q=>∃(p:Addr)(ss:List Str),xs=[.ref p]/\SqT Ξ H p (xQ ss)/\ss.length<64/\∀ss':List Str,ss'.Perm ss->sortedS ss'=true->∀l,H l=none->Q (.ref l) (upd H l (.lst (xQ ss')))
theorem Yp(hK:X.K=Ξ):zJ X (.builtin "sorted") (rSortT Ξ):=by
 subst hK;intro pins s σ H xs us Q I r h;obtain⟨p,ss,rfl,hq,h64,q⟩:=h;obtain⟨u,rfl,rx⟩:=ky r;cases rx;obtain⟨its,r',pl,hz⟩:=I.tuple hq;have hs:=Q1 r';have hl:its.length=ss.length:=by rw[<-r'.length]; unfold xQ; simp
 refine ZC pl hs (by lia) λout ss' a1 a2 a3=>?_;obtain⟨e,he⟩:=sortedAll_at s.heap its out;have hl2:ss'.length=ss.length:=a2.length_eq;exact⟨.ref (s.heap.objs.size+1),_,I.laid (t':=s.toks) (λ_ _=>sortedAll_old) (Dk _) (show ObjOk X.prog X.w _ _ _ (.lst (xQ ss')) from⟨by unfold xQ; rw[Ul,sizeLine_eq]; lia,out.toList,e,Q0 a1,he⟩),rfl,q ss' a2 a3 _ (I.hok.fresh (Dk _))⟩
def sSortS:List T->(T->Prop)->Prop:=λts Q=>∃ss:List Str,ts=[.lst (ss.map T.str)]/\ss.length<64/\∀ss':List Str,ss'.Perm ss->sortedS ss'=true->Q (.lst (ss'.map T.str))
theorem J0:∀{ss:List Str}{A:Addr->Prop}{H:Hp}{vs:List V},RepTs A H vs (ss.map T.str)->vs=xQ ss
 | [],_,_,_, .nil=>rfl
 |s::ss,_,_,_, .cons r q=>by cases r; rw[J0 q]; rfl
theorem ints_inv:∀{ss:List Int}{A:Addr->Prop}{H:Hp}{vs:List V},RepTs A H vs (ss.map T.int)->vs=ss.map V.int
 | [],_,_,_, .nil=>rfl
 |s::ss,_,_,_, .cons r q=>by cases r; rw[ints_inv q]; rfl
theorem Xj:CbL (rSortS Ξ) sSortS:=λA ι H M vs ts Qs Q w r ⟨ss,e,h64,q⟩ k=>by
 subst e;obtain⟨v,ev,r1⟩:=pv1 r;subst ev;obtain⟨p,zs,rfl,h1,h2⟩:=r1.lst_inv;cases J0 h2;exact⟨p,ss,rfl,SqL.of h1,h64,λss' a b l hl=>k _ ι _ _ (.fresh hl) (w.fresh hl) (zo w hl (k8 ss')) (q ss' a b)⟩
def sMinL:List T->(T->Prop)->Prop:=λts Q=>∃ss:List Int,ts=[.lst (ss.map T.int)]/\0<ss.length/\∀M,M∈ss->(∀a∈ss,M<=a)->Q (.int M)
theorem KB:CbL (rMinL Ξ) sMinL:=λA ι H M vs ts Qs Q w r ⟨ss,e,h0,q⟩ k=>by
 subst e;obtain⟨v,ev,r1⟩:=pv1 r;subst ev;obtain⟨p,zs,rfl,h1,h2⟩:=r1.lst_inv;cases ints_inv h2;exact⟨p,ss,rfl,SqL.of h1,h0,λM a b=>k _ ι _ _ (.refl _ _) w (.int M) (q M a b)⟩
def uSortK(ss:List Str):UE:=λρ M Q=>∀ss':List Str,ss'.Perm ss->sortedS ss'=true->Q (.p (.lst (ss'.map T.str))) M
theorem ce_sortK{ss:List Str}(h:KTu Ξ a (xQ ss))(h64:ss.length<64):ZE (tCB (rSortT Ξ) (zK (tC (.ref a)) tNil)) (uSortK ss):=⟨λA ι σ H ρ M Qu Q w e q k =>
 ⟨a,ss,rfl,h H,h64,λss' p1 p2 l hl=>k _ M ι _ _ (.fresh hl) (w.fresh hl) (.p (zo w hl (k8 ss'))) (q ss' p1 p2)⟩⟩
end
end L2
namespace L2
open PySem PySem.Spec PyProof.Rows PySem.W
section
theorem ObjOk.there(x:ObjOk P w H h a o):∃u,h.get? a=some u:=by
 cases o with
 |lst xs=>obtain⟨_,_,_,_,e⟩:=x; exact⟨_,e⟩
 |tup xs=>obtain⟨_,_,_,o,e,_⟩:=x; exact⟨_,e⟩
 |dK kvs=>obtain⟨_,_,_,_,o,_,_,e,_⟩:=x; exact⟨_,e⟩
 |dT kvs=>obtain⟨_,_,_,_,o,_,_,e,_⟩:=x; exact⟨_,e⟩
 |set S n=>obtain⟨o,_,_,_,e,_⟩:=x; exact⟨_,e⟩
 |ins C dx fs=>obtain⟨_,_,_,e,_⟩:=x; exact⟨_,e⟩
 |own y=>obtain⟨_,e⟩:=x; exact⟨_,e⟩
 |xd fs=>obtain⟨_,⟨_,_,_,e,_⟩,_⟩:=x; exact⟨_,e⟩
 |rng lo hi=>obtain⟨_,_,_,e⟩:=x; exact⟨_,e⟩
 |frz ob u=>obtain⟨e,_⟩:=x; exact⟨_,e⟩
 |tbl ps=>exact⟨_,x⟩
 |met f y=>exact⟨_,x⟩
 |ext φ=>obtain⟨_,⟨_,e⟩,_⟩:=x; exact⟨_,e⟩
end
end L2
namespace L2
open PySem PySem.Spec PyProof.Rows PySem.W
section
theorem WV{St:Nat->Heap->Prop}(W:Walks prog w A.in1 I fp wr n P St)(bt:Nat->Nat->Bool)(hcmp:CmpOf prog w A.in1 .Lt P bt)(S:Addr)(hSf:S∉fp)(d:Value) :
  ∀(k j:Nat)(s:Shared)(bs:Array Value)(c:Nat),n-j=k->j<=n->St j s.heap->((j=0/\bs=#[])\/(0<j/\∃vb,bs=#[vb,vb]/\P (argBest bt (j-1)) vb)) ->
  s.heap.get? S=some { cls:=.type "list", dict:=none,data:=.seq bs c,slots:=#[] } ->
  (∀v h' tk,((n=0/\v=d)\/(0<n/\P (argBest bt (n-1)) v))->(∀b o,b∉wr->b≠S->s.heap.get? b=some o->h'.get? b=some o)->R (.ok (.ret v)) { s with heap:=h',toks:=tk }) ->
  codeAny (model prog w) A (.builtin "min.loop" ⟨[.ref I, .none, .ref S], [("default", d)]⟩) R s:=by
 have hSw:S∉wr:=λh=>hSf (W.sub _ h);have hname:(toString "min" ++ toString ".loop" : String) = "min.loop" := by decide
 intro k
 induction k with
 |zero =>
  intro j s bs c hk hj hst hb hS hR;have hin:j=n:=by lia
  subst hin;refine codeAny_builtin F.entry_min_loop ?_;rw[Around.under_plainId F.plain_min_loop _];show wpAny _ A.in1 (seqItems? (.ref S) >>= _) _ _ s;refine wpAny_bind (wpAny_seqItems hS rfl ?_);show wpAny _ A.in1 (tryCatch (pyNext (.ref I)) _ >>= _) _ _ s;refine wpAny_bind (wpAny_tryCatch (W.done s _ _ hst λh' tk hk'=>?_));rcases hb with⟨h0,rfl⟩|⟨h0,vb,rfl,hp⟩
  ·refine wpAny_bind (wpAny_rule (wpAny_pure ?_))
   exact hR d h' tk (.inl ⟨h0,rfl⟩) λb o hbw _ e=>hk' b o hbw e
  ·have hS':=hk' S _ hSw hS
   show wpAny _ A.in1 (updateSeq S (λ_=>#[]) >>= _) _ _ _;refine wpAny_bind ?_;refine wpAny_updateSeq hS' rfl (wpAny_bind (wpAny_letGo (wpAny_pure ?_)));exact hR vb _ tk (.inr ⟨h0,hp⟩) λb o hbw hbS e=>(Heap.get?_update_other _ _ (Ne.symm hbS)).trans (hk' b o hbw e)
 |succ k ih =>
  intro j s bs c hk hj hst hb hS hR;have hlt:j<n:=by lia
  refine codeAny_builtin F.entry_min_loop ?_;rw[Around.under_plainId F.plain_min_loop _];show wpAny _ A.in1 (seqItems? (.ref S) >>= _) _ _ s;refine wpAny_bind (wpAny_seqItems hS rfl ?_);show wpAny _ A.in1 (tryCatch (pyNext (.ref I)) _ >>= _) _ _ s;refine wpAny_bind (wpAny_tryCatch (W.item j s _ _ hlt hst λv h' tk hP hst' hk'=>?_));have hS':=hk' S _ hSw hS;rcases hb with⟨h0,rfl⟩|⟨h0,vb,rfl,hp⟩
  ·subst h0
   show wpAny _ A.in1 (updateSeq S (λ_=>#[v,v]) >>= _) _ _ _;refine wpAny_bind ?_;refine wpAny_updateSeq hS' rfl ?_;rw[hname];refine wpAny_pure ⟨plainId_quiet F.plain_min_loop _,ih (0+1) _ #[v,v] _ (by lia) hlt (W.frame _ _ _ hst' λb hbf o e=>?_) (.inr ⟨D3 _,v,rfl,hP⟩) (Heap.get?_update_self _ hS' rfl) λv' h'' tk'' hP' hk''=>?_⟩
   ·exact(Heap.get?_update_other _ _ (λh:S=b=>hSf (by rw[h]; exact hbf))).trans e
   ·exact hR v' h'' tk'' hP' λb o hbw hbS e=>hk'' b o hbw hbS ((Heap.get?_update_other _ _ (Ne.symm hbS)).trans (hk' b o hbw e))
  ·obtain⟨i,rfl⟩:∃i,j=i+1:=⟨j-1,by lia⟩
   show wpAny _ A.in1 (tryCatch (holding [v,v] (richCompare .Lt v vb >>= _)) _ >>= _) _ _ _;refine wpAny_bind (wpAny_tryCatch (wpAny_holding (wpAny_bind (hcmp (i+1) (argBest bt i) v vb _ _ _ hP hp ?_))));refine wpAny_bind (wpAny_holding (wpAny_truthy_bool ?_));refine wpAny_bind (wpAny_letGo (wpAny_pure ?_));cases hb:bt (i+1) (argBest bt i) with
   |true =>
    simp only[if_true];refine wpAny_bind ?_;refine wpAny_updateSeq hS' rfl (wpAny_bind (wpAny_letGo ?_));rw[hname];refine wpAny_pure ⟨plainId_quiet F.plain_min_loop _,ih (i+1+1) _ #[v,v] _ (by lia) hlt (W.frame _ _ _ hst' λb hbf o e=>?_) (.inr ⟨D3 _,v,rfl,by show P (argBest bt (i+1)) v; simp only[argBest,hb,if_true]; exact hP⟩) (Heap.get?_update_self _ hS' rfl)
     λv' h'' tk'' hP' hk''=>?_⟩
    ·exact(Heap.get?_update_other _ _ (λh:S=b=>hSf (by rw[h]; exact hbf))).trans e
    ·exact hR v' h'' tk'' hP' λb o hbw hbS e=>hk'' b o hbw hbS ((Heap.get?_update_other _ _ (Ne.symm hbS)).trans (hk' b o hbw e))
   |false =>
    simp only[U6,if_false];refine wpAny_bind (wpAny_letGo ?_);rw[hname];refine wpAny_pure ⟨plainId_quiet F.plain_min_loop _,ih (i+1+1) _ #[vb,vb] c (by lia) hlt hst' (.inr ⟨D3 _,vb,rfl,by show P (argBest bt (i+1)) vb; simp only[argBest,hb,U6,if_false]; exact hp⟩) hS' λv' h'' tk'' hP' hk''=>?_⟩;exact hR v' h'' tk'' hP' λb o hbw hbS e=>hk'' b o hbw hbS (hk' b o hbw e)
end
section
theorem qad(a v:Value):argsOk "min" ⟨[a], [("default", v)]⟩:=by unfold argsOk; kernel_rfl
theorem WW(hh:A.handled=none)(hl:s.heap.IsList l vs.toArray)(hi:IntsAre vs ns)(h:∀h' v tk,(∀b o,s.heap.get? b=some o->h'.get? b=some o)->((ns=[]/\v=d)\/∃M t,v=.int M t/\M∈ns/\∀a∈ns,M<=a)->Q v { s with heap:=h',toks:=tk }) :
  wpAny (model prog w) A (call (.builtin "min") [.ref l] [("default", d)]) Q E s:=by
 obtain⟨xs,e⟩:=hi.allInts.items;have hns:ns=xs.toList.map (·.1):=by rw[<-hi.numsOf, <-nums_intItems, <-e]
 rw[e] at hl;have hname:(toString "min" ++ toString ".loop" : String) = "min.loop" := by decide
 refine kmb_tree F.kind_min F.plain_min F.entry_min (qad _ _) ?_;show wpAny _ A.in1 (Builtin.Builtins.bindParams "min" ["key","default"] 0 ⟨[], [("default", d)]⟩ >>= _) _ _ s;refine wpAny_bind (wpAny_of_eq (show Builtin.Builtins.bindParams "min" ["key","default"] 0 ⟨[], [("default", d)]⟩=pure [none,some d] from rfl) ?_);refine wpAny_bind (wpAny_pure ?_);refine wpAny_bind (iter_intList hl λs₂ e2 st hfp hlI=>?_);subst e2;refine wpAny_bind (wpAny_newObj_type ?_);rw[hname];have W:=Walks.list (prog:=prog) (w:=w) (A:=A.in1) hh s.heap.objs.size l hlI (intItems xs);refine wpAny_pure ⟨plainId_quiet F.plain_min_loop _,WV W (λi j=>decide (numAt xs i<numAt xs j)) (CmpOf.ints_lt (numAt xs) (λ_ _=>intItems_at)) _ (λhm=>Dh _ (hfp _ hm)) d _ 0 _ #[] 0 rfl (U4 _) (W.frame _ _ _ st λb _ o e=>Heap.get?_push_of_some _ e) (.inl ⟨rfl,rfl⟩) (Heap.get?_push_size _ rfl) λv h' tk hP hk=>?_⟩;refine h h' v tk (λb o q=>hk b o (λz=>?_) (UJ ?_) (Heap.get?_push_of_some _ (Heap.get?_push_of_some _ q))) ?_
 ·rw[Uq.mp z] at q
  exact absurd (Heap.lt_size q) (Dh _)
 ·exact Nat.lt_trans (Heap.lt_size q) (by show _<(s.heap.push _).objs.size; rw[size_push']; exact Rq _)
 ·rcases hP with⟨h0,rfl⟩|⟨h0,hP⟩
  ·refine .inl ⟨?_,rfl⟩
   have:xs.size=0:=by simpa[intItems] using h0
   rw[hns,Array.eq_empty_of_size_eq_zero this]; rfl
  ·obtain⟨t,rfl⟩:=intItems_at hP
   have hsz:(intItems xs).size=xs.size:=by simp[intItems]
   rw[hsz] at h0;obtain⟨h1,h2⟩:=argBest_lt (numAt xs) (xs.size-1);refine .inr ⟨_,t,rfl, ?_,λa ha=>?_⟩
   ·rw[hsz,hns,numAt_eq]; exact getD_mem (by rw[Ul,DM]; lia)
   ·rw[hns] at ha
    obtain⟨j,hj,rfl⟩:=mem_getD ha;rw[Ul,DM] at hj;rw[<-numAt_eq,hsz]; exact h2 j (by lia)
end
section
def rMinD(Ξ:PySem.W.Frag):List V->Hp->VK->Prop:=λxs H Q=>∃(l:Addr)(ns:List Int),xs=[.ref l, .non]/\SqL Ξ H l (ns.map V.int)/\(ns=[]->Q .non H)/\∀M,M∈ns->(∀a∈ns,M<=a)->Q (.int M) H
theorem qe_minD(hK:X.K=Ξ)(hc:X.calm=true)(hg:Gl X x)(hm:X.mg x=none)(hv:bootBuiltins x=some (.builtin "min"))(ha:QE X e te)(hd:QE X ed td)(hn:x ≠ "__name__" := by decide)(hdb:(x==("__debug__" : Str))=false:=by decide)(he2:starEach [e] X.env=(false,eval e X.env)::starEach [] X.env:=by rfl):QE X (.Call (.Name x p) [e] [⟨some "default", ed,kp⟩] pos) (tCB (rMinD Ξ) (zK te (zK td tNil))):=⟨by
 subst hK;intro pins s σ H Q I h;refine wpAny_Call_Name_kw (Qp I hg hm hv ?_ hn hdb);refine callWith_kw (thn (Wm ha.h pa_nil he2 pos pins s σ H (λxs H1=>match xs with | [x]=>td σ H1 λy H2=>rMinD X.K [x,y] H2 Q|_=>False) I h) λus s1 ⟨vs,H1,I1,r,q⟩=>?_) (by rw[he2]; rfl) (by rw[he2]; rfl);obtain⟨x0,rfl⟩:∃x0,vs=[x0]:=by
  match vs,q with
  | [x0],_=>exact⟨x0,rfl⟩
  | [],q=>exact q.elim
  |_::_::_,q=>exact q.elim
 cases r with
 |cons r1 r =>
 cases r;refine thn (pk_cons hd.h pk_nil pos pins s1 σ H1 (λzs H2=>match zs with | [y]=>rMinD X.K [x0,y] H2 Q|_=>False) I1 q) λws s2 ⟨zs,H2,I2,rz,q2⟩=>?_;cases rz with
 |nil=>exact q2.elim
 |cons r2 r =>
 cases r with
 |cons _ _=>exact q2.elim
 |nil =>
 obtain⟨l,ns,ex,hl,qa,qb⟩:=q2;cases ex;cases r1;cases r2;obtain⟨its,r',pl,hz⟩:=I2.list hl;exact WW (I2.ok.hd hc) pl.isList (Q8 r') λh' v tk hk hv=>by
  rcases hv with⟨e0,rfl⟩|⟨M,t,rfl,hM,hall⟩
  ·exact⟨.non,H2,I2.kept (t':=tk) hk,rfl,qa e0⟩
  ·exact⟨.int M,H2,I2.kept (t':=tk) hk,⟨t,rfl⟩,qb M hM hall⟩⟩
def sMinD:List T->(T->Prop)->Prop:=λts Q=>∃ss:List Int,ts=[.lst (ss.map T.int), .non]/\(ss=[]->Q .non)/\∀M,M∈ss->(∀a∈ss,M<=a)->Q (.int M)
theorem cbl_minD:CbL (rMinD Ξ) sMinD:=λA ι H M vs ts Qs Q w r ⟨ss,e,qa,qb⟩ k=>by
 subst e;obtain⟨v,z,ev,r1,r2⟩:=pv2 r;subst ev;obtain⟨p,zs,rfl,h1,h2⟩:=r1.lst_inv;cases ints_inv h2;cases r2.sc (y:=.non) rfl;exact⟨p,ss,rfl,SqL.of h1,λe=>k _ ι _ _ (.refl _ _) w .non (qa e),λM a b=>k _ ι _ _ (.refl _ _) w (.int M) (qb M a b)⟩
end
section
theorem rel_key(h:(vq P w).is k v=true):RelV (kV k) v:=by
 rcases vk h with⟨i,t,rfl,rfl⟩|⟨x,t,rfl,rfl⟩|⟨rfl,rfl⟩
 ·exact⟨t,rfl⟩
 ·exact⟨t,rfl⟩
 ·rfl
theorem Inv.freeze(I:Inv X pins σ H s)(e:H d=some (.dK kvs)):∃o,s.heap.get? d=some o/\Inv X pins σ (upd H d (.frz o (.dK kvs))) s:=by
 obtain⟨o,ho⟩:=(I.hok d _ e).there;have ne:∀{b:Addr}{u:HO},H b=some u->(∀k,u ≠ .dK k)->b≠d:=λhb hu z=>by
  subst z;rw[e] at hb;cases hb;exact hu _ rfl
 refine⟨o,ho,I.step (ch:=[]) (h':=s.heap) (g':=s.gens) (t':=s.toks) (d':=s.drawn) (λb hb=>nomatch hb) (λb o _ _ _ e _=>e) (λb o _ _ _ e _=>⟨o.slots,e⟩) (λb o' _ _ z=>?_) (λb o _ e=>⟨o,e⟩) (λb xs q=>?_) (λb o u q=>?_) (λb ps q=>⟨#[], ?_⟩) (λm h=>h) (λa u q=>?_) I.bare⟩
 ·rw[upd_ne λz'=>by rw[z',e] at z; cases z]; exact z
 ·rw[upd_ne (ne q λk z=>by cases z)]; exact q
 ·rw[upd_ne (ne q λk z=>by cases z)]; exact q
 ·rw[upd_ne (ne q λk z=>by cases z)]; simpa using q
 ·have own:∀c x,H c=some (.own x)->upd H d (.frz o (.dK kvs)) c=some (.own x):=λc x q=>by rw[upd_ne (ne q λk z=>by cases z)]; exact q
  have tup:∀c xs,H c=some (.tup xs)->upd H d (.frz o (.dK kvs)) c=some (.tup xs):=λc x q=>by rw[upd_ne (ne q λk z=>by cases z)]; exact q
  by_cases ha:a=d
  ·subst ha
   rw[upd_same] at q;cases q;exact⟨ho,(I.hok a _ e).stay (λb u _ q=>q) (λc q=>own c _ q) λc xs q=>tup c xs q⟩
  ·rw[upd_ne ha] at q
   exact(I.hok a u q).stay (λb u _ q=>q) (λc q=>own c _ q) λc xs q=>tup c xs q
def Itd(vals:Bool)(d:Addr)(o:Obj)(kvs:List (Key×V)):It :=
 ⟨λi H=>H d=some (.frz o (.dK kvs))/\i<kvs.length,λi H x H'=>H'=H/\∃k v,kvs[i]?=some (k,v)/\x=(if vals then v else kV k),λi H=>H d=some (.frz o (.dK kvs))/\kvs.length<=i⟩
theorem Gz(hep:o.data=.dict es ep)(I:Inv X pins σ H s)(h:H d=some (.frz o (.dK kvs))):∃vs,KV kvs vs/\s.heap.DictAt (vq X.prog X.w) d vs ep:=by
 obtain⟨ho,_,_,vs,rel,o',es',ep',ho',hx,hd,r⟩:=I.hok d _ h;rw[ho] at ho';cases ho';rw[hep] at hd;cases hd;exact⟨vs,rel,o,es,ho,hx,hep,r⟩
theorem YJ(hne:d≠it)(hep:o.data=.dict es ep):Turn P w Ξ tg (Itd false d o kvs) [it] it (λi h=>h.IsKeyIter it d i kvs.length ep) where
 mem:=by simp
 obj:=λi h st b hb=>by
  have e:b=it:=by simpa using hb
  subst e;obtain⟨o,e,c,d⟩:=st;exact⟨o,e,λv z=>by rw[d] at z; cases z⟩
 keep:=λi h h' st k=>st.at λo e=>k it (by simp) o e
 item:=by
  intro X hP hw hK hc i pins s σ H E I hf st hg;subst hP hw hK;obtain⟨hH,hi⟩:=hg;obtain⟨vs,rel,dd⟩:=Gz hep I hH;have hl:kvs.length=vs.length:=KV.length rel;rw[hl] at st;obtain⟨f0,f1,f2,f3,f4,f5⟩:=hf it (by simp);have hv:vs[i]?=some (vs[i]'(by lia)):=Uk _;obtain⟨⟨k,v⟩,hk,hkv⟩:∃p,kvs[i]?=some p/\p.1=(vs[i]'(by lia)).1:=by
   have hk:kvs[i]?=some (kvs[i]'hi):=Uk _;exact⟨_,hk,(Paired.get2 rel hk hv).1⟩
  refine wpAny_pyNext_dict_item st dd (k:=(vs[i]'(by lia)).1) (v:=(vs[i]'(by lia)).2) hv λkey h' hkey st' hs'=>?_;have I1:Inv X pins σ H { s with heap:=h' }:=I.turned (t':=s.toks) (λb o hb e=>hs'.extBut b o hb e) f0 f1 f3 f4 f5;rw[<-hl] at st';obtain⟨o,e,c,d⟩:=id st';exact⟨key,rfl,go_of (s:={ s with heap:=h' }) e c d (by decide) ⟨kV k,H,I1,by rw[show k=_ from hkv]; exact rel_key hkey,⟨rfl,k,v,hk,rfl⟩,st',λb hb=>(hf b hb).1⟩⟩
 done:=by
  intro X hP hw hK hc i pins s σ H E I hf st hg;subst hP hw hK;obtain⟨hH,hi⟩:=hg;obtain⟨vs,rel,dd⟩:=Gz hep I hH;have hl:kvs.length=vs.length:=KV.length rel;rw[hl] at st;obtain⟨f0,f1,f2,f3,f4,f5⟩:=hf it (by simp);exact wpAny_pyNext_dict_end (I.ok.hd hc) st dd (by first|lia|(simp; lia)) λh' eb=>⟨rfl,I.turned (t':=s.toks) (λb o hb e=>eb b o hb e) f0 f1 f3 f4 f5⟩
 self:=λ_ _ _ _ _ st h=>wpAny_pyIter_keyiter st h
end
section
def iDict(tl:TE):TI:=λσ H R=>tl σ H λx H1=>∃d,x=.ref d/\((∃kvs,H1 d=some (.dK kvs)/\∀o,R (Itd false d o kvs) (upd H1 d (.frz o (.dK kvs))))\/∃o kvs,H1 d=some (.frz o (.dK kvs))/\R (Itd false d o kvs) H1)
theorem XY(hl:QE X l tl):QI X tg l (iDict tl):=⟨by
 intro pins s σ H R I h;refine thn (hl.h pins s σ H _ I h) λv s1 ⟨x,H1,I1,r1,q1⟩=>?_;obtain⟨d,e,q⟩:=q1;subst e;cases r1;have go:∀(o:Obj)(kvs:List (Key×V))(H2:Hp),Inv X pins σ H2 s1->H2 d=some (.frz o (.dK kvs))->R (Itd false d o kvs) H2->wpAny (model X.prog X.w) X.A (pyIter (.ref d)) (PIE X pins σ tg R) X.xe s1:=λo kvs H2 I2 hH q=>by
  obtain⟨ho,hz,hsys,vs,rel,o',es,ep,ho',hx,hd,r⟩:=id (I2.hok d _ hH);rw[ho] at ho';cases ho';obtain⟨vs',rel',dd⟩:=Gz hd I2 hH;have hl.h:kvs.length=vs'.length:=KV.length rel';refine wpAny_pyIter_dict hsys dd ?_;rw[<-hl.h];refine⟨s1.heap.objs.size, [s1.heap.objs.size],_,_,H2,rfl,I2.kept (t':=s1.toks) λb o e=>Heap.get?_push_of_some _ e,YJ (UJ (Heap.lt_size ho)) hd,⟨_,Heap.get?_push_size _ rfl,rfl,rfl⟩,λb hb=>?_,q⟩;have e:b=s1.heap.objs.size:=by simpa using hb
  subst e;exact I2.fpOk (Up _) (I2.hok.fresh (Up _))
 rcases q with⟨kvs,hH,q⟩|⟨o,kvs,hH,q⟩
 ·obtain⟨o,ho,I2⟩:=I1.freeze hH
  exact go o kvs _ I2 upd_same (q o)
 ·exact go o kvs H1 I1 hH q⟩
end
section
def itD(vals:Bool)(k:Nat)(kvs:List (Key×U))(ob:Obj)(gs:List (Key×V)):UIt:=⟨kvs.length,λM=>M[k]?=some (.dF kvs ob gs),λi z=>∃key v,kvs[i]?=some (key,v)/\z=(if vals then v else keyU key)⟩
def DWalkS(vals:Bool)(M:MM)(x:U)(Q:UIt->MM->Prop):Prop:=∃k kvs,x=.m k/\((M[k]?=some (.dK kvs)/\∀ob gs,Q (itD vals k kvs ob gs) (M.set k (.dF kvs ob gs)))\/∃ob gs,M[k]?=some (.dF kvs ob gs)/\Q (itD vals k kvs ob gs) M)
def YD(vals:Bool)(ua:UE):UI:=λρ M Q=>ua ρ M λx M1=>DWalkS vals M1 x Q
theorem keyU_rep(k:Key):RepU A ι H (kV k) (keyU k):=by
 cases k with
 |inl i=>exact .p (.int i)
 |inr x=>exact .p (.str x)
 |non=>exact .p .non
theorem Gf(ek:ι1[kk]?=some a):ItR A ι1 H1 (Itd vals a ob gs) (itD vals kk kvs ob gs):=by
 intro A' ι2 H2 M2 i l w2 ok;have ek2:ι2[kk]?=some a:=by
  obtain⟨nn,rfl⟩:=l.ext;rw[Uo (Uj.mp ek).1]; exact ek
 obtain⟨h3,h4⟩:=w2.obj kk a _ ek2 ok;have hl:=h4.len;refine⟨λhi=>⟨⟨h3,by rw[hl]; exact hi⟩,λx H' y=>?_⟩,λhi=>⟨h3,by rw[hl]; exact D2 hi.symm⟩⟩;obtain⟨rfl,key,v,hkv,rfl⟩:=y;obtain⟨⟨key',u⟩,hu,e1,ru⟩:=Paired.getL h4 hkv;have e1:key=key':=e1;subst e1;refine⟨_,⟨key,u,hu,rfl⟩, .refl _ _,w2, ?_⟩;cases vals with
 |true=>exact ru
 |false=>exact keyU_rep key
theorem li_dictB(hw:∀σ H R,(ta σ H λx H1=>∃d,x=.ref d/\((∃kvs,H1 d=some (.dK kvs)/\∀o,R (Itd vals d o kvs) (upd H1 d (.frz o (.dK kvs))))\/∃o kvs,H1 d=some (.frz o (.dK kvs))/\R (Itd vals d o kvs) H1))->wi σ H R)(ha:LE ta ua):LI wi (YD vals ua):=λA ι σ H ρ M Qu R w e q k =>
 hw σ H R (ha A ι σ H ρ M _ _ w e q λx M1 ι1 v H1 l1 w1 r1 ⟨kk,kvs,ex,q1⟩=>by
  subst ex;cases r1 with
  |m ek =>
  rename_i a;have hm:=Um ek;rcases q1 with⟨em,q1⟩|⟨ob,gs,em,q1⟩
  ·obtain⟨gs,h1,h2⟩:=w1.obj kk a _ ek em
   exact⟨a,rfl, .inl ⟨gs,h1,λo=>k _ _ ι1 _ _ (l1.trans (.put hm)) (w1.put (mo:=.dF kvs o gs) ek ⟨upd_same,Paired.mapP h2 λ_ _ q=>⟨q.1,q.2.le (.put hm)⟩⟩) (Gf ek) (q1 o gs)⟩⟩
  ·obtain⟨h1,h2⟩:=w1.obj kk a _ ek em
   exact⟨a,rfl, .inr ⟨ob,gs,h1,k _ _ ι1 _ _ l1 w1 (Gf ek) q1⟩⟩)
theorem JD(ha:ZE ta ua):ZI (iDict ta) (YD false ua):=⟨li_dictB (λ_ _ _ h=>h) ha.h⟩
theorem DGet.f{k:Key}(e:H a=some (.frz o (.dK kvs))):DGet H a (kV k) (valV kvs k):=.inl ⟨kvs,k, .inr ⟨o,e⟩,rfl,rfl⟩
def DGetFS(M:MM)(x y:U)(Q:UK):Prop:=∃k kvs ob gs key w,x=.m k/\M[k]?=some (.dF kvs ob gs)/\y=keyU key/\valU kvs key=some w/\Q w M
def JT(ua ub:UE):UE:=λρ M Q=>ua ρ M λx M1=>ub ρ M1 λy M2=>DGetFS M2 x y Q
theorem Zl(ha:ZE ta ua)(hb:ZE tb ub):ZE (YN ta tb) (JT ua ub):=⟨λA ι σ H ρ M Qu Q w e q k =>
 ha.h A ι σ H ρ M _ _ w e q λx M1 ι1 v H1 l1 w1 r1 q1=>hb.h A ι1 σ H1 ρ M1 _ _ w1 (e.le l1) q1 λy M2 ι2 v2 H2 l2 w2 r2 ⟨kk,kvs,ob,gs,key,z,ex,em,ey,ez,q2⟩=>by
  subst ex ey;have r1':=r1.le l2;cases r1' with
  |m ek =>
  obtain⟨h1,h2⟩:=w2.obj kk _ _ ek em;have hv:=Vk (k:=key) h2;rw[ez] at hv;obtain⟨x',hx,rx⟩:=hv;refine⟨_,x',rfl, ?_,k z M2 ι2 x' H2 (l1.trans l2) w2 rx q2⟩;have:=DGet.f (k:=key) h1;rw[hx] at this;rw[j7 r2];exact this⟩
def DG1FS(M:MM)(x:U)(ρ:UEnv)(uy:UE)(Q:UK):Prop:=∃k kvs ob gs,x=.m k/\M[k]?=some (.dF kvs ob gs)/\uy ρ M λy M2=>∃key,M2[k]?=some (.dF kvs ob gs)/\y=keyU key/\Q ((valU kvs key).getD (.p .non)) M2
def YE(ud uy:UE):UE:=λρ M Q=>ud ρ M λx M1=>DG1FS M1 x ρ uy Q
theorem G0(hd:ZE ta ua)(hy:ZE ty uy):ZE (JZ ta ty) (YE ua uy):=⟨λA ι σ H ρ M Qu Q w e q k =>
 hd.h A ι σ H ρ M _ _ w e q λx M1 ι1 v H1 l1 w1 r1 ⟨kk,kvs,ob,gs,ex,em,q1⟩=>by
  subst ex;cases r1 with
  |m ek =>
  rename_i a;obtain⟨h0,_⟩:=w1.obj kk a _ ek em;refine⟨a,rfl, .inl ⟨gs, .inr ⟨ob,h0⟩⟩,hy.h A ι1 σ H1 ρ M1 _ _ w1 (e.le l1) q1 λy M2 ι2 v2 H2 l2 w2 r2 ⟨key,em2,ey,q2⟩=>?_⟩;subst ey;have ek2:ι2[kk]?=some a:=by
   obtain⟨nn,rfl,_⟩:=l2.ext;rw[Uo (Uj.mp ek).1]; exact ek
  obtain⟨h1,h2⟩:=w2.obj kk a _ ek2 em2;have hv:=Vk (k:=key) h2;have g:=DGet.f (k:=key) h1;rw[<-j7 r2] at g;refine⟨_,g, ?_⟩;cases ev:valU kvs key with
  |none =>
   rw[ev] at hv q2;simp only at hv;rw[hv];exact k _ M2 ι2 _ H2 (l1.trans l2) w2 (.p .non) q2
  |some u =>
   rw[ev] at hv q2;obtain⟨x,hx,rx⟩:=hv;rw[hx];exact k _ M2 ι2 _ H2 (l1.trans l2) w2 rx q2⟩
end
section
def min3(i j k:Int):Int:=if j<i then(if k<j then k else j) else(if k<i then k else i)
theorem Je:min3 i j k<=i/\min3 i j k<=j/\min3 i j k<=k:=by unfold min3; split<;>split<;>lia
theorem min3_or:min3 i j k=i\/min3 i j k=j\/min3 i j k=k:=by unfold min3; split<;>split<;>simp
theorem G4(hc:X.calm=true):zJ X (.builtin "min") (λxs H Q=>∃i j k,xs=[.int i, .int j, .int k]/\Q (.int (min3 i j k)) H):=by
 intro pins s σ H xs us Q I r h;obtain⟨i,j,k,rfl,q⟩:=h;cases r with
 |cons r1 r =>
 obtain⟨u,w',rfl,⟨t,rfl⟩,⟨t',rfl⟩⟩:=Yt r;obtain⟨t0,rfl⟩:=r1;refine min_three_ints (I.ok.hd hc) λh' tk kp=>⟨_,H,I.kept kp, ?_,q⟩;unfold min3;by_cases h1:j<i
 ·rw[if_pos h1,if_pos h1]
  by_cases h2:k<j
  ·rw[if_pos h2,if_pos h2]; exact⟨_,rfl⟩
  ·rw[if_neg h2,if_neg h2]; exact⟨_,rfl⟩
 ·rw[if_neg h1,if_neg h1]
  by_cases h2:k<i
  ·rw[if_pos h2,if_pos h2]; exact⟨_,rfl⟩
  ·rw[if_neg h2,if_neg h2]; exact⟨_,rfl⟩
def sMin3:List T->(T->Prop)->Prop:=λts Q=>∃i j k,ts=[.int i, .int j, .int k]/\Q (.int (min3 i j k))
theorem cbl_min3:CbL (λxs H Q=>∃i j k,xs=[.int i, .int j, .int k]/\Q (.int (min3 i j k)) H) sMin3:=λA ι H M vs ts Qs Q w r ⟨i,j,k0,e,q⟩ k=>by
 subst e;cases r with
 |cons r0 r =>
 obtain⟨v,z,ev,r1,r2⟩:=pv2 r;subst ev;cases r0.int_inv; cases r1.int_inv; cases r2.int_inv;exact⟨i,j,k0,rfl,k _ ι _ H (.refl _ _) w (.int _) q⟩
theorem rd_min3:sMin3 [.int i, .int j, .int k] Q=Q (.int (min3 i j k)):=propext ⟨λ⟨_,_,_,e,h⟩=>by cases e; exact h,λh=>⟨i,j,k,rfl,h⟩⟩
end
section
def LRng1N(us:List U)(M:MM)(Q:UK):Prop:=∃m:Nat,us=[.p (.int m)]/\m<=1000000/\Q (.m M.length) (M++[.lst (((List.range m).map λk:Nat=>T.int k).map U.p)])
def YC(ul:UA):UE:=λρ M Q=>ul ρ M λus M1=>LRng1N us M1 Q
theorem VG:∀l:List Nat,RepUs A ι H (l.map λk:Nat=>V.int ((0:Int)+k)) ((l.map λk:Nat=>T.int k).map U.p)
 | []=>.nil
 |k::l=>.cons (by show RepU A ι H (V.int ((0:Int)+k)) (.p (.int k)); rw[R7]; exact .p (.int _)) (VG l)
theorem GX(ha:ZA n tl ul):ZE (tCB J5 (zK (tCB rRng1 tl) tNil)) (YC ul):=⟨λA ι σ H ρ M Qu Q w e q k =>
 ha.h A ι σ H ρ M _ _ w e q λus M1 ι1 vs H1 l1 w1 hl r1 ⟨m,eu,hm,q1⟩=>by
  subst eu;cases r1 with
  |cons r1 r =>
  cases r;cases r1 with
  |p r1 =>
  cases r1;refine⟨m,rfl,λl hl=>⟨l,0,m,m,rfl,upd_same,by decide,by lia,by lia,hm,λl2 hl2=>?_⟩⟩;have w2:=w1.fresh (o:=.rng 0 m) hl;exact k _ _ _ _ _ ((l1.trans (.fresh hl)).trans (.push hl2)) (zG w2 hl2 (VG _)).1 (zG w2 hl2 (VG _)).2 q1⟩
end
section
def CatN(x y:U)(M:MM)(Q:UK):Prop:=∃us vs,vd M x=some us/\vd M y=some vs/\us.length+vs.length<=sizeLine/\Q (.m M.length) (M++[.lst (us++vs)])
def uCatN(ua ub:UE):UE:=λρ M Q=>ua ρ M λx M1=>ub ρ M1 λy M2=>CatN x y M2 Q
theorem ce_catN(ha:ZE ta ua)(hb:ZE tb ub):ZE (tOp rCat ta tb) (uCatN ua ub):=⟨λA ι σ H ρ M Qu Q w e q k =>
 ha.h A ι σ H ρ M _ _ w e q λx M1 ι1 v H1 l1 w1 r1 q1=>hb.h A ι1 σ H1 ρ M1 _ _ w1 (e.le l1) q1 λy M2 ι2 v2 H2 l2 w2 r2 ⟨us,vs,hx,hy,hz,q2⟩=>by
  obtain⟨p,xs,rfl,h1,h2⟩:=vG w2 (r1.le l2) hx;obtain⟨p2,ys,rfl,h3,h4⟩:=vG w2 r2 hy;exact⟨p,p2,xs,ys,rfl,rfl,h1,h3,by rw[h2.len,h4.len]; exact hz,λl hl=>k _ _ _ _ _ ((l1.trans l2).trans (.push hl)) (zG w2 hl (h2.app h4)).1 (zG w2 hl (h2.app h4)).2 q2⟩⟩
end
def tWordE(a:Addr)(d:Option Addr)(ta:TE):TE:=λσ H Q=>ta σ H λv H1=>v=.ref a/\∃z n x0,d=some x0/\H1 x0=some (.xd [("word", .str z),("k", .int n)])/\Q (.str z) H1
theorem qe_word(ck:ExcK X.K C g)(na:NoAttr X.K C "word")(ob:ExcOb C d oe)(hp:(a,oe)∈X.pn)(ho:QE X o ta)(hab:attributeBase o "word" X.env (eval o X.env)=eval o X.env:=by rfl):QE X (.Attribute o "word" pos) (tWordE a d ta):=⟨λpins s σ H Q I h=>by
 refine qaa hab (thn (ho.h pins s σ H _ I h) λu s1 ⟨v,H1,I1,r,ev,z,n,x0,ed,hx0,q⟩=>?_);subst ev;obtain rfl:u=Value.ref a:=r;obtain⟨mA,hns,hrel⟩:=I1.hok x0 _ hx0;obtain⟨od,hod,hlk⟩:=jG hns;have hpin:=(I1.pin (a,oe) (UH _ hp)).1;have hv:∃t,mA "word" = some (.str z t):=by
  have:=hrel "word";obtain⟨u,hu,t,rfl⟩:=RelO.some_of (v:=.str z) (o:=mA "word") (by simpa using this);exact⟨t,hu⟩
 obtain⟨tn,hv⟩:=hv;obtain⟨vs,hda⟩:=ob.v;refine W.getX_value (v:=.str z tn) (C:=C) (od:=some od) I1.kIn ⟨hpin,ob.c,by unfold W.notCls; rw[hda],by rw[ob.d,ed]; exact hod⟩ ck.ga ck.gt ck.mr ?_ rfl ?_
 ·exact RO ck.hd na rfl (by rw[hlk,hv])
 ·exact⟨.str z,H1,I1.tok _,⟨_,rfl⟩,q⟩⟩
def tKE(a:Addr)(d:Option Addr)(ta:TE):TE:=λσ H Q=>ta σ H λv H1=>v=.ref a/\∃z n x0,d=some x0/\H1 x0=some (.xd [("word", .str z),("k", .int n)])/\Q (.int n) H1
theorem qe_kf(ck:ExcK X.K C g)(na:NoAttr X.K C "k")(ob:ExcOb C d oe)(hp:(a,oe)∈X.pn)(ho:QE X o ta)(hab:attributeBase o "k" X.env (eval o X.env)=eval o X.env:=by rfl):QE X (.Attribute o "k" pos) (tKE a d ta):=⟨λpins s σ H Q I h=>by
 refine qaa hab (thn (ho.h pins s σ H _ I h) λu s1 ⟨v,H1,I1,r,ev,z,n,x0,ed,hx0,q⟩=>?_);subst ev;obtain rfl:u=Value.ref a:=r;obtain⟨mA,hns,hrel⟩:=I1.hok x0 _ hx0;obtain⟨od,hod,hlk⟩:=jG hns;have hpin:=(I1.pin (a,oe) (UH _ hp)).1;have hv:∃t,mA "k" = some (.int n t):=by
  have:=hrel "k";have e1:List.lookup ("k" : Str) ([("word", V.str z),("k", V.int n)]:List (Str×V))=some (.int n):=by
   rw[UM,show(("k" : Str)==("word" : Str))=false by decide,UM,beq_self_eq_true]
  rw[e1] at this;obtain⟨u,hu,t,rfl⟩:=RelO.some_of (v:=.int n) (o:=mA "k") this;exact⟨t,hu⟩
 obtain⟨tn,hv⟩:=hv;obtain⟨vs,hda⟩:=ob.v;refine W.getX_value (v:=.int n tn) (C:=C) (od:=some od) I1.kIn ⟨hpin,ob.c,by unfold W.notCls; rw[hda],by rw[ob.d,ed]; exact hod⟩ ck.ga ck.gt ck.mr ?_ rfl ?_
 ·exact RO ck.hd na rfl (by rw[hlk,hv])
 ·exact⟨.int n,H1,I1.tok _,⟨_,rfl⟩,q⟩⟩
section
def uWordE(a:Addr)(d:Option Addr)(ua:UE):UE:=λρ M Q=>ua ρ M λx M1=>∃n,x=.x a d (some n)/\1000000<=n/\Q (.p (.str (wW n))) M1
def uKE(a:Addr)(d:Option Addr)(ua:UE):UE:=λρ M Q=>ua ρ M λx M1=>∃n,x=.x a d (some n)/\1000000<=n/\Q (.p (.int (wK n))) M1
theorem ce_word(ha:ZE ta ua):ZE (tWordE a d ta) (uWordE a d ua):=⟨λA ι σ H ρ M Qu Q w e q k =>
 ha.h A ι σ H ρ M _ _ w e q λx M1 ι1 v H1 l1 w1 r1 ⟨n,ex,hn6,q1⟩=>by
  subst ex;cases r1 with
  |x h =>
   obtain⟨x0,ed,ni,hx⟩:=h;rw[Xv hn6] at hx;exact⟨rfl,_,_,x0,ed,hx,k _ M1 ι1 _ H1 l1 w1 (.p (.str _)) q1⟩⟩
theorem ce_kf(ha:ZE ta ua):ZE (tKE a d ta) (uKE a d ua):=⟨λA ι σ H ρ M Qu Q w e q k =>
 ha.h A ι σ H ρ M _ _ w e q λx M1 ι1 v H1 l1 w1 r1 ⟨n,ex,hn6,q1⟩=>by
  subst ex;cases r1 with
  |x h =>
   obtain⟨x0,ed,ni,hx⟩:=h;rw[Xv hn6] at hx;exact⟨rfl,_,_,x0,ed,hx,k _ M1 ι1 _ H1 l1 w1 (.p (.int _)) q1⟩⟩
def Yy(x:Str)(ul:UA):US:=λE ρ M=>ul ρ M λus M1=>∃z k n,us=[.p (.str z), .p (.int k)]/\1000000<=n/\wW n=z/\wK n=k/\z.length<=1000/\J1 k/\E.bk (tagU x (some n) ρ) M1
theorem GR(h:ZA n tl ul):ZS (YM x tl) (Yy x ul):=⟨λA ι σ H ρ M D E w e r q =>
 h.h A ι σ H ρ M _ _ w e q λus M1 ι1 vs H1 l1 w1 hn r1 ⟨z,k,c,eu,c6,cw,ck,hz,sk,q1⟩=>by
  subst eu;cases r1 with
  |cons a b =>
  cases b with
  |cons b b2 =>
  cases b2;cases a with
  |p a =>
  cases b with
  |p b =>
  cases a;cases b;exact⟨z,k,c,rfl,c6,cw,ck,hz,sk,λd hd=>r.bk ι1 _ _ _ M1 (l1.trans (Le.fresh hd)) (w1.fresh hd) (YL (p:=some c) ((e.le l1).le (Le.fresh hd))) q1⟩⟩
end
end L2
set_option maxHeartbeats 4000000
namespace Mw
open PySem L2 PyProof.Rows
def Ub(Ξ:PySem.W.Frag){X:Cx}(h:X.K=Ξ:=by rfl):=vz h
def Uc(Ξ:PySem.W.Frag){X:Cx}(h:X.K=Ξ:=by rfl):=qw h
def Ud(Ξ:PySem.W.Frag){X:Cx}(h:X.K=Ξ:=by rfl):=qK h
def Ue(Ξ:PySem.W.Frag){X:Cx}(h:X.K=Ξ:=by rfl):=zY h
def Uf(Ξ:PySem.W.Frag){X:Cx}(h:X.K=Ξ:=by rfl):=vP h
def Ug(Ξ:PySem.W.Frag){X:Cx}(h:X.K=Ξ:=by rfl):=ZM h
theorem Wf{k j:Nat}{A:Around}(r:Room k A)(h:j<=k:=by first|decide|exact Up _):Room j A:=r.mono h
theorem Wh{i:Int}:ZE (tC (.int i)) (uC (.int i)):=ce_c (.int i)
theorem Wk{i:Str}:ZE (tC (.str i)) (uC (.str i)):=ce_c (.str i)
theorem W3{α:Type}{a:α}{b:Prop}:a=a\/b:=Or.inl rfl
theorem W6{α:Type}{a:α}{b:Prop}:b\/a=a:=Or.inr rfl
local macro_rules | `(tactic| walk_at "hp") => `(tactic| first|assumption|exact upd_same|(refine zq (by assumption) ?_; walk_at "hp")|(refine kI (by first|assumption|(apply Ne.symm; assumption)) ?_; walk_at "hp"))
local macro_rules | `(tactic| walk_at "go") => `(tactic| repeat (first|(simp only[L2.start,tSeq,Vp,tAsg,tOp,tUn,tVar,tC,vc,gSub,tRet,tRetN,tIfS,Zv,tLM,tTru,jQ,tBM,tBM0,tRev,xV,jc,J4,kM,kL,VL,kN,rd_pi,tSl,xk,Zu,rd_I,rd_I0,rd_U,VJ,rd_bl,tCB,zK,tNil,tTup,tLst,tYes,tAnd,tOr,tNot,tB,tIf,Zw,tOrV,tNotV,k7,rd_l1,rd_l2,rd_lr,List.getElem?_cons_zero,List.getElem?_cons_succ,Option.some.injEq,exists_eq_left',List.set_cons_zero,List.set_cons_succ,zN,List.zip_cons_cons,List.zip_nil_left,List.zip_nil_right,List.map_cons,List.map_nil,List.length_cons,List.length_nil,List.replicate,List.append_nil,List.nil_append,List.cons_append,Bool.false_eq_true,if_true,if_false,decide_eq_true_eq,Nat.zero_add,xO,xN])|refine Ge (by walk_at "hp") rfl ?_|refine ixT_at (by walk_at "hp") rfl ?_|refine Ge (by walk_at "hp") at0 ?_|refine setL_at (by walk_at "hp") rfl ?_|refine len_at (by walk_at "hp") ?_|refine Kl (by walk_at "hp") ?_|refine VX (by walk_at "hp") ?_|refine lm_at (by walk_at "hp") ?_|refine it_at (by walk_at "hp") ?_|refine GC rfl ?_|refine ne_at rfl ?_))
section
variable {P:Program} {w:World} {Ξ:PySem.W.Frag} {mg:Str->Option Value} {base:Heap}
abbrev sBag:Stmt:=top 72
theorem scBag:FnScope ["script","stir","cell"] ["script"] (ql sBag):=⟨rfl,rfl,rfl,by decide +kernel,rfl,by decide +kernel,by decide +kernel⟩
abbrev sDraw:Stmt:=top 73
theorem scDraw:FnScope ["bag","many","found"] ["bag","many"] (ql sDraw):=⟨rfl,rfl,rfl,by decide +kernel,rfl,by decide +kernel,by decide +kernel⟩
structure BagAt(H:Hp)(b:Addr):Prop where
 ex:∃(c:Addr)(ns:List Int)(i a st n:Int),H b=some (.lst [.ref c, .int i, .int a, .int st, .int n])/\H c=some (.lst (ns.map V.int))/\0<=i/\i<=ns.length/\ns.length<=63/\(∀x∈ns,0<=x)/\0<=a/\0<=st/\st<2147483647
def spBag(Ξ:PySem.W.Frag):Sp:=λvs H Q _=>∃(a:Addr)(ns:List Int),vs=[.ref a]/\SqL Ξ H a (ns.map V.int)/\ns.length<=63/\∀(b:Addr)(H':Hp),H b=none->Same H H'->BagAt H' b->Q (.ref b) H'
theorem cut63(ns:List Int)(h:ns.length<=63):cutV (ns.map V.int) none (some 63)=ns.map V.int:=by
 unfold cutV;have e1:HT.sIx (ns.map V.int).length 0 none=0:=rfl;have e2:HT.sIx (ns.map V.int).length (ns.map V.int).length (some 63)=min 63 (ns.map V.int).length:=HT.sIx_nat _ _ 63;rw[e1,e2];simp only[RM,Ul];rw[DV];simp; lia
theorem Kk{ns:List Int}{i:Nat}(h:(ns.map V.int)[i]?=some y):∃z,y=V.int z/\ns[i]?=some z:=by
 rw[UU] at h;cases e:ns[i]? with
 |none=>rw[e] at h; cases h
 |some z=>rw[e] at h; exact⟨z,(Option.some.inj h).symm,rfl⟩
theorem ok_bag(F:Fun Ξ "_law_bag" "_law_bag" sBag f fd)(N:Nms mg):FnOk P w Ξ mg base CX0 1 f fd ["script"] (spBag Ξ):=by
 refine F.okQ scBag (λvs H Q E h=>?_) (λcdv A outer s H vs Q E hr h=>?_)
 ·obtain⟨a,ns,rfl,_⟩:=h
  rfl
 ·obtain⟨a,ns,rfl,hS,hlen,k⟩:=h
  refine⟨_,(qg (qF (i:=1) scBag.nd rfl W3 qe)
  (qg (vX PassesOwn.never rfl (vm (Ξ:=Ξ) rfl (vA (Ub Ξ) (qv 0) v7 (vD qe))) (qU (i:=2) scBag.nd rfl W3)
   (qi (qF (i:=1) scBag.nd rfl W3 (qt zz (qt qP (qt qP (qt Qk (qv 1) qe) (qt zz (qv 2) qe)) qe) qe))))
  (qi (qy (qW (qa_c (QN [false,false,false] [] (vm (Ξ:=Ξ) rfl (vA (Ub Ξ) (qv 0) v7 (vD qe))) (λ_ _ _=>(qU (i:=2) scBag.nd rfl W3)) (λ_ _ _=>xx) (λ_ _ _=>(qt zz (qG call_abs (by rfl) N.abs b_abs (qa_c (qv 2) qf)) (qt ZL qe qe)))) (qa_c qe (qa_c qe (qa_c (qv 1) (qa_c qe qf)))))))))), ?_⟩
  refine⟨_,rfl,_,rfl,a,_,rfl,hS,λp hp=>?_⟩;rw[cut63 ns hlen];refine⟨p,rfl,⟨_,SqL.of upd_same⟩,for_list (Ξ:=Ξ) (a:=p) (xs:=ns.map V.int) (λi σ H2=>∃(st:Int)(v:Option V),σ=[some (.ref a),some (.int st),v]/\0<=st/\st<2147483647/\H2=upd H p (.lst (ns.map V.int)))
   ⟨17,none,rfl,by decide,by decide,rfl⟩ (λi σ H2 _ ⟨_,_,_,_,_,e⟩=>by rw[e]; exact SqL.of upd_same) ?_ ?_⟩
  ·rintro i y σ H2 hi ⟨st,v,rfl,h0,h1,rfl⟩
   obtain⟨z,rfl,_⟩:=Kk hi
   (simp only[L2.start,tSeq,Vp,tAsg,tOp,tUn,tVar,tC,vc,gSub,tRet,tRetN,tIfS,Zv,tLM,tTru,jQ,tBM,tBM0,tRev,xV,jc,J4,kM,kL,VL,kN,rd_pi,tSl,xk,Zu,rd_I,rd_I0,rd_U,VJ,rd_bl,tCB,zK,tNil,tTup,tLst,tYes,tAnd,tOr,tNot,tB,tIf,Zw,tOrV,tNotV,k7,rd_l1,rd_l2,rd_lr,Dz,DP,Option.some.injEq,exists_eq_left',DC,DQ,zN,Rg,Rl,Rh,UQ,DG,Ur,U1,List.replicate,U0,Do,Dp,U6,if_true,if_false,decide_eq_true_eq,RC,xO,xN]);refine⟨.inr ⟨by decide,by decide⟩,by decide,by decide,_,_,rfl,Da _ (by decide),U2 _ (by decide),trivial⟩
  ·rintro σ H2 ⟨st,v,rfl,h0,h1,rfl⟩
   have hS2:SqL Ξ (upd H p (.lst (ns.map V.int))) a (ns.map V.int):=((Same.refl H).upd hp).seq hS;refine⟨_,rfl,_,rfl,a,_,rfl,hS2,λp2 hp2=>?_⟩;rw[cut63 ns hlen];obtain⟨f2,n2⟩:=Zf hp2;refine⟨p2,rfl,⟨_,SqL.of upd_same⟩,λacc hacc=>?_⟩;obtain⟨g1,n3⟩:=Zf hacc;obtain⟨g2,n4⟩:=Zf g1;refine GT (xs:=ns.map V.int) (λi H3=>∃ys:List Int,H3 acc=some (.lst (ys.map V.int))/\ys.length=i/\(∀y∈ys,0<=y)/\H3 p2=some (.lst (ns.map V.int))/\Same H H3) ?_ ?_ ?_ ?_
   ·exact⟨[],upd_same,rfl,(λ_ h=>nomatch h),zq hacc upd_same,(((Same.refl H).upd hp).upd f2).upd g2⟩
   ·rintro i H3 _ ⟨ys,_,_,_,e,_⟩
    exact SqL.of e
   ·rintro i y H3 hi ⟨ys,e1,e2,e3,e4,e5⟩
    obtain⟨z,rfl,hz⟩:=Kk hi;have hil:i<ns.length:=(Uj.mp hz).1
    (simp only[L2.start,tSeq,Vp,tAsg,tOp,tUn,tVar,tC,vc,gSub,tRet,tRetN,tIfS,Zv,tLM,tTru,jQ,tBM,tBM0,tRev,xV,jc,J4,kM,kL,VL,kN,rd_pi,tSl,xk,Zu,rd_I,rd_I0,rd_U,VJ,rd_bl,tCB,zK,tNil,tTup,tLst,tYes,tAnd,tOr,tNot,tB,tIf,Zw,tOrV,tNotV,k7,rd_l1,rd_l2,rd_lr,Dz,DP,Option.some.injEq,exists_eq_left',DC,DQ,zN,Rg,Rl,Rh,UQ,DG,Ur,U1,List.replicate,U0,Do,Dp,U6,if_true,if_false,decide_eq_true_eq,RC,xO,xN]);refine⟨⟨by(repeat (first|exact ExtS.nl|refine ExtS.sm ?_|refine ExtS.no ?_)),trivial⟩,⟨by decide,by decide,by decide⟩,by decide,ys.map V.int,e1,qJ (by simp; lia),ys++[(if z<0 then -z else z) % 10^(60:Int).toNat], ?_,by simp[e2], ?_,kI n3.symm e4,e5.upd g2⟩
    ·rw[upd_same,Ux]; rfl
    ·intro y hy
     rcases Us.mp hy with h|h
     ·exact e3 y h
     ·rw[Uq.mp h]; exact Da _ (by decide)
   ·rintro H3 ⟨ys,e1,e2,e3,e4,e5⟩
    rw[Ul] at e2
    (simp only[L2.start,tSeq,Vp,tAsg,tOp,tUn,tVar,tC,vc,gSub,tRet,tRetN,tIfS,Zv,tLM,tTru,jQ,tBM,tBM0,tRev,xV,jc,J4,kM,kL,VL,kN,rd_pi,tSl,xk,Zu,rd_I,rd_I0,rd_U,VJ,rd_bl,tCB,zK,tNil,tTup,tLst,tYes,tAnd,tOr,tNot,tB,tIf,Zw,tOrV,tNotV,k7,rd_l1,rd_l2,rd_lr,Dz,DP,Option.some.injEq,exists_eq_left',DC,DQ,zN,Rg,Rl,Rh,UQ,DG,Ur,U1,List.replicate,U0,Do,Dp,U6,if_true,if_false,decide_eq_true_eq,RC,xO,xN]);refine⟨by decide,λb hb=>?_⟩;refine k b _ (e5.free hb) (e5.upd (e5.free hb)) ⟨acc,ys,0,0,st,0,upd_same,zq hb e1,by decide,by lia,by lia,e3,by decide,h0,h1⟩
theorem G8{H:Hp}{ns:List Int}{i a st n:Int}(hb:H b=some (.lst [.ref c, .int i, .int a, .int st, .int n]))(hc:H c=some (.lst (ns.map V.int))):c≠b:=by
 intro e;subst e;rw[hb] at hc;injection hc with hc
 injection hc with hc
 cases ns with
 |nil=>cases hc
 |cons z r=>cases hc
def jI(H:Hp)(b c:Addr):Prop:=∃r,H b=some (.lst (.ref c::r))
theorem Z9(h:H b=some (.lst (.ref c::r)))(h':H' b=some (.lst (.ref c::r'))):∀c',jI H b c'->jI H' b c':=λc' ⟨q,e⟩=>by
 rw[h] at e;injection e with e
 injection e with e
 injection e with e _
 injection e with e
 subst e;exact⟨r',h'⟩
theorem head_inj(h:jI H b c)(h':jI H b c'):c=c':=by
 obtain⟨q,e⟩:=h;obtain⟨q',e'⟩:=h';rw[e] at e';injection e' with e'
 injection e' with e'
 injection e' with e' _
 injection e'
def spDraw2:Sp:=λvs H Q _=>∃(b:Addr)(many:Int),vs=[.ref b, .int many]/\BagAt H b/\0<many/\many.natAbs.log2<9000/\∀(found:Int)(H':Hp),0<=found->found<many->BagAt H' b->(∀x,x≠b->H' x=H x)->(∀c,jI H b c->jI H' b c)->Q (.int found) H'
theorem BagAt.put(h:BagAt H b)(hh:jI H b c0)(n1:p≠b)(n2:p≠c0):BagAt (L2.upd H p o) b:=by
 obtain⟨c,ns,i,a,st,n,hb,hc,r⟩:=h.ex;have e:c0=c:=by
  obtain⟨q,e⟩:=hh;rw[hb] at e;injection e with e
  injection e with e
  injection e with e _
  injection e with e
  exact e.symm
 subst e;exact⟨c0,ns,i,a,st,n,kI n1.symm hb,kI n2.symm hc,r⟩
theorem ok_draw2(F:Fun Ξ "_law_draw" "_law_draw" sDraw f fd)(N:Nms mg):FnOk P w Ξ mg base CX0 1 f fd ["bag","many"] spDraw2:=by
 refine F.okQ scDraw (λvs H Q E h=>?_) (λcdv A outer s H vs Q E hr h=>?_)
 ·obtain⟨b,m,rfl,_⟩:=h
  rfl
 ·obtain⟨b,many,rfl,⟨c,ns,i,a,st,n,hb,hc,i0,i1,hl,hns,a0,s0,s1⟩,m0,mb,k⟩:=h
  have hcb:=G8 hb hc;refine⟨_,(qg (qX (xc (jB (qp vK (qH (Uc Ξ) (qv 0) qe (λ_ _=>rfl)) qe (qB _)) (xw (qp zF (qH (Uc Ξ) (qv 0) qe (λ_ _=>rfl)) (qG qV (by rfl) N.len ze (qa_c (qH (Uc Ξ) (qv 0) qe (λ_ _=>rfl)) qf)) (qB _)))))
   (qg (vY (qH (Uc Ξ) (qH (Uc Ξ) (qv 0) qe (λ_ _=>rfl)) (qH (Uc Ξ) (qv 0) qe (λ_ _=>rfl)) (λ_ _=>rfl)) (jD (qv 0) qe zB))
   (qi (vY (qt qP (qH (Uc Ξ) (qv 0) qe (λ_ _=>rfl)) qe) (jD (qv 0) qe zB))))
   (qi (qX (qp vK (qH (Uc Ξ) (qv 0) qe (λ_ _=>rfl)) qe (qB _))
    (qg (vY (qt qP (qH (Uc Ξ) (qv 0) qe (λ_ _=>rfl)) qe) (jD (qv 0) qe zB))
    (qg (vY (qt zz (qt qP (qt qP (qt qP (qt ZL (qH (Uc Ξ) (qv 0) qe (λ_ _=>rfl)) qe) (qt Qk qe (qH (Uc Ξ) (qv 0) qe (λ_ _=>rfl)))) (qt Qk qe (qH (Uc Ξ) (qv 0) qe (λ_ _=>rfl)))) qe) qe) (jD (qv 0) qe zB))
    (qi (qy (qt zz (qt xJ (qH (Uc Ξ) (qv 0) qe (λ_ _=>rfl)) qe) (qv 1))))))
    qI)))
  (qg (qF (i:=2) scDraw.nd rfl W3 (qt zz (qH (Uc Ξ) (qv 0) qe (λ_ _=>rfl)) (qv 1)))
  (qg (vY (qt xJ (qH (Uc Ξ) (qv 0) qe (λ_ _=>rfl)) (qv 1)) (jD (qv 0) qe zB))
  (qi (qy (qv 2)))))), ?_⟩
  walk_at "go";have fin:∀(z:Int)(H':Hp)(i' a' st' n':Int),0<=z->H' b=some (.lst [.ref c, .int i', .int (z / many), .int st', .int n'])->(∀x,x≠b->H' x=H x)->0<=i'->i'<=ns.length->0<=st'->st'<2147483647->Q (.int (z % many)) H':=λz H' i' a' st' n' hz e1 e2 e3 e4 e5 e6 =>
   k _ _ (Da _ (by lia)) (U2 _ m0) ⟨c,ns,i',z / many,st',n',e1,by rw[e2 c hcb]; exact hc,e3,e4,hl,hns,DR hz (by lia),e5,e6⟩ e2 (Z9 hb e1)
  refine ite2 (λha=>?_) (λha=>?_)
  ·walk_at "go"
   refine ite2 (λhi=>?_) (λhi=>?_)
   ·rw[Ul] at hi
    obtain⟨j,rfl⟩:∃j:Nat,i=(j:Int):=⟨i.toNat,by lia⟩;have hj:j<ns.length:=by lia
    walk_at "go";refine Ge hc (jv (v:=.int ns[j]) (by rw[UU,Uk hj]; rfl)) ?_;walk_at "go";refine⟨m0, ?_⟩;walk_at "go";refine⟨⟨m0,mb⟩, ?_⟩;walk_at "go";exact fin _ _ (j+1) 0 st n (hns _ (List.getElem_mem hj)) upd_same (λx hx=>by rw[upd_ne hx,upd_ne hx,upd_ne hx]) (by lia) (by lia) s0 s1
   ·walk_at "go"
    rw[if_pos ha];walk_at "go";refine⟨⟨by decide,by decide,by lia⟩, ?_⟩;walk_at "go";refine⟨.inl ⟨by decide,by decide⟩, ?_⟩;walk_at "go";refine⟨.inl ⟨by decide,by decide⟩,by decide, ?_⟩;walk_at "go";refine⟨⟨by decide,by decide⟩,m0, ?_⟩;refine k _ _ (Da _ (by lia)) (U2 _ m0) ⟨c,ns,i,a,_,n+1,upd_same, ?_,i0,i1,hl,hns,a0,Da _ (by decide),U2 _ (by decide)⟩ (λx hx=>by rw[upd_ne hx,upd_ne hx]) (Z9 hb upd_same);walk_at "hp"
  ·walk_at "go"
   rw[if_neg ha];walk_at "go";refine⟨m0, ?_⟩;walk_at "go";refine⟨⟨m0,mb⟩, ?_⟩;walk_at "go";exact fin _ _ i 0 st n a0 upd_same (λx hx=>by rw[upd_ne hx]) i0 i1 s0 s1
def MB(M:MM)(k:Nat)(o:MO)(L:List MO):MM:=M.set k o++L
theorem KG:(MB M k o L).length=M.length+L.length:=by unfold MB; rw[Uu,UN]
theorem KF:MB M k o L++[x]=MB M k o (L++[x]):=by unfold MB; rw[UD]
theorem MB_get:(MB M k o L)[M.length+i]?=L[i]?:=by
 unfold MB;rw[Uz (by rw[UN]; lia),UN,DS]
theorem vE(h:L[i]?=some x:=by rfl):(MB M k o L)[M.length+i]?=some x:=MB_get.trans h
theorem Vj:(MB M k o L).set (M.length+i) x=MB M k o (L.set i x):=by
 unfold MB;rw[D4 _ _ (by rw[UN]; lia),UN,DS]
theorem QJ(h:k<M.length):(MB M k o L)[k]?=some o:=by
 unfold MB;rw[Uo (by rw[UN]; exact h),UL h]
theorem zI(h:k<M.length):(MB M k o L).set k o'=MB M k o' L:=by
 unfold MB;rw[RK _ _ (by rw[UN]; exact h),R8]
theorem zy:(MB M k o L).take M.length=M.set k o:=by
 unfold MB;rw[List.take_left' (by rw[UN])]
theorem zC(h:M[k]?=some o):k<M.length/\M=MB M k o []:=by
 refine⟨(Uj.mp h).1, ?_⟩;unfold MB;rw[U0];obtain⟨hk,rfl⟩:=Uj.mp h;rw[List.set_getElem_self]
theorem zx(h:PurO o):zZ M (MB M k o L):=λi x hi e=>by
 unfold MB at e;rw[Uo (by rw[UN]; exact hi)] at e;by_cases hk:k=i
 ·subst hk
  rw[UL hi] at e;cases e;exact .inr h
 ·rw[UW hk] at e
  exact .inl e
structure BagO(o:MO):Prop where
 ex:∃(ns:List Int)(i a st n:Int),o=.lst [.p (qZ ns), .p (.int i), .p (.int a), .p (.int st), .p (.int n)]/\0<=i/\i<=ns.length/\ns.length<=63/\(∀x∈ns,0<=x)/\0<=a/\0<=st/\st<2147483647
theorem BagO.pur(h:BagO o):PurO o:=by
 obtain⟨ns,i,a,st,n,rfl,_⟩:=h.ex;exact⟨[qZ ns, .int i, .int a, .int st, .int n],rfl⟩
def js:List U->MM->UK->Prop:=λus M Q=>∃(k:Nat)(o:MO)(many:Int),us=[.m k, .p (.int many)]/\M[k]?=some o/\BagO o/\0<many/\many.natAbs.log2<9000/\∀(found:Int)(o':MO),0<=found->found<many->BagO o'->Q (.p (.int found)) (M.set k o')
theorem qR(hk:k<M.length)(B:BagO o)(h0:0<many)(h1:many.natAbs.log2<9000)(q:∀(found:Int)(o':MO),0<=found->found<many->BagO o'->Q (.p (.int found)) (MB M k o' L)):js [.m k, .p (.int many)] (MB M k o L) Q :=
 ⟨k,o,many,rfl,QJ hk,B,h0,h1,λf o' f0 f1 B'=>by rw[zI hk]; exact q f o' f0 f1 B'⟩
theorem ints_inv(r:RepT A H v (qZ ns)):∃p,v=.ref p/\¬A p/\H p=some (.lst (ns.map V.int)):=by
 obtain⟨p,vs,rfl,na,h,q⟩:=r.lst_inv;refine⟨p,rfl,na, ?_⟩;have:vs=ns.map V.int:=by
  clear h r na
  induction ns generalizing vs with
  |nil=>cases q; rfl
  |cons n ns ih =>
   cases q with
   |cons a b=>cases a; rw[ih _ b]; rfl
 rw[h,this]
theorem Kh(na:¬A p)(h:H p=some (.lst (ns.map V.int))):RepT A H (.ref p) (qZ ns):=by
 refine .lstP na h ?_
 induction ns with
 |nil=>exact .nil
 |cons n ns ih=>exact .cons (.int n) (by
   clear h ih
   induction ns with
   |nil=>exact .nil
   |cons n ns ih=>exact .cons (.int n) ih)
theorem bag_obj(hb:BagO o)(r:ObjR A ι H b o):BagAt H b/\∃c,jI H b c/\¬Av A ι c/\∃ns:List Int,H c=some (.lst (ns.map V.int)):=by
 obtain⟨ns,i,a,st,n,rfl,k⟩:=hb.ex;obtain⟨vs,h,q⟩:=r;cases q with
 |cons q1 q =>
 cases q with
 |cons q2 q =>
 cases q with
 |cons q3 q =>
 cases q with
 |cons q4 q =>
 cases q with
 |cons q5 q =>
 cases q;cases q1 with
 |p q1 =>
 obtain⟨c,rfl,nc,hc⟩:=ints_inv q1;cases q2 with
 |p q2 =>
 cases q3 with
 |p q3 =>
 cases q4 with
 |p q4 =>
 cases q5 with
 |p q5 =>
 cases q2; cases q3; cases q4; cases q5;exact⟨⟨c,ns,i,a,st,n,h,hc,k⟩,c,⟨_,h⟩,nc,ns,hc⟩
theorem KD(B:BagAt H b)(hd:jI H b c)(nc:¬Av A ι c):∃o,BagO o/\ObjR A ι H b o/\∃x,H b=some x/\∀H',H' b=some x->(∀y z,H y=some z->y≠b->H' y=some z)->ObjR A ι H' b o:=by
 obtain⟨c',ns,i,a,st,n,h,hc,k⟩:=B.ex;have:c=c':=head_inj hd ⟨_,h⟩;subst this;have ncb:c≠b:=G8 h hc;refine⟨_,⟨ns,i,a,st,n,rfl,k⟩,⟨_,h, .cons (.p (Kh nc hc)) (.cons (.p (.int _)) (.cons (.p (.int _)) (.cons (.p (.int _)) (.cons (.p (.int _)) .nil))))⟩,_,h,λH' e f=>⟨_,e, .cons (.p (Kh nc (f _ _ hc ncb))) (.cons (.p (.int _)) (.cons (.p (.int _)) (.cons (.p (.int _)) (.cons (.p (.int _)) .nil))))⟩⟩
theorem ok_drawU(F:Fun Ξ "_law_draw" "_law_draw" sDraw f fd)(N:Nms mg):FnOk P w Ξ mg base CX0 1 f fd ["bag","many"] (spU js):=by
 refine(ok_draw2 F N).imp λvs H Q E h=>?_;obtain⟨A,ι,M,us,Qu,w1,r,⟨k,o,many,rfl,em,hb,h0,h1,q⟩,kk⟩:=h;cases r with
 |cons r1 r =>
 cases r with
 |cons r2 r =>
 cases r;cases r2 with
 |p r2 =>
 cases r2;cases r1 with
 |m ek =>
 rename_i b;have ro:=w1.obj k b o ek em;obtain⟨B,c,hd,nc,ns,hcs⟩:=bag_obj hb ro;refine⟨b,many,rfl,B,h0,h1,λfound H' f0 f1 B' fr hdk=>?_⟩;have hd':=hdk c hd;have hmem:=Um ek;obtain⟨o',hb',ro',x,hx,_⟩:=KD (A:=A) (ι:=ι) B' hd' nc;have eH:H'=L2.upd H b x:=by
  funext y;by_cases z:y=b
  ·subst z; rw[L2.upd_same]; exact hx
  ·rw[L2.upd_ne z]; exact fr y z
 subst eH;exact kk _ _ ι _ _ (.put hmem) (w1.put ek ro') (.p (.int _)) (q found o' f0 f1 hb')
theorem up1{R:T->Prop}:(∃t,U.p a=.p t/\R t)=R a:=propext ⟨λ⟨_,e,h⟩=>by cases e; exact h,λh=>⟨a,rfl,h⟩⟩
theorem Yx{ts:List T}(hz:ts.length<=sizeLine)(Iv:Nat->List T->MM->Prop)(h0:Iv 0 [] M)(hk:∀i acc M2,Iv i acc M2->M2[k]?=some (.lst (ts.map U.p)))(hs:∀i t acc M2,ts[i]?=some t->acc.length<=i->Iv i acc M2->ug (.p t) ρ0 M2 λρ4 M4=>ut ρ4 M4 λb M5=>if b=true then ua ρ4 M5 λz M6=>∃t,z=.p t/\Iv (i+1) (acc++[t]) M6 else Iv (i+1) acc M5)(hd:∀acc M2,Iv ts.length acc M2->Q (.p (.lst acc)) M2):UComp (itU (.m k) (ts.map U.p)) ug ut ua ρ0 M Q:=by
 refine⟨by simpa[itU] using hz,Iv,h0,λi acc M2 hi ha h=>⟨by show vd M2 (.m k)=_; simp[vd,hk i acc M2 h],λu hu=>?_⟩,λacc M2 h=>⟨by show vd M2 (.m k)=_; simp[vd,hk _ acc M2 h],hd acc M2 (by simpa[itU] using h)⟩⟩;have hu:(ts.map U.p)[i]?=some u:=hu;rw[UU] at hu;cases e:ts[i]? with
 |none=>rw[e] at hu; cases hu
 |some t=>rw[e] at hu; cases hu; exact hs i t acc M2 e ha h
theorem vJ{α β:Type}{f:α->β}{l:List α}{i:Nat}{y:β}(h:(l.map f)[i]?=some y):∃x,l[i]?=some x/\y=f x:=by
 rw[UU] at h;cases e:l[i]? with
 |none=>rw[e] at h; cases h
 |some n=>rw[e] at h; cases h; exact⟨n,rfl,rfl⟩
theorem t2_at(h:zm M u=some [a,b])(q:R a b):T2S M u R:=⟨a,b,h,q⟩
theorem t3_at(h:zm M u=some [a,b,c])(q:R a b c):T3S M u R:=⟨a,b,c,h,q⟩
theorem slm_at(e:M[k]?=some (.lst (ts.map U.p)))(q:Q (.p (.lst (cutT ts l h))) M):SlS M (.m k) l h Q:=⟨ts,by simp[sn,e],q⟩
theorem useq(h:a { E with nx:=b E } ρ M):uSeq a b E ρ M:=h
local macro_rules | `(tactic| walk_at "us") => `(tactic| first|walk_at "vs" |simp only[uSeq])
local macro_rules | `(tactic| walk_at "u") => `(tactic| repeat (first|walk_at "us" |refine qS rfl ?_|refine qS at0 ?_|refine qS at1 ?_|refine Kg rfl ?_|refine t2_at rfl ?_|refine t3_at rfl ?_|refine me_at rfl ?_|refine VU rfl ?_|refine me_at vE ?_|refine VU vE ?_))
local macro_rules | `(tactic| walk_at "vs") => `(tactic| simp only[xW,uNext,uAsg,YB,rd_name2,rd_name3,rd_var,rd_varS,uC,uCons,uNil,rd_op,rd_opS,rd_sI,rd_sI0,rd_eqI,rd_neI,rd_eqS,rd_neS,rd_eqB,rd_neB,uIsN,QR,rd_intS,rd_blS,rd_neg,rd_bits,rd_b,rd_andV,rd_orV,rd_notV,uAnd,uOr,uNot,uIf,rd_chain,rd_chP,rd_ch,rd_pur0,rd_purC,Y3,rd_tup,rd_lst,uNew,uNewT,rd_ix,rd_sns0,rd_snsC,rd_cb,rd_abs',rd_min',rd_max',rd_int',rd_intB,rd_len,rd_lenP,rd_sl,rd_slS,rd_part,Y4,rd_cat,rd_str,rd_iter,rd_iterP,rd_rng1,uFor,uComp,Jf,rd_t2,rd_t3,rd_callP,rd_callS,rd_callU,rd_me,rd_app,uDrop,uRet,uRetN,uIfS,uYes,ss,uIsi,uIsi2,isU,isT,uIxK,uInK,vt,uDNew,rd_din,rd_dput,rd_idxK,rd_lrng2,rd_sub,rd_par,rd_par3,rd_p2,rd_p3,rd_name4,rd_t4,rd_fld,Y5,rd_meth,rd_make,Y2,Bool.or_true,Bool.true_or,Bool.or_false,Bool.false_or,uIfC,iteT_int,iteT_str,rd_rev,rd_revP,up1,QC,GA,MO.lst.injEq,rd_dget,JR,KF,KG,MB_get,Vj,Option.some.injEq,List.map_cons,List.map_nil,List.length_cons,List.length_nil,List.replicate,List.append_nil,List.nil_append,List.cons_append,List.getElem?_cons_zero,List.getElem?_cons_succ,List.set_cons_zero,List.set_cons_succ,List.zip_cons_cons,List.zip_nil_left,List.zip_nil_right,Bool.false_eq_true,if_true,if_false,decide_eq_true_eq,decide_true,decide_false,Bool.not_true,Bool.not_false,true_and,and_true,Nat.reduceAdd,Nat.reduceSub,Nat.zero_add,exists_eq_left'])
local macro_rules | `(tactic| walk_at "v") => `(tactic| repeat (first|with_reducible refine useq ?_|walk_at "vs" | ((with_reducible refine gdIx ?_); first|refine qS rfl ?_|refine qS at0 ?_|refine qS at1 ?_|refine Kg rfl ?_)|((with_reducible refine gdT2 ?_); refine t2_at rfl ?_)|((with_reducible refine gdT3 ?_); refine t3_at rfl ?_)|((with_reducible refine gdMe ?_); first|refine me_at rfl ?_|refine me_at vE ?_)|((with_reducible refine gdLen ?_); first|refine VU rfl ?_|refine VU vE ?_)))
abbrev Mk3:=Str×Int×Int
def on(word:Int)(m:Mk3):Bool:=decide (word % 2^m.2.1.toNat=m.2.2)
def Wd(ms:List Mk3):Prop:=∀m∈ms,0<=m.2.1/\m.2.1<=1000
theorem vL(k:Nat):(0:Int)<2^k:=Int.pow_pos (by decide)
theorem qM{α:Type}{l:List α}{i:Nat}{x:α}(h:l[i]?=some x):l.take (i+1)=l.take i++[x]:=by
 obtain⟨hi,e⟩:=Uj.mp h;rw[List.take_succ_eq_append_getElem hi,e]
def OfKind(ms:List Mk3)(kind:Str)(m:Mk3):Prop:=∃rest,ms.filter (λm=>decide (m.1=kind))=m::rest
def zp:List Str:=["small","far","pair","sign","one"]
abbrev Nd:=Int×Int
def Disj(a b:Nd):Prop:=∀x:Int,¬(x % 2^a.1.toNat=a.2/\x % 2^b.1.toNat=b.2)
theorem Disj.symm(h:Disj a b):Disj b a:=λx ⟨p,q⟩=>h x ⟨q,p⟩
def NdOk(a:Nd):Prop:=0<=a.1/\a.1<=60/\0<=a.2/\a.2<2^a.1.toNat
theorem j5{x:Int}(h:a<=b):x % 2^b % 2^a=x % 2^a:=by
 refine RL x ?_;obtain⟨c,rfl⟩:=Nat.exists_eq_add_of_le h;exact⟨2^c,RP ..⟩
def xf(a:Nd)(s:Int):Nd:=(a.1+1,a.2+s*2^a.1.toNat)
theorem GV(ha:NdOk a)(h:x % 2^(xf a s).1.toNat=(xf a s).2):x % 2^a.1.toNat=a.2:=by
 have e:(xf a s).1.toNat=a.1.toNat+1:=by show(a.1+1).toNat=_; have:=ha.1; lia
 rw[e] at h;rw[<-j5 (Dk a.1.toNat),h];show(a.2+s*2^a.1.toNat) % 2^a.1.toNat=a.2;rw[RD,D9];exact Dn ha.2.2.1 ha.2.2.2
theorem Vf(ha:NdOk a)(h:Disj a b):Disj (xf a s) b:=λx ⟨p,q⟩=>h x ⟨GV ha p,q⟩
theorem GU(hs:s≠t):Disj (xf a s) (xf a t):=λx ⟨p,q⟩=>by
 rw[show(xf a t).1=(xf a s).1 from rfl,p] at q;have:(a.2+s*2^a.1.toNat)=a.2+t*2^a.1.toNat:=q;have h2:s*2^a.1.toNat=t*2^a.1.toNat:=by lia
 exact hs (Int.eq_of_mul_eq_mul_right (R9 (vL _)) h2)
theorem Kv(ha:NdOk a)(h59:a.1<=59)(hs:s=0\/s=1):NdOk (xf a s):=by
 obtain⟨h1,h2,h3,h4⟩:=ha;have e:(a.1+1).toNat=a.1.toNat+1:=by lia
 refine⟨by show 0<=a.1+1; lia,by show a.1+1<=60; lia, ?_, ?_⟩
 ·show 0<=a.2+s*2^a.1.toNat
  have:=vL a.1.toNat;rcases hs with rfl|rfl<;>lia
 ·show a.2+s*2^a.1.toNat<2^(a.1+1).toNat
  rw[e,Int.pow_succ];rcases hs with rfl|rfl<;>lia
theorem GJ(h:a.2 % 2^(min a.1.toNat b.1.toNat)≠b.2 % 2^(min a.1.toNat b.1.toNat)):Disj a b:=λx ⟨p,q⟩=>by
 refine h ?_;rw[<-p, <-q,j5 (Nat.min_le_left _ _),j5 (Nat.min_le_right _ _)]
theorem Q4{α:Type}:∀{l:List α}{i:Nat}{x:α},l[i]?=some x->l.Perm (x::l.eraseIdx i)
 | [],_,_,h=>by simp at h
 |y::l,0,x,h=>by simp at h; subst h; simp
 |y::l,i+1,x,h=>by
  have:=Q4 (l:=l) (i:=i) (x:=x) (by simpa using h);exact(List.Perm.cons y this).trans (List.Perm.swap ..)
def need(kind:Str):Int:=if kind = "sign" then 7 else if kind = "small" then 2 else if kind = "one" then 2 else 3
structure Right(bits:Int)(ms:List Mk3):Prop where
 b:8<=bits/\bits<=32
 n:ms.length=5
 k:(ms.map (·.1)).Perm zp
 w:∀m∈ms,1<=m.2.1/\m.2.1<=bits-need m.1
 p:∀m∈ms,0<=m.2.2/\m.2.2<2^m.2.1.toNat
 d:ms.Pairwise λm m'=>Disj m.2 m'.2
theorem vR(k:Str):2<=need k:=by unfold need; split<;>(try split)<;>(try split)<;>decide
theorem Right.wd(r:Right bits ms):Wd ms:=λm hm=>by
 have:=r.w m hm;have h2:=vR m.1;have:=r.b;lia
theorem Right.kind(r:Right bits ms){kind:Str}(h:kind∈zp):∃m,OfKind ms kind m:=by
 have:kind∈ms.map (·.1):=r.k.mem_iff.mpr h;obtain⟨m,hm,e⟩:=U7.mp this;cases q:ms.filter (λm=>decide (m.1=kind)) with
 |nil =>
  have:m∈ms.filter (λm=>decide (m.1=kind)):=UP.mpr ⟨hm,by simp[e]⟩;rw[q] at this; cases this
 |cons m0 rest=>exact⟨m0,rest,q⟩
theorem Right.of_perm(r:Right bits ms)(h:ms.Perm ns):Right bits ns :=
 ⟨r.b,h.length_eq.symm.trans r.n,(h.map _).symm.trans r.k,λm hm=>r.w m (h.mem_iff.mpr hm),λm hm=>r.p m (h.mem_iff.mpr hm),(h.pairwise_iff λh=>h.symm).mp r.d⟩
theorem log2_lt{n:Int}(h0:0<n)(h1:n<2^62):n.natAbs.log2<9000:=by
 have:n.natAbs.log2<62:=(Nat.log2_lt (by lia)).mpr (by lia);lia
theorem pow_bits{bits:Int}(h:0<=bits)(h2:bits<=60):(0:Int)<1*2^bits.toNat/\(1:Int)*2^bits.toNat<2^62:=by
 rw[UR];refine⟨vL _, ?_⟩;have h3:bits.toNat<=60:=by lia
 have:(2:Nat)^bits.toNat<=2^60:=Dl (by decide) h3;have h4:((2^bits.toNat:Nat):Int)<=((2^60:Nat):Int):=by exact_mod_cast this
 have h5:((2^bits.toNat:Nat):Int)=2^bits.toNat:=by simp
 lia
def T0:List Nd:=[(1,0),(2,1),(3,3),(4,7),(4,15)]
def T1:List Nd:=[(1,0),(3,1),(3,3),(3,5),(3,7)]
def T2:List Nd:=[(2,0),(2,1),(2,2),(3,3),(3,7)]
def Tbl(bits:Int)(t:List Nd):Prop:=t=T0\/t=T1\/(t=T2/\9<=bits)
def xm(mask:Int)(n:Nd):Nd:=(n.1,Builtin.bitXor n.2 mask % 2^n.1.toNat)
def fm(mask:Int)(o:Str)(n:Nd):Mk3:=(o,xm mask n)
def cnt(bits:Int)(t:List Nd):Nat:=(t.filter λn=>decide (n.1<=bits-7)).length
theorem cnt_pos(hb:8<=bits)(h:Tbl bits t):0<cnt bits t:=by
 unfold cnt;refine List.length_pos_iff.mpr λe=>?_;rcases h with rfl|rfl|⟨rfl,h9⟩
 ·have:((1,0):Nd)∈T0.filter λn=>decide (n.1<=bits-7):=UP.mpr ⟨by decide,by simp; lia⟩
  rw[e] at this; cases this
 ·have:((1,0):Nd)∈T1.filter λn=>decide (n.1<=bits-7):=UP.mpr ⟨by decide,by simp; lia⟩
  rw[e] at this; cases this
 ·have:((2,0):Nd)∈T2.filter λn=>decide (n.1<=bits-7):=UP.mpr ⟨by decide,by simp; lia⟩
  rw[e] at this; cases this
theorem Vo(h:Tbl bits t):t.length=5:=by rcases h with rfl|rfl|⟨rfl,_⟩<;>rfl
theorem tbl_w(h:Tbl bits t):∀n∈t,1<=n.1/\n.1<=4:=by rcases h with rfl|rfl|⟨rfl,_⟩<;>decide
theorem tbl_sign(hb:8<=bits)(h:Tbl bits t)(ha:at'<cnt bits t)(hn:t[at']?=some n):n.1<=bits-7:=by
 by_cases h11:11<=bits
 ·have:=(tbl_w h n (Um hn)).2
  lia
 ·have hl:at'<5:=by
   have:=(Uj.mp hn).1;rw[Vo h] at this;exact this
  have key:∀b∈([8,9,10]:List Int),∀t∈[T0,T1,T2],∀i∈List.range 5,i<cnt b t->∀n∈t[i]?,n.1<=b-7:=by decide +kernel
  have hbm:bits∈([8,9,10]:List Int):=by
   rcases(show bits=8\/bits=9\/bits=10 by lia) with rfl|rfl|rfl<;>decide
  have htm:t∈[T0,T1,T2]:=by rcases h with rfl|rfl|⟨rfl,_⟩<;>simp
  exact key bits hbm t htm at' (Dc.mpr hl) ha n hn
theorem tbl_disj(h:Tbl bits t)(m0:0<=mask)(m1:mask<16):(t.map (xm mask)).Pairwise Disj:=by
 have key:∀k∈List.range 16,∀t∈[T0,T1,T2],(t.map (xm (k:Int))).Pairwise λa b=>a.2 % 2^(min a.1.toNat b.1.toNat)≠b.2 % 2^(min a.1.toNat b.1.toNat):=by decide +kernel
 obtain⟨k,rfl⟩:∃k:Nat,mask=(k:Int):=⟨mask.toNat,by lia⟩;have htm:t∈[T0,T1,T2]:=by rcases h with rfl|rfl|⟨rfl,_⟩<;>simp
 exact(key k (Dc.mpr (by lia)) t htm).imp λh=>GJ h
def four:List Str:=["small","far","pair","one"]
theorem WO{k:Str}(h:k ≠ "sign"):need k<=3:=by unfold need; rw[if_neg h]; split<;>(try split)<;>decide
theorem kX:∀{os:List Str}{t:List Nd},os.length=t.length->(List.zipWith (fm mask) os t).map (·.2)=t.map (xm mask)
 | [], [],_=>rfl
 |o::os,n::t,h=>by
  have:=kX (mask:=mask) (os:=os) (t:=t) (by simpa using h);simp only[Ru,UQ,this]; rfl
theorem kY:∀{os:List Str}{t:List Nd},os.length=t.length->(List.zipWith (fm mask) os t).map (·.1)=os
 | [], [],_=>rfl
 |o::os,n::t,h=>by
  have:=kY (mask:=mask) (os:=os) (t:=t) (by simpa using h);simp only[Ru,UQ,this]; rfl
theorem Ym{ks:List Str}(hb:8<=bits/\bits<=32)(h:Tbl bits t)(m0:0<=mask)(m1:mask<16)(hk:ks.Perm four)(ha:at'<cnt bits t)(ha4:at'<=4) :
  Right bits (List.zipWith (fm mask) (ks.take at'++(["sign"]:List Str)++ks.drop at') t):=by
 have hk4:ks.length=4:=hk.length_eq;have hol:(ks.take at'++(["sign"]:List Str)++ks.drop at').length=t.length:=by
  rw[Vo h]; simp only[Uu,U3,D5,Ur,U1]; lia
 have hns:∀k∈ks,k ≠ "sign" := λk hkm=>by
  have:k∈four:=hk.mem_iff.mp hkm;intro e; subst e; exact absurd this (by decide +kernel)
 have hget:∀m∈List.zipWith (fm mask) (ks.take at'++(["sign"]:List Str)++ks.drop at') t,∃i o n,(ks.take at'++(["sign"]:List Str)++ks.drop at')[i]?=some o/\t[i]?=some n/\m=fm mask o n:=λm hm=>by
  obtain⟨i,hi⟩:=List.mem_iff_getElem?.mp hm;rw[List.getElem?_zipWith_eq_some] at hi;obtain⟨o,n,h1,h2,h3⟩:=hi;exact⟨i,o,n,h1,h2,h3.symm⟩
 refine⟨hb, ?_, ?_,λm hm=>?_,λm hm=>?_, ?_⟩
 ·rw[List.length_zipWith,hol,R5,Vo h]
 ·rw[kY hol]
  have p1:(ks.take at'++(["sign"]:List Str)++ks.drop at').Perm ("sign" :: (ks.take at'++ks.drop at')):=by
   rw[UD]; exact List.perm_middle
  rw[Dj] at p1;exact p1.trans ((List.Perm.cons _ hk).trans (by decide +kernel))
 ·obtain⟨i,o,n,h1,h2,rfl⟩:=hget m hm
  have hw:=tbl_w h n (Um h2);show 1<=n.1/\n.1<=bits-need o;by_cases ho:o = "sign"
  ·have hi:i=at':=by
    have hl:(ks.take at').length=at':=by simp; lia
    rcases Nat.lt_trichotomy i at' with z|z|z
    ·rw[UD,Uo (by lia)] at h1
     have:o∈ks:=Dt (Um h1);exact absurd ho (hns o this)
    ·exact z
    ·rw[Uz (by simp; lia)] at h1
     have:o∈ks:=Du (Um h1);exact absurd ho (hns o this)
   subst hi;have:=tbl_sign hb.1 h ha h2;rw[ho];have e7:need "sign" = 7:=by decide +kernel
   rw[e7]; lia
  ·have:=WO ho
   lia
 ·obtain⟨i,o,n,h1,h2,rfl⟩:=hget m hm
  exact⟨Da _ (R9 (vL _)),U2 _ (vL _)⟩
 ·have:=tbl_disj h m0 m1
  rw[<-kX hol,List.pairwise_map] at this;exact this
def L0:List Str:=["small","far","pair","one"]
def L1:List Str:=["far","one","small","pair"]
def rot(L:List Str)(α:Nat):List Str:=((L++L).drop α).take 4
theorem rot_perm(h:L=L0\/L=L1)(ha:α<4):(rot L α).Perm four:=by
 have key:∀L∈[L0,L1],∀α∈List.range 4,(rot L α).Perm four:=by decide +kernel
 exact key L (by rcases h with rfl|rfl<;>simp) α (Dc.mpr ha)
structure LInv(bits:Int)(KS:List Str)(i:Nat)(ns:List Nd)(ms:List Mk3):Prop where
 ok:∀n∈ns,NdOk n
 low:∃n∈ns,n.1<=i
 len:ns.length<=1+31*i
 kinds:ms.map (·.1)=KS.take i
 w:∀m∈ms,1<=m.2.1/\m.2.1<=bits-need m.1
 p:∀m∈ms,NdOk m.2
 d:(ns++ms.map (·.2)).Pairwise Disj
structure WInv(i:Nat)(w0:Int)(c:Nd)(ns:List Nd)(ms:List Mk3):Prop where
 cok:NdOk c
 w:w0<=c.1
 ok:∀n∈ns,NdOk n
 low:(∃n∈ns,n.1<=i+1)\/(c.1=w0/\w0<=i)
 len:(ns.length:Int)<=31*i+c.1
 d:(c::(ns++ms.map (·.2))).Pairwise Disj
theorem LInv.pick(h:LInv bits KS i ns ms)(hj:ns[j]?=some n):WInv i n.1 n (ns.eraseIdx j) ms:=by
 have hp:=Q4 hj;have hn:n∈ns:=Um hj;have hl:=hp.length_eq;have:=h.len;have hok:=h.ok n hn;refine⟨hok,RQ _,λm hm=>h.ok m (List.mem_of_mem_eraseIdx hm), ?_, ?_, ?_⟩
 ·obtain⟨m,hm,hw⟩:=h.low
  rcases Uw.mp (hp.mem_iff.mp hm) with rfl|z
  ·exact .inr ⟨rfl,hw⟩
  ·exact .inl ⟨m,z,by lia⟩
 ·have:=hok.1
  simp only[Ur] at hl;lia
 ·exact((hp.append_right (ms.map (·.2))).pairwise_iff λh=>h.symm).mp h.d
theorem WInv.step(h:WInv i w0 c ns ms)(hs:s=0\/s=1)(h59:c.1<=59):WInv i w0 (xf c s) (ns++[xf c (1-s)]) ms:=by
 have hs':1-s=0\/1-s=1:=by lia
 obtain⟨dc,dr⟩:=Dq.mp h.d;have cw:(xf c s).1=c.1+1:=rfl;refine⟨Kv h.cok h59 hs,by rw[cw]; have:=h.w; lia,λn hn=>?_, ?_, ?_, ?_⟩
 ·rcases Us.mp hn with z|z
  ·exact h.ok n z
  ·rw[Uq.mp z]; exact Kv h.cok h59 hs'
 ·rcases h.low with⟨n,hn,hw⟩|⟨e,hw⟩
  ·exact .inl ⟨n,UH _ hn,hw⟩
  ·exact .inl ⟨xf c (1-s),UB _ (Uq.mpr rfl),by show c.1+1<=_; lia⟩
 ·have:=h.len
  rw[cw,Uu,Di];push_cast; lia
 ·have p1:(xf c s::(ns++[xf c (1-s)]++ms.map (·.2))).Perm (xf c s::xf c (1-s)::(ns++ms.map (·.2))):=by
   refine List.Perm.cons _ ?_;rw[UD];exact List.perm_middle
  refine(p1.pairwise_iff λh=>h.symm).mpr ?_;refine Dq.mpr ⟨λn hn=>?_,Dq.mpr ⟨λn hn=>Vf h.cok (dc n hn),dr⟩⟩;rcases Uw.mp hn with rfl|z
  ·exact GU (by lia)
  ·exact Vf h.cok (dc n z)
theorem WInv.fin(h:WInv i w0 c ns ms)(h0:LInv bits KS i ns0 ms)(hk:KS[i]?=some kind)(hg:c.1=goal)(hw:w0<goal)(h1:1<=goal)(h2:goal<=bits-need kind)(h31:goal<=31) :
  LInv bits KS (i+1) ns (ms++[(kind,c)]):=by
 have hl:=h.len;refine⟨h.ok, ?_, ?_, ?_,λm hm=>?_,λm hm=>?_, ?_⟩
 ·rcases h.low with⟨n,hn,hw'⟩|⟨e,_⟩
  ·exact⟨n,hn,by push_cast; exact hw'⟩
  ·lia
 ·lia
 ·rw[Ux,h0.kinds,qM hk]; rfl
 ·rcases Us.mp hm with z|z
  ·exact h0.w m z
  ·rw[Uq.mp z]; exact⟨by show 1<=c.1; lia,by show c.1<=bits-need kind; lia⟩
 ·rcases Us.mp hm with z|z
  ·exact h0.p m z
  ·rw[Uq.mp z]; exact h.cok
 ·rw[Ux, <-UD]
  have p1:(ns++ms.map (·.2)++[c]).Perm (c::(ns++ms.map (·.2))):=RE;exact(p1.pairwise_iff λh=>h.symm).mpr h.d
theorem LInv.right(h:LInv bits KS 5 ns ms)(hK:KS.Perm zp)(hb:8<=bits/\bits<=32):Right bits ms:=by
 have hl:KS.length=5:=hK.length_eq;have hk:ms.map (·.1)=KS:=by rw[h.kinds,DV (by lia)]
 refine⟨hb, ?_,by rw[hk]; exact hK,h.w,λm hm=>⟨(h.p m hm).2.2.1,(h.p m hm).2.2.2⟩, ?_⟩
 ·have:=congrArg List.length hk
  rw[Ul,hl] at this;exact this
 ·have:=(List.pairwise_append.mp h.d).2.1
  rw[List.pairwise_map] at this;exact this
theorem ks_low{α i:Nat}(hb:8<=bits)(hp:(rot L α).Perm four)(hk:(("sign" : Str)::rot L α)[i]?=some kind):(i:Int)<bits-need kind/\kind∈zp/\i<5:=by
 have hl:(rot L α).length=4:=hp.length_eq;cases i with
 |zero =>
  simp at hk; subst hk;have e7:need "sign" = 7:=by decide +kernel
  rw[e7];exact⟨by lia,by decide +kernel,by lia⟩
 |succ i =>
  simp at hk;have hm:kind∈four:=hp.mem_iff.mp (Um hk);have hi:=(Uj.mp hk).1;have hns:kind ≠ "sign" := λe=>by subst e; exact absurd hm (by decide +kernel)
  have:=WO hns;have sub:∀k∈four,k∈zp:=by decide +kernel
  exact⟨by push_cast; lia,sub kind hm,by lia⟩
theorem Kp{α:Type}[DecidableEq α]:∀{l:List α}{x:α},x∈l->∃j:Nat,l[j]?=some x/\∀m:Nat,m<j->l[m]?≠some x
 | [],_,h=>by cases h
 |y::l,x,h=>by
  by_cases e:y=x
  ·exact⟨0,by simp[e],λm hm=>by lia⟩
  ·have:x∈l:=by
    rcases Uw.mp h with z|z
    ·exact absurd z.symm e
    ·exact z
   obtain⟨j,h1,h2⟩:=Kp this;refine⟨j+1,by simpa using h1,λm hm=>?_⟩;cases m with
   |zero=>simpa using e
   |succ m=>simpa using h2 m (by lia)
theorem OfKind.mem(h:OfKind ms kind m):m∈ms:=by
 obtain⟨rest,e⟩:=h;have:m∈ms.filter (λm=>decide (m.1=kind)):=by rw[e]; exact UZ
 exact(UP.mp this).1
theorem OfKind.is(h:OfKind ms kind m):m.1=kind:=by
 obtain⟨rest,e⟩:=h;have:m∈ms.filter (λm=>decide (m.1=kind)):=by rw[e]; exact UZ
 exact of_decide_eq_true (UP.mp this).2
def zj(m:Mk3):T:=.tup [.str m.1, .int m.2.1, .int m.2.2]
def layT(bits:Int)(ms:List Mk3):T:=.tup [.int bits, .lst (ms.map zj)]
def ndT(n:Nd):T:=.tup [.int n.1, .int n.2]
def Zx(ks:List Str):T:=.lst (ks.map T.str)
theorem Zj{α:Type}{f:α->T}{xs:List α}{a b:Nat}(h1:a<=b)(h2:b<=xs.length):cutT (xs.map f) (some (a:Int)) (some (b:Int))=((xs.drop a).take (b-a)).map f:=by
 unfold cutT;have e1:HT.sIx (xs.map f).length 0 (some (a:Int))=min a (xs.map f).length:=HT.sIx_nat _ _ a;have e2:HT.sIx (xs.map f).length (xs.map f).length (some (b:Int))=min b (xs.map f).length:=HT.sIx_nat _ _ b;rw[e1,e2];simp only[Ul];rw[Dx (show a<=xs.length by lia),Dx h2,List.map_take,List.map_drop]
theorem xB{α:Type}{f:α->T}{xs:List α}{a:Nat}(h:a<=xs.length):cutT (xs.map f) none (some (a:Int))=(xs.take a).map f:=by
 unfold cutT;have e1:HT.sIx (xs.map f).length 0 none=0:=rfl;have e2:HT.sIx (xs.map f).length (xs.map f).length (some (a:Int))=min a (xs.map f).length:=HT.sIx_nat _ _ a;rw[e1,e2];simp only[Ul,RM,Nat.sub_zero,Dx h,List.map_take]
theorem xC{α:Type}{f:α->T}{xs:List α}{a:Nat}(h:a<=xs.length):cutT (xs.map f) (some (a:Int)) none=(xs.drop a).map f:=by
 unfold cutT;have e1:HT.sIx (xs.map f).length 0 (some (a:Int))=min a (xs.map f).length:=HT.sIx_nat _ _ a;have e2:HT.sIx (xs.map f).length (xs.map f).length none=(xs.map f).length:=rfl;rw[e1,e2];simp only[Ul,Dx h];rw[DV (by simp),List.map_drop]
theorem atT{α:Type}{f:α->T}{xs:List α}{i:Nat}{x:α}(h:xs[i]?=some x):atI (xs.map f) (i:Int)=some (f x):=jv (by rw[UU,h]; rfl)
abbrev jl:Stmt:=top 74
theorem scFullLaying:FnScope ["bag","bits","order","rows","some","mask","at"] ["bag","bits","order"] (ql jl):=⟨rfl,rfl,rfl,by decide +kernel,rfl,by decide +kernel,by decide +kernel⟩
theorem VS:(["bag","bits","order","rows","some","mask","at","one"]:List Str).Nodup:=by decide +kernel
theorem VR:(["bag","bits","order","rows","some","mask","at","k"]:List Str).Nodup:=by decide +kernel
def gFull:List U->MM->UK->Prop:=λus M Q=>∃(k:Nat)(o:MO)(bits:Int)(ks:List Str),us=[.m k, .p (.int bits), .p (Zx ks)]/\M[k]?=some o/\BagO o/\ks.Perm four/\(8<=bits/\bits<=32)/\∀(o':MO)(ms:List Mk3),BagO o'->Right bits ms->Q (.p (layT bits ms)) (M.set k o')
theorem ok_fullU(F:Fun Ξ "_law_full_laying" "_law_full_laying" jl f fd)(N:Nms mg)(DDraw:Def P w Ξ mg base "_law_draw" 1 ["bag","many"] (spU js)):FnOk P w Ξ mg base CX0 2 f fd ["bag","bits","order"] (spU gFull):=by
 refine F.zV scFullLaying (λus M Qu h=>?_) (λcdv A outer s H E hr=>?_)
 ·obtain⟨_,_,_,_,rfl,_⟩:=h
  rfl
 refine⟨_,(qg (qF (i:=3) scFullLaying.nd rfl W3 (qW (qa_c (qW (qa_c (qN (qa_c qe (qa_c qe qf))) (qa_c (qN (qa_c qe (qa_c qe qf))) (qa_c (qN (qa_c qe (qa_c qe qf))) (qa_c (qN (qa_c qe (qa_c qe qf))) (qa_c (qN (qa_c qe (qa_c qe qf))) qf)))))) (qa_c (qW (qa_c (qN (qa_c qe (qa_c qe qf))) (qa_c (qN (qa_c qe (qa_c qe qf))) (qa_c (qN (qa_c qe (qa_c qe qf))) (qa_c (qN (qa_c qe (qa_c qe qf))) (qa_c (qN (qa_c qe (qa_c qe qf))) qf)))))) qf))))
  (qg (xy (ZH PySem.F.slot_list_append PySem.F.type_list_append zl (qv 3) (qa_c (qW (qa_c (qN (qa_c qe (qa_c qe qf))) (qa_c (qN (qa_c qe (qa_c qe qf))) (qa_c (qN (qa_c qe (qa_c qe qf))) (qa_c (qN (qa_c qe (qa_c qe qf))) (qa_c (qN (qa_c qe (qa_c qe qf))) qf)))))) qf)))
  (qg (qF (i:=4) scFullLaying.nd rfl W6 (qH (Uc Ξ) (qv 3) (qu DDraw (Wf hr) (qa_c (qv 0) (qa_c (qt qP qe (vT Xn (by rfl) N.int G9 (qa_c (zM X5 (qv 1) qe (qB _)) qf))) qf))) (λ_ _=>rfl)))
  (qg (qF (i:=5) scFullLaying.nd rfl W6 (qu DDraw (Wf hr) (qa_c (qv 0) (qa_c qe qf))))
  (qg (qF (i:=6) scFullLaying.nd rfl W3 (qu DDraw (Wf hr) (qa_c (qv 0) (qa_c (qG qV (by rfl) N.len ze (qa_c (QN [false,true,false,false,false,false,false] ["one"] (vm (Ξ:=Ξ) rfl (qv 4)) (λ_ _ _=>(qU (i:=7) VS rfl W3)) (λ_ _ _=>jo (qp j4 (qH (Ud Ξ) (qv 7) qe (λ_ _=>rfl)) (qt vh (qv 1) qe) (qB _))) (λ_ _ _=>(qv 7))) qf)) qf))))
  (qg (qF (i:=2) scFullLaying.nd rfl W6 (qt vZ (qt vZ (vA (Ub Ξ) (qv 2) v7 (vD (qv 6))) (qW (qa_c qE qf))) (vA (Ub Ξ) (qv 2) (vD (qv 6)) v7)))
  (qi (qy (qN (qa_c (qv 1) (qa_c (QN [false,false,true,false,true,true,false] ["k"] (vM rfl N.range (qa_c qe qf)) (λ_ _ _=>(qU (i:=7) VR rfl W3)) (λ_ _ _=>xx) (λ_ _ _=>(qN (qa_c (qH (Uc Ξ) (qv 2) (qv 7) (λ_ _=>rfl)) (qa_c (qH (Ud Ξ) (qH (Uc Ξ) (qv 4) (qv 7) (λ_ _=>rfl)) qe (λ_ _=>rfl)) (qa_c (qt zz (qt op_xor (qH (Ud Ξ) (qH (Uc Ξ) (qv 4) (qv 7) (λ_ _=>rfl)) qe (λ_ _=>rfl)) (qv 5)) (qt vn qe (qH (Ud Ξ) (qH (Uc Ξ) (qv 4) (qv 7) (λ_ _=>rfl)) qe (λ_ _=>rfl)))) qf)))))) qf))))))))))),_,(qj (qx (kr (qc (vf (qc (qO (qc Wh (qc Wh qh))) (qc (qO (qc Wh (qc Wh qh))) (qc (qO (qc Wh (qc Wh qh))) (qc (qO (qc Wh (qc Wh qh))) (qc (qO (qc Wh (qc Wh qh))) qh)))))) (qc (vf (qc (qO (qc Wh (qc Wh qh))) (qc (qO (qc Wh (qc Wh qh))) (qc (qO (qc Wh (qc Wh qh))) (qc (qO (qc Wh (qc Wh qh))) (qc (qO (qc Wh (qc Wh qh))) qh)))))) qh))) (qm 3))
   (qj (xE (Xi zi (qd 3) (qc (vf (qc (qO (qc Wh (qc Wh qh))) (qc (qO (qc Wh (qc Wh qh))) (qc (qO (qc Wh (qc Wh qh))) (qc (qO (qc Wh (qc Wh qh))) (qc (qO (qc Wh (qc Wh qh))) qh)))))) qh)))
   (qj (qx (qT (qd 3) (qD (qc (qd 0) (qc (qk (qo λ_ _=>.int _) Wh (ju G3 (qc (qk (qo λ_ _=>.bl _) (qd 1) Wh) qh))) qh)))) (qm 4))
   (qj (qx (qD (qc (qd 0) (qc Wh qh))) (qm 5))
   (qj (qx (qD (qc (qd 0) (qc (vO (qc (zu (vN (qd 4)) (zd 7) (qr (qk (qo λ_ _=>.bl _) (qQ (qd 7) Wh) (qk (qo λ_ _=>.int _) (qd 1) Wh))) (qd 7)) qh)) qh))) (qm 6))
   (qj (qx (qk vI (qk vI (xS (qd 2) zt (vH (qd 6))) (vf (qc Wk qh))) (xS (qd 2) (vH (qd 6)) zt)) (qm 2))
   (qC (qO (qc (qd 1) (qc (zu (zO (qc Wh qh)) (zd 7) Ve (qO (qc (qT (qd 2) (qd 7)) (qc (qQ (qT (qd 4) (qd 7)) Wh) (qc (qk (vg λ_ _=>.int _) (qk (qo λ_ _=>.int _) (qQ (qT (qd 4) (qd 7)) Wh) (qd 5)) (qk (vg λ_ _=>.int _) Wh (qQ (qT (qd 4) (qd 7)) Wh))) qh))))) qh)))))))))),λus M M1 Qu e1 h=>?_⟩
 obtain⟨k,o,bits,ks,rfl,em,hB,hk,hb,post⟩:=h;obtain⟨hkl,eM⟩:=zC em;rw[e1.trans eM];nofun;refine⟨by show 2<sizeLine; decide, ?_⟩;have hmany:(2:Int)<=2+(if 8<bits then 1 else 0)/\(2:Int)+(if 8<bits then 1 else 0)<=3:=by split<;>lia
 refine qR hkl hB (by lia) (log2_lt (by lia) (by lia)) λd o1 d0 d1 B1=>?_;have hpick:∃t,atI [U.p (.lst (T0.map ndT)), .p (.lst (T1.map ndT)), .p (.lst (T2.map ndT))] d=some (.p (.lst (t.map ndT)))/\Tbl bits t:=by
  rcases(show d=0\/d=1\/d=2 by lia) with rfl|rfl|rfl
  ·exact⟨T0,rfl, .inl rfl⟩
  ·exact⟨T1,rfl, .inr (.inl rfl)⟩
  ·exact⟨T2,rfl, .inr (.inr ⟨rfl,by split at d1<;>lia⟩)⟩
 obtain⟨t,hat,hT⟩:=hpick;refine ix_at (by simp only[vd,MB_get]; rfl) hat ?_;refine qR hkl B1 (by decide) (by decide) λmask o2 m0 m1 B2=>?_;have ht5:=Vo hT;nofun;refine zg (by rw[Ul,ht5]; decide) (λi acc M'=>M'=MB M k o2 [MO.lst [U.p (.lst (T0.map ndT)), .p (.lst (T1.map ndT)), .p (.lst (T2.map ndT))]]/\acc=((t.take i).filter λn=>decide (n.1<=bits-7)).map ndT) ⟨rfl,rfl⟩ ?_ ?_
 ·rintro i x acc M' hx _ ⟨rfl,rfl⟩
  obtain⟨n,hn,rfl⟩:∃n,t[i]?=some n/\x=ndT n:=by
   rw[UU] at hx;cases e:t[i]? with
   |none=>rw[e] at hx; cases hx
   |some n=>rw[e] at hx; cases hx; exact⟨n,rfl,rfl⟩
  nofun;rw[qM hn,U8,Ux];refine ite2 (λhh=>?_) (λhh=>?_)<;>simp[hh]
 ·rintro acc M' ⟨rfl,rfl⟩
  rw[Ul,UF];nofun;have hcl:(((t.filter λn=>decide (n.1<=bits-7)).map ndT).length:Int)=(cnt bits t:Int):=by rw[Ul]; rfl
  rw[hcl];have hcp:=cnt_pos hb.1 hT;have hc5:cnt bits t<=5:=by
   have:=RF (λn:Nd=>decide (n.1<=bits-7)) t;rw[ht5] at this;exact this
  refine qR hkl B2 (by lia) (log2_lt (by lia) (by lia)) λα o3 α0 α1 B3=>?_;obtain⟨at',rfl⟩:∃j:Nat,α=(j:Int):=⟨α.toNat,by lia⟩;have hk4:ks.length=4:=hk.length_eq;have ha4:at'<=4:=by lia
  unfold Zx;nofun;rw[xB (by lia),xC (by lia)];have hright:=Ym (mask:=mask) hb hT m0 m1 hk (by lia) ha4;have hlo:(ks.take at'++(["sign"]:List Str)++ks.drop at').length=5:=by simp; lia
  have em2:(ks.take at').map T.str++[T.str "sign"]++(ks.drop at').map T.str=(ks.take at'++(["sign"]:List Str)++ks.drop at').map T.str:=by simp
  refine⟨by simp; exact UC (qJ (by lia)),by simp; exact UC (qJ (by lia)),xX (by decide) (by decide) ?_⟩;rw[em2];generalize ks.take at'++(["sign"]:List Str)++ks.drop at'=os at hright hlo ⊢;refine jz (by decide) (λi acc M'=>M'=MB M k o3 [MO.lst [U.p (.lst (T0.map ndT)), .p (.lst (T1.map ndT)), .p (.lst (T2.map ndT))]]/\acc=((List.zipWith (fm mask) os t).take i).map zj) ⟨rfl,rfl⟩ ?_ ?_
  ·rintro i acc M' hi _ ⟨rfl,rfl⟩
   have hi5:i<5:=hi;have hoi:os[i]?=some (os[i]'(by lia)):=Uk _;have hti:t[i]?=some (t[i]'(by lia)):=Uk _;have hw:=tbl_w hT _ (Um hti);have hz:(List.zipWith (fm mask) os t)[i]?=some (fm mask (os[i]'(by lia)) (t[i]'(by lia))):=by
    rw[List.getElem?_zipWith,hoi,hti]
   nofun;refine qS (atT hoi) ?_;refine qS (atT hti) ?_;nofun;refine qS (atT hti) ?_;nofun;refine qS (atT hti) ?_;nofun;refine⟨⟨by lia,by lia,by decide⟩, ?_, ?_⟩
   ·rw[UR]; exact vL _
   ·rw[qM hz,Ux,UR]
    rfl
  ·rintro acc M' ⟨rfl,rfl⟩
   have e5:(Int.toNat 5)=(List.zipWith (fm mask) os t).length:=by rw[hright.n]<;>rfl
   rw[e5,UF];nofun;refine⟨zx B3.pur, ?_⟩;rw[zy];exact post o3 _ B3 hright
abbrev XQ:Stmt:=top 75
theorem scLaying:FnScope ["bag","bits","kinds","at","most","free","marks","kind","some","width","pattern","goal","side","turn"] ["bag"] (ql XQ):=⟨rfl,rfl,rfl,by decide +kernel,rfl,by decide +kernel,by decide +kernel⟩
theorem WQ:(["bag","bits","kinds","at","most","free","marks","kind","some","width","pattern","goal","side","turn","node"]:List Str).Nodup:=by decide +kernel
def Jr:List U->MM->UK->Prop:=λus M Q=>∃(k:Nat)(o:MO),us=[.m k]/\M[k]?=some o/\BagO o/\∀(o':MO)(bits:Int)(ms:List Mk3),BagO o'->Right bits ms->Q (.p (layT bits ms)) (M.set k o')
abbrev Z2(bits:Int):List (Key×U):=[(.inr "sign", .p (.int (bits-7))),(.inr "small", .p (.int (bits-2))),(.inr "one", .p (.int (bits-2))),(.inr "far", .p (.int (bits-3))),(.inr "pair", .p (.int (bits-3)))]
theorem WT(h:kind∈zp):valU (xj [] (Z2 bits)) (.inr kind)=some (.p (.int (bits-need kind))):=by
 have e:xj [] (Z2 bits)=Z2 bits:=rfl;rw[e];have h':kind = "small" \/ kind = "far" \/ kind = "pair" \/ kind = "sign" \/ kind = "one" := by simpa[zp] using h
 rcases h' with rfl|rfl|rfl|rfl|rfl<;>rfl
theorem nd_eqT:EqT (n+1) (ndT a) (ndT b) (decide (a=b)):=by
 have h:=EqT.tup (n:=n) (xs:=[.int a.1, .int a.2]) (ys:=[.int b.1, .int b.2]) (e:=λj=>if j=0 then decide (a.1=b.1) else decide (a.2=b.2)) (λj x y hx hy=>by
  match j,hx,hy with
  |0,hx,hy =>
   cases hx; cases hy;have:=EqT.flat (n:=n) (a:=.int a.1) (b:=.int b.1) rfl rfl;rw[show eqV (.int a.1) (.int b.1)=decide (a.1=b.1) by simp[eqV,RG]] at this; exact this
  |1,hx,hy =>
   cases hx; cases hy;have:=EqT.flat (n:=n) (a:=.int a.2) (b:=.int b.2) rfl rfl;rw[show eqV (.int a.2) (.int b.2)=decide (a.2=b.2) by simp[eqV,RG]] at this; exact this
  |j+2,hx,_=>cases hx)
 have e:((List.range (min [T.int a.1,T.int a.2].length [T.int b.1,T.int b.2].length)).all (λj=>if j=0 then decide (a.1=b.1) else decide (a.2=b.2))&&[T.int a.1,T.int a.2].length==[T.int b.1,T.int b.2].length)=decide (a=b):=by
  obtain⟨a1,a2⟩:=a;obtain⟨b1,b2⟩:=b;simp[List.range_succ]
 rw[e] at h;exact h
theorem KZ(F:Fun Ξ "_law_laying" "_law_laying" XQ f fd)(N:Nms mg)(DDraw:Def P w Ξ mg base "_law_draw" 1 ["bag","many"] (spU js))(DFullLaying:Def P w Ξ mg base "_law_full_laying" 2 ["bag","bits","order"] (spU gFull)):FnOk P w Ξ mg base CX0 3 f fd ["bag"] (spU Jr):=by
 refine F.zV scLaying (λus M Qu h=>?_) (λcdv A outer s H E hr=>?_)
 ·obtain⟨_,_,rfl,_⟩:=h
  rfl
 refine⟨_,(qg (qF (i:=1) scLaying.nd rfl W3 (qH (Uc Ξ) (qW (qa_c qe (qa_c qe (qa_c qe (qa_c qe (qa_c qe (qa_c qe (qa_c qe (qa_c (qt qP qe (qu DDraw (Wf hr) (qa_c (qv 0) (qa_c qe qf)))) qf))))))))) (qu DDraw (Wf hr) (qa_c (qv 0) (qa_c qe qf))) (λ_ _=>rfl)))
  (qg (qF (i:=2) scLaying.nd rfl W3 (qt Ka (qH (Uc Ξ) (qW (qa_c (qW (qa_c qE (qa_c qE (qa_c qE (qa_c qE qf))))) (qa_c (qW (qa_c qE (qa_c qE (qa_c qE (qa_c qE qf))))) qf))) (qu DDraw (Wf hr) (qa_c (qv 0) (qa_c qe qf))) (λ_ _=>rfl)) qe))
  (qg (qF (i:=3) scLaying.nd rfl W3 (qu DDraw (Wf hr) (qa_c (qv 0) (qa_c qe qf))))
  (qg (qX (qp vK (qu DDraw (Wf hr) (qa_c (qv 0) (qa_c qe qf))) qe (qB _))
   (qi (qy (qu DFullLaying (Wf hr) (qa_c (qv 0) (qa_c (qv 1) (qa_c (vA (Ub Ξ) (qv 2) (vD (qv 3)) (vD (qt qP (qv 3) qe))) qf))))))
   qI)
  (qg (qF (i:=4) scLaying.nd rfl W6 (X1 (vU qE (qt vh (qv 1) qe) (vU qE (qt vh (qv 1) qe) (vU qE (qt vh (qv 1) qe) (vU qE (qt vh (qv 1) qe) (vU qE (qt vh (qv 1) qe) XX))))) rfl rfl (λz=>nomatch z) (by decide)))
  (qg (qF (i:=5) scLaying.nd rfl W3 (qW (qa_c (qN (qa_c qe (qa_c qe qf))) qf)))
  (qg (qF (i:=6) scLaying.nd rfl W3 (qW qf))
  (qg (vX PassesOwn.never rfl (vm (Ξ:=Ξ) rfl (qt vZ (qW (qa_c qE qf)) (vA (Ub Ξ) (qv 2) (vD (qv 3)) (vD (qt qP (qv 3) qe))))) (qU (i:=7) scLaying.nd rfl W6)
   (qg (Y9 (i:=8) [false,false,false,false,true,false,false,true,false,false,false,false,false,false] ["node"] scLaying.nd rfl rfl (vm (Ξ:=Ξ) rfl (qv 5)) (λ_ _ _=>(qU (i:=14) WQ rfl W3)) (λ_ _ _=>jo (qp zF (qH (Ud Ξ) (qv 14) qe (λ_ _=>rfl)) (jp (kA hr) (qv 4) (qv 7) (λ_ _=>rfl)) (qB _))) (λ_ _ _=>(qv 14)))
   (qg (vY (qH (Uc Ξ) (qv 8) (qu DDraw (Wf hr) (qa_c (qv 0) (qa_c (qG qV (by rfl) N.len ze (qa_c (qv 8) qf)) qf))) (λ_ _=>rfl)) (Q3 (Ξ:=Ξ) (i:=9) (j:=10) rfl scLaying.nd rfl rfl rfl W3 W3 W3 W3))
   (qg (xy (ZH PySem.F.slot_list_remove PySem.F.type_list_remove (Yb (Ξ:=Ξ) rfl hr.units) (qv 5) (qa_c (qN (qa_c (qv 9) (qa_c (qv 10) qf))) qf)))
   (qg (qF (i:=11) scLaying.nd rfl W3 (qG (Xl rfl) (by rfl) N.min Yq (qa_c (jp (kA hr) (qv 4) (qv 7) (λ_ _=>rfl)) (qa_c (qt qP (qv 9) (qH (Uc Ξ) (qW (qa_c qe (qa_c qe (qa_c qe (qa_c qe (qa_c (qt qP qe (qu DDraw (Wf hr) (qa_c (qv 0) (qa_c qe qf)))) qf)))))) (qu DDraw (Wf hr) (qa_c (qv 0) (qa_c qe qf))) (λ_ _=>rfl))) qf))))
   (qg (kO PassesOwn.never (qp zF (qv 9) (qv 11) (qB _))
    (qg (qF (i:=12) scLaying.nd rfl W3 (qu DDraw (Wf hr) (qa_c (qv 0) (qa_c qe qf))))
    (qg (xy (ZH PySem.F.slot_list_append PySem.F.type_list_append zl (qv 5) (qa_c (qN (qa_c (qt qP (qv 9) qe) (qa_c (qt qP (qv 10) (qt vn (qt vh qe (qv 12)) (qv 9))) qf))) qf)))
    (qg (qF (i:=10) scLaying.nd rfl W3 (qt qP (qv 10) (qt vn (qv 12) (qv 9))))
    (qi (qF (i:=9) scLaying.nd rfl W3 (qt qP (qv 9) qe)))))))
   (qi (xy (ZH PySem.F.slot_list_append PySem.F.type_list_append zl (qv 6) (qa_c (qN (qa_c (qv 7) (qa_c (qv 9) (qa_c (qv 10) qf)))) qf))))))))))
  (qg (qF (i:=13) scLaying.nd rfl W3 (qu DDraw (Wf hr) (qa_c (qv 0) (qa_c qe qf))))
  (qi (qy (qN (qa_c (qv 1) (qa_c (qt vZ (vA (Ub Ξ) (qv 6) (vD (qv 13)) v7) (vA (Ub Ξ) (qv 6) v7 (vD (qv 13)))) qf)))))))))))))),_,(qj (qx (qT (vf (qc Wh (qc Wh (qc Wh (qc Wh (qc Wh (qc Wh (qc Wh (qc (qk (qo λ_ _=>.int _) Wh (qD (qc (qd 0) (qc Wh qh)))) qh))))))))) (qD (qc (qd 0) (qc Wh qh)))) (qm 1))
   (qj (qx (qk X4 (qT (vf (qc (vf (qc Wk (qc Wk (qc Wk (qc Wk qh))))) (qc (vf (qc Wk (qc Wk (qc Wk (qc Wk qh))))) qh))) (qD (qc (qd 0) (qc Wh qh)))) Wh) (qm 2))
   (qj (qx (qD (qc (qd 0) (qc Wh qh))) (qm 3))
   (qj (ve (qr (qk vi (qD (qc (qd 0) (qc Wh qh))) Wh))
   (qC (qD (qc (qd 0) (qc (qd 1) (qc (xS (qd 2) (vH (qd 3)) (vH (qk (qo λ_ _=>.int _) (qd 3) Wh))) qh)))))
   qL)
   (qj (qx (JF (zr Wk (qk (qo λ_ _=>.int _) (qd 1) Wh) (zr Wk (qk (qo λ_ _=>.int _) (qd 1) Wh) (zr Wk (qk (qo λ_ _=>.int _) (qd 1) Wh) (zr Wk (qk (qo λ_ _=>.int _) (qd 1) Wh) (zr Wk (qk (qo λ_ _=>.int _) (qd 1) Wh) GS)))))) (qm 4))
   (qj (qx (kr (qc (qO (qc Wh (qc Wh qh))) qh)) (qm 5))
   (qj (qx (kr qh) (qm 6))
   (qj (zc (vN (qk vI (vf (qc Wk qh)) (xS (qd 2) (vH (qd 3)) (vH (qk (qo λ_ _=>.int _) (qd 3) Wh))))) (qm 7)
   (qj (qx (zu (vN (qd 5)) (zd 14) (qr (qk (qo λ_ _=>.bl _) (qQ (qd 14) Wh) (Zm (qd 4) (qd 7)))) (qd 14)) (qm 8))
   (qj (qx (qT (qd 8) (qD (qc (qd 0) (qc (vO (qc (qd 8) qh)) qh)))) (xP 9 10))
   (qj (xE (Xi Yc (qd 5) (qc (qO (qc (qd 9) (qc (qd 10) qh))) qh)))
   (qj (qx (ju G2 (qc (Zm (qd 4) (qd 7)) (qc (qk (qo λ_ _=>.int _) (qd 9) (qT (vf (qc Wh (qc Wh (qc Wh (qc Wh (qc (qk (qo λ_ _=>.int _) Wh (qD (qc (qd 0) (qc Wh qh)))) qh)))))) (qD (qc (qd 0) (qc Wh qh))))) qh))) (qm 11))
   (qj (kU (qr (qk (qo λ_ _=>.bl _) (qd 9) (qd 11)))
   (qj (qx (qD (qc (qd 0) (qc Wh qh))) (qm 12))
   (qj (xE (Xi zi (qd 5) (qc (qO (qc (qk (qo λ_ _=>.int _) (qd 9) Wh) (qc (qk (qo λ_ _=>.int _) (qd 10) (qk (vg λ_ _=>.int _) (qk (qo λ_ _=>.int _) Wh (qd 12)) (qd 9))) qh))) qh)))
   (qj (qx (qk (qo λ_ _=>.int _) (qd 10) (qk (vg λ_ _=>.int _) (qd 12) (qd 9))) (qm 10))
   (qx (qk (qo λ_ _=>.int _) (qd 9) Wh) (qm 9))))))
   (xE (Xi zi (qd 6) (qc (qO (qc (qd 7) (qc (qd 9) (qc (qd 10) qh)))) qh)))))))))
   (qj (qx (qD (qc (qd 0) (qc Wh qh))) (qm 13))
   (qC (qO (qc (qd 1) (qc (qk vI (xS (qd 6) (vH (qd 13)) zt) (xS (qd 6) zt (vH (qd 13)))) qh))))))))))))),λus M M1 Qu e1 h=>?_⟩
 obtain⟨k,o,rfl,em,hB,post⟩:=h;obtain⟨hkl,eM⟩:=zC em;rw[e1.trans eM];nofun;refine qR hkl hB (by decide) (by decide) λe o1 e0 e1 B1=>?_;nofun;refine qR hkl B1 (by decide) (by decide) λd o2 d0 d1 B2=>?_;have hbits:∃bits:Int,atI [T.int 8, .int 9, .int 10, .int 12, .int 16, .int 24, .int 32, .int (8+e)] d=some (.int bits)/\8<=bits/\bits<=32:=by
  rcases(show d=0\/d=1\/d=2\/d=3\/d=4\/d=5\/d=6\/d=7 by lia) with rfl|rfl|rfl|rfl|rfl|rfl|rfl|rfl
  ·exact⟨_,rfl,by decide,by decide⟩
  ·exact⟨_,rfl,by decide,by decide⟩
  ·exact⟨_,rfl,by decide,by decide⟩
  ·exact⟨_,rfl,by decide,by decide⟩
  ·exact⟨_,rfl,by decide,by decide⟩
  ·exact⟨_,rfl,by decide,by decide⟩
  ·exact⟨_,rfl,by decide,by decide⟩
  ·exact⟨_,rfl,by lia,by lia⟩
 obtain⟨bits,hbt,hb0,hb1⟩:=hbits;refine qS hbt ?_;nofun;refine qR hkl B2 (by decide) (by decide) λd2 o3 d20 d21 B3=>?_;obtain⟨L,hat2,hL⟩:∃L,atI [Zx L0,Zx L1] d2=some (Zx L)/\(L=L0\/L=L1):=by
  rcases(show d2=0\/d2=1 by lia) with rfl|rfl
  ·exact⟨L0,rfl, .inl rfl⟩
  ·exact⟨L1,rfl, .inr rfl⟩
 refine qS hat2 ?_;nofun;have hL8:(L++L).length=8:=by rcases hL with rfl|rfl<;>rfl
 refine⟨L.map T.str,2,rfl,rfl,by decide,by decide,(by rcases hL with rfl|rfl<;>(show 4*2<=sizeLine; decide)), ?_⟩;have hflat:(List.replicate (2:Int).toNat (L.map T.str)).flatten=(L++L).map T.str:=by rcases hL with rfl|rfl<;>rfl
 rw[hflat];refine qR hkl B3 (by decide) (by decide) λα o4 α0 α1 B4=>?_;obtain⟨at',rfl⟩:∃j:Nat,α=(j:Int):=⟨α.toNat,by lia⟩;have ha:at'<4:=by lia
 have hrp:=rot_perm (α:=at') hL ha;have hrl:(rot L at').length=4:=hrp.length_eq;have hcut:cutT ((L++L).map T.str) (some (at':Int)) (some ((at':Int)+4))=(rot L at').map T.str:=by
  have e4:(at':Int)+4=((at'+4:Nat):Int):=by lia
  rw[e4,Zj (by lia) (by lia),show at'+4-at'=4 by lia];rfl
 nofun;refine qR hkl B4 (by decide) (by decide) λd4 o5 d40 d41 B5=>?_;nofun;rw[hcut];refine ite2 (λ_=>?_) (λ_=>?_)
 ·refine⟨k,o5,bits,rot L at',rfl,QJ hkl,B5,hrp,⟨hb0,hb1⟩,λo6 ms B6 hR=>?_⟩
  rw[zI hkl];nofun;refine⟨zx B6.pur, ?_⟩;rw[zy];exact post o6 bits ms B6 hR
 simp only[Zt];nofun;refine⟨Z2 bits,rfl,by show 5<=15; decide, ?_⟩;refine⟨by simp[hrl]; exact UC (qJ (by decide)), ?_⟩;refine v6 (ts:=((("sign" : Str)::rot L at').map T.str)) (λi ρ M'=>∃(o:MO)(ns:List Nd)(ms:List Mk3)(x7 x8 x9 x10 x11 x12 x13:Option U),ρ=[some (.m k),some (.p (.int bits)),some (.p (.lst ((L++L).map T.str))),some (.p (.int at')),some (.m (M.length+0)),some (.m (M.length+1)),some (.m (M.length+2)),x7,x8,x9,x10,x11,x12,x13]/\M'=MB M k o [.dK (xj [] (Z2 bits)), .lst ((ns.map ndT).map U.p), .lst ((ms.map zj).map U.p)]/\BagO o/\LInv bits (("sign" : Str)::rot L at') i ns ms) ?_ ?_ ?_
 ·refine⟨o5, [(0,0)], [],_,_,_,_,_,_,_,rfl,rfl,B5,⟨?_,⟨(0,0),by simp,by decide⟩,by decide,rfl,(λ_ h=>nomatch h),(λ_ h=>nomatch h),by simp⟩⟩
  intro n hn;rw[Uq.mp hn];exact⟨by decide,by decide,by decide,by decide⟩
 ·rintro i y ρ M' hi ⟨o,ns,ms,x7,x8,x9,x10,x11,x12,x13,rfl,rfl,B6,LI⟩
  obtain⟨kind,hki,rfl⟩:=vJ hi;obtain⟨hlow,hk5,hi5⟩:=ks_low hb0 hrp hki;have hval:=WT (bits:=bits) hk5;have hneed:=vR kind;have hnl:=LI.len;nofun;refine iter_at (vE rfl) ?_;refine Yx (by rw[Ul]; exact UC (qJ (by lia))) (λj acc M2=>M2=MB M k o [.dK (xj [] (Z2 bits)), .lst ((ns.map ndT).map U.p), .lst ((ms.map zj).map U.p)]/\acc=((ns.take j).filter λn=>decide (n.1<bits-need kind)).map ndT) ⟨rfl,rfl⟩ (λj acc M2 ⟨e,_⟩=>by rw[e]; exact vE rfl) ?_ ?_
  ·rintro j y acc M2 hj _ ⟨rfl,rfl⟩
   obtain⟨n,hn,rfl⟩:=vJ hj;nofun;refine Zi (vE rfl) hval ?_;nofun;rw[qM hn,U8,Ux];refine ite2 (λhh=>?_) (λhh=>?_)<;>simp[hh]
  ·rintro acc M2 ⟨rfl,rfl⟩
   rw[Ul,UF];generalize hfs:(ns.filter λn=>decide (n.1<bits-need kind))=fs;have hpos:0<fs.length:=by
    obtain⟨n,hn,hw⟩:=LI.low;have:n∈fs:=by rw[<-hfs]; exact UP.mpr ⟨hn,by simp; lia⟩
    exact Rv this
   have hfl:fs.length<=200:=by
    rw[<-hfs];have:=RF (λn:Nd=>decide (n.1<bits-need kind)) ns;lia
   nofun;rw[Ul];refine qR hkl B6 (by lia) (log2_lt (by lia) (by lia)) λd o7 d0 d1 B7=>?_;obtain⟨jj,rfl⟩:∃j:Nat,d=(j:Int):=⟨d.toNat,by lia⟩;have hjj:fs[jj]?=some (fs[jj]'(by lia)):=Uk _;generalize fs[jj]'(by lia)=n at hjj;have hnf:=UP.mp (show n∈ns.filter λn=>decide (n.1<bits-need kind) by rw[hfs]; exact Um hjj);have hnw:n.1<bits-need kind:=by simpa using hnf.2
   have hnok:=LI.ok n hnf.1;refine qS (atT hjj) ?_;nofun;obtain⟨j,hj,hjm⟩:=Kp hnf.1;have hjl:=(Uj.mp hj).1;refine⟨ns.map ndT,ndT n,j,λm=>decide (ns[m]?=some n),rfl,rfl,by rw[Ul]; exact hjl,by simp[hj],λm hm=>by simp[hjm m hm],λm z hm hz=>?_, ?_⟩
   ·obtain⟨nm,hnm,rfl⟩:=vJ hz
    have e9:decide (ns[m]?=some n)=decide (nm=n):=by
     rw[hnm];by_cases e:nm=n<;>simp[e]
    show EqT 20 _ _ (decide (ns[m]?=some n));rw[e9];exact nd_eqT
   have W0:=LI.pick hj;rw[<-Z4];nofun;refine Zi (vE rfl) hval ?_;nofun;refine qR hkl B7 (by decide) (by decide) λe o8 e0 e1 B8=>?_;nofun;refine qR hkl B8 (by decide) (by decide) λd5 o9 d50 d51 B9=>?_;have hdel:∃δ:Int,atI [T.int 1, .int 1, .int 2, .int 3, .int (1+e)] d5=some (.int δ)/\1<=δ/\δ<=30:=by
    rcases(show d5=0\/d5=1\/d5=2\/d5=3\/d5=4 by lia) with rfl|rfl|rfl|rfl|rfl
    ·exact⟨_,rfl,by decide,by decide⟩
    ·exact⟨_,rfl,by decide,by decide⟩
    ·exact⟨_,rfl,by decide,by decide⟩
    ·exact⟨_,rfl,by decide,by decide⟩
    ·exact⟨_,rfl,by lia,by lia⟩
   obtain⟨δ,hδ,δ0,δ1⟩:=hdel;refine qS hδ ?_;nofun;obtain⟨g,hgE,hg1,hg2⟩:∃g:Int,(if n.1+δ<bits-need kind then n.1+δ else bits-need kind)=g/\n.1<g/\g<=bits-need kind:=⟨_,rfl,by split<;>lia,by split<;>lia⟩;rw[hgE];have hn0':=hnok.1;refine⟨λm ρ M'=>∃(o:MO)(c:Nd)(ns2:List Nd)(x12:Option U),m=(g-c.1).toNat/\ρ=[some (.m k),some (.p (.int bits)),some (.p (.lst ((L++L).map T.str))),some (.p (.int at')),some (.m (M.length+0)),some (.m (M.length+1)),some (.m (M.length+2)),some (.p (.str kind)),some (.p (.lst (fs.map ndT))),some (.p (.int c.1)),some (.p (.int c.2)),some (.p (.int g)),x12,x13]/\M'=MB M k o [.dK (xj [] (Z2 bits)), .lst ((ns2.map ndT).map U.p), .lst ((ms.map zj).map U.p)]/\BagO o/\c.1<=g/\WInv i n.1 c ns2 ms,⟨_,o9,n,ns.eraseIdx j,_,rfl,rfl,rfl,B9,by lia,W0⟩, ?_⟩;rintro m ρ M' ⟨o10,c,ns2,y12,rfl,rfl,rfl,B10,hcg,WI⟩;have hcok:=WI.cok;have hwl:=WI.len;have hww:=WI.w;have hc0:=hcok.1;nofun;refine ite2 (λhlt=>?_) (λhge=>?_)
   ·refine⟨λρ'' M''=>∃m',m'<(g-c.1).toNat/\∃(o:MO)(c:Nd)(ns2:List Nd)(x12:Option U),m'=(g-c.1).toNat/\ρ''=[some (.m k),some (.p (.int bits)),some (.p (.lst ((L++L).map T.str))),some (.p (.int at')),some (.m (M.length+0)),some (.m (M.length+1)),some (.m (M.length+2)),some (.p (.str kind)),some (.p (.lst (fs.map ndT))),some (.p (.int c.1)),some (.p (.int c.2)),some (.p (.int g)),x12,x13]/\M''=MB M k o [.dK (xj [] (Z2 bits)), .lst ((ns2.map ndT).map U.p), .lst ((ms.map zj).map U.p)]/\BagO o/\c.1<=g/\WInv i n.1 c ns2 ms,λ_ _ h=>h, ?_⟩
    nofun;refine qR hkl B10 (by decide) (by decide) λsd o11 s0 s1 B11=>?_;nofun;refine⟨⟨by lia,by lia,by lia⟩, ?_⟩;nofun;refine⟨by rw[Ul,Ul]; exact qJ (by lia), ?_⟩;refine⟨⟨by lia,by lia,by lia⟩, ?_⟩;refine⟨(g-(c.1+1)).toNat,by lia,o11,xf c sd,ns2++[xf c (1-sd)],_,rfl,rfl, ?_,B11,by show c.1+1<=g; lia,WI.step (by lia) (by lia)⟩;rw[Ux,Ux];rfl
   ·have hce:c.1=g:=by lia
    nofun;have h2:=congrArg List.length LI.kinds;rw[Ul,U3] at h2;refine⟨by rw[Ul,Ul]; exact qJ (by lia), ?_⟩;refine⟨o10,ns2,ms++[(kind,c)],_,_,_,_,_,_,_,rfl, ?_,B10,WI.fin LI hki hce (by lia) (by lia) (by lia) (by lia)⟩;rw[Ux,Ux];rfl
 ·rintro ρ M' ⟨o,ns,ms,x7,x8,x9,x10,x11,x12,x13,rfl,rfl,B6,LI⟩
  have h5:((("sign" : Str)::rot L at').map T.str).length=5:=by simp[hrl]
  rw[h5] at LI;have hKp:(("sign" : Str)::rot L at').Perm zp:=(List.Perm.cons _ hrp).trans (by decide +kernel);have hR:=LI.right hKp ⟨hb0,hb1⟩;have hn5:=hR.n;nofun;refine qR hkl B6 (by decide) (by decide) λtu o7 t0 t1 B7=>?_;obtain⟨tn,rfl⟩:∃j:Nat,tu=(j:Int):=⟨tu.toNat,by lia⟩;nofun;refine slm_at (vE rfl) ?_;refine slm_at (vE rfl) ?_;rw[xC (by lia),xB (by lia)];nofun;have pm:ms.Perm (ms.drop tn++ms.take tn):=by
   have:=RE (l₁:=ms.take tn) (l₂:=ms.drop tn);rw[Dj] at this;exact this
  refine⟨by simp; exact UC (qJ (by lia)),zx B7.pur, ?_⟩;rw[zy, <-Ux];exact post o7 bits _ B7 (hR.of_perm pm)
def V6:List T->(T->Prop)->Prop:=λts Q=>∃(bits:Int)(ms:List Mk3)(kind:Str)(m:Mk3),ts=[layT bits ms, .str kind]/\ms.length<=900/\OfKind ms kind m/\Q (zj m)
def Qy:List T->(T->Prop)->Prop:=λts Q=>∃(bits:Int)(ms:List Mk3)(kind:Str)(m:Mk3),ts=[layT bits ms, .str kind]/\ms.length<=900/\OfKind ms kind m/\Q (.int (bits-m.2.1))
abbrev Vy:Stmt:=top 20
theorem YW:FnScope ["laying","kind"] ["laying","kind"] (ql Vy):=⟨rfl,rfl,rfl,by decide +kernel,rfl,by decide +kernel,by decide +kernel⟩
theorem K6:(["laying","kind","mark"]:List Str).Nodup:=by decide +kernel
theorem ZV(F:Fun Ξ "mark_for" "mark_for" Vy f fd):FnOk P w Ξ mg base CX0 1 f fd ["laying","kind"] (spP V6):=by
 refine F.zP YW (λts Qt h=>?_) (λcdv A outer s H E hr=>?_)
 ·obtain⟨_,_,_,_,rfl,_⟩:=h
  rfl
 refine⟨_,(qi (qy (qH (Uc Ξ) (QN [false,true] ["mark"] (vm (Ξ:=Ξ) rfl (qH (Ud Ξ) (qv 0) qe (λ_ _=>rfl))) (λ_ _ _=>(qU (i:=2) K6 rfl W3)) (λ_ _ _=>jo (qp vK (qH (Ud Ξ) (qv 2) qe (λ_ _=>rfl)) (qv 1) (qB _))) (λ_ _ _=>(qv 2))) qe (λ_ _=>rfl)))),_,(qC (qT (zu (vN (qQ (qd 0) Wh)) (zd 2) (qr (qk vi (qQ (qd 2) Wh) (qd 1))) (qd 2)) Wh)),λts Qt h=>?_⟩;obtain⟨bits,ms,kind,m,rfl,hl,⟨rest,hm⟩,q⟩:=h;nofun;refine zg (by rw[Ul]; exact UC (qJ (by lia))) (λi acc M'=>M'=[]/\acc=((ms.take i).filter λm=>decide (m.1=kind)).map zj) ⟨rfl,rfl⟩ ?_ ?_
 ·rintro i x acc M' hx _ ⟨rfl,rfl⟩
  obtain⟨n,hn,rfl⟩:=vJ hx;nofun;rw[qM hn,U8,Ux];refine ite2 (λhh=>?_) (λhh=>?_)<;>simp[hh]
 ·rintro acc M' ⟨rfl,rfl⟩
  rw[Ul,UF,hm];nofun;exact q
abbrev sMark:Stmt:=top 76
theorem scMark:FnScope ["laying","kind"] ["laying","kind"] (ql sMark):=⟨rfl,rfl,rfl,by decide +kernel,rfl,by decide +kernel,by decide +kernel⟩
theorem ndMark1:(["laying","kind","one"]:List Str).Nodup:=by decide +kernel
theorem ZW(F:Fun Ξ "_law_mark" "_law_mark" sMark f fd):FnOk P w Ξ mg base CX0 1 f fd ["laying","kind"] (spP V6):=by
 refine F.zP scMark (λts Qt h=>?_) (λcdv A outer s H E hr=>?_)
 ·obtain⟨_,_,_,_,rfl,_⟩:=h
  rfl
 refine⟨_,(qi (qy (qH (Uc Ξ) (QN [false,true] ["one"] (vm (Ξ:=Ξ) rfl (qH (Ud Ξ) (qv 0) qe (λ_ _=>rfl))) (λ_ _ _=>(qU (i:=2) ndMark1 rfl W3)) (λ_ _ _=>jo (qp vK (qH (Ud Ξ) (qv 2) qe (λ_ _=>rfl)) (qv 1) (qB _))) (λ_ _ _=>(qv 2))) qe (λ_ _=>rfl)))),_,(qC (qT (zu (vN (qQ (qd 0) Wh)) (zd 2) (qr (qk vi (qQ (qd 2) Wh) (qd 1))) (qd 2)) Wh)),λts Qt h=>?_⟩;obtain⟨bits,ms,kind,m,rfl,hl,⟨rest,hm⟩,q⟩:=h;nofun;refine zg (by rw[Ul]; exact UC (qJ (by lia))) (λi acc M'=>M'=[]/\acc=((ms.take i).filter λm=>decide (m.1=kind)).map zj) ⟨rfl,rfl⟩ ?_ ?_
 ·rintro i x acc M' hx _ ⟨rfl,rfl⟩
  obtain⟨n,hn,rfl⟩:=vJ hx;nofun;rw[qM hn,U8,Ux];refine ite2 (λhh=>?_) (λhh=>?_)<;>simp[hh]
 ·rintro acc M' ⟨rfl,rfl⟩
  rw[Ul,UF,hm];nofun;exact q
abbrev Qf:Stmt:=top 21
theorem KO:FnScope ["laying","kind"] ["laying","kind"] (ql Qf):=⟨rfl,rfl,rfl,by decide +kernel,rfl,by decide +kernel,by decide +kernel⟩
theorem VO(F:Fun Ξ "load_bits" "load_bits" Qf f fd)(DMarkFor:Def P w Ξ mg base "mark_for" 1 ["laying","kind"] (spP V6)):FnOk P w Ξ mg base CX0 2 f fd ["laying","kind"] (spP Qy):=by
 refine F.zP KO (λts Qt h=>?_) (λcdv A outer s H E hr=>?_)
 ·obtain⟨_,_,_,_,rfl,_⟩:=h
  rfl
 refine⟨_,(qi (qy (qt vh (qH (Ud Ξ) (qv 0) qe (λ_ _=>rfl)) (qH (Ud Ξ) (qu DMarkFor (Wf hr) (qa_c (qv 0) (qa_c (qv 1) qf))) qe (λ_ _=>rfl))))),_,(qC (qk (qo λ_ _=>.int _) (qQ (qd 0) Wh) (qQ (qA (qc (qd 0) (qc (qd 1) qh))) Wh))),λts Qt h=>?_⟩;obtain⟨bits,ms,kind,m,rfl,hl,hm,q⟩:=h;nofun;refine⟨bits,ms,kind,m,rfl,hl,hm, ?_⟩;nofun;exact q
abbrev sLoad:Stmt:=top 77
theorem scLoad:FnScope ["laying","kind"] ["laying","kind"] (ql sLoad):=⟨rfl,rfl,rfl,by decide +kernel,rfl,by decide +kernel,by decide +kernel⟩
theorem ZY(F:Fun Ξ "_law_load" "_law_load" sLoad f fd)(DMark:Def P w Ξ mg base "_law_mark" 1 ["laying","kind"] (spP V6)):FnOk P w Ξ mg base CX0 2 f fd ["laying","kind"] (spP Qy):=by
 refine F.zP scLoad (λts Qt h=>?_) (λcdv A outer s H E hr=>?_)
 ·obtain⟨_,_,_,_,rfl,_⟩:=h
  rfl
 refine⟨_,(qi (qy (qt vh (qH (Ud Ξ) (qv 0) qe (λ_ _=>rfl)) (qH (Ud Ξ) (qu DMark (Wf hr) (qa_c (qv 0) (qa_c (qv 1) qf))) qe (λ_ _=>rfl))))),_,(qC (qk (qo λ_ _=>.int _) (qQ (qd 0) Wh) (qQ (qA (qc (qd 0) (qc (qd 1) qh))) Wh))),λts Qt h=>?_⟩;obtain⟨bits,ms,kind,m,rfl,hl,hm,q⟩:=h;nofun;refine⟨bits,ms,kind,m,rfl,hl,hm, ?_⟩;nofun;exact q
abbrev Vz:Stmt:=top 16
theorem YX:FnScope ["marks","word"] ["marks","word"] (ql Vz):=⟨rfl,rfl,rfl,by decide +kernel,rfl,by decide +kernel,by decide +kernel⟩
theorem K7:(["marks","word","kind","width","pattern"]:List Str).Nodup:=by decide +kernel
def kQ:List T->(T->Prop)->Prop:=λts Q=>∃(ms:List Mk3)(word:Int),ts=[.lst (ms.map zj), .int word]/\Wd ms/\ms.length<=900/\Q (Zx ((ms.filter (on word)).map (·.1)))
theorem ZZ(F:Fun Ξ "kinds_on" "kinds_on" Vz f fd):FnOk P w Ξ mg base CX0 1 f fd ["marks","word"] (spP kQ):=by
 refine F.zP YX (λts Qt h=>?_) (λcdv A outer s H E hr=>?_)
 ·obtain⟨_,_,rfl,_⟩:=h
  rfl
 refine⟨_,(qi (qy (QN [false,true] ["kind","width","pattern"] (vm (Ξ:=Ξ) rfl (qv 0)) (λ_ _ _=>(xY (Ξ:=Ξ) (i:=2) (j:=3) (k:=4) rfl K7 rfl rfl rfl rfl W3 W3 W3 W6 W6 W6)) (λ_ _ _=>jo (qp vK (qt zz (qv 1) (qt vn qe (qv 3))) (qv 4) (qB _))) (λ_ _ _=>(qv 2))))),_,(qC (zu (vN (qd 0)) (Xh 2 3 4) (qr (qk vi (qk (vg λ_ _=>.int _) (qd 1) (qk (vg λ_ _=>.int _) Wh (qd 3))) (qd 4))) (qd 2))),λts Qt h=>?_⟩;obtain⟨ms,word,rfl,hw,hl,q⟩:=h;nofun;refine zg (by rw[Ul]; exact UC (qJ (by lia))) (λi acc M'=>M'=[]/\acc=(((ms.take i).filter (on word)).map (·.1)).map T.str) ⟨rfl,rfl⟩ ?_ ?_
 ·rintro i x acc M' hx _ ⟨rfl,rfl⟩
  obtain⟨m,hm,rfl⟩:=vJ hx;have hmw:=hw m (Um hm);nofun;refine⟨⟨by lia,by lia,by decide⟩, ?_, ?_⟩
  ·rw[UR]; exact vL _
  rw[qM hm,U8,Ux,Ux,UR];refine ite2 (λhh=>?_) (λhh=>?_)<;>simp[on,hh]
 ·rintro acc M' ⟨rfl,rfl⟩
  rw[Ul,UF];nofun;exact q
abbrev XN:Stmt:=top 19
theorem scMarkOf:FnScope ["laying","word","kinds"] ["laying","word"] (ql XN):=⟨rfl,rfl,rfl,by decide +kernel,rfl,by decide +kernel,by decide +kernel⟩
def j6(word:Int)(ms:List Mk3):T:=match ms.filter (on word) with
 | []=>.non
 |m::_=>.str m.1
def Qw:List T->(T->Prop)->Prop:=λts Q=>∃(bits:Int)(ms:List Mk3)(word:Int),ts=[layT bits ms, .int word]/\Wd ms/\ms.length<=900/\Q (j6 word ms)
theorem X7(F:Fun Ξ "mark_of" "mark_of" XN f fd)(DKindsOn:Def P w Ξ mg base "kinds_on" 1 ["marks","word"] (spP kQ)):FnOk P w Ξ mg base CX0 2 f fd ["laying","word"] (spP Qw):=by
 refine F.zP scMarkOf (λts Qt h=>?_) (λcdv A outer s H E hr=>?_)
 ·obtain⟨_,_,_,rfl,_⟩:=h
  rfl
 refine⟨_,(qg (qF (i:=2) scMarkOf.nd rfl W3 (qu DKindsOn (Wf hr) (qa_c (qH (Ud Ξ) (qv 0) qe (λ_ _=>rfl)) (qa_c (qv 1) qf))))
  (qi (qy (vF (Y8 (Ξ:=Ξ) rfl (qv 2) (λ_=>rfl)) (qH (Uc Ξ) (qv 2) qe (λ_ _=>rfl)) vC)))),_,(qj (qx (qA (qc (qQ (qd 0) Wh) (qc (qd 1) qh))) (qm 2))
   (qC (kG (ct_tru (qd 2)) (qT (qd 2) Wh) (ce_c .non)))),λts Qt h=>?_⟩
 obtain⟨bits,ms,word,rfl,hw,hl,q⟩:=h;nofun;refine⟨ms,word,rfl,hw,hl, ?_⟩;unfold j6 at q;unfold Zx;cases e:ms.filter (on word) with
 |nil =>
  rw[e] at q;simp only[uTru];nofun;refine⟨false,rfl, ?_⟩;nofun;exact q
 |cons m r =>
  rw[e] at q;simp only[uTru];nofun;refine⟨true,rfl, ?_⟩;nofun;exact q
abbrev XO:Stmt:=top 36
theorem scLoadOf:FnScope ["laying","word","kind"] ["laying","word","kind"] (ql XO):=⟨rfl,rfl,rfl,by decide +kernel,rfl,by decide +kernel,by decide +kernel⟩
def V7:List T->(T->Prop)->Prop:=λts Q=>∃(bits:Int)(ms:List Mk3)(word:Int)(kind:Str)(m:Mk3),ts=[layT bits ms, .int word, .str kind]/\ms.length<=900/\OfKind ms kind m/\0<=m.2.1/\Q (.int (word / 2^m.2.1.toNat))
theorem X8(F:Fun Ξ "load_of" "load_of" XO f fd)(DMarkFor:Def P w Ξ mg base "mark_for" 1 ["laying","kind"] (spP V6)):FnOk P w Ξ mg base CX0 2 f fd ["laying","word","kind"] (spP V7):=by
 refine F.zP scLoadOf (λts Qt h=>?_) (λcdv A outer s H E hr=>?_)
 ·obtain⟨_,_,_,_,_,rfl,_⟩:=h
  rfl
 refine⟨_,(qi (qy (qt op_shr (qv 1) (qH (Ud Ξ) (qu DMarkFor (Wf hr) (qa_c (qv 0) (qa_c (qv 2) qf))) qe (λ_ _=>rfl))))),_,(qC (qk (vg λ_ _=>.int _) (qd 1) (qQ (qA (qc (qd 0) (qc (qd 2) qh))) Wh))),λts Qt h=>?_⟩;obtain⟨bits,ms,word,kind,m,rfl,hl,hm,h0,q⟩:=h;nofun;refine⟨bits,ms,kind,m,rfl,hl,hm, ?_⟩;nofun;exact⟨h0,q⟩
abbrev XM:Stmt:=top 37
theorem scMarked:FnScope ["laying","kind","load","mark"] ["laying","kind","load"] (ql XM):=⟨rfl,rfl,rfl,by decide +kernel,rfl,by decide +kernel,by decide +kernel⟩
def Jp:List T->(T->Prop)->Prop:=λts Q=>∃(bits:Int)(ms:List Mk3)(kind:Str)(load:Int)(m:Mk3),ts=[layT bits ms, .str kind, .int load]/\ms.length<=900/\OfKind ms kind m/\0<=m.2.1/\m.2.1<=1000/\load.natAbs<2^64/\Q (.int (load*2^m.2.1.toNat+m.2.2))
theorem KY(F:Fun Ξ "marked" "marked" XM f fd)(DMarkFor:Def P w Ξ mg base "mark_for" 1 ["laying","kind"] (spP V6)):FnOk P w Ξ mg base CX0 2 f fd ["laying","kind","load"] (spP Jp):=by
 refine F.zP scMarked (λts Qt h=>?_) (λcdv A outer s H E hr=>?_)
 ·obtain⟨_,_,_,_,_,rfl,_⟩:=h
  rfl
 refine⟨_,(qg (qF (i:=3) scMarked.nd rfl W3 (qu DMarkFor (Wf hr) (qa_c (qv 0) (qa_c (qv 1) qf))))
  (qi (qy (qt qP (qt vn (qv 2) (qH (Ud Ξ) (qv 3) qe (λ_ _=>rfl))) (qH (Ud Ξ) (qv 3) qe (λ_ _=>rfl)))))),_,(qj (qx (qA (qc (qd 0) (qc (qd 1) qh))) (qm 3))
   (qC (qk (qo λ_ _=>.int _) (qk (vg λ_ _=>.int _) (qd 2) (qQ (qd 3) Wh)) (qQ (qd 3) Wh)))),λts Qt h=>?_⟩
 obtain⟨bits,ms,kind,load,m,rfl,hl,hm,h0,h1,h2,q⟩:=h;nofun;refine⟨bits,ms,kind,m,rfl,hl,hm, ?_⟩;nofun;refine⟨⟨h0,by lia,h2⟩, ?_⟩;nofun;exact q
abbrev Vw:Stmt:=top 38
theorem YV:FnScope ["bits","load"] ["bits","load"] (ql Vw):=⟨rfl,rfl,rfl,by decide +kernel,rfl,by decide +kernel,by decide +kernel⟩
def Vr(s load:Int):Int:=if 2^(s-1).toNat<=load then load-2^s.toNat else load
def V2:List T->(T->Prop)->Prop:=λts Q=>∃(s load:Int),ts=[.int s, .int load]/\1<=s/\s<=1000/\Q (.int (Vr s load))
theorem ZU(F:Fun Ξ "small_of" "small_of" Vw f fd):FnOk P w Ξ mg base CX0 1 f fd ["bits","load"] (spP V2):=by
 refine F.zP YV (λts Qt h=>?_) (λcdv A outer s H E hr=>?_)
 ·obtain⟨_,_,rfl,_⟩:=h
  rfl
 refine⟨_,(qi (qy (vF (qp ZN (qv 1) (qt vn qe (qt vh (qv 0) qe)) (qB _)) (qt vh (qv 1) (qt vn qe (qv 0))) (qv 1)))),_,(qC (kG (qr (qk (qo λ_ _=>.bl _) (qd 1) (qk (vg λ_ _=>.int _) Wh (qk (qo λ_ _=>.int _) (qd 0) Wh)))) (qk (qo λ_ _=>.int _) (qd 1) (qk (vg λ_ _=>.int _) Wh (qd 0))) (qd 1))),λts Qt h=>?_⟩;obtain⟨sb,load,rfl,h0,h1,q⟩:=h;nofun;unfold Vr at q;refine⟨⟨by lia,by lia,by decide⟩, ?_⟩;rw[UR];refine ite2 (λhh=>?_) (λhh=>?_)
 ·rw[if_pos hh] at q
  refine⟨⟨by lia,by lia,by decide⟩, ?_⟩;rw[UR];exact q
 ·rw[if_neg hh] at q
  exact q
theorem Z1:∀{ms:List Mk3}{m m':Mk3},(ms.map (·.1)).Nodup->m∈ms->m'∈ms->m.1=m'.1->m=m'
 | [],_,_,_,h,_,_=>nomatch h
 |x::ms,m,m',hn,h,h',e=>by
  obtain⟨n1,n2⟩:=DN.mp (show(x.1::ms.map (·.1)).Nodup from hn);rcases Uw.mp h with z|h
  ·rcases Uw.mp h' with z'|h'
   ·rw[z,z']
   ·exact absurd (U7.mpr ⟨m',h',by rw[<-e,z]⟩) n1
  ·rcases Uw.mp h' with z'|h'
   ·exact absurd (U7.mpr ⟨m,h,by rw[e,z']⟩) n1
   ·exact Z1 n2 h h' e
theorem Right.ofKind(r:Right bits ms)(hm:m∈ms):OfKind ms m.1 m:=by
 have hk:m.1∈zp:=r.k.mem_iff.mp (U7.mpr ⟨m,hm,rfl⟩);obtain⟨m',h'⟩:=r.kind hk;have nd:(ms.map (·.1)).Nodup:=r.k.nodup_iff.mpr (by decide);have:m'=m:=Z1 nd h'.mem hm h'.is;rw[<-this] at h' ⊢;exact h'
def three3:List Str:=["none","no","yes"]
theorem XB{j:Nat}(h:three3[j]?=some t):∀m,m<j->three3[m]?≠some t:=by
 have hj:j<3:=(Uj.mp h).1;intro m hm;rcases(show j=1\/j=2 by lia) with rfl|rfl
 ·have:m=0:=by lia
  subst this;simp[three3] at h ⊢;subst h; decide
 ·simp[three3] at h
  subst h;rcases(show m=0\/m=1 by lia) with rfl|rfl<;>simp[three3]<;>decide
def wordOf(bits:Int)(m:Mk3)(load:Int):Int:=load % 2^(bits-m.2.1).toNat*2^m.2.1.toNat+m.2.2
abbrev Vu:Stmt:=top 39
theorem scWorthOf:FnScope ["laying","word","kind","load"] ["laying","word"] (ql Vu):=⟨rfl,rfl,rfl,by decide +kernel,rfl,by decide +kernel,by decide +kernel⟩
def Zp(bits:Int)(m:Mk3)(load:Int):T:=if m.1 = "small" then .int (Vr (bits-m.2.1) load) else if m.1 = "one" then(if load<3 then .str (three3.getD load.toNat "none") else .non) else if m.1 = "sign" /\ 128<=load then .non else .tup [.str m.1, .int load]
def zQ(bits:Int)(ms:List Mk3)(word:Int):T:=match ms.filter (on word) with
 | []=>.non
 |m::_=>Zp bits m (word / 2^m.2.1.toNat)
def VW:List T->(T->Prop)->Prop:=λts Q=>∃(bits:Int)(ms:List Mk3)(word:Int),ts=[layT bits ms, .int word]/\Right bits ms/\0<=word/\Q (zQ bits ms word)
theorem ZQ(F:Fun Ξ "worth_of" "worth_of" Vu f fd)(N:Nms mg)(T3:Tup3 Ξ mg "THREE" three "none" "no" "yes")(GSigns:GInt mg "SIGNS" 128)(DMarkOf:Def P w Ξ mg base "mark_of" 2 ["laying","word"] (spP Qw))(DLoadOf:Def P w Ξ mg base "load_of" 2 ["laying","word","kind"] (spP V7))(DSmallOf:Def P w Ξ mg base "small_of" 1 ["bits","load"] (spP V2))(DLoadBits:Def P w Ξ mg base "load_bits" 2 ["laying","kind"] (spP Qy)):FnOk P w Ξ mg base CX0 3 f fd ["laying","word"] (spP VW):=by
 refine F.zP scWorthOf (λts Qt h=>?_) (λcdv A outer s H E hr=>?_)
 ·obtain⟨_,_,_,rfl,_⟩:=h
  rfl
 refine⟨_,(qg (qF (i:=2) scWorthOf.nd rfl W3 (qu DMarkOf (Wf hr) (qa_c (qv 0) (qa_c (qv 1) qf))))
  (qg (qX (qp Q5 (qv 2) vC (qB _))
   (qi (qy vC))
   qI)
  (qg (qF (i:=3) scWorthOf.nd rfl W3 (qu DLoadOf (Wf hr) (qa_c (qv 0) (qa_c (qv 1) (qa_c (qv 2) qf)))))
  (qg (qX (qp vK (qv 2) qE (qB _))
   (qi (qy (qu DSmallOf (Wf hr) (qa_c (qu DLoadBits (Wf hr) (qa_c (qv 0) (qa_c (qv 2) qf))) (qa_c (qv 3) qf)))))
   qI)
  (qg (qX (qp vK (qv 2) qE (qB _))
   (qi (qy (vF (qp zF (qv 3) (qG (Ue Ξ) (by rfl) N.len ze (qa_c (Qi (v:=.ref three) rfl T3.mg rfl) qf)) (qB _)) (qH (Ud Ξ) (Qi (v:=.ref three) rfl T3.mg rfl) (qv 3) (λ_ _=>rfl)) vC)))
   qI)
  (qg (qX (xc (jB (qp vK (qv 2) qE (qB _)) (xw (qp ZN (qv 3) (vQ GSigns rfl) (qB _)))))
   (qi (qy vC))
   qI)
  (qi (qy (qN (qa_c (qv 2) (qa_c (qv 3) qf))))))))))),_,(qj (qx (qA (qc (qd 0) (qc (qd 1) qh))) (qm 2))
   (qj (ve (qr (Vg (qd 2)))
   (qC (ce_c .non))
   qL)
   (qj (qx (qA (qc (qd 0) (qc (qd 1) (qc (qd 2) qh)))) (qm 3))
   (qj (ve (qr (qk vi (qd 2) Wk))
   (qC (qA (qc (qA (qc (qd 0) (qc (qd 2) qh))) (qc (qd 3) qh))))
   qL)
   (qj (ve (qr (qk vi (qd 2) Wk))
   (qC (kG (qr (qk (qo λ_ _=>.bl _) (qd 3) (GY T3.kt))) (ce_ixK T3.kt (YT [_,_,_]) (qd 3)) (ce_c .non)))
   qL)
   (qj (ve (kq (qr (qk vi (qd 2) Wk)) (qr (qk (qo λ_ _=>.bl _) (qd 3) Wh)))
   (qC (ce_c .non))
   qL)
   (qC (qO (qc (qd 2) (qc (qd 3) qh)))))))))),λts Qt h=>?_⟩
 obtain⟨bits,ms,word,rfl,hR,hw0,q⟩:=h;have hb1:=hR.b;have hn5:=hR.n;nofun;refine⟨bits,ms,word,rfl,hR.wd,by lia, ?_⟩;unfold zQ at q;unfold j6;cases e:ms.filter (on word) with
 |nil =>
  rw[e] at q;nofun;exact q
 |cons m r =>
  rw[e] at q;have hmem:m∈ms:=(UP.mp (by rw[e]; exact UZ)).1;have hmk:=hR.ofKind hmem;have hmw:=hR.w m hmem;have hnd:=vR m.1;simp only at q;generalize hld:word / 2^m.2.1.toNat=load at q;have hl0:0<=load:=by rw[<-hld]; exact DR hw0 (RH (vL _))
  unfold Zp at q;nofun;refine⟨bits,ms,word,m.1,m,rfl,by lia,hmk,by lia, ?_⟩;rw[hld];nofun;refine ite2 (λh1=>?_) (λh1=>?_)
  ·rw[if_pos h1] at q
   refine⟨bits,ms,m.1,m,rfl,by lia,hmk, ?_⟩;nofun;refine⟨bits-m.2.1,load,rfl,by lia,by lia, ?_⟩;nofun;exact q
  rw[if_neg h1] at q;refine ite2 (λh2=>?_) (λh2=>?_)
  ·rw[if_pos h2] at q
   refine ite2 (λh3=>?_) (λh3=>?_)
   ·rw[if_pos (show load<3 by lia)] at q
    rcases(show load=0\/load=1\/load=2 by lia) with rfl|rfl|rfl
    ·exact⟨_,rfl,q⟩
    ·exact⟨_,rfl,q⟩
    ·exact⟨_,rfl,q⟩
   ·rw[if_neg (show ¬load<3 by lia)] at q
    exact q
  rw[if_neg h2] at q;refine ite2 (λh3=>?_) (λh3=>?_)
  ·refine ite2 (λh4=>?_) (λh4=>?_)
   ·rw[if_pos ⟨h3,h4⟩] at q
    exact q
   ·rw[if_neg (λz=>h4 z.2)] at q
    nofun;exact q
  ·rw[if_neg (λz=>h3 z.1)] at q
   nofun;exact q
abbrev XF:Stmt:=top 40
theorem scWordOf:FnScope ["laying","worth"] ["laying","worth"] (ql XF):=⟨rfl,rfl,rfl,by decide +kernel,rfl,by decide +kernel,by decide +kernel⟩
inductive WorthT:T->Str->Int->Prop
 |int (n:Int):WorthT (.int n) "small" n
 |one {t:Str} {j:Nat} (h:three3[j]?=some t):WorthT (.str t) "one" j
 |tup {kind:Str} (load:Int):WorthT (.tup [.str kind, .int load]) kind load
def Jk:List T->(T->Prop)->Prop:=λts Q=>∃(bits:Int)(ms:List Mk3)(t:T)(kind:Str)(load:Int)(m:Mk3),ts=[layT bits ms,t]/\ms.length<=900/\WorthT t kind load/\OfKind ms kind m/\0<=m.2.1/\0<=bits-m.2.1/\bits<=60/\((∃n,t=.int n)\/(0<=load/\load<2^(bits-m.2.1).toNat))/\Q (.int (wordOf bits m load))
theorem pow60{s:Int}(h:s<=60):(2:Int)^s.toNat<=2^60:=by
 have:(2:Nat)^s.toNat<=2^60:=Dl (by decide) (by lia);exact_mod_cast this
theorem X6(F:Fun Ξ "word_of" "word_of" XF f fd)(N:Nms mg)(T3:Tup3 Ξ mg "THREE" three "none" "no" "yes")(DMarked:Def P w Ξ mg base "marked" 2 ["laying","kind","load"] (spP Jp))(DLoadBits:Def P w Ξ mg base "load_bits" 2 ["laying","kind"] (spP Qy)):FnOk P w Ξ mg base CX0 3 f fd ["laying","worth"] (spP Jk):=by
 refine F.zP scWordOf (λts Qt h=>?_) (λcdv A outer s H E hr=>?_)
 ·obtain⟨_,_,_,_,_,_,rfl,_⟩:=h
  rfl
 refine⟨_,(qg (qX (zE (qG (Uf Ξ) (by rfl) N.isinstance va (qa_c (qv 1) (qa_c (vW (v:=.ty "int") (by rfl) N.int G9 rfl) qf))))
   (qi (qy (qu DMarked (Wf hr) (qa_c (qv 0) (qa_c qE (qa_c (qt zz (qv 1) (qt vn qe (qu DLoadBits (Wf hr) (qa_c (qv 0) (qa_c qE qf))))) qf))))))
   qI)
  (qg (qX (zE (qG (Uf Ξ) (by rfl) N.isinstance va (qa_c (qv 1) (qa_c (vW (v:=.ty "str") (by rfl) N.str b_str rfl) qf))))
   (qi (qy (qu DMarked (Wf hr) (qa_c (qv 0) (qa_c qE (qa_c (qe_bm PySem.F.plainAttrs_tuple PySem.F.slot_tuple_index PySem.F.type_tuple_index (WS (Ξ:=Ξ) rfl T3) (Qi (v:=.ref three) rfl T3.mg rfl) (qa_c (qv 1) qf)) qf))))))
   qI)
  (qi (qy (qu DMarked (Wf hr) (qa_c (qv 0) (qa_c (qH (Ud Ξ) (qv 1) qe (λ_ _=>rfl)) (qa_c (qH (Ud Ξ) (qv 1) qe (λ_ _=>rfl)) qf)))))))),_,(qj (ve (ct_b (GZ .int (qd 1)))
   (qC (qA (qc (qd 0) (qc Wk (qc (qk (vg λ_ _=>.int _) (qd 1) (qk (vg λ_ _=>.int _) Wh (qA (qc (qd 0) (qc Wk qh))))) qh)))))
   qL)
   (qj (ve (ct_b (GZ .str (qd 1)))
   (qC (qA (qc (qd 0) (qc Wk (qc (ce_idxK T3 (qc (qd 1) qh)) qh)))))
   qL)
   (qC (qA (qc (qd 0) (qc (qQ (qd 1) Wh) (qc (qQ (qd 1) Wh) qh))))))),λts Qt h=>?_⟩
 obtain⟨bits,ms,t,kind,load,m,rfl,hl,hwt,hm,h0,h1,h60,hb,q⟩:=h;have hp:=vL (bits-m.2.1).toNat;have hp60:=pow60 (s:=bits-m.2.1) (by lia);unfold wordOf at q;cases hwt with
 |int n =>
  have hlt:=U2 load hp;have hnn:=Da load (R9 hp);nofun;refine⟨bits,ms,"small", m,rfl,hl,hm, ?_⟩;nofun;refine⟨⟨h1,by lia,by decide⟩,by rw[UR]; exact hp, ?_⟩;rw[UR];refine⟨bits,ms,"small", _,m,rfl,hl,hm,h0,by lia,by lia, ?_⟩;nofun;exact q
 | @one t j hj =>
  have hj3:j<3:=(Uj.mp hj).1;obtain⟨g0,g1⟩:0<=(j:Int)/\(j:Int)<2^(bits-m.2.1).toNat:=hb.resolve_left λ⟨_,z⟩=>by cases z
  nofun;refine⟨t,j,rfl,hj,XB hj, ?_⟩;nofun;refine⟨bits,ms,"one", _,m,rfl,hl,hm,h0,by lia,by lia, ?_⟩;rw[Dn g0 g1] at q;nofun;exact q
 |tup load =>
  obtain⟨g0,g1⟩:0<=load/\load<2^(bits-m.2.1).toNat:=hb.resolve_left λ⟨_,z⟩=>by cases z
  nofun;refine⟨bits,ms,kind,load,m,rfl,hl,hm,h0,by lia,by lia, ?_⟩;rw[Dn g0 g1] at q;nofun;exact q
def kj(s n:Int):Bool:=decide (-(2^(s-1).toNat)<=n/\n<2^(s-1).toNat)
abbrev VA:Stmt:=top 41
theorem scIsSmall:FnScope ["laying","n","half"] ["laying","n"] (ql VA):=⟨rfl,rfl,rfl,by decide +kernel,rfl,by decide +kernel,by decide +kernel⟩
def V8:List T->(T->Prop)->Prop:=λts Q=>∃(bits:Int)(ms:List Mk3)(n:Int)(m:Mk3),ts=[layT bits ms, .int n]/\ms.length<=900/\OfKind ms "small" m/\1<=bits-m.2.1/\bits-m.2.1<=60/\Q (.bl (kj (bits-m.2.1) n))
theorem Z0(F:Fun Ξ "is_small" "is_small" VA f fd)(DLoadBits:Def P w Ξ mg base "load_bits" 2 ["laying","kind"] (spP Qy)):FnOk P w Ξ mg base CX0 3 f fd ["laying","n"] (spP V8):=by
 refine F.zP scIsSmall (λts Qt h=>?_) (λcdv A outer s H E hr=>?_)
 ·obtain⟨_,_,_,_,rfl,_⟩:=h
  rfl
 refine⟨_,(qg (qF (i:=2) scIsSmall.nd rfl W3 (qt vn qe (qt vh (qu DLoadBits (Wf hr) (qa_c (qv 0) (qa_c qE qf))) qe)))
  (qi (qy (kP j4 zF (QM xT (qv 2)) (qv 1) (qv 2))))),_,(qj (qx (qk (vg λ_ _=>.int _) Wh (qk (qo λ_ _=>.int _) (qA (qc (qd 0) (qc Wk qh))) Wh)) (qm 2))
   (qC (xg (qo λ_ _=>.bl _) (qo λ_ _=>.bl _) (ja (qd 2)) (qd 1) (qd 2)))),λts Qt h=>?_⟩
 obtain⟨bits,ms,n,m,rfl,hl,hm,s0,s1,q⟩:=h;nofun;refine⟨bits,ms,"small", m,rfl,hl,hm, ?_⟩;nofun;refine⟨⟨by lia,by lia,by decide⟩, ?_⟩;rw[UR];unfold kj at q;generalize(2:Int)^(bits-m.2.1-1).toNat=half at q ⊢;by_cases h1 : -half<=n
 ·rw[if_pos h1]
  simpa only[h1,true_and] using q
 ·rw[if_neg h1]
  simpa only[h1,false_and,decide_false] using q
structure Tup5(Ξ:PySem.W.Frag)(mg:Str->Option Value)(nm:Str)(p:Addr)(x y z v r:Str):Prop where
 mg:mg nm=some (.ref p)
 ex:∃(t u t' u' t2:Tok)(n:Nat)(sl:Array (Option Value)),Ξ.lookup p=some ⟨.type "tuple", none, .seq #[.str x t, .str y u, .str z t', .str v u', .str r t2] n,sl⟩
theorem Tup5.kt(T5:Tup5 Ξ mg nm p x y z v r):KTu Ξ p [.str x, .str y, .str z, .str v, .str r]:=λH=>by
 obtain⟨t,u,t',u',t2,n,sl,e⟩:=T5.ex;exact .inr ⟨_,_,n,e,rfl,rfl,by show 5<=sizeLine; decide, .cons ⟨t,rfl⟩ (.cons ⟨u,rfl⟩ (.cons ⟨t',rfl⟩ (.cons ⟨u',rfl⟩ (.cons ⟨t2,rfl⟩ .nil))))⟩
def W5:List (Str×V):=[("small", .int 2),("far", .int 3),("pair", .int 3),("sign", .int 7),("one", .int 2)]
def leastT:List (Str×T):=[("small", .int 2),("far", .int 3),("pair", .int 3),("sign", .int 7),("one", .int 2)]
theorem least_sc:Paired (λ(a:Str×V) (b:Str×T)=>a.1=b.1/\Sc a.2 b.2) W5 leastT:=.cons ⟨rfl, .int _⟩ (.cons ⟨rfl, .int _⟩ (.cons ⟨rfl, .int _⟩ (.cons ⟨rfl, .int _⟩ (.cons ⟨rfl, .int _⟩ .nil))))
theorem Yi(h:k∈zp):leastT.lookup k=some (.int (need k)):=by
 simp only[zp,Uw,Df,or_false] at h;rcases h with h|h|h|h|h<;>rw[h]<;>rfl
abbrev XS:Stmt:=top 11
theorem scBitsGo:FnScope ["bits"] ["bits"] (ql XS):=⟨rfl,rfl,rfl,by decide +kernel,rfl,by decide +kernel,by decide +kernel⟩
def Ju:List T->(T->Prop)->Prop:=λts Q=>∃bits:Int,ts=[.int bits]/\Q (.bl (decide (8<=bits)&&decide (bits<=32)))
theorem WH(F:Fun Ξ "bits_go" "bits_go" XS f fd)(GFew:GInt mg "FEWEST_BITS" 8)(GMost:GInt mg "MOST_BITS" 32):FnOk P w Ξ mg base CX0 1 f fd ["bits"] (spP Ju):=by
 refine F.zP scBitsGo (λts Qt h=>?_) (λcdv A outer s H E hr=>?_)
 ·obtain⟨_,rfl,_⟩:=h
  rfl
 refine⟨_,(qi (qy (kP j4 j4 (vQ GFew rfl) (qv 0) (vQ GMost rfl)))),_,(qC (xg (qo λ_ _=>.bl _) (qo λ_ _=>.bl _) Wh (qd 0) Wh)),λts Qt h=>?_⟩;obtain⟨bits,rfl,q⟩:=h;symm;refine ite2 (λh=>?_) (λh=>?_)<;>simpa[h] using q
abbrev jT:Stmt:=top 12
theorem XC:FnScope ["bits","width"] ["bits","width"] (ql jT):=⟨rfl,rfl,rfl,by decide +kernel,rfl,by decide +kernel,by decide +kernel⟩
def j8:List T->(T->Prop)->Prop:=λts Q=>∃bits width:Int,ts=[.int bits, .int width]/\Q (.bl (decide (1<=width)&&decide (width<=bits-1)))
theorem ZR(F:Fun Ξ "width_goes" "width_goes" jT f fd):FnOk P w Ξ mg base CX0 1 f fd ["bits","width"] (spP j8):=by
 refine F.zP XC (λts Qt h=>?_) (λcdv A outer s H E hr=>?_)
 ·obtain⟨_,_,rfl,_⟩:=h
  rfl
 refine⟨_,(qi (qy (kP j4 j4 qe (qv 1) (qt vh (qv 0) qe)))),_,(qC (xg (qo λ_ _=>.bl _) (qo λ_ _=>.bl _) Wh (qd 1) (qk (qo λ_ _=>.int _) (qd 0) Wh))),λts Qt h=>?_⟩;obtain⟨bits,width,rfl,q⟩:=h;symm;refine ite2 (λh=>?_) (λh=>?_)<;>simpa[h] using q
abbrev Qe:Stmt:=top 13
theorem KN:FnScope ["bits","kind","width"] ["bits","kind","width"] (ql Qe):=⟨rfl,rfl,rfl,by decide +kernel,rfl,by decide +kernel,by decide +kernel⟩
def Qx:List T->(T->Prop)->Prop:=λts Q=>∃(bits:Int)(kind:Str)(width:Int),ts=[.int bits, .str kind, .int width]/\kind∈zp/\Q (.bl (decide (need kind<=bits-width)))
theorem X9{f ld:Addr}(F:Fun Ξ "load_goes" "load_goes" Qe f fd)(DLeast:KDi Ξ w mg "LEAST_LOAD_BITS" ld W5):FnOk P w Ξ mg base CX0 1 f fd ["bits","kind","width"] (spP Qx):=by
 refine F.zP KN (λts Qt h=>?_) (λcdv A outer s H E hr=>?_)
 ·obtain⟨_,_,_,rfl,_⟩:=h
  rfl
 refine⟨_,(qi (qy (zM ZN (qt vh (qv 0) (qv 2)) (qe_kd DLeast rfl (qv 1) (λ_ _=>rfl)) (qB _)))),_,(qC (qk (qo λ_ _=>.bl _) (qk (qo λ_ _=>.int _) (qd 0) (qd 2)) (ce_kd least_sc (qd 1)))),λts Qt h=>?_⟩;obtain⟨bits,kind,width,rfl,hk,q⟩:=h;symm;unfold uKD;symm;refine⟨_,_,rfl,Yi hk, ?_⟩;symm;exact q
def mkOk(bits:Int)(m:Mk3):Bool:=(decide (1<=m.2.1)&&decide (m.2.1<=bits-1))&&(decide (0<=m.2.2)&&decide (m.2.2<2^m.2.1.toNat))
abbrev Vx:Stmt:=top 14
theorem scMarksGo:FnScope ["bits","marks","kind","width","pattern"] ["bits","marks"] (ql Vx):=⟨rfl,rfl,rfl,by decide +kernel,rfl,by decide +kernel,by decide +kernel⟩
def V4:List T->(T->Prop)->Prop:=λts Q=>∃(bits:Int)(ms:List Mk3),ts=[.int bits, .lst (ms.map zj)]/\bits<=32/\Q (.bl (ms.all (mkOk bits)))
theorem KU(F:Fun Ξ "marks_go" "marks_go" Vx f fd)(DWidthGoes:Def P w Ξ mg base "width_goes" 1 ["bits","width"] (spP j8)):FnOk P w Ξ mg base CX0 2 f fd ["bits","marks"] (spP V4):=by
 refine F.zP scMarksGo (λts Qt h=>?_) (λcdv A outer s H E hr=>?_)
 ·obtain⟨_,_,rfl,_⟩:=h
  rfl
 refine⟨_,(qg (vX PassesOwn.never rfl (vm (Ξ:=Ξ) rfl (qv 1)) (xY (Ξ:=Ξ) (i:=2) (j:=3) (k:=4) rfl scMarksGo.nd rfl rfl rfl rfl W3 W3 W3 W3 W3 W3)
   (qi (qX (xc (xR (xi (zE (qu DWidthGoes (Wf hr) (qa_c (qv 0) (qa_c (qv 3) qf))))) (xu (xi (VM j4 zF qe (qv 4) (qt vn qe (qv 3)))))))
    (qi (qy jY))
    qI)))
  (qi (qy jY))),_,(qj (zc (vN (qd 1)) (zL 2 3 4)
   (ve (jO (xD (ct_b (qA (qc (qd 0) (qc (qd 3) qh))))) (xD (qr (xg (qo λ_ _=>.bl _) (qo λ_ _=>.bl _) Wh (qd 4) (qk (vg λ_ _=>.int _) Wh (qd 3))))))
   (qC (ce_c (.bl _)))
   qL))
   (qC (ce_c (.bl _)))),λts Qt h=>?_⟩
 obtain⟨bits,ms,rfl,hb,q⟩:=h;symm;refine v6 (λi ρ M=>(∃x y z,ρ=[some (.p (.int bits)),some (.p (.lst (ms.map zj))),x,y,z])/\M=[]/\(ms.take i).all (mkOk bits)=true) ⟨⟨none,none,none,rfl⟩,rfl,rfl⟩ ?_ ?_
 ·rintro i x ρ M hx ⟨⟨x1,x2,x3,rfl⟩,rfl,hall⟩
  obtain⟨m,hm,rfl⟩:=vJ hx;symm;refine⟨bits,m.2.1,rfl,_,rfl, ?_⟩;have bad:mkOk bits m=false->Qt (.bl false):=λh=>by
   have:ms.all (mkOk bits)=false:=List.all_eq_false.mpr ⟨m,Um hm,by simp[h]⟩;rw[this] at q;exact q
  have good:mkOk bits m=true->(List.take (i+1) ms).all (mkOk bits)=true:=λh=>by
   rw[qM hm,List.all_append,hall];simp[h]
  refine ite2 (λh=>?_) (λh=>?_)
  ·refine bad ?_
   unfold mkOk;rw[show(decide (1<=m.2.1)&&decide (m.2.1<=bits-1))=false by rw[Dg] at h; exact h];rfl
  have h1:(decide (1<=m.2.1)&&decide (m.2.1<=bits-1))=true:=by simpa using h
  have h1':1<=m.2.1/\m.2.1<=bits-1:=by simpa using h1
  refine ite2 (λh2=>⟨⟨by lia,by lia,by decide⟩,ite2 (λh3=>?_) (λh3=>?_)⟩) (λh2=>?_)
  ·refine bad ?_
   have:¬m.2.2<2^m.2.1.toNat:=by simpa using h3
   simp[mkOk,this]
  ·have h3:m.2.2<2^m.2.1.toNat:=by simpa using h3
   exact⟨⟨_,_,_,rfl⟩,good (by simp[mkOk,h1'.1,h1'.2,h2,h3])⟩
  ·refine bad ?_
   simp[mkOk,h2]
 ·rintro ρ M ⟨⟨x1,x2,x3,rfl⟩,rfl,hall⟩
  rw[Ul,UF] at hall;rw[hall] at q;symm;exact q
def QU(bits:Int)(ms:List Mk3):Bool:=(decide (8<=bits)&&decide (bits<=32))&&(decide (ms.length=5)&&((ms.map (·.1)).isPerm zp&&ms.all (mkOk bits)))
theorem jd:∀{l:List Str}{a:Str},sortedS (a::l)=true->(∀b∈l,a.cps.toList<=b.cps.toList)/\sortedS l=true
 | [],_,_=>⟨λb h=>(by cases h),rfl⟩
 |b::l,a,h=>by
  have h:(!PySem.Spec.ltCps b.cps.toList a.cps.toList&&sortedS (b::l))=true:=h;rw[De] at h;have hb:a.cps.toList<=b.cps.toList:=by
   have:=h.1;rw[ltCps_eq] at this;have h3:¬b.cps.toList<a.cps.toList:=by simpa using this
   exact h3
  obtain⟨i1,i2⟩:=jd h.2;refine⟨λc hc=>?_,h.2⟩;rcases Uw.mp hc with rfl|hc
  ·exact hb
  ·exact List.le_trans hb (i1 c hc)
theorem jR:∀{l:List Str},sortedS l=true->l.Pairwise λa b=>a.cps.toList<=b.cps.toList
 | [],_=>.nil
 |a::l,h=>.cons (jd h).1 (jR (jd h).2)
theorem k9(h:sortedS l=true)(h':sortedS l'=true)(p:l.Perm l'):l=l':=by
 refine List.Perm.eq_of_pairwise (λa b _ _ h1 h2=>?_) (jR h) (jR h') p;have:=List.le_antisymm h1 h2;cases a with|mk a=>cases b with|mk b=>rw[show a=b from Array.toList_inj.mp this]
theorem eqStrs{ns ms:List Str}(q:Q (.bl (if neg then !decide (ns=ms) else decide (ns=ms)))):sEqL neg (.lst (ns.map T.str)) (.lst (ms.map T.str)) Q:=by
 refine⟨_,_,rfl,rfl, ?_⟩;simp only[Ul];by_cases hl:ns.length=ms.length
 ·refine .inr ⟨hl,λj=>ns[j]?==ms[j]?,λj x y hx hy=>?_,by rw[qag hl]; exact q⟩
  rw[UU] at hx hy;cases e1:ns[j]? with
  |none=>rw[e1] at hx; cases hx
  |some i =>
   cases e2:ms[j]? with
   |none=>rw[e2] at hy; cases hy
   |some k =>
    rw[e1] at hx; rw[e2] at hy;cases hx; cases hy;have:=EqT.flat (n:=20) (a:=.str i) (b:=.str k) rfl rfl;have e3:eqV (.str i) (.str k)=(ns[j]?==ms[j]?):=by
     rw[e1,e2];by_cases h:i=k
     ·subst h; simp[eqV]
     ·simp[eqV,h]
    rw[e3] at this;exact this
 ·refine .inl ⟨hl, ?_⟩
  have:decide (ns=ms)=false:=decide_eq_false λz=>hl (by rw[z]);rw[this] at q;cases neg<;>simpa using q
abbrev VC:Stmt:=top 15
theorem scHasForm:FnScope ["laying","bits","marks"] ["laying"] (ql VC):=⟨rfl,rfl,rfl,by decide +kernel,rfl,by decide +kernel,by decide +kernel⟩
theorem K8:(["laying","bits","marks","mark"]:List Str).Nodup:=by decide +kernel
def Za:List T->(T->Prop)->Prop:=λts Q=>∃(bits:Int)(ms:List Mk3),ts=[layT bits ms]/\Q (.bl (QU bits ms))
theorem K0(F:Fun Ξ "has_form" "has_form" VC f fd)(N:Nms mg)(TKinds:Tup5 Ξ mg "KINDS" kindsA "small" "far" "pair" "sign" "one")(DBitsGo:Def P w Ξ mg base "bits_go" 1 ["bits"] (spP Ju))(DMarksGo:Def P w Ξ mg base "marks_go" 2 ["bits","marks"] (spP V4)):FnOk P w Ξ mg base CX0 3 f fd ["laying"] (spP Za):=by
 refine F.zP scHasForm (λts Qt h=>?_) (λcdv A outer s H E hr=>?_)
 ·obtain⟨_,_,rfl,_⟩:=h
  rfl
 refine⟨_,(qg (qF (i:=1) scHasForm.nd rfl W3 (qH (Ud Ξ) (qv 0) qe (λ_ _=>rfl)))
  (qg (qF (i:=2) scHasForm.nd rfl W3 (qH (Ud Ξ) (qv 0) qe (λ_ _=>rfl)))
  (qg (qX (xc (xR (xi (zE (qu DBitsGo (Wf hr) (qa_c (qv 1) qf)))) (xu (qp j3 (qG qV (by rfl) N.len ze (qa_c (qv 2) qf)) (qG (Ue Ξ) (by rfl) N.len ze (qa_c (Qi (v:=.ref kindsA) rfl TKinds.mg rfl) qf)) (qB _)))))
   (qi (qy jY))
   qI)
  (qg (qX (qp (Wq (Ξ:=Ξ) rfl hr.units) (qG (Vi (Ξ:=Ξ) rfl) (by rfl) N.sorted Zo (qa_c (QN [false,false,false] ["mark"] (vm (Ξ:=Ξ) rfl (qv 2)) (λ_ _ _=>(qU (i:=3) K8 rfl W3)) (λ_ _ _=>xx) (λ_ _ _=>(qH (Ud Ξ) (qv 3) qe (λ_ _=>rfl)))) qf)) (qG (Yp (Ξ:=Ξ) rfl) (by rfl) N.sorted Zo (qa_c (Qi (v:=.ref kindsA) rfl TKinds.mg rfl) qf)) (qB _))
   (qi (qy jY))
   qI)
  (qi (qy (qu DMarksGo (Wf hr) (qa_c (qv 1) (qa_c (qv 2) qf))))))))),_,(qj (qx (qQ (qd 0) Wh) (qm 1))
   (qj (qx (qQ (qd 0) Wh) (qm 2))
   (qj (ve (jO (xD (ct_b (qA (qc (qd 1) qh)))) (qr (qk jE (vO (qc (qd 2) qh)) (GY TKinds.kt))))
   (qC (ce_c (.bl _)))
   qL)
   (qj (ve (qr (qk Wn (ju Xj (qc (zu (vN (qd 2)) (zd 3) Ve (qQ (qd 3) Wh)) qh)) (ce_sortK (ss:=zp) TKinds.kt (by decide))))
   (qC (ce_c (.bl _)))
   qL)
   (qC (qA (qc (qd 1) (qc (qd 2) qh)))))))),λts Qt h=>?_⟩
 obtain⟨bits,ms,rfl,q⟩:=h;have no:QU bits ms=false->Qt (.bl false):=λh=>by rw[h] at q; exact q
 symm;refine⟨bits,rfl,_,rfl, ?_⟩;refine ite2 (λh=>no ?_) (λh=>?_)
 ·unfold QU
  rw[Dg] at h;rw[h];rfl
 have h1:(decide (8<=bits)&&decide (bits<=32))=true:=by rw[Dg,Bool.not_eq_false] at h; exact h
 refine ite2 (λh2=>no ?_) (λh2=>?_)
 ·have:¬ms.length=5:=by
   rw[Ul] at h2;have:=by simpa using h2
   lia
  simp[QU,this]
 have h2:ms.length=5:=by
  rw[Ul] at h2;have:=by simpa using h2
  lia
 symm;refine zg (by rw[Ul]; exact UC (qJ (by lia))) (λi acc M'=>M'=[]/\acc=((ms.take i).map (·.1)).map T.str) ⟨rfl,rfl⟩ ?_ ?_
 ·rintro i x acc M' hx _ ⟨rfl,rfl⟩
  obtain⟨m,hm,rfl⟩:=vJ hx;symm;rw[qM hm,Ux,Ux];rfl
 ·rintro acc M' ⟨rfl,rfl⟩
  rw[Ul,UF];symm;refine⟨_,rfl,by rw[Ul]; lia,λs1 p1 o1=>?_⟩;show ∀s2:List Str,_;intro s2 p2 o2;refine⟨_,_,rfl,rfl,eqStrs ?_⟩;refine⟨_,rfl, ?_⟩;have hb:bits<=32:=by have:=h1; simp at this; exact this.2
  refine ite2 (λh3=>no ?_) (λh3=>⟨bits,ms,rfl,hb, ?_⟩)
  ·have h4:¬s1=s2:=by simpa using h3
   have h5:(ms.map (·.1)).isPerm zp=false:=by
    rw[<-Bool.not_eq_true,RI];exact λz=>h4 (k9 o1 o2 (p1.trans (z.trans p2.symm)))
   simp[QU,h5]
  ·have h4:s1=s2:=by simpa using h3
   have h5:(ms.map (·.1)).isPerm zp=true:=by
    rw[RI];exact p1.symm.trans (by rw[h4]; exact p2)
   have h6:QU bits ms=ms.all (mkOk bits):=by
    unfold QU;rw[h1,h5,decide_eq_true h2];simp
   rw[<-h6];exact q
def minO:List Int->Option Int
 | []=>none
 |a::r=>some (match minO r with|none=>a|some b=>if b<a then b else a)
theorem Q6:∀{ns:List Int}{m:Int},minO ns=some m->m∈ns/\∀a∈ns,m<=a
 | [],_,h=>by cases h
 |a::r,m,h=>by
  simp only[minO,Option.some.injEq] at h;cases e:minO r with
  |none =>
   rw[e] at h;cases r with
   |nil=>subst h; exact⟨.head _,λb hb=>by rcases Uw.mp hb with rfl|hb; exact RQ _; cases hb⟩
   |cons b r=>simp[minO] at e
  |some b =>
   rw[e] at h;obtain⟨h1,h2⟩:=Q6 e;simp only at h;split at h
   ·subst h
    refine⟨.tail _ h1,λc hc=>?_⟩;rcases Uw.mp hc with rfl|hc
    ·lia
    ·exact h2 c hc
   ·subst h
    refine⟨.head _,λc hc=>?_⟩;rcases Uw.mp hc with rfl|hc
    ·lia
    ·have:=h2 c hc
     lia
theorem minO_is(h:m∈ns)(hm:∀a∈ns,m<=a):minO ns=some m:=by
 cases ns with
 |nil=>cases h
 |cons a r =>
  obtain⟨b,hb⟩:∃b,minO (a::r)=some b:=⟨_,rfl⟩;obtain⟨h1,h2⟩:=Q6 hb;have:=h2 m h;have:=hm b h1;rw[hb,show b=m by lia]
def zH(ms:List Mk3):List Int:=(ms.filter λm=>decide (1<(ms.filter (on m.2.2)).length)).map (·.2.2)
def optT:Option Int->T
 |none=>.non
 |some i=>.int i
abbrev xq:Stmt:=top 17
theorem scLeastDouble:FnScope ["marks","doubles"] ["marks"] (ql xq):=⟨rfl,rfl,rfl,by decide +kernel,rfl,by decide +kernel,by decide +kernel⟩
theorem QQ:(["marks","doubles","kind","width","pattern"]:List Str).Nodup:=by decide +kernel
def Gv:List T->(T->Prop)->Prop:=λts Q=>∃ms:List Mk3,ts=[.lst (ms.map zj)]/\Wd ms/\ms.length<=900/\Q (optT (minO (zH ms)))
theorem ok_least(F:Fun Ξ "least_double" "least_double" xq f fd)(N:Nms mg)(DKindsOn:Def P w Ξ mg base "kinds_on" 1 ["marks","word"] (spP kQ)):FnOk P w Ξ mg base CX0 2 f fd ["marks"] (spP Gv):=by
 refine F.zP scLeastDouble (λts Qt h=>?_) (λcdv A outer s H E hr=>?_)
 ·obtain⟨_,rfl,_⟩:=h
  rfl
 refine⟨_,(qg (Y9 (i:=1) [true,false] ["kind","width","pattern"] scLeastDouble.nd rfl rfl (vm (Ξ:=Ξ) rfl (qv 0)) (λ_ _ _=>(xY (Ξ:=Ξ) (i:=2) (j:=3) (k:=4) rfl QQ rfl rfl rfl rfl W3 W3 W3 W6 W6 W6)) (λ_ _ _=>jo (qp X5 (qG qV (by rfl) N.len ze (qa_c (qu DKindsOn (Wf hr) (qa_c (qv 0) (qa_c (qv 4) qf))) qf)) qe (qB _))) (λ_ _ _=>(qv 4)))
  (qi (qy (qe_minD (Ξ:=Ξ) rfl rfl (by rfl) N.min Yq (qv 1) vC)))),_,(qj (qx (zu (vN (qd 0)) (Xh 2 3 4) (qr (qk (qo λ_ _=>.bl _) (vO (qc (qA (qc (qd 0) (qc (qd 4) qh))) qh)) Wh)) (qd 4)) (qm 1))
   (qC (ju cbl_minD (qc (qd 1) (qc (ce_c .non) qh))))),λts Qt h=>?_⟩
 obtain⟨ms,rfl,hw,hl,q⟩:=h;symm;refine zg (by rw[Ul]; exact UC (qJ (by lia))) (λi acc M'=>M'=[]/\acc=(((ms.take i).filter λm=>decide (1<(ms.filter (on m.2.2)).length)).map (·.2.2)).map T.int) ⟨rfl,rfl⟩ ?_ ?_
 ·rintro i x acc M' hx _ ⟨rfl,rfl⟩
  obtain⟨m,hm,rfl⟩:=vJ hx;symm;refine⟨ms,m.2.2,rfl,hw,hl, ?_⟩;unfold Zx;symm;rw[Ul,Ul,qM hm,U8,Ux,Ux];refine ite2 (λhh=>?_) (λhh=>?_)
  ·have hh:1<(ms.filter (on m.2.2)).length:=by lia
   simp[hh]
  ·have hh:¬1<(ms.filter (on m.2.2)).length:=by lia
   simp[hh]
 ·rintro acc M' ⟨rfl,rfl⟩
  rw[Ul,UF];symm;refine⟨_,rfl,λe=>?_,λM hM hall=>?_⟩
  ·have:zH ms=[]:=e
   rw[this] at q;exact q
  ·rw[minO_is (ns:=zH ms) hM hall] at q
   exact q
def fewK(bits:Int)(ms:List Mk3):Option Mk3:=ms.find? λm=>decide (bits-m.2.1<need m.1)
def zA(bits:Int)(ms:List Mk3):T:=if QU bits ms=true then(match minO (zH ms) with
 |some M=>.tup [.str "two", .int M]
 |none=>match fewK bits ms with
  |some m=>.tup [.str "few", .str m.1]
  |none=>.non) else .tup [.str "form", .non]
structure FormP(bits:Int)(ms:List Mk3):Prop where
 b:8<=bits/\bits<=32
 n:ms.length=5
 k:(ms.map (·.1)).Perm zp
 m:∀m∈ms,(1<=m.2.1/\m.2.1<=bits-1)/\0<=m.2.2/\m.2.2<2^m.2.1.toNat
theorem form_iff:QU bits ms=true↔FormP bits ms:=by
 unfold QU;simp only[De,decide_eq_true_eq,RI,DA,mkOk];exact⟨λ⟨a,b,c,d⟩=>⟨a,b,c,d⟩,λh=>⟨h.b,h.n,h.k,h.m⟩⟩
theorem FormP.wd(h:FormP bits ms):Wd ms:=λm hm=>by
 have:=h.m m hm;have:=h.b;lia
theorem FormP.kd(h:FormP bits ms){m:Mk3}(hm:m∈ms):m.1∈zp:=h.k.mem_iff.mp (D7 hm)
abbrev xr:Stmt:=top 18
theorem scLayingFault:FnScope ["laying","bits","marks","double","kind","width","pattern"] ["laying"] (ql xr):=⟨rfl,rfl,rfl,by decide +kernel,rfl,by decide +kernel,by decide +kernel⟩
def Gw:List T->(T->Prop)->Prop:=λts Q=>∃(bits:Int)(ms:List Mk3),ts=[layT bits ms]/\Q (zA bits ms)
theorem ok_fault(F:Fun Ξ "laying_fault" "laying_fault" xr f fd)(DHasForm:Def P w Ξ mg base "has_form" 3 ["laying"] (spP Za))(DLeastDouble:Def P w Ξ mg base "least_double" 2 ["marks"] (spP Gv))(DLoadGoes:Def P w Ξ mg base "load_goes" 1 ["bits","kind","width"] (spP Qx)):FnOk P w Ξ mg base CX0 4 f fd ["laying"] (spP Gw):=by
 refine F.zP scLayingFault (λts Qt h=>?_) (λcdv A outer s H E hr=>?_)
 ·obtain⟨_,_,rfl,_⟩:=h
  rfl
 refine⟨_,(qg (qX (xi (zE (qu DHasForm (Wf hr) (qa_c (qv 0) qf))))
   (qi (qy (qN (qa_c qE (qa_c vC qf)))))
   qI)
  (qg (qF (i:=1) scLayingFault.nd rfl W3 (qH (Ud Ξ) (qv 0) qe (λ_ _=>rfl)))
  (qg (qF (i:=2) scLayingFault.nd rfl W3 (qH (Ud Ξ) (qv 0) qe (λ_ _=>rfl)))
  (qg (qF (i:=3) scLayingFault.nd rfl W3 (qu DLeastDouble (Wf hr) (qa_c (qv 2) qf)))
  (qg (qX (qp Qj (qv 3) vC (qB _))
   (qi (qy (qN (qa_c qE (qa_c (qv 3) qf)))))
   qI)
  (qg (vX PassesOwn.never rfl (vm (Ξ:=Ξ) rfl (qv 2)) (xY (Ξ:=Ξ) (i:=4) (j:=5) (k:=6) rfl scLayingFault.nd rfl rfl rfl rfl W3 W3 W3 W3 W3 W3)
   (qi (qX (xi (zE (qu DLoadGoes (Wf hr) (qa_c (qv 1) (qa_c (qv 4) (qa_c (qv 5) qf))))))
    (qi (qy (qN (qa_c qE (qa_c (qv 4) qf)))))
    qI)))
  (qi (qy vC)))))))),_,(qj (ve (xD (ct_b (qA (qc (qd 0) qh))))
   (qC (qO (qc Wk (qc (ce_c .non) qh))))
   qL)
   (qj (qx (qQ (qd 0) Wh) (qm 1))
   (qj (qx (qQ (qd 0) Wh) (qm 2))
   (qj (qx (qA (qc (qd 2) qh)) (qm 3))
   (qj (ve (qr (QF (qd 3)))
   (qC (qO (qc Wk (qc (qd 3) qh))))
   qL)
   (qj (zc (vN (qd 2)) (zL 4 5 6)
   (ve (xD (ct_b (qA (qc (qd 1) (qc (qd 4) (qc (qd 5) qh))))))
   (qC (qO (qc Wk (qc (qd 4) qh))))
   qL))
   (qC (ce_c .non)))))))),λts Qt h=>?_⟩
 obtain⟨bits,ms,rfl,q⟩:=h;symm;refine⟨bits,ms,rfl,_,rfl, ?_⟩;unfold zA at q;refine ite2 (λh=>?_) (λh=>?_)
 ·rw[Dg] at h
  rw[h] at q;exact q
 rw[Dg,Bool.not_eq_false] at h;rw[if_pos h] at q;have fp:=form_iff.mp h;have hn:=fp.n;symm;refine⟨ms,rfl,fp.wd,by lia, ?_⟩;cases e:minO (zH ms) with
 |some M =>
  rw[e] at q;simp only[optT];symm;exact q
 |none =>
  rw[e] at q;simp only[optT];simp only at q;symm;refine v6 (λi ρ M=>(∃x y z,ρ=[some (.p (layT bits ms)),some (.p (.int bits)),some (.p (.lst (ms.map zj))),some (.p .non),x,y,z])/\M=[]/\∀m∈ms.take i,¬bits-m.2.1<need m.1) ⟨⟨none,none,none,rfl⟩,rfl,by simp⟩ ?_ ?_
  ·rintro i x ρ M hx ⟨⟨x1,x2,x3,rfl⟩,rfl,hall⟩
   obtain⟨m,hm,rfl⟩:=vJ hx;symm;refine⟨bits,m.1,m.2.1,rfl,fp.kd (Um hm),_,rfl, ?_⟩;refine ite2 (λh=>?_) (λh=>?_)
   ·have h5:bits-m.2.1<need m.1:=by
     have:¬need m.1<=bits-m.2.1:=by simpa using h
     lia
    have h6:fewK bits ms=some m:=by
     unfold fewK;obtain⟨hi,hmi⟩:=Uj.mp hm;rw[List.find?_eq_some_iff_getElem];refine⟨by simpa using h5,i,hi,hmi,λj hj=>?_⟩;have:=hall (ms[j]'(by lia)) (Dr.mpr ⟨j,by lia,rfl⟩);simpa using this
    rw[h6] at q;exact q
   ·have h5:¬bits-m.2.1<need m.1:=by
     have:need m.1<=bits-m.2.1:=by simpa using h
     lia
    refine⟨⟨_,_,_,rfl⟩,λm' hm'=>?_⟩;rw[qM hm] at hm';rcases Us.mp hm' with hm'|hm'
    ·exact hall m' hm'
    ·rw[Uq.mp hm']
     exact h5
  ·rintro ρ M ⟨⟨x1,x2,x3,rfl⟩,rfl,hall⟩
   rw[Ul,UF] at hall;have h6:fewK bits ms=none:=by
    unfold fewK;rw[DT];exact λm hm=>by simpa using hall m hm
   rw[h6] at q;symm;exact q
theorem Ki{l:List Str}:inV (.str z) (l.map V.str)=decide (z∈l):=by
 unfold inV;rw[List.any_map]
 induction l with
 |nil=>rfl
 |cons a l ih =>
  rw[Dy,ih];show(decide (a=z)||decide (z∈l))=_;by_cases h:a=z
  ·simp[h]
  ·simp[h,Ne.symm h]
theorem Yw(Iv:Nat->UEnv->MM->Prop)(h0:Iv 0 ρ M)(hs:∀i t ρ2 M2,ts[i]?=some t->Iv i ρ2 M2->ug (.p (.tup [.int i,t])) ρ2 M2 λρ3 M3=>ub { E with nx:=Iv (i+1),ct:=Iv (i+1),bk:=E.nx } ρ3 M3)(hd:∀ρ2 M2,Iv ts.length ρ2 M2->E.nx ρ2 M2):UFor ⟨ts.length,λM=>vd M (.p (.lst ts))=some (ts.map U.p),λi z=>∃t,ts[i]?=some t/\z=.p (.tup [.int i,t])⟩ ug ub E ρ M :=
 ⟨Iv,h0,λi ρ2 M2 hi h=>⟨rfl,λu hu=>by obtain⟨t,ht,rfl⟩:=hu; exact hs i t ρ2 M2 ht h⟩,λρ2 M2 h=>⟨rfl,hd ρ2 M2 h⟩⟩
theorem WU{p q:Int}(h0:0<=q)(h1:q<2^n):(p-q) % 2^n=0↔p % 2^n=q:=by
 rw[<-Rm];constructor
 ·rintro⟨c,hc⟩
  have:p=q+2^n*c:=by lia
  rw[this,D9,Dn h0 h1]
 ·intro h
  exact⟨p / 2^n,by have:=Int.mul_ediv_add_emod p (2^n); lia⟩
theorem Va{ms:List Mk3}{k j:Nat}(hk:ms[k]?=some a)(hj:ms[j]?=some b)(h:j<k)(ha:f a=true)(hb:f b=true):1<(ms.filter f).length:=by
 have e:ms=ms.take k++a::ms.drop (k+1):=by
  obtain⟨hi,rfl⟩:=Uj.mp hk;rw[DW,Dj]
 have hb':b∈ms.take k:=by
  obtain⟨hi,rfl⟩:=Uj.mp hj;exact Dr.mpr ⟨j,by obtain⟨h2,_⟩:=Uj.mp hk; lia,rfl⟩
 rw[e,U8,Uu,Rp ha,Ur];have:0<((ms.take k).filter f).length:=Rv (UP.mpr ⟨hb',hb⟩);lia
theorem on_self(fp:FormP bits ms)(hm:m∈ms):on m.2.2 m=true:=by
 have:=fp.m m hm;exact decide_eq_true (Dn this.2.1 this.2.2)
theorem Right.one_on(r:Right bits ms)(word:Int):(ms.filter (on word)).length<=1:=by
 have hpw:(ms.filter (on word)).Pairwise λm m'=>Disj m.2 m'.2:=r.d.sublist List.filter_sublist;have hon:∀m∈ms.filter (on word),word % 2^m.2.1.toNat=m.2.2:=λm hm=>of_decide_eq_true (UP.mp hm).2
 match e:ms.filter (on word) with
 | []=>simp
 | [_]=>simp
 |a::b::l =>
  rw[e] at hpw hon;exact absurd ⟨hon a (.head _),hon b (.tail _ (.head _))⟩ ((Dq.mp hpw).1 b (.head _) word)
theorem J3(fp:FormP bits ms)(h1:∀(i j:Nat)(u v:Mk3),ms[i]?=some u->ms[j]?=some v->j<i->Disj v.2 u.2)(h2:∀m∈ms,need m.1<=bits-m.2.1):Right bits ms :=
 ⟨fp.b,fp.n,fp.k,λm hm=>⟨(fp.m m hm).1.1,by have:=h2 m hm; lia⟩,λm hm=>(fp.m m hm).2,DI.mpr λi j hi hj hij=>h1 j i _ _ (Uk hj) (Uk hi) hij⟩
theorem right_iff:zA bits ms=.non↔Right bits ms:=by
 constructor
 ·intro h
  unfold zA at h;split at h
  ·rename_i hf
   have fp:=form_iff.mp hf;split at h
   ·cases h
   ·rename_i hd
    split at h
    ·cases h
    ·rename_i hk
     have hd0:zH ms=[]:=by
      cases e:zH ms with
      |nil=>rfl
      |cons a r=>rw[e] at hd; cases hd
     have key:∀{u v:Mk3}{i j:Nat}{word:Int},ms[i]?=some u->ms[j]?=some v->i≠j->word % 2^u.2.1.toNat=u.2.2->word % 2^v.2.1.toNat=v.2.2->u.2.1<=v.2.1->False:=λ{u v i j word} hu hv hij eu ev hle=>by
      have fu:=fp.m u (Um hu);have fv:=fp.m v (Um hv);have:v.2.2∈zH ms:=U7.mpr ⟨v,UP.mpr ⟨Um hv,decide_eq_true (by
       have h1:on v.2.2 u=true:=by
        refine decide_eq_true ?_;rw[<-ev,RL _ ?_,eu];exact⟨2^(v.2.1.toNat-u.2.1.toNat),by rw[<-RP]; congr 1; lia⟩
       have h2:=on_self fp (Um hv);rcases Nat.lt_or_gt_of_ne hij with z|z
       ·exact Va hv hu z h2 h1
       ·exact Va hu hv z h1 h2)⟩,rfl⟩
      rw[hd0] at this;cases this
     refine J3 fp (λi j u v hu hv hij x hx=>?_) (λm hm=>?_)
     ·rcases Int.le_total u.2.1 v.2.1 with z|z
      ·exact key hu hv (R3 hij) hx.2 hx.1 z
      ·exact key hv hu (UJ hij) hx.1 hx.2 z
     ·have:=DT.mp hk m hm
      simp at this;lia
  ·cases h
 ·intro r
  have fp:FormP bits ms:=⟨r.b,r.n,r.k,λm hm=>⟨⟨(r.w m hm).1,by have:=r.w m hm; have:=vR m.1; lia⟩,r.p m hm⟩⟩;have hd:zH ms=[]:=by
   cases e:zH ms with
   |nil=>rfl
   |cons a l =>
    have:a∈zH ms:=by rw[e]; exact .head _
    obtain⟨m,hm,_⟩:=U7.mp this;have h1:=(UP.mp hm).2;have h2:=r.one_on m.2.2;simp at h1;lia
  have hk:fewK bits ms=none:=DT.mpr λm hm=>by
   have:=r.w m hm;simp;lia
  unfold zA;rw[if_pos (form_iff.mpr fp),hd];show(match fewK bits ms with|some m=>_|none=>_)=_;rw[hk]
theorem zn{p:Prop}[Decidable p]{a b:Prop}(h:¬p)(q:b):if p then a else b:=by rw[if_neg h]; exact q
theorem v9{p:Prop}[Decidable p]{a b:Prop}(h:p)(q:a):if p then a else b:=by rw[if_pos h]; exact q
def vp(x:Int):Int:=if x=1 then 3 else x / 4+1
def valL(b:Nat):List Int->Int
 | []=>0
 |l::ls=>l+2^b*valL b ls
def limI(os:List Int)(k:Nat)(x:Int):List Int:=(os.drop (k+1)).take (x / 4).toNat
def numI(b:Nat)(os:List Int)(k:Nat)(x:Int):Int:=if x % 4=0 then valL b (limI os k x) else -(valL b (limI os k x))
def QV(bits:Int)(os:List Int):Prop:=∀x∈os,0<=x/\x<2^bits.toNat
theorem Yu:∀{L:List Int},(∀x∈L,0<=x/\x<2^b)->0<=valL b L/\valL b L<2^(b*L.length)
 | [],_=>⟨RQ _,by unfold valL; exact vL _⟩
 |l::L,h=>by
  have h1:=h l (.head _);have h2:=Yu (L:=L) λx hx=>h x (.tail _ hx);have hp:=vL b;unfold valL;have e:(2:Int)^(b*(l::L).length)=2^b*2^(b*L.length):=by rw[Ur,Nat.mul_succ,R4,RP]
  rw[e];generalize(2:Int)^(b*L.length)=z at *;generalize(2:Int)^b=p at *;generalize valL b L=v at *;have h3:0<=p*v:=Int.mul_nonneg (by lia) h2.1;have h4:p*(v+1)<=p*z:=Int.mul_le_mul_of_nonneg_left (by lia) (by lia);rw[Int.mul_add,Int.mul_one] at h4;lia
abbrev XH:Stmt:=top 27
theorem scSizeAt:FnScope ["outside","address","head"] ["outside","address"] (ql XH):=⟨rfl,rfl,rfl,by decide +kernel,rfl,by decide +kernel,by decide +kernel⟩
def Q9:List T->(T->Prop)->Prop:=λts Q=>∃(os:List Int)(k:Nat)(x:Int),ts=[qZ os, .int k]/\os[k]?=some x/\Q (.int (vp x))
theorem ok_sizeG(F:Fun Ξ "size_at" "size_at" XH f fd)(GHead:GInt mg "PAIR_HEAD" 1)(GSize:GInt mg "PAIR_SIZE" 3):FnOk P w Ξ mg base CX0 1 f fd ["outside","address"] (spP Q9):=by
 refine F.zP scSizeAt (λts Qt h=>?_) (λcdv A outer s H E hr=>?_)
 ·obtain⟨_,_,_,rfl,_⟩:=h
  rfl
 refine⟨_,(qg (qF (i:=2) scSizeAt.nd rfl W3 (qH (Uc Ξ) (qv 0) (qv 1) (λ_ _=>rfl)))
  (qi (qy (vF (qp vK (qv 2) (vQ GHead rfl) (qB _)) (vQ GSize rfl) (qt qP (qt xJ (qv 2) qe) qe))))),_,(qj (qx (qT (qd 0) (qd 1)) (qm 2))
   (qC (kG (qr (qk vi (qd 2) Wh)) Wh (qk (qo λ_ _=>.int _) (qk (vg λ_ _=>.int _) (qd 2) Wh) Wh)))),λts Qt h=>?_⟩
 obtain⟨os,k,x,rfl,hx,q⟩:=h;symm;refine qS (atT hx) ?_;symm;unfold vp at q;refine ite2 (λz=>?_) (λz=>⟨⟨by decide,by decide⟩, ?_⟩)
 ·rw[if_pos z] at q; exact q
 ·rw[if_neg z] at q; exact q
abbrev Qd:Stmt:=top 28
theorem scNumberAt:FnScope ["laying","outside","address","amount","limb"] ["laying","outside","address"] (ql Qd):=⟨rfl,rfl,rfl,by decide +kernel,rfl,by decide +kernel,by decide +kernel⟩
def gNumG:List T->(T->Prop)->Prop:=λts Q=>∃(bits:Int)(ms:List Mk3)(os:List Int)(k:Nat)(x:Int),ts=[layT bits ms,qZ os, .int k]/\os[k]?=some x/\4<=x/\k+vp x<=os.length/\os.length<=1000/\1<=bits/\bits<=60/\QV bits os/\Q (.int (numI bits.toNat os k x))
theorem Kd{os:List Int}{k:Nat}(h4:4<=x)(he:k+vp x<=os.length):(limI os k x).length=(x / 4).toNat:=by
 unfold limI;unfold vp at he;rw[if_neg (by lia)] at he;rw[U3,D5];lia
theorem ok_numG(F:Fun Ξ "number_at" "number_at" Qd f fd)(N2:Nms2 mg)(DSizeAt:Def P w Ξ mg base "size_at" 1 ["outside","address"] (spP Q9)):FnOk P w Ξ mg base CX0 2 f fd ["laying","outside","address"] (spP gNumG):=by
 refine F.zP scNumberAt (λts Qt h=>?_) (λcdv A outer s H E hr=>?_)
 ·obtain⟨_,_,_,_,_,rfl,_⟩:=h
  rfl
 refine⟨_,(qg (qF (i:=3) scNumberAt.nd rfl W3 qe)
  (qg (vX PassesOwn.never rfl (qi_revK (Ξ:=Ξ) rfl rfl N2.reversed (qa_c (vA (Ub Ξ) (qv 1) (vD (qt qP (qv 2) qe)) (vD (qt qP (qv 2) (qu DSizeAt (Wf hr) (qa_c (qv 1) (qa_c (qv 2) qf)))))) qf)) (qU (i:=4) scNumberAt.nd rfl W3)
   (qi (qF (i:=3) scNumberAt.nd rfl W3 (qt qP (qt Wp (qv 3) (qH (Ud Ξ) (qv 0) qe (λ_ _=>rfl))) (qv 4)))))
  (qi (qy (vF (qp vK (qt zz (qH (Uc Ξ) (qv 1) (qv 2) (λ_ _=>rfl)) qe) qe (qB _)) (qv 3) (QM xT (qv 3))))))),_,(qj (qx Wh (qm 3))
   (qj (zc (ci_rev (qc (xS (qd 1) (vH (qk (qo λ_ _=>.int _) (qd 2) Wh)) (vH (qk (qo λ_ _=>.int _) (qd 2) (qA (qc (qd 1) (qc (qd 2) qh)))))) qh)) (qm 4)
   (qx (qk (qo λ_ _=>.int _) (qk (vg λ_ _=>.int _) (qd 3) (qQ (qd 0) Wh)) (qd 4)) (qm 3)))
   (qC (kG (qr (qk vi (qk (vg λ_ _=>.int _) (qT (qd 1) (qd 2)) Wh) Wh)) (qd 3) (ja (qd 3)))))),λts Qt h=>?_⟩
 obtain⟨bits,ms,os,k,x,rfl,hx,h4,he,hz,b0,b1,hw,q⟩:=h;have hs:vp x=x / 4+1:=by unfold vp; rw[if_neg (by lia)]
 have hll:=Kd h4 he;have hlw:∀y∈limI os k x,0<=y/\y<2^bits.toNat:=λy hy=>hw y (Du (Dt hy));symm;refine⟨os,k,x,rfl,hx, ?_⟩;symm;have e1:(k:Int)+1=((k+1:Nat):Int):=by push_cast; rfl
 have e2:(k:Int)+vp x=((k+1+(x / 4).toNat:Nat):Int):=by rw[hs]; push_cast; lia
 have hcut:cutT (os.map T.int) (some ((k:Int)+1)) (some ((k:Int)+vp x))=(limI os k x).map T.int:=by
  rw[e1,e2,Zj (by lia) (by rw[hs] at he; lia)]
  congr 1;unfold limI
  congr 1;lia
 rw[hcut];generalize hL:limI os k x=L at *;refine ufor_rev (λi ρ M'=>M'=[]/\∃x4,ρ=[some (.p (layT bits ms)),some (.p (qZ os)),some (.p (.int k)),some (.p (.int (valL bits.toNat (L.drop (L.length-i))))),x4]) ⟨rfl,none,by rw[Nat.sub_zero,List.drop_length]; rfl⟩ ?_ ?_
 ·rintro i y ρ M' hi hy ⟨rfl,x4,rfl⟩
  rw[Ul] at hi hy;obtain⟨l,hl,rfl⟩:=vJ hy;symm;have hd:L.drop (L.length-(i+1))=l::L.drop (L.length-i):=by
   obtain⟨h1,h2⟩:=Uj.mp hl;rw[show L.length-(i+1)=L.length-1-i by lia,Ri h1,h2]
   congr 2;lia
  have hv:=Yu (b:=bits.toNat) (L:=L.drop (L.length-i)) λy hy=>hlw y (Du hy);refine⟨⟨by lia,by lia, ?_⟩,some (.p (.int l)), ?_⟩
  ·have h1:(valL bits.toNat (L.drop (L.length-i))).natAbs<2^(bits.toNat*(L.drop (L.length-i)).length):=by
    have:=hv.2;have e:((2^(bits.toNat*(L.drop (L.length-i)).length):Nat):Int)=2^(bits.toNat*(L.drop (L.length-i)).length):=by simp
    lia
   refine Uy h1 (Dl (by decide) ?_);have h2:(L.drop (L.length-i)).length<=1000:=by
    rw[D5];lia
   have h3:bits.toNat<=60:=by lia
   exact UY (Nat.mul_le_mul h3 h2) (by decide)
  ·rw[hd,show valL bits.toNat (l::L.drop (L.length-i))=l+2^bits.toNat*valL bits.toNat (L.drop (L.length-i)) from rfl,Int.add_comm l,RD]
 ·rintro ρ M' ⟨rfl,x4,rfl⟩
  rw[Ul,Dm,RM];symm;refine qS (atT hx) ?_;symm;refine⟨by decide, ?_⟩;unfold numI at q;rw[hL] at q;refine ite2 (λz=>?_) (λz=>?_)
  ·rw[if_pos z] at q
   exact q
  ·rw[if_neg z] at q
   exact q
def zf(x:Int):Bool:=decide (x=1)||(decide (4<=x)&&decide (x % 2=0))
def strO:Option Str->T
 |none=>.non
 |some w=>.str w
def zw(bits sm:Int)(os:List Int)(k:Nat)(x:Int):Option Str :=
 if zf x=false then some "head" else if(os.length:Int)<k+vp x then some "end" else if x=1 then none else if os[k+(x / 4).toNat]?=some 0 then some "limb" else if kj sm (numI bits.toNat os k x)=true then some "small" else none
abbrev XR:Stmt:=top 63
theorem scIsHead:FnScope ["word"] ["word"] (ql XR):=⟨rfl,rfl,rfl,by decide +kernel,rfl,by decide +kernel,by decide +kernel⟩
def Js:List T->(T->Prop)->Prop:=λts Q=>∃x:Int,ts=[.int x]/\Q (.bl (zf x))
theorem WE(F:Fun Ξ "is_head" "is_head" XR f fd)(GHead:GInt mg "PAIR_HEAD" 1):FnOk P w Ξ mg base CX0 1 f fd ["word"] (spP Js):=by
 refine F.zP scIsHead (λts Qt h=>?_) (λcdv A outer s H E hr=>?_)
 ·obtain⟨_,rfl,_⟩:=h
  rfl
 refine⟨_,(qi (qy (qe_or (zM vK (qv 0) (vQ GHead rfl) (qB _)) (J7 (Wb (zM ZN (qv 0) qe (qB _)) (J7 (zM (Ug Ξ) (qt zz (qv 0) qe) (qN (qa_c qe (qa_c qe qf))) (by with_unfolding_all rfl)))))))),_,(qC (ce_orV (qk vi (qd 0) Wh) (G1 (qk (qo λ_ _=>.bl _) (qd 0) Wh) (qk ZK (qk (vg λ_ _=>.int _) (qd 0) Wh) (qO (qc Wh (qc Wh qh))))))),λts Qt h=>?_⟩;obtain⟨x,rfl,q⟩:=h;symm;refine ite2 (λh1=>?_) (λh1=>ite2 (λh4=>⟨by decide, ?_⟩) (λh4=>?_))
 ·have:zf x=true:=by simp[zf,h1]
  rw[this] at q;exact q
 ·refine⟨_,_,_,rfl,rfl,rfl, ?_⟩
  have e:inV (V.int (x % 4)) [V.int 0,V.int 2]=zf x:=by
   rw[DF];simp[inV,eqV,zf,h1,h4];lia
  show Qt (.bl (inV (V.int (x % 4)) [V.int 0,V.int 2]));rw[e];exact q
 ·have:zf x=false:=by simp[zf,h1,h4]
  rw[this] at q;exact q
abbrev VE:Stmt:=top 64
theorem scFaultAt:FnScope ["laying","outside","address","end"] ["laying","outside","address"] (ql VE):=⟨rfl,rfl,rfl,by decide +kernel,rfl,by decide +kernel,by decide +kernel⟩
def Zc:List T->(T->Prop)->Prop:=λts Q=>∃(bits:Int)(ms:List Mk3)(m:Mk3)(os:List Int)(k:Nat)(x:Int),ts=[layT bits ms,qZ os, .int k]/\Right bits ms/\OfKind ms "small" m/\os[k]?=some x/\os.length<=1000/\QV bits os/\Q (strO (zw bits (bits-m.2.1) os k x))
theorem K2(F:Fun Ξ "fault_at" "fault_at" VE f fd)(N:Nms mg)(GHead:GInt mg "PAIR_HEAD" 1)(DIsHead:Def P w Ξ mg base "is_head" 1 ["word"] (spP Js))(DSizeAt:Def P w Ξ mg base "size_at" 1 ["outside","address"] (spP Q9))(DNumberAt:Def P w Ξ mg base "number_at" 2 ["laying","outside","address"] (spP gNumG))(DIsSmall:Def P w Ξ mg base "is_small" 3 ["laying","n"] (spP V8)):FnOk P w Ξ mg base CX0 4 f fd ["laying","outside","address"] (spP Zc):=by
 refine F.zP scFaultAt (λts Qt h=>?_) (λcdv A outer s H E hr=>?_)
 ·obtain⟨_,_,_,_,_,_,rfl,_⟩:=h
  rfl
 refine⟨_,(qg (qX (xi (zE (qu DIsHead (Wf hr) (qa_c (qH (Uc Ξ) (qv 1) (qv 2) (λ_ _=>rfl)) qf))))
   (qi (qy qE))
   qI)
  (qg (qF (i:=3) scFaultAt.nd rfl W3 (qt qP (qv 2) (qu DSizeAt (Wf hr) (qa_c (qv 1) (qa_c (qv 2) qf)))))
  (qg (qX (qp X5 (qv 3) (qG qV (by rfl) N.len ze (qa_c (qv 1) qf)) (qB _))
   (qi (qy qE))
   qI)
  (qg (qX (qp vK (qH (Uc Ξ) (qv 1) (qv 2) (λ_ _=>rfl)) (vQ GHead rfl) (qB _))
   (qi (qy vC))
   qI)
  (qg (qX (qp vK (qH (Uc Ξ) (qv 1) (qt vh (qv 3) qe) (λ_ _=>rfl)) qe (qB _))
   (qi (qy qE))
   qI)
  (qi (qy (vF (zE (qu DIsSmall (Wf hr) (qa_c (qv 0) (qa_c (qu DNumberAt (Wf hr) (qa_c (qv 0) (qa_c (qv 1) (qa_c (qv 2) qf)))) qf)))) qE vC)))))))),_,(qj (ve (xD (ct_b (qA (qc (qT (qd 1) (qd 2)) qh))))
   (qC Wk)
   qL)
   (qj (qx (qk (qo λ_ _=>.int _) (qd 2) (qA (qc (qd 1) (qc (qd 2) qh)))) (qm 3))
   (qj (ve (qr (qk (qo λ_ _=>.bl _) (qd 3) (vO (qc (qd 1) qh))))
   (qC Wk)
   qL)
   (qj (ve (qr (qk vi (qT (qd 1) (qd 2)) Wh))
   (qC (ce_c .non))
   qL)
   (qj (ve (qr (qk vi (qT (qd 1) (qk (qo λ_ _=>.int _) (qd 3) Wh)) Wh))
   (qC Wk)
   qL)
   (qC (Kz (ct_b (qA (qc (qd 0) (qc (qA (qc (qd 0) (qc (qd 1) (qc (qd 2) qh)))) qh)))) (.str _) .non))))))),λts Qt h=>?_⟩
 obtain⟨bits,ms,m,os,k,x,rfl,hR,hm,hx,hz,hw,q⟩:=h;have hxw:=hw x (Um hx);have hk:=(Uj.mp hx).1;symm;refine qS (atT hx) ?_;symm;refine⟨x,rfl, ?_⟩;symm;unfold zw at q;refine ite2 (λh1=>?_) (λh1=>?_)
 ·rw[if_pos (by simpa using h1)] at q
  exact q
 rw[if_neg (by simpa using h1)] at q;have hh:zf x=true:=by simpa using h1
 symm;refine⟨os,k,x,rfl,hx, ?_⟩;symm;rw[Ul];refine ite2 (λh2=>?_) (λh2=>?_)
 ·rw[if_pos h2] at q
  exact q
 rw[if_neg h2] at q;symm;refine qS (atT hx) ?_;symm;refine ite2 (λh3=>?_) (λh3=>?_)
 ·rw[if_pos h3] at q
  exact q
 rw[if_neg h3] at q;have h4:4<=x:=by
  unfold zf at hh;simp[h3] at hh;exact hh.1
 have hs:vp x=x / 4+1:=by unfold vp; rw[if_neg h3]
 obtain⟨y,hy⟩:∃y,os[k+(x / 4).toNat]?=some y:=⟨_,Uk (by rw[hs] at h2; lia)⟩;have e:(k:Int)+vp x-1=((k+(x / 4).toNat:Nat):Int):=by rw[hs]; push_cast; lia
 symm;rw[e];refine qS (atT hy) ?_;symm;rw[hy] at q;refine ite2 (λh5=>?_) (λh5=>?_)
 ·rw[if_pos (by rw[h5])] at q
  exact q
 rw[if_neg (by simpa using h5)] at q;have hb:=hR.b;symm;refine⟨bits,ms,os,k,x,rfl,hx,h4,by lia,hz,by lia,by lia,hw, ?_⟩;symm;have hmm:m∈ms:=by
  obtain⟨rest,hr⟩:=hm;exact(UP.mp (by rw[hr]; exact .head _)).1
 have hmw:=hR.w m hmm;have hnd:=vR m.1;refine⟨bits,ms,_,m,rfl,by rw[hR.n]; decide,hm,by lia,by lia, ?_⟩;symm;cases hsm:kj (bits-m.2.1) (numI bits.toNat os k x) with
 |true=>rw[hsm] at q; exact q
 |false=>rw[hsm] at q; exact q
def thF(bad:Nat->Option Str)(sz:Nat->Nat)(len:Nat)(k:Nat):Option (Str×Int)×List Nat :=
 if h:k<len/\0<sz k then
  match bad k with
  |some w=>(some (w,8+k), [])
  |none=>((thF bad sz len (k+sz k)).1,k::(thF bad sz len (k+sz k)).2)
 else(none, [])
termination_by len-k
decreasing_by all_goals lia
def badK(bits sm:Int)(os:List Int)(k:Nat):Option Str:=(os[k]?).bind (zw bits sm os k)
def szK(os:List Int)(k:Nat):Nat:=(vp ((os[k]?).getD 1)).toNat
def thI(bits sm:Int)(os:List Int):Nat->Option (Str×Int)×List Nat:=thF (badK bits sm os) (szK os) os.length
def flT:Option (Str×Int)->T
 |none=>.non
 |some p=>.tup [.str p.1, .int p.2]
theorem kZ{os:List Int}(h:os.length<=k):thI bits sm os k=(none, []):=by
 unfold thI thF;rw[dif_neg (by lia)]
theorem xh{os:List Int}(h:zw bits sm os k x=none):2<=vp x/\k+vp x<=os.length/\zf x=true:=by
 unfold zw at h;split at h
 ·cases h
 rename_i h1;split at h
 ·cases h
 rename_i h2;have hh:zf x=true:=by simpa using h1
 refine⟨?_,by lia,hh⟩;unfold vp;unfold zf at hh;split
 ·lia
 ·rename_i h3
  simp[h3] at hh;lia
theorem Vn{os:List Int}{w:Str}(hx:os[k]?=some x)(h0:0<=x)(h:zw bits sm os k x=some w):thI bits sm os k=(some (w,(8:Int)+k), []):=by
 have hk:=(Uj.mp hx).1;have hb:badK bits sm os k=some w:=by unfold badK; rw[hx]; exact h
 have hs:0<szK os k:=by
  unfold szK;rw[hx];show 0<(vp x).toNat;unfold vp;split<;>lia
 unfold thI thF;rw[dif_pos ⟨hk,hs⟩,hb]
theorem QZ{os:List Int}(hx:os[k]?=some x)(h:zw bits sm os k x=none):thI bits sm os k=((thI bits sm os (k+(vp x).toNat)).1,k::(thI bits sm os (k+(vp x).toNat)).2):=by
 have hk:=(Uj.mp hx).1;have hb:badK bits sm os k=none:=by unfold badK; rw[hx]; exact h
 have he:szK os k=(vp x).toNat:=by unfold szK; rw[hx]; rfl
 have hs:=(xh h).1
 conv=>lhs; unfold thI thF
 rw[dif_pos ⟨hk,by rw[he]; lia⟩,hb,he];rfl
abbrev jf:Stmt:=top 65
theorem scThingFault:FnScope ["laying","outside","address","wrong"] ["laying","outside"] (ql jf):=⟨rfl,rfl,rfl,by decide +kernel,rfl,by decide +kernel,by decide +kernel⟩
def Gp:List T->(T->Prop)->Prop:=λts Q=>∃(bits:Int)(ms:List Mk3)(m:Mk3)(os:List Int),ts=[layT bits ms,qZ os]/\Right bits ms/\OfKind ms "small" m/\os.length<=1000/\QV bits os/\Q (flT (thI bits (bits-m.2.1) os 0).1)
theorem ok_thing(F:Fun Ξ "thing_fault" "thing_fault" jf f fd)(N:Nms mg)(GReg:GInt mg "REGISTERS" 8)(DFaultAt:Def P w Ξ mg base "fault_at" 4 ["laying","outside","address"] (spP Zc))(DSizeAt:Def P w Ξ mg base "size_at" 1 ["outside","address"] (spP Q9)):FnOk P w Ξ mg base CX0 5 f fd ["laying","outside"] (spP Gp):=by
 refine F.zP scThingFault (λts Qt h=>?_) (λcdv A outer s H E hr=>?_)
 ·obtain⟨_,_,_,_,rfl,_⟩:=h
  rfl
 refine⟨_,(qg (qF (i:=2) scThingFault.nd rfl W3 qe)
  (qg (kO PassesOwn.never (qp zF (qv 2) (qG qV (by rfl) N.len ze (qa_c (qv 1) qf)) (qB _))
   (qg (qF (i:=3) scThingFault.nd rfl W3 (qu DFaultAt (Wf hr) (qa_c (qv 0) (qa_c (qv 1) (qa_c (qv 2) qf)))))
   (qg (qX (qp Qj (qv 3) vC (qB _))
    (qi (qy (qN (qa_c (qv 3) (qa_c (qt qP (vQ GReg rfl) (qv 2)) qf)))))
    qI)
   (qi (qs_aug (i:=2) scThingFault.nd rfl W3 (qu DSizeAt (Wf hr) (qa_c (qv 1) (qa_c (qv 2) qf))) ip_add)))))
  (qi (qy vC)))),_,(qj (qx Wh (qm 2))
   (qj (kU (qr (qk (qo λ_ _=>.bl _) (qd 2) (vO (qc (qd 1) qh))))
   (qj (qx (qA (qc (qd 0) (qc (qd 1) (qc (qd 2) qh)))) (qm 3))
   (qj (ve (qr (QF (qd 3)))
   (qC (qO (qc (qd 3) (qc (qk (qo λ_ _=>.int _) Wh (qd 2)) qh))))
   qL)
   (cs_aug (qA (qc (qd 1) (qc (qd 2) qh)))))))
   (qC (ce_c .non)))),λts Qt h=>?_⟩
 obtain⟨bits,ms,m,os,rfl,hR,hm,hz,hw,q⟩:=h;symm;refine⟨λd ρ M=>∃(k:Nat)(x3:Option U),d=os.length-k/\ρ=[some (.p (layT bits ms)),some (.p (qZ os)),some (.p (.int k)),x3]/\M=[]/\(thI bits (bits-m.2.1) os 0).1=(thI bits (bits-m.2.1) os k).1,⟨_,0,none,rfl,rfl,rfl,rfl⟩, ?_⟩;rintro d ρ M ⟨k,x3,rfl,rfl,rfl,hk⟩;symm;rw[Ul];refine ite2 (λhl=>?_) (λhl=>?_)
 ·have hl:k<os.length:=by lia
  obtain⟨x,hx⟩:∃x,os[k]?=some x:=⟨_,Uk hl⟩;have hxw:=hw x (Um hx);refine⟨λρ M=>∃x3,ρ=[some (.p (layT bits ms)),some (.p (qZ os)),some (.p (.int ((k:Int)+vp x))),x3]/\M=[]/\zw bits (bits-m.2.1) os k x=none, ?_, ?_⟩
  ·rintro ρ' M' ⟨y3,rfl,rfl,hb⟩
   have hs:=xh hb;refine⟨os.length-(k+(vp x).toNat),by lia,k+(vp x).toNat,y3,rfl, ?_,rfl, ?_⟩
   ·have:(k:Int)+vp x=((k+(vp x).toNat:Nat):Int):=by push_cast; lia
    rw[this]
   ·rw[hk,QZ hx hb]
  ·symm
   refine⟨bits,ms,m,os,k,x,rfl,hR,hm,hx,hz,hw, ?_⟩;symm;cases hb:zw bits (bits-m.2.1) os k x with
   |some w =>
    symm;rw[hk,Vn hx hxw.1 hb] at q;exact v9 rfl q
   |none =>
    symm;refine zn (by decide) ?_;simp only[uAug];symm;exact⟨_,rfl,os,k,x,rfl,hx,_,rfl,_,rfl⟩
 ·rw[hk,kZ (by lia)] at q
  symm;exact q
theorem YK{os:List Int}:∀(n k:Nat),os.length-k<=n->∀j∈(thI bits sm os k).2,k<=j/\j<os.length/\∃x,os[j]?=some x/\zw bits sm os j x=none
 |n,k,hn=>λj hj=>by
  by_cases hk:k<os.length
  ·obtain⟨x,hx⟩:∃x,os[k]?=some x:=⟨_,Uk hk⟩
   cases hb:zw bits sm os k x with
   |none =>
    have hs:=xh hb;rw[QZ hx hb] at hj;rcases Uw.mp hj with rfl|hj
    ·exact⟨Up _,hk,x,hx,hb⟩
    ·match n,hn with
     |0,hn=>lia
     |n+1,hn =>
      obtain⟨h1,h2⟩:=YK n (k+(vp x).toNat) (by lia) j hj;exact⟨by lia,h2⟩
   |some w =>
    have:(thI bits sm os k).2=[]:=by
     unfold thI thF;split
     ·have hbk:badK bits sm os k=some w:=by unfold badK; rw[hx]; exact hb
      rw[hbk]
     ·rfl
    rw[this] at hj;cases hj
  ·rw[kZ (by lia)] at hj
   cases hj
theorem thI_nd{os:List Int}:∀(n k:Nat),os.length-k<=n->(thI bits sm os k).2.Pairwise (· < ·)
 |n,k,hn=>by
  by_cases hk:k<os.length
  ·obtain⟨x,hx⟩:∃x,os[k]?=some x:=⟨_,Uk hk⟩
   cases hb:zw bits sm os k x with
   |none =>
    have hs:=xh hb;rw[QZ hx hb]
    match n,hn with
    |0,hn=>lia
    |n+1,hn =>
     refine Dq.mpr ⟨λj hj=>?_,thI_nd n (k+(vp x).toNat) (by lia)⟩;have:=(YK _ _ (Up _) j hj).1;lia
   |some w =>
    have:(thI bits sm os k).2=[]:=by
     unfold thI thF;split
     ·have hbk:badK bits sm os k=some w:=by unfold badK; rw[hx]; exact hb
      rw[hbk]
     ·rfl
    rw[this];exact .nil
  ·rw[kZ (by lia)]
   exact .nil
structure Hds(os:List Int)(hs:List Nat):Prop where
 ex:∃bits sm,(thI bits sm os 0).1=none/\(thI bits sm os 0).2=hs
 w:∀x∈os,0<=x
 z:os.length<=1000
theorem Gy(e:M[k]?=some (.lst (l.map U.p))):frzN (n+1) M (.m k)=some (.lst l):=by simp only[frzN,e]; rw[Zd (λ_=>GA)]; rfl
theorem Hds.at{os:List Int}(h:Hds os hs):∀k∈hs,∃x,os[k]?=some x/\k+vp x<=os.length/\zf x=true:=λk hk=>by
 obtain⟨bits,sm,_,rfl⟩:=h.ex;obtain⟨_,_,x,hx,hb⟩:=YK _ _ (Up _) k hk;exact⟨x,hx,(xh hb).2⟩
theorem Hds.lt{os:List Int}(h:Hds os hs):hs.Pairwise (· < ·):=by
 obtain⟨bits,sm,_,rfl⟩:=h.ex;exact thI_nd _ _ (Up _)
theorem Hds.len{os:List Int}(h:Hds os hs):hs.length<=1000:=by
 have h1:∀(l:List Nat)(a b:Nat),l.Pairwise (· < ·)->(∀x∈l,a<=x/\x<b)->l.length<=b-a:=by
  intro l
  induction l with
  |nil=>intro a b _ _; exact U4 _
  |cons y l ih =>
   intro a b hp hm;rw[Dq] at hp;have:=ih (y+1) b hp.2 λx hx=>⟨hp.1 x hx,(hm x (.tail _ hx)).2⟩;have h2:=hm y (.head _);rw[Ur];lia
 have:=h1 hs 0 os.length h.lt λk hk=>by
  obtain⟨x,hx,_⟩:=h.at k hk;exact⟨U4 _,(Uj.mp hx).1⟩
 have:=h.z;lia
abbrev VB:Stmt:=top 44
theorem scHeadsIn:FnScope ["outside","heads","address"] ["outside"] (ql VB):=⟨rfl,rfl,rfl,by decide +kernel,rfl,by decide +kernel,by decide +kernel⟩
def Kn:List T->(T->Prop)->Prop:=λts Q=>∃(os:List Int)(hs:List Nat),ts=[qZ os]/\Hds os hs/\Q (.lst (hs.map λ(k:Nat)=>T.int k))
theorem ok_heads(F:Fun Ξ "heads_in" "heads_in" VB f fd)(N:Nms mg)(DSizeAt:Def P w Ξ mg base "size_at" 1 ["outside","address"] (spP Q9)):FnOk P w Ξ mg base CX0 2 f fd ["outside"] (spP Kn):=by
 refine F.zP scHeadsIn (λts Qt h=>?_) (λcdv A outer s H E hr=>?_)
 ·obtain⟨_,_,rfl,_⟩:=h
  rfl
 refine⟨_,(qg (qF (i:=1) scHeadsIn.nd rfl W3 (qW qf))
  (qg (qF (i:=2) scHeadsIn.nd rfl W3 qe)
  (qg (kO PassesOwn.never (qp zF (qv 2) (qG qV (by rfl) N.len ze (qa_c (qv 0) qf)) (qB _))
   (qg (xy (ZH PySem.F.slot_list_append PySem.F.type_list_append zl (qv 1) (qa_c (qv 2) qf)))
   (qi (qs_aug (i:=2) scHeadsIn.nd rfl W3 (qu DSizeAt (Wf hr) (qa_c (qv 0) (qa_c (qv 2) qf))) ip_add))))
  (qi (qy (qv 1)))))),_,(qj (qx (kr qh) (qm 1))
   (qj (qx Wh (qm 2))
   (qj (kU (qr (qk (qo λ_ _=>.bl _) (qd 2) (vO (qc (qd 0) qh))))
   (qj (xE (Xi zi (qd 1) (qc (qd 2) qh)))
   (cs_aug (qA (qc (qd 0) (qc (qd 2) qh))))))
   (qC (qd 1))))),λts Qt h=>?_⟩
 obtain⟨os,hs,rfl,⟨⟨bits,sm,hn,hh⟩,hw,hz⟩,q⟩:=h;symm;refine⟨λd ρ M=>∃(k:Nat)(gs:List Nat),d=os.length-k/\ρ=[some (.p (qZ os)),some (.m 0),some (.p (.int k))]/\M=[.lst ((gs.map λ(j:Nat)=>T.int j).map U.p)]/\(thI bits sm os k).1=none/\gs++(thI bits sm os k).2=hs/\gs.length<=k,⟨_,0, [],rfl,rfl,rfl,hn,hh,Up _⟩, ?_⟩;rintro d ρ M ⟨k,gs,rfl,rfl,rfl,h1,h2,h3⟩;symm;rw[Ul];refine ite2 (λhl=>?_) (λhl=>?_)
 ·have hl:k<os.length:=by lia
  obtain⟨x,hx⟩:∃x,os[k]?=some x:=⟨_,Uk hl⟩;have hxw:=hw x (Um hx);have hb:zw bits sm os k x=none:=by
   cases hb:zw bits sm os k x with
   |none=>rfl
   |some w=>rw[Vn hx hxw hb] at h1; cases h1
  have hs2:=xh hb;rw[QZ hx hb] at h1 h2;refine⟨λρ M=>ρ=[some (.p (qZ os)),some (.m 0),some (.p (.int ((k+(vp x).toNat:Nat):Int)))]/\M=[.lst (((gs++[k]).map λ(j:Nat)=>T.int j).map U.p)], ?_, ?_⟩
  ·rintro ρ' M' ⟨rfl,rfl⟩
   exact⟨os.length-(k+(vp x).toNat),by lia,k+(vp x).toNat,gs++[k],rfl,rfl,rfl,h1,by rw[UD]; exact h2,by rw[Uu]; show gs.length+1<=_; lia⟩
  ·symm
   refine⟨by rw[Ul,Ul,sizeLine_eq]; lia, ?_⟩;simp only[uAug];symm;have e:(k:Int)+vp x=((k+(vp x).toNat:Nat):Int):=by push_cast; lia
   refine⟨_,rfl,os,k,x,rfl,hx,_,rfl,by rw[e], ?_⟩;rw[Ux,Ux];rfl
 ·rw[kZ (by lia)] at h2
  rw[U0] at h2;subst h2;symm;exact⟨_,Gy rfl,q⟩
def v3(os:List Int)(k:Nat):Str:=if os[k]?=some 1 then "pair" else "far"
def hkv(os:List Int)(hs:List Nat):List (Key×U):=hs.map λ(k:Nat)=>(Key.inl (k:Int),U.p (.str (v3 os k)))
theorem J9(h:∀kv∈kvs,kv.1≠k):putU kvs k v=kvs++[(k,v)]:=by
 unfold putU;rw[if_neg];intro z;obtain⟨kv,hkv,e⟩:=List.any_eq_true.mp z;exact h kv hkv (of_decide_eq_true e)
theorem pw_take{hs:List Nat}(h:hs.Pairwise (· < ·))(hk:hs[i]?=some k):∀j∈hs.take i,j≠k:=λj hj=>by
 obtain⟨n,hn⟩:=Ds hj;have hni:n<i:=by
  have:=(Uj.mp hn).1;rw[U3] at this;lia
 rw[R0,if_pos hni] at hn;obtain⟨h1,rfl⟩:=Uj.mp hn;obtain⟨h2,rfl⟩:=Uj.mp hk;exact UJ (DI.mp h n i h1 h2 hni)
abbrev xp:Stmt:=top 66
theorem scMarksByHead:FnScope ["outside","marks","address"] ["outside"] (ql xp):=⟨rfl,rfl,rfl,by decide +kernel,rfl,by decide +kernel,by decide +kernel⟩
def V5:List U->MM->UK->Prop:=λus M Q=>∃(os:List Int)(hs:List Nat),us=[.p (qZ os)]/\Hds os hs/\Q (.m M.length) (M++[.dK (hkv os hs)])
theorem KW(F:Fun Ξ "marks_by_head" "marks_by_head" xp f fd)(N:Nms mg)(GHead:GInt mg "PAIR_HEAD" 1)(DHeadsIn:Def P w Ξ mg base "heads_in" 2 ["outside"] (spP Kn)):FnOk P w Ξ mg base CX0 3 f fd ["outside"] (spU V5):=by
 refine F.zU scMarksByHead (λus M Qu h=>?_) (λcdv A outer s H E hr=>?_)
 ·obtain⟨_,_,rfl,_⟩:=h
  rfl
 refine⟨_,(qg (qF (i:=1) scMarksByHead.nd rfl W3 X0)
  (qg (vX PassesOwn.never rfl (vm (Ξ:=Ξ) rfl (qu DHeadsIn (Wf hr) (qa_c (qv 0) qf))) (qU (i:=2) scMarksByHead.nd rfl W3)
   (qi (XW (kA hr) (qv 1) (qv 2) (vF (qp vK (qH (Uc Ξ) (qv 0) (qv 2) (λ_ _=>rfl)) (vQ GHead rfl) (qB _)) qE qE))))
  (qi (qy (qv 1))))),_,(qj (qx JE (qm 1))
   (qj (zc (vN (qA (qc (qd 0) qh))) (qm 2)
   (JC (qd 1) (qd 2) (Kz (qr (qk vi (qT (qd 0) (qd 2)) Wh)) (.str _) (.str _))))
   (qC (qd 1)))),λus M Qu h=>?_⟩
 obtain⟨os,hs,rfl,hH,q⟩:=h;symm;refine⟨os,hs,rfl,hH, ?_⟩;symm;refine v6 (λi ρ M'=>∃x2,ρ=[some (.p (qZ os)),some (.m M.length),x2]/\M'=M++[.dK (hkv os (hs.take i))]) ⟨none,rfl,rfl⟩ ?_ ?_
 ·rintro i y ρ M' hy ⟨x2,rfl,rfl⟩
  obtain⟨k,hk,rfl⟩:=vJ hy;obtain⟨x,hx,_⟩:=hH.at k (Um hk);symm;refine qS (atT hx) ?_;symm;have hg:(M++[MO.dK (hkv os (hs.take i))])[M.length]?=some (.dK (hkv os (hs.take i))):=by simp
  refine jN hg ?_ ⟨_,rfl, ?_⟩
  ·have:=hH.len
   unfold hkv;rw[Ul,U3,sizeLine_eq];lia
  ·rw[D4 _ _ (Up _),Dm,DC]
   congr 2;rw[J9]
   ·unfold hkv
    rw[qM hk,Ux];have e:(if x=1 then("pair" : Str) else "far")=v3 os k:=by unfold v3; rw[hx]; simp
    rw[e];rfl
   ·intro kv hkv' z
    unfold hkv at hkv';obtain⟨j,hj,rfl⟩:=U7.mp hkv';have z:Key.inl (j:Int)=Key.inl (k:Int):=z;injection z with z
    exact pw_take hH.lt hk j hj (by lia)
 ·rintro ρ M' ⟨x2,rfl,rfl⟩
  rw[Ul,UF];symm;exact q
def wpl(os:List Int)(hs:List Nat):List Int:=hs.flatMap λ(k:Nat)=>if os[k]?=some 1 then[8+(k:Int)+1,8+(k:Int)+2] else[]
def eight:List Int:=(List.range 8).map λ(k:Nat)=>(k:Int)
abbrev xl:Stmt:=top 67
theorem scWorthPlaces:FnScope ["outside","places","address"] ["outside"] (ql xl):=⟨rfl,rfl,rfl,by decide +kernel,rfl,by decide +kernel,by decide +kernel⟩
def Jn:List T->(T->Prop)->Prop:=λts Q=>∃(os:List Int)(hs:List Nat),ts=[qZ os]/\Hds os hs/\Q (qZ (eight++wpl os hs))
theorem WB(F:Fun Ξ "worth_places" "worth_places" xl f fd)(N:Nms mg)(GHead:GInt mg "PAIR_HEAD" 1)(GReg:GInt mg "REGISTERS" 8)(DHeadsIn:Def P w Ξ mg base "heads_in" 2 ["outside"] (spP Kn)):FnOk P w Ξ mg base CX0 3 f fd ["outside"] (spP Jn):=by
 refine F.zP scWorthPlaces (λts Qt h=>?_) (λcdv A outer s H E hr=>?_)
 ·obtain⟨_,_,rfl,_⟩:=h
  rfl
 refine⟨_,(qg (qF (i:=1) scWorthPlaces.nd rfl W3 (vT (Zn rfl) (by rfl) N.list xF (qa_c (vT JG (by rfl) N.range b_range (qa_c (vQ GReg rfl) qf)) qf)))
  (qg (vX PassesOwn.never rfl (vm (Ξ:=Ξ) rfl (qu DHeadsIn (Wf hr) (qa_c (qv 0) qf))) (qU (i:=2) scWorthPlaces.nd rfl W3)
   (qi (qX (qp vK (qH (Uc Ξ) (qv 0) (qv 2) (λ_ _=>rfl)) (vQ GHead rfl) (qB _))
    (qg (xy (ZH PySem.F.slot_list_append PySem.F.type_list_append zl (qv 1) (qa_c (qt qP (qt qP (vQ GReg rfl) (qv 2)) qe) qf)))
    (qi (xy (ZH PySem.F.slot_list_append PySem.F.type_list_append zl (qv 1) (qa_c (qt qP (qt qP (vQ GReg rfl) (qv 2)) qe) qf)))))
    qI)))
  (qi (qy (qv 1))))),_,(qj (qx (GX (qc Wh qh)) (qm 1))
   (qj (zc (vN (qA (qc (qd 0) qh))) (qm 2)
   (ve (qr (qk vi (qT (qd 0) (qd 2)) Wh))
   (qj (xE (Xi zi (qd 1) (qc (qk (qo λ_ _=>.int _) (qk (qo λ_ _=>.int _) Wh (qd 2)) Wh) qh)))
   (xE (Xi zi (qd 1) (qc (qk (qo λ_ _=>.int _) (qk (qo λ_ _=>.int _) Wh (qd 2)) Wh) qh))))
   qL))
   (qC (qd 1)))),λts Qt h=>?_⟩
 obtain⟨os,hs,rfl,hH,q⟩:=h;symm;simp only[YC];symm;refine⟨8,rfl,by decide, ?_⟩;symm;refine⟨os,hs,rfl,hH, ?_⟩;symm;have hlen:∀i:Nat,(wpl os (hs.take i)).length<=2*i:=λi=>by
  unfold wpl;have:∀l:List Nat,(l.flatMap λ(k:Nat)=>if os[k]?=some 1 then[8+(k:Int)+1,8+(k:Int)+2] else[]).length<=2*l.length:=λl=>by
   induction l with
   |nil=>exact Up _
   |cons a l ih =>
    rw[D1,Uu,Ur];split<;>simp only[Ur,U1]<;>lia
  refine UY (this _) ?_;rw[U3];lia
 have hn:=hH.len;refine v6 (λi ρ M'=>(∃x2,ρ=[some (.p (qZ os)),some (.m 0),x2])/\M'=[.lst (((eight++wpl os (hs.take i)).map T.int).map U.p)]) ⟨⟨none,rfl⟩,rfl⟩ ?_ ?_
 ·rintro i y ρ M' hy ⟨⟨x2,rfl⟩,rfl⟩
  obtain⟨k,hk,rfl⟩:=vJ hy;obtain⟨x,hx,_⟩:=hH.at k (Um hk);have hi:=(Uj.mp hk).1;have hl:=hlen i;symm;refine qS (atT hx) ?_;symm;have hw:wpl os (hs.take (i+1))=wpl os (hs.take i)++(if os[k]?=some 1 then[8+(k:Int)+1,8+(k:Int)+2] else[]):=by
   unfold wpl;rw[qM hk,RS,D1,List.flatMap_nil,U0]
  rw[hw,hx];refine ite2 (λh1=>?_) (λh1=>?_)
  ·rw[if_pos (by rw[h1])]
   have h8:eight.length=8:=rfl;symm;refine⟨by rw[Ul,Ul,Uu,sizeLine_eq]; lia, ?_⟩;symm;refine⟨by rw[Uu,Ul,Ul,Uu,sizeLine_eq]; show _+1<_; lia,⟨_,rfl⟩, ?_⟩;simp only[Ux,UD,UQ,DG,Dp,Do]
  ·rw[if_neg (by simpa using h1),U0]
   exact⟨⟨_,rfl⟩,rfl⟩
 ·rintro ρ M' ⟨⟨x2,rfl⟩,rfl⟩
  rw[Ul,UF];symm;exact⟨_,Gy rfl,q⟩
abbrev jX:Stmt:=top 42
theorem scAddressOf:FnScope ["laying","word","kind"] ["laying","word"] (ql jX):=⟨rfl,rfl,rfl,by decide +kernel,rfl,by decide +kernel,by decide +kernel⟩
def kg(word:Int)(ms:List Mk3):Option (Str×Int):=match ms.filter (on word) with
 | []=>none
 |m::_=>if m.1 = "far" \/ m.1 = "pair" then some (m.1,word / 2^m.2.1.toNat) else none
def addrT:Option (Str×Int)->T
 |none=>.non
 |some p=>.int p.2
def gAddr:List T->(T->Prop)->Prop:=λts Q=>∃(bits:Int)(ms:List Mk3)(word:Int),ts=[layT bits ms, .int word]/\Right bits ms/\Q (addrT (kg word ms))
theorem ok_addr(F:Fun Ξ "address_of" "address_of" jX f fd)(DMarkOf:Def P w Ξ mg base "mark_of" 2 ["laying","word"] (spP Qw))(DLoadOf:Def P w Ξ mg base "load_of" 2 ["laying","word","kind"] (spP V7)):FnOk P w Ξ mg base CX0 3 f fd ["laying","word"] (spP gAddr):=by
 refine F.zP scAddressOf (λts Qt h=>?_) (λcdv A outer s H E hr=>?_)
 ·obtain⟨_,_,_,rfl,_⟩:=h
  rfl
 refine⟨_,(qg (qF (i:=2) scAddressOf.nd rfl W3 (qu DMarkOf (Wf hr) (qa_c (qv 0) (qa_c (qv 1) qf))))
  (qi (qy (vF (qp (Ug Ξ) (qv 2) (qN (qa_c qE (qa_c qE qf))) (by with_unfolding_all rfl)) (qu DLoadOf (Wf hr) (qa_c (qv 0) (qa_c (qv 1) (qa_c (qv 2) qf)))) vC)))),_,(qj (qx (qA (qc (qd 0) (qc (qd 1) qh))) (qm 2))
   (qC (kG (qr (qk ZK (qd 2) (qO (qc Wk (qc Wk qh))))) (qA (qc (qd 0) (qc (qd 1) (qc (qd 2) qh)))) (ce_c .non)))),λts Qt h=>?_⟩
 obtain⟨bits,ms,word,rfl,hR,q⟩:=h;symm;refine⟨bits,ms,word,rfl,hR.wd,by rw[hR.n]; decide, ?_⟩;unfold kg at q;unfold j6;cases e:ms.filter (on word) with
 |nil =>
  rw[e] at q;symm;refine⟨_,_,_,rfl,rfl,rfl,⟨_,rfl, ?_⟩⟩;exact zn (by decide +kernel) q
 |cons m r =>
  rw[e] at q;have hmem:m∈ms:=(UP.mp (by rw[e]; exact UZ)).1;have hmk:=hR.ofKind hmem;have hmw:=hR.wd m hmem;symm;refine⟨_,_,_,rfl,rfl,rfl,⟨_,rfl, ?_⟩⟩;have ei:inV (V.str m.1) [V.str "far", V.str "pair"]=decide (m.1 = "far" \/ m.1 = "pair"):=by
   rw[show([V.str "far", V.str "pair"]:List V)=(["far","pair"]:List Str).map V.str from rfl,Ki];exact decide_eq_decide.mpr ⟨λz=>by rcases Uw.mp z with z|z; exact .inl z; exact .inr (Uq.mp z),λz=>by rcases z with z|z; rw[z]; exact .head _; rw[z]; exact .tail _ (.head _)⟩
  show if inV (V.str m.1) [V.str "far", V.str "pair"]=true then _ else _
  rw[ei];refine ite2 (λh=>?_) (λh=>?_)
  ·have h:=of_decide_eq_true h
   rw[show(match m::r with | []=>none|m::_=>if m.1 = "far" \/ m.1 = "pair" then some (m.1,word / 2^m.2.1.toNat) else none)=some (m.1,word / 2^m.2.1.toNat) from if_pos h] at q;exact⟨bits,ms,word,m.1,m,rfl,by rw[hR.n]; decide,hmk,hmw.1,q⟩
  ·have h:¬(m.1 = "far" \/ m.1 = "pair"):=λz=>h (decide_eq_true z)
   rw[show(match m::r with | []=>none|m::_=>if m.1 = "far" \/ m.1 = "pair" then some (m.1,word / 2^m.2.1.toNat) else none)=none from if_neg h] at q;exact q
def badW(bits:Int)(x:Int):Bool:=!(decide (0<=x)&&decide (x<2^bits.toNat))
def QK(bits:Int)(ws:List Int):Option (Str×Int):=(ws.findIdx? (badW bits)).map λ(k:Nat)=>("word", (k:Int))
abbrev jS:Stmt:=top 62
theorem scWordFault:FnScope ["laying","whole","k","word"] ["laying","whole"] (ql jS):=⟨rfl,rfl,rfl,by decide +kernel,rfl,by decide +kernel,by decide +kernel⟩
def Go:List T->(T->Prop)->Prop:=λts Q=>∃(bits:Int)(ms:List Mk3)(ws:List Int),ts=[layT bits ms,qZ ws]/\8<=bits/\bits<=32/\Q (flT (QK bits ws))
theorem ok_wordF(F:Fun Ξ "word_fault" "word_fault" jS f fd)(N:Nms mg):FnOk P w Ξ mg base CX0 1 f fd ["laying","whole"] (spP Go):=by
 refine F.zP scWordFault (λts Qt h=>?_) (λcdv A outer s H E hr=>?_)
 ·obtain⟨_,_,_,rfl,_⟩:=h
  rfl
 refine⟨_,(qg (vX PassesOwn.never rfl (qi_enumK (Ξ:=Ξ) rfl rfl N.enumerate (qa_c (qv 1) qf)) (Q3 (Ξ:=Ξ) (i:=2) (j:=3) rfl scWordFault.nd rfl rfl rfl W3 W3 W3 W3)
   (qi (qX (xi (VM j4 zF qe (qv 3) (qt vn qe (qH (Ud Ξ) (qv 0) qe (λ_ _=>rfl)))))
    (qi (qy (qN (qa_c qE (qa_c (qv 2) qf)))))
    qI)))
  (qi (qy vC))),_,(qj (zc (ci_enum (qc (qd 1) qh)) (xP 2 3)
   (ve (xD (qr (xg (qo λ_ _=>.bl _) (qo λ_ _=>.bl _) Wh (qd 3) (qk (vg λ_ _=>.int _) Wh (qQ (qd 0) Wh)))))
   (qC (qO (qc Wk (qc (qd 2) qh))))
   qL))
   (qC (ce_c .non))),λts Qt h=>?_⟩
 obtain⟨bits,ms,ws,rfl,b0,b1,q⟩:=h;symm;simp only[uEnum];symm;refine⟨_,ws.map T.int,rfl,rfl, ?_⟩;refine Yw (λi ρ M=>(∃x2 x3,ρ=[some (.p (layT bits ms)),some (.p (qZ ws)),x2,x3])/\M=[]/\∀x∈ws.take i,badW bits x=false) ⟨⟨none,none,rfl⟩,rfl,λx hx=>by cases hx⟩ ?_ ?_
 ·rintro i t ρ M ht ⟨⟨x2,x3,rfl⟩,rfl,hI⟩
  obtain⟨x,hx,rfl⟩:=vJ ht;have hil:=(Uj.mp hx).1;have bad:badW bits x=true->Qt (.tup [.str "word", .int i]):=λhb=>by
   have:ws.findIdx? (badW bits)=some i:=DU.mpr ⟨hil,by rw[(Uj.mp hx).2]; exact hb,λj hj z=>by
    have:=hI _ (Dr.mpr ⟨j,by lia,rfl⟩);rw[this] at z;cases z⟩
   unfold QK at q;rw[this] at q;exact q
  have good:badW bits x=false->∀y∈ws.take (i+1),badW bits y=false:=λhb y hy=>by
   rw[qM hx] at hy;rcases Us.mp hy with z|z
   ·exact hI y z
   ·rw[Uq.mp z]; exact hb
  symm;refine ite2 (λh0=>?_) (λh0=>bad (by simp[badW,h0]));symm;refine⟨⟨by lia,by lia,by decide⟩, ?_⟩;rw[UR];refine ite2 (λh1=>bad ?_) (λh1=>⟨⟨_,_,rfl⟩,good ?_⟩)
  ·have:¬x<2^bits.toNat:=by simpa using h1
   simp[badW,this]
  ·have:x<2^bits.toNat:=by simpa using h1
   simp[badW,h0,this]
 ·rintro ρ M ⟨⟨x2,x3,rfl⟩,rfl,hI⟩
  rw[Ul,UF] at hI;unfold QK at q;rw[DJ.mpr hI] at q;symm;exact q
def wOf(ms:List Mk3)(kind:Str):Int:=match ms.filter (λm=>decide (m.1=kind)) with
 |m::_=>m.2.1
 | []=>0
theorem jx(h:OfKind ms kind m):wOf ms kind=m.2.1:=by
 obtain⟨r,e⟩:=h;unfold wOf;rw[e]
def Z3(bits:Int)(ms:List Mk3)(room:Int):Int:=min3 room (2^(bits-wOf ms "far").toNat) (2^(bits-wOf ms "pair").toNat)
theorem JO(hR:Right bits ms)(h:kind∈zp):1<=wOf ms kind/\2<=bits-wOf ms kind/\bits-wOf ms kind<=31:=by
 obtain⟨m,hm⟩:=hR.kind h;rw[jx hm];have hmm:m∈ms:=by
  obtain⟨rest,hr⟩:=hm;exact(UP.mp (by rw[hr]; exact .head _)).1
 have h1:=hR.w m hmm;have h2:=vR m.1;have h3:=hR.b;lia
abbrev xo:Stmt:=top 56
theorem Vt:FnScope ["laying","room"] ["laying","room"] (ql xo):=⟨rfl,rfl,rfl,by decide +kernel,rfl,by decide +kernel,by decide +kernel⟩
def gMost:List T->(T->Prop)->Prop:=λts Q=>∃(bits:Int)(ms:List Mk3)(room:Int),ts=[layT bits ms, .int room]/\Right bits ms/\Q (.int (Z3 bits ms room))
theorem ok_most(F:Fun Ξ "most_outside" "most_outside" xo f fd)(N:Nms mg)(DLoadBits:Def P w Ξ mg base "load_bits" 2 ["laying","kind"] (spP Qy)):FnOk P w Ξ mg base CX0 3 f fd ["laying","room"] (spP gMost):=by
 refine F.zP Vt (λts Qt h=>?_) (λcdv A outer s H E hr=>?_)
 ·obtain⟨_,_,_,rfl,_⟩:=h
  rfl
 refine⟨_,(qi (qy (qG (G4 rfl) (by rfl) N.min Yq (qa_c (qv 1) (qa_c (qt vn qe (qu DLoadBits (Wf hr) (qa_c (qv 0) (qa_c qE qf)))) (qa_c (qt vn qe (qu DLoadBits (Wf hr) (qa_c (qv 0) (qa_c qE qf)))) qf)))))),_,(qC (ju cbl_min3 (qc (qd 1) (qc (qk (vg λ_ _=>.int _) Wh (qA (qc (qd 0) (qc Wk qh)))) (qc (qk (vg λ_ _=>.int _) Wh (qA (qc (qd 0) (qc Wk qh)))) qh))))),λts Qt h=>?_⟩;obtain⟨bits,ms,room,rfl,hR,q⟩:=h;obtain⟨m1,hm1⟩:=hR.kind (kind := "far") (by decide +kernel);obtain⟨m2,hm2⟩:=hR.kind (kind := "pair") (by decide +kernel);have h1:=JO hR (kind := "far") (by decide +kernel);have h2:=JO hR (kind := "pair") (by decide +kernel);have hl:ms.length<=900:=by rw[hR.n]; decide
 unfold Z3 at q;rw[jx hm1] at q h1;rw[jx hm2] at q h2;symm;refine⟨bits,ms,_,m1,rfl,hl,hm1, ?_⟩;symm;refine⟨⟨by lia,by lia,by decide⟩,bits,ms,_,m2,rfl,hl,hm2, ?_⟩;symm;refine⟨⟨by lia,by lia,by decide⟩, ?_⟩;simp only[rd_min3,UR];symm;exact q
def jn(bits:Int)(ms:List Mk3)(room:Int)(ws os:List Int):Bool:=(decide (0<=room)&&decide (room<=400))&&(decide (ws.length=8)&&decide ((os.length:Int)<=Z3 bits ms room))
abbrev Qb:Stmt:=top 61
theorem KM:FnScope ["laying","room","words","outside"] ["laying","room","words","outside"] (ql Qb):=⟨rfl,rfl,rfl,by decide +kernel,rfl,by decide +kernel,by decide +kernel⟩
def Gs:List T->(T->Prop)->Prop:=λts Q=>∃(bits:Int)(ms:List Mk3)(room:Int)(ws os:List Int),ts=[layT bits ms, .int room,qZ ws,qZ os]/\Right bits ms/\Q (.bl (jn bits ms room ws os))
theorem ok_roomG(F:Fun Ξ "room_goes" "room_goes" Qb f fd)(N:Nms mg)(GRoom:GInt mg "MOST_ROOM" 400)(GReg:GInt mg "REGISTERS" 8)(DMostOutside:Def P w Ξ mg base "most_outside" 3 ["laying","room"] (spP gMost)):FnOk P w Ξ mg base CX0 4 f fd ["laying","room","words","outside"] (spP Gs):=by
 refine F.zP KM (λts Qt h=>?_) (λcdv A outer s H E hr=>?_)
 ·obtain⟨_,_,_,_,_,rfl,_⟩:=h
  rfl
 refine⟨_,(qg (qX (xc (xR (xi (VM j4 j4 qe (qv 1) (vQ GRoom rfl))) (xu (qp j3 (qG qV (by rfl) N.len ze (qa_c (qv 2) qf)) (vQ GReg rfl) (qB _)))))
   (qi (qy jY))
   qI)
  (qi (qy (zM j4 (qG qV (by rfl) N.len ze (qa_c (qv 3) qf)) (qu DMostOutside (Wf hr) (qa_c (qv 0) (qa_c (qv 1) qf))) (qB _))))),_,(qj (ve (jO (xD (qr (xg (qo λ_ _=>.bl _) (qo λ_ _=>.bl _) Wh (qd 1) Wh))) (qr (qk jE (vO (qc (qd 2) qh)) Wh)))
   (qC (ce_c (.bl _)))
   qL)
   (qC (qk (qo λ_ _=>.bl _) (vO (qc (qd 3) qh)) (qA (qc (qd 0) (qc (qd 1) qh)))))),λts Qt h=>?_⟩
 obtain⟨bits,ms,room,ws,os,rfl,hR,q⟩:=h;symm;rw[Ul,Ul];refine ite2 (λh1=>ite2 (λh2=>?_) (λh2=>ite2 (λh3=>?_) (λh3=>⟨bits,ms,room,rfl,hR, ?_⟩))) (λh1=>?_)
 ·have:¬room<=400:=by simpa using h2
  simpa[jn,this] using q
 ·have:¬ws.length=8:=λz=>by simp[z] at h3
  simpa[jn,this] using q
 ·have a2:room<=400:=by simpa using h2
  have a3:ws.length=8:=by
   have:(ws.length:Int)=8:=by simpa using h3
   lia
  symm;simpa[jn,h1,a2,a3] using q
 ·simpa[jn,h1] using q
def nonB:T->Bool
 |.non=>true
 |_=>false
theorem Gh:QR (.p t)=nonB t:=by cases t<;>rfl
def zS(bits:Int)(ms:List Mk3)(os:List Int)(hs:List Nat)(word:Int):Option Str :=
 if nonB (zQ bits ms word)=true then some "kind" else match kg word ms with
 |none=>none
 |some p=>if p.2.toNat∈hs/\v3 os p.2.toNat=p.1 then none else some "address"
def jw(ws os:List Int)(k:Int):Int:=((ws++os)[k.toNat]?).getD 0
def kz(bits:Int)(ms:List Mk3)(ws os:List Int)(hs:List Nat)(k:Int):Option (Str×Int):=(zS bits ms os hs (jw ws os k)).map λw=>(w,k)
def xZ(bits:Int)(ms:List Mk3)(ws os:List Int)(hs:List Nat):Option (Str×Int):=(eight++wpl os hs).findSome? (kz bits ms ws os hs)
theorem kH{os:List Int}(h0:0<=a):∀hs:List Nat,valU (hkv os hs) (.inl a)=if a.toNat∈hs then some (.p (.str (v3 os a.toNat))) else none
 | []=>rfl
 |k::hs=>by
  unfold valU hkv;rw[UQ];by_cases h:(k:Int)=a
  ·subst h
   simp
  ·have h2:a.toNat≠k:=by lia
   rw[Rs (by simpa using h)];have:=kH (os:=os) h0 hs;unfold valU hkv at this;rw[this];simp[h2]
theorem JM{ws os:List Int}(h8:ws.length=8)(hH:Hds os hs)(hk:k∈eight++wpl os hs):0<=k/\(ws++os)[k.toNat]?=some (jw ws os k):=by
 have key:0<=k/\k.toNat<(ws++os).length:=by
  rw[Uu,h8];rcases Us.mp hk with z|z
  ·unfold eight at z
   obtain⟨j,hj,rfl⟩:=U7.mp z;have:=Dc.mp hj;lia
  ·unfold wpl at z
   obtain⟨j,hj,hz⟩:=List.mem_flatMap.mp z;obtain⟨x,hx,he,_⟩:=hH.at j hj;split at hz
   ·rename_i h1
    rw[hx] at h1;cases h1;have he:(j:Int)+3<=os.length:=he;rcases Uw.mp hz with rfl|hz
    ·lia
    ·rw[Uq.mp hz]
     lia
   ·cases hz
 refine⟨key.1, ?_⟩;unfold jw;rw[Uk key.2];rfl
theorem KH{bits:Int}{ms:List Mk3}{word:Int}{p:Str×Int}(h:kg word ms=some p):j6 word ms=.str p.1/\(p.1 = "far" \/ p.1 = "pair"):=by
 unfold kg at h;unfold j6;cases e:ms.filter (on word) with
 |nil=>rw[e] at h; cases h
 |cons m r =>
  rw[e] at h;simp only at h;split at h
  ·rename_i h1
   cases h;exact⟨rfl,h1⟩
  ·cases h
abbrev je:Stmt:=top 68
theorem scWorthFault:FnScope ["laying","words","outside","whole","marks","k","address"] ["laying","words","outside"] (ql je):=⟨rfl,rfl,rfl,by decide +kernel,rfl,by decide +kernel,by decide +kernel⟩
def Jj:List T->(T->Prop)->Prop:=λts Q=>∃(bits:Int)(ms:List Mk3)(ws os:List Int)(hs:List Nat),ts=[layT bits ms,qZ ws,qZ os]/\Right bits ms/\ws.length=8/\Hds os hs/\QV bits (ws++os)/\Q (flT (xZ bits ms ws os hs))
theorem Wu(F:Fun Ξ "worth_fault" "worth_fault" je f fd)(N:Nms mg)(DMarksByHead:Def P w Ξ mg base "marks_by_head" 3 ["outside"] (spU V5))(DWorthPlaces:Def P w Ξ mg base "worth_places" 3 ["outside"] (spP Jn))(DWorthOf:Def P w Ξ mg base "worth_of" 3 ["laying","word"] (spP VW))(DAddressOf:Def P w Ξ mg base "address_of" 3 ["laying","word"] (spP gAddr))(DMarkOf:Def P w Ξ mg base "mark_of" 2 ["laying","word"] (spP Qw)):FnOk P w Ξ mg base CX0 4 f fd ["laying","words","outside"] (spP Jj):=by
 refine F.zP scWorthFault (λts Qt h=>?_) (λcdv A outer s H E hr=>?_)
 ·obtain⟨_,_,_,_,_,rfl,_⟩:=h
  rfl
 refine⟨_,(qg (qF (i:=3) scWorthFault.nd rfl W3 (qt vZ (qv 1) (qv 2)))
  (qg (qF (i:=4) scWorthFault.nd rfl W3 (qu DMarksByHead (Wf hr) (qa_c (qv 2) qf)))
  (qg (vX PassesOwn.never rfl (vm (Ξ:=Ξ) rfl (qu DWorthPlaces (Wf hr) (qa_c (qv 2) qf))) (qU (i:=5) scWorthFault.nd rfl W3)
   (qg (qX (qp Q5 (qu DWorthOf (Wf hr) (qa_c (qv 0) (qa_c (qH (Uc Ξ) (qv 3) (qv 5) (λ_ _=>rfl)) qf))) vC (qB _))
    (qi (qy (qN (qa_c qE (qa_c (qv 5) qf)))))
    qI)
   (qg (qF (i:=6) scWorthFault.nd rfl W3 (qu DAddressOf (Wf hr) (qa_c (qv 0) (qa_c (qH (Uc Ξ) (qv 3) (qv 5) (λ_ _=>rfl)) qf))))
   (qi (qX (xc (jB (qp Qj (qv 6) vC (qB _)) (xw (qp j3 (J8 (kA hr) (qv 4) (qv 6) ⟨rfl,rfl,rfl,rfl⟩) (qu DMarkOf (Wf hr) (qa_c (qv 0) (qa_c (qH (Uc Ξ) (qv 3) (qv 5) (λ_ _=>rfl)) qf))) (qB _)))))
    (qi (qy (qN (qa_c qE (qa_c (qv 5) qf)))))
    qI)))))
  (qi (qy vC))))),_,(qj (qx (qk vI (qd 1) (qd 2)) (qm 3))
   (qj (qx (qD (qc (qd 2) qh)) (qm 4))
   (qj (zc (vN (qA (qc (qd 2) qh))) (qm 5)
   (qj (ve (qr (Vg (qA (qc (qd 0) (qc (qT (qd 3) (qd 5)) qh)))))
   (qC (qO (qc Wk (qc (qd 5) qh))))
   qL)
   (qj (qx (qA (qc (qd 0) (qc (qT (qd 3) (qd 5)) qh))) (qm 6))
   (ve (kq (qr (QF (qd 6))) (qr (qk jE (ce_dget1 (qd 4) (qd 6)) (qA (qc (qd 0) (qc (qT (qd 3) (qd 5)) qh))))))
   (qC (qO (qc Wk (qc (qd 5) qh))))
   qL))))
   (qC (ce_c .non))))),λts Qt h=>?_⟩
 obtain⟨bits,ms,ws,os,hs,rfl,hR,h8,hH,hw,q⟩:=h;have hz:=hH.z;symm;refine⟨by rw[Ul,Ul,sizeLine_eq]; lia, ?_⟩;symm;refine⟨os,hs,rfl,hH, ?_⟩;symm;refine⟨os,hs,rfl,hH, ?_⟩;symm;refine v6 (λi ρ M=>(∃x5 x6,ρ=[some (.p (layT bits ms)),some (.p (qZ ws)),some (.p (qZ os)),some (.p (.lst (ws.map T.int++os.map T.int))),some (.m 0),x5,x6])/\M=[.dK (hkv os hs)]/\∀k∈(eight++wpl os hs).take i,kz bits ms ws os hs k=none) ⟨⟨none,none,rfl⟩,rfl,λx hx=>by cases hx⟩ ?_ ?_
 ·rintro i t ρ M ht ⟨⟨x5,x6,rfl⟩,rfl,hI⟩
  obtain⟨k,hk,rfl⟩:=vJ ht;obtain⟨k0,hkw⟩:=JM h8 hH (Um hk);generalize hwd:jw ws os k=word at hkw;have hww:=hw word (Um hkw);have ek:k=((k.toNat:Nat):Int):=by lia
  have bad:∀w,zS bits ms os hs word=some w->Qt (.tup [.str w, .int k]):=λw hb=>by
   have:xZ bits ms ws os hs=some (w,k):=by
    unfold xZ;obtain⟨hi,he⟩:=Uj.mp hk;refine Ra.mpr ⟨(eight++wpl os hs).take i,k,(eight++wpl os hs).drop (i+1), ?_, ?_,hI⟩
    ·rw[<-he,DW,Dj]
    ·unfold kz
     rw[hwd,hb];rfl
   rw[this] at q;exact q
  have good:zS bits ms os hs word=none->∀y∈(eight++wpl os hs).take (i+1),kz bits ms ws os hs y=none:=λhb y hy=>by
   rw[qM hk] at hy;rcases Us.mp hy with z|z
   ·exact hI y z
   ·rw[Uq.mp z]
    unfold kz;rw[hwd,hb];rfl
  have hix:atI (ws.map T.int++os.map T.int) k=some (.int word):=by
   rw[<-Ux,ek];exact atT hkw
  symm;refine qS hix ?_;symm;refine⟨bits,ms,word,rfl,hR,hww.1, ?_⟩;symm;show if QR (U.p (zQ bits ms word))=true then _ else _
  rw[Gh];refine ite2 (λh1=>bad "kind" (by unfold zS; rw[if_pos h1])) (λh1=>?_);have el:zS bits ms os hs word=match kg word ms with|none=>none|some p=>if p.2.toNat∈hs/\v3 os p.2.toNat=p.1 then none else some "address" := by unfold zS; rw[if_neg h1]
  symm;refine qS hix ?_;symm;refine⟨bits,ms,word,rfl,hR, ?_⟩;symm;cases ea:kg word ms with
  |none =>
   rw[ea] at el;have:=good el;symm;exact zn (by decide) ⟨⟨_,_,rfl⟩,this⟩
  |some p =>
   rw[ea] at el;have ep:addrT (some p)=.int p.2:=rfl;rw[ep];symm;have hp0:0<=p.2:=by
    unfold kg at ea;cases e:ms.filter (on word) with
    |nil=>rw[e] at ea; cases ea
    |cons m r =>
     rw[e] at ea;simp only at ea;split at ea
     ·cases ea
      exact DR hww.1 (RH (vL _))
     ·cases ea
   have hmk:=(KH (bits:=bits) ea).1;simp only[uDGet1];symm;refine⟨0,hkv os hs,rfl,rfl, ?_⟩;symm;refine⟨hkv os hs, .inl p.2,rfl,rfl, ?_⟩;rw[kH hp0];by_cases hm:p.2.toNat∈hs
   ·rw[if_pos hm]
    show IxS _ _ _ _ _;refine qS hix ?_;symm;refine⟨bits,ms,word,rfl,hR.wd,by rw[hR.n]; decide, ?_⟩;rw[hmk];symm;show OpS _ _ (U.p (.str (v3 os p.2.toNat))) _ _;symm;refine ite2 (λh=>bad "address" ?_) (λh=>⟨⟨_,_,rfl⟩,good ?_⟩)
    ·have h:¬v3 os p.2.toNat=p.1:=by simpa using h
     rw[el];exact if_neg λz=>h z.2
    ·have h:v3 os p.2.toNat=p.1:=by simpa using h
     rw[el];exact if_pos ⟨hm,h⟩
   ·rw[if_neg hm]
    show IxS _ _ _ _ _;refine qS hix ?_;symm;refine⟨bits,ms,word,rfl,hR.wd,by rw[hR.n]; decide, ?_⟩;rw[hmk];symm;show OpS _ _ (U.p .non) _ _;symm;refine⟨V.non,V.str p.1,rfl,rfl,rfl,⟨_,rfl, ?_⟩⟩;refine v9 (by simp) (bad "address" ?_);rw[el];exact if_neg λz=>hm z.1
 ·rintro ρ M ⟨⟨x5,x6,rfl⟩,rfl,hI⟩
  have hI:∀k∈eight++wpl os hs,kz bits ms ws os hs k=none:=by
   rw[Ul,UF] at hI;exact hI
  unfold xZ at q;rw[Rb.mpr hI] at q;symm;exact q
def imT(bits:Int)(ms:List Mk3)(room:Int)(ws os:List Int):T:=.tup [layT bits ms, .int room,qZ ws,qZ os]
def zW(bits:Int)(ms:List Mk3)(room:Int)(ws os:List Int):Option (Str×Int) :=
 if nonB (zA bits ms)=false then some ("laying", 0) else if jn bits ms room ws os=false then some ("room", 0) else
 match QK bits (ws++os) with
 |some p=>some p
 |none=>match(thI bits (bits-wOf ms "small") os 0).1 with
  |some p=>some p
  |none=>xZ bits ms ws os (thI bits (bits-wOf ms "small") os 0).2
abbrev jk:Stmt:=top 69
theorem scImageFault:FnScope ["image","laying","words","outside","fault"] ["image"] (ql jk):=⟨rfl,rfl,rfl,by decide +kernel,rfl,by decide +kernel,by decide +kernel⟩
def V9:List T->(T->Prop)->Prop:=λts Q=>∃(bits:Int)(ms:List Mk3)(room:Int)(ws os:List Int),ts=[imT bits ms room ws os]/\ws.length<=10000/\os.length<=10000/\Q (flT (zW bits ms room ws os))
theorem WG(F:Fun Ξ "image_fault" "image_fault" jk f fd)(DLayingFault:Def P w Ξ mg base "laying_fault" 4 ["laying"] (spP Gw))(DRoomGoes:Def P w Ξ mg base "room_goes" 4 ["laying","room","words","outside"] (spP Gs))(DWordFault:Def P w Ξ mg base "word_fault" 1 ["laying","whole"] (spP Go))(DThingFault:Def P w Ξ mg base "thing_fault" 5 ["laying","outside"] (spP Gp))(DWorthFault:Def P w Ξ mg base "worth_fault" 4 ["laying","words","outside"] (spP Jj)):FnOk P w Ξ mg base CX0 6 f fd ["image"] (spP V9):=by
 refine F.zP scImageFault (λts Qt h=>?_) (λcdv A outer s H E hr=>?_)
 ·obtain⟨_,_,_,_,_,rfl,_⟩:=h
  rfl
 refine⟨_,(qg (qF (i:=1) scImageFault.nd rfl W3 (qH (Ud Ξ) (qv 0) qe (λ_ _=>rfl)))
  (qg (qF (i:=2) scImageFault.nd rfl W3 (qH (Ud Ξ) (qv 0) qe (λ_ _=>rfl)))
  (qg (qF (i:=3) scImageFault.nd rfl W3 (qH (Ud Ξ) (qv 0) qe (λ_ _=>rfl)))
  (qg (qX (qp Qj (qu DLayingFault (Wf hr) (qa_c (qv 1) qf)) vC (qB _))
   (qi (qy (qN (qa_c qE (qa_c qe qf)))))
   qI)
  (qg (qX (xi (zE (qu DRoomGoes (Wf hr) (qa_c (qv 1) (qa_c (qH (Ud Ξ) (qv 0) qe (λ_ _=>rfl)) (qa_c (qv 2) (qa_c (qv 3) qf)))))))
   (qi (qy (qN (qa_c qE (qa_c qe qf)))))
   qI)
  (qg (qF (i:=4) scImageFault.nd rfl W3 (qu DWordFault (Wf hr) (qa_c (qv 1) (qa_c (qt vZ (qv 2) (qv 3)) qf))))
  (qg (qX (qp Q5 (qv 4) vC (qB _))
   (qi (qF (i:=4) scImageFault.nd rfl W3 (qu DThingFault (Wf hr) (qa_c (qv 1) (qa_c (qv 3) qf)))))
   qI)
  (qg (qX (qp Q5 (qv 4) vC (qB _))
   (qi (qF (i:=4) scImageFault.nd rfl W3 (qu DWorthFault (Wf hr) (qa_c (qv 1) (qa_c (qv 2) (qa_c (qv 3) qf))))))
   qI)
  (qi (qy (qv 4))))))))))),_,(qj (qx (qQ (qd 0) Wh) (qm 1))
   (qj (qx (qQ (qd 0) Wh) (qm 2))
   (qj (qx (qQ (qd 0) Wh) (qm 3))
   (qj (ve (qr (QF (qA (qc (qd 1) qh))))
   (qC (qO (qc Wk (qc Wh qh))))
   qL)
   (qj (ve (xD (ct_b (qA (qc (qd 1) (qc (qQ (qd 0) Wh) (qc (qd 2) (qc (qd 3) qh)))))))
   (qC (qO (qc Wk (qc Wh qh))))
   qL)
   (qj (qx (qA (qc (qd 1) (qc (qk vI (qd 2) (qd 3)) qh))) (qm 4))
   (qj (ve (qr (Vg (qd 4)))
   (qx (qA (qc (qd 1) (qc (qd 3) qh))) (qm 4))
   qL)
   (qj (ve (qr (Vg (qd 4)))
   (qx (qA (qc (qd 1) (qc (qd 2) (qc (qd 3) qh)))) (qm 4))
   qL)
   (qC (qd 4)))))))))),λts Qt h=>?_⟩
 obtain⟨bits,ms,room,ws,os,rfl,hwl,hol,q⟩:=h;unfold imT;symm;refine⟨bits,ms,rfl, ?_⟩;symm;unfold zW at q;show if(!QR (U.p (zA bits ms)))=true then _ else _
 rw[Gh];refine ite2 (λh=>?_) (λh=>?_)
 ·rw[if_pos (by simpa using h)] at q
  exact q
 have hn:nonB (zA bits ms)=true:=by simpa using h
 have hR:Right bits ms:=right_iff.mp (by
  cases e:zA bits ms<;>rw[e] at hn<;>first|rfl|cases hn)
 rw[if_neg (by rw[hn]; decide)] at q;have hb:=hR.b;symm;refine⟨bits,ms,room,ws,os,rfl,hR, ?_⟩;symm;refine ite2 (λh=>?_) (λh=>?_)
 ·rw[if_pos (by simpa using h)] at q
  exact q
 have hrb:jn bits ms room ws os=true:=by simpa using h
 rw[if_neg (by rw[hrb]; decide)] at q;have h8:ws.length=8/\os.length<=400:=by
  unfold jn at hrb;simp only[De,decide_eq_true_eq] at hrb;have:=(Je (i:=room) (j:=2^(bits-wOf ms "far").toNat) (k:=2^(bits-wOf ms "pair").toNat)).1;have h2:=hrb.2.2;unfold Z3 at h2;exact⟨hrb.2.1,by lia⟩
 symm;refine⟨by rw[Ul,Ul,sizeLine_eq]; lia, ?_⟩;symm;refine⟨bits,ms,ws++os,by unfold qZ; rw[Ux],hb.1,hb.2, ?_⟩;cases hwf:QK bits (ws++os) with
 |some p =>
  rw[hwf] at q;symm;refine zn (by show ¬false=true; decide) ?_;symm;refine zn (by show ¬false=true; decide) ?_;symm;exact q
 |none =>
  rw[hwf] at q;have hw:QV bits (ws++os):=λx hx=>by
   unfold QK at hwf;have:=DJ.mp (by simpa using hwf) x hx;unfold badW at this;simpa using this
  obtain⟨m,hm⟩:=hR.kind (kind := "small") (by decide +kernel);rw[jx hm] at q;have hwo:QV bits os:=λx hx=>hw x (UB _ hx);symm;refine v9 rfl ⟨bits,ms,m,os,rfl,hR,hm,by lia,hwo, ?_⟩;cases hth:(thI bits (bits-m.2.1) os 0).1 with
  |some p =>
   rw[hth] at q;symm;refine zn (by show ¬false=true; decide) ?_;symm;exact q
  |none =>
   rw[hth] at q;symm;refine v9 rfl ⟨bits,ms,ws,os,_,rfl,hR,h8.1,⟨⟨bits,bits-m.2.1,hth,rfl⟩,λx hx=>(hwo x hx).1,by lia⟩,hw, ?_⟩;symm;exact q
abbrev jW:Stmt:=top 78
theorem scLwIsSmall:FnScope ["laying","n","half"] ["laying","n"] (ql jW):=⟨rfl,rfl,rfl,by decide +kernel,rfl,by decide +kernel,by decide +kernel⟩
def V3:List T->(T->Prop)->Prop:=λts Q=>∃(bits:Int)(ms:List Mk3)(n:Int)(m:Mk3),ts=[layT bits ms, .int n]/\ms.length<=900/\OfKind ms "small" m/\1<=bits-m.2.1/\bits-m.2.1<=60/\Q (.bl (kj (bits-m.2.1) n))
theorem Wy(F:Fun Ξ "_law_is_small" "_law_is_small" jW f fd)(DLoad:Def P w Ξ mg base "_law_load" 2 ["laying","kind"] (spP Qy)):FnOk P w Ξ mg base CX0 3 f fd ["laying","n"] (spP V3):=by
 refine F.zP scLwIsSmall (λts Qt h=>?_) (λcdv A outer s H E hr=>?_)
 ·obtain⟨_,_,_,_,rfl,_⟩:=h
  rfl
 refine⟨_,(qg (qF (i:=2) scLwIsSmall.nd rfl W3 (qt vn qe (qt vh (qu DLoad (Wf hr) (qa_c (qv 0) (qa_c qE qf))) qe)))
  (qi (qy (kP j4 zF (qt vh qe (qv 2)) (qv 1) (qv 2))))),_,(qj (qx (qk (vg λ_ _=>.int _) Wh (qk (qo λ_ _=>.int _) (qA (qc (qd 0) (qc Wk qh))) Wh)) (qm 2))
   (qC (xg (qo λ_ _=>.bl _) (qo λ_ _=>.bl _) (qk (qo λ_ _=>.int _) Wh (qd 2)) (qd 1) (qd 2)))),λts Qt h=>?_⟩
 obtain⟨bits,ms,n,m,rfl,hl,hm,s0,s1,q⟩:=h;symm;refine⟨bits,ms,"small", m,rfl,hl,hm, ?_⟩;symm;refine⟨⟨by lia,by lia,by decide⟩, ?_⟩;rw[UR];unfold kj at q;generalize(2:Int)^(bits-m.2.1-1).toNat=half at q ⊢;rw[Int.zero_sub];by_cases h1 : -half<=n
 ·rw[if_pos h1]
  simpa only[h1,true_and] using q
 ·rw[if_neg h1]
  simpa only[h1,false_and,decide_false] using q
theorem disj_not(ha:0<=a.2/\a.2<2^a.1.toNat)(hb:0<=b.2/\b.2<2^b.1.toNat)(h:(a.2-b.2) % 2^(min a.1.toNat b.1.toNat)=0):¬Disj a b:=λd=>by
 rcases Nat.le_total a.1.toNat b.1.toNat with z|z
 ·rw[Dx z] at h
  have h2:(b.2-a.2) % 2^a.1.toNat=0:=by
   rw[<-Rm] at h ⊢;obtain⟨c,hc⟩:=h;exact⟨-c,by rw[Int.mul_neg]; lia⟩
  exact d b.2 ⟨(WU ha.1 ha.2).mp h2,Dn hb.1 hb.2⟩
 ·rw[Nat.min_eq_right z] at h
  exact d a.2 ⟨Dn ha.1 ha.2,(WU hb.1 hb.2).mp h⟩
theorem disj_yes(h:¬(a.2-b.2) % 2^(min a.1.toNat b.1.toNat)=0):Disj a b:=GJ λz=>h (Int.emod_eq_emod_iff_emod_sub_eq_zero.mp z)
theorem nonB_right:nonB (zA bits ms)=true↔Right bits ms:=by
 rw[<-right_iff];constructor
 ·intro h
  cases e:zA bits ms<;>rw[e] at h<;>first|rfl|cases h
 ·intro h; rw[h]; rfl
def need2:List (Key×U):=[(.inr "small", .p (.int 2)),(.inr "one", .p (.int 2)),(.inr "far", .p (.int 3)),(.inr "pair", .p (.int 3)),(.inr "sign", .p (.int 7))]
theorem WP(h:kind∈zp):valU (xj [] need2) (.inr kind)=some (.p (.int (need kind))):=by
 have e:xj [] need2=need2:=rfl;rw[e];have h':kind = "small" \/ kind = "far" \/ kind = "pair" \/ kind = "sign" \/ kind = "one" := by simpa[zp] using h
 rcases h' with rfl|rfl|rfl|rfl|rfl<;>rfl
def fiveS:List Str:=["far","one","pair","sign","small"]
theorem fiveS_s:sortedS fiveS=true:=by decide +kernel
theorem fiveS_p:fiveS.Perm zp:=by decide +kernel
def mkGo(bits:Int)(m:Mk3):Prop:=((1<=m.2.1/\m.2.1<=bits-1)/\0<=m.2.2/\m.2.2<2^m.2.1.toNat)/\need m.1<=bits-m.2.1
theorem Right.go(r:Right bits ms)(hm:m∈ms):mkGo bits m:=by
 have h1:=r.w m hm;have h2:=vR m.1;exact⟨⟨⟨h1.1,by lia⟩,r.p m hm⟩,by lia⟩
abbrev YZ:Stmt:=top 79
theorem scRight:FnScope ["laying","bits","marks","kind","width","pattern","j","k","least"] ["laying"] (ql YZ):=⟨rfl,rfl,rfl,by decide +kernel,rfl,by decide +kernel,by decide +kernel⟩
theorem ndRight1:(["laying","bits","marks","kind","width","pattern","j","k","least","mark"]:List Str).Nodup:=by decide +kernel
def Jm:List T->(T->Prop)->Prop:=λts Q=>∃(bits:Int)(ms:List Mk3),ts=[layT bits ms]/\ms.length<=60/\Q (.bl (nonB (zA bits ms)))
theorem WA(F:Fun Ξ "_law_right" "_law_right" YZ f fd)(N:Nms mg):FnOk P w Ξ mg base CX0 1 f fd ["laying"] (spP Jm):=by
 refine F.zP scRight (λts Qt h=>?_) (λcdv A outer s H E hr=>?_)
 ·obtain⟨_,_,rfl,_⟩:=h
  rfl
 refine⟨_,(qg (vY (qv 0) (Q3 (Ξ:=Ξ) (i:=1) (j:=2) rfl scRight.nd rfl rfl rfl W3 W3 W3 W3))
  (qg (qX (xc (xR (qp zF (qv 1) qe (qB _)) (xR (qp X5 (qv 1) qe (qB _)) (xu (qp (Wq (Ξ:=Ξ) rfl hr.units) (qG (Vi (Ξ:=Ξ) rfl) (by rfl) N.sorted Zo (qa_c (QN [false,false,false,false,false,false,false,false,false] ["mark"] (vm (Ξ:=Ξ) rfl (qv 2)) (λ_ _ _=>(qU (i:=9) ndRight1 rfl W3)) (λ_ _ _=>xx) (λ_ _ _=>(qH (Ud Ξ) (qv 9) qe (λ_ _=>rfl)))) qf)) (qW (qa_c qE (qa_c qE (qa_c qE (qa_c qE (qa_c qE qf)))))) (qB _))))))
   (qi (qy jY))
   qI)
  (qg (vX PassesOwn.never rfl (vm (Ξ:=Ξ) rfl (qv 2)) (xY (Ξ:=Ξ) (i:=3) (j:=4) (k:=5) rfl scRight.nd rfl rfl rfl rfl W3 W3 W3 W3 W3 W3)
   (qg (qX (xc (xR (qp zF (qv 4) qe (qB _)) (xR (qp ZN (qv 4) (qv 1) (qB _)) (xR (qp zF (qv 5) qe (qB _)) (xu (qp ZN (qv 5) (qt vn qe (qv 4)) (qB _)))))))
    (qi (qy jY))
    qI)
   (qi (qX (qp zF (qt vh (qv 1) (qv 4)) (jp (kA hr) (X1 (vU qE qe (vU qE qe (vU qE qe (vU qE qe (vU qE qe XX))))) rfl rfl (λz=>nomatch z) (by decide)) (qv 3) (λ_ _=>rfl)) (qB _))
    (qi (qy jY))
    qI))))
  (qg (vX PassesOwn.never rfl (vM rfl N.range (qa_c qe qf)) (qU (i:=6) scRight.nd rfl W3)
   (qi (vX PassesOwn.never rfl (vM rfl N.range (qa_c (qv 6) qf)) (qU (i:=7) scRight.nd rfl W3)
    (qg (qF (i:=8) scRight.nd rfl W3 (qG (Xl rfl) (by rfl) N.min Yq (qa_c (qH (Ud Ξ) (qH (Uc Ξ) (qv 2) (qv 6) (λ_ _=>rfl)) qe (λ_ _=>rfl)) (qa_c (qH (Ud Ξ) (qH (Uc Ξ) (qv 2) (qv 7) (λ_ _=>rfl)) qe (λ_ _=>rfl)) qf))))
    (qi (qX (qp vK (qt zz (qt vh (qH (Ud Ξ) (qH (Uc Ξ) (qv 2) (qv 6) (λ_ _=>rfl)) qe (λ_ _=>rfl)) (qH (Ud Ξ) (qH (Uc Ξ) (qv 2) (qv 7) (λ_ _=>rfl)) qe (λ_ _=>rfl))) (qt vn qe (qv 8))) qe (qB _))
     (qi (qy jY))
     qI))))))
  (qi (qy jY)))))),_,(qj (qx (qd 0) (xP 1 2))
   (qj (ve (jO (qr (qk (qo λ_ _=>.bl _) (qd 1) Wh)) (jO (qr (qk (qo λ_ _=>.bl _) (qd 1) Wh)) (qr (qk Wn (ju Xj (qc (zu (vN (qd 2)) (zd 9) Ve (qQ (qd 9) Wh)) qh)) (vf (qc Wk (qc Wk (qc Wk (qc Wk (qc Wk qh))))))))))
   (qC (ce_c (.bl _)))
   qL)
   (qj (zc (vN (qd 2)) (zL 3 4 5)
   (qj (ve (jO (qr (qk (qo λ_ _=>.bl _) (qd 4) Wh)) (jO (qr (qk (qo λ_ _=>.bl _) (qd 4) (qd 1))) (jO (qr (qk (qo λ_ _=>.bl _) (qd 5) Wh)) (qr (qk (qo λ_ _=>.bl _) (qd 5) (qk (vg λ_ _=>.int _) Wh (qd 4)))))))
   (qC (ce_c (.bl _)))
   qL)
   (ve (qr (qk (qo λ_ _=>.bl _) (qk (qo λ_ _=>.int _) (qd 1) (qd 4)) (Zm (JF (zr Wk Wh (zr Wk Wh (zr Wk Wh (zr Wk Wh (zr Wk Wh GS)))))) (qd 3))))
   (qC (ce_c (.bl _)))
   qL)))
   (qj (zc (zO (qc Wh qh)) (qm 6)
   (zc (zO (qc (qd 6) qh)) (qm 7)
   (qj (qx (ju G2 (qc (qQ (qT (qd 2) (qd 6)) Wh) (qc (qQ (qT (qd 2) (qd 7)) Wh) qh))) (qm 8))
   (ve (qr (qk vi (qk (vg λ_ _=>.int _) (qk (qo λ_ _=>.int _) (qQ (qT (qd 2) (qd 6)) Wh) (qQ (qT (qd 2) (qd 7)) Wh)) (qk (vg λ_ _=>.int _) Wh (qd 8))) Wh))
   (qC (ce_c (.bl _)))
   qL))))
   (qC (ce_c (.bl _))))))),λts Qt h=>?_⟩
 obtain⟨bits,ms,rfl,hl,q⟩:=h;have no:¬Right bits ms->Qt (.bl false):=λh=>by
  have:nonB (zA bits ms)=false:=by
   cases e:nonB (zA bits ms) with
   |false=>rfl
   |true=>exact absurd (nonB_right.mp e) h
  rw[this] at q; exact q
 have yes:Right bits ms->Qt (.bl true):=λh=>by rw[nonB_right.mpr h] at q; exact q
 symm;refine ite2 (λh=>no λr=>by have:=r.b; lia) (λhb8=>ite2 (λh=>no λr=>by have:=r.b; lia) (λhb32=>?_));refine zg (by rw[Ul,sizeLine_eq]; lia) (λi acc M'=>M'=[]/\acc=((ms.take i).map (·.1)).map T.str) ⟨rfl,rfl⟩ ?_ ?_
 ·rintro i x acc M' hx _ ⟨rfl,rfl⟩
  obtain⟨m,hm,rfl⟩:=vJ hx;symm;rw[qM hm,Ux,Ux];rfl
 rintro acc M' ⟨rfl,rfl⟩;rw[Ul,UF];symm;refine⟨_,rfl,by rw[Ul]; lia,λs1 p1 o1=>?_⟩;refine eqStrs (ms:=fiveS) ?_;symm;refine ite2 (λh=>no λr=>?_) (λh=>?_)
 ·have h:¬s1=fiveS:=by simpa using h
  exact h (k9 o1 fiveS_s (p1.trans (r.k.trans fiveS_p.symm)))
 have h:s1=fiveS:=by simpa using h
 subst h;have hkp:(ms.map (·.1)).Perm zp:=p1.symm.trans fiveS_p;have hn5:ms.length=5:=by
  have:=hkp.length_eq;rw[Ul] at this;exact this
 symm;refine v6 (λi ρ M=>(∃x3 x4 x5,ρ=[some (.p (layT bits ms)),some (.p (.int bits)),some (.p (.lst (ms.map zj))),x3,x4,x5,none,none,none])/\∀m∈ms.take i,mkGo bits m) ⟨⟨none,none,none,rfl⟩,λm hm=>by cases hm⟩ ?_ ?_
 ·rintro i x ρ M hx ⟨⟨x3,x4,x5,rfl⟩,hI⟩
  obtain⟨m,hm,rfl⟩:=vJ hx;have hmm:=Um hm;have hk5:m.1∈zp:=hkp.mem_iff.mp (D7 hmm);have bad:¬mkGo bits m->Qt (.bl false):=λz=>no λr=>z (r.go hmm);symm;refine ite2 (λh=>bad λz=>by have:=z.1.1; lia) (λh1=>ite2 (λh=>bad λz=>by have:=z.1.1; lia) (λh2=>ite2 (λh=>bad λz=>by have:=z.1.2; lia) (λh3=>⟨⟨by lia,by lia,by decide⟩, ?_⟩)));rw[UR];refine ite2 (λh=>bad λz=>by have:=z.1.2; lia) (λh4=>?_);symm;simp only[Zt];symm;refine⟨by simp,need2,rfl,by show 5<=15; decide, ?_⟩;refine Zi (UL (by simp)) (WP hk5) ?_;symm;refine ite2 (λh=>bad λz=>by have:=z.2; lia) (λh5=>⟨⟨_,_,_,rfl⟩,λy hy=>?_⟩);rw[qM hm] at hy;rcases Us.mp hy with z|z
  ·exact hI y z
  ·rw[Uq.mp z]
   exact⟨⟨⟨by lia,by lia⟩,by lia,by lia⟩,by lia⟩
 ·rintro ρ M ⟨⟨x3,x4,x5,rfl⟩,hI⟩
  have hI:∀m∈ms,mkGo bits m:=by
   rw[Ul,UF] at hI;exact hI
  have fp:FormP bits ms:=⟨⟨by lia,by lia⟩,hn5,hkp,λm hm=>(hI m hm).1⟩;symm;refine xX (by decide) (by decide) ?_;refine xG (λj ρ M=>(∃x3 x4 x5 x6 x7 x8,ρ=[some (.p (layT bits ms)),some (.p (.int bits)),some (.p (.lst (ms.map zj))),x3,x4,x5,x6,x7,x8])/\∀j' k' u v,j'<j->k'<j'->ms[j']?=some u->ms[k']?=some v->Disj v.2 u.2) ⟨⟨_,_,_,_,_,_,rfl⟩,λj' k' u v h=>absurd h (Nat.not_lt_zero _)⟩ ?_ ?_
  ·rintro j ρ M hj ⟨⟨x3,x4,x5,x6,x7,x8,rfl⟩,hJ⟩
   have hj:j<5:=hj;obtain⟨u,hu⟩:∃u,ms[j]?=some u:=⟨_,Uk (by lia)⟩;symm;refine xX (by lia) (by lia) ?_;refine xG (λk ρ M=>(∃x3 x4 x5 x7 x8,ρ=[some (.p (layT bits ms)),some (.p (.int bits)),some (.p (.lst (ms.map zj))),x3,x4,x5,some (.p (.int j)),x7,x8])/\∀k' v,k'<k->ms[k']?=some v->Disj v.2 u.2) ⟨⟨_,_,_,_,_,rfl⟩,λk' v h=>absurd h (Nat.not_lt_zero _)⟩ ?_ ?_
   ·rintro k ρ M hk ⟨⟨x3,x4,x5,x7,x8,rfl⟩,hK⟩
    have hk:k<j:=by lia
    obtain⟨v,hv⟩:∃v,ms[k]?=some v:=⟨_,Uk (by lia)⟩;have fu:=fp.m u (Um hu);have fv:=fp.m v (Um hv);symm;refine qS (atT hu) ?_;symm;refine qS (atT hv) ?_;symm;refine qS (atT hu) ?_;symm;refine qS (atT hv) ?_;symm;have em:(if v.2.1<u.2.1 then v.2.1 else u.2.1).toNat=min u.2.1.toNat v.2.1.toNat:=by split<;>lia
    refine⟨⟨by split<;>lia,by split<;>lia,by decide⟩, ?_, ?_⟩
    ·rw[UR]; exact vL _
    rw[UR,em];refine ite2 (λh=>no λr=>?_) (λh=>⟨⟨_,_,_,_,_,rfl⟩,λk' v' h1 h2=>?_⟩)
    ·exact disj_not fu.2 fv.2 h (DI.mp r.d k j (by lia) (by lia) hk |> λz=>by
      rw[(Uj.mp hu).2,(Uj.mp hv).2] at z;exact z.symm)
    ·rcases R1 (Nat.lt_succ_iff.mp h1) with z|z
     ·exact hK k' v' z h2
     ·subst z
      rw[hv] at h2;cases h2;exact(disj_yes h).symm
   ·rintro ρ M ⟨⟨x3,x4,x5,x7,x8,rfl⟩,hK⟩
    refine⟨⟨_,_,_,_,_,_,rfl⟩,λj' k' u' v' h1 h2 h3 h4=>?_⟩;rcases R1 (Nat.lt_succ_iff.mp h1) with z|z
    ·exact hJ j' k' u' v' z h2 h3 h4
    ·subst z
     rw[hu] at h3;cases h3;exact hK k' v' (by lia) h4
  ·rintro ρ M ⟨⟨x3,x4,x5,x6,x7,x8,rfl⟩,hJ⟩
   symm;refine yes (J3 fp (λi j u v hu hv hij=>hJ i j u v ?_ hij hu hv) λm hm=>(hI m hm).2);have:=(Uj.mp hu).1;show i<5;lia
theorem JQ:∀L:List Int,valL b (L++[l])=valL b L+l*2^(b*L.length)
 | []=>by simp[valL]
 |x::L=>by
  show x+2^b*valL b (L++[l])=x+2^b*valL b L+l*2^(b*(L.length+1));rw[JQ L,Int.mul_add,Nat.mul_succ,R4 (b*L.length),RP, <-Int.mul_assoc, <-Int.mul_assoc,RD l, <-Int.add_assoc]
abbrev Qc:Stmt:=top 80
theorem scNumberIn:FnScope ["laying","outside","k","n","j"] ["laying","outside","k"] (ql Qc):=⟨rfl,rfl,rfl,by decide +kernel,rfl,by decide +kernel,by decide +kernel⟩
def Km:List T->(T->Prop)->Prop:=λts Q=>∃(bits:Int)(ms:List Mk3)(os:List Int)(k:Nat)(x:Int),ts=[layT bits ms,qZ os, .int k]/\os[k]?=some x/\4<=x/\x % 2=0/\k+vp x<=os.length/\os.length<=1000/\1<=bits/\bits<=60/\(∀y∈limI os k x,0<=y/\y<2^bits.toNat)/\Q (.int (numI bits.toNat os k x))
theorem ok_numIn(F:Fun Ξ "_law_number_in" "_law_number_in" Qc f fd)(N:Nms mg):FnOk P w Ξ mg base CX0 1 f fd ["laying","outside","k"] (spP Km):=by
 refine F.zP scNumberIn (λts Qt h=>?_) (λcdv A outer s H E hr=>?_)
 ·obtain⟨_,_,_,_,_,rfl,_⟩:=h
  rfl
 refine⟨_,(qg (qF (i:=3) scNumberIn.nd rfl W3 qe)
  (qg (vX PassesOwn.never rfl (vM rfl N.range (qa_c (qt xJ (qH (Uc Ξ) (qv 1) (qv 2) (λ_ _=>rfl)) qe) qf)) (qU (i:=4) scNumberIn.nd rfl W3)
   (qi (qF (i:=3) scNumberIn.nd rfl W3 (qt qP (qv 3) (qt Wp (qH (Uc Ξ) (qv 1) (qt qP (qt qP (qv 2) qe) (qv 4)) (λ_ _=>rfl)) (qt Qk (qH (Ud Ξ) (qv 0) qe (λ_ _=>rfl)) (qv 4)))))))
  (qi (qy (vF (qp vK (qt zz (qH (Uc Ξ) (qv 1) (qv 2) (λ_ _=>rfl)) qe) qe (qB _)) (qt vh qe (qv 3)) (qv 3)))))),_,(qj (qx Wh (qm 3))
   (qj (zc (zO (qc (qk (vg λ_ _=>.int _) (qT (qd 1) (qd 2)) Wh) qh)) (qm 4)
   (qx (qk (qo λ_ _=>.int _) (qd 3) (qk (vg λ_ _=>.int _) (qT (qd 1) (qk (qo λ_ _=>.int _) (qk (qo λ_ _=>.int _) (qd 2) Wh) (qd 4))) (qk (vg λ_ _=>.int _) (qQ (qd 0) Wh) (qd 4)))) (qm 3)))
   (qC (kG (qr (qk vi (qk (vg λ_ _=>.int _) (qT (qd 1) (qd 2)) Wh) Wh)) (qk (qo λ_ _=>.int _) Wh (qd 3)) (qd 3))))),λts Qt h=>?_⟩
 obtain⟨bits,ms,os,k,x,rfl,hx,h4,h2,he,hz,b0,b1,hw,q⟩:=h;have hll:=Kd h4 he;have hs:vp x=x / 4+1:=by unfold vp; rw[if_neg (by lia)]
 generalize hL:limI os k x=L at hw hll;symm;refine qS (atT hx) ?_;symm;refine⟨⟨by decide,by decide⟩,xX (by lia) (by lia) ?_⟩;refine xG (λi ρ M=>M=[]/\∃x4,ρ=[some (.p (layT bits ms)),some (.p (qZ os)),some (.p (.int k)),some (.p (.int (valL bits.toNat (L.take i)))),x4]) ⟨rfl,none,rfl⟩ ?_ ?_
 ·rintro i ρ M hi ⟨rfl,x4,rfl⟩
  have hiL:i<L.length:=by lia
  obtain⟨l,hl⟩:∃l,L[i]?=some l:=⟨_,Uk hiL⟩;have hlo:os[k+1+i]?=some l:=by
   rw[<-hL] at hl;unfold limI at hl;rw[R0,if_pos (by lia),List.getElem?_drop] at hl;exact hl
  have hlw:=hw l (Um hl);symm;rw[show(k:Int)+1+i=((k+1+i:Nat):Int) by push_cast; rfl];refine qS (atT hlo) ?_;symm;have hi0:(0:Int)<=bits*i:=Int.mul_nonneg (by lia) (by lia);have hi1:bits*(i:Int)<=60*1000:=Int.mul_le_mul b1 (by lia) (by lia) (by decide);have et:(bits*(i:Int)).toNat=bits.toNat*i:=by
   have:((bits.toNat*i:Nat):Int)=bits*i:=by push_cast; rw[Int.toNat_of_nonneg (by lia)]
   lia
  refine⟨.inl ⟨by lia,by lia⟩,⟨hi0,by lia, ?_⟩,some (.p (.int i)), ?_⟩
  ·have h1:l.natAbs<2^bits.toNat:=by
    have e:((2^bits.toNat:Nat):Int)=2^bits.toNat:=by simp
    lia
   exact Uy h1 (Dl (by decide) (by lia))
  ·rw[qM hl,JQ,U3,Dx (UC hiL),et]
 ·rintro ρ M ⟨rfl,x4,rfl⟩
  rw[show(x / 4).toNat=L.length from hll.symm,UF];symm;refine qS (atT hx) ?_;symm;unfold numI at q;rw[hL] at q;refine⟨by decide,ite2 (λh=>?_) (λh=>?_)⟩
  ·rw[if_neg (by lia)] at q
   rw[Int.zero_sub];exact q
  ·rw[if_pos (by lia)] at q
   exact q
abbrev Y0:Stmt:=top 81
theorem scRefOf:FnScope ["laying","word","kind","width","pattern","load","half"] ["laying","word"] (ql Y0):=⟨rfl,rfl,rfl,by decide +kernel,rfl,by decide +kernel,by decide +kernel⟩
def Gu:List T->(T->Prop)->Prop:=λts Q=>∃(bits:Int)(ms:List Mk3)(word:Int),ts=[layT bits ms, .int word]/\Right bits ms/\0<=word/\Q (zQ bits ms word)
theorem ok_refOf(F:Fun Ξ "_law_ref_of" "_law_ref_of" Y0 f fd):FnOk P w Ξ mg base CX0 1 f fd ["laying","word"] (spP Gu):=by
 refine F.zP scRefOf (λts Qt h=>?_) (λcdv A outer s H E hr=>?_)
 ·obtain⟨_,_,_,rfl,_⟩:=h
  rfl
 refine⟨_,(qg (vX PassesOwn.never rfl (vm (Ξ:=Ξ) rfl (qH (Ud Ξ) (qv 0) qe (λ_ _=>rfl))) (xY (Ξ:=Ξ) (i:=2) (j:=3) (k:=4) rfl scRefOf.nd rfl rfl rfl rfl W3 W3 W3 W3 W3 W3)
   (qi (qX (qp vK (qt zz (qv 1) (qt vn qe (qv 3))) (qv 4) (qB _))
    (qg (qF (i:=5) scRefOf.nd rfl W3 (qt op_shr (qv 1) (qv 3)))
    (qg (qF (i:=6) scRefOf.nd rfl W3 (qt vn qe (qt vh (qt vh (qH (Ud Ξ) (qv 0) qe (λ_ _=>rfl)) (qv 3)) qe)))
    (qg (qX (qp vK (qv 2) qE (qB _))
     (qi (qy (vF (qp ZN (qv 5) (qv 6) (qB _)) (qt vh (qv 5) (qt Qk qe (qv 6))) (qv 5))))
     qI)
    (qg (qX (qp vK (qv 2) qE (qB _))
     (qi (qy (vF (qp zF (qv 5) qe (qB _)) (qN (qa_c qE (qa_c (qv 5) qf))) vC)))
     qI)
    (qg (qX (qp vK (qv 2) qE (qB _))
     (qi (qy (vF (qp zF (qv 5) qe (qB _)) (qH (Uc Ξ) (qW (qa_c qE (qa_c qE (qa_c qE qf)))) (qv 5) (λ_ _=>rfl)) vC)))
     qI)
    (qi (qy (qN (qa_c (qv 2) (qa_c (qv 5) qf))))))))))
    qI)))
  (qi (qy vC))),_,(qj (zc (vN (qQ (qd 0) Wh)) (zL 2 3 4)
   (ve (qr (qk vi (qk (vg λ_ _=>.int _) (qd 1) (qk (vg λ_ _=>.int _) Wh (qd 3))) (qd 4)))
   (qj (qx (qk (vg λ_ _=>.int _) (qd 1) (qd 3)) (qm 5))
   (qj (qx (qk (vg λ_ _=>.int _) Wh (qk (qo λ_ _=>.int _) (qk (qo λ_ _=>.int _) (qQ (qd 0) Wh) (qd 3)) Wh)) (qm 6))
   (qj (ve (qr (qk vi (qd 2) Wk))
   (qC (kG (qr (qk (qo λ_ _=>.bl _) (qd 5) (qd 6))) (qk (qo λ_ _=>.int _) (qd 5) (qk (vg λ_ _=>.int _) Wh (qd 6))) (qd 5)))
   qL)
   (qj (ve (qr (qk vi (qd 2) Wk))
   (qC (kG (qr (qk (qo λ_ _=>.bl _) (qd 5) Wh)) (qO (qc Wk (qc (qd 5) qh))) (ce_c .non)))
   qL)
   (qj (ve (qr (qk vi (qd 2) Wk))
   (qC (kG (qr (qk (qo λ_ _=>.bl _) (qd 5) Wh)) (qT (vf (qc Wk (qc Wk (qc Wk qh)))) (qd 5)) (ce_c .non)))
   qL)
   (qC (qO (qc (qd 2) (qc (qd 5) qh)))))))))
   qL))
   (qC (ce_c .non))),λts Qt h=>?_⟩
 obtain⟨bits,ms,word,rfl,hR,hw0,q⟩:=h;symm;refine v6 (λi ρ M=>M=[]/\(∃x2 x3 x4 x5 x6,ρ=[some (.p (layT bits ms)),some (.p (.int word)),x2,x3,x4,x5,x6])/\(ms.take i).filter (on word)=[]) ⟨rfl,⟨none,none,none,none,none,rfl⟩,rfl⟩ ?_ ?_
 ·rintro i x ρ M hx ⟨rfl,⟨x2,x3,x4,x5,x6,rfl⟩,hI⟩
  obtain⟨m,hm,rfl⟩:=vJ hx;have hmm:=Um hm;have hmw:=hR.w m hmm;have hb:=hR.b;have hnd:=vR m.1;symm;refine⟨⟨by lia,by lia,by decide⟩,by rw[UR]; exact vL _, ?_⟩;rw[UR];refine ite2 (λh=>?_) (λh=>⟨⟨_,_,_,_,_,rfl⟩, ?_⟩)
  ·have hf:∃r,ms.filter (on word)=m::r:=by
    obtain⟨hi,he⟩:=Uj.mp hm;refine⟨(ms.drop (i+1)).filter (on word), ?_⟩
    conv=>lhs; rw[<-Dj i ms]
    rw[U8,hI,Do,Ri hi,he,Rp (p:=on word) (decide_eq_true h)]
   obtain⟨r,hf⟩:=hf;unfold zQ at q;rw[hf] at q;have q:Qt (Zp bits m (word / 2^m.2.1.toNat)):=q;unfold Zp at q;symm;generalize hld:word / 2^m.2.1.toNat=load at q ⊢;have hl0:0<=load:=by rw[<-hld]; exact DR hw0 (RH (vL _))
   refine⟨by lia, ?_⟩;symm;refine⟨⟨by lia,by lia,by decide⟩, ?_⟩;rw[UR];symm;refine ite2 (λh1=>?_) (λh1=>?_)
   ·rw[if_pos h1] at q
    unfold Vr at q;have e2:(2:Int)^(bits-m.2.1).toNat=2*2^(bits-m.2.1-1).toNat:=by
     rw[show(bits-m.2.1).toNat=(bits-m.2.1-1).toNat+1 by lia,Int.pow_succ,RD]
    symm;refine ite2 (λh2=>?_) (λh2=>?_)
    ·rw[if_pos h2,e2] at q
     exact⟨.inl ⟨by decide,by decide⟩,q⟩
    ·rw[if_neg h2] at q
     exact q
   rw[if_neg h1] at q;symm;refine ite2 (λh2=>?_) (λh2=>?_)
   ·rw[if_neg (by rw[h2]; decide +kernel)] at q
    symm;refine ite2 (λh3=>?_) (λh3=>?_)
    ·rw[if_neg (by lia),h2] at q
     exact q
    ·rw[if_pos ⟨h2,by lia⟩] at q
     exact q
   symm;refine ite2 (λh3=>?_) (λh3=>?_)
   ·rw[if_pos h3] at q
    symm;refine ite2 (λh4=>?_) (λh4=>?_)
    ·rw[if_pos h4] at q
     rcases(show load=0\/load=1\/load=2 by lia) with rfl|rfl|rfl
     ·refine qS (t:=.str "none") rfl ?_
      symm;exact q
     ·refine qS (t:=.str "no") rfl ?_
      symm;exact q
     ·refine qS (t:=.str "yes") rfl ?_
      symm;exact q
    ·rw[if_neg h4] at q
     exact q
   rw[if_neg h3,if_neg (λz=>h2 z.1)] at q;symm;exact q
  ·rw[qM hm,U8,hI,Do,List.filter_cons_of_neg (by simpa[on] using h)]
   rfl
 ·rintro ρ M ⟨rfl,⟨x2,x3,x4,x5,x6,rfl⟩,hI⟩
  rw[Ul,UF] at hI;unfold zQ at q;rw[hI] at q;symm;exact q
abbrev xn:Stmt:=top 82
theorem scThingsFault:FnScope ["laying","outside","heads","k","head","behind"] ["laying","outside"] (ql xn):=⟨rfl,rfl,rfl,by decide +kernel,rfl,by decide +kernel,by decide +kernel⟩
def VY:List U->MM->UK->Prop:=λus M Q=>∃(bits:Int)(ms:List Mk3)(m:Mk3)(os:List Int),us=[.p (layT bits ms), .p (qZ os)]/\Right bits ms/\OfKind ms "small" m/\os.length<=1000/\QV bits os/\∀kvs,((thI bits (bits-m.2.1) os 0).1=none->kvs=hkv os (thI bits (bits-m.2.1) os 0).2)->Q (.m (M.length+1)) (M++[.dK kvs, .tup [.p (flT (thI bits (bits-m.2.1) os 0).1), .m M.length]])
theorem KP(F:Fun Ξ "_law_things_fault" "_law_things_fault" xn f fd)(N:Nms mg)(DLwIsSmall:Def P w Ξ mg base "_law_is_small" 3 ["laying","n"] (spP V3))(DNumberIn:Def P w Ξ mg base "_law_number_in" 1 ["laying","outside","k"] (spP Km)):FnOk P w Ξ mg base CX0 4 f fd ["laying","outside"] (spU VY):=by
 refine F.zU scThingsFault (λus M Qu h=>?_) (λcdv A outer s H E hr=>?_)
 ·obtain⟨_,_,_,_,rfl,_⟩:=h
  rfl
 refine⟨_,(qg (qF (i:=2) scThingsFault.nd rfl W3 X0)
  (qg (qF (i:=3) scThingsFault.nd rfl W3 qe)
  (qg (kO PassesOwn.never (qp zF (qv 3) (qG qV (by rfl) N.len ze (qa_c (qv 1) qf)) (qB _))
   (qg (qF (i:=4) scThingsFault.nd rfl W3 (qH (Uc Ξ) (qv 1) (qv 3) (λ_ _=>rfl)))
   (qg (qX (xc (jB (qp j3 (qv 4) qe (qB _)) (xw (xc (xR (qp zF (qv 4) qe (qB _)) (xu (qp vK (qt zz (qv 4) qe) qe (qB _))))))))
    (qi (qy (qN (qa_c (qN (qa_c qE (qa_c (qt qP qe (qv 3)) qf))) (qa_c (qv 2) qf)))))
    qI)
   (qg (XW (kA hr) (qv 2) (qv 3) (vF (qp vK (qv 4) qe (qB _)) qE qE))
   (qg (qF (i:=5) scThingsFault.nd rfl W3 (qt qP (qv 3) (vF (qp vK (qv 4) qe (qB _)) qe (qt qP qe (qt xJ (qv 4) qe)))))
   (qg (qX (qp X5 (qv 5) (qG qV (by rfl) N.len ze (qa_c (qv 1) qf)) (qB _))
    (qi (qy (qN (qa_c (qN (qa_c qE (qa_c (qt qP qe (qv 3)) qf))) (qa_c (qv 2) qf)))))
    qI)
   (qg (qX (xc (jB (qp j3 (qv 4) qe (qB _)) (xw (qp vK (qH (Uc Ξ) (qv 1) (qt vh (qv 5) qe) (λ_ _=>rfl)) qe (qB _)))))
    (qi (qy (qN (qa_c (qN (qa_c qE (qa_c (qt qP qe (qv 3)) qf))) (qa_c (qv 2) qf)))))
    qI)
   (qg (qX (xc (jB (qp j3 (qv 4) qe (qB _)) (xw (zE (qu DLwIsSmall (Wf hr) (qa_c (qv 0) (qa_c (qu DNumberIn (Wf hr) (qa_c (qv 0) (qa_c (qv 1) (qa_c (qv 3) qf)))) qf)))))))
    (qi (qy (qN (qa_c (qN (qa_c qE (qa_c (qt qP qe (qv 3)) qf))) (qa_c (qv 2) qf)))))
    qI)
   (qi (qF (i:=3) scThingsFault.nd rfl W3 (qv 5)))))))))))
  (qi (qy (qN (qa_c vC (qa_c (qv 2) qf)))))))),_,(qj (qx JE (qm 2))
   (qj (qx Wh (qm 3))
   (qj (kU (qr (qk (qo λ_ _=>.bl _) (qd 3) (vO (qc (qd 1) qh))))
   (qj (qx (qT (qd 1) (qd 3)) (qm 4))
   (qj (ve (kq (qr (qk jE (qd 4) Wh)) (jO (qr (qk (qo λ_ _=>.bl _) (qd 4) Wh)) (qr (qk vi (qk (vg λ_ _=>.int _) (qd 4) Wh) Wh))))
   (qC (kc (qc (qO (qc Wk (qc (qk (qo λ_ _=>.int _) Wh (qd 3)) qh))) (qc (qd 2) qh))))
   qL)
   (qj (JC (qd 2) (qd 3) (Kz (qr (qk vi (qd 4) Wh)) (.str _) (.str _)))
   (qj (qx (qk (qo λ_ _=>.int _) (qd 3) (kG (qr (qk vi (qd 4) Wh)) Wh (qk (qo λ_ _=>.int _) Wh (qk (vg λ_ _=>.int _) (qd 4) Wh)))) (qm 5))
   (qj (ve (qr (qk (qo λ_ _=>.bl _) (qd 5) (vO (qc (qd 1) qh))))
   (qC (kc (qc (qO (qc Wk (qc (qk (qo λ_ _=>.int _) Wh (qd 3)) qh))) (qc (qd 2) qh))))
   qL)
   (qj (ve (kq (qr (qk jE (qd 4) Wh)) (qr (qk vi (qT (qd 1) (qk (qo λ_ _=>.int _) (qd 5) Wh)) Wh)))
   (qC (kc (qc (qO (qc Wk (qc (qk (qo λ_ _=>.int _) Wh (qd 3)) qh))) (qc (qd 2) qh))))
   qL)
   (qj (ve (kq (qr (qk jE (qd 4) Wh)) (ct_b (qA (qc (qd 0) (qc (qA (qc (qd 0) (qc (qd 1) (qc (qd 3) qh)))) qh)))))
   (qC (kc (qc (qO (qc Wk (qc (qk (qo λ_ _=>.int _) Wh (qd 3)) qh))) (qc (qd 2) qh))))
   qL)
   (qx (qd 5) (qm 3))))))))))
   (qC (kc (qc (ce_c .non) (qc (qd 2) qh))))))),λus M Qu h=>?_⟩
 obtain⟨bits,ms,m,os,rfl,hR,hm,hz,hw,q⟩:=h;symm;refine⟨λd ρ M'=>∃(k:Nat)(gs:List Nat)(x4 x5:Option U),d=os.length-k/\ρ=[some (.p (layT bits ms)),some (.p (qZ os)),some (.m M.length),some (.p (.int k)),x4,x5]/\M'=M++[.dK (hkv os gs)]/\(thI bits (bits-m.2.1) os 0).1=(thI bits (bits-m.2.1) os k).1/\(thI bits (bits-m.2.1) os 0).2=gs++(thI bits (bits-m.2.1) os k).2/\gs.length<=k/\∀g∈gs,g<k,⟨_,0, [],none,none,rfl,rfl,rfl,rfl,rfl,Up _,λg hg=>by cases hg⟩, ?_⟩;rintro d ρ M' ⟨k,gs,x4,x5,rfl,rfl,rfl,hk,hk2,hk3,hk4⟩;symm;rw[Ul];refine ite2 (λhl=>?_) (λhl=>?_)
 ·have hl:k<os.length:=by lia
  obtain⟨x,hx⟩:∃x,os[k]?=some x:=⟨_,Uk hl⟩;have hxw:=hw x (Um hx);have hdk:∀kvs:List (Key×U),(M++[MO.dK kvs])[M.length]?=some (.dK kvs):=λkvs=>by simp
  have bad:∀w kvs,zw bits (bits-m.2.1) os k x=some w->Qu (.m (M++[MO.dK kvs]).length) (M++[MO.dK kvs]++[.tup [.p (.tup [.str w, .int (8+(k:Int))]), .m M.length]]):=λw kvs hb=>by
   have:=q kvs λz=>by rw[hk,Vn hx hxw.1 hb] at z; cases z
   rw[hk,Vn hx hxw.1 hb] at this;rw[UD,Uu];exact this
  have hput:putU (hkv os gs) (.inl (k:Int)) (.p (.str (v3 os k)))=hkv os (gs++[k]):=by
   rw[J9]
   ·unfold hkv
    rw[Ux];rfl
   ·intro kv hkv' z
    unfold hkv at hkv';obtain⟨j,hj,rfl⟩:=U7.mp hkv';have z:Key.inl (j:Int)=Key.inl (k:Int):=z;injection z with z
    have:=hk4 j hj;lia
  have hsz:(hkv os gs).length<sizeLine:=by unfold hkv; rw[Ul,sizeLine_eq]; lia
  have hset:∀kvs:List (Key×U),(M++[MO.dK (hkv os gs)]).set M.length (.dK kvs)=M++[.dK kvs]:=λkvs=>by rw[D4 _ _ (Up _),Dm]; rfl
  refine⟨λρ M'=>∃x4 x5,ρ=[some (.p (layT bits ms)),some (.p (qZ os)),some (.m M.length),some (.p (.int ((k:Int)+vp x))),x4,x5]/\M'=M++[.dK (hkv os (gs++[k]))]/\zw bits (bits-m.2.1) os k x=none, ?_, ?_⟩
  ·rintro ρ' M' ⟨y4,y5,rfl,rfl,hb⟩
   have hs:=xh hb;refine⟨os.length-(k+(vp x).toNat),by lia,k+(vp x).toNat,gs++[k],y4,y5,rfl, ?_,rfl, ?_, ?_, ?_, ?_⟩
   ·have:(k:Int)+vp x=((k+(vp x).toNat:Nat):Int):=by push_cast; lia
    rw[this]
   ·rw[hk,QZ hx hb]
   ·rw[hk2,QZ hx hb,UD]
    rfl
   ·rw[Uu]
    show gs.length+1<=_;lia
   ·intro g hg
    rcases Us.mp hg with z|z
    ·have:=hk4 g z
     lia
    ·rw[Uq.mp z]
     lia
  ·symm
   refine qS (atT hx) ?_;symm;by_cases h1:x=1
   ·subst h1
    have hka:v3 os k = "pair" := by unfold v3; rw[hx]; exact if_pos rfl
    rw[hka] at hput;refine zn (by decide) ?_;symm;refine jN (hdk _) hsz ?_;rw[hput,hset];symm;rw[Ul];refine ite2 (λh2=>bad "end" _ ?_) (λh2=>?_)
    ·unfold zw
     rw[if_neg (by decide),if_pos (by show(os.length:Int)<k+3; lia)]
    ·symm
     refine⟨_,_,rfl, ?_⟩;unfold zw;rw[if_neg (by decide),if_neg (by show ¬(os.length:Int)<k+3; lia),if_pos rfl]
   ·have hka:v3 os k = "far" := by unfold v3; rw[hx]; exact if_neg (by simpa using h1)
    rw[hka] at hput;refine v9 (by simpa using h1) ?_;have hs:vp x=x / 4+1:=by unfold vp; rw[if_neg h1]
    refine ite2 (λh4=>bad "head" _ ?_) (λh4=>⟨by decide,ite2 (λh5=>bad "head" _ ?_) (λh5=>?_)⟩)
    ·unfold zw
     rw[if_pos (by simp[zf,h1]; lia)]
    ·unfold zw
     rw[if_pos (by simp[zf,h1]; lia)]
    have hh:zf x=true:=by simp[zf]; lia
    symm;refine jN (hdk _) hsz ?_;rw[if_neg h1,hput,hset];symm;refine zn h1 ⟨⟨by decide,by decide⟩, ?_⟩;symm;rw[Ul];refine ite2 (λh6=>bad "end" _ ?_) (λh6=>?_)
    ·unfold zw
     rw[if_neg (by rw[hh]; decide),if_pos (by rw[hs]; lia)]
    obtain⟨y,hy⟩:∃y,os[k+(x / 4).toNat]?=some y:=⟨_,Uk (by lia)⟩;have e:(k:Int)+(1+x / 4)-1=((k+(x / 4).toNat:Nat):Int):=by push_cast; lia
    symm;refine v9 (by simpa using h1) ?_;rw[e];refine qS (atT hy) ?_;symm;have hbe:zw bits (bits-m.2.1) os k x=if y=0 then some ("limb" : Str) else if kj (bits-m.2.1) (numI bits.toNat os k x)=true then some ("small" : Str) else none:=by
     unfold zw;rw[if_neg (by rw[hh]; decide),if_neg (by rw[hs]; lia),if_neg h1,hy];simp
    refine ite2 (λh7=>bad "limb" _ (by rw[hbe,if_pos h7])) (λh7=>?_);rw[if_neg h7] at hbe;have hb:=hR.b;have hmm:m∈ms:=by
     obtain⟨rest,hr⟩:=hm;exact(UP.mp (by rw[hr]; exact .head _)).1
    have hmw:=hR.w m hmm;have hnd:=vR m.1;symm;refine v9 (by simpa using h1) ?_;refine⟨bits,ms,os,k,x,rfl,hx,by lia,by lia,by rw[hs]; lia,hz,by lia,by lia,λy hy=>hw y (Du (Dt hy)), ?_⟩;symm;refine⟨bits,ms,_,m,rfl,by rw[hR.n]; decide,hm,by lia,by lia, ?_⟩;symm;cases hsm:kj (bits-m.2.1) (numI bits.toNat os k x) with
    |true =>
     rw[hsm] at hbe;symm;exact bad "small" _ hbe
    |false =>
     rw[hsm] at hbe;symm;have e3:(k:Int)+vp x=k+(1+x / 4):=by rw[hs]; lia
     rw[e3];exact⟨_,_,rfl,hbe⟩
 ·have hh:=kZ (bits:=bits) (sm:=bits-m.2.1) (os:=os) (k:=k) (by lia)
  rw[hh] at hk hk2;rw[U0] at hk2;have:=q (hkv os gs) λ_=>by rw[hk2]
  rw[hk] at this;rw[UD,Uu];exact this
def prP(ws os:List Int)(k:Int):T:=.tup [.int (jw ws os k), .int k]
theorem wordA_lo{ws os:List Int}(h:k<ws.length)(hx:ws[k]?=some x):jw ws os k=x:=by
 unfold jw;rw[DZ,Uo h,hx];rfl
theorem JN{ws os:List Int}{k:Nat}(h8:ws.length=8)(hx:os[k]?=some x):jw ws os (8+(k:Int))=x:=by
 unfold jw;rw[show(8+(k:Int)).toNat=8+k by lia,Uz (by lia),h8,DS,hx];rfl
theorem Zr(Iv:Nat->UEnv->MM->Prop)(h0:Iv 0 ρ M)(hk:∀i ρ2 M2,Iv i ρ2 M2->M2[d]?=some (.dF kvs ob gs))(hs:∀i key v ρ2 M2,kvs[i]?=some (key,v)->Iv i ρ2 M2->ug (keyU key) ρ2 M2 λρ3 M3=>ub { E with nx:=Iv (i+1),ct:=Iv (i+1),bk:=E.nx } ρ3 M3)(hd:∀ρ2 M2,Iv kvs.length ρ2 M2->E.nx ρ2 M2):UFor (itD false d kvs ob gs) ug ub E ρ M :=
 ⟨Iv,h0,λi ρ2 M2 hi h=>⟨hk i ρ2 M2 h,λu hu=>by
  obtain⟨key,v,hkv,e⟩:=hu;have e:u=keyU key:=e;subst e;exact hs i key v ρ2 M2 hkv h⟩,λρ2 M2 h=>⟨hk _ ρ2 M2 h,hd ρ2 M2 h⟩⟩
theorem Xw(hR:Right bits ms)(h0:0<=word):zQ bits ms word=.non\/(∃n,zQ bits ms word=.int n/\kg word ms=none)\/(∃s,zQ bits ms word=.str s/\kg word ms=none)\/(∃l,zQ bits ms word=.tup [.str "sign", .int l]/\kg word ms=none)\/∃p,zQ bits ms word=.tup [.str p.1, .int p.2]/\kg word ms=some p/\p.1 ≠ "sign" /\ 0<=p.2:=by
 unfold zQ kg;cases e:ms.filter (on word) with
 |nil=>exact .inl rfl
 |cons m r =>
  have hmem:m∈ms:=(UP.mp (by rw[e]; exact UZ)).1;have hk5:m.1∈zp:=hR.k.mem_iff.mp (D7 hmem);have h':m.1 = "small" \/ m.1 = "far" \/ m.1 = "pair" \/ m.1 = "sign" \/ m.1 = "one" := by simpa[zp] using hk5
  have hl:=DR h0 (RH (vL m.2.1.toNat));simp only;unfold Zp;generalize word / 2^m.2.1.toNat=load at hl ⊢;rcases h' with h|h|h|h|h
  ·right; left
   rw[h,if_pos rfl,if_neg (by decide +kernel)];exact⟨_,rfl,rfl⟩
  ·right; right; right; right
   rw[h,if_neg (by decide +kernel),if_neg (by decide +kernel),if_neg (λz=>absurd z.1 (by decide +kernel)),if_pos (.inl rfl)];exact⟨("far", load),rfl,rfl,(by decide +kernel:("far" : Str) ≠ "sign"),hl⟩
  ·right; right; right; right
   rw[h,if_neg (by decide +kernel),if_neg (by decide +kernel),if_neg (λz=>absurd z.1 (by decide +kernel)),if_pos (.inr rfl)];exact⟨("pair", load),rfl,rfl,(by decide +kernel:("pair" : Str) ≠ "sign"),hl⟩
  ·rw[h,if_neg (by decide +kernel),if_neg (by decide +kernel),if_neg (show ¬(("sign" : Str) = "far" \/ ("sign" : Str) = "pair") by decide +kernel)]
   by_cases h1:128<=load
   ·left
    rw[if_pos ⟨rfl,h1⟩]
   ·right; right; right; left
    rw[if_neg (λz=>h1 z.2)];exact⟨_,rfl,rfl⟩
  ·rw[h,if_neg (by decide +kernel),if_pos rfl,if_neg (show ¬(("one" : Str) = "far" \/ ("one" : Str) = "pair") by decide +kernel)]
   by_cases h1:load<3
   ·right; right; left
    rw[if_pos h1];exact⟨_,rfl,rfl⟩
   ·left
    rw[if_neg h1]
abbrev ji:Stmt:=top 83
theorem scLeadsFault:FnScope ["laying","words","outside","heads","some","k","word","ref"] ["laying","words","outside","heads"] (ql ji):=⟨rfl,rfl,rfl,by decide +kernel,rfl,by decide +kernel,by decide +kernel⟩
def Jq:List U->MM->UK->Prop:=λus M Q=>∃(bits:Int)(ms:List Mk3)(ws os:List Int)(hs:List Nat)(d:Nat),us=[.p (layT bits ms), .p (qZ ws), .p (qZ os), .m d]/\M[d]?=some (.dK (hkv os hs))/\Right bits ms/\ws.length=8/\Hds os hs/\QV bits (ws++os)/\∀M',Q (.p (flT (xZ bits ms ws os hs))) M'
theorem WD(F:Fun Ξ "_law_leads_fault" "_law_leads_fault" ji f fd)(N:Nms mg)(DRefOf:Def P w Ξ mg base "_law_ref_of" 1 ["laying","word"] (spP Gu)):FnOk P w Ξ mg base CX0 2 f fd ["laying","words","outside","heads"] (spU Jq):=by
 refine F.zU scLeadsFault (λus M Qu h=>?_) (λcdv A outer s H E hr=>?_)
 ·obtain⟨_,_,_,_,_,_,rfl,_⟩:=h
  rfl
 refine⟨_,(qg (Y9 (i:=4) [false,true,false,false,false,false,false,false] [] scLeadsFault.nd rfl rfl (vM rfl N.range (qa_c qe qf)) (λ_ _ _=>(qU (i:=5) scLeadsFault.nd rfl W3)) (λ_ _ _=>xx) (λ_ _ _=>(qN (qa_c (qH (Uc Ξ) (qv 1) (qv 5) (λ_ _=>rfl)) (qa_c (qv 5) qf)))))
  (qg (vX PassesOwn.never rfl (XY (qv 3)) (qU (i:=5) scLeadsFault.nd rfl W3)
   (qi (qX (qp vK (jp (kA hr) (qv 3) (qv 5) (λ_ _=>rfl)) qE (qB _))
    (qi (qF (i:=4) scLeadsFault.nd rfl W3 (qt vZ (qv 4) (qW (qa_c (qN (qa_c (qH (Uc Ξ) (qv 2) (qt qP (qv 5) qe) (λ_ _=>rfl)) (qa_c (qt qP (qv 5) qe) qf))) (qa_c (qN (qa_c (qH (Uc Ξ) (qv 2) (qt qP (qv 5) qe) (λ_ _=>rfl)) (qa_c (qt qP (qv 5) qe) qf))) qf))))))
    qI)))
  (qg (vX PassesOwn.never rfl (vm (Ξ:=Ξ) rfl (qv 4)) (Q3 (Ξ:=Ξ) (i:=6) (j:=5) rfl scLeadsFault.nd rfl rfl rfl W3 W3 W3 W3)
   (qg (qF (i:=7) scLeadsFault.nd rfl W3 (qu DRefOf (Wf hr) (qa_c (qv 0) (qa_c (qv 6) qf))))
   (qg (qX (qp Q5 (qv 7) vC (qB _))
    (qi (qy (qN (qa_c qE (qa_c (qv 5) qf)))))
    qI)
   (qi (qX (xc (jB (zE (qG (Uf Ξ) (by rfl) N.isinstance va (qa_c (qv 7) (qa_c (vW (v:=.ty "tuple") (by rfl) N.tuple JH rfl) qf)))) (jB (qp j3 (qH (Ud Ξ) (qv 7) qe (λ_ _=>rfl)) qE (qB _)) (xw (qp j3 (J8 (kA hr) (qv 3) (qH (Ud Ξ) (qv 7) qe (λ_ _=>rfl)) ⟨rfl,rfl,rfl,rfl⟩) (qH (Ud Ξ) (qv 7) qe (λ_ _=>rfl)) (qB _))))))
    (qi (qy (qN (qa_c qE (qa_c (qv 5) qf)))))
    qI)))))
  (qi (qy vC))))),_,(qj (qx (zu (zO (qc Wh qh)) (zd 5) Ve (qO (qc (qT (qd 1) (qd 5)) (qc (qd 5) qh)))) (qm 4))
   (qj (zc (JD (qd 3)) (qm 5)
   (ve (qr (qk vi (Zl (qd 3) (qd 5)) Wk))
   (qx (qk vI (qd 4) (vf (qc (qO (qc (qT (qd 2) (qk (qo λ_ _=>.int _) (qd 5) Wh)) (qc (qk (qo λ_ _=>.int _) (qd 5) Wh) qh))) (qc (qO (qc (qT (qd 2) (qk (qo λ_ _=>.int _) (qd 5) Wh)) (qc (qk (qo λ_ _=>.int _) (qd 5) Wh) qh))) qh)))) (qm 4))
   qL))
   (qj (zc (vN (qd 4)) (xP 6 5)
   (qj (qx (qA (qc (qd 0) (qc (qd 6) qh))) (qm 7))
   (qj (ve (qr (Vg (qd 7)))
   (qC (qO (qc Wk (qc (qd 5) qh))))
   qL)
   (ve (kq (ct_b (GZ .tuple (qd 7))) (kq (qr (qk jE (qQ (qd 7) Wh) Wk)) (qr (qk jE (G0 (qd 3) (qQ (qd 7) Wh)) (qQ (qd 7) Wh)))))
   (qC (qO (qc Wk (qc (qd 5) qh))))
   qL))))
   (qC (ce_c .non))))),λus M Qu h=>?_⟩
 obtain⟨bits,ms,ws,os,hs,d,rfl,hd,hR,h8,hH,hw,q⟩:=h;have hdl:=(Uj.mp hd).1;have hz:=hH.z;symm;refine xX (by decide) (by decide) ?_;refine jz (by rw[sizeLine_eq]; decide) (λi acc M'=>M'=M/\acc=(eight.take i).map (prP ws os)) ⟨rfl,rfl⟩ ?_ ?_
 ·rintro i acc M' hi _ ⟨rfl,rfl⟩
  have hi:i<8:=hi;obtain⟨x,hx⟩:∃x,ws[i]?=some x:=⟨_,Uk (by lia)⟩;symm;refine qS (atT hx) ?_;symm;have h8i:eight[i]?=some (i:Int):=by unfold eight; rw[UU,List.getElem?_range hi]; rfl
  rw[qM h8i,Ux];show _=_++[T.tup [T.int (jw ws os i),T.int i]];rw[wordA_lo (by lia) hx]
 ·rintro acc M' ⟨rfl,rfl⟩
  rw[show List.take (Int.toNat 8) eight=eight from rfl];symm;simp only[YD];symm;refine⟨d,hkv os hs,rfl, .inl ⟨hd,λob gs=>?_⟩⟩;have hM2:(List.set M' d (MO.dF (hkv os hs) ob gs))[d]?=some (.dF (hkv os hs) ob gs):=UL hdl;generalize List.set M' d (MO.dF (hkv os hs) ob gs)=M2 at hM2;have hlen:∀i:Nat,(wpl os (hs.take i)).length<=2*i:=λi=>by
   unfold wpl;have:∀l:List Nat,(l.flatMap λ(k:Nat)=>if os[k]?=some 1 then[8+(k:Int)+1,8+(k:Int)+2] else[]).length<=2*l.length:=λl=>by
    induction l with
    |nil=>exact Up _
    |cons a l ih =>
     rw[D1,Uu,Ur];split<;>simp only[Ur,U1]<;>lia
   refine UY (this _) ?_;rw[U3];lia
  have hnl:=hH.len;refine Zr (λi ρ M=>M=M2/\∃x5,ρ=[some (.p (layT bits ms)),some (.p (qZ ws)),some (.p (qZ os)),some (.m d),some (.p (.lst ((eight++wpl os (hs.take i)).map (prP ws os)))),x5,none,none]) ⟨rfl,none,rfl⟩ (λi ρ M h=>by rw[h.1]; exact hM2) ?_ ?_
  ·rintro i key v ρ M hkv' ⟨rfl,x5,rfl⟩
   unfold hkv at hkv';rw[UU] at hkv';cases ek:hs[i]? with
   |none=>rw[ek] at hkv'; cases hkv'
   |some k =>
   rw[ek] at hkv';cases hkv';have hkm:=Um ek;have hil:=(Uj.mp ek).1;have hl:=hlen i;obtain⟨x,hx,he,hh⟩:=hH.at k hkm;have hw1:wpl os (hs.take (i+1))=wpl os (hs.take i)++(if os[k]?=some 1 then[8+(k:Int)+1,8+(k:Int)+2] else[]):=by
    unfold wpl;rw[qM ek,RS,D1,List.flatMap_nil,U0]
   rw[hw1,show keyU (Key.inl (k:Int))=U.p (.int k) from rfl];symm;simp only[JT];symm;have hval:valU (hkv os hs) (.inl (k:Int))=some (.p (.str (v3 os k))):=by
    rw[kH (by lia),DZ];exact if_pos hkm
   refine⟨d,hkv os hs,ob,gs, .inl (k:Int),_,rfl,hM2,rfl,hval, ?_⟩;symm;by_cases h1:os[k]?=some 1
   ·refine v9 (if_pos h1) ?_
    rw[if_pos h1];rw[hx] at h1;cases h1;have he:(k:Int)+3<=os.length:=he;obtain⟨y1,hy1⟩:∃y,os[k+1]?=some y:=⟨_,Uk (by lia)⟩;obtain⟨y2,hy2⟩:∃y,os[k+2]?=some y:=⟨_,Uk (by lia)⟩;rw[show(k:Int)+1=((k+1:Nat):Int) by push_cast; rfl];refine qS (atT hy1) ?_;symm;rw[show(k:Int)+2=((k+2:Nat):Int) by push_cast; rfl];refine qS (atT hy2) ?_;symm;refine⟨by rw[Ul,Uu,sizeLine_eq]; have:eight.length=8:=rfl; lia,some (.p (.int k)), ?_⟩;rw[<-UD,Ux (l₂:=[_,_])];show _=[_,_,_,_,some (U.p (T.lst (_++[T.tup [T.int (jw ws os (8+(k:Int)+1)),T.int (8+(k:Int)+1)],T.tup [T.int (jw ws os (8+(k:Int)+2)),T.int (8+(k:Int)+2)]]))),_,_,_];rw[show 8+(k:Int)+1=8+((k+1:Nat):Int) by push_cast; lia,show 8+(k:Int)+2=8+((k+2:Nat):Int) by push_cast; lia,JN h8 hy1,JN h8 hy2,show(k:Int)+9=8+((k+1:Nat):Int) by push_cast; lia,show(k:Int)+10=8+((k+2:Nat):Int) by push_cast; lia]
   ·refine zn (λz=>?_) ?_
    ·rw[show v3 os k = "far" from if_neg h1] at z
     exact absurd z (by decide +kernel)
    ·rw[if_neg h1,U0]
     exact⟨_,rfl⟩
  ·rintro ρ M ⟨rfl,x5,rfl⟩
   rw[show(hkv os hs).length=hs.length by unfold hkv; rw[Ul],UF];symm;refine v6 (λi ρ M'=>M'=M/\(∃x4 x5 x6 x7,ρ=[some (.p (layT bits ms)),some (.p (qZ ws)),some (.p (qZ os)),some (.m d),x4,x5,x6,x7])/\∀k∈(eight++wpl os hs).take i,kz bits ms ws os hs k=none) ⟨rfl,⟨_,_,_,_,rfl⟩,λx hx=>by cases hx⟩ ?_ ?_
   ·rintro i t ρ M' ht ⟨rfl,⟨x4,x5,x6,x7,rfl⟩,hI⟩
    obtain⟨k,hk,rfl⟩:=vJ ht;obtain⟨k0,hkw⟩:=JM h8 hH (Um hk);unfold prP;generalize hwd:jw ws os k=word at hkw;have hww:=hw word (Um hkw);have bad:∀w,zS bits ms os hs word=some w->Qu (.p (.tup [.str w, .int k])) M':=λw hb=>by
     have:xZ bits ms ws os hs=some (w,k):=by
      unfold xZ;obtain⟨hi,he⟩:=Uj.mp hk;refine Ra.mpr ⟨(eight++wpl os hs).take i,k,(eight++wpl os hs).drop (i+1), ?_, ?_,hI⟩
      ·rw[<-he,DW,Dj]
      ·unfold kz
       rw[hwd,hb];rfl
     have q:=q M';rw[this] at q;exact q
    have good:zS bits ms os hs word=none->∀y∈(eight++wpl os hs).take (i+1),kz bits ms ws os hs y=none:=λhb y hy=>by
     rw[qM hk] at hy;rcases Us.mp hy with z|z
     ·exact hI y z
     ·rw[Uq.mp z]
      unfold kz;rw[hwd,hb];rfl
    symm;refine⟨bits,ms,word,rfl,hR,hww.1, ?_⟩;symm;rcases Xw hR hww.1 with e|⟨n,e,ea⟩|⟨s,e,ea⟩|⟨l,e,ea⟩|⟨p,e,ea,hp1,hp0⟩
    ·rw[e]
     exact v9 rfl (bad "kind" (by unfold zS; rw[e]; rfl))
    ·rw[e]
     have el:zS bits ms os hs word=none:=by unfold zS; rw[e,ea]; rfl
     exact zn (by show ¬false=true; decide) (zn (by show ¬false=true; decide) ⟨⟨_,_,_,_,rfl⟩,good el⟩)
    ·rw[e]
     have el:zS bits ms os hs word=none:=by unfold zS; rw[e,ea]; rfl
     exact zn (by show ¬false=true; decide) (zn (by show ¬false=true; decide) ⟨⟨_,_,_,_,rfl⟩,good el⟩)
    ·rw[e]
     have el:zS bits ms os hs word=none:=by unfold zS; rw[e,ea]; rfl
     refine zn (by show ¬false=true; decide) (v9 rfl ?_);symm;exact⟨⟨_,_,_,_,rfl⟩,good el⟩
    ·rw[e]
     have el:zS bits ms os hs word=if p.2.toNat∈hs/\v3 os p.2.toNat=p.1 then none else some ("address" : Str):=by unfold zS; rw[e,ea]; rfl
     refine zn (by show ¬false=true; decide) (v9 rfl ?_);symm;refine v9 (by simpa using hp1) ?_;simp only[YE];symm;refine⟨d,hkv os hs,ob,gs,rfl,hM2, ?_⟩;symm;refine⟨.inl p.2,hM2,rfl, ?_⟩;rw[kH hp0];by_cases hm:p.2.toNat∈hs
     ·rw[if_pos hm]
      refine Kg rfl ?_;show OpS _ _ (U.p (.str (v3 os p.2.toNat))) _ _;symm;refine ite2 (λh=>bad "address" ?_) (λh=>⟨⟨_,_,_,_,rfl⟩,good ?_⟩)
      ·have h:¬v3 os p.2.toNat=p.1:=by simpa using h
       rw[el];exact if_neg λz=>h z.2
      ·have h:v3 os p.2.toNat=p.1:=by simpa using h
       rw[el];exact if_pos ⟨hm,h⟩
     ·rw[if_neg hm]
      refine Kg rfl ?_;show OpS _ _ (U.p .non) _ _;symm;refine⟨V.non,V.str p.1,rfl,rfl,rfl,⟨_,rfl, ?_⟩⟩;refine v9 (by simp) (bad "address" ?_);rw[el];exact if_neg λz=>hm z.1
   ·rintro ρ M' ⟨rfl,⟨x4,x5,x6,x7,rfl⟩,hI⟩
    have hI:∀k∈eight++wpl os hs,kz bits ms ws os hs k=none:=by
     rw[Ul,UF] at hI;exact hI
    have q:=q M';unfold xZ at q;rw[Rb.mpr hI] at q;symm;exact q
abbrev xb:Stmt:=top 84
theorem scLwImageFault:FnScope ["image","laying","room","words","outside","most","some","k","found","heads"] ["image"] (ql xb):=⟨rfl,rfl,rfl,by decide +kernel,rfl,by decide +kernel,by decide +kernel⟩
def Jt:List T->(T->Prop)->Prop:=λts Q=>∃(bits:Int)(ms:List Mk3)(room:Int)(ws os:List Int),ts=[imT bits ms room ws os]/\ms.length<=60/\ws.length<=10000/\os.length<=10000/\Q (flT (zW bits ms room ws os))
theorem WF(F:Fun Ξ "_law_image_fault" "_law_image_fault" xb f fd)(N:Nms mg)(DRight:Def P w Ξ mg base "_law_right" 1 ["laying"] (spP Jm))(DLoad:Def P w Ξ mg base "_law_load" 2 ["laying","kind"] (spP Qy))(DThingsFault:Def P w Ξ mg base "_law_things_fault" 4 ["laying","outside"] (spU VY))(DLeadsFault:Def P w Ξ mg base "_law_leads_fault" 2 ["laying","words","outside","heads"] (spU Jq)):FnOk P w Ξ mg base CX0 5 f fd ["image"] (spP Jt):=by
 refine F.zP scLwImageFault (λts Qt h=>?_) (λcdv A outer s H E hr=>?_)
 ·obtain⟨_,_,_,_,_,rfl,_⟩:=h
  rfl
 refine⟨_,(qg (vY (qv 0) (Wa rfl (vV (qU (i:=1) scLwImageFault.nd rfl W3) (vV (qU (i:=2) scLwImageFault.nd rfl W3) (vV (qU (i:=3) scLwImageFault.nd rfl W3) (vV (qU (i:=4) scLwImageFault.nd rfl W3) XZ))))))
  (qg (qX (xi (zE (qu DRight (Wf hr) (qa_c (qv 1) qf))))
   (qi (qy (qN (qa_c qE (qa_c qe qf)))))
   qI)
  (qg (qF (i:=5) scLwImageFault.nd rfl W3 (qG (Xk (Ξ:=Ξ) rfl rfl) (by rfl) N.min Yq (qa_c (qW (qa_c (qv 2) (qa_c (qt vn qe (qu DLoad (Wf hr) (qa_c (qv 1) (qa_c qE qf)))) (qa_c (qt vn qe (qu DLoad (Wf hr) (qa_c (qv 1) (qa_c qE qf)))) qf)))) qf)))
  (qg (qX (xc (xR (qp zF (qv 2) qe (qB _)) (xR (qp X5 (qv 2) qe (qB _)) (xR (qp j3 (qG qV (by rfl) N.len ze (qa_c (qv 3) qf)) qe (qB _)) (xu (qp X5 (qG qV (by rfl) N.len ze (qa_c (qv 4) qf)) (qv 5) (qB _)))))))
   (qi (qy (qN (qa_c qE (qa_c qe qf)))))
   qI)
  (qg (qF (i:=6) scLwImageFault.nd rfl W3 (qt vZ (qv 3) (qv 4)))
  (qg (vX PassesOwn.never rfl (vM rfl N.range (qa_c (qG qV (by rfl) N.len ze (qa_c (qv 6) qf)) qf)) (qU (i:=7) scLwImageFault.nd rfl W3)
   (qi (qX (xc (xR (qp zF (qH (Uc Ξ) (qv 6) (qv 7) (λ_ _=>rfl)) qe (qB _)) (xu (qp ZN (qH (Uc Ξ) (qv 6) (qv 7) (λ_ _=>rfl)) (qt vn qe (qH (Ud Ξ) (qv 1) qe (λ_ _=>rfl))) (qB _)))))
    (qi (qy (qN (qa_c qE (qa_c (qv 7) qf)))))
    qI)))
  (qg (vY (qu DThingsFault (Wf hr) (qa_c (qv 1) (qa_c (qv 4) qf))) (Q3 (Ξ:=Ξ) (i:=8) (j:=9) rfl scLwImageFault.nd rfl rfl rfl W3 W3 W3 W3))
  (qi (qy (vF (qp Q5 (qv 8) vC (qB _)) (qu DLeadsFault (Wf hr) (qa_c (qv 1) (qa_c (qv 3) (qa_c (qv 4) (qa_c (qv 9) qf))))) (qv 8))))))))))),_,(qj (qx (qd 0) (Zk 1 2 3 4))
   (qj (ve (xD (ct_b (qA (qc (qd 1) qh))))
   (qC (qO (qc Wk (qc Wh qh))))
   qL)
   (qj (qx (ju KB (qc (vf (qc (qd 2) (qc (qk (vg λ_ _=>.int _) Wh (qA (qc (qd 1) (qc Wk qh)))) (qc (qk (vg λ_ _=>.int _) Wh (qA (qc (qd 1) (qc Wk qh)))) qh)))) qh)) (qm 5))
   (qj (ve (jO (qr (qk (qo λ_ _=>.bl _) (qd 2) Wh)) (jO (qr (qk (qo λ_ _=>.bl _) (qd 2) Wh)) (jO (qr (qk jE (vO (qc (qd 3) qh)) Wh)) (qr (qk (qo λ_ _=>.bl _) (vO (qc (qd 4) qh)) (qd 5))))))
   (qC (qO (qc Wk (qc Wh qh))))
   qL)
   (qj (qx (qk vI (qd 3) (qd 4)) (qm 6))
   (qj (zc (zO (qc (vO (qc (qd 6) qh)) qh)) (qm 7)
   (ve (jO (qr (qk (qo λ_ _=>.bl _) (qT (qd 6) (qd 7)) Wh)) (qr (qk (qo λ_ _=>.bl _) (qT (qd 6) (qd 7)) (qk (vg λ_ _=>.int _) Wh (qQ (qd 1) Wh)))))
   (qC (qO (qc Wk (qc (qd 7) qh))))
   qL))
   (qj (qx (qD (qc (qd 1) (qc (qd 4) qh))) (xP 8 9))
   (qC (kG (qr (Vg (qd 8))) (qD (qc (qd 1) (qc (qd 3) (qc (qd 4) (qc (qd 9) qh))))) (qd 8)))))))))),λts Qt h=>?_⟩
 obtain⟨bits,ms,room,ws,os,rfl,hml,hwl,hol,q⟩:=h;unfold imT;symm;refine⟨bits,ms,rfl,hml, ?_⟩;symm;unfold zW at q;refine ite2 (λh=>?_) (λh=>?_)
 ·rw[if_pos (by simpa using h)] at q
  exact q
 have hn:nonB (zA bits ms)=true:=by simpa using h
 have hR:Right bits ms:=nonB_right.mp hn;rw[if_neg (by rw[hn]; decide)] at q;have hb:=hR.b;obtain⟨m1,hm1⟩:=hR.kind (kind := "far") (by decide +kernel);obtain⟨m2,hm2⟩:=hR.kind (kind := "pair") (by decide +kernel);have h1:=JO hR (kind := "far") (by decide +kernel);have h2:=JO hR (kind := "pair") (by decide +kernel);rw[jx hm1] at h1;rw[jx hm2] at h2;have hl:ms.length<=900:=by lia
 symm;refine⟨bits,ms,_,m1,rfl,hl,hm1, ?_⟩;symm;refine⟨⟨by lia,by lia,by decide⟩,bits,ms,_,m2,rfl,hl,hm2, ?_⟩;symm;refine⟨⟨by lia,by lia,by decide⟩, ?_⟩;refine⟨[room,1*2^(bits-m1.2.1).toNat,1*2^(bits-m2.2.1).toNat],rfl,by simp,λmm hmm hml'=>?_⟩;have em:mm=Z3 bits ms room:=by
  unfold Z3;rw[jx hm1,jx hm2];rw[UR,UR] at hmm hml';have l1:=hml' _ (.head _);have l2:=hml' _ (.tail _ (.head _));have l3:=hml' _ (.tail _ (.tail _ (.head _)));have a:=Je (i:=room) (j:=2^(bits-m1.2.1).toNat) (k:=2^(bits-m2.2.1).toNat);have b:=min3_or (i:=room) (j:=2^(bits-m1.2.1).toNat) (k:=2^(bits-m2.2.1).toNat);have c:mm=room\/mm=2^(bits-m1.2.1).toNat\/mm=2^(bits-m2.2.1).toNat:=by simpa using hmm
  lia
 subst em;have nor:jn bits ms room ws os=false->Qt (.tup [.str "room", .int 0]):=λz=>by rw[if_pos z] at q; exact q
 symm;rw[Ul,Ul];refine ite2 (λh=>nor (by simp[jn]; lia)) (λh3=>ite2 (λh=>nor (by simp[jn]; lia)) (λh4=>ite2 (λh=>nor ?_) (λh5=>ite2 (λh=>nor (by simp[jn]; lia)) (λh6=>?_))))
 ·have:¬ws.length=8:=λz=>by rw[z] at h; simp at h
  simp[jn,this]
 have h8:ws.length=8:=by
  have:(ws.length:Int)=8:=by simpa using h5
  lia
 have hrb:jn bits ms room ws os=true:=by
  simp[jn,h8];lia
 rw[if_neg (by rw[hrb]; decide)] at q;have hol4:os.length<=400:=by
  have:=(Je (i:=room) (j:=2^(bits-wOf ms "far").toNat) (k:=2^(bits-wOf ms "pair").toNat)).1;unfold Z3 at h6;lia
 symm;refine⟨by rw[Ul,Ul,sizeLine_eq]; lia, ?_⟩;symm;rw[<-Ux,Ul];generalize hwo:ws++os=wo at q ⊢;have hwol:wo.length<=500:=by rw[<-hwo,Uu]; lia
 refine xX (by lia) (by lia) ?_;rw[DZ];refine xG (λi ρ M=>M=[]/\(∃x7,ρ=[some (.p (.tup [layT bits ms, .int room,qZ ws,qZ os])),some (.p (layT bits ms)),some (.p (.int room)),some (.p (qZ ws)),some (.p (qZ os)),some (.p (.int (Z3 bits ms room))),some (.p (.lst (wo.map T.int))),x7,none,none])/\∀x∈wo.take i,badW bits x=false) ⟨rfl,⟨none,rfl⟩,λx hx=>by cases hx⟩ ?_ ?_
 ·rintro i ρ M hi ⟨rfl,⟨x7,rfl⟩,hI⟩
  obtain⟨x,hx⟩:∃x,wo[i]?=some x:=⟨_,Uk hi⟩;have bad:badW bits x=true->Qt (.tup [.str "word", .int i]):=λhb=>by
   have:wo.findIdx? (badW bits)=some i:=DU.mpr ⟨hi,by rw[(Uj.mp hx).2]; exact hb,λj hj z=>by
    have:=hI _ (Dr.mpr ⟨j,by lia,rfl⟩);rw[this] at z;cases z⟩
   unfold QK at q;rw[this] at q;exact q
  have good:badW bits x=false->∀y∈wo.take (i+1),badW bits y=false:=λhb y hy=>by
   rw[qM hx] at hy;rcases Us.mp hy with z|z
   ·exact hI y z
   ·rw[Uq.mp z]; exact hb
  symm;refine qS (atT hx) ?_;symm;refine ite2 (λh=>bad (by simp[badW]; lia)) (λh7=>?_);symm;refine qS (atT hx) ?_;symm;refine⟨⟨by lia,by lia,by decide⟩, ?_⟩;rw[UR];refine ite2 (λh=>bad ?_) (λh=>⟨⟨_,rfl⟩,good ?_⟩)
  ·have:¬x<2^bits.toNat:=by lia
   simp[badW,this]
  ·have h1:x<2^bits.toNat:=by lia
   have h2:0<=x:=by lia
   simp[badW,h1,h2]
 ·rintro ρ M ⟨rfl,⟨x7,rfl⟩,hI⟩
  rw[UF] at hI;have hwf:QK bits wo=none:=by unfold QK; rw[DJ.mpr hI]; rfl
  rw[hwf] at q;have hw:QV bits wo:=λx hx=>by
   have:=hI x hx;unfold badW at this;simpa using this
  obtain⟨m,hm⟩:=hR.kind (kind := "small") (by decide +kernel);rw[jx hm] at q;have hwos:QV bits os:=λx hx=>hw x (by rw[<-hwo]; exact UB _ hx);symm;refine⟨bits,ms,m,os,rfl,hR,hm,by lia,hwos,λkvs hkvs=>?_⟩;symm;cases hth:(thI bits (bits-m.2.1) os 0).1 with
  |some p =>
   rw[hth] at q;exact zn (by show ¬false=true; decide) q
  |none =>
   rw[hth] at q;have ek:=hkvs hth;subst ek;exact v9 rfl ⟨bits,ms,ws,os,_,0,rfl,rfl,hR,h8,⟨⟨bits,bits-m.2.1,hth,rfl⟩,λx hx=>(hwos x hx).1,by lia⟩,by rw[hwo]; exact hw,λM'=>⟨_,GA,q⟩⟩
def lsI(L:List Int):MO:=.lst ((L.map T.int).map U.p)
theorem W7(q:Q (.p (.int x)) (MB M k o [lsI (L++[x])])):IxS vd (MB M k o [lsI (L++[x])]) (.m (List.length M+0)) (.p (.int (-1))) Q:=by
 refine⟨((L++[x]).map T.int).map U.p, -1, .p (.int x), ?_,rfl, ?_,q⟩
 ·simp only[vd,MB_get]; rfl
 ·have e:(-1+((L.length:Int)+1)).toNat=L.length:=by lia
  have e2:(1:Int)<=(L.length:Int)+1:=by lia
  simp[atI,ixN,e,e2]
theorem Ke(q:R (MB M k o [lsI (L++[y])])):SubS (MB M k o [lsI (L++[x])]) (.m (List.length M+0)) (.p (.int (-1))) (.p (.int y)) R:=by
 refine⟨_,((L++[x]).map T.int).map U.p, -1,L.length,rfl,vE,rfl,by simp[ixN]; lia, ?_⟩;rw[Vj];simpa[lsI] using q
def ThgOk(bits:Int)(th:List Int):Prop:=(∃a b:Int,th=[1,a,b])\/∃(L:List Int)(s:Int),th=(4*(L.length:Int)+2*s)::L/\(s=0\/s=1)/\1<=L.length/\L.length<=20/\∀x∈L,0<=x/\x<2^bits.toNat
abbrev Qg:Stmt:=top 85
theorem scAnyThing:FnScope ["bag","laying","many","limbs"] ["bag","laying"] (ql Qg):=⟨rfl,rfl,rfl,by decide +kernel,rfl,by decide +kernel,by decide +kernel⟩
theorem Jc:(["bag","laying","many","limbs","k"]:List Str).Nodup:=by decide +kernel
def jJ:List U->MM->UK->Prop:=λus M Q=>∃(k:Nat)(o:MO)(bits:Int)(ms:List Mk3),us=[.m k, .p (layT bits ms)]/\M[k]?=some o/\BagO o/\8<=bits/\bits<=32/\∀o' th,BagO o'->ThgOk bits th->Q (.p (qZ th)) (M.set k o')
theorem Ja(F:Fun Ξ "_law_any_thing" "_law_any_thing" Qg f fd)(N:Nms mg)(DDraw:Def P w Ξ mg base "_law_draw" 1 ["bag","many"] (spU js)):FnOk P w Ξ mg base CX0 2 f fd ["bag","laying"] (spU jJ):=by
 refine F.zV scAnyThing (λus M Qu h=>?_) (λcdv A outer s H E hr=>?_)
 ·obtain⟨_,_,_,_,rfl,_⟩:=h
  rfl
 refine⟨_,(qg (qX (qp vK (qu DDraw (Wf hr) (qa_c (qv 0) (qa_c qe qf))) qe (qB _))
   (qi (qy (qW (qa_c qe (qa_c (qt vh (QM xT qe) (qu DDraw (Wf hr) (qa_c (qv 0) (qa_c qe qf)))) (qa_c (qt vh (QM xT qe) (qu DDraw (Wf hr) (qa_c (qv 0) (qa_c qe qf)))) qf))))))
   qI)
  (qg (qF (i:=2) scAnyThing.nd rfl W3 (qt qP qe (qH (Uc Ξ) (qW (qa_c (qu DDraw (Wf hr) (qa_c (qv 0) (qa_c qe qf))) (qa_c (qu DDraw (Wf hr) (qa_c (qv 0) (qa_c qe qf))) qf))) (qt xJ (qu DDraw (Wf hr) (qa_c (qv 0) (qa_c qe qf))) qe) (λ_ _=>rfl))))
  (qg (Y9 (i:=3) [true,true,false,false] ["k"] scAnyThing.nd rfl rfl (vM rfl N.range (qa_c (qv 2) qf)) (λ_ _ _=>(qU (i:=4) Jc rfl W3)) (λ_ _ _=>xx) (λ_ _ _=>(qu DDraw (Wf hr) (qa_c (qv 0) (qa_c (qt vn qe (qH (Ud Ξ) (qv 1) qe (λ_ _=>rfl))) qf)))))
  (qg (vY (qt qP (qH (Uc Ξ) (qv 3) (QM xT qe) (λ_ _=>rfl)) (vT Xn (by rfl) N.int G9 (qa_c (zM vK (qH (Uc Ξ) (qv 3) (QM xT qe) (λ_ _=>rfl)) qe (qB _)) qf))) (jD (qv 3) (QM xT qe) zB))
  (qg (qX (qp vK (qu DDraw (Wf hr) (qa_c (qv 0) (qa_c qe qf))) qe (qB _))
   (qi (vY qe (jD (qv 3) (QM xT qe) zB)))
   qI)
  (qi (qy (qt vZ (qW (qa_c (qt qP (qt Qk qe (qv 2)) (qt Qk qe (qu DDraw (Wf hr) (qa_c (qv 0) (qa_c qe qf))))) qf)) (qv 3))))))))),_,(qj (ve (qr (qk vi (qD (qc (qd 0) (qc Wh qh))) Wh))
   (qC (vf (qc Wh (qc (qk (qo λ_ _=>.int _) (ja Wh) (qD (qc (qd 0) (qc Wh qh)))) (qc (qk (qo λ_ _=>.int _) (ja Wh) (qD (qc (qd 0) (qc Wh qh)))) qh)))))
   qL)
   (qj (qx (qk (qo λ_ _=>.int _) Wh (qT (vf (qc (qD (qc (qd 0) (qc Wh qh))) (qc (qD (qc (qd 0) (qc Wh qh))) qh))) (qk (vg λ_ _=>.int _) (qD (qc (qd 0) (qc Wh qh))) Wh))) (qm 2))
   (qj (qx (ce_compN (zO (qc (qd 2) qh)) (zd 4) Ve (qD (qc (qd 0) (qc (qk (vg λ_ _=>.int _) Wh (qQ (qd 1) Wh)) qh)))) (qm 3))
   (qj (qx (qk (qo λ_ _=>.int _) (qT (qd 3) (ja Wh)) (ju G3 (qc (qk vi (qT (qd 3) (ja Wh)) Wh) qh))) (Kw (qd 3) (ja Wh)))
   (qj (ve (qr (qk vi (qD (qc (qd 0) (qc Wh qh))) Wh))
   (qx Wh (Kw (qd 3) (ja Wh)))
   qL)
   (qC (qk vI (vf (qc (qk (qo λ_ _=>.int _) (qk (vg λ_ _=>.int _) Wh (qd 2)) (qk (vg λ_ _=>.int _) Wh (qD (qc (qd 0) (qc Wh qh))))) qh)) (qd 3)))))))),λus M M1 Qu e1 h=>?_⟩
 obtain⟨k,o,bits,ms,rfl,ek,hB,b0,b1,q⟩:=h;obtain⟨hk,eM⟩:=zC ek;rw[e1.trans eM];have hp:=pow_bits (bits:=bits) (by lia) (by lia);symm;refine qR hk hB (by decide) (by decide) λc o1 c0 c1 B1=>?_;symm;refine ite2 (λhc=>?_) (λhc=>?_)
 ·refine qR hk B1 (by decide) (by decide) λa o2 a0 a1 B2=>?_
  symm;refine qR hk B2 (by decide) (by decide) λb o3 d0 d1 B3=>?_;symm;refine⟨zx B3.pur, ?_⟩;rw[zy];exact q o3 _ B3 (.inl ⟨_,_,rfl⟩)
 symm;refine qR hk B1 (by decide) (by decide) λa o2 a0 a1 B2=>?_;symm;refine qR hk B2 (by decide) (by decide) λb o3 d0 d1 B3=>?_;symm;refine qR hk B3 (by decide) (by decide) λe o4 e0 e1' B4=>?_;symm;obtain⟨n,hn,n0,n1⟩:∃n:Int,atI [T.int a,T.int b] (e / 3)=some (.int n)/\0<=n/\n<9:=by
  rcases(show e / 3=0\/e / 3=1 by lia) with z|z<;>rw[z]
  ·exact⟨a,rfl,by lia,by lia⟩
  ·exact⟨b,rfl,by lia,by lia⟩
 refine⟨⟨by decide,by decide⟩,qS hn ?_⟩;symm;rw[YF];symm;refine xX (by lia) (by lia) ?_;refine UComp.new (R:=λu M'=>∃(o:MO)(L:List Int),BagO o/\M'=MB M k o []/\L.length=(1+n).toNat/\(∀x∈L,0<=x/\x<(2:Int)^bits.toNat)/\u=.p (.lst (L.map T.int))) (jz (m:=(1+n).toNat) (UC (qJ (by lia))) (λj acc M'=>∃(o:MO)(L:List Int),BagO o/\M'=MB M k o []/\L.length=j/\(∀x∈L,0<=x/\x<(2:Int)^bits.toNat)/\acc=L.map T.int) ⟨o4, [],B4,rfl,rfl,⟨λx h=>(nomatch h:0<=x/\_),rfl⟩⟩ ?_ ?_) ?_
 ·simp only[Jf]
  rintro j acc M' hj _ ⟨o5,L,B5,rfl,hl,hL,rfl⟩;symm;refine⟨⟨by lia,by lia,by decide⟩, ?_⟩;refine qR hk B5 (by rw[UR]; lia) (by rw[UR]; exact log2_lt (by lia) (by lia)) λx o6 x0 x1 B6=>?_;rw[UR] at x1;refine⟨_,rfl,o6,L++[x],B6,rfl,by simp[hl],λy hy=>?_,by simp⟩;rcases Us.mp hy with z|z
  ·exact hL y z
  ·rw[Uq.mp z]; exact⟨x0,x1⟩
 ·rintro acc M' ⟨o5,L,B5,rfl,hl,hL,rfl⟩
  exact⟨o5,L,B5,rfl,hl,hL,rfl⟩
 rintro acc M' ⟨o5,L,B5,rfl,hl,hL,e5⟩;cases e5;obtain⟨L,x,rfl⟩:∃L' x,L=L'++[x]:=by
  rcases List.eq_nil_or_concat L with z|⟨L',x,z⟩
  ·rw[z] at hl; simp at hl; lia
  ·exact⟨L',x,by rw[z,List.concat_eq_append]⟩
 have hx:=hL x (by simp);have hl':(L.length:Int)=n:=by simp at hl; lia
 rw[KG,KF];symm;refine W7 (L:=L) (W7 (L:=L) ?_);symm;have k2:∀(y:Int)(o:MO)(s:Int),BagO o->0<=y->y<2^bits.toNat->0<=s->s<2->zZ M (MB M k o [lsI (L++[y])])/\Qu (.p (qZ ((4*(1+n)+2*s)::(L++[y])))) (List.take (List.length M) (MB M k o [lsI (L++[y])])):=λy o s B y0 y1 s0 s1=>by
  refine⟨zx B.pur, ?_⟩;rw[zy];refine q o _ B (.inr ⟨L++[y],s,by simp; lia,by lia,by simp,by simp; lia,λz hz=>?_⟩);rcases Us.mp hz with h|h
  ·exact hL z (by simp[h])
  ·rw[Uq.mp h]; exact⟨y0,y1⟩
 have h8:(2:Int)<=2^bits.toNat:=by
  have:(2:Nat)^1<=2^bits.toNat:=Dl (by decide) (by lia);exact_mod_cast this
 have k3:∀(y:Int)(o:MO),BagO o->0<=y->y<2^bits.toNat->CMul 4 (1+n) /\
  js [U.m k,U.p (T.int 2)] (MB M k o [lsI (L++[y])]) λy M2 =>
   OpS (sI CMul λx x_1=>T.int (x*x_1)) M2 (U.p (T.int 2)) y λy M2 =>
    OpS (sI0 λx x_1=>T.int (x+x_1)) M2 (U.p (T.int (4*(1+n)))) y λx M1 =>
     PurS [x] λts =>
      OpS sCat M1 (U.p (T.lst ts)) (U.m (List.length M+0)) λz M' =>
       zZ M M'/\∃t,frzB (List.length M) 4 M' z=some t/\Qu (U.p t) (List.take (List.length M) M'):=λy o B y0 y1=>by
  refine⟨.inl ⟨by decide,by lia⟩,qR hk B (by decide) (by decide) λs o' s0 s1 B'=>?_⟩;symm;refine⟨.inl ⟨by decide,by lia⟩,ops_at (b:=qZ (L++[y])) rfl ?_ ⟨_,_,rfl,rfl, ?_, ?_⟩⟩
  ·simp only[sn,MB_get]
   show(zk (((L++[y]).map T.int).map U.p)).map T.lst=_;rw[xH]; rfl
  ·simp; exact UC (qJ (by lia))
  ·obtain⟨h1,h2⟩:=k2 y o' s B' y0 y1 s0 s1
   exact⟨h1,_,QC,by simpa[qZ] using h2⟩
 obtain⟨y,hy,y0,y1⟩:∃y:Int,(x+if x=0 then 1 else 0)=y/\0<=y/\y<2^bits.toNat:=⟨_,rfl,by split<;>lia,by split<;>lia⟩;rw[hy];clear hy hx;refine Ke ?_;symm;refine qR hk B5 (by decide) (by decide) λc3 o6 _ _ B6=>?_;symm;refine ite2 (λ_=>?_) (λ_=>?_)
 ·refine Ke ?_
  symm;exact k3 1 o6 B6 (by decide) (by lia)
 exact k3 y o6 B6 y0 y1
def HdOk(kvs:List (Key×U)):Prop:=kvs.length<=200/\∀p∈kvs,∃(a:Int)(s:Str),0<=a/\a<=1000/\p=(.inl a, .p (.str s))
theorem HdOk.val(h:HdOk kvs){i:Nat}(e:kvs[i]?=some (key,v)):∃(a:Int)(s:Str),0<=a/\a<=1000/\key=.inl a/\valU kvs key=some (.p (.str s))/\(key,U.p (.str s))∈kvs:=by
 have hm:=Um e;obtain⟨a,s,a0,a1,e1⟩:=h.2 _ hm;cases e1;unfold valU;cases ef:kvs.find? λkv=>decide (kv.1=.inl a) with
 |none=>exact absurd (DT.mp ef _ hm) (by simp)
 |some p =>
  have h1:=List.find?_some ef;have h2:=List.mem_of_find?_eq_some ef;obtain⟨a',s',b0,b1,rfl⟩:=h.2 _ h2;have:Key.inl a'=Key.inl a:=by simpa using h1
  rw[<-this];exact⟨a',s',b0,b1,rfl,rfl,h2⟩
theorem KI(hz:kvs.length<=sizeLine)(Iv:Nat->List T->MM->Prop)(h0:Iv 0 [] M)(hk:∀i acc M2,Iv i acc M2->M2[d]?=some (.dF kvs ob gs))(hs:∀(i:Nat) acc M2 key v,kvs[i]?=some (key,v)->acc.length<=i->Iv i acc M2->ug (keyU key) ρ0 M2 λρ4 M4=>ut ρ4 M4 λb M5=>if b=true then ua ρ4 M5 λz M6=>∃t,z=.p t/\Iv (i+1) (acc++[t]) M6 else Iv (i+1) acc M5)(hd:∀acc M2,Iv kvs.length acc M2->Q (.p (.lst acc)) M2):UComp (itD false d kvs ob gs) ug ut ua ρ0 M Q :=
 ⟨hz,Iv,h0,λi acc M2 hi ha h=>⟨hk i acc M2 h,λu hu=>by
  obtain⟨key,v,hkv,e⟩:=hu;have e:u=keyU key:=e;subst e;exact hs i acc M2 key v hkv ha h⟩,λacc M2 h=>⟨hk _ acc M2 h,hd acc M2 h⟩⟩
theorem qai(h:M[d]?=some x)(hn:d≠k):(MB M k o L)[d]?=some x:=by
 have hd:=(Uj.mp h).1;unfold MB;rw[Uo (by rw[UN]; exact hd),UW (λz=>hn z.symm),h]
theorem vts_strs{ss:List Str}:vts (ss.map T.str)=some (ss.map V.str):=by
 induction ss with
 |nil=>rfl
 |cons x r ih=>simp[vts,vt,ih]
theorem za{ss:List Str}(b:Bool)(h:decide (a∈ss)=b)(q:Q (.bl b)):sIn false (.str a) (.lst (ss.map T.str)) Q :=
 ⟨.str a,ss.map T.str,ss.map V.str,rfl,rfl,vts_strs,by rw[Ki,h]; exact q⟩
abbrev VF:Stmt:=top 86
theorem scAnyWord:FnScope ["bag","laying","heads","kind","name","width","pattern","load","some"] ["bag","laying","heads"] (ql VF):=⟨rfl,rfl,rfl,by decide +kernel,rfl,by decide +kernel,by decide +kernel⟩
theorem K9:(["bag","laying","heads","kind","name","width","pattern","load","some","k"]:List Str).Nodup:=by decide +kernel
def kR:List U->MM->UK->Prop:=λus M Q=>∃(k d:Nat)(o:MO)(bits:Int)(ms:List Mk3)(kvs:List (Key×U))(ob:Obj)(gs:List (Key×V)),us=[.m k, .p (layT bits ms), .m d]/\M[k]?=some o/\BagO o/\Right bits ms/\M[d]?=some (.dF kvs ob gs)/\d≠k/\HdOk kvs/\∀(x:Int) o',BagO o'->Q (.p (.int x)) (M.set k o')
theorem K3(F:Fun Ξ "_law_any_word" "_law_any_word" VF f fd)(N:Nms mg)(DDraw:Def P w Ξ mg base "_law_draw" 1 ["bag","many"] (spU js))(DMark:Def P w Ξ mg base "_law_mark" 1 ["laying","kind"] (spP V6)):FnOk P w Ξ mg base CX0 2 f fd ["bag","laying","heads"] (spU kR):=by
 refine F.zV scAnyWord (λus M Qu h=>?_) (λcdv A outer s H E hr=>?_)
 ·obtain⟨_,_,_,_,_,_,_,_,rfl,_⟩:=h
  rfl
 refine⟨_,(qg (qF (i:=3) scAnyWord.nd rfl W6 (qH (Uc Ξ) (qW (qa_c qE (qa_c qE (qa_c qE (qa_c qE (qa_c qE (qa_c qE (qa_c qE (qa_c qE qf))))))))) (qu DDraw (Wf hr) (qa_c (qv 0) (qa_c qe qf))) (λ_ _=>rfl)))
  (qg (vY (qu DMark (Wf hr) (qa_c (qv 1) (qa_c (qv 3) qf))) (xY (Ξ:=Ξ) (i:=4) (j:=5) (k:=6) rfl scAnyWord.nd rfl rfl rfl rfl W3 W3 W3 W3 W3 W3))
  (qg (qF (i:=7) scAnyWord.nd rfl W3 (qu DDraw (Wf hr) (qa_c (qv 0) (qa_c (qt vn qe (qt vh (qH (Ud Ξ) (qv 1) qe (λ_ _=>rfl)) (qv 5))) qf))))
  (qg (Y9 (i:=8) [false,false,true,true,false,false,false,false,false] ["k"] scAnyWord.nd rfl rfl (XY (qv 2)) (λ_ _ _=>(qU (i:=9) K9 rfl W3)) (λ_ _ _=>jo (qp vK (jp (kA hr) (qv 2) (qv 9) (λ_ _=>rfl)) (qv 3) (qB _))) (λ_ _ _=>(qv 9)))
  (qg (qX (xc (jB (qp (Ug Ξ) (qv 3) (qW (qa_c qE (qa_c qE qf))) (by with_unfolding_all rfl)) (xw (qp (Ws (Ξ:=Ξ) rfl hr.units) (qv 8) (qW qf) (qB _)))))
   (qg (vY (qu DMark (Wf hr) (qa_c (qv 1) (qa_c qE qf))) (xY (Ξ:=Ξ) (i:=4) (j:=5) (k:=6) rfl scAnyWord.nd rfl rfl rfl rfl W3 W3 W3 W3 W3 W3))
   (qi (qF (i:=3) scAnyWord.nd rfl W6 qE)))
   qI)
  (qg (qX (qp (Ug Ξ) (qv 3) (qW (qa_c qE (qa_c qE qf))) (by with_unfolding_all rfl))
   (qi (qF (i:=7) scAnyWord.nd rfl W3 (qH (Uc Ξ) (qv 8) (qu DDraw (Wf hr) (qa_c (qv 0) (qa_c (qG qV (by rfl) N.len ze (qa_c (qv 8) qf)) qf))) (λ_ _=>rfl))))
   qI)
  (qg (qX (qp (Ug Ξ) (qv 3) (qW (qa_c qE (qa_c qE qf))) (by with_unfolding_all rfl))
   (qi (qF (i:=7) scAnyWord.nd rfl W3 (qt zz (qv 7) (jp (kA hr) (X1 (vU qE qe (vU qE qe XX)) rfl rfl (λz=>nomatch z) (by decide)) (qv 3) (λ_ _=>rfl)))))
   qI)
  (qi (qy (qt qP (qt vn (qv 7) (qv 5)) (qv 6))))))))))),_,(qj (qx (qT (vf (qc Wk (qc Wk (qc Wk (qc Wk (qc Wk (qc Wk (qc Wk (qc Wk qh))))))))) (qD (qc (qd 0) (qc Wh qh)))) (qm 3))
   (qj (qx (qA (qc (qd 1) (qc (qd 3) qh))) (zL 4 5 6))
   (qj (qx (qD (qc (qd 0) (qc (qk (vg λ_ _=>.int _) Wh (qk (qo λ_ _=>.int _) (qQ (qd 1) Wh) (qd 5))) qh))) (qm 7))
   (qj (qx (zu (JD (qd 2)) (zd 9) (qr (qk vi (Zl (qd 2) (qd 9)) (qd 3))) (qd 9)) (qm 8))
   (qj (ve (kq (qr (qk ZK (qd 3) (vf (qc Wk (qc Wk qh))))) (qr (qk Wo (qd 8) (vf qh))))
   (qj (qx (qA (qc (qd 1) (qc Wk qh))) (zL 4 5 6))
   (qx Wk (qm 3)))
   qL)
   (qj (ve (qr (qk ZK (qd 3) (vf (qc Wk (qc Wk qh)))))
   (qx (qT (qd 8) (qD (qc (qd 0) (qc (vO (qc (qd 8) qh)) qh)))) (qm 7))
   qL)
   (qj (ve (qr (qk ZK (qd 3) (vf (qc Wk (qc Wk qh)))))
   (qx (qk (vg λ_ _=>.int _) (qd 7) (Zm (JF (zr Wk Wh (zr Wk Wh GS))) (qd 3))) (qm 7))
   qL)
   (qC (qk (qo λ_ _=>.int _) (qk (vg λ_ _=>.int _) (qd 7) (qd 5)) (qd 6)))))))))),λus M M1 Qu e1 h=>?_⟩
 obtain⟨k,d,o,bits,ms,kvs,ob,gs,rfl,ek,hB,hR,ed,hdk,hH,q⟩:=h;obtain⟨hk,eM⟩:=zC ek;rw[e1.trans eM];have hb:=hR.b;have hn5:=hR.n;symm;refine qR hk hB (by decide) (by decide) λc o1 c0 c1 B1=>?_;symm;obtain⟨kind,hkn,hk5⟩:∃kind:Str,atI [T.str "small", T.str "small", T.str "sign", T.str "one", T.str "far", T.str "pair", T.str "far", T.str "pair"] c=some (.str kind)/\(kind = "small" \/ kind = "sign" \/ kind = "one" \/ kind = "far" \/ kind = "pair"):=by
  rcases(show c=0\/c=1\/c=2\/c=3\/c=4\/c=5\/c=6\/c=7 by lia) with rfl|rfl|rfl|rfl|rfl|rfl|rfl|rfl<;>exact⟨_,rfl,by simp⟩
 refine qS hkn ?_;clear hkn;obtain⟨m,hm⟩:=hR.kind (kind:=kind) (by rcases hk5 with rfl|rfl|rfl|rfl|rfl<;>decide);obtain⟨m1,hm1⟩:=hR.kind (kind := "one") (by decide);have hmw:=hR.w m hm.mem;have hmw1:=hR.w m1 hm1.mem;have hnd:=vR m.1;have hnd1:=vR m1.1;symm;refine⟨bits,ms,kind,m,rfl,by lia,hm, ?_⟩;unfold zj;symm;refine⟨⟨by lia,by lia,by decide⟩, ?_⟩;have hp:=vL (bits-m.2.1).toNat;have hp2:(2:Int)^(bits-m.2.1).toNat<2^40:=by
  have:(2:Nat)^(bits-m.2.1).toNat<2^40:=Nat.pow_lt_pow_right (by decide) (by lia);exact_mod_cast this
 rw[UR];refine qR hk B1 hp (log2_lt hp (by lia)) λload o2 _ _ B2=>?_;symm;simp only[YD];symm;refine⟨d,kvs,rfl, .inr ⟨ob,gs,qai ed hdk, ?_⟩⟩;refine KI (UC (qJ (by have:=hH.1; lia))) (λi acc M'=>M'=MB M k o2 []/\∃L:List Int,acc=L.map T.int/\L.length<=i/\∀x∈L,0<=x/\x<=1000) ⟨rfl, [],rfl,Up _,λx h=>by cases h⟩ (λi acc M' h=>by rw[h.1]; exact qai ed hdk) ?_ ?_
 ·rintro i acc M' key v hkv _ ⟨rfl,L,rfl,hl,hL⟩
  obtain⟨a,s,a0,a1,rfl,hv,_⟩:=hH.val hkv;rw[show keyU (Key.inl a)=U.p (.int a) from rfl];symm;simp only[JT];symm;refine⟨d,kvs,ob,gs, .inl a,_,rfl,qai ed hdk,rfl,hv, ?_⟩;symm;split
  ·refine⟨L++[a],by simp,by simp; lia,λx hx=>?_⟩
   rcases Us.mp hx with z|z
   ·exact hL x z
   ·rw[Uq.mp z]; exact⟨a0,a1⟩
  ·exact⟨L,rfl,by lia,hL⟩
 rintro acc M' ⟨rfl,L,rfl,hl,hL⟩;have fin:∀(x:Int)(o':MO)(L:List MO),BagO o'->zZ M (MB M k o' L)/\Qu (.p (.int x)) (List.take (List.length M) (MB M k o' L)):=λx o' L B=>by
  rw[zy];exact⟨zx B.pur,q x o' B⟩
 have hH1:=hH.1;clear hH;rcases hk5 with rfl|rfl|rfl|rfl|rfl
 ·symm
  refine za (ss:=["far","pair"]) false (by decide +kernel) ?_;symm;refine za (ss:=["far","pair"]) false (by decide +kernel) ?_;symm;refine za (ss:=["sign","one"]) false (by decide +kernel) ?_;symm;exact⟨⟨by lia,by lia,by lia⟩,fin _ _ _ B2⟩
 ·symm
  refine za (ss:=["far","pair"]) false (by decide +kernel) ?_;symm;refine za (ss:=["far","pair"]) false (by decide +kernel) ?_;symm;refine za (ss:=["sign","one"]) true (by decide +kernel) ?_;symm;simp only[Zt];symm;refine⟨[(.inr "sign", .p (.int 128)),(.inr "one", .p (.int 3))],rfl,by decide, ?_⟩;refine⟨_, [(.inr "sign", .p (.int 128)),(.inr "one", .p (.int 3))], .inr "sign", .p (.int 128),rfl,vE,rfl,rfl, ?_⟩;symm;have hl1:=Da load (show(128:Int)≠0 by decide);have hl2:=U2 load (show(0:Int)<128 by decide);exact⟨by decide,⟨by lia,by lia,by lia⟩,fin _ _ _ B2⟩
 ·symm
  refine za (ss:=["far","pair"]) false (by decide +kernel) ?_;symm;refine za (ss:=["far","pair"]) false (by decide +kernel) ?_;symm;refine za (ss:=["sign","one"]) true (by decide +kernel) ?_;symm;simp only[Zt];symm;refine⟨[(.inr "sign", .p (.int 128)),(.inr "one", .p (.int 3))],rfl,by decide, ?_⟩;refine⟨_, [(.inr "sign", .p (.int 128)),(.inr "one", .p (.int 3))], .inr "one", .p (.int 3),rfl,vE,rfl,rfl, ?_⟩;symm;have hl1:=Da load (show(3:Int)≠0 by decide);have hl2:=U2 load (show(0:Int)<3 by decide);exact⟨by decide,⟨by lia,by lia,by lia⟩,fin _ _ _ B2⟩
 ·symm
  refine za (ss:=["far","pair"]) true (by decide +kernel) ?_;symm;refine eqNil ?_;symm;refine ite2 (λhe=>?_) (λhe=>?_)
  ·symm
   refine⟨bits,ms,"one", m1,rfl,by lia,hm1, ?_⟩;unfold zj;symm;refine za (ss:=["far","pair"]) false (by decide +kernel) ?_;symm;refine za (ss:=["sign","one"]) true (by decide +kernel) ?_;symm;simp only[Zt];symm;refine⟨[(.inr "sign", .p (.int 128)),(.inr "one", .p (.int 3))],rfl,by decide, ?_⟩;refine⟨_, [(.inr "sign", .p (.int 128)),(.inr "one", .p (.int 3))], .inr "one", .p (.int 3),rfl,vE,rfl,rfl, ?_⟩;symm;have hl1:=Da load (show(3:Int)≠0 by decide);have hl2:=U2 load (show(0:Int)<3 by decide);exact⟨by decide,⟨by lia,by lia,by lia⟩,fin _ _ _ B2⟩
  symm;refine za (ss:=["far","pair"]) true (by decide +kernel) ?_;symm;have hlp:0<L.length:=by
   rcases L with _|⟨a,L⟩
   ·exact absurd rfl he
   ·exact D3 _
  rw[Ul];refine qR hk B2 (by lia) (log2_lt (by lia) (by have:=qJ (n:=L.length); lia)) λj o3 j0 j1 B3=>?_;obtain⟨x,hx⟩:∃x,L[j.toNat]?=some x:=⟨_,Uk (by lia)⟩;have hxl:=hL x (Um hx);rw[show j=((j.toNat:Nat):Int) by lia];refine qS (atT hx) ?_;symm;refine za (ss:=["sign","one"]) false (by decide +kernel) ?_;symm;exact⟨⟨by lia,by lia,by lia⟩,fin _ _ _ B3⟩
 ·symm
  refine za (ss:=["far","pair"]) true (by decide +kernel) ?_;symm;refine eqNil ?_;symm;refine ite2 (λhe=>?_) (λhe=>?_)
  ·symm
   refine⟨bits,ms,"one", m1,rfl,by lia,hm1, ?_⟩;unfold zj;symm;refine za (ss:=["far","pair"]) false (by decide +kernel) ?_;symm;refine za (ss:=["sign","one"]) true (by decide +kernel) ?_;symm;simp only[Zt];symm;refine⟨[(.inr "sign", .p (.int 128)),(.inr "one", .p (.int 3))],rfl,by decide, ?_⟩;refine⟨_, [(.inr "sign", .p (.int 128)),(.inr "one", .p (.int 3))], .inr "one", .p (.int 3),rfl,vE,rfl,rfl, ?_⟩;symm;have hl1:=Da load (show(3:Int)≠0 by decide);have hl2:=U2 load (show(0:Int)<3 by decide);exact⟨by decide,⟨by lia,by lia,by lia⟩,fin _ _ _ B2⟩
  symm;refine za (ss:=["far","pair"]) true (by decide +kernel) ?_;symm;have hlp:0<L.length:=by
   rcases L with _|⟨a,L⟩
   ·exact absurd rfl he
   ·exact D3 _
  rw[Ul];refine qR hk B2 (by lia) (log2_lt (by lia) (by have:=qJ (n:=L.length); lia)) λj o3 j0 j1 B3=>?_;obtain⟨x,hx⟩:∃x,L[j.toNat]?=some x:=⟨_,Uk (by lia)⟩;have hxl:=hL x (Um hx);rw[show j=((j.toNat:Nat):Int) by lia];refine qS (atT hx) ?_;symm;refine za (ss:=["sign","one"]) false (by decide +kernel) ?_;symm;exact⟨⟨by lia,by lia,by lia⟩,fin _ _ _ B3⟩
theorem JK(hk:k<M.length)(B:BagO o)(b0:8<=bits)(b1:bits<=32)(q:∀o' th,BagO o'->ThgOk bits th->Q (.p (qZ th)) (MB M k o' L)):jJ [.m k, .p (layT bits ms)] (MB M k o L) Q :=
 ⟨k,o,bits,ms,rfl,QJ hk,B,b0,b1,λo' th B' h=>by rw[zI hk]; exact q o' th B' h⟩
theorem ke(hk:k<M.length)(B:BagO o)(hR:Right bits ms)(hL:L[i]?=some (.dF kvs ob gs))(hH:HdOk kvs)(q:∀(x:Int) o',BagO o'->Q (.p (.int x)) (MB M k o' L)):kR [.m k, .p (layT bits ms), .m (M.length+i)] (MB M k o L) Q :=
 ⟨k,M.length+i,o,bits,ms,kvs,ob,gs,rfl,QJ hk,B,hR,vE hL,by lia,hH,λx o' B'=>by rw[zI hk]; exact q x o' B'⟩
theorem put_mem(h:p∈putU kvs key y):p∈kvs\/p=(key,y):=by
 unfold putU at h;split at h
 ·obtain⟨x,hx,e⟩:=U7.mp h
  split at e
  ·rename_i hk
   exact .inr (by rw[<-e,hk])
  ·exact .inl (e▸hx)
 ·rcases Us.mp h with z|z
  ·exact .inl z
  ·exact .inr (Uq.mp z)
theorem put_len:(putU kvs key y).length<=kvs.length+1:=by
 unfold putU;split
 ·rw[Ul]; lia
 ·rw[Uu]; exact Up _
def HdI(kvs:List (Key×U))(n i:Nat):Prop:=kvs.length<=i/\∀p∈kvs,∃(a:Int)(s:Str),0<=a/\a<=400/\p=(.inl a, .p (.str s))/\(s = "pair" -> a+3<=n)
theorem HdI.ok(h:HdI kvs n i)(hi:i<=200):HdOk kvs:=⟨by have:=h.1; lia,λp hp=>by
 obtain⟨a,s,h1,h2,h3,_⟩:=h.2 p hp;exact⟨a,s,h1,by lia,h3⟩⟩
theorem HdI.put{s:Str}(h:HdI kvs n i)(hn:n<=n')(h4:n<=400)(hs:s = "pair" -> (n:Int)+3<=n'):HdI (putU kvs (.inl (n:Int)) (.p (.str s))) n' (i+1):=⟨UY put_len (by have:=h.1; lia),λp hp=>by
 rcases put_mem hp with z|z
 ·obtain⟨a,s,h1,h2,h3,h4⟩:=h.2 p z
  exact⟨a,s,h1,h2,h3,λe=>by have:=h4 e; lia⟩
 ·exact⟨n,s,by lia,by lia,z,hs⟩⟩
theorem HdI.mono(h:HdI kvs n i)(hi:i<=j):HdI kvs n j:=⟨UY h.1 hi,h.2⟩
theorem YO{os:List Int}{z x:Int}(h:L[p]?=some (lsI os))(z0:0<=z)(z1:z<os.length)(q:R (MB M k o (L.set p (lsI (os.set z.toNat x))))):SubS (MB M k o L) (.m (M.length+p)) (.p (.int z)) (.p (.int x)) R:=by
 refine⟨_,(os.map T.int).map U.p,z,z.toNat,rfl,vE h,rfl, ?_, ?_⟩
 ·simp[ixN,z0,z1]
 ·rw[Vj]
  simpa[lsI,List.map_set] using q
theorem xL{os:List Int}(h:L[p]?=some (lsI os)):vd (MB M k o L) (.m (M.length+p))=some ((os.map T.int).map U.p):=by
 simp only[vd,MB_get,h];rfl
theorem atI0{α:Type}{x:α}{r:List α}:atI (x::r) 0=some x:=by simp[atI,ixN]
abbrev Qh:Stmt:=top 87
theorem scAnyImage:FnScope ["bag","laying","room","most","outside","heads","k","thing"] ["bag","laying"] (ql Qh):=⟨rfl,rfl,rfl,by decide +kernel,rfl,by decide +kernel,by decide +kernel⟩
def Qz:List U->MM->UK->Prop:=λus M Q=>∃(k:Nat)(o:MO)(bits:Int)(ms:List Mk3),us=[.m k, .p (layT bits ms)]/\M[k]?=some o/\BagO o/\Right bits ms/\∀(room:Int)(ws os:List Int) o',BagO o'->ws.length=8->os.length<=400->Q (.p (imT bits ms room ws os)) (M.set k o')
theorem Jb(F:Fun Ξ "_law_any_image" "_law_any_image" Qh f fd)(N:Nms mg)(DDraw:Def P w Ξ mg base "_law_draw" 1 ["bag","many"] (spU js))(DLoad:Def P w Ξ mg base "_law_load" 2 ["laying","kind"] (spP Qy))(DLwIsSmall:Def P w Ξ mg base "_law_is_small" 3 ["laying","n"] (spP V3))(DNumberIn:Def P w Ξ mg base "_law_number_in" 1 ["laying","outside","k"] (spP Km))(DAnyThing:Def P w Ξ mg base "_law_any_thing" 2 ["bag","laying"] (spU jJ))(DAnyWord:Def P w Ξ mg base "_law_any_word" 2 ["bag","laying","heads"] (spU kR)):FnOk P w Ξ mg base CX0 4 f fd ["bag","laying"] (spU Qz):=by
 refine F.zV scAnyImage (λus M Qu h=>?_) (λcdv A outer s H E hr=>?_)
 ·obtain⟨_,_,_,_,rfl,_⟩:=h
  rfl
 refine⟨_,(qg (qF (i:=2) scAnyImage.nd rfl W3 (qH (Uc Ξ) (qW (qa_c (qu DDraw (Wf hr) (qa_c (qv 0) (qa_c qe qf))) (qa_c qe (qa_c qe qf)))) (qu DDraw (Wf hr) (qa_c (qv 0) (qa_c qe qf))) (λ_ _=>rfl)))
  (qg (qF (i:=3) scAnyImage.nd rfl W3 (qG (Xk (Ξ:=Ξ) rfl rfl) (by rfl) N.min Yq (qa_c (qW (qa_c (qv 2) (qa_c (qt vn qe (qu DLoad (Wf hr) (qa_c (qv 1) (qa_c qE qf)))) (qa_c (qt vn qe (qu DLoad (Wf hr) (qa_c (qv 1) (qa_c qE qf)))) qf)))) qf)))
  (qg (qF (i:=4) scAnyImage.nd rfl W3 (qW qf))
  (qg (qF (i:=5) scAnyImage.nd rfl W6 X0)
  (qg (vX PassesOwn.never rfl (vM rfl N.range (qa_c (qu DDraw (Wf hr) (qa_c (qv 0) (qa_c (qH (Uc Ξ) (qW (qa_c qe (qa_c qe (qa_c qe (qa_c qe qf))))) (qu DDraw (Wf hr) (qa_c (qv 0) (qa_c qe qf))) (λ_ _=>rfl)) qf))) qf)) (qU (i:=6) scAnyImage.nd rfl W3)
   (qg (qF (i:=7) scAnyImage.nd rfl W3 (qu DAnyThing (Wf hr) (qa_c (qv 0) (qa_c (qv 1) qf))))
   (qi (qX (xc (xR (qp vK (qH (Uc Ξ) (qv 7) qe (λ_ _=>rfl)) qe (qB _)) (xu (xi (zE (qu DLwIsSmall (Wf hr) (qa_c (qv 1) (qa_c (qu DNumberIn (Wf hr) (qa_c (qv 1) (qa_c (qv 7) (qa_c qe qf)))) qf))))))))
    (qi (qX (qp j4 (qt qP (qG qV (by rfl) N.len ze (qa_c (qv 4) qf)) (qG qV (by rfl) N.len ze (qa_c (qv 7) qf))) (qv 3) (qB _))
     (qg (XW (kA hr) (qv 5) (qG qV (by rfl) N.len ze (qa_c (qv 4) qf)) (vF (qp vK (qH (Uc Ξ) (qv 7) qe (λ_ _=>rfl)) qe (qB _)) qE qE))
     (qi (qF (i:=4) scAnyImage.nd rfl W3 (qt vZ (qv 4) (qv 7)))))
     qI))
    qI))))
  (qg (vX PassesOwn.never rfl (XY (qv 5)) (qU (i:=6) scAnyImage.nd rfl W3)
   (qi (qX (qp vK (jp (kA hr) (qv 5) (qv 6) (λ_ _=>rfl)) qE (qB _))
    (qg (vY (qu DAnyWord (Wf hr) (qa_c (qv 0) (qa_c (qv 1) (qa_c (qv 5) qf)))) (jD (qv 4) (qt qP (qv 6) qe) zB))
    (qi (vY (qu DAnyWord (Wf hr) (qa_c (qv 0) (qa_c (qv 1) (qa_c (qv 5) qf)))) (jD (qv 4) (qt qP (qv 6) qe) zB))))
    qI)))
  (qi (qy (qN (qa_c (qv 1) (qa_c (qv 2) (qa_c (QN [true,true,false,false,false,true,false,false] [] (vM rfl N.range (qa_c qe qf)) (λ_ _ _=>(qU (i:=6) scAnyImage.nd rfl W3)) (λ_ _ _=>xx) (λ_ _ _=>(qu DAnyWord (Wf hr) (qa_c (qv 0) (qa_c (qv 1) (qa_c (qv 5) qf)))))) (qa_c (qv 4) qf))))))))))))),_,(qj (qx (qT (vf (qc (qD (qc (qd 0) (qc Wh qh))) (qc Wh (qc Wh qh)))) (qD (qc (qd 0) (qc Wh qh)))) (qm 2))
   (qj (qx (ju KB (qc (vf (qc (qd 2) (qc (qk (vg λ_ _=>.int _) Wh (qA (qc (qd 1) (qc Wk qh)))) (qc (qk (vg λ_ _=>.int _) Wh (qA (qc (qd 1) (qc Wk qh)))) qh)))) qh)) (qm 3))
   (qj (qx (kr qh) (qm 4))
   (qj (qx JE (qm 5))
   (qj (zc (zO (qc (qD (qc (qd 0) (qc (qT (vf (qc Wh (qc Wh (qc Wh (qc Wh qh))))) (qD (qc (qd 0) (qc Wh qh)))) qh))) qh)) (qm 6)
   (qj (qx (qD (qc (qd 0) (qc (qd 1) qh))) (qm 7))
   (ve (jO (qr (qk vi (qT (qd 7) Wh) Wh)) (xD (ct_b (qA (qc (qd 1) (qc (qA (qc (qd 1) (qc (qd 7) (qc Wh qh)))) qh))))))
   (ve (qr (qk (qo λ_ _=>.bl _) (qk (qo λ_ _=>.int _) (vO (qc (qd 4) qh)) (vO (qc (qd 7) qh))) (qd 3)))
   (qj (JC (qd 5) (vO (qc (qd 4) qh)) (Kz (qr (qk vi (qT (qd 7) Wh) Wh)) (.str _) (.str _)))
   (qx (ce_catN (qd 4) (qd 7)) (qm 4)))
   qL)
   qL)))
   (qj (zc (JD (qd 5)) (qm 6)
   (ve (qr (qk vi (Zl (qd 5) (qd 6)) Wk))
   (qj (qx (qD (qc (qd 0) (qc (qd 1) (qc (qd 5) qh)))) (Kw (qd 4) (qk (qo λ_ _=>.int _) (qd 6) Wh)))
   (qx (qD (qc (qd 0) (qc (qd 1) (qc (qd 5) qh)))) (Kw (qd 4) (qk (qo λ_ _=>.int _) (qd 6) Wh))))
   qL))
   (qC (kc (qc (qd 1) (qc (qd 2) (qc (zu (zO (qc Wh qh)) (zd 6) Ve (qD (qc (qd 0) (qc (qd 1) (qc (qd 5) qh))))) (qc (qd 4) qh)))))))))))),λus M M1 Qu e1 h=>?_⟩
 obtain⟨k,o,bits,ms,rfl,ek,hB,hR,q⟩:=h;obtain⟨hk,eM⟩:=zC ek;rw[e1.trans eM];have hb:=hR.b;have hn5:=hR.n;obtain⟨mf,hmf⟩:=hR.kind (kind := "far") (by decide);obtain⟨mp,hmp⟩:=hR.kind (kind := "pair") (by decide);obtain⟨mS,hmS⟩:=hR.kind (kind := "small") (by decide);have hwf:=hR.w mf hmf.mem;have hwp:=hR.w mp hmp.mem;have hwS:=hR.w mS hmS.mem;have hnf:=vR mf.1;have hnp:=vR mp.1;have hnS:=vR mS.1;symm;refine qR hk hB (by decide) (by decide) λd1 o1 d10 d11 B1=>?_;symm;refine qR hk B1 (by decide) (by decide) λd2 o2 d20 d21 B2=>?_;symm;obtain⟨room,hroom,r0,r1⟩:∃room:Int,atI [T.int d1,T.int 400,T.int 60] d2=some (.int room)/\0<=room/\room<=400:=by
  rcases(show d2=0\/d2=1\/d2=2 by lia) with rfl|rfl|rfl<;>exact⟨_,rfl,by lia,by lia⟩
 refine qS hroom ?_;symm;refine⟨bits,ms,"far", mf,rfl,by lia,hmf, ?_⟩;symm;refine⟨⟨by lia,by lia,by decide⟩, ?_⟩;symm;refine⟨bits,ms,"pair", mp,rfl,by lia,hmp, ?_⟩;symm;refine⟨⟨by lia,by lia,by decide⟩, ?_⟩;symm;refine⟨[room,_,_],rfl,D3 _,λmost _ hm2=>?_⟩;have hmost:=hm2 room (by simp);clear hm2;symm;refine qR hk B2 (by decide) (by decide) λd3 o3 d30 d31 B3=>?_;symm;obtain⟨many,hmany,m0,m1⟩:∃many:Int,atI [T.int 14,T.int 14,T.int 14,T.int 130] d3=some (.int many)/\0<many/\many<=130:=by
  rcases(show d3=0\/d3=1\/d3=2\/d3=3 by lia) with rfl|rfl|rfl|rfl<;>exact⟨_,rfl,by lia,by lia⟩
 refine qS hmany ?_;symm;refine qR hk B3 m0 (log2_lt m0 (by lia)) λn o4 n0 n1 B4=>?_;symm;refine xX (by lia) (by lia) ?_;refine xG (λi ρ M'=>∃(o:MO)(L:List MO)(p:Nat)(os:List Int)(kvs:List (Key×U))(x6 x7:Option U),BagO o/\M'=MB M k o L/\ρ=[some (.m k),some (.p (layT bits ms)),some (.p (.int room)),some (.p (.int most)),some (.m (M.length+p)),some (.m (M.length+1)),x6,x7]/\L[p]?=some (lsI os)/\L[1]?=some (.dK kvs)/\os.length<=400/\HdI kvs os.length i) ⟨o4,_,0, [], [],none,none,B4,rfl,rfl,rfl,rfl,U4 _,Up _,λp h=>by cases h⟩ ?_ ?_
 ·rintro i ρ M' hi ⟨o,L,p,os,kvs,x6,x7,B,rfl,rfl,hp,h1,hl,hH⟩
  symm;refine JK hk B (by lia) (by lia) λo' th B' hT=>?_;symm;rcases hT with⟨a,b,rfl⟩|⟨r,s,rfl,hs,hr0,hr1,hr⟩
  ·refine qS (t:=.int 1) rfl ?_
   symm;refine⟨_,_,rfl,xL hp, ?_⟩;symm;refine ite2 (λhle=>?_) (λhle=>⟨o',L,p,os,kvs,_,_,B',rfl,rfl,hp,h1,hl,hH.mono (Dk _)⟩);simp only[Ul,Ur,U1] at hle;symm;refine⟨_,_,rfl,xL hp, ?_⟩;refine jN (vE h1) (qJ (by have:=hH.1; lia)) ?_;rw[Vj];have hp1:p≠1:=λz=>by rw[z,h1] at hp; cases hp
   rw[uCatN];symm;refine⟨_,_,xL (os:=os) (by rw[UW (λz=>hp1 z.symm)]; exact hp),rfl,UC (qJ (by simp only[Ul,Ur,U1]; lia)), ?_⟩;rw[KF,KG];refine⟨o',_,_,os++[1,a,b],putU kvs (.inl (((os.map T.int).map U.p).length:Int)) (.p (.str "pair")),_,_,B',rfl,rfl, ?_, ?_,by simp; lia, ?_⟩
   ·rw[Uz (Up _),Dm]; simp[lsI]
   ·rw[Uo (by rw[UN]; exact(Uj.mp h1).1),UL (Uj.mp h1).1]
   ·have:=hH.put (n':=(os++[1,a,b]).length) (s := "pair") (by simp) hl (λ_=>by simp)
    simpa using this
  ·refine qS (t:=.int (4*(r.length:Int)+2*s)) atI0 ?_
   symm;refine zn (by lia) ?_;symm;have hx4:(4*(r.length:Int)+2*s) / 4=r.length:=by lia
   refine⟨bits,ms,(4*(r.length:Int)+2*s)::r,0,_,rfl,rfl,by lia,by lia, ?_, ?_,by lia,by lia, ?_, ?_⟩
   ·unfold vp
    rw[if_neg (by lia),hx4];simp
   ·simp; lia
   ·unfold limI
    rw[hx4];intro y hy;exact hr y (Dt hy)
   generalize numI _ _ _ _=num;symm;refine⟨bits,ms,num,mS,rfl,by lia,hmS,by lia,by lia, ?_⟩;symm;refine ite2 (λhsm=>?_) (λhsm=>⟨o',L,p,os,kvs,_,_,B',rfl,rfl,hp,h1,hl,hH.mono (Dk _)⟩);symm;refine⟨_,_,rfl,xL hp, ?_⟩;symm;refine ite2 (λhle=>?_) (λhle=>⟨o',L,p,os,kvs,_,_,B',rfl,rfl,hp,h1,hl,hH.mono (Dk _)⟩);simp only[Ul,Ur,U1] at hle;symm;rw[if_neg (show ¬4*(r.length:Int)+2*s=1 by lia)];refine⟨_,_,rfl,xL hp, ?_⟩;refine jN (vE h1) (qJ (by have:=hH.1; lia)) ?_;rw[Vj];have hp1:p≠1:=λz=>by rw[z,h1] at hp; cases hp
   rw[uCatN];symm;refine⟨_,_,xL (os:=os) (by rw[UW (λz=>hp1 z.symm)]; exact hp),rfl,UC (qJ (by simp only[Ul,Ur,U1]; lia)), ?_⟩;rw[KF,KG];refine⟨o',_,_,os++((4*(r.length:Int)+2*s)::r),putU kvs (.inl (((os.map T.int).map U.p).length:Int)) (.p (.str "far")),_,_,B',rfl,rfl, ?_, ?_,by simp; lia, ?_⟩
   ·rw[Uz (Up _),Dm]; simp[lsI]
   ·rw[Uo (by rw[UN]; exact(Uj.mp h1).1),UL (Uj.mp h1).1]
   ·have:=hH.put (n':=(os++((4*(r.length:Int)+2*s)::r)).length) (s := "far") (by simp) hl (λz=>absurd z (by decide +kernel))
    simpa using this
 rintro ρ M' ⟨o,L,p,os,kvs,x6,x7,B,rfl,rfl,hp,h1,hl,hH⟩;symm;have hp1:p≠1:=λz=>by rw[z,h1] at hp; cases hp
 have h1l:=(Uj.mp h1).1;have hOk:=hH.ok (by lia);simp only[YD];symm;refine⟨_,kvs,rfl, .inl ⟨vE h1,λob gs=>?_⟩⟩;rw[Vj];have h1':(L.set 1 (.dF kvs ob gs))[1]?=some (.dF kvs ob gs):=UL h1l;have hp':(L.set 1 (.dF kvs ob gs))[p]?=some (lsI os):=by rw[UW (λz=>hp1 z.symm)]; exact hp
 generalize L.set 1 (.dF kvs ob gs)=L1 at h1' hp';refine Zr (λi ρ M'=>∃(o:MO)(L:List MO)(os':List Int)(x6:Option U),BagO o/\M'=MB M k o L/\ρ=[some (.m k),some (.p (layT bits ms)),some (.p (.int room)),some (.p (.int most)),some (.m (M.length+p)),some (.m (M.length+1)),x6,x7]/\L[p]?=some (lsI os')/\L[1]?=some (.dF kvs ob gs)/\os'.length=os.length) ⟨o,L1,os,x6,B,rfl,rfl,hp',h1',rfl⟩ (λi ρ M' h=>by
  obtain⟨o,L,os',x6,_,rfl,_,_,h1,_⟩:=h;exact vE h1) ?_ ?_
 ·rintro i key v ρ M' hkv ⟨o,L,os',x6,B,rfl,rfl,hp,h1,hl'⟩
  obtain⟨a,s,a0,a1,rfl,hv,hmem⟩:=hOk.val hkv;obtain⟨a',s',_,_,hE,h3⟩:=hH.2 _ hmem;cases hE;have hpl:=(Uj.mp hp).1;rw[show keyU (Key.inl a)=U.p (.int a) from rfl];symm;simp only[JT];symm;refine⟨_,kvs,ob,gs, .inl a,_,rfl,vE h1,rfl,hv, ?_⟩;symm;refine ite2 (λhs=>?_) (λhs=>⟨o,L,os',_,B,rfl,rfl,hp,h1,hl'⟩);have h3:=h3 hs;symm;refine ke hk B hR h1 hOk λx o5 B5=>?_;symm;refine YO hp (by lia) (by lia) ?_;symm;have h1'':(L.set p (lsI (os'.set (a+1).toNat x)))[1]?=some (.dF kvs ob gs):=by rw[UW hp1]; exact h1
  refine ke hk B5 hR h1'' hOk λy o6 B6=>?_;symm;refine YO (os:=os'.set (a+1).toNat x) (UL hpl) (by lia) (by rw[UN]; lia) ?_;symm;exact⟨o6,_,_,_,B6,rfl,rfl,UL (by rw[UN]; exact hpl),by rw[UW hp1]; exact h1'',by rw[UN,UN]; exact hl'⟩
 rintro ρ M' ⟨o,L,os',x6,B,rfl,rfl,hp,h1,hl'⟩;symm;refine xX (by decide) (by decide) ?_;refine jz (m:=8) (UC (qJ (by decide))) (λj acc M'=>∃(o:MO)(ws:List Int),BagO o/\M'=MB M k o L/\ws.length=j/\acc=ws.map T.int) ⟨o, [],B,rfl,rfl,rfl⟩ ?_ ?_
 ·rintro j acc M' hj _ ⟨o,ws,B,rfl,hw,rfl⟩
  symm;refine ke hk B hR h1 hOk λx o5 B5=>?_;exact⟨_,rfl,o5,ws++[x],B5,rfl,by simp[hw],by simp⟩
 rintro acc M' ⟨o,ws,B,rfl,hw,rfl⟩;symm;have hpl:=(Uj.mp hp).1;refine⟨zx B.pur,imT bits ms room ws os', ?_, ?_⟩
 ·generalize hX:MO.tup [U.p (layT bits ms),U.p (T.int room),U.p (T.lst (List.map T.int ws)),U.m (List.length M+p)]=X
  have e1:(L++[X])[L.length]?=some X:=by rw[Uz (Up _),Dm]; rfl
  have e2:(L++[X])[p]?=some (lsI os'):=by rw[Uo hpl]; exact hp
  have hf:∀n,frzs (frzB M.length n (MB M k o (L++[X]))) ((os'.map T.int).map U.p)=some (os'.map T.int):=λn=>Zd (λt=>QC) _;generalize L++[X]=L' at e1 e2 hf;simp only[frzB,MB_get,e1, <-hX,Nat.le_add_right,if_true,frzs,QC,e2,lsI,hf];rfl
 ·rw[zy]
  exact q room ws os' o B hw (by lia)
theorem at_in{xs:List T}{j:Int}(h0:0<=j)(h1:j<xs.length):∃t,atI xs j=some t/\t∈xs:=by
 obtain⟨k,rfl⟩:∃k:Nat,j=(k:Int):=⟨j.toNat,by lia⟩;have hk:k<xs.length:=by exact_mod_cast h1
 exact⟨xs[k],jv (Uk hk),List.getElem_mem hk⟩
theorem ix_any{ns:List Int}{j:Int}(h0:0<=j)(h1:j<ns.length)(q:∀x∈ns,Q (.p (.int x)) M):IxS vd M (.p (.lst (ns.map T.int))) (.p (.int j)) Q:=by
 obtain⟨t,ht,hm⟩:=at_in (xs:=ns.map T.int) h0 (by rw[Ul]; exact h1);obtain⟨x,hx,rfl⟩:=U7.mp hm;exact qS ht (q x hx)
def LyO(bits:Int)(ms:List Mk3)(i:Nat):Prop:=8-(i:Int)<=bits/\bits<=32+(i:Int)/\5-(i:Int)<=ms.length/\(ms.length:Int)<=5+i/\∀m∈ms,0<=m.2.1/\m.2.1<=40+(i:Int)
abbrev jg:Stmt:=top 90
theorem scSpoiltWord:FnScope ["bag","laying","word","kind","width","pattern","some"] ["bag","laying","word"] (ql jg):=⟨rfl,rfl,rfl,by decide +kernel,rfl,by decide +kernel,by decide +kernel⟩
def V0:List U->MM->UK->Prop:=λus M Q=>∃(k:Nat)(o:MO)(bits:Int)(ms:List Mk3)(i:Nat)(word:Int),us=[.m k, .p (layT bits ms), .p (.int word)]/\M[k]?=some o/\BagO o/\LyO bits ms i/\i<=3/\∀(x:Int) o',BagO o'->Q (.p (.int x)) (M.set k o')
theorem Ww(F:Fun Ξ "_law_spoilt_word" "_law_spoilt_word" jg f fd)(N:Nms mg)(DDraw:Def P w Ξ mg base "_law_draw" 1 ["bag","many"] (spU js)):FnOk P w Ξ mg base CX0 2 f fd ["bag","laying","word"] (spU V0):=by
 refine F.zV scSpoiltWord (λus M Qu h=>?_) (λcdv A outer s H E hr=>?_)
 ·obtain⟨_,_,_,_,_,_,rfl,_⟩:=h
  rfl
 refine⟨_,(qg (vY (qH (Uc Ξ) (qH (Ud Ξ) (qv 1) qe (λ_ _=>rfl)) (qu DDraw (Wf hr) (qa_c (qv 0) (qa_c (qG qV (by rfl) N.len ze (qa_c (qH (Ud Ξ) (qv 1) qe (λ_ _=>rfl)) qf)) qf))) (λ_ _=>rfl)) (xY (Ξ:=Ξ) (i:=3) (j:=4) (k:=5) rfl scSpoiltWord.nd rfl rfl rfl rfl W3 W3 W3 W3 W3 W3))
  (qg (qF (i:=6) scSpoiltWord.nd rfl W3 (qW (qa_c (qt qP (qv 2) qe) (qa_c (qt vh (qv 2) qe) (qa_c (qu DDraw (Wf hr) (qa_c (qv 0) (qa_c (qt vn qe qe) qf))) (qa_c qe (qa_c qe (qa_c qe (qa_c qe (qa_c qe (qa_c (QM xT qe) (qa_c (qt vn qe (qH (Ud Ξ) (qv 1) qe (λ_ _=>rfl))) (qa_c (qt vh (qt vn qe (qH (Ud Ξ) (qv 1) qe (λ_ _=>rfl))) qe) qf)))))))))))))
  (qg (qF (i:=6) scSpoiltWord.nd rfl W3 (qt vZ (qv 6) (qW (qa_c (qt qP (qt vn qe (qv 4)) (qv 5)) (qa_c (qt qP (qt vn qe (qv 4)) (qv 5)) (qa_c (qt qP (qt vn (qu DDraw (Wf hr) (qa_c (qv 0) (qa_c qe qf))) (qv 4)) (qv 5)) qf))))))
  (qi (qy (qH (Uc Ξ) (qt vZ (qv 6) (qW (qa_c (qt vh (qu DDraw (Wf hr) (qa_c (qv 0) (qa_c (qt ZL qe qe) qf))) (qt ZL qe qe)) qf))) (qu DDraw (Wf hr) (qa_c (qv 0) (qa_c qe qf))) (λ_ _=>rfl))))))),_,(qj (qx (qT (qQ (qd 1) Wh) (qD (qc (qd 0) (qc (vO (qc (qQ (qd 1) Wh) qh)) qh)))) (zL 3 4 5))
   (qj (qx (vf (qc (qk (qo λ_ _=>.int _) (qd 2) Wh) (qc (qk (qo λ_ _=>.int _) (qd 2) Wh) (qc (qD (qc (qd 0) (qc (qk (vg λ_ _=>.int _) Wh Wh) qh))) (qc Wh (qc Wh (qc Wh (qc Wh (qc Wh (qc (ja Wh) (qc (qk (vg λ_ _=>.int _) Wh (qQ (qd 1) Wh)) (qc (qk (qo λ_ _=>.int _) (qk (vg λ_ _=>.int _) Wh (qQ (qd 1) Wh)) Wh) qh)))))))))))) (qm 6))
   (qj (qx (qk vI (qd 6) (vf (qc (qk (qo λ_ _=>.int _) (qk (vg λ_ _=>.int _) Wh (qd 4)) (qd 5)) (qc (qk (qo λ_ _=>.int _) (qk (vg λ_ _=>.int _) Wh (qd 4)) (qd 5)) (qc (qk (qo λ_ _=>.int _) (qk (vg λ_ _=>.int _) (qD (qc (qd 0) (qc Wh qh))) (qd 4)) (qd 5)) qh))))) (qm 6))
   (qC (qT (qk vI (qd 6) (vf (qc (qk (qo λ_ _=>.int _) (qD (qc (qd 0) (qc (qk (vg λ_ _=>.int _) Wh Wh) qh))) (qk (vg λ_ _=>.int _) Wh Wh)) qh))) (qD (qc (qd 0) (qc Wh qh)))))))),λus M M1 Qu e1 h=>?_⟩
 obtain⟨k,o,bits,ms,i,word,rfl,ek,hB,⟨b0,b1,l0,l1,hw⟩,hi,q⟩:=h;obtain⟨hk,eM⟩:=zC ek;rw[e1.trans eM];symm;rw[Ul];refine qR hk hB (by lia) (log2_lt (by lia) (by lia)) λj o1 j0 j1 B1=>?_;obtain⟨m,hm⟩:∃m,ms[j.toNat]?=some m:=⟨_,Uk (by lia)⟩;have hmw:=hw m (Um hm);rw[show j=((j.toNat:Nat):Int) by lia];refine qS (atT hm) ?_;unfold zj;symm;refine⟨⟨by decide,by decide,by decide⟩, ?_⟩;symm;refine qR hk B1 (by decide) (by decide +kernel) λd1 o2 _ _ B2=>?_;symm;refine⟨⟨by lia,by lia,by decide⟩, ?_⟩;symm;refine⟨⟨by lia,by lia,by decide⟩, ?_⟩;symm;refine⟨⟨by lia,by lia,by decide⟩,⟨by lia,by lia,by decide⟩, ?_⟩;refine qR hk B2 (by decide) (by decide +kernel) λd2 o3 d20 d21 B3=>?_;symm;refine⟨⟨by lia,by lia,by lia⟩,UC (qJ (by decide)),⟨by decide,by decide,by decide⟩, ?_⟩;refine qR hk B3 (by decide) (by decide +kernel) λd3 o4 _ _ B4=>?_;symm;refine⟨⟨by decide,by decide,by decide⟩, ?_⟩;symm;refine⟨UC (qJ (by decide)), ?_⟩;refine qR hk B4 (by decide) (by decide +kernel) λd4 o5 d40 d41 B5=>?_;refine ix_any (ns:=[_,_,_,_,_,_,_,_,_,_,_,_,_,_,_]) d40 d41 λx _=>⟨zx B5.pur,_,QC, ?_⟩;rw[zy];exact q x o5 B5
theorem Zz(hk:k<M.length)(B:BagO o)(h:LyO bits ms i)(hi:i<=3)(q:∀(x:Int) o',BagO o'->Q (.p (.int x)) (MB M k o' L)):V0 [.m k, .p (layT bits ms), .p (.int word)] (MB M k o L) Q :=
 ⟨k,o,bits,ms,i,word,rfl,QJ hk,B,h,hi,λx o' B'=>by rw[zI hk]; exact q x o' B'⟩
abbrev jh:Stmt:=top 91
theorem scSpoiltList:FnScope ["bag","laying","words","k","way"] ["bag","laying","words"] (ql jh):=⟨rfl,rfl,rfl,by decide +kernel,rfl,by decide +kernel,by decide +kernel⟩
def V1:List U->MM->UK->Prop:=λus M Q=>∃(k:Nat)(o:MO)(bits:Int)(ms:List Mk3)(i:Nat)(ws:List Int),us=[.m k, .p (layT bits ms), .p (qZ ws)]/\M[k]?=some o/\BagO o/\LyO bits ms i/\i<=3/\ws.length<=500/\∀(ws':List Int) o',BagO o'->ws'.length<=ws.length+1->Q (.p (qZ ws')) (M.set k o')
theorem Wx(F:Fun Ξ "_law_spoilt_list" "_law_spoilt_list" jh f fd)(N:Nms mg)(DDraw:Def P w Ξ mg base "_law_draw" 1 ["bag","many"] (spU js))(DSpoiltWord:Def P w Ξ mg base "_law_spoilt_word" 2 ["bag","laying","word"] (spU V0)):FnOk P w Ξ mg base CX0 3 f fd ["bag","laying","words"] (spU V1):=by
 refine F.zV scSpoiltList (λus M Qu h=>?_) (λcdv A outer s H E hr=>?_)
 ·obtain⟨_,_,_,_,_,_,rfl,_⟩:=h
  rfl
 refine⟨_,(qg (qX (qp (Ws (Ξ:=Ξ) rfl hr.units) (qv 2) (qW qf) (qB _))
   (qi (qy (qt Ka (qW (qa_c (qu DSpoiltWord (Wf hr) (qa_c (qv 0) (qa_c (qv 1) (qa_c qe qf)))) qf)) (qu DDraw (Wf hr) (qa_c (qv 0) (qa_c qe qf))))))
   qI)
  (qg (qF (i:=3) scSpoiltList.nd rfl W3 (qu DDraw (Wf hr) (qa_c (qv 0) (qa_c (qG qV (by rfl) N.len ze (qa_c (qv 2) qf)) qf))))
  (qg (qF (i:=4) scSpoiltList.nd rfl W3 (qu DDraw (Wf hr) (qa_c (qv 0) (qa_c qe qf))))
  (qg (qX (qp zF (qv 4) qe (qB _))
   (qi (qy (qt vZ (qt vZ (vA (Ub Ξ) (qv 2) v7 (vD (qv 3))) (qW (qa_c (qu DSpoiltWord (Wf hr) (qa_c (qv 0) (qa_c (qv 1) (qa_c (qH (Uc Ξ) (qv 2) (qv 3) (λ_ _=>rfl)) qf)))) qf))) (vA (Ub Ξ) (qv 2) (vD (qt qP (qv 3) qe)) v7))))
   qI)
  (qi (qy (qt vZ (qt vZ (vA (Ub Ξ) (qv 2) v7 (vD (qv 3))) (qt Ka (vA (Ub Ξ) (qv 2) (vD (qv 3)) (vD (qt qP (qv 3) qe))) (qH (Uc Ξ) (qW (qa_c qe (qa_c qe (qa_c qe qf)))) (qt vh (qv 4) qe) (λ_ _=>rfl)))) (vA (Ub Ξ) (qv 2) (vD (qt qP (qv 3) qe)) v7)))))))),_,(qj (ve (qr (qk Wo (qd 2) (vf qh)))
   (qC (qk X4 (vf (qc (qD (qc (qd 0) (qc (qd 1) (qc Wh qh)))) qh)) (qD (qc (qd 0) (qc Wh qh)))))
   qL)
   (qj (qx (qD (qc (qd 0) (qc (vO (qc (qd 2) qh)) qh))) (qm 3))
   (qj (qx (qD (qc (qd 0) (qc Wh qh))) (qm 4))
   (qj (ve (qr (qk (qo λ_ _=>.bl _) (qd 4) Wh))
   (qC (qk vI (qk vI (xS (qd 2) zt (vH (qd 3))) (vf (qc (qD (qc (qd 0) (qc (qd 1) (qc (qT (qd 2) (qd 3)) qh)))) qh))) (xS (qd 2) (vH (qk (qo λ_ _=>.int _) (qd 3) Wh)) zt)))
   qL)
   (qC (qk vI (qk vI (xS (qd 2) zt (vH (qd 3))) (qk X4 (xS (qd 2) (vH (qd 3)) (vH (qk (qo λ_ _=>.int _) (qd 3) Wh))) (qT (vf (qc Wh (qc Wh (qc Wh qh)))) (qk (qo λ_ _=>.int _) (qd 4) Wh)))) (xS (qd 2) (vH (qk (qo λ_ _=>.int _) (qd 3) Wh)) zt))))))),λus M M1 Qu e1 h=>?_⟩
 obtain⟨k,o,bits,ms,i,ws,rfl,ek,hB,hL,hi,hl,q⟩:=h;obtain⟨hk,eM⟩:=zC ek;rw[e1.trans eM];have fin:∀(ws':List Int)(o':MO),BagO o'->ws'.length<=ws.length+1->zZ M (MB M k o' [])/\Qu (.p (qZ ws')) (List.take (List.length M) (MB M k o' [])):=λz o' B h=>⟨zx B.pur,by rw[zy]; exact q z o' B h⟩;symm;refine eqNil ?_;symm;refine ite2 (λhe=>?_) (λhe=>?_)
 ·symm
  refine Zz hk hB hL hi λx o1 B1=>?_;symm;refine qR hk B1 (by decide) (by decide) λn o2 n0 n1 B2=>?_;symm;refine⟨_,n,rfl,rfl,by lia,by lia,UC (qJ (by show 1*n.toNat<=1000; lia)), ?_⟩;rw[show(List.replicate n.toNat [T.int x]).flatten=((List.replicate n.toNat [x]).flatten).map T.int by rw[List.map_flatten,DD]; rfl];exact fin _ o2 B2 (by rw[RT,DD,Rw]; show n.toNat*1<=_; lia)
 symm;have hws:0<ws.length:=by
  cases ws with
  |nil=>simp at he
  |cons a r=>simp
 rw[Ul];refine qR hk hB (by lia) (log2_lt (by lia) (by lia)) λj o1 j0 j1 B1=>?_;symm;refine qR hk B1 (by decide) (by decide) λway o2 w0 w1 B2=>?_;symm;obtain⟨n,rfl⟩:∃n:Nat,j=(n:Int):=⟨j.toNat,by lia⟩;have hn:n<ws.length:=by lia
 refine ite2 (λhw=>?_) (λhw=>?_)
 ·symm
  refine qS (atT (Uk hn)) ?_;symm;refine Zz hk B2 hL hi λx o3 B3=>?_;symm;have ct:cutT (ws.map T.int) none (some (n:Int))=(ws.take n).map T.int:=xB (by lia);have cd:cutT (ws.map T.int) (some ((n:Int)+1)) none=(ws.drop (n+1)).map T.int:=xC (a:=n+1) (by lia);rw[ct,cd];refine⟨UC (qJ (by simp; lia)),UC (qJ (by simp; lia)), ?_⟩;have:=fin (ws.take n++[x]++ws.drop (n+1)) o3 B3 (by simp; lia);simpa[qZ] using this
 ·symm
  have ct:cutT (ws.map T.int) none (some (n:Int))=(ws.take n).map T.int:=xB (by lia);have cd:cutT (ws.map T.int) (some ((n:Int)+1)) none=(ws.drop (n+1)).map T.int:=xC (a:=n+1) (by lia);have cm:cutT (ws.map T.int) (some (n:Int)) (some ((n:Int)+1))=((ws.drop n).take (n+1-n)).map T.int:=Zj (b:=n+1) (by lia) (by lia);rw[ct,cd,cm];obtain⟨c,hc,hc2⟩:∃c:Int,atI [T.int 0,T.int 0,T.int 2] (way-5)=some (.int c)/\(c=0\/c=2):=by
   rcases(show way=6\/way=7 by lia) with rfl|rfl
   ·exact⟨0,rfl, .inl rfl⟩
   ·exact⟨2,rfl, .inr rfl⟩
  refine qS hc ?_;symm;have h1:((ws.drop n).take (n+1-n)).length=1:=by simp; lia
  refine⟨_,c,rfl,rfl,by lia,by lia,UC (qJ (by rw[Ul,h1]; lia)), ?_⟩;rw[show(List.replicate c.toNat (((ws.drop n).take (n+1-n)).map T.int)).flatten=((List.replicate c.toNat ((ws.drop n).take (n+1-n))).flatten).map T.int by rw[List.map_flatten,DD]];have h2:((List.replicate c.toNat ((ws.drop n).take (n+1-n))).flatten).length=c.toNat:=by rw[RT,DD,Rw,h1,Nat.mul_one]
  generalize(List.replicate c.toNat ((ws.drop n).take (n+1-n))).flatten=r at h2;symm;refine⟨UC (qJ (by simp; lia)),UC (qJ (by simp; lia)), ?_⟩;have:=fin (ws.take n++r++ws.drop (n+1)) o2 B2 (by simp; lia);simpa[qZ] using this
theorem Gb{ts:List T}{j:Int}(hL:L[i]?=some (.lst (ts.map U.p)))(h0:0<=j)(h1:j<ts.length)(q:∀x∈ts,Q (.p x) (MB M k o L)):IxS vd (MB M k o L) (.m (M.length+i)) (.p (.int j)) Q:=by
 obtain⟨t,ht,hm⟩:=at_in (xs:=ts) h0 h1;exact⟨_,j, .p t,by simp only[vd,MB_get,hL],rfl,JI ht,q t hm⟩
abbrev xa:Stmt:=top 92
theorem scSpoiltLaying:FnScope ["bag","laying","bits","marks","k","kind","width","pattern","some","way"] ["bag","laying"] (ql xa):=⟨rfl,rfl,rfl,by decide +kernel,rfl,by decide +kernel,by decide +kernel⟩
def Gq:List U->MM->UK->Prop:=λus M Q=>∃(k:Nat)(o:MO)(bits:Int)(ms:List Mk3)(i:Nat),us=[.m k, .p (layT bits ms)]/\M[k]?=some o/\BagO o/\LyO bits ms i/\i<=3/\∀(bits':Int)(ms':List Mk3) o',BagO o'->LyO bits' ms' (i+1)->Q (.p (layT bits' ms')) (M.set k o')
theorem ok_spLay(F:Fun Ξ "_law_spoilt_laying" "_law_spoilt_laying" xa f fd)(N:Nms mg)(DDraw:Def P w Ξ mg base "_law_draw" 1 ["bag","many"] (spU js)):FnOk P w Ξ mg base CX0 2 f fd ["bag","laying"] (spU Gq):=by
 refine F.zV scSpoiltLaying (λus M Qu h=>?_) (λcdv A outer s H E hr=>?_)
 ·obtain⟨_,_,_,_,_,rfl,_⟩:=h
  rfl
 refine⟨_,(qg (vY (qv 1) (Q3 (Ξ:=Ξ) (i:=2) (j:=3) rfl scSpoiltLaying.nd rfl rfl rfl W3 W3 W3 W3))
  (qg (qF (i:=4) scSpoiltLaying.nd rfl W3 (qu DDraw (Wf hr) (qa_c (qv 0) (qa_c (qG qV (by rfl) N.len ze (qa_c (qv 3) qf)) qf))))
  (qg (vY (qH (Uc Ξ) (qv 3) (qv 4) (λ_ _=>rfl)) (xY (Ξ:=Ξ) (i:=5) (j:=6) (k:=7) rfl scSpoiltLaying.nd rfl rfl rfl rfl W3 W3 W3 W3 W3 W3))
  (qg (qF (i:=8) scSpoiltLaying.nd rfl W3 (qW (qa_c (qN (qa_c (qv 5) (qa_c (qt qP (qv 6) qe) (qa_c (qv 7) qf)))) (qa_c (qN (qa_c (qv 5) (qa_c (qG (G5 rfl) (by rfl) N.max b_max (qa_c qe (qa_c (qt vh (qv 6) qe) qf))) (qa_c (qv 7) qf)))) (qa_c (qN (qa_c (qv 5) (qa_c (qv 6) (qa_c (qt qP (qv 7) qe) qf)))) qf)))))
  (qg (xy (ZH PySem.F.slot_list_append PySem.F.type_list_append zl (qv 8) (qa_c (qN (qa_c qE (qa_c (qv 6) (qa_c (qv 7) qf)))) qf)))
  (qg (qF (i:=9) scSpoiltLaying.nd rfl W3 (qu DDraw (Wf hr) (qa_c (qv 0) (qa_c qe qf))))
  (qg (qX (qp zF (qv 9) qe (qB _))
   (qi (qy (qN (qa_c (qv 2) (qa_c (qt vZ (qt vZ (vA (Ub Ξ) (qv 3) v7 (vD (qv 4))) (qW (qa_c (qH (Uc Ξ) (qv 8) (qv 9) (λ_ _=>rfl)) qf))) (vA (Ub Ξ) (qv 3) (vD (qt qP (qv 4) qe)) v7)) qf)))))
   qI)
  (qg (qF (i:=8) scSpoiltLaying.nd rfl W3 (qW (qa_c (qN (qa_c (qt qP (qv 2) qe) (qa_c (qv 3) qf))) (qa_c (qN (qa_c (qt vh (qv 2) qe) (qa_c (qv 3) qf))) (qa_c (qN (qa_c (qv 2) (qa_c (qt vZ (vA (Ub Ξ) (qv 3) v7 (vD (qv 4))) (vA (Ub Ξ) (qv 3) (vD (qt qP (qv 4) qe)) v7)) qf))) (qa_c (qN (qa_c (qv 2) (qa_c (qt vZ (qv 3) (qW (qa_c (qN (qa_c qE (qa_c qe (qa_c qe qf)))) qf))) qf))) qf))))))
  (qi (qy (qH (Uc Ξ) (qv 8) (qt vh (qv 9) qe) (λ_ _=>rfl)))))))))))),_,(qj (qx (qd 1) (xP 2 3))
   (qj (qx (qD (qc (qd 0) (qc (vO (qc (qd 3) qh)) qh))) (qm 4))
   (qj (qx (qT (qd 3) (qd 4)) (zL 5 6 7))
   (qj (qx (kr (qc (qO (qc (qd 5) (qc (qk (qo λ_ _=>.int _) (qd 6) Wh) (qc (qd 7) qh)))) (qc (qO (qc (qd 5) (qc (ju cbl_max (qc Wh (qc (qk (qo λ_ _=>.int _) (qd 6) Wh) qh))) (qc (qd 7) qh)))) (qc (qO (qc (qd 5) (qc (qd 6) (qc (qk (qo λ_ _=>.int _) (qd 7) Wh) qh)))) qh)))) (qm 8))
   (qj (xE (Xi zi (qd 8) (qc (qO (qc Wk (qc (qd 6) (qc (qd 7) qh)))) qh)))
   (qj (qx (qD (qc (qd 0) (qc Wh qh))) (qm 9))
   (qj (ve (qr (qk (qo λ_ _=>.bl _) (qd 9) Wh))
   (qC (qO (qc (qd 2) (qc (qk vI (qk vI (xS (qd 3) zt (vH (qd 4))) (vf (qc (qT (qd 8) (qd 9)) qh))) (xS (qd 3) (vH (qk (qo λ_ _=>.int _) (qd 4) Wh)) zt)) qh))))
   qL)
   (qj (qx (kr (qc (qO (qc (qk (qo λ_ _=>.int _) (qd 2) Wh) (qc (qd 3) qh))) (qc (qO (qc (qk (qo λ_ _=>.int _) (qd 2) Wh) (qc (qd 3) qh))) (qc (qO (qc (qd 2) (qc (qk vI (xS (qd 3) zt (vH (qd 4))) (xS (qd 3) (vH (qk (qo λ_ _=>.int _) (qd 4) Wh)) zt)) qh))) (qc (qO (qc (qd 2) (qc (qk vI (qd 3) (vf (qc (qO (qc Wk (qc Wh (qc Wh qh)))) qh))) qh))) qh))))) (qm 8))
   (qC (qT (qd 8) (qk (qo λ_ _=>.int _) (qd 9) Wh))))))))))),λus M M1 Qu e1 h=>?_⟩
 obtain⟨k,o,bits,ms,i,rfl,ek,hB,⟨b0,b1,l0,l1,hw⟩,hi,q⟩:=h;obtain⟨hk,eM⟩:=zC ek;rw[e1.trans eM];unfold layT;symm;rw[Ul];refine qR hk hB (by lia) (log2_lt (by lia) (by lia)) λj o1 j0 j1 B1=>?_;obtain⟨n,rfl⟩:∃n:Nat,j=(n:Int):=⟨j.toNat,by lia⟩;have hn:n<ms.length:=by lia
 obtain⟨m,hm⟩:∃m,ms[n]?=some m:=⟨_,Uk hn⟩;have hmw:=hw m (Um hm);symm;refine qS (atT hm) ?_;rw[show zj m=T.tup [.str m.1, .int m.2.1, .int m.2.2] from rfl];symm;refine⟨qJ (by decide), ?_⟩;have ct:cutT (ms.map zj) none (some (n:Int))=(ms.take n).map zj:=xB (by lia);have cd:cutT (ms.map zj) (some ((n:Int)+1)) none=(ms.drop (n+1)).map zj:=xC (a:=n+1) (by lia);have hmem:∀x:Mk3,x∈ms.take n++ms.drop (n+1)->x∈ms:=λx hx=>by
  rcases Us.mp hx with z|z
  ·exact Dt z
  ·exact Du z
 have wd1:∀x∈ms,0<=x.2.1/\x.2.1<=40+((i+1:Nat):Int):=λx hx=>by have:=hw x hx; push_cast; lia
 symm;refine qR hk B1 (by decide) (by decide) λway o2 w0 w1 B2=>?_;symm;refine ite2 (λhwy=>?_) (λhwy=>?_)
 ·symm
  refine Gb (i:=0) (ts:=[_,_,_,_]) rfl w0 hwy λt ht=>?_;obtain⟨m',rfl,h1,h2⟩:∃m':Mk3,t=zj m'/\0<=m'.2.1/\m'.2.1<=40+((i+1:Nat):Int):=by
   simp only[Uw,Df,or_false] at ht;push_cast;rcases ht with rfl|rfl|rfl|rfl
   ·exact⟨(m.1,m.2.1+1,m.2.2),rfl,by show 0<=m.2.1+1; lia,by show m.2.1+1<=_; lia⟩
   ·exact⟨(m.1,(if m.2.1-1>0 then m.2.1-1 else 0),m.2.2),rfl,by show 0<=(if m.2.1-1>0 then m.2.1-1 else 0); split<;>lia,by show(if m.2.1-1>0 then m.2.1-1 else 0)<=_; split<;>lia⟩
   ·exact⟨(m.1,m.2.1,m.2.2+1),rfl,by show 0<=m.2.1; lia,by show m.2.1<=_; lia⟩
   ·exact⟨("far", m.2.1,m.2.2),rfl,by show 0<=m.2.1; lia,by show m.2.1<=_; lia⟩
  symm;rw[ct,cd];refine⟨UC (qJ (by simp; lia)),UC (qJ (by simp; lia)),zx B2.pur, ?_⟩;rw[zy];have:=q bits (ms.take n++[m']++ms.drop (n+1)) o2 B2 ⟨by push_cast; lia,by push_cast; lia,by simp; lia,by simp; lia,λx hx=>?_⟩
  ·simpa[layT] using this
  ·rcases Us.mp hx with z|z
   ·rcases Us.mp z with z|z
    ·exact wd1 x (hmem x (by simp[z]))
    ·rw[Uq.mp z]; exact⟨h1,h2⟩
   ·exact wd1 x (hmem x (by simp[z]))
 symm;rw[ct,cd];refine⟨UC (qJ (by simp; lia)),UC (qJ (by simp; lia)), ?_⟩;refine Gb (i:=1) (ts:=[_,_,_,_]) rfl (by lia) (by show way-4<4; lia) λt ht=>?_;obtain⟨bits',ms',rfl,hO⟩:∃bits' ms',t=layT bits' ms'/\LyO bits' ms' (i+1):=by
  simp only[Uw,Df,or_false] at ht;rcases ht with rfl|rfl|rfl|rfl
  ·exact⟨bits+1,ms,rfl,by push_cast; lia,by push_cast; lia,by push_cast; lia,by push_cast; lia,wd1⟩
  ·exact⟨bits-1,ms,rfl,by push_cast; lia,by push_cast; lia,by push_cast; lia,by push_cast; lia,wd1⟩
  ·exact⟨bits,ms.take n++ms.drop (n+1),by simp[layT],by push_cast; lia,by push_cast; lia,by simp; lia,by simp; lia,λx hx=>wd1 x (hmem x hx)⟩
  ·refine⟨bits,ms++([("far", 5,1)]:List Mk3),by simp[layT]; rfl,by push_cast; lia,by push_cast; lia,by simp; lia,by simp; lia,λx hx=>?_⟩
   rcases Us.mp hx with z|z
   ·exact wd1 x z
   ·rw[Uq.mp z]; exact⟨by show(0:Int)<=5; lia,by show(5:Int)<=_; push_cast; lia⟩
 refine⟨zx B2.pur,_,QC, ?_⟩;rw[zy];exact q bits' ms' o2 B2 hO
def ImO(ws os:List Int)(i:Nat):Prop:=ws.length<=8+i/\os.length<=400+i
abbrev XG:Stmt:=top 93
theorem scSpoilt:FnScope ["bag","image","laying","room","words","outside","way"] ["bag","image"] (ql XG):=⟨rfl,rfl,rfl,by decide +kernel,rfl,by decide +kernel,by decide +kernel⟩
def Jl:List U->MM->UK->Prop:=λus M Q=>∃(k:Nat)(o:MO)(bits:Int)(ms:List Mk3)(room:Int)(ws os:List Int)(i:Nat),us=[.m k, .p (imT bits ms room ws os)]/\M[k]?=some o/\BagO o/\LyO bits ms i/\ImO ws os i/\i<=3/\∀(bits':Int)(ms':List Mk3)(room':Int)(ws' os':List Int) o',BagO o'->LyO bits' ms' (i+1)->ImO ws' os' (i+1)->Q (.p (imT bits' ms' room' ws' os')) (M.set k o')
theorem LyO.mono(h:LyO bits ms i):LyO bits ms (i+1):=by
 obtain⟨b0,b1,l0,l1,hw⟩:=h;exact⟨by push_cast; lia,by push_cast; lia,by push_cast; lia,by push_cast; lia,λx hx=>by have:=hw x hx; push_cast; lia⟩
theorem ZB(hk:k<M.length)(B:BagO o)(h:LyO bits ms i)(hi:i<=3)(hl:ws.length<=500)(q:∀(ws':List Int) o',BagO o'->ws'.length<=ws.length+1->Q (.p (qZ ws')) (MB M k o' L)):V1 [.m k, .p (layT bits ms), .p (qZ ws)] (MB M k o L) Q :=
 ⟨k,o,bits,ms,i,ws,rfl,QJ hk,B,h,hi,hl,λx o' B' h'=>by rw[zI hk]; exact q x o' B' h'⟩
theorem Wv(F:Fun Ξ "_law_spoilt" "_law_spoilt" XG f fd)(N:Nms mg)(DDraw:Def P w Ξ mg base "_law_draw" 1 ["bag","many"] (spU js))(DSpoiltLaying:Def P w Ξ mg base "_law_spoilt_laying" 2 ["bag","laying"] (spU Gq))(DSpoiltList:Def P w Ξ mg base "_law_spoilt_list" 3 ["bag","laying","words"] (spU V1)):FnOk P w Ξ mg base CX0 4 f fd ["bag","image"] (spU Jl):=by
 refine F.zV scSpoilt (λus M Qu h=>?_) (λcdv A outer s H E hr=>?_)
 ·obtain⟨_,_,_,_,_,_,_,_,rfl,_⟩:=h
  rfl
 refine⟨_,(qg (vY (qv 1) (Wa rfl (vV (qU (i:=2) scSpoilt.nd rfl W3) (vV (qU (i:=3) scSpoilt.nd rfl W3) (vV (qU (i:=4) scSpoilt.nd rfl W3) (vV (qU (i:=5) scSpoilt.nd rfl W3) XZ))))))
  (qg (qF (i:=6) scSpoilt.nd rfl W3 (qu DDraw (Wf hr) (qa_c (qv 0) (qa_c qe qf))))
  (qg (qX (qp vK (qv 6) qe (qB _))
   (qi (qy (qN (qa_c (qu DSpoiltLaying (Wf hr) (qa_c (qv 0) (qa_c (qv 2) qf))) (qa_c (qv 3) (qa_c (qv 4) (qa_c (qv 5) qf)))))))
   qI)
  (qg (qX (qp vK (qv 6) qe (qB _))
   (qi (qy (qN (qa_c (qv 2) (qa_c (qH (Uc Ξ) (qW (qa_c (QM xT qe) (qa_c qe (qa_c (qt vh (qG qV (by rfl) N.len ze (qa_c (qv 5) qf)) qe) (qa_c (qG qV (by rfl) N.len ze (qa_c (qv 5) qf)) (qa_c qe (qa_c (qt ZL qe qe) qf))))))) (qu DDraw (Wf hr) (qa_c (qv 0) (qa_c qe qf))) (λ_ _=>rfl)) (qa_c (qv 4) (qa_c (qv 5) qf)))))))
   qI)
  (qg (qX (qp zF (qv 6) qe (qB _))
   (qi (qy (qN (qa_c (qv 2) (qa_c (qv 3) (qa_c (qu DSpoiltList (Wf hr) (qa_c (qv 0) (qa_c (qv 2) (qa_c (qv 4) qf)))) (qa_c (qv 5) qf)))))))
   qI)
  (qi (qy (qN (qa_c (qv 2) (qa_c (qv 3) (qa_c (qv 4) (qa_c (qu DSpoiltList (Wf hr) (qa_c (qv 0) (qa_c (qv 2) (qa_c (qv 5) qf)))) qf)))))))))))),_,(qj (qx (qd 1) (Zk 2 3 4 5))
   (qj (qx (qD (qc (qd 0) (qc Wh qh))) (qm 6))
   (qj (ve (qr (qk vi (qd 6) Wh))
   (qC (qO (qc (qD (qc (qd 0) (qc (qd 2) qh))) (qc (qd 3) (qc (qd 4) (qc (qd 5) qh))))))
   qL)
   (qj (ve (qr (qk vi (qd 6) Wh))
   (qC (qO (qc (qd 2) (qc (qT (vf (qc (ja Wh) (qc Wh (qc (qk (qo λ_ _=>.int _) (vO (qc (qd 5) qh)) Wh) (qc (vO (qc (qd 5) qh)) (qc Wh (qc (qk (vg λ_ _=>.int _) Wh Wh) qh))))))) (qD (qc (qd 0) (qc Wh qh)))) (qc (qd 4) (qc (qd 5) qh))))))
   qL)
   (qj (ve (qr (qk (qo λ_ _=>.bl _) (qd 6) Wh))
   (qC (qO (qc (qd 2) (qc (qd 3) (qc (qD (qc (qd 0) (qc (qd 2) (qc (qd 4) qh)))) (qc (qd 5) qh))))))
   qL)
   (qC (qO (qc (qd 2) (qc (qd 3) (qc (qd 4) (qc (qD (qc (qd 0) (qc (qd 2) (qc (qd 5) qh)))) qh))))))))))),λus M M1 Qu e1 h=>?_⟩
 obtain⟨k,o,bits,ms,room,ws,os,i,rfl,ek,hB,hL,⟨hI1,hI2⟩,hi,q⟩:=h;obtain⟨hk,eM⟩:=zC ek;rw[e1.trans eM];have fin:∀(bits':Int)(ms':List Mk3)(room':Int)(ws' os':List Int) o',BagO o'->LyO bits' ms' (i+1)->ImO ws' os' (i+1)->zZ M (MB M k o' [])/\Qu (.p (imT bits' ms' room' ws' os')) (List.take (List.length M) (MB M k o' [])):=λb m r w' o' ob B h1 h2=>⟨zx B.pur,by rw[zy]; exact q b m r w' o' ob B h1 h2⟩;unfold imT;symm;refine qR hk hB (by decide) (by decide) λway o1 w0 w1 B1=>?_;symm;refine ite2 (λ_=>?_) (λ_=>?_)
 ·symm
  refine⟨k,o1,bits,ms,i,rfl,QJ hk,B1,hL,hi,λbits' ms' o2 B2 hL2=>?_⟩;rw[zI hk];symm;exact fin bits' ms' room ws os o2 B2 hL2 ⟨by lia,by lia⟩
 symm;refine ite2 (λ_=>?_) (λ_=>?_)
 ·symm
  refine⟨⟨by decide,by decide,by decide⟩,qR hk B1 (by decide) (by decide) λj o2 j0 j1 B2=>?_⟩;refine ix_any (ns:=[_,_,_,_,_,_]) j0 j1 λroom' _=>?_;symm;exact fin bits ms room' ws os o2 B2 hL.mono ⟨by lia,by lia⟩
 symm;refine ite2 (λ_=>?_) (λ_=>?_)
 ·symm
  refine ZB hk B1 hL hi (by lia) λws' o2 B2 h2=>?_;symm;exact fin bits ms room ws' os o2 B2 hL.mono ⟨by lia,by lia⟩
 symm;refine ZB hk B1 hL hi (by lia) λos' o2 B2 h2=>?_;symm;exact fin bits ms room ws os' o2 B2 hL.mono ⟨by lia,by lia⟩
def flds(bits:Int)(ms:List Mk3)(room:Int)(h kp:Nat):List (Str×U):=[("laying", .p (layT bits ms)),("room", .p (.int room)),("held", .m h),("kept", .m kp),("quick", .p (.int 0)),("slow", .p (.int 0)),("sweeps", .p (.int 0))]
structure TxStore(Ξ:PySem.W.Frag)(C:Addr):Prop where
 c:Cls Ξ C
 n1:NoAttr Ξ C "laying"
 n2:NoAttr Ξ C "room"
 n3:NoAttr Ξ C "held"
 n4:NoAttr Ξ C "kept"
 n5:NoAttr Ξ C "quick"
 n6:NoAttr Ξ C "slow"
 n7:NoAttr Ξ C "sweeps"
abbrev jV:Stmt:=top 55
theorem XE:FnScope ["laying"] ["laying"] (ql jV):=⟨rfl,rfl,rfl,by decide +kernel,rfl,by decide +kernel,by decide +kernel⟩
def j9:List T->(T->Prop)->Prop:=λts Q=>∃(bits:Int)(ms:List Mk3),ts=[layT bits ms]/\Q (layT bits ms)
theorem QP(F:Fun Ξ "own_laying" "own_laying" jV f fd)(N:Nms mg):FnOk P w Ξ mg base CX0 1 f fd ["laying"] (spP j9):=by
 refine F.zP XE (λts Qt h=>?_) (λcdv A outer s H E hr=>?_)
 ·obtain⟨_,_,rfl,_⟩:=h
  rfl
 refine⟨_,(qi (qy (qN (qa_c (qH (Ud Ξ) (qv 0) qe (λ_ _=>rfl)) (qa_c (vT v5 (by rfl) N.list xF (qa_c (qH (Ud Ξ) (qv 0) qe (λ_ _=>rfl)) qf)) qf))))),_,(qC (qO (qc (qQ (qd 0) Wh) (qc (ju kW (qc (qQ (qd 0) Wh) qh)) qh)))),λts Qt h=>?_⟩;obtain⟨bits,ms,rfl,q⟩:=h;unfold layT;symm;exact⟨_,_,rfl,rfl,q⟩
theorem Qa{M L:MM}(hs:s<M.length):(M.set s a++L).set s b=M.set s b++L:=by rw[RK _ _ (by rw[UN]; exact hs),R8]
theorem Qv{M L:MM}(hs:s<M.length):(M.set s a++L)[s]?=some a:=by rw[Uo (by rw[UN]; exact hs),UL hs]
abbrev jU:Stmt:=qY (top 57) 0
theorem XD:FnScope ["self","laying","room"] ["self","laying","room"] (ql jU):=⟨rfl,rfl,rfl,by decide +kernel,rfl,by decide +kernel,by decide +kernel⟩
def Gr(C:Addr):List U->MM->UK->Prop:=λus M Q=>∃(s:Nat)(bits:Int)(ms:List Mk3)(room:Int),us=[.m s, .p (layT bits ms), .p (.int room)]/\M[s]?=some (.ins C [])/\Right bits ms/\∀hd,Q (.p .non) (M.set s (.ins C (flds bits ms room M.length (M.length+1)))++[hd, .lst []])
theorem Wz(F:Fun Ξ "__init__" "Store.__init__" jU f fd)(TP:TxStore Ξ C)(GReg:GInt mg "REGISTERS" 8)(DOwnLaying:Def P w Ξ mg base "own_laying" 1 ["laying"] (spP j9))(DWordOf:Def P w Ξ mg base "word_of" 3 ["laying","worth"] (spP Jk)):FnOk P w Ξ mg base CX0 4 f fd ["self","laying","room"] (spU (Gr C)):=by
 refine F.zU XD (λus M Qu h=>?_) (λcdv A outer s H E hr=>?_)
 ·obtain⟨_,_,_,_,rfl,_⟩:=h
  rfl
 refine⟨_,(qg (jC (qv 0) (qu DOwnLaying (Wf hr) (qa_c (qv 1) qf)) rfl)
  (qg (jC (qv 0) (qv 2) rfl)
  (qg (jC (qv 0) (qt Ka (qW (qa_c (qu DWordOf (Wf hr) (qa_c (qv 1) (qa_c qE qf))) qf)) (vQ GReg rfl)) rfl)
  (qg (jC (qv 0) (qW qf) rfl)
  (qg (jC (qv 0) qe rfl)
  (qg (jC (qv 0) qe rfl)
  (qi (jC (qv 0) qe rfl)))))))),_,(qj (jP (qd 0) (qA (qc (qd 1) qh)))
   (qj (jP (qd 0) (qd 2))
   (qj (jP (qd 0) (GW (vf (qc (qA (qc (qd 1) (qc Wk qh))) qh)) Wh))
   (qj (jP (qd 0) (kr qh))
   (qj (jP (qd 0) Wh)
   (qj (jP (qd 0) Wh)
   (jP (qd 0) Wh))))))),λus M Qu h=>?_⟩
 obtain⟨s,bits,ms,room,rfl,em,R,q⟩:=h;have hs:=(Uj.mp em).1;symm;refine⟨bits,ms,rfl, ?_⟩;symm;refine zb TP.c TP.n1 em (by decide) ?_;symm;refine zb TP.c TP.n2 (UL hs) (by show 1<1000; decide) ?_;rw[R8];symm;obtain⟨m1,hm1⟩:=R.kind (kind := "one") (by decide);have hmw1:=R.w m1 hm1.mem;have hnd1:=vR m1.1;have hb:=R.b;have hn5:=R.n;refine⟨bits,ms, .str "none","one", (0:Nat),m1,rfl,by lia, .one rfl,hm1,by lia,by lia,by lia, .inr ⟨RQ _,vL _⟩, ?_⟩;symm;refine repN_at (by decide) (by decide) (by show 8<=sizeLine; decide) ?_;refine zb TP.c TP.n3 (Qv hs) (by show 2<1000; decide) ?_;rw[Qa hs];symm;refine zb TP.c TP.n4 (by rw[UD]; exact Qv hs) (by show 3<1000; decide) ?_;rw[UD,Qa hs];symm;refine zb TP.c TP.n5 (Qv hs) (by show 4<1000; decide) ?_;rw[Qa hs];symm;refine zb TP.c TP.n6 (Qv hs) (by show 5<1000; decide) ?_;rw[Qa hs];symm;refine zb TP.c TP.n7 (Qv hs) (by show 6<1000; decide) ?_;rw[Qa hs];symm;simp only[Uu,UN,Ur,U1,RC];exact q _
theorem qaf{o:MO}:(M++o::X)[M.length]?=some o:=by simp
theorem qae{M X:MM}:(M++o::X).set M.length o'=M++o'::X:=by simp
theorem We:(VN f y fs).length<=fs.length+1:=by
 induction fs with
 |nil=>exact Up _
 |cons p fs ih =>
  unfold VN;split
  ·simp
  ·simp only[Ur]; lia
abbrev Vv:Stmt:=top 58
theorem scStoreOf:FnScope ["laying","room","words","outside","store"] ["laying","room","words","outside"] (ql Vv):=⟨rfl,rfl,rfl,by decide +kernel,rfl,by decide +kernel,by decide +kernel⟩
def VZ:List U->MM->UK->Prop:=λus M Q=>∃(bits:Int)(ms:List Mk3)(room:Int)(ws os:List Int),us=[.p (layT bits ms), .p (.int room), .p (qZ ws), .p (qZ os)]/\Right bits ms/\∀u X,Q u (M++X)
theorem KQ(F:Fun Ξ "store_of" "store_of" Vv f fd)(N:Nms mg)(TP:TxStore Ξ C)(TStore:Cls Ξ C)(KStore:MkDef P w Ξ mg base C "Store" 4 ["self","laying","room"] (spU (Gr C))):FnOk P w Ξ mg base CX0 6 f fd ["laying","room","words","outside"] (spU VZ):=by
 refine F.zU scStoreOf (λus M Qu h=>?_) (λcdv A outer s H E hr=>?_)
 ·obtain⟨_,_,_,_,_,rfl,_⟩:=h
  rfl
 refine⟨_,(qg (qF (i:=4) scStoreOf.nd rfl W3 (qe_mk KStore (Wf hr) rfl (qa_c (qv 0) (qa_c (qv 1) qf))))
  (qg (jC (qv 4) (vT v5 (by rfl) N.list xF (qa_c (qv 2) qf)) rfl)
  (qg (jC (qv 4) (vT v5 (by rfl) N.list xF (qa_c (qv 3) qf)) rfl)
  (qi (qy (qv 4)))))),_,(qj (qx (ce_make (qc (qd 0) (qc (qd 1) qh))) (qm 4))
   (qj (jP (qd 4) (Ky (qc (qd 2) qh)))
   (qj (jP (qd 4) (Ky (qc (qd 3) qh)))
   (qC (qd 4))))),λus M Qu h=>?_⟩
 obtain⟨bits,ms,room,ws,os,rfl,R,q⟩:=h;symm;refine⟨_,bits,ms,room,rfl,by simp,R,λhd=>⟨rfl, ?_⟩⟩;rw[show(M++[MO.ins C []]).set M.length (.ins C (flds bits ms room (M++[MO.ins C []]).length ((M++[MO.ins C []]).length+1)))=M++[.ins C (flds bits ms room (M++[MO.ins C []]).length ((M++[MO.ins C []]).length+1))] by simp];have hl1:(M++[MO.ins C []]).length=M.length+1:=by simp
 rw[hl1,UD];symm;simp only[JS];symm;refine⟨_,_,rfl, .inl rfl, ?_⟩;rw[UD];refine zb TP.c TP.n3 qaf (by show 7<1000; decide) ?_;rw[Dp,qae];symm;simp only[JS];symm;refine⟨_,_,rfl, .inl rfl, ?_⟩;rw[UD];refine zb TP.c TP.n4 qaf (by show(List.length (VN _ _ _))<1000; exact Rf We (by show 8<1000; decide)) ?_;rw[Dp,qae];symm;exact q _ _
theorem small_k(h0:0<=k)(h1:k<100000):J1 k:=by
 refine⟨?_, ?_,by lia⟩
 ·by_cases hz:k.natAbs=0
  ·rw[hz]; decide
  ·exact Uy ((Nat.log2_lt hz).mpr (show k.natAbs<2^20 by lia)) (by decide)
 ·have e:=PySem.int_text_length_le10 (a:=k) (k:=5) (by decide) (by lia)
  rw[PySem.ofString_length];lia
def FlOk(p:Str×Int):Prop:=p.1∈kh/\p.1.length<=1000/\0<=p.2/\p.2<100000
theorem Yr:∀w∈kh,w.length<=1000:=by decide +kernel
theorem FlOk.of{w:Str}(h:w∈kh)(h0:0<=k)(h1:k<100000):FlOk (w,k):=⟨h,Yr w h,h0,h1⟩
theorem thF_ok(hb:∀k w,bad k=some w->w∈kh)(hl:len<=10000):∀(n k:Nat),len-k<=n->∀p,(thF bad sz len k).1=some p->FlOk p
 |0,k,hn,p,h=>by
  unfold thF at h;rw[dif_neg (by lia)] at h;cases h
 |n+1,k,hn,p,h=>by
  unfold thF at h;by_cases hk:k<len/\0<sz k
  ·rw[dif_pos hk] at h
   cases hbk:bad k with
   |some w =>
    rw[hbk] at h;cases h;exact FlOk.of (hb k w hbk) (by lia) (by lia)
   |none =>
    rw[hbk] at h;exact thF_ok hb hl n (k+sz k) (by lia) p h
  ·rw[dif_neg hk] at h
   cases h
theorem badAt_ok{os:List Int}{w:Str}(h:zw bits sm os k x=some w):w∈kh:=by
 unfold zw at h
 repeat' split at h
 all_goals first|(cases h; decide +kernel)|cases h
theorem leadF_ok{os:List Int}{w:Str}(h:zS bits ms os hs word=some w):w∈kh:=by
 unfold zS at h
 repeat' split at h
 all_goals first|(cases h; decide +kernel)|cases h
theorem ko{α β:Type}{f:α->Option β}{b:β}:∀{l:List α},l.findSome? f=some b->∃a∈l,f a=some b
 | [],h=>by cases h
 |a::l,h=>by
  rw[List.findSome?_cons] at h;cases e:f a with
  |some c=>rw[e] at h; cases h; exact⟨a,UZ,e⟩
  |none =>
   rw[e] at h;obtain⟨x,hx,hf⟩:=ko h;exact⟨x,UV _ hx,hf⟩
theorem GB{ws os:List Int}(h1:ws.length<=10000)(h2:os.length<=10000)(h:zW bits ms room ws os=some p):FlOk p:=by
 unfold zW at h;split at h
 ·cases h; exact FlOk.of (by decide +kernel) (by lia) (by lia)
 split at h
 ·cases h; exact FlOk.of (by decide +kernel) (by lia) (by lia)
 split at h
 ·rename_i q hq
  cases h;unfold QK at hq;cases e:(ws++os).findIdx? (badW bits) with
  |none=>rw[e] at hq; cases hq
  |some k =>
   rw[e] at hq;cases hq;have:=(List.findIdx?_eq_some_iff_findIdx_eq.mp e).1;rw[Uu] at this;exact FlOk.of (by decide +kernel) (by lia) (by lia)
 split at h
 ·rename_i q hq
  cases h;unfold thI at hq;refine thF_ok (λk w hw=>?_) h2 os.length 0 (by lia) p hq;unfold badK at hw;cases e:os[k]? with
  |none=>rw[e] at hw; cases hw
  |some x=>rw[e] at hw; exact badAt_ok hw
 ·unfold xZ at h
  obtain⟨k,hk,hf⟩:=ko h;unfold kz at hf;have hk2:0<=k/\k<100000:=by
   rcases Us.mp hk with z|z
   ·unfold eight at z
    obtain⟨i,hi,rfl⟩:=U7.mp z;have:=Dc.mp hi;lia
   ·unfold wpl at z
    obtain⟨i,hi,z⟩:=List.mem_flatMap.mp z;split at z
    ·rename_i h1
     have:=(Uj.mp h1).1;simp only[Uw,Df,or_false] at z;lia
    ·cases z
  cases e:zS bits ms os (thI bits (bits-wOf ms "small") os 0).2 (jw ws os k) with
  |none=>rw[e] at hf; cases hf
  |some w=>rw[e] at hf; cases hf; exact FlOk.of (leadF_ok e) hk2.1 hk2.2
abbrev XJ:Stmt:=top 70
theorem scOpened:FnScope ["image","fault"] ["image"] (ql XJ):=⟨rfl,rfl,rfl,by decide +kernel,rfl,by decide +kernel,by decide +kernel⟩
def Jo:List U->MM->UK->UX->Prop:=λus M Q X=>∃(bits:Int)(ms:List Mk3)(room:Int)(ws os:List Int),us=[.p (imT bits ms room ws os)]/\ws.length<=10000/\os.length<=10000/\(zW bits ms room ws os=none->∀u Y,Q u (M++Y))/\∀p n,zW bits ms room ws os=some p->1000000<=n->wW n=p.1->wK n=p.2->X "Faulty" (some n) M
theorem WC(F:Fun Ξ "opened" "opened" XJ f fd)(DFaulty:ExcW P w Ξ mg base "Faulty" CF 1)(DImageFault:Def P w Ξ mg base "image_fault" 6 ["image"] (spP V9))(DStoreOf:Def P w Ξ mg base "store_of" 6 ["laying","room","words","outside"] (spU VZ)):FnOk P w Ξ mg base (CXe P w) 7 f fd ["image"] (spX mg Jo):=by
 refine F.zX scOpened (λus M Qu Xu h=>?_) (λcdv A outer s H E hr=>?_)
 ·obtain⟨_,_,_,_,_,rfl,_⟩:=h
  rfl
 refine⟨_,(J6 (qx_of (qF (i:=1) scOpened.nd rfl W3 (qu DImageFault (Wf hr) (qa_c (qv 0) qf))))
  (J6 (qx_if (qp Qj (qv 1) vC (qB _))
   (XV (Y7 rfl rfl DFaulty (Wf hr) (qa_c (qH (Ud Ξ) (qv 1) qe (λ_ _=>rfl)) (qa_c (qH (Ud Ξ) (qv 1) qe (λ_ _=>rfl)) qf))))
   qxs_nil)
  (XV (qx_of (qy (qu DStoreOf (Wf hr) (qa_c (qH (Ud Ξ) (qv 0) qe (λ_ _=>rfl)) (qa_c (qH (Ud Ξ) (qv 0) qe (λ_ _=>rfl)) (qa_c (qH (Ud Ξ) (qv 0) qe (λ_ _=>rfl)) (qa_c (qH (Ud Ξ) (qv 0) qe (λ_ _=>rfl)) qf)))))))))),_,(qj (qx (qA (qc (qd 0) qh)) (qm 1))
   (qj (ve (qr (QF (qd 1)))
   (GR (qc (qQ (qd 1) Wh) (qc (qQ (qd 1) Wh) qh)))
   qL)
   (qC (qD (qc (qQ (qd 0) Wh) (qc (qQ (qd 0) Wh) (qc (qQ (qd 0) Wh) (qc (qQ (qd 0) Wh) qh)))))))),λus M Qu Xu h=>?_⟩
 obtain⟨bits,ms,room,ws,os,rfl,l1,l2,k1,k2⟩:=h;symm;refine⟨bits,ms,room,ws,os,rfl,l1,l2, ?_⟩;cases e:zW bits ms room ws os with
 |some p =>
  have hp:=GB l1 l2 e;obtain⟨n,n6,nw,nk⟩:=two_ex hp.1 hp.2.2.1;unfold flT;symm;simp only[Yy];symm;exact⟨_,_,n,rfl,n6,nw,nk,hp.2.1,small_k hp.2.2.1 hp.2.2.2,_,_,_,rfl,rfl,k2 p n e n6 nw nk⟩
 |none =>
  unfold flT;symm;have hR:Right bits ms:=by
   unfold zW at e;split at e
   ·cases e
   ·rename_i h
    refine right_iff.mp ?_;cases e2:zA bits ms<;>first|rfl|(rw[e2] at h; exact absurd rfl h)
  exact⟨bits,ms,room,ws,os,rfl,hR,λu Y=>k1 e u Y⟩
abbrev VD:Stmt:=top 94
theorem scFaultOf:FnScope ["image","told","e"] ["image"] (ql VD):=⟨rfl,rfl,rfl,by decide +kernel,rfl,by decide +kernel,by decide +kernel⟩
def Zb:List U->MM->UK->Prop:=λus M Q=>∃(bits:Int)(ms:List Mk3)(room:Int)(ws os:List Int),us=[.p (imT bits ms room ws os)]/\ws.length<=10000/\os.length<=10000/\∀Y,Q (.p (flT (zW bits ms room ws os))) (M++Y)
theorem K1(F:Fun Ξ "_law_fault_of" "_law_fault_of" VD f fd)(CFaulty:ExcK Ξ CEFaulty g)(AWFaulty:NoAttr Ξ CEFaulty "word")(AKFaulty:NoAttr Ξ CEFaulty "k")(BFaulty:mg "Faulty" = some (.ref CEFaulty))(EFaulty_Faulty:W.exmOne Ξ (.ref CEFaulty) (.ref CEFaulty)=some true)(DOpened:DefX P w Ξ mg base "opened" 7 ["image"] (spX mg Jo)):FnOk P w Ξ mg base CX0 8 f fd ["image"] (spU Zb):=by
 refine F.zU scFaultOf (λus M Qu h=>?_) (λcdv A outer s H E hr=>?_)
 ·obtain⟨_,_,_,_,_,rfl,_⟩:=h
  rfl
 refine⟨_,(qg (qF (i:=1) scFaultOf.nd rfl W3 vC)
  (qg (qs_try (l:=[("Faulty", _)]) ⟨rfl,rfl,rfl,rfl⟩ (λ_ _ =>
   (XV (qx_expr (qx_call DOpened (Wf hr) (qa_c (qv 0) qf)))))
   (hh_cons BFaulty (λ_=>(qh_gen (i:=2) ⟨rfl,rfl,rfl,rfl⟩ BFaulty EFaulty_Faulty scFaultOf.nd rfl rfl (λ_ _ _ ob=>(qi (qF (i:=1) scFaultOf.nd rfl W3 (qN (qa_c (qe_word CFaulty AWFaulty ob mem_nm (qv 2)) (qa_c (qe_kf CFaulty AKFaulty ob mem_nm (qv 2)) qf)))))))) hh_nil))
  (qi (qy (qv 1))))),_,(qj (qx (ce_c .non) (qm 1))
   (qj (cs_try (cs_dropX (cx_call (qc (qd 0) qh))) (zh_cons (λ_=>(cs_asG (λ_ _=>(qx (qO (qc (ce_word (qd 2)) (qc (ce_kf (qd 2)) qh))) (qm 1))))) zh_nil))
   (qC (qd 1)))),λus M Qu h=>?_⟩
 obtain⟨bits,ms,room,ws,os,rfl,l1,l2,q⟩:=h;symm;simp only[uTry,uDropX,uCallX];symm;refine⟨bits,ms,room,ws,os,rfl,l1,l2,λe u Y=>?_,λp n e n6 nw nk=>?_⟩
 ·symm
  have:=q Y;rw[e] at this;exact this
 ·refine⟨_,_,_,_,rfl,rfl,rfl,λa d=>?_⟩
  symm;simp only[uWordE,uKE];symm;refine⟨n,rfl,n6,n,rfl,n6, ?_⟩;have:=q [];rw[e,U0] at this;rw[nw,nk];exact this
abbrev Q2:Stmt:=top 89
theorem YY:FnScope ["found","due"] ["found","due"] (ql Q2):=⟨rfl,rfl,rfl,by decide +kernel,rfl,by decide +kernel,by decide +kernel⟩
theorem ndAlike1:(["found","due","k"]:List Str).Nodup:=by decide +kernel
def flatA:V->Bool
 |.non=>true
 |.bl _=>true
 |.int _=>true
 |.str _=>true
 |_=>false
def AL(H:Hp):Nat->V->V->Prop
 |0,_,_=>False
 |n+1,x,y=>(x=y/\flatA x=true)\/∃(p q:Addr)(xs ys:List V),x=.ref p/\y=.ref q/\((H p=some (.lst xs)/\H q=some (.lst ys))\/(H p=some (.tup xs)/\H q=some (.tup ys)))/\xs.length=ys.length/\xs.length<=10000000/\∀(j:Nat)(x y:V),xs[j]?=some x->ys[j]?=some y->AL H n x y
theorem AL.same(s:Same H H'):∀{n:Nat}{x y:V},AL H n x y->AL H' n x y
 |0,_,_,h=>h
 |n+1,_,_,h=>by
  rcases h with h|⟨p,q,xs,ys,e1,e2,h,l1,l2,k⟩
  ·exact .inl h
  ·refine .inr ⟨p,q,xs,ys,e1,e2, ?_,l1,l2,λj x y a b=>(k j x y a b).same s⟩
   rcases h with⟨h1,h2⟩|⟨h1,h2⟩
   ·exact .inl ⟨s _ _ h1,s _ _ h2⟩
   ·exact .inr ⟨s _ _ h1,s _ _ h2⟩
def Vq(n:Nat):Sp:=λvs H Q _=>∃x y:V,vs=[x,y]/\AL H n x y/\∀H',Same H H'->Q (.bl true) H'
theorem ty_flat(h:flatA v=true):∃t,TyOf Ξ H v (.type t)/\W.kitAny Ξ (.type t) [.type "list", .type "tuple"]=some false/\∃b i s,W.kitOne Ξ (.type t) (.type "bool")=some b/\W.kitOne Ξ (.type t) (.type "int")=some i/\W.kitOne Ξ (.type t) (.type "str")=some s:=by
 cases v with
 |non=>exact⟨_,TyOf.non,rfl,_,_,_,rfl,rfl,rfl⟩
 |bl b=>exact⟨_,TyOf.bl b,rfl,_,_,_,rfl,rfl,rfl⟩
 |int i=>exact⟨_,TyOf.int i,rfl,_,_,_,rfl,rfl,rfl⟩
 |str s=>exact⟨_,TyOf.str s,rfl,_,_,_,rfl,rfl,rfl⟩
 |_=>cases h
theorem ixA_at(h:SqL Ξ H p xs\/SqT Ξ H p xs)(e:atI xs i=some v)(q:Q v H):rIxA Ξ (.ref p) (.int i) H Q :=
 h.elim (λh=>.inl ⟨p,xs,i,v,rfl,rfl,h,e,q⟩) λh=>.inr ⟨p,xs,i,v,rfl,rfl,h,e,q⟩
theorem VP(F:Fun Ξ "_law_alike" "_law_alike" Q2 f fd)(N:Nms mg)(DAlike:Def P w Ξ mg base "_law_alike" (n+1) ["found","due"] (Vq n)):FnOk P w Ξ mg base CX0 (n+2) f fd ["found","due"] (Vq (n+1)):=by
 refine F.okQ YY (λvs H Q E h=>?_) (λcdv A outer s H vs Q E hr h=>?_)
 ·obtain⟨_,_,rfl,_⟩:=h
  rfl
 ·obtain⟨x,y,rfl,hA,k⟩:=h
  refine⟨_,(qg (qX (zE (qG (Xm (Ξ:=Ξ) rfl) (by rfl) N.isinstance va (qa_c (qv 1) (qa_c (qN (qa_c (vW (v:=.ty "list") (by rfl) N.list xF rfl) (qa_c (vW (v:=.ty "tuple") (by rfl) N.tuple JH rfl) qf))) qf))))
   (qg (qX (xc (xR (xi (zE (qG (Xm (Ξ:=Ξ) rfl) (by rfl) N.isinstance va (qa_c (qv 0) (qa_c (qN (qa_c (vW (v:=.ty "list") (by rfl) N.list xF rfl) (qa_c (vW (v:=.ty "tuple") (by rfl) N.tuple JH rfl) qf))) qf))))) (xu (qp j3 (qG (Uf Ξ) (by rfl) N.isinstance va (qa_c (qv 0) (qa_c (vW (v:=.ty "list") (by rfl) N.list xF rfl) qf))) (qG (Uf Ξ) (by rfl) N.isinstance va (qa_c (qv 1) (qa_c (vW (v:=.ty "list") (by rfl) N.list xF rfl) qf))) (qB _)))))
    (qi (qy jY))
    qI)
   (qg (qX (qp j3 (qG (Ue Ξ) (by rfl) N.len ze (qa_c (qv 0) qf)) (qG (Ue Ξ) (by rfl) N.len ze (qa_c (qv 1) qf)) (qB _))
    (qi (qy jY))
    qI)
   (qi (qy (qG (call_all rfl) (by rfl) N.all b_all (qa_c (QN [true,true] ["k"] (vM rfl N.range (qa_c (qG (Ue Ξ) (by rfl) N.len ze (qa_c (qv 1) qf)) qf)) (λ_ _ _=>(qU (i:=2) ndAlike1 rfl W3)) (λ_ _ _=>xx) (λ_ _ _=>(qu DAlike (Wf hr) (qa_c (qH (Gc (Ξ:=Ξ) rfl) (qv 0) (qv 2) (λ_ _=>rfl)) (qa_c (qH (Gc (Ξ:=Ξ) rfl) (qv 1) (qv 2) (λ_ _=>rfl)) qf))))) qf))))))
   qI)
  (qg (qX (xc (xR (qp j3 (qG (Uf Ξ) (by rfl) N.isinstance va (qa_c (qv 0) (qa_c (vW (v:=.ty "bool") (by rfl) N.bool b_bool rfl) qf))) (qG (Uf Ξ) (by rfl) N.isinstance va (qa_c (qv 1) (qa_c (vW (v:=.ty "bool") (by rfl) N.bool b_bool rfl) qf))) (qB _)) (xu (qp j3 (qG (Uf Ξ) (by rfl) N.isinstance va (qa_c (qv 0) (qa_c (vW (v:=.ty "int") (by rfl) N.int G9 rfl) qf))) (qG (Uf Ξ) (by rfl) N.isinstance va (qa_c (qv 1) (qa_c (vW (v:=.ty "int") (by rfl) N.int G9 rfl) qf))) (qB _)))))
   (qi (qy jY))
   qI)
  (qi (qy (Wb (zM vK (qG (Uf Ξ) (by rfl) N.isinstance va (qa_c (qv 0) (qa_c (vW (v:=.ty "str") (by rfl) N.str b_str rfl) qf))) (qG (Uf Ξ) (by rfl) N.isinstance va (qa_c (qv 1) (qa_c (vW (v:=.ty "str") (by rfl) N.str b_str rfl) qf))) (qB _)) (J7 (zM vK (qv 0) (qv 1) (qB _)))))))), ?_⟩
  walk_at "go";refine⟨by decide,λp1 hp1=>?_⟩;walk_at "go";have s1:Same H (upd H p1 (.tup [.ty "list", .ty "tuple"])):=(Same.refl H).upd hp1;rcases hA with⟨rfl,hf⟩|⟨p,q,xs,ys,rfl,rfl,h,l1,l2,kk⟩
  ·obtain⟨t,ty,e1,b,i,st,e2,e3,e4⟩:=ty_flat (Ξ:=Ξ) (H:=upd H p1 (.tup [.ty "list", .ty "tuple"])) hf
   refine⟨x,p1, ["list","tuple"],t,false,rfl,upd_same,ty,e1, ?_⟩;walk_at "go";refine km ty e2 ?_;refine km ty e2 ?_;walk_at "go";refine ite2 (λhh=>absurd hh (by simp)) (λ_=>?_);refine km ty e3 ?_;refine km ty e3 ?_;walk_at "go";refine ite2 (λhh=>absurd hh (by simp)) (λ_=>?_);refine km ty e4 ?_;refine km ty e4 ?_;walk_at "go";have hq:=k _ s1;cases x with
   |non=>exact GC rfl (by simpa[eqV] using hq)
   |bl b=>exact GC rfl (by simpa[eqV] using hq)
   |int b=>exact GC rfl (by simpa[eqV] using hq)
   |str b=>exact GC rfl (by simpa[eqV] using hq)
   |_=>cases hf
  ·obtain⟨t,bl,tys,e1,e2⟩:∃(t:String)(bl:Bool),(∀H',Same H H'->TyOf Ξ H' (.ref p) (.type t)/\TyOf Ξ H' (.ref q) (.type t)/\(SqL Ξ H' p xs\/SqT Ξ H' p xs)/\(SqL Ξ H' q ys\/SqT Ξ H' q ys))/\W.kitAny Ξ (.type t) [.type "list", .type "tuple"]=some true/\W.kitOne Ξ (.type t) (.type "list")=some bl:=by
    rcases h with⟨h1,h2⟩|⟨h1,h2⟩
    ·exact⟨"list", true,(λH' s=>⟨TyOf.lst (s _ _ h1),TyOf.lst (s _ _ h2), .inl (SqL.of (s _ _ h1)), .inl (SqL.of (s _ _ h2))⟩),rfl,rfl⟩
    ·exact⟨"tuple", false,(λH' s=>⟨TyOf.tup (s _ _ h1),TyOf.tup (s _ _ h2), .inr (SqT.of (s _ _ h1)), .inr (SqT.of (s _ _ h2))⟩),rfl,rfl⟩
   refine⟨_,p1, ["list","tuple"],t,true,rfl,upd_same,(tys _ s1).2.1,e1, ?_⟩;walk_at "go";refine⟨by decide,λp2 hp2=>?_⟩;walk_at "go";have s2:=s1.trans ((Same.refl _).upd (o:=.tup [.ty "list", .ty "tuple"]) hp2);refine⟨_,p2, ["list","tuple"],t,true,rfl,upd_same,(tys _ s2).1,e1, ?_⟩;walk_at "go";refine ite2 (λhh=>absurd hh (by decide)) (λ_=>?_);refine km (tys _ s2).1 e2 ?_;refine km (tys _ s2).2.1 e2 ?_;walk_at "go";refine ite2 (λhh=>absurd hh (by simp)) (λ_=>?_);refine⟨p,xs,rfl,(tys _ s2).2.2.1, ?_⟩;refine⟨q,ys,rfl,(tys _ s2).2.2.2, ?_⟩;walk_at "go";refine ite2 (λhh=>absurd hh (by simp[l1])) (λ_=>?_);refine⟨q,ys,rfl,(tys _ s2).2.2.2, ?_⟩;refine rg_at (by lia) (by lia) ?_;intro acc hacc;generalize upd (upd H p1 (.tup [.ty "list", .ty "tuple"])) p2 (.tup [.ty "list", .ty "tuple"])=Hc at s2 hacc ⊢;refine Yo (λi H3=>Same Hc H3/\H3 acc=some (.lst ((List.replicate i true).map V.bl))) ?_ ?_ ?_
   ·exact⟨(Same.refl Hc).upd hacc,upd_same⟩
   ·rintro i H3 hi ⟨s3,e3⟩
    walk_at "go";have hi1:i<ys.length:=by lia
    have hi2:i<xs.length:=by lia
    have g1:xs[i]?=some xs[i]:=Uk hi2;have g2:ys[i]?=some ys[i]:=Uk hi1;have s13:=s2.trans s3;rw[R7];refine⟨⟨by(repeat (first|exact ExtS.nl|refine ExtS.sm ?_|refine ExtS.no ?_)),trivial⟩,ixA_at (tys _ s13).2.2.1 (jv g1) (ixA_at (tys _ s13).2.2.2 (jv g2) ?_)⟩;refine⟨_,_,rfl,(kk i _ _ g1 g2).same s13,λH6 s6=>?_⟩;refine⟨_,s6 _ _ e3, ?_,(s3.trans s6).upd hacc, ?_⟩
    ·rw[Ul,Rz]
     have:10000000<sizeLine:=by decide
     lia
    ·rw[upd_same]
     have:(V.bl true::List.map V.bl (List.replicate i true))=List.map V.bl (List.replicate i true)++[V.bl true]:=by
      rw[DD, <-Db,List.replicate_succ']
     rw[this]
   ·rintro H3 ⟨s3,e3⟩
    refine⟨acc,List.replicate (Int.toNat ys.length) true,rfl,e3, ?_⟩;have:(List.replicate (Int.toNat ys.length) true).all id=true:=by simp
    rw[this];exact k H3 (s2.trans s3)
theorem WK(F:Fun Ξ "_law_alike" "_law_alike" Q2 f fd):FnOk P w Ξ mg base CX0 1 f fd ["found","due"] (Vq 0):=by
 refine F.okQ YY (λvs H Q E h=>?_) (λcdv A outer s H vs Q E hr h=>?_)
 ·obtain⟨_,_,_,h,_⟩:=h
  exact h.elim
 ·obtain⟨_,_,_,h,_⟩:=h
  exact h.elim
theorem WJ(F:Fun Ξ "_law_alike" "_law_alike" Q2 f fd)(N:Nms mg)(hm:mg "_law_alike" = some (.ref f))(hk:W.keepIn Ξ (.ref f)=true)(hb:Binds Ξ fd ["found","due"] []):FnOk P w Ξ mg base CX0 4 f fd ["found","due"] (Vq 3) :=
 VP F N ⟨f,fd,hm,hk,hb,VP F N ⟨f,fd,hm,hk,hb,VP F N ⟨f,fd,hm,hk,hb,WK F⟩⟩⟩
def depT:Nat->T->Prop
 |0,_=>False
 |n+1, .tup xs=>xs.length<=10000000/\∀x∈xs,depT n x
 |n+1, .lst xs=>xs.length<=10000000/\∀x∈xs,depT n x
 |_+1,_=>True
def Gx(n:Nat):List T->(T->Prop)->Prop:=λts Q=>∃t,ts=[t,t]/\depT n t/\Q (.bl true)
theorem al_of:∀{n:Nat}{t:T}{x y:V},depT n t->RepT A H x t->RepT A H y t->AL H n x y
 |0,_,_,_,h,_,_=>h.elim
 |n+1, .non,_,_,_, .non, .non=>.inl ⟨rfl,rfl⟩
 |n+1, .bl b,_,_,_, .bl _, .bl _=>.inl ⟨rfl,rfl⟩
 |n+1, .int b,_,_,_, .int _, .int _=>.inl ⟨rfl,rfl⟩
 |n+1, .str b,_,_,_, .str _, .str _=>.inl ⟨rfl,rfl⟩
 |n+1, .tup xs,x,y,h,r1,r2=>by
  obtain⟨p,vs,rfl,_,h1,q1⟩:=r1.tup_inv;obtain⟨p2,vs2,rfl,_,h2,q2⟩:=r2.tup_inv;refine .inr ⟨p,p2,vs,vs2,rfl,rfl, .inr ⟨h1,h2⟩,by rw[q1.len,q2.len],by rw[q1.len]; exact h.1,λj a b ha hb=>?_⟩;obtain⟨t,ht,rt⟩:=Paired.getL q1 ha;obtain⟨t',ht',rt'⟩:=Paired.getL q2 hb;rw[ht] at ht'; cases ht';exact al_of (h.2 t (Um ht)) rt rt'
 |n+1, .lst xs,x,y,h,r1,r2=>by
  obtain⟨p,vs,rfl,_,h1,q1⟩:=r1.lst_inv;obtain⟨p2,vs2,rfl,_,h2,q2⟩:=r2.lst_inv;refine .inr ⟨p,p2,vs,vs2,rfl,rfl, .inl ⟨h1,h2⟩,by rw[q1.len,q2.len],by rw[q1.len]; exact h.1,λj a b ha hb=>?_⟩;obtain⟨t,ht,rt⟩:=Paired.getL q1 ha;obtain⟨t',ht',rt'⟩:=Paired.getL q2 hb;rw[ht] at ht'; cases ht';exact al_of (h.2 t (Um ht)) rt rt'
theorem K4(F:Fun Ξ "_law_alike" "_law_alike" Q2 f fd)(N:Nms mg)(hm:mg "_law_alike" = some (.ref f))(hk:W.keepIn Ξ (.ref f)=true)(hb:Binds Ξ fd ["found","due"] []):FnOk P w Ξ mg base CX0 4 f fd ["found","due"] (spP (Gx 3)):=by
 refine(WJ F N hm hk hb).imp λvs H Q E h=>?_;obtain⟨A,ts,Qt,hd,r,⟨t,rfl,hdep,q⟩,k⟩:=h;cases r with
 |cons r1 r =>
 cases r with
 |cons r2 r =>
 cases r;exact⟨_,_,rfl,al_of hdep r1 r2,λH' s=>k _ _ H' s (.bl true) q⟩
def YS(Ξ:PySem.W.Frag):Sp:=λvs H Q _=>∃(a:Addr)(ns:List Int),vs=[.ref a]/\SqL Ξ H a (ns.map V.int)/\ns.length<=63/\∀H',Q (.bl true) H'
theorem law_okU{st:Stmt}(F:Fun Ξ "law" "law" st f fd)(S:FnScope N ["script"] (ql st))(hN:2<=N.length)(hbody:∀(cdv:Value)(A:Around)(outer:List Env)(s:Shared)(H:Hp)(E:XK),Room k (A.deeper (envOfC "law" (ql st) s.heap.objs.size f cdv)) ->
   ∃tR,QSs (cxOf CX0 P w Ξ mg base N "law" (ql st) f cdv A outer s H E).nox (vS st) (tSeq (tAsg (jQ (spBag Ξ) [] E0 (zK (tVar 0) tNil)) (vc 1)) tR)/\∃uR,ZS tR uR/\∀o,BagO o->uR { nx:=λ_ _=>False,rt:=λz _=>z=.p (.bl true) } (none::some (.m 0)::List.replicate (N.length-2) none) [o]):FnOk P w Ξ mg base CX0 (k+1) f fd ["script"] (YS Ξ):=by
 refine F.okQ S (λvs H Q E h=>?_) (λcdv A outer s H vs Q E hr h=>?_)
 ·obtain⟨_,_,rfl,_⟩:=h
  rfl
 ·obtain⟨a,ns,rfl,hS,hlen,k⟩:=h
  obtain⟨tR,hT,uR,hU,hq⟩:=hbody cdv A outer s H E hr;refine⟨_,hT, ?_⟩;have hN2:L2.start N [.ref a]=some (.ref a)::none::List.replicate (N.length-2) none:=by
   unfold L2.start;obtain⟨m,hm⟩:∃m,N.length=m+2:=⟨N.length-2,by lia⟩;rw[hm];rfl
  rw[hN2];simp only[tSeq,tAsg,jQ,zK,tNil,tVar,vc,Dz,Option.some.injEq,exists_eq_left',U0,DC,DQ];refine⟨a,ns,rfl,hS,hlen,λb H1 hb s1 B1=>?_⟩;obtain⟨c,ns',i,a',st',n,hbb,hcc,r⟩:=id B1.ex;have ncb:c≠b:=G8 hbb hcc;obtain⟨o,hbo,ro,_⟩:=KD (A:=λ_=>False) (ι:=[b]) B1 ⟨_,hbb⟩ (λz=>z.elim id λz=>ncb (by simpa using z));have w1:L2.Wd (λ_=>False) [b] H1 [o]:=⟨by simp,rfl,λx hx=>hx.elim,λx _ z=>z,λk a2 o2 e1 e2=>by
   match k,e1,e2 with
   |0,e1,e2=>cases e1; cases e2; exact ro
   |k+1,e1,_=>simp at e1⟩
  have env:EnvR (λ_=>False) [b] H1 (some (.ref a)::some (.ref b)::List.replicate (N.length-2) none) (none::some (.m 0)::List.replicate (N.length-2) none):=by
   refine .cons (λu e=>by cases e) (.cons (λu e=>by cases e; exact⟨_,rfl, .m rfl⟩) ?_);generalize N.length-2=m
   induction m with
   |zero=>exact .nil
   |succ m ih=>exact .cons (λu e=>by cases e) ih
  refine hU.h (λ_=>False) [b] _ H1 _ [o] _ { nx:=λ_ _=>False,rt:=λz _=>z=.p (.bl true) } w1 env ⟨λ_ _ _ _ _ _ _ _ q=>q.elim,λι v H2 u M _ _ ru q=>?_,λ_ _ _ _ _ _ _ _ q=>q.elim,λ_ _ _ _ _ _ _ _ q=>q.elim⟩ (hq o hbo);have q:u=.p (.bl true):=q;subst q;cases ru with
  |p r=>cases r; exact k H2
theorem drawL(B:BagO o)(h0:0<many)(h1:many.natAbs.log2<9000)(q:∀(found:Int)(o':MO),0<=found->found<many->BagO o'->Q (.p (.int found)) (o'::L)):js [.m 0, .p (.int many)] (o::L) Q :=
 ⟨0,o,many,rfl,rfl,B,h0,h1,λf o' f0 f1 B'=>q f o' f0 f1 B'⟩
abbrev sLaw:Stmt:=top 95
theorem scLaw:FnScope ["script","bag","spoils","image","k","laying","room","words","outside","handed","due"] ["script"] (ql sLaw):=⟨rfl,rfl,rfl,by decide +kernel,rfl,by decide +kernel,by decide +kernel⟩
theorem LyO.of(h:Right bits ms):LyO bits ms 0:=by
 have hb:=h.b;have hn:=h.n;refine⟨by lia,by lia,by lia,by lia,λm hm=>?_⟩;have:=h.w m hm;have:=vR m.1;lia
theorem im_fl{ws os:List Int}:∀x∈[layT bits ms, .int room,qZ ws,qZ os],flD 20 x:=λx hx=>by
 have fi:∀l:List Int,flD 20 (qZ l):=λl y hy=>by obtain⟨n,_,rfl⟩:=U7.mp hy; trivial
 simp only[Uw,Df,or_false] at hx;rcases hx with rfl|rfl|rfl|rfl
 ·intro y hy
  simp only[Uw,Df,or_false] at hy;rcases hy with rfl|rfl
  ·trivial
  ·intro z hz
   obtain⟨m,_,rfl⟩:=U7.mp hz;intro v hv;simp only[Uw,Df,or_false] at hv;rcases hv with rfl|rfl|rfl<;>trivial
 ·trivial
 ·exact fi _
 ·exact fi _
theorem ok_lawU(F:Fun Ξ "law" "law" sLaw f fd)(N:Nms mg)(DBag:Def P w Ξ mg base "_law_bag" 1 ["script"] (spBag Ξ))(DDraw:Def P w Ξ mg base "_law_draw" 1 ["bag","many"] (spU js))(DLaying:Def P w Ξ mg base "_law_laying" 3 ["bag"] (spU Jr))(DAnyImage:Def P w Ξ mg base "_law_any_image" 4 ["bag","laying"] (spU Qz))(DSpoilt:Def P w Ξ mg base "_law_spoilt" 4 ["bag","image"] (spU Jl))(DLwImageFault:Def P w Ξ mg base "_law_image_fault" 5 ["image"] (spP Jt))(DImageFault:Def P w Ξ mg base "image_fault" 6 ["image"] (spP V9))(DFaultOf:Def P w Ξ mg base "_law_fault_of" 8 ["image"] (spU Zb))(DAlike:Def P w Ξ mg base "_law_alike" 4 ["found","due"] (spP (Gx 3))):FnOk P w Ξ mg base CX0 9 f fd ["script"] (YS Ξ):=by
 refine law_okU F scLaw (by decide) (λcdv A outer s H E hr=>?_);refine⟨_,(qg (qF (i:=1) scLaw.nd rfl W3 (qu DBag (Wf hr) (qa_c (qv 0) qf)))
  (qg (qF (i:=2) scLaw.nd rfl W3 (qu DDraw (Wf hr) (qa_c (qv 1) (qa_c qe qf))))
  (qg (qF (i:=3) scLaw.nd rfl W3 (qu DAnyImage (Wf hr) (qa_c (qv 1) (qa_c (qu DLaying (Wf hr) (qa_c (qv 1) qf)) qf))))
  (qg (vX PassesOwn.never rfl (vM rfl N.range (qa_c (qv 2) qf)) (qU (i:=4) scLaw.nd rfl W3)
   (qi (qF (i:=3) scLaw.nd rfl W3 (qu DSpoilt (Wf hr) (qa_c (qv 1) (qa_c (qv 3) qf))))))
  (qg (vY (qv 3) (Wa rfl (vV (qU (i:=5) scLaw.nd rfl W3) (vV (qU (i:=6) scLaw.nd rfl W3) (vV (qU (i:=7) scLaw.nd rfl W3) (vV (qU (i:=8) scLaw.nd rfl W3) XZ))))))
  (qg (qF (i:=9) scLaw.nd rfl W3 (qN (qa_c (qN (qa_c (qH (Ud Ξ) (qv 5) qe (λ_ _=>rfl)) (qa_c (vT v5 (by rfl) N.list xF (qa_c (qH (Ud Ξ) (qv 5) qe (λ_ _=>rfl)) qf)) qf))) (qa_c (qv 6) (qa_c (vT v5 (by rfl) N.list xF (qa_c (qv 7) qf)) (qa_c (vT v5 (by rfl) N.list xF (qa_c (qv 8) qf)) qf))))))
  (qg (qF (i:=10) scLaw.nd rfl W3 (qu DLwImageFault (Wf hr) (qa_c (qv 3) qf)))
  (qi (qy (Wb (qu DAlike (Wf hr) (qa_c (qW (qa_c (qu DImageFault (Wf hr) (qa_c (qv 9) qf)) (qa_c (qu DFaultOf (Wf hr) (qa_c (qv 9) qf)) qf))) (qa_c (qW (qa_c (qv 10) (qa_c (qv 10) qf))) qf))) (J7 (zM (op_eqTK (Ξ:=Ξ) rfl hr.units) (qv 9) (qv 3) (qB _))))))))))))),_,(qj (qx (qD (qc (qd 1) (qc Wh qh))) (qm 2))
   (qj (qx (qD (qc (qd 1) (qc (qD (qc (qd 1) qh)) qh))) (qm 3))
   (qj (zc (zO (qc (qd 2) qh)) (qm 4)
   (qx (qD (qc (qd 1) (qc (qd 3) qh))) (qm 3)))
   (qj (qx (qd 3) (Zk 5 6 7 8))
   (qj (qx (qO (qc (qO (qc (qQ (qd 5) Wh) (qc (ju kW (qc (qQ (qd 5) Wh) qh)) qh))) (qc (qd 6) (qc (ju kW (qc (qd 7) qh)) (qc (ju kW (qc (qd 8) qh)) qh))))) (qm 9))
   (qj (qx (qA (qc (qd 3) qh)) (qm 10))
   (qC (G1 (qA (qc (vf (qc (qA (qc (qd 9) qh)) (qc (qD (qc (qd 9) qh)) qh))) (qc (vf (qc (qd 10) (qc (qd 10) qh))) qh))) (qk opl_eqT (qd 9) (qd 3)))))))))),λo hB=>?_⟩
 show uSeq _ _ _ [none,some (.m 0),none,none,none,none,none,none,none,none,none] _;symm;refine drawL hB (by decide) (by decide) λsp o1 s0 s1 B1=>?_;symm;refine⟨0,o1,rfl,rfl,B1,λo2 bits ms B2 hR=>?_⟩;symm;refine⟨0,o2,bits,ms,rfl,rfl,B2,hR,λroom ws os o3 B3 l1 l2=>?_⟩;symm;refine xX (by lia) (by lia) ?_;refine xG (λi ρ M=>∃o x4 bits ms room ws os,BagO o/\ρ=[none,some (.m 0),some (.p (.int sp)),some (.p (imT bits ms room ws os)),x4,none,none,none,none,none,none]/\M=[o]/\LyO bits ms i/\ImO ws os i) ⟨o3,_,bits,ms,room,ws,os,B3,rfl,rfl,LyO.of hR,by lia,by lia⟩ (λi ρ M hi hI=>?_) (λρ M hI=>?_)
 ·obtain⟨o,x4,bits,ms,room,ws,os,B,rfl,rfl,hL,hO⟩:=hI
  symm;refine⟨0,o,bits,ms,room,ws,os,i,rfl,rfl,B,hL,hO,by lia,λbits' ms' room' ws' os' o' B' hL' hO'=>?_⟩;symm;exact⟨o',_,bits',ms',room',ws',os',B',rfl,rfl,hL',hO'⟩
 ·obtain⟨o,x4,bits,ms,room,ws,os,B,rfl,rfl,hL,hO⟩:=hI
  obtain⟨hO1,hO2⟩:=hO;obtain⟨_,_,_,l5,_⟩:=hL;unfold imT layT;symm;refine⟨_,_,rfl,rfl,_,_,rfl,rfl,_,_,rfl,rfl, ?_⟩;symm;refine⟨bits,ms,room,ws,os,rfl,by lia,by lia,by lia, ?_⟩;symm;refine⟨bits,ms,room,ws,os,rfl,by lia,by lia, ?_⟩;symm;refine⟨bits,ms,room,ws,os,rfl,by lia,by lia,λY=>?_⟩;symm;refine⟨_,rfl, ?_, ?_⟩
  ·have hf:depT 2 (flT (zW bits ms room ws os)):=by
    cases zW bits ms room ws os with
    |none=>trivial
    |some p =>
     refine⟨by show 2<=10000000; decide,λx hx=>?_⟩;simp only[Uw,Df,or_false] at hx;rcases hx with rfl|rfl<;>trivial
   refine⟨by show 2<=10000000; decide,λx hx=>?_⟩;simp only[Uw,Df,or_false] at hx;rcases hx with rfl|rfl<;>exact hf
  symm;exact GE (im_fl (bits:=bits) (ms:=ms) (room:=room) (ws:=ws) (os:=os)) rfl
--@XI
abbrev jm:Stmt:=qY (top 5) 0
theorem ZF:FnScope ["self","word","k"] ["self","word","k"] (ql jm):=⟨rfl,rfl,rfl,by decide +kernel,rfl,by decide +kernel,by decide +kernel⟩
theorem ok_finit(F:Fun Ξ "__init__" "Faulty.__init__" jm f fd)(ck:ExcK Ξ C f)(na:NoAttr Ξ C "word")(nk:NoAttr Ξ C "k")(ib:InitB Ξ mg "WordError" B):FnOk P w Ξ mg base CX0 1 f fd ["self","word","k"] (spW C):=by
 refine F.okQ ZF (λvs H Q E h=>?_) (λcdv A outer s H vs Q E hr h=>?_)
 ·obtain⟨_,_,_,rfl,_⟩:=h
  rfl
 refine⟨_,(qg (qs_initB ck ib (qa_c (qv 0) (qa_c (qe_fs2 (by decide) (qv 1) (qv 2)) qf)))
  (qg (qs_setX1 ck na (qv 0) (qv 1)) (qi (qs_setX2 ck nk (qv 0) (qv 2))))), ?_⟩
 obtain⟨a,x,n,rfl,hx,hn,ha,q⟩:=h;refine⟨.ref a,rfl, .str x,rfl,x,rfl,by lia, .int n,rfl,n,rfl,hn.1,hn.2.1,a,none,_,rfl,ha,by show 1<=1000; decide, ?_⟩;refine⟨.str x,rfl, .ref a,rfl,a,rfl,ha,λd hd=>?_⟩;have hda:a≠d:=λz=>by rw[<-z,ha] at hd; cases hd
 refine⟨.int n,rfl, .ref a,rfl,a,d, [("word", .str x)],rfl,hda,upd_same, ?_, ?_, ?_, ?_⟩
 ·rw[upd_ne (Ne.symm hda),upd_same]
 ·show 1<=50; decide
 ·rw[UM,show(("k" : Str)==("word" : Str))=false by decide]; rfl
 ·refine q d _ hd (Ne.symm hda) ?_
  funext b;unfold upd;by_cases h1:b=d
  ·subst h1
   rw[if_pos rfl,if_neg (Ne.symm hda),if_pos rfl];rfl
  ·by_cases h2:b=a
   ·subst h2
    simp[h1]
   ·simp[h1,h2]
end
end Mw
local macro_rules | `(tactic| walk_at "fk") => `(tactic| (refine' L2.fun_mk ?l ?c ?k; (case l=>k_is); (case c=>k_is); (case k=>k_is)))
local macro_rules | `(tactic| walk_at "fg") => `(tactic| (refine' ⟨?n, ?m⟩; (case n=>show _=_; k_is); (case m=>walk_at "fk")))
namespace Mw
open PySem L2
structure FG(K:PySem.W.Frag)(x:Str)(s:Stmt)(f:Addr)(d:FuncData):Prop where
 a:W.nsIn K mainGlobals x=some (some (.ref f))
 F:Fun K x x s f d
theorem ln1{α:Type}:∀{l:List α},l.length=1->∃a,l=[a]
 | [a],_=>⟨a,rfl⟩
theorem ln2{α:Type}:∀{l:List α},l.length=2->∃a b,l=[a,b]
 | [a,b],_=>⟨a,b,rfl⟩
theorem ln3{α:Type}:∀{l:List α},l.length=3->∃a b c,l=[a,b,c]
 | [a,b,c],_=>⟨a,b,c,rfl⟩
theorem ln4{α:Type}:∀{l:List α},l.length=4->∃a b c d,l=[a,b,c,d]
 | [a,b,c,d],_=>⟨a,b,c,d,rfl⟩
theorem ln5{α:Type}:∀{l:List α},l.length=5->∃a b c d e,l=[a,b,c,d,e]
 | [a,b,c,d,e],_=>⟨a,b,c,d,e,rfl⟩
abbrev Uh(K:PySem.W.Frag)(x:Str)(v:Value):=W.nsIn K mainGlobals x=some (some v)
abbrev Ui(K:PySem.W.Frag)(x:Str):=W.nsIn K mainGlobals x=some none
theorem all_mk{l:PySem.W.OpenLaw}{w:World}{K:PySem.W.Frag}{h:Heap}{mg:Str->Option Value}{fa f1 f2 f3 f4 f5 f6 f7 f8 f9 f10 f11 f12 f13 f14 f15 f16 f17 f18 f19 f20 f21 f22 f23 f24 f25 f26 f27 f28 f29 f30 f31 f32 f33 f34 f35 f36 f37 f38 f39 f40 f41 f42 f43 f44 f45 f46 f47 f48 f49 f50 f51 f52 f53 f54 f55 f56 f57 f58 f59 C1 CEFaulty CEWordError:Addr}(X:K.In h)(G:h.Ns mainGlobals mg)(hfa:mg "law" = some (.ref fa)){d1 d2 d3 d4 d5 d6 d7 d8 d9 d10 d11 d12 d13 d14 d15 d16 d17 d18 d19 d20 d21 d22 d23 d24 d25 d26 d27 d28 d29 d30 d31 d32 d33 d34 d35 d36 d37 d38 d39 d40 d41 d42 d43 d44 d45 d46 d47 d48 d49 d50 d51 d52 d53 d54 d55 d56 d57 d58 d59:FuncData}{ft1:Addr}{tn1:Nat}{tsl1:Array (Option Value)}{tk1_0 tk1_1 tk1_2:Tok}{ft2:Addr}{tn2:Nat}{tsl2:Array (Option Value)}{tk2_0 tk2_1 tk2_2 tk2_3 tk2_4:Tok}{gk1:Tok}{gk2:Tok}{gk3:Tok}{gk4:Tok}{gk5:Tok}{gk6:Tok}{gk7:Tok}{fd_1:Addr}{ke1:Nat}{ka1_0 kb1_0 ka1_1 kb1_1 ka1_2 kb1_2 ka1_3 kb1_3 ka1_4 kb1_4:Tok}(ca1:Uh K "Store" (.ref C1))(cb1:W.plainGet K C1 Str.empty=true)(cc1:W.hasDictIn K C1=true)(cd1:W.plainOver K C1=true)(ce1:W.findIn K (.ref C1) "__setattr__" = some (some (.builtin "object.__setattr__")))(cf1:W.makesIn K C1=true)(cg1:W.keepIn K (.ref C1)=true)(ch1_1:W.findIn K (.ref C1) "laying" = some none)(ch1_2:W.findIn K (.ref C1) "room" = some none)(ch1_3:W.findIn K (.ref C1) "held" = some none)(ch1_4:W.findIn K (.ref C1) "kept" = some none)(ch1_5:W.findIn K (.ref C1) "quick" = some none)(ch1_6:W.findIn K (.ref C1) "slow" = some none)(ch1_7:W.findIn K (.ref C1) "sweeps" = some none)(xaFaulty:Uh K "Faulty" (.ref CEFaulty))(xaWordError:Uh K "WordError" (.ref CEWordError))(EFaulty_Faulty:W.exmOne K (.ref CEFaulty) (.ref CEFaulty)=some true)(A1:FG K "_law_bag" sBag f1 d1)(A2:FG K "_law_draw" sDraw f2 d2)(A3:FG K "_law_full_laying" jl f3 d3)(A4:FG K "_law_laying" XQ f4 d4)(A5:FG K "mark_for" Vy f5 d5)(A6:FG K "_law_mark" sMark f6 d6)(A7:FG K "load_bits" Qf f7 d7)(A8:FG K "_law_load" sLoad f8 d8)(A9:FG K "kinds_on" Vz f9 d9)(A10:FG K "mark_of" XN f10 d10)(A11:FG K "load_of" XO f11 d11)(A12:FG K "marked" XM f12 d12)(A13:FG K "small_of" Vw f13 d13)(A14:FG K "worth_of" Vu f14 d14)(A15:FG K "word_of" XF f15 d15)(A16:FG K "is_small" VA f16 d16)(A17:FG K "bits_go" XS f17 d17)(A18:FG K "width_goes" jT f18 d18)(A19:FG K "load_goes" Qe f19 d19)(A20:FG K "marks_go" Vx f20 d20)(A21:FG K "has_form" VC f21 d21)(A22:FG K "least_double" xq f22 d22)(A23:FG K "laying_fault" xr f23 d23)(A24:FG K "size_at" XH f24 d24)(A25:FG K "number_at" Qd f25 d25)(A26:FG K "is_head" XR f26 d26)(A27:FG K "fault_at" VE f27 d27)(A28:FG K "thing_fault" jf f28 d28)(A29:FG K "heads_in" VB f29 d29)(A30:FG K "marks_by_head" xp f30 d30)(A31:FG K "worth_places" xl f31 d31)(A32:FG K "address_of" jX f32 d32)(A33:FG K "word_fault" jS f33 d33)(A34:FG K "most_outside" xo f34 d34)(A35:FG K "room_goes" Qb f35 d35)(A36:FG K "worth_fault" je f36 d36)(A37:FG K "image_fault" jk f37 d37)(A38:FG K "_law_is_small" jW f38 d38)(A39:FG K "_law_right" YZ f39 d39)(A40:FG K "_law_number_in" Qc f40 d40)(A41:FG K "_law_ref_of" Y0 f41 d41)(A42:FG K "_law_things_fault" xn f42 d42)(A43:FG K "_law_leads_fault" ji f43 d43)(A44:FG K "_law_image_fault" xb f44 d44)(A45:FG K "_law_any_thing" Qg f45 d45)(A46:FG K "_law_any_word" VF f46 d46)(A47:FG K "_law_any_image" Qh f47 d47)(A48:FG K "_law_spoilt_word" jg f48 d48)(A49:FG K "_law_spoilt_list" jh f49 d49)(A50:FG K "_law_spoilt_laying" xa f50 d50)(A51:FG K "_law_spoilt" XG f51 d51)(A52:FG K "own_laying" jV f52 d52)(a53:W.findIn K (.ref C1) "__init__" = some (some (.ref f53)))(n53:W.isFn K (.ref f53)=true)(F53:Fun K "__init__" "Store.__init__" jU f53 d53)(A54:FG K "store_of" Vv f54 d54)(a55:W.findIn K (.ref CEFaulty) "__init__" = some (some (.ref f55)))(F55:Fun K "__init__" "Faulty.__init__" jm f55 d55)(A56:FG K "opened" XJ f56 d56)(A57:FG K "_law_fault_of" VD f57 d57)(A58:FG K "_law_alike" Q2 f58 d58)(A59:FG K "law" sLaw f59 d59)(xk1Faulty:W.excInI K CEFaulty f55=true)(xk2Faulty:W.findIn K (.ref CEFaulty) "__setattr__" = some (some (.builtin "object.__setattr__")))(xk3Faulty:W.excOver K CEFaulty=true)(xk4Faulty:W.findIn K (.ref CEFaulty) "__getattribute__" = some (some (.builtin "BaseException.__getattribute__")))(xk5Faulty:W.findIn K (.ref CEFaulty) "__getattr__" = some none)(xk6Faulty:W.mroIn K CEFaulty (.type "BaseException")=some true)(xk7Faulty:W.hasDictIn K CEFaulty=true)(xk8Faulty:W.findIn K (.ref CEFaulty) "word" = some none)(xk9Faulty:W.findIn K (.ref CEFaulty) "k" = some none)(xb1WordError:W.specialIn K (.ref CEWordError) "__getattribute__" = some (some (.builtin "type.__getattribute__")))(xb2WordError:W.readsIn K CEWordError (.type "type")=true)(xb3WordError:W.findCls K (.ref CEWordError) (.type "type") "__init__" = some (.val (.builtin "ValueError.__init__")))(y1:Ui K "reversed")(z1:Ui K "abs")(z2:Ui K "len")(z3:Ui K "min")(z4:Ui K "max")(z5:Ui K "sum")(z6:Ui K "sorted")(z7:Ui K "all")(z8:Ui K "any")(z9:Ui K "isinstance")(z10:Ui K "range")(z11:Ui K "int")(z12:Ui K "list")(z13:Ui K "str")(z14:Ui K "bool")(z15:Ui K "tuple")(z16:Ui K "zip")(z17:Ui K "enumerate")(z18:Ui K "dict")(p1:Uh K "THREE" (.ref ft1))(q1:K.lookup ft1=some ⟨.type "tuple", none, .seq #[.str "none" tk1_0, .str "no" tk1_1, .str "yes" tk1_2] tn1,tsl1⟩)(p2:Uh K "KINDS" (.ref ft2))(q2:K.lookup ft2=some ⟨.type "tuple", none, .seq #[.str "small" tk2_0, .str "far" tk2_1, .str "pair" tk2_2, .str "sign" tk2_3, .str "one" tk2_4] tn2,tsl2⟩)(g1:W.nsIn K mainGlobals "FEWEST_BITS" = some (some (.int 8 gk1)))(g2:W.nsIn K mainGlobals "MOST_BITS" = some (some (.int 32 gk2)))(g3:W.nsIn K mainGlobals "SIGNS" = some (some (.int 128 gk3)))(g4:W.nsIn K mainGlobals "REGISTERS" = some (some (.int 8 gk4)))(g5:W.nsIn K mainGlobals "PAIR_HEAD" = some (some (.int 1 gk5)))(g6:W.nsIn K mainGlobals "PAIR_SIZE" = some (some (.int 3 gk6)))(g7:W.nsIn K mainGlobals "MOST_ROOM" = some (some (.int 400 gk7)))(kg1:Uh K "LEAST_LOAD_BITS" (.ref fd_1))(kl1:K.lookup fd_1=some ⟨.type "dict", none, .dict (([("small", ka1_0, .int 2 kb1_0),("far", ka1_1, .int 3 kb1_1),("pair", ka1_2, .int 3 kb1_2),("sign", ka1_3, .int 7 kb1_3),("one", ka1_4, .int 2 kb1_4)]:List (Str×Tok×Value)).map (entD w.params)).toArray ke1, #[]⟩) :
  ∃fd:FuncData,(∀(s:Shared)(v:Value),BindsTo s fd ⟨[v], []⟩ [("script", v)])/\∀base:Heap,K.In base->base.Ns mainGlobals mg->FnOk l.prog w K mg base CX0 9 fa fd ["script"] (YS K):=by
 have e:=hfa.symm.trans (W.mg_of X G A59.a);cases e;have mo:=λ{x:Str} {v:Value} (a:W.nsIn K mainGlobals x=some (some v))=>W.mg_of X G a;have mn:=λ{x:Str} (a:W.nsIn K mainGlobals x=some none)=>W.mg_none_of X G a;have N:Nms mg:=⟨mn z1,mn z2,mn z3,mn z4,mn z5,mn z6,mn z7,mn z8,mn z9,mn z10,mn z11,mn z12,mn z13,mn z14,mn z15,mn z16,mn z17,mn z18⟩;have T3:Tup3 K mg "THREE" ft1 "none" "no" "yes" := ⟨mo p1,_,_,_,_,_,q1⟩;have TKinds:Tup5 K mg "KINDS" ft2 "small" "far" "pair" "sign" "one" := ⟨mo p2,_,_,_,_,_,_,_,q2⟩;have N2:Nms2 mg:=⟨mn y1⟩;have GFew:GInt mg "FEWEST_BITS" 8:=⟨_,mo g1⟩;have GMost:GInt mg "MOST_BITS" 32:=⟨_,mo g2⟩;have GSigns:GInt mg "SIGNS" 128:=⟨_,mo g3⟩;have GReg:GInt mg "REGISTERS" 8:=⟨_,mo g4⟩;have GHead:GInt mg "PAIR_HEAD" 1:=⟨_,mo g5⟩;have GSize:GInt mg "PAIR_SIZE" 3:=⟨_,mo g6⟩;have GRoom:GInt mg "MOST_ROOM" 400:=⟨_,mo g7⟩;have DLeast:KDi K w mg "LEAST_LOAD_BITS" fd_1 W5:=⟨mo kg1,_,_,kl1,by show(["small","far","pair","sign","one"]:List Str).Nodup; decide +kernel, .cons ⟨rfl,_,rfl⟩ (.cons ⟨rfl,_,rfl⟩ (.cons ⟨rfl,_,rfl⟩ (.cons ⟨rfl,_,rfl⟩ (.cons ⟨rfl,_,rfl⟩ (.nil)))))⟩;have TStore:Cls K C1:=⟨cb1,cc1,cd1,ce1⟩;have XStore:TxStore K C1:=⟨TStore,ch1_1,ch1_2,ch1_3,ch1_4,ch1_5,ch1_6,ch1_7⟩;have CFaulty:ExcK K CEFaulty f55:=⟨xk1Faulty,xk2Faulty,xk3Faulty,xk4Faulty,xk5Faulty,xk6Faulty,xk7Faulty⟩;have AWFaulty:NoAttr K CEFaulty "word" := xk8Faulty;have AKFaulty:NoAttr K CEFaulty "k" := xk9Faulty;have BFaulty:=mo xaFaulty;have IWordError:InitB K mg "WordError" CEWordError:=⟨mo xaWordError,xb1WordError,xb2WordError,xb3WordError⟩;have b1:=A1.F.binds (ps:=["script"]) λ_ _ _ _ _ _ _ h=>by obtain⟨_,rfl⟩:=ln1 h; rfl
 have b2:=A2.F.binds (ps:=["bag","many"]) λ_ _ _ _ _ _ _ h=>by obtain⟨_,_,rfl⟩:=ln2 h; rfl
 have b3:=A3.F.binds (ps:=["bag","bits","order"]) λ_ _ _ _ _ _ _ h=>by obtain⟨_,_,_,rfl⟩:=ln3 h; rfl
 have b4:=A4.F.binds (ps:=["bag"]) λ_ _ _ _ _ _ _ h=>by obtain⟨_,rfl⟩:=ln1 h; rfl
 have b5:=A5.F.binds (ps:=["laying","kind"]) λ_ _ _ _ _ _ _ h=>by obtain⟨_,_,rfl⟩:=ln2 h; rfl
 have b6:=A6.F.binds (ps:=["laying","kind"]) λ_ _ _ _ _ _ _ h=>by obtain⟨_,_,rfl⟩:=ln2 h; rfl
 have b7:=A7.F.binds (ps:=["laying","kind"]) λ_ _ _ _ _ _ _ h=>by obtain⟨_,_,rfl⟩:=ln2 h; rfl
 have b8:=A8.F.binds (ps:=["laying","kind"]) λ_ _ _ _ _ _ _ h=>by obtain⟨_,_,rfl⟩:=ln2 h; rfl
 have b9:=A9.F.binds (ps:=["marks","word"]) λ_ _ _ _ _ _ _ h=>by obtain⟨_,_,rfl⟩:=ln2 h; rfl
 have b10:=A10.F.binds (ps:=["laying","word"]) λ_ _ _ _ _ _ _ h=>by obtain⟨_,_,rfl⟩:=ln2 h; rfl
 have b11:=A11.F.binds (ps:=["laying","word","kind"]) λ_ _ _ _ _ _ _ h=>by obtain⟨_,_,_,rfl⟩:=ln3 h; rfl
 have b12:=A12.F.binds (ps:=["laying","kind","load"]) λ_ _ _ _ _ _ _ h=>by obtain⟨_,_,_,rfl⟩:=ln3 h; rfl
 have b13:=A13.F.binds (ps:=["bits","load"]) λ_ _ _ _ _ _ _ h=>by obtain⟨_,_,rfl⟩:=ln2 h; rfl
 have b14:=A14.F.binds (ps:=["laying","word"]) λ_ _ _ _ _ _ _ h=>by obtain⟨_,_,rfl⟩:=ln2 h; rfl
 have b15:=A15.F.binds (ps:=["laying","worth"]) λ_ _ _ _ _ _ _ h=>by obtain⟨_,_,rfl⟩:=ln2 h; rfl
 have b16:=A16.F.binds (ps:=["laying","n"]) λ_ _ _ _ _ _ _ h=>by obtain⟨_,_,rfl⟩:=ln2 h; rfl
 have b17:=A17.F.binds (ps:=["bits"]) λ_ _ _ _ _ _ _ h=>by obtain⟨_,rfl⟩:=ln1 h; rfl
 have b18:=A18.F.binds (ps:=["bits","width"]) λ_ _ _ _ _ _ _ h=>by obtain⟨_,_,rfl⟩:=ln2 h; rfl
 have b19:=A19.F.binds (ps:=["bits","kind","width"]) λ_ _ _ _ _ _ _ h=>by obtain⟨_,_,_,rfl⟩:=ln3 h; rfl
 have b20:=A20.F.binds (ps:=["bits","marks"]) λ_ _ _ _ _ _ _ h=>by obtain⟨_,_,rfl⟩:=ln2 h; rfl
 have b21:=A21.F.binds (ps:=["laying"]) λ_ _ _ _ _ _ _ h=>by obtain⟨_,rfl⟩:=ln1 h; rfl
 have b22:=A22.F.binds (ps:=["marks"]) λ_ _ _ _ _ _ _ h=>by obtain⟨_,rfl⟩:=ln1 h; rfl
 have b23:=A23.F.binds (ps:=["laying"]) λ_ _ _ _ _ _ _ h=>by obtain⟨_,rfl⟩:=ln1 h; rfl
 have b24:=A24.F.binds (ps:=["outside","address"]) λ_ _ _ _ _ _ _ h=>by obtain⟨_,_,rfl⟩:=ln2 h; rfl
 have b25:=A25.F.binds (ps:=["laying","outside","address"]) λ_ _ _ _ _ _ _ h=>by obtain⟨_,_,_,rfl⟩:=ln3 h; rfl
 have b26:=A26.F.binds (ps:=["word"]) λ_ _ _ _ _ _ _ h=>by obtain⟨_,rfl⟩:=ln1 h; rfl
 have b27:=A27.F.binds (ps:=["laying","outside","address"]) λ_ _ _ _ _ _ _ h=>by obtain⟨_,_,_,rfl⟩:=ln3 h; rfl
 have b28:=A28.F.binds (ps:=["laying","outside"]) λ_ _ _ _ _ _ _ h=>by obtain⟨_,_,rfl⟩:=ln2 h; rfl
 have b29:=A29.F.binds (ps:=["outside"]) λ_ _ _ _ _ _ _ h=>by obtain⟨_,rfl⟩:=ln1 h; rfl
 have b30:=A30.F.binds (ps:=["outside"]) λ_ _ _ _ _ _ _ h=>by obtain⟨_,rfl⟩:=ln1 h; rfl
 have b31:=A31.F.binds (ps:=["outside"]) λ_ _ _ _ _ _ _ h=>by obtain⟨_,rfl⟩:=ln1 h; rfl
 have b32:=A32.F.binds (ps:=["laying","word"]) λ_ _ _ _ _ _ _ h=>by obtain⟨_,_,rfl⟩:=ln2 h; rfl
 have b33:=A33.F.binds (ps:=["laying","whole"]) λ_ _ _ _ _ _ _ h=>by obtain⟨_,_,rfl⟩:=ln2 h; rfl
 have b34:=A34.F.binds (ps:=["laying","room"]) λ_ _ _ _ _ _ _ h=>by obtain⟨_,_,rfl⟩:=ln2 h; rfl
 have b35:=A35.F.binds (ps:=["laying","room","words","outside"]) λ_ _ _ _ _ _ _ h=>by obtain⟨_,_,_,_,rfl⟩:=ln4 h; rfl
 have b36:=A36.F.binds (ps:=["laying","words","outside"]) λ_ _ _ _ _ _ _ h=>by obtain⟨_,_,_,rfl⟩:=ln3 h; rfl
 have b37:=A37.F.binds (ps:=["image"]) λ_ _ _ _ _ _ _ h=>by obtain⟨_,rfl⟩:=ln1 h; rfl
 have b38:=A38.F.binds (ps:=["laying","n"]) λ_ _ _ _ _ _ _ h=>by obtain⟨_,_,rfl⟩:=ln2 h; rfl
 have b39:=A39.F.binds (ps:=["laying"]) λ_ _ _ _ _ _ _ h=>by obtain⟨_,rfl⟩:=ln1 h; rfl
 have b40:=A40.F.binds (ps:=["laying","outside","k"]) λ_ _ _ _ _ _ _ h=>by obtain⟨_,_,_,rfl⟩:=ln3 h; rfl
 have b41:=A41.F.binds (ps:=["laying","word"]) λ_ _ _ _ _ _ _ h=>by obtain⟨_,_,rfl⟩:=ln2 h; rfl
 have b42:=A42.F.binds (ps:=["laying","outside"]) λ_ _ _ _ _ _ _ h=>by obtain⟨_,_,rfl⟩:=ln2 h; rfl
 have b43:=A43.F.binds (ps:=["laying","words","outside","heads"]) λ_ _ _ _ _ _ _ h=>by obtain⟨_,_,_,_,rfl⟩:=ln4 h; rfl
 have b44:=A44.F.binds (ps:=["image"]) λ_ _ _ _ _ _ _ h=>by obtain⟨_,rfl⟩:=ln1 h; rfl
 have b45:=A45.F.binds (ps:=["bag","laying"]) λ_ _ _ _ _ _ _ h=>by obtain⟨_,_,rfl⟩:=ln2 h; rfl
 have b46:=A46.F.binds (ps:=["bag","laying","heads"]) λ_ _ _ _ _ _ _ h=>by obtain⟨_,_,_,rfl⟩:=ln3 h; rfl
 have b47:=A47.F.binds (ps:=["bag","laying"]) λ_ _ _ _ _ _ _ h=>by obtain⟨_,_,rfl⟩:=ln2 h; rfl
 have b48:=A48.F.binds (ps:=["bag","laying","word"]) λ_ _ _ _ _ _ _ h=>by obtain⟨_,_,_,rfl⟩:=ln3 h; rfl
 have b49:=A49.F.binds (ps:=["bag","laying","words"]) λ_ _ _ _ _ _ _ h=>by obtain⟨_,_,_,rfl⟩:=ln3 h; rfl
 have b50:=A50.F.binds (ps:=["bag","laying"]) λ_ _ _ _ _ _ _ h=>by obtain⟨_,_,rfl⟩:=ln2 h; rfl
 have b51:=A51.F.binds (ps:=["bag","image"]) λ_ _ _ _ _ _ _ h=>by obtain⟨_,_,rfl⟩:=ln2 h; rfl
 have b52:=A52.F.binds (ps:=["laying"]) λ_ _ _ _ _ _ _ h=>by obtain⟨_,rfl⟩:=ln1 h; rfl
 have b53:=F53.binds (ps:=["self","laying","room"]) λ_ _ _ _ _ _ _ h=>by obtain⟨_,_,_,rfl⟩:=ln3 h; rfl
 have b54:=A54.F.binds (ps:=["laying","room","words","outside"]) λ_ _ _ _ _ _ _ h=>by obtain⟨_,_,_,_,rfl⟩:=ln4 h; rfl
 have b55:=F55.binds (ps:=["self","word","k"]) λ_ _ _ _ _ _ _ h=>by obtain⟨_,_,_,rfl⟩:=ln3 h; rfl
 have b56:=A56.F.binds (ps:=["image"]) λ_ _ _ _ _ _ _ h=>by obtain⟨_,rfl⟩:=ln1 h; rfl
 have b57:=A57.F.binds (ps:=["image"]) λ_ _ _ _ _ _ _ h=>by obtain⟨_,rfl⟩:=ln1 h; rfl
 have b58:=A58.F.binds (ps:=["found","due"]) λ_ _ _ _ _ _ _ h=>by obtain⟨_,_,rfl⟩:=ln2 h; rfl
 refine⟨d59,λs v=>?_,λbase _ _=>?_⟩
 ·obtain⟨_,_,_,_,_,_,_,_,_,rfl,_⟩:=A59.F.ex
  exact .of_eq rfl
 have DBag:Def l.prog w K mg base "_law_bag" 1 ["script"] (spBag K):=⟨f1,_,mo A1.a,A1.F.kp,b1,ok_bag A1.F N⟩;have DDraw:Def l.prog w K mg base "_law_draw" 1 ["bag","many"] (spU js):=⟨f2,_,mo A2.a,A2.F.kp,b2,ok_drawU A2.F N⟩;have DFullLaying:Def l.prog w K mg base "_law_full_laying" 2 ["bag","bits","order"] (spU gFull):=⟨f3,_,mo A3.a,A3.F.kp,b3,ok_fullU A3.F N DDraw⟩;have DLaying:Def l.prog w K mg base "_law_laying" 3 ["bag"] (spU Jr):=⟨f4,_,mo A4.a,A4.F.kp,b4,KZ A4.F N DDraw DFullLaying⟩;have DMarkFor:Def l.prog w K mg base "mark_for" 1 ["laying","kind"] (spP V6):=⟨f5,_,mo A5.a,A5.F.kp,b5,ZV A5.F⟩;have DMark:Def l.prog w K mg base "_law_mark" 1 ["laying","kind"] (spP V6):=⟨f6,_,mo A6.a,A6.F.kp,b6,ZW A6.F⟩;have DLoadBits:Def l.prog w K mg base "load_bits" 2 ["laying","kind"] (spP Qy):=⟨f7,_,mo A7.a,A7.F.kp,b7,VO A7.F DMarkFor⟩;have DLoad:Def l.prog w K mg base "_law_load" 2 ["laying","kind"] (spP Qy):=⟨f8,_,mo A8.a,A8.F.kp,b8,ZY A8.F DMark⟩;have DKindsOn:Def l.prog w K mg base "kinds_on" 1 ["marks","word"] (spP kQ):=⟨f9,_,mo A9.a,A9.F.kp,b9,ZZ A9.F⟩;have DMarkOf:Def l.prog w K mg base "mark_of" 2 ["laying","word"] (spP Qw):=⟨f10,_,mo A10.a,A10.F.kp,b10,X7 A10.F DKindsOn⟩;have DLoadOf:Def l.prog w K mg base "load_of" 2 ["laying","word","kind"] (spP V7):=⟨f11,_,mo A11.a,A11.F.kp,b11,X8 A11.F DMarkFor⟩;have DMarked:Def l.prog w K mg base "marked" 2 ["laying","kind","load"] (spP Jp):=⟨f12,_,mo A12.a,A12.F.kp,b12,KY A12.F DMarkFor⟩;have DSmallOf:Def l.prog w K mg base "small_of" 1 ["bits","load"] (spP V2):=⟨f13,_,mo A13.a,A13.F.kp,b13,ZU A13.F⟩;have DWorthOf:Def l.prog w K mg base "worth_of" 3 ["laying","word"] (spP VW):=⟨f14,_,mo A14.a,A14.F.kp,b14,ZQ A14.F N T3 GSigns DMarkOf DLoadOf DSmallOf DLoadBits⟩;have DWordOf:Def l.prog w K mg base "word_of" 3 ["laying","worth"] (spP Jk):=⟨f15,_,mo A15.a,A15.F.kp,b15,X6 A15.F N T3 DMarked DLoadBits⟩;have DIsSmall:Def l.prog w K mg base "is_small" 3 ["laying","n"] (spP V8):=⟨f16,_,mo A16.a,A16.F.kp,b16,Z0 A16.F DLoadBits⟩;have DBitsGo:Def l.prog w K mg base "bits_go" 1 ["bits"] (spP Ju):=⟨f17,_,mo A17.a,A17.F.kp,b17,WH A17.F GFew GMost⟩;have DWidthGoes:Def l.prog w K mg base "width_goes" 1 ["bits","width"] (spP j8):=⟨f18,_,mo A18.a,A18.F.kp,b18,ZR A18.F⟩;have DLoadGoes:Def l.prog w K mg base "load_goes" 1 ["bits","kind","width"] (spP Qx):=⟨f19,_,mo A19.a,A19.F.kp,b19,X9 A19.F DLeast⟩;have DMarksGo:Def l.prog w K mg base "marks_go" 2 ["bits","marks"] (spP V4):=⟨f20,_,mo A20.a,A20.F.kp,b20,KU A20.F DWidthGoes⟩;have DHasForm:Def l.prog w K mg base "has_form" 3 ["laying"] (spP Za):=⟨f21,_,mo A21.a,A21.F.kp,b21,K0 A21.F N TKinds DBitsGo DMarksGo⟩;have DLeastDouble:Def l.prog w K mg base "least_double" 2 ["marks"] (spP Gv):=⟨f22,_,mo A22.a,A22.F.kp,b22,ok_least A22.F N DKindsOn⟩;have DLayingFault:Def l.prog w K mg base "laying_fault" 4 ["laying"] (spP Gw):=⟨f23,_,mo A23.a,A23.F.kp,b23,ok_fault A23.F DHasForm DLeastDouble DLoadGoes⟩;have DSizeAt:Def l.prog w K mg base "size_at" 1 ["outside","address"] (spP Q9):=⟨f24,_,mo A24.a,A24.F.kp,b24,ok_sizeG A24.F GHead GSize⟩;have DNumberAt:Def l.prog w K mg base "number_at" 2 ["laying","outside","address"] (spP gNumG):=⟨f25,_,mo A25.a,A25.F.kp,b25,ok_numG A25.F N2 DSizeAt⟩;have DIsHead:Def l.prog w K mg base "is_head" 1 ["word"] (spP Js):=⟨f26,_,mo A26.a,A26.F.kp,b26,WE A26.F GHead⟩;have DFaultAt:Def l.prog w K mg base "fault_at" 4 ["laying","outside","address"] (spP Zc):=⟨f27,_,mo A27.a,A27.F.kp,b27,K2 A27.F N GHead DIsHead DSizeAt DNumberAt DIsSmall⟩;have DThingFault:Def l.prog w K mg base "thing_fault" 5 ["laying","outside"] (spP Gp):=⟨f28,_,mo A28.a,A28.F.kp,b28,ok_thing A28.F N GReg DFaultAt DSizeAt⟩;have DHeadsIn:Def l.prog w K mg base "heads_in" 2 ["outside"] (spP Kn):=⟨f29,_,mo A29.a,A29.F.kp,b29,ok_heads A29.F N DSizeAt⟩;have DMarksByHead:Def l.prog w K mg base "marks_by_head" 3 ["outside"] (spU V5):=⟨f30,_,mo A30.a,A30.F.kp,b30,KW A30.F N GHead DHeadsIn⟩;have DWorthPlaces:Def l.prog w K mg base "worth_places" 3 ["outside"] (spP Jn):=⟨f31,_,mo A31.a,A31.F.kp,b31,WB A31.F N GHead GReg DHeadsIn⟩;have DAddressOf:Def l.prog w K mg base "address_of" 3 ["laying","word"] (spP gAddr):=⟨f32,_,mo A32.a,A32.F.kp,b32,ok_addr A32.F DMarkOf DLoadOf⟩;have DWordFault:Def l.prog w K mg base "word_fault" 1 ["laying","whole"] (spP Go):=⟨f33,_,mo A33.a,A33.F.kp,b33,ok_wordF A33.F N⟩;have DMostOutside:Def l.prog w K mg base "most_outside" 3 ["laying","room"] (spP gMost):=⟨f34,_,mo A34.a,A34.F.kp,b34,ok_most A34.F N DLoadBits⟩;have DRoomGoes:Def l.prog w K mg base "room_goes" 4 ["laying","room","words","outside"] (spP Gs):=⟨f35,_,mo A35.a,A35.F.kp,b35,ok_roomG A35.F N GRoom GReg DMostOutside⟩;have DWorthFault:Def l.prog w K mg base "worth_fault" 4 ["laying","words","outside"] (spP Jj):=⟨f36,_,mo A36.a,A36.F.kp,b36,Wu A36.F N DMarksByHead DWorthPlaces DWorthOf DAddressOf DMarkOf⟩;have DImageFault:Def l.prog w K mg base "image_fault" 6 ["image"] (spP V9):=⟨f37,_,mo A37.a,A37.F.kp,b37,WG A37.F DLayingFault DRoomGoes DWordFault DThingFault DWorthFault⟩;have DLwIsSmall:Def l.prog w K mg base "_law_is_small" 3 ["laying","n"] (spP V3):=⟨f38,_,mo A38.a,A38.F.kp,b38,Wy A38.F DLoad⟩;have DRight:Def l.prog w K mg base "_law_right" 1 ["laying"] (spP Jm):=⟨f39,_,mo A39.a,A39.F.kp,b39,WA A39.F N⟩;have DNumberIn:Def l.prog w K mg base "_law_number_in" 1 ["laying","outside","k"] (spP Km):=⟨f40,_,mo A40.a,A40.F.kp,b40,ok_numIn A40.F N⟩;have DRefOf:Def l.prog w K mg base "_law_ref_of" 1 ["laying","word"] (spP Gu):=⟨f41,_,mo A41.a,A41.F.kp,b41,ok_refOf A41.F⟩;have DThingsFault:Def l.prog w K mg base "_law_things_fault" 4 ["laying","outside"] (spU VY):=⟨f42,_,mo A42.a,A42.F.kp,b42,KP A42.F N DLwIsSmall DNumberIn⟩;have DLeadsFault:Def l.prog w K mg base "_law_leads_fault" 2 ["laying","words","outside","heads"] (spU Jq):=⟨f43,_,mo A43.a,A43.F.kp,b43,WD A43.F N DRefOf⟩;have DLwImageFault:Def l.prog w K mg base "_law_image_fault" 5 ["image"] (spP Jt):=⟨f44,_,mo A44.a,A44.F.kp,b44,WF A44.F N DRight DLoad DThingsFault DLeadsFault⟩;have DAnyThing:Def l.prog w K mg base "_law_any_thing" 2 ["bag","laying"] (spU jJ):=⟨f45,_,mo A45.a,A45.F.kp,b45,Ja A45.F N DDraw⟩;have DAnyWord:Def l.prog w K mg base "_law_any_word" 2 ["bag","laying","heads"] (spU kR):=⟨f46,_,mo A46.a,A46.F.kp,b46,K3 A46.F N DDraw DMark⟩;have DAnyImage:Def l.prog w K mg base "_law_any_image" 4 ["bag","laying"] (spU Qz):=⟨f47,_,mo A47.a,A47.F.kp,b47,Jb A47.F N DDraw DLoad DLwIsSmall DNumberIn DAnyThing DAnyWord⟩;have DSpoiltWord:Def l.prog w K mg base "_law_spoilt_word" 2 ["bag","laying","word"] (spU V0):=⟨f48,_,mo A48.a,A48.F.kp,b48,Ww A48.F N DDraw⟩;have DSpoiltList:Def l.prog w K mg base "_law_spoilt_list" 3 ["bag","laying","words"] (spU V1):=⟨f49,_,mo A49.a,A49.F.kp,b49,Wx A49.F N DDraw DSpoiltWord⟩;have DSpoiltLaying:Def l.prog w K mg base "_law_spoilt_laying" 2 ["bag","laying"] (spU Gq):=⟨f50,_,mo A50.a,A50.F.kp,b50,ok_spLay A50.F N DDraw⟩;have DSpoilt:Def l.prog w K mg base "_law_spoilt" 4 ["bag","image"] (spU Jl):=⟨f51,_,mo A51.a,A51.F.kp,b51,Wv A51.F N DDraw DSpoiltLaying DSpoiltList⟩;have DOwnLaying:Def l.prog w K mg base "own_laying" 1 ["laying"] (spP j9):=⟨f52,_,mo A52.a,A52.F.kp,b52,QP A52.F N⟩;have KStore:MkDef l.prog w K mg base C1 "Store" 4 ["self","laying","room"] (spU (Gr C1)):=⟨f53,_,⟨cf1,a53,n53,cg1⟩,mo ca1,b53,Wz F53 XStore GReg DOwnLaying DWordOf⟩;have DStoreOf:Def l.prog w K mg base "store_of" 6 ["laying","room","words","outside"] (spU VZ):=⟨f54,_,mo A54.a,A54.F.kp,b54,KQ A54.F N XStore TStore KStore⟩;have DFaulty:ExcW l.prog w K mg base "Faulty" CEFaulty 1:=⟨mo xaFaulty,f55,_,CFaulty,b55,ok_finit F55 CFaulty AWFaulty AKFaulty IWordError⟩;have DOpened:DefX l.prog w K mg base "opened" 7 ["image"] (spX mg Jo):=⟨f56,_,mo A56.a,A56.F.kp,b56,WC A56.F DFaulty DImageFault DStoreOf⟩;have DFaultOf:Def l.prog w K mg base "_law_fault_of" 8 ["image"] (spU Zb):=⟨f57,_,mo A57.a,A57.F.kp,b57,K1 A57.F CFaulty AWFaulty AKFaulty BFaulty EFaulty_Faulty DOpened⟩;have DAlike:Def l.prog w K mg base "_law_alike" 4 ["found","due"] (spP (Gx 3)):=⟨f58,_,mo A58.a,A58.F.kp,b58,K4 A58.F N (mo A58.a) A58.F.kp b58⟩;exact ok_lawU A59.F N DBag DDraw DLaying DAnyImage DSpoilt DLwImageFault DImageFault DFaultOf DAlike
theorem walk{l:PySem.W.OpenLaw}{q:Program}{loose:List Str}{XP:(Str->Option Value)->Heap->Prop}{YP:World->Heap->Prop}{d:DefRec}{K:Params->PySem.W.Frag}(hn:l.most=some 63)(hdf:d.params.defaults=[])(hY:∀(w:World)(h:Heap),YP w h->(K w.params).In h)(F:∀(w:World)(mg:Str->Option Value)(fa:Addr)(h:Heap),(K w.params).In h->h.Ns mainGlobals mg->mg d.name=some (.ref fa) ->
   ∃fd:FuncData,(∀(s:Shared)(u:Value),BindsTo s fd ⟨[u], []⟩ [("script", u)])/\∀base:Heap,(K w.params).In base->base.Ns mainGlobals mg->FnOk l.prog w (K w.params) mg base CX0 9 fa fd ["script"] (YS (K w.params))) :
  PySem.W.WalkO q loose XP YP l.row.toRowW d [] (λf vs=>PySem.call f vs) :=
 L2.walk_of (n:=63) (k:=9) (x := "script") (CX:=λ_=>CX0) (sp:=λw=>YS (K w.params)) hn (by decide) hdf ⟨rfl,by decide,by decide,rfl⟩ hY F (λ_ _ a ns hl _ hS=>⟨a,ns,rfl,hS,hl,λ_=>rfl⟩) λ_ _ _ _ _ z=>z
end Mw
open PySem PySem.W PyProof.Rows
set_option maxRecDepth 100000 in
set_option maxHeartbeats 0 in
theorem PySem.Challenge.cw_markwords_k42_first_fault_of_images_holds : PySem.Challenge.rw_markwords_k42_first_fault_of_images.Holds := by
 w_on; o_law
 refine Hd.close (q:=Mx.vw) (loose:=Mx.ls) (lv:=Mx.lv) (H:=kHook Mx.K Mx.KA Mx.K_as) (N:=9136) Mx.hLf9 (by rfl) (by rfl) (by rfl) (by rfl) (by assumption) (by decide +kernel) ⟨rfl,rfl,rfl,rfl,rfl,by decide +kernel⟩ ?hw ?hc
 case hw=>w_witness2
 k_fill
 refine Mw.walk (l:=PySem.Challenge.rw_markwords_k42_first_fault_of_images) rfl rfl (fun w h Y=>PySem.W.kIn_of Y) ?F
 case F =>
  intro w mg fa h KX G hmg
  refine' Mw.all_mk KX G hmg ?ca1 ?cb1 ?cc1 ?cd1 ?ce1 ?cf1 ?cg1 ?ch1_1 ?ch1_2 ?ch1_3 ?ch1_4 ?ch1_5 ?ch1_6 ?ch1_7 ?xaFaulty ?xaWordError ?EFaulty_Faulty ?A1 ?A2 ?A3 ?A4 ?A5 ?A6 ?A7 ?A8 ?A9 ?A10 ?A11 ?A12 ?A13 ?A14 ?A15 ?A16 ?A17 ?A18 ?A19 ?A20 ?A21 ?A22 ?A23 ?A24 ?A25 ?A26 ?A27 ?A28 ?A29 ?A30 ?A31 ?A32 ?A33 ?A34 ?A35 ?A36 ?A37 ?A38 ?A39 ?A40 ?A41 ?A42 ?A43 ?A44 ?A45 ?A46 ?A47 ?A48 ?A49 ?A50 ?A51 ?A52 ?a53 ?n53 ?F53 ?A54 ?a55 ?F55 ?A56 ?A57 ?A58 ?A59 ?xk1Faulty ?xk2Faulty ?xk3Faulty ?xk4Faulty ?xk5Faulty ?xk6Faulty ?xk7Faulty ?xk8Faulty ?xk9Faulty ?xb1WordError ?xb2WordError ?xb3WordError ?y1 ?z1 ?z2 ?z3 ?z4 ?z5 ?z6 ?z7 ?z8 ?z9 ?z10 ?z11 ?z12 ?z13 ?z14 ?z15 ?z16 ?z17 ?z18 ?p1 ?q1 ?p2 ?q2 ?g1 ?g2 ?g3 ?g4 ?g5 ?g6 ?g7 ?kg1 ?kl1
  (case ca1|cb1|cc1|cd1|ce1|cf1|cg1|ch1_1|ch1_2|ch1_3|ch1_4|ch1_5|ch1_6|ch1_7|xaFaulty|xaWordError|a53|n53|a55|y1|z1|z2|z3|z4|z5|z6|z7|z8|z9|z10|z11|z12|z13|z14|z15|z16|z17|z18|p1|q1|p2|q2|g1|g2|g3|g4|g5|g6|g7|kg1|kl1=>show _=_;k_is)
  (case EFaulty_Faulty|xk1Faulty|xk2Faulty|xk3Faulty|xk4Faulty|xk5Faulty|xk6Faulty|xk7Faulty|xk8Faulty|xk9Faulty|xb1WordError|xb2WordError|xb3WordError=>kernel_rfl)
  (case A1|A2|A3|A4|A5|A6|A7|A8|A9|A10|A11|A12|A13|A14|A15|A16|A17|A18|A19|A20|A21|A22|A23|A24|A25|A26|A27|A28|A29|A30|A31|A32|A33|A34|A35|A36|A37|A38|A39|A40|A41|A42|A43|A44|A45|A46|A47|A48|A49|A50|A51|A52|A54|A56|A57|A58|A59=>walk_at "fg")
  (case F53|F55=>walk_at "fk")
