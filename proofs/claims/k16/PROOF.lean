import PyProof.Rows.All
import Wide.All
import OpenK.AllK
import Wide.FinOn
import Lean
import PyProof.EqAt
import PyProof.EqKinds
import PyProof.TupleCall
import PyProof.NeKinds
import PyProof.RulesTry
import PyProof.ExcArgsOwn
import PyProof.InstStoreFacts
import PyProof.ExcInit
import PyProof.ExcClass3
import KE.KTryMore
import PyProof.NsDelKeeps
import PyProof.RulesAs
import PyProof.InstEq
import PyProof.Rows.EqMixed
import PyProof.FactsAll.tuple_1
import KE.KIsNot
import KE.KIsAll
import KE.KIntText
import PyProof.EnumMake
import PyProof.StrWalks
import PyProof.ReprRoads
import PyProof.ZipIter
import PyProof.Draws
import KE.KDictList
import PyProof.StrCaseBound
import PyProof.StrCalls6
import PyProof.Rows.StrStrike
import PyProof.Rows.SortStr
import PyProof.Rows.SortWalk
import PyProof.Rows.MinMaxN
import PyProof.Rows.SumAny
import KE.KSortTup
import PyProof.MinMaxWalk
import PyProof.WalkInts
import PyProof.Rows.CallKwBuiltin
import KE.KMinBuiltin
import PyProof.Rows.Range3
import PyProof.MaxThree
import KE.KSortKey
import KE.KLam
import PyProof.AttrMissHeap
import PyProof.DictCompW
import PyProof.Rows.SetFrom
import KE.KDictOf
import PySem.Challenge.RW_markwords_k16_whole_chosen_hold
set_option Elab.async false
set_option linter.all false
set_option maxRecDepth 100000
set_option maxHeartbeats 8000000
namespace L2
open PySem PySem.Spec PyProof.Rows
section
variable {prog:Program} {w:World} {A:Around} {E:Value->Shared->Prop} {s:Shared}
theorem Vk {Q:Int->Shared->Prop} (h:Q 4238894112 { s with toks:=s.toks+1 }):wpAny (model prog w) A (pyHash .none) Q E s:=by
 unfold pyHash
 have hv:[Value.none].any Value.onHeap=false:=rfl
 refine wpAny_bind ?_
 rw[cRoomFor,if_neg (by rw[hv]; exact Bool.false_ne_true)]
 refine wpAny_pure ?_
 refine wpAny_bind (wpAny_specialOf (typeIs_none s) F.slot_NoneType_hash.lookup ?_)
 show wpAny _ _ (if(some (Value.builtin "NoneType.__hash__")==some Value.none)=true then _ else _) Q E s
 rw[if_neg (by rw[beq_builtin_none]; exact Bool.false_ne_true)]
 refine wpAny_bind (wpAny_specialOf (typeIs_none s) F.slot_NoneType_hash.lookup ?_)
 show wpAny _ _ (callSpecialIfBoundUnlessNone? .none "__hash__" _ >>= _) Q E s
 refine wpAny_bind (wpAny_callSpecialIfBoundUnlessNone?_slot (typeIs_none s) F.slot_NoneType_hash
  (wpAny_call_entry F.slot_NoneType_hash (typeIs_none s) F.entry_NoneType_hash
   (show wpAny _ _ (do ret (<-mkInt 4238894112)) _ _ s from wpAny_ret_mkInt ?_) (F.args_NoneType_hash_1 _)))
 show wpAny _ _ (if(decide (-(2:Int)^63<=4238894112)&&decide ((4238894112:Int)<2^63))=true then _ else _) Q E _
 rw[if_pos (by decide)]
 exact wpAny_pure h
end
inductive Key where
 |inl (i:Int)|inr (x:Str)|non
 deriving DecidableEq
def Vw:Key->Value->Bool
 |.inl k,v=>Value.isInt k v
 |.inr x,v=>Value.isStrOf x v
 |.non, .none=>true
 |.non,_=>false
def keyH (w:World):Key->Int
 |.inl k=>hashInt k
 |.inr x=>hashStr w x
 |.non=>4238894112
theorem qM:∀{k:Key} {v:Value},Vw k v=true->(∃i t,k=Key.inl i/\v=Value.int i t)\/(∃x t,k=Key.inr x/\v=Value.str x t)\/(k=Key.non/\v=Value.none)
 |.inl i,v,h=>by
  obtain⟨t,e⟩:=Value.isInt_shape (k:=i) (v:=v) h
  exact .inl ⟨i,t,rfl,e⟩
 |.inr x,v,h=>by
  obtain⟨t,e⟩:=Value.isStrOf_shape (x:=x) (v:=v) h
  exact .inr (.inl ⟨x,t,rfl,e⟩)
 |.non,v,h=>by
  cases v<;>first|exact .inr (.inr ⟨rfl,rfl⟩)|exact absurd h (by simp[Vw])
theorem Jo (i:Int) (t:Tok):Vw (.inl i) (.int i t)=true:=by simp[Vw,Value.isInt]
theorem Jn (x:Str) (t:Tok):Vw (.inr x) (.str x t)=true:=by simp[Vw,Value.isStrOf]
theorem key_ll (a b:Int):decide ((Key.inl a:Key)=Key.inl b)=(a==b):=by
 by_cases e:a=b
 ·subst e; simp
 ·have h:¬(Key.inl a:Key)=Key.inl b:=fun q=>e (Key.inl.inj q)
  rw[decide_eq_false h]
  exact(beq_eq_false_iff_ne.mpr e).symm
theorem key_rr (a b:Str):decide ((Key.inr a:Key)=Key.inr b)=decide (a=b):=by
 by_cases e:a=b
 ·subst e; simp
 ·have h:¬(Key.inr a:Key)=Key.inr b:=fun q=>e (Key.inr.inj q)
  rw[decide_eq_false h,decide_eq_false e]
theorem key_lr (a:Int) (b:Str):decide ((Key.inl a:Key)=Key.inr b)=false:=decide_eq_false (fun q=>nomatch q)
theorem key_rl (a:Str) (b:Int):decide ((Key.inr a:Key)=Key.inl b)=false:=decide_eq_false (fun q=>nomatch q)
def qX (prog:Program) (w:World):PySem.KeyKind prog w Key where
 is:=Vw
 hash:=keyH w
 inj:=fun v a b ha hb=>by
  rcases qM ha with⟨i,t,rfl,rfl⟩|⟨x,t,rfl,rfl⟩|⟨rfl,rfl⟩
  ·rcases qM hb with⟨j,u,rfl,e⟩|⟨y,u,rfl,e⟩|⟨rfl,e⟩
   ·injection e with e1 _; rw[e1]
   ·exact nomatch e
   ·exact nomatch e
  ·rcases qM hb with⟨j,u,rfl,e⟩|⟨y,u,rfl,e⟩|⟨rfl,e⟩
   ·exact nomatch e
   ·injection e with e1 _; rw[e1]
   ·exact nomatch e
  ·rcases qM hb with⟨j,u,rfl,e⟩|⟨y,u,rfl,e⟩|⟨rfl,e⟩
   ·exact nomatch e
   ·exact nomatch e
   ·rfl
 byValue:=fun k v h=>by
  rcases qM h with⟨i,t,rfl,rfl⟩|⟨x,t,rfl,rfl⟩|⟨rfl,rfl⟩<;>rfl
 pyHash:=fun hv h=>by
  rcases qM hv with⟨i,t,rfl,rfl⟩|⟨x,t,rfl,rfl⟩|⟨rfl,rfl⟩
  ·exact wpAny_pyHash_int h
  ·exact wpAny_pyHash_str h
  ·exact Vk h
 eqBool:=fun hu hv h=>by
  rcases qM hu with⟨i,t,rfl,rfl⟩|⟨x,t,rfl,rfl⟩|⟨rfl,rfl⟩
  ·rcases qM hv with⟨j,u,rfl,rfl⟩|⟨y,u,rfl,rfl⟩|⟨rfl,rfl⟩
   ·rw[key_ll] at h; exact wpAny_eqBool_int h
   ·rw[key_lr] at h; exact SeqAt.EqAt.int_str i t y u _ _ _ _ h
   ·exact SeqAt.EqAt.int_none i t _ _ _ _ h
  ·rcases qM hv with⟨j,u,rfl,rfl⟩|⟨y,u,rfl,rfl⟩|⟨rfl,rfl⟩
   ·rw[key_rl] at h; exact SeqAt.EqAt.str_int x t j u _ _ _ _ h
   ·rw[key_rr] at h; exact wpAny_eqBool_str h
   ·exact SeqAt.EqAt.str_none x t _ _ _ _ h
  ·rcases qM hv with⟨j,u,rfl,rfl⟩|⟨y,u,rfl,rfl⟩|⟨rfl,rfl⟩
   ·exact SeqAt.EqAt.none_int j u _ _ _ _ h
   ·exact SeqAt.EqAt.none_str y u _ _ _ _ h
   ·exact SeqAt.EqAt.same .none _ _ _ _ h
 «strs»:=fun k x t v h=>by
  rcases qM h with⟨i,u,rfl,e⟩|⟨y,u,rfl,e⟩|⟨rfl,e⟩
  ·exact nomatch e
  ·injection e with e1 _
   subst e1
   cases v<;>rfl
  ·exact nomatch e
theorem Vr (prog:Program) (w:World) (i:Int) (t:Tok):(qX prog w).is (.inl i) (.int i t)=true:=Jo i t
theorem zS (prog:Program) (w:World) (x:Str) (t:Tok):(qX prog w).is (.inr x) (.str x t)=true:=Jn x t
inductive V where
 |non|bl (b:Bool)|int (i:Int)|str (x:Str)|byt (b:Array UInt8)|flt (b:UInt64)|ref (a:Addr)|ty (n:String)
 deriving DecidableEq
def RelV:V->Value->Prop
 |.non,u=>u=Value.none
 |.bl b,u=>u=Value.bool b
 |.int i,u=>∃t,u=Value.int i t
 |.str x,u=>∃t,u=Value.str x t
 |.byt b,u=>∃t,u=Value.bytes b t
 |.flt b,u=>∃t,u=Value.float b t
 |.ref a,u=>u=Value.ref a
 |.ty n,u=>u=Value.type n
abbrev Vals:List V->List Value->Prop:=Paired RelV
theorem Vals.length {xs:List V} {us:List Value} (r:Vals xs us):xs.length=us.length:=Paired.length r
theorem Vals.get:∀{xs:List V} {us:List Value} {i:Nat} {x:V},Vals xs us->xs[i]?=some x->∃u,us[i]?=some u/\RelV x u
 |_,_,_,_, .nil,e=>by simp at e
 |_,_,0,_, .cons r _,e=>by simp at e; subst e; exact⟨_,rfl,r⟩
 |_,_,i+1,x, .cons _ t,e=>by
  obtain⟨u,h1,h2⟩:=Vals.get (i:=i) (x:=x) t (by simpa using e)
  exact⟨u,by simpa using h1,h2⟩
theorem Vals.set {x:V} {u:Value} (r:RelV x u):∀{xs:List V} {us:List Value} (i:Nat),Vals xs us->Vals (xs.set i x) (us.set i u)
 |_,_,_, .nil=>.nil
 |_,_,0, .cons _ t=>.cons r t
 |_,_,i+1, .cons q t=>.cons q (Vals.set r i t)
theorem Vals.append:∀{xs ys:List V} {us ws:List Value},Vals xs us->Vals ys ws->Vals (xs++ys) (us++ws)
 |_,_,_,_, .nil,s=>s
 |_,_,_,_, .cons r t,s=>.cons r (Vals.append t s)
theorem Vals.take:∀{xs:List V} {us:List Value} (n:Nat),Vals xs us->Vals (xs.take n) (us.take n)
 |_,_,0,_=>.nil
 |_,_,_+1, .nil=>.nil
 |_,_,n+1, .cons r t=>.cons r (Vals.take n t)
theorem Vals.drop:∀{xs:List V} {us:List Value} (n:Nat),Vals xs us->Vals (xs.drop n) (us.drop n)
 |_,_,0,r=>r
 |_,_,_+1, .nil=>.nil
 |_,_,n+1, .cons _ t=>Vals.drop n t
def RelO:Option V->Option Value->Prop
 |some v,some u=>RelV v u
 |none,none=>True
 |_,_=>False
def KV {κ:Type}:List (κ×V)->List (κ×Value)->Prop:=Paired fun(p:κ×V) (q:κ×Value)=>p.1=q.1/\RelV p.2 q.2
def kV:Key->V
 |.inl i=>.int i
 |.inr x=>.str x
 |.non=>.non
inductive HO where
  |lst (xs:List V)
  |tup (xs:List V)
  |dK (kvs:List (Key×V))|dT (kvs:List (List Key×V))
  |set (S:Int->Bool) (n:Nat)
  |ins (C dx:Addr) (fs:List (Str×V))
  |own (x:Addr)
  |xd (fs:List (Str×V))
  |met (f x:Addr)
  |rng (lo hi:Int)
  |frz (o:Obj) (u:HO)
  |tbl (ps:Array Value)
  |ext (φ:Heap->Prop)
abbrev Hp:=Addr->Option HO
def upd (H:Hp) (a:Addr) (o:HO):Hp:=fun b=>if b=a then some o else H b
theorem upd_same {H:Hp} {a:Addr} {o:HO}:upd H a o a=some o:=by unfold upd; rw[if_pos rfl]
theorem upd_ne {H:Hp} {a b:Addr} {o:HO} (h:b≠a):upd H a o b=H b:=by unfold upd; rw[if_neg h]
theorem vf {H:Hp} {a b:Addr} {o:HO} (h:H a=some o) (h':H b=none):a≠b:=by
 intro e; subst e; rw[h] at h'; cases h'
section
variable (P:Program) (w:World)
def ObjOk (H:Hp) (h:Heap) (a:Addr):HO->Prop
 |.lst xs=>xs.length<=sizeLine/\∃(its:List Value) (n:Nat),Vals xs its/\h.get? a=some { cls:=.type "list", data:=.seq its.toArray n }
 |.tup xs=>xs.length<=sizeLine/\∃its:List Value,Vals xs its/\IsTup h a its.toArray
 |.dK kvs=>kvs.length<=sizeLine/\(a==sysModules)=false/\∃vs,KV kvs vs/\h.DictOf (qX P w) a vs
 |.dT kvs=>kvs.length<=sizeLine/\(a==sysModules)=false/\∃xs:List (List Key×Addr×Value),
   Paired (fun(p:List Key×V) (q:List Key×Addr×Value)=>p.1=q.1/\H q.2.1=some (.tup (p.1.map kV))/\RelV p.2 q.2.2) kvs xs /\
   ∃o es ep,h.get? a=some o/\o.ExactDict/\o.data=.dict es ep/\es.toList=xs.map (entryOfKey (tupleKind (qX P w)))/\(xs.map (·.1)).Nodup
 |.set S n=>h.SetOf (intKind P w) a S n
 |.ins C dx fs=>H dx=some (.own a)/\fs.length<=1000/\dx≠a/\h.get? a=some (PySem.W.instObj C dx) /\
   ∃mA,h.Ns1 dx mA/\(∀f,RelO (fs.lookup f) (mA f))/\PySem.Within mA (fs.map (·.1))
 |.own _=>∃o,h.get? a=some o
 |.xd fs=>∃mA,h.Ns1 a mA/\∀f,RelO (fs.lookup f) (mA f)
 |.rng lo hi=>∃t u v,h.get? a=some { cls:=.type "range", data:=.fields #[.int lo t, .int hi u, .int 1 v] }
 |.frz o u=>h.get? a=some o/\ObjOk H h a u
 |.tbl ps=>h.get? a=some { cls:=.none,data:=.fields ps }
 |.met f x=>h.get? a=some (PySem.W.methodObj (.ref f) (.ref x))
 |.ext φ=>φ h/\(∃o,h.get? a=some o)/\∀h1 h2:Heap,φ h1->(∀o,h1.get? a=some o->h2.get? a=some o)->φ h2
def HOk (H:Hp) (h:Heap):Prop:=∀a o,H a=some o->ObjOk P w H h a o
end
section
variable {P:Program} {w:World} {H H':Hp} {h h':Heap} {a:Addr} {o:HO}
theorem ObjOk.lt (x:ObjOk P w H h a o):a<h.objs.size:=by
 cases o with
 |lst xs=>obtain⟨_,_,_,_,e⟩:=x; exact Heap.lt_size e
 |tup xs=>obtain⟨_,_,_,p⟩:=x; exact p.lt
 |dK kvs=>obtain⟨_,_,_,_,o,_,_,e,_⟩:=x; exact Heap.lt_size e
 |dT kvs=>obtain⟨_,_,_,_,o,_,_,e,_⟩:=x; exact Heap.lt_size e
 |set S n=>obtain⟨o,_,_,_,e,_⟩:=x; exact Heap.lt_size e
 |ins C dx fs=>obtain⟨_,_,_,e,_⟩:=x; exact Heap.lt_size e
 |own y=>obtain⟨_,e⟩:=x; exact Heap.lt_size e
 |xd fs=>obtain⟨_,⟨_,_,_,e,_⟩,_⟩:=x; exact Heap.lt_size e
 |rng lo hi=>obtain⟨_,_,_,e⟩:=x; exact Heap.lt_size e
 |frz ob u=>obtain⟨e,_⟩:=x; exact Heap.lt_size e
 |tbl ps=>exact Heap.lt_size (show h.get? a=some _ from x)
 |met f y=>exact Heap.lt_size (show h.get? a=some _ from x)
 |ext φ=>obtain⟨_,⟨_,e⟩,_⟩:=x; exact Heap.lt_size e
theorem Paired.mapP {α β:Type} {F G:α->β->Prop}:∀{l₁:List α} {l₂:List β},Paired F l₁ l₂->(∀a b,F a b->G a b)->Paired G l₁ l₂
 |_,_, .nil,_=>.nil
 |_,_, .cons r t,f=>.cons (f _ _ r) (Paired.mapP t f)
theorem ObjOk.stay (x:ObjOk P w H h a o) (k:∀b u,(b=a\/H b=some (.own a))->h.get? b=some u->h'.get? b=some u)
  (ho:∀b,H b=some (.own a)->H' b=some (.own a)) (ht:∀b xs,H b=some (.tup xs)->H' b=some (.tup xs)):ObjOk P w H' h' a o:=by
 induction o with
 |lst xs=>obtain⟨z,its,n,r,e⟩:=x; exact⟨z,its,n,r,k _ _ (.inl rfl) e⟩
 |tup xs=>obtain⟨z,its,r,ob,e,c⟩:=x; exact⟨z,its,r,ob,k _ _ (.inl rfl) e,c⟩
 |dK kvs=>obtain⟨z,y,vs,r,ob,es,ep,e,c⟩:=x; exact⟨z,y,vs,r,ob,es,ep,k _ _ (.inl rfl) e,c⟩
 |dT kvs =>
  obtain⟨z,y,xs,r,ob,es,ep,e,c⟩:=x
  exact⟨z,y,xs,Paired.mapP r fun p q z=>⟨z.1,ht _ _ z.2.1,z.2.2⟩,ob,es,ep,k _ _ (.inl rfl) e,c⟩
 |set S n=>obtain⟨ob,es,ep,t,e,c⟩:=x; exact⟨ob,es,ep,t,k _ _ (.inl rfl) e,c⟩
 |ins C dx fs =>
  obtain⟨d,z,ne,e,mA,⟨od,es,ep,e2,c⟩,r⟩:=x
  exact⟨ho _ d,z,ne,k _ _ (.inl rfl) e,mA,⟨od,es,ep,k _ _ (.inr d) e2,c⟩,r⟩
 |own y=>obtain⟨ob,e⟩:=x; exact⟨ob,k _ _ (.inl rfl) e⟩
 |xd fs=>obtain⟨mA,⟨od,es,ep,e,c⟩,r⟩:=x; exact⟨mA,⟨od,es,ep,k _ _ (.inl rfl) e,c⟩,r⟩
 |rng lo hi=>obtain⟨t,u,v,e⟩:=x; exact⟨t,u,v,k _ _ (.inl rfl) e⟩
 |frz ob u ih=>obtain⟨e,q⟩:=x; exact⟨k _ _ (.inl rfl) e,ih q⟩
 |tbl ps =>
  have e:h.get? a=some { cls:=.none,data:=.fields ps }:=x
  show h'.get? a=some { cls:=.none,data:=.fields ps }
  exact k a _ (.inl rfl) e
 |met f y =>
  have e:h.get? a=some (PySem.W.methodObj (.ref f) (.ref y)):=x
  show h'.get? a=some (PySem.W.methodObj (.ref f) (.ref y))
  exact k a _ (.inl rfl) e
 |ext φ=>obtain⟨p,⟨o,e⟩,st⟩:=x; exact⟨st _ _ p fun o q=>k _ _ (.inl rfl) q,⟨o,k _ _ (.inl rfl) e⟩,st⟩
theorem HOk.lt (x:HOk P w H h) (e:H a=some o):a<h.objs.size:=(x a o e).lt
theorem HOk.fresh (x:HOk P w H h) (e:h.objs.size<=a):H a=none:=by
 cases q:H a with
 |none=>rfl
 |some u=>exact absurd (Nat.lt_of_lt_of_le (x.lt q) e) (Nat.lt_irrefl _)
theorem HOk.kept (x:HOk P w H h) (k:∀b u,h.get? b=some u->h'.get? b=some u):HOk P w H h':=fun a o e =>
 (x a o e).stay (fun b u _ q=>k b u q) (fun _ q=>q) fun _ _ q=>q
theorem HOk.laid (x:HOk P w H h) (k:∀b u,h.get? b=some u->h'.get? b=some u) (hp:h.objs.size<=a) (new:ObjOk P w (upd H a o) h' a o):HOk P w (upd H a o) h':=fun b u e=>by
 have hn:=x.fresh hp
 by_cases hb:b=a
 ·subst hb; rw[upd_same] at e; cases e; exact new
 ·rw[upd_ne hb] at e
  exact(x b u e).stay (fun c v _ q=>k c v q) (fun c q=>by rw[upd_ne (vf q hn)]; exact q) fun c xs q=>by rw[upd_ne (vf q hn)]; exact q
end
def Rd (H:Hp) (a:Addr) (u:HO):Prop:=H a=some u\/∃o,H a=some (.frz o u)
theorem Rd.ok {P:Program} {w:World} {H:Hp} {h:Heap} {a:Addr} {u:HO} (r:Rd H a u) (x:HOk P w H h):ObjOk P w H h a u:=by
 rcases r with r|⟨o,r⟩
 ·exact x a u r
 ·obtain⟨_,q⟩:=x a _ r
  exact q
def Mut:Option HO->Prop
 |some (.lst _)=>True
 |some (.dK _)=>True
 |some (.dT _)=>True
 |some (.set _ _)=>True
 |some (.ins _ _ _)=>True
 |some (.ext _)=>True
 |_=>False
section
variable {P:Program} {w:World} {H:Hp} {h h':Heap} {x e:Addr} {o':HO}
theorem HOk.write (ok:HOk P w H h) (mu:Mut (H x)) (he:e=x\/H e=some (.own x)) (k:∀b u,b≠e->h.get? b=some u->h'.get? b=some u) (heo:∃u,h'.get? e=some u)
  (new:ObjOk P w (upd H x o') h' x o'):HOk P w (upd H x o') h':=fun b u q=>by
 have nown:∀c y,H c=some (.own y)->c≠x:=fun c y r z=>by subst z; rw[r] at mu; exact mu
 have ntup:∀c xs,H c=some (.tup xs)->c≠x:=fun c xs r z=>by subst z; rw[r] at mu; exact mu
 by_cases hb:b=x
 ·subst hb; rw[upd_same] at q; cases q; exact new
 ·rw[upd_ne hb] at q
  by_cases hbe:b=e
  ·have q':H b=some (.own x):=by
    rcases he with z|z
    ·exact absurd (hbe.trans z) hb
    ·rw[hbe]; exact z
   rw[q] at q'; cases q'
   obtain⟨v,hv⟩:=heo
   exact⟨v,by rw[hbe]; exact hv⟩
  ·refine(ok b u q).stay (fun c v hc r=>k c v ?_ r) (fun c r=>by rw[upd_ne (nown c b r)]; exact r) fun c xs r=>by rw[upd_ne (ntup c xs r)]; exact r
   rcases hc with rfl|hc
   ·exact hbe
   ·rintro rfl
    rcases he with z|z
    ·exact nown c b hc z
    ·rw[hc] at z; cases z; exact hb rfl
end
structure Un (fs ex:List Addr) (H H':Hp) (h h':Heap):Prop where
 keep:∀b o,h.get? b=some o->H b=none->b∉fs->b∉ex->h'.get? b=some o
 slot:∀b o,h.get? b=some o->H b=none->b∈fs->b∉ex->∃sl,h'.get? b=some { o with slots:=sl }
 free:∀b o,h.get? b=some o->H b=none->b∉ex->H' b=none
 there:∀b o,h.get? b=some o->b∉ex->∃o',h'.get? b=some o'
 tups:∀b xs,H b=some (.tup xs)->H' b=some (.tup xs)
 frzs:∀b o u,H b=some (.frz o u)->H' b=some (.frz o u)
 tbls:∀b ps,H b=some (.tbl ps)->∃more,H' b=some (.tbl (ps++more))
section
variable {fs ex:List Addr} {H H1 H2:Hp} {h h1 h2 h':Heap} {a x e:Addr} {o:HO}
theorem Un.any (u:Un fs ex H H1 h h1) {b:Addr} {ob:Obj} (q:h.get? b=some ob) (n:H b=none) (hx:b∉ex):∃sl,h1.get? b=some { ob with slots:=sl }:=by
 by_cases hb:b∈fs
 ·exact u.slot b ob q n hb hx
 ·exact⟨ob.slots,u.keep b ob q n hb hx⟩
theorem Un.trans (a:Un fs ex H H1 h h1) (b:Un fs ex H1 H2 h1 h2):Un fs ex H H2 h h2 where
 keep:=fun c ob q n hc hx=>b.keep c ob (a.keep c ob q n hc hx) (a.free c ob q n hx) hc hx
 slot:=fun c ob q n hc hx=>by
  obtain⟨sl,e1⟩:=a.slot c ob q n hc hx
  obtain⟨sl',e2⟩:=b.slot c _ e1 (a.free c ob q n hx) hc hx
  exact⟨sl',e2⟩
 free:=fun c ob q n hx=>by
  obtain⟨o',e1⟩:=a.there c ob q hx
  exact b.free c o' e1 (a.free c ob q n hx) hx
 there:=fun c ob q hx=>by
  obtain⟨o',e1⟩:=a.there c ob q hx
  exact b.there c o' e1 hx
 tups:=fun c xs q=>b.tups c xs (a.tups c xs q)
 frzs:=fun c ob xs q=>b.frzs c ob xs (a.frzs c ob xs q)
 tbls:=fun c ps q=>by
  obtain⟨m1,e1⟩:=a.tbls c ps q
  obtain⟨m2,e2⟩:=b.tbls c _ e1
  exact⟨m1++m2,by rw[e2,Array.append_assoc]⟩
theorem Un.kept (k:∀b u,h.get? b=some u->h'.get? b=some u):Un fs ex H H h h' :=
 ⟨fun b ob q _ _ _=>k b ob q,fun b ob q _ _ _=>⟨ob.slots,k b ob q⟩,fun _ _ _ n _=>n,fun b ob q _=>⟨ob,k b ob q⟩,fun _ _ q=>q,fun _ _ _ q=>q,fun _ ps q=>⟨#[],by rw[q]; simp⟩⟩
theorem Un.refl:Un fs ex H H h h:=Un.kept fun _ _ q=>q
theorem Un.laid (k:∀b u,h.get? b=some u->h'.get? b=some u) (hp:h.objs.size<=a) (hn:H a=none):Un fs ex H (upd H a o) h h' where
 keep:=fun b u q _ _ _=>k b u q
 slot:=fun b u q _ _ _=>⟨u.slots,k b u q⟩
 free:=fun b u q n _=>by rw[upd_ne (Nat.ne_of_lt (Nat.lt_of_lt_of_le (Heap.lt_size q) hp))]; exact n
 there:=fun b u q _=>⟨u,k b u q⟩
 tups:=fun b xs q=>by rw[upd_ne (vf q hn)]; exact q
 frzs:=fun b u xs q=>by rw[upd_ne (vf q hn)]; exact q
 tbls:=fun b ps q=>⟨#[],by rw[upd_ne (vf q hn),q]; simp⟩
theorem Un.write (mu:Mut (H x)) (he:e=x\/H e=some (.own x)) (k:∀b u,b≠e->h.get? b=some u->h'.get? b=some u) (heo:∃u,h'.get? e=some u):Un fs ex H (upd H x o) h h':=by
 have hx:∀b,H b=none->b≠x:=fun b n z=>by subst z; rw[n] at mu; exact mu
 have hb:∀b,H b=none->b≠e:=fun b n z=>by
  subst z
  rcases he with r|r
  ·exact hx b n r
  ·rw[n] at r; cases r
 have hm:∀b u,H b=some u->¬Mut (some u)->b≠x:=fun b u q nm z=>by subst z; rw[q] at mu; exact nm mu
 refine⟨fun b u q n _ _=>k b u (hb b n) q,fun b u q n _ _=>⟨u.slots,k b u (hb b n) q⟩,fun b u q n _=>by rw[upd_ne (hx b n)]; exact n,fun b u q _=>?_,
  fun b xs q=>by rw[upd_ne (hm b _ q fun z=>z)]; exact q,fun b u xs q=>by rw[upd_ne (hm b _ q fun z=>z)]; exact q,fun b ps q=>⟨#[],by rw[upd_ne (hm b _ q fun z=>z),q]; simp⟩⟩
 by_cases hbe:b=e
 ·subst hbe; exact heo
 ·exact⟨u,k b u hbe q⟩
end
def trk (h:Heap) (H:Hp):List Addr:=(List.range h.objs.size).filter fun a=>(H a).isSome
def hidT (h:Heap) (H:Hp):Heap:=PySem.W.hideAll h (trk h H)
theorem Jv (h:Heap) (H:Hp):(hidT h H).objs.size=h.objs.size:=PySem.W.hideAll_size _ _
theorem hidT_get {h:Heap} {H:Hp} {b:Addr} {o:Obj} (e:h.get? b=some o) (n:H b=none):(hidT h H).get? b=some o :=
 PySem.W.hideAll_get _ e fun hm=>by
  have q:(H b).isSome=true:=(List.mem_filter.mp hm).2
  rw[n] at q; simp at q
theorem of_hidT {h:Heap} {H:Hp} {b:Addr} {o:Obj} (e:(hidT h H).get? b=some o):h.get? b=some o/\H b=none:=by
 have e':h.get? b=some o:=PySem.W.of_hideAll (trk h H) e
 refine⟨e', ?_⟩
 cases q:H b with
 |none=>rfl
 |some x =>
  have hm:b∈trk h H:=List.mem_filter.mpr ⟨List.mem_range.mpr (Heap.lt_size e'),by simp[q]⟩
  have z:(hidT h H).get? b=none:=PySem.W.hideAll_none (trk h H) hm
  rw[z] at e; cases e
structure Mod (K:PySem.W.Frag) (mg:Str->Option Value) (base:Heap):Prop where
 kin:K.In base
 glob:base.Ns mainGlobals mg
 blt:∃mb,base.Ns builtinsNs mb/\∀x:Str,x ≠ "__name__" -> mb x=bootBuiltins x
 nolimit:base.NoLimit
structure Cx where
 prog:Program
 w:World
 K:PySem.W.Frag
 mg:Str->Option Value
 base:Heap
 A:Around
 N:List Str
 s₀:Shared
 H₀:Hp
 env:Env
 outer:List Env
 stack:List Env
 ex:List Addr
 fn:Str->Bool
 calm:Bool
 pn:List (Addr×Obj)
 xe:Value->Shared->Prop
def frs (l:List Env):List Addr:=l.filterMap (·.frame)
abbrev Cx.fs (X:Cx):List Addr:=frs X.outer
def Vis (sc:Scope) (x:Str):Prop:=sc.names.lookup x=some .local\/sc.names.lookup x=some .cell\/sc.names.lookup x=some .free
def Loc (sc:Scope) (x:Str):Prop:=sc.names.lookup x=some .local\/sc.names.lookup x=some .cell
def Look (env:Env) (h:Heap) (m:Str->Option Value) (x:Str) (u:Value):Prop :=
 (env.kindOf x=some .local/\m x=some u)\/((env.kindOf x=some .cell\/env.kindOf x=some .free)/\∃c,env.cells.lookup x=some c/\h.IsCell c (some u))
structure Cx.Ok (X:Cx):Prop where
 mod:Mod X.K X.mg X.base
 kind:X.env.scope.kind=.function
 glob:X.env.globals=mainGlobals
 blt:X.env.builtins=builtinsNs
 above:X.s₀.heap.objs.size<=X.env.locals
 inj:∀x y c,X.env.cells.lookup x=some c->X.env.cells.lookup y=some c->x=y
 has:∀x,(X.env.kindOf x=some .cell\/X.env.kindOf x=some .free)->∃c,X.env.cells.lookup x=some c
 cab:∀x c,X.fn x=true->X.env.cells.lookup x=some c->X.s₀.heap.objs.size<=c
 hd:X.calm=true->X.A.handled=none
 frames:X.A.frames=some X.stack
 stk:X.stack=X.outer\/(X.stack=X.env::X.outer/\X.env.frame=some X.env.locals)
 exf:∀b∈X.ex,b≠X.env.locals/\∀x c,X.env.cells.lookup x=some c->c≠b
 bs:∀b o,X.base.get? b=some o->X.s₀.heap.get? b=some o/\X.H₀ b=none
 bsz:X.base.objs.size<=X.s₀.heap.objs.size
 noex:∀b o,X.base.get? b=some o->b∉X.ex
 exfs:∀b∈X.ex,b∉X.fs
 funs:X.s₀.heap.FunFrames X.base X.outer
 frf:∀b∈X.fs,X.H₀ b=none
structure Inv (X:Cx) (pins:List (Addr×Obj)) (σ:List (Option V)) (H:Hp) (s:Shared):Prop where
 ok:X.Ok
 os:s.os=X.s₀.os
 bare:AllBare s.gens
 base:Un X.fs X.ex X.H₀ H X.s₀.heap s.heap
 loc:∃m,s.heap.Ns X.env.locals m/\∀(i:Nat) (x:Str) (v:V),X.N[i]?=some x->σ[i]?=some (some v)->Vis X.env.scope x->∃u,RelV v u/\Look X.env s.heap m x u
 cell:∀x c,X.env.cells.lookup x=some c->∃v,s.heap.IsCell c v
 free:H X.env.locals=none
 freeC:∀x c,X.env.cells.lookup x=some c->H c=none
 pin:∀p∈X.pn++pins,s.heap.get? p.1=some p.2/\H p.1=none/\p.1≠X.env.locals/\p.1∉X.fs/\∀v,p.2.data ≠ .cell v
 hok:HOk X.prog X.w H s.heap
 len:σ.length=X.N.length
section
variable {X:Cx} {pins:List (Addr×Obj)} {σ:List (Option V)} {H H':Hp} {s:Shared} {h':Heap}
theorem Cx.Ok.nofr (ok:X.Ok) {b:Addr} {o:Obj} (e:X.base.get? b=some o):b∉X.fs:=fun hb=>by
 have:=(ok.funs.mem hb).1
 rw[e] at this; cases this
theorem Inv.bs (I:Inv X pins σ H s):∀b o,X.base.get? b=some o->s.heap.get? b=some o/\H b=none:=fun b o e =>
 ⟨I.base.keep b o (I.ok.bs b o e).1 (I.ok.bs b o e).2 (I.ok.nofr e) (I.ok.noex b o e),I.base.free b o (I.ok.bs b o e).1 (I.ok.bs b o e).2 (I.ok.noex b o e)⟩
theorem Inv.bk (I:Inv X pins σ H s):∀b o,X.base.get? b=some o->s.heap.get? b=some o:=fun b o e=>(I.bs b o e).1
theorem Inv.mod (I:Inv X pins σ H s):Mod X.K X.mg X.base:=I.ok.mod
theorem Inv.kIn (I:Inv X pins σ H s):X.K.In s.heap:=I.ok.mod.kin.keeps I.bk
theorem Inv.nolimit (I:Inv X pins σ H s):s.heap.NoLimit:=I.ok.mod.nolimit.keeps I.bk
theorem Inv.fr (I:Inv X pins σ H s):∃m,Fr X.base X.env.locals s.heap m :=
 let⟨m,hn,_⟩:=I.loc
 ⟨m,hn,I.bk,Nat.le_trans I.ok.bsz I.ok.above⟩
theorem Inv.lt (I:Inv X pins σ H s):X.env.locals<s.heap.objs.size:=let⟨_,hn,_⟩:=I.loc; hn.lt
theorem Inv.sz (I:Inv X pins σ H s):X.s₀.heap.objs.size<=s.heap.objs.size:=Nat.le_trans I.ok.above (Nat.le_of_lt I.lt)
theorem Inv.nofs (I:Inv X pins σ H s) {a:Addr} (h:s.heap.objs.size<=a):a∉X.fs:=fun hb=>by
 obtain⟨_,o,ho,_⟩:=I.ok.funs.mem hb
 exact absurd (Nat.lt_of_lt_of_le (Heap.lt_size ho) (Nat.le_trans I.sz h)) (Nat.lt_irrefl _)
theorem Inv.cne (I:Inv X pins σ H s):∀x c,X.env.cells.lookup x=some c->c≠X.env.locals:=fun x c e z=>by
 obtain⟨v,o,ho,hd⟩:=I.cell x c e
 obtain⟨m,⟨o',es,ep,ho',hd',_⟩,_⟩:=I.loc
 rw[z,ho'] at ho; cases ho; rw[hd'] at hd; cases hd
theorem Inv.funs (I:Inv X pins σ H s):s.heap.FunFrames X.base X.outer:=by
 have all:∀(l:List Env),(∀b∈frs l,b∈X.fs)->X.s₀.heap.FunFrames X.base l->s.heap.FunFrames X.base l:=by
  intro l
  induction l with
  |nil=>intro _ _; trivial
  |cons env r ih =>
   intro hs hl
   obtain⟨hk,⟨L,o,hf,hn,ho,hd⟩,hr⟩:=hl
   have hL:L∈X.fs:=hs L (by unfold frs; rw[List.filterMap_cons,hf]; exact List.mem_cons_self)
   obtain⟨sl,e⟩:=I.base.slot L o ho (I.ok.frf L hL) hL fun z=>I.ok.exfs L z hL
   exact⟨hk,⟨L,_,hf,hn,e,hd⟩,ih (fun b hb=>hs b (by unfold frs; rw[List.filterMap_cons,hf]; exact List.mem_cons_of_mem _ hb)) hr⟩
 exact all X.outer (fun _ hb=>hb) I.ok.funs
theorem Inv.stack (I:Inv X pins σ H s):s.heap.FunFrames X.base X.stack:=by
 rcases I.ok.stk with e|⟨e,hf⟩
 ·rw[e]; exact I.funs
 ·rw[e]
  obtain⟨m,hn,_⟩:=I.loc
  refine .cons (by rw[I.ok.kind]; decide) hf hn ?_ I.funs
  exact Heap.get?_none_of_le (Nat.le_trans I.ok.bsz I.ok.above)
theorem Inv.stkSub (I:Inv X pins σ H s):∀b∈frs X.stack,b∈X.env.locals::X.fs:=fun b hb=>by
 rcases I.ok.stk with e|⟨e,hf⟩
 ·rw[e] at hb; exact List.mem_cons_of_mem _ hb
 ·rw[e] at hb
  unfold frs at hb
  rw[List.filterMap_cons,hf] at hb
  exact hb
theorem Inv.stkFree (I:Inv X pins σ H s):∀b∈frs X.stack,H b=none:=fun b hb=>by
 rcases List.mem_cons.mp (I.stkSub b hb) with e|hb
 ·rw[e]; exact I.free
 ·obtain⟨_,o,ho,_⟩:=I.ok.funs.mem hb
  exact I.base.free b o ho (I.ok.frf b hb) fun z=>I.ok.exfs b z hb
theorem Inv.step {g':Array GenState} {t':Nat} {d':Drawn} {ch:List Addr} (I:Inv X pins σ H s)
  (hch:∀b∈ch,(b∈X.ex\/X.s₀.heap.objs.size<=b)/\b≠X.env.locals/\(∀x c,X.env.cells.lookup x=some c->c≠b)/\∀p∈X.pn++pins,p.1≠b)
  (keep:∀b o,b≠X.env.locals->b∉X.fs->b∉ch->s.heap.get? b=some o->H b=none->h'.get? b=some o)
  (slot:∀b o,b≠X.env.locals->b∈X.fs->b∉ch->s.heap.get? b=some o->H b=none->∃sl,h'.get? b=some { o with slots:=sl }) (free:∀b o,b∉ch->s.heap.get? b=some o->H b=none->H' b=none)
  (there:∀b o,b∉ch->s.heap.get? b=some o->∃o',h'.get? b=some o')
  (tups:∀b xs,H b=some (.tup xs)->H' b=some (.tup xs)) (frzs:∀b o u,H b=some (.frz o u)->H' b=some (.frz o u)) (tbls:∀b ps,H b=some (.tbl ps)->∃more,H' b=some (.tbl (ps++more)))
  (ns:∀m,s.heap.Ns X.env.locals m->h'.Ns X.env.locals m) (hok:HOk X.prog X.w H' h') (hg:AllBare g') :
  Inv X pins σ H' { s with heap:=h',gens:=g',drawn:=d',toks:=t' }:=by
 have neL:∀b o,X.s₀.heap.get? b=some o->b≠X.env.locals:=fun b o e=>Nat.ne_of_lt (Nat.lt_of_lt_of_le (Heap.lt_size e) I.ok.above)
 have neC:∀b o,X.s₀.heap.get? b=some o->b∉X.ex->b∉ch:=fun b o e hx hb=>by
  rcases(hch b hb).1 with z|z
  ·exact hx z
  ·exact absurd (Nat.lt_of_lt_of_le (Heap.lt_size e) z) (Nat.lt_irrefl _)
 have cellK:∀x c,X.env.cells.lookup x=some c->∀v,s.heap.IsCell c v->h'.IsCell c v:=fun x c e v ⟨o,ho,hd⟩=>by
  have nch:c∉ch:=fun z=>(hch c z).2.2.1 x c e rfl
  by_cases hc:c∈X.fs
  ·obtain⟨sl,q⟩:=slot c o (I.cne x c e) hc nch ho (I.freeC x c e)
   exact⟨_,q,hd⟩
  ·exact⟨o,keep c o (I.cne x c e) hc nch ho (I.freeC x c e),hd⟩
 refine⟨I.ok,I.os,hg,⟨fun b o e n hb hx=>?_,fun b o e n hb hx=>?_,fun b o e n hx=>?_,fun b o e hx=>?_,fun b xs e=>tups b xs (I.base.tups b xs e),fun b o xs e=>frzs b o xs (I.base.frzs b o xs e),fun b ps e=>?_⟩, ?_,fun x c e=>?_, ?_,fun x c e=>?_,fun p hp=>?_,hok,I.len⟩
 ·exact keep b o (neL b o e) hb (neC b o e hx) (I.base.keep b o e n hb hx) (I.base.free b o e n hx)
 ·obtain⟨sl,e1⟩:=I.base.slot b o e n hb hx
  obtain⟨sl',e2⟩:=slot b _ (neL b o e) hb (neC b o e hx) e1 (I.base.free b o e n hx)
  exact⟨sl',e2⟩
 ·obtain⟨o',e1⟩:=I.base.there b o e hx
  exact free b o' (neC b o e hx) e1 (I.base.free b o e n hx)
 ·obtain⟨o',e1⟩:=I.base.there b o e hx
  exact there b o' (neC b o e hx) e1
 ·obtain⟨m1,e1⟩:=I.base.tbls b ps e
  obtain⟨m2,e2⟩:=tbls b _ e1
  exact⟨m1++m2,by rw[e2,Array.append_assoc]⟩
 ·obtain⟨m,hn,hl⟩:=I.loc
  refine⟨m,ns m hn,fun i x v e1 e2 e3=>?_⟩
  obtain⟨u,r,l⟩:=hl i x v e1 e2 e3
  refine⟨u,r, ?_⟩
  rcases l with l|⟨k,c,e,z⟩
  ·exact .inl l
  ·exact .inr ⟨k,c,e,cellK x c e _ z⟩
 ·obtain⟨v,z⟩:=I.cell x c e
  exact⟨v,cellK x c e v z⟩
 ·obtain⟨m,⟨o,_,_,ho,_⟩,_⟩:=I.loc
  exact free _ o (fun z=>(hch _ z).2.1 rfl) ho I.free
 ·obtain⟨v,o,ho,hd⟩:=I.cell x c e
  exact free c o (fun z=>(hch c z).2.2.1 x c e rfl) ho (I.freeC x c e)
 ·obtain⟨e,n,ne,nf,d⟩:=I.pin p hp
  have nch:p.1∉ch:=fun z=>(hch p.1 z).2.2.2 p hp rfl
  exact⟨keep p.1 p.2 ne nf nch e n,free p.1 p.2 nch e n,ne,nf,d⟩
theorem Inv.un {t':Nat} (I:Inv X pins σ H s) (u:Un X.fs [] H H' s.heap h') (hok:HOk X.prog X.w H' h'):Inv X pins σ H' { s with heap:=h',toks:=t' }:=by
 obtain⟨m,⟨o,es,ep,ho,r⟩,_⟩:=id I.loc
 obtain⟨sl,hL⟩:=u.any ho I.free (by simp)
 exact I.step (g':=s.gens) (d':=s.drawn) (ch:=[]) (fun _ z=>nomatch z) (fun b o _ hb _ e n=>u.keep b o e n hb (by simp)) (fun b o _ hb _ e n=>u.slot b o e n hb (by simp)) (fun b o _ e n=>u.free b o e n (by simp)) (fun b o _ e=>u.there b o e (by simp)) u.tups u.frzs u.tbls (fun m' hm=>by
  obtain⟨o',es',ep',ho',r'⟩:=hm
  rw[ho] at ho'; cases ho'
  exact⟨_,es',ep',hL,r'⟩) hok I.bare
theorem Inv.call {g':Array GenState} {t':Nat} {d':Drawn} {ch:List Addr} (I:Inv X pins σ H s) (u:Un (frs X.stack) ch H H' s.heap h') (hok:HOk X.prog X.w H' h') (hg:AllBare g')
  (hch:∀b∈ch,(b∈X.ex\/X.s₀.heap.objs.size<=b)/\b≠X.env.locals/\(∀x c,X.env.cells.lookup x=some c->c≠b)/\∀p∈X.pn++pins,p.1≠b) :
  Inv X pins σ H' { s with heap:=h',gens:=g',drawn:=d',toks:=t' }:=by
 obtain⟨m,⟨o,es,ep,ho,r⟩,_⟩:=id I.loc
 obtain⟨sl,hL⟩:=u.any ho I.free fun z=>(hch _ z).2.1 rfl
 exact I.step (ch:=ch) hch (fun b o hL hb hc e n=>u.keep b o e n (fun z=>(List.mem_cons.mp (I.stkSub b z)).elim hL hb) hc) (fun b o _ _ hc e n=>u.any e n hc) (fun b o hc e n=>u.free b o e n hc) (fun b o hc e=>u.there b o e hc) u.tups u.frzs u.tbls (fun m' hm=>by
  obtain⟨o',es',ep',ho',r'⟩:=hm
  rw[ho] at ho'; cases ho'
  exact⟨_,es',ep',hL,r'⟩) hok hg
theorem Inv.turned {t':Nat} {it:Addr} (I:Inv X pins σ H s) (k:∀b o,b≠it->s.heap.get? b=some o->h'.get? b=some o) (hn:H it=none) (hL:it≠X.env.locals)
  (h1:it∈X.ex\/X.s₀.heap.objs.size<=it) (h2:∀x c,X.env.cells.lookup x=some c->c≠it) (h3:∀p∈X.pn++pins,p.1≠it):Inv X pins σ H { s with heap:=h',toks:=t' }:=by
 have nit:∀b u,H b=some u->b≠it:=fun b u e z=>by rw[z,hn] at e; cases e
 refine I.step (g':=s.gens) (d':=s.drawn) (ch:=[it]) (fun b hb=>?_) (fun b o _ _ hc e _=>k b o (fun z=>hc (by simp[z])) e) (fun b o _ _ hc e _=>⟨o.slots,k b o (fun z=>hc (by simp[z])) e⟩) (fun _ _ _ _ n=>n)
  (fun b o hc e=>⟨o,k b o (fun z=>hc (by simp[z])) e⟩) (fun _ _ e=>e) (fun _ _ _ e=>e) (fun b ps e=>⟨#[],by rw[e]; simp⟩) (fun m hm=>?_) (fun b u e=>?_) I.bare
 ·have e:b=it:=by simpa using hb
  subst e
  exact⟨h1,hL,h2,h3⟩
 ·obtain⟨o,es,ep,ho,r⟩:=hm
  exact⟨o,es,ep,k _ o (Ne.symm hL) ho,r⟩
 ·refine(I.hok b u e).stay (fun c v hc q=>k c v ?_ q) (fun _ q=>q) fun _ _ q=>q
  rcases hc with z|z
  ·rw[z]; exact nit b u e
  ·exact nit c _ z
theorem Inv.tok (I:Inv X pins σ H s) (t:Nat):Inv X pins σ H { s with toks:=t }:=I.un (h':=s.heap) (t':=t) Un.refl I.hok
theorem Inv.kept {t':Nat} (I:Inv X pins σ H s) (k:∀b u,s.heap.get? b=some u->h'.get? b=some u):Inv X pins σ H { s with heap:=h',toks:=t' }:=I.un (Un.kept k) (I.hok.kept k)
theorem Inv.laid {a:Addr} {o:HO} {t':Nat} (I:Inv X pins σ H s) (k:∀b u,s.heap.get? b=some u->h'.get? b=some u) (hp:s.heap.objs.size<=a) (new:ObjOk X.prog X.w (upd H a o) h' a o) :
  Inv X pins σ (upd H a o) { s with heap:=h',toks:=t' }:=I.un (Un.laid k hp (I.hok.fresh hp)) (I.hok.laid k hp new)
theorem Inv.write {x e:Addr} {o:HO} {t':Nat} (I:Inv X pins σ H s) (mu:Mut (H x)) (he:e=x\/H e=some (.own x)) (k:∀b u,b≠e->s.heap.get? b=some u->h'.get? b=some u) (heo:∃u,h'.get? e=some u)
  (new:ObjOk X.prog X.w (upd H x o) h' x o):Inv X pins σ (upd H x o) { s with heap:=h',toks:=t' }:=I.un (Un.write mu he k heo) (I.hok.write mu he k heo new)
theorem Inv.weak {σ':List (Option V)} (I:Inv X pins σ H s) (hl:σ'.length=σ.length) (w:∀(i:Nat) v,σ'[i]?=some (some v)->σ[i]?=some (some v)):Inv X pins σ' H s :=
 ⟨I.ok,I.os,I.bare,I.base,let⟨m,hn,hl'⟩:=I.loc; ⟨m,hn,fun i x v e1 e2 e3=>hl' i x v e1 (w i v e2) e3⟩,I.cell,I.free,I.freeC,I.pin,I.hok,hl.trans I.len⟩
theorem Inv.pins_of {pins':List (Addr×Obj)} (I:Inv X pins σ H s) (h:∀p∈pins',s.heap.get? p.1=some p.2/\H p.1=none/\p.1≠X.env.locals/\p.1∉X.fs/\∀v,p.2.data ≠ .cell v):Inv X pins' σ H s :=
 ⟨I.ok,I.os,I.bare,I.base,I.loc,I.cell,I.free,I.freeC,fun p hp=>(List.mem_append.mp hp).elim (fun z=>I.pin p (List.mem_append_left _ z)) (h p),I.hok,I.len⟩
theorem V2 {N:List Str} (hN:N.Nodup) {i j:Nat} {x:Str} (a:N[i]?=some x) (b:N[j]?=some x):i=j:=by
 obtain⟨h1,e1⟩:=List.getElem?_eq_some_iff.mp a
 obtain⟨h2,e2⟩:=List.getElem?_eq_some_iff.mp b
 exact(List.getElem_inj hN).mp (e1.trans e2.symm)
theorem Qf {M:Model} {A:Around} {E:Value->Shared->Prop} {i:Nat} {x:Str} {v:V} {u:Value} {Q:Unit->Shared->Prop} (I:Inv X pins σ H s) (hN:X.N.Nodup) (hi:X.N[i]?=some x) (hx:Loc X.env.scope x) (r:RelV v u)
  (h:∀s',Inv X pins (σ.set i (some v)) H s'->(∃a,Heap.SameBut a s.heap s'.heap/\(a=X.env.locals\/X.env.cells.lookup x=some a))->Q () s') (hf:X.fn x=true\/X.env.scope.names.lookup x=some .local:=by first|exact .inl rfl|exact .inr rfl|assumption):wpAny M A (storeName X.env x u) Q E s:=by
 obtain⟨m,hn,hl⟩:=id I.loc
 have hcls:(X.env.scope.kind == .class||(X.env.scope.kind == .module&&X.env.locals != X.env.globals))=false:=by rw[I.ok.kind]; rfl
 have hiσ:i<σ.length:=by rw[I.len]; exact(List.getElem?_eq_some_iff.mp hi).1
 have cne:=I.cne
 have tracked:∀{a:Addr} {h':Heap},(∃o,s.heap.get? a=some o/\H a=none)->Heap.SameBut a s.heap h'->HOk X.prog X.w H h':=fun {a h'} ha hs b ob e=>by
  obtain⟨_,_,hfree⟩:=ha
  refine(I.hok b ob e).stay (fun c w' hc q=>(hs.2 c ?_).trans q) (fun _ q=>q) fun _ _ q=>q
  rintro rfl
  rcases hc with rfl|hc
  ·rw[hfree] at e; cases e
  ·rw[hfree] at hc; cases hc
 rcases hx with hk|hk
 ·refine wpAny_storeName_local hk hn (fun h' hn' hs=>?_) hcls
  obtain⟨oL,_,_,hoL,_⟩:=id hn
  refine h _ ⟨I.ok,I.os,I.bare,⟨fun b o e n hb hx=>?_,fun b o e n hb hx=>?_,I.base.free,fun b o e hx=>?_,I.base.tups,I.base.frzs,I.base.tbls⟩,⟨_,hn',fun j y v' e1 e2 e3=>?_⟩,fun y c e=>?_,I.free,I.freeC,fun p hp=>?_,tracked ⟨oL,hoL,I.free⟩ hs,by simpa using I.len⟩ ⟨_,hs, .inl rfl⟩
  ·exact(hs.2 b (Nat.ne_of_lt (Nat.lt_of_lt_of_le (Heap.lt_size e) I.ok.above))).trans (I.base.keep b o e n hb hx)
  ·obtain⟨sl,e1⟩:=I.base.slot b o e n hb hx
   exact⟨sl,(hs.2 b (Nat.ne_of_lt (Nat.lt_of_lt_of_le (Heap.lt_size e) I.ok.above))).trans e1⟩
  ·obtain⟨o',e1⟩:=I.base.there b o e hx
   exact⟨o',(hs.2 b (Nat.ne_of_lt (Nat.lt_of_lt_of_le (Heap.lt_size e) I.ok.above))).trans e1⟩
  ·by_cases hj:j=i
   ·subst hj
    rw[hi] at e1; cases e1
    rw[List.getElem?_set_self hiσ] at e2
    cases e2
    exact⟨u,r, .inl ⟨hk,by simp⟩⟩
   ·rw[List.getElem?_set_ne (Ne.symm hj)] at e2
    obtain⟨u',r',q⟩:=hl j y v' e1 e2 e3
    refine⟨u',r', ?_⟩
    rcases q with⟨k,e⟩|⟨k,c,e,z⟩
    ·refine .inl ⟨k, ?_⟩
     have:y≠x:=fun e=>hj (V2 hN e1 (e▸hi))
     simp[this,e]
    ·exact .inr ⟨k,c,e,z.sameBut hs (cne y c e)⟩
  ·obtain⟨w',z⟩:=I.cell y c e
   exact⟨w',z.sameBut hs (cne y c e)⟩
  ·obtain⟨e,n,ne,nf,d⟩:=I.pin p hp
   exact⟨(hs.2 p.1 ne).trans e,n,ne,nf,d⟩
 ·have hfn:X.fn x=true:=by
   rcases hf with z|z
   ·exact z
   ·rw[z] at hk; cases hk
  obtain⟨c,hc⟩:=I.ok.has x (.inl hk)
  obtain⟨w',z⟩:=I.cell x c hc
  refine wpAny_storeName_cell I.ok.kind hk hc z (fun h' hc' hs=>?_)
  obtain⟨oc,hoc,hocd⟩:=id z
  refine h { s with heap:=h' } ⟨I.ok,I.os,I.bare,⟨fun b o e n hb hx=>?_,fun b o e n hb hx=>?_,I.base.free,fun b o e hx=>?_,I.base.tups,I.base.frzs,I.base.tbls⟩,⟨m,hn.sameBut hs (Ne.symm (cne x c hc)),fun j y v' e1 e2 e3=>?_⟩,fun y c' e=>?_,I.free,I.freeC,fun p hp=>?_,tracked ⟨oc,hoc,I.freeC x c hc⟩ hs,by simpa using I.len⟩ ⟨c,hs, .inr hc⟩
  ·exact(hs.2 b (Nat.ne_of_lt (Nat.lt_of_lt_of_le (Heap.lt_size e) (I.ok.cab x c hfn hc)))).trans (I.base.keep b o e n hb hx)
  ·obtain⟨sl,e1⟩:=I.base.slot b o e n hb hx
   exact⟨sl,(hs.2 b (Nat.ne_of_lt (Nat.lt_of_lt_of_le (Heap.lt_size e) (I.ok.cab x c hfn hc)))).trans e1⟩
  ·obtain⟨o',e1⟩:=I.base.there b o e hx
   exact⟨o',(hs.2 b (Nat.ne_of_lt (Nat.lt_of_lt_of_le (Heap.lt_size e) (I.ok.cab x c hfn hc)))).trans e1⟩
  ·by_cases hj:j=i
   ·subst hj
    rw[hi] at e1; cases e1
    rw[List.getElem?_set_self hiσ] at e2
    cases e2
    exact⟨u,r, .inr ⟨.inl hk,c,hc,hc'⟩⟩
   ·rw[List.getElem?_set_ne (Ne.symm hj)] at e2
    obtain⟨u',r',q⟩:=hl j y v' e1 e2 e3
    refine⟨u',r', ?_⟩
    rcases q with q|⟨k,c',e,z'⟩
    ·exact .inl q
    ·refine .inr ⟨k,c',e,z'.sameBut hs ?_⟩
     rintro rfl
     exact hj (V2 hN e1 (I.ok.inj _ _ _ e hc▸hi))
  ·by_cases hcc:c'=c
   ·subst hcc; exact⟨_,hc'⟩
   ·obtain⟨w2,z2⟩:=I.cell y c' e
    exact⟨w2,z2.sameBut hs hcc⟩
  ·obtain⟨e,n,ne,nf,d⟩:=I.pin p hp
   refine⟨(hs.2 p.1 ?_).trans e,n,ne,nf,d⟩
   intro q
   rw[q,hoc] at e
   have q':oc=p.2:=Option.some.inj e
   exact d w' (by rw[<-q']; exact hocd)
theorem jU {M:Model} {A:Around} {E:Value->Shared->Prop} {i:Nat} {x:Str} {v:V} {u:Value} {Q:Unit->Shared->Prop} (I:Inv X pins σ H s) (hN:X.N.Nodup) (hi:X.N[i]?=some x) (hx:Loc X.env.scope x) (r:RelV v u)
  (h:∀s',Inv X pins (σ.set i (some v)) H s'->Q () s') (hf:X.fn x=true\/X.env.scope.names.lookup x=some .local:=by first|exact .inl rfl|exact .inr rfl|assumption):wpAny M A (storeName X.env x u) Q E s :=
 Qf I hN hi hx r (fun s' I' _=>h s' I') hf
theorem Inv.call' {s':Shared} {ch:List Addr} (I:Inv X pins σ H s) (ho:s'.os=s.os) (u:Un (frs X.stack) ch H H' s.heap s'.heap) (hok:HOk X.prog X.w H' s'.heap) (hg:AllBare s'.gens)
  (hch:∀b∈ch,(b∈X.ex\/X.s₀.heap.objs.size<=b)/\b≠X.env.locals/\(∀x c,X.env.cells.lookup x=some c->c≠b)/\∀p∈X.pn++pins,p.1≠b):Inv X pins σ H' s':=by
 obtain⟨h',g',d',t',o'⟩:=s'
 have e:o'=s.os:=ho
 subst e
 exact I.call (g':=g') (t':=t') (d':=d') u hok hg hch
end
abbrev XK:=Value->Option Addr->Hp->Prop
abbrev St:=List (Option V)
abbrev VK:=V->Hp->Prop
abbrev TE:=St->Hp->VK->Prop
abbrev TT:=St->Hp->(Bool->Hp->Prop)->Prop
abbrev TA:=St->Hp->(List V->Hp->Prop)->Prop
structure Ends where
 nx:St->Hp->Prop
 rt:VK
 bk:St->Hp->Prop:=fun _ _=>False
 ct:St->Hp->Prop:=fun _ _=>False
abbrev TS:=Ends->St->Hp->Prop
def EP (X:Cx) (pins:List (Addr×Obj)) (σ:St) (Q:VK) (u:Value) (s':Shared):Prop:=∃v H',Inv X pins σ H' s'/\RelV v u/\Q v H'
def TP (X:Cx) (pins:List (Addr×Obj)) (σ:St) (Q:Bool->Hp->Prop) (b:Bool) (s':Shared):Prop:=∃H',Inv X pins σ H' s'/\Q b H'
def AP (X:Cx) (pins:List (Addr×Obj)) (σ:St) (Q:List V->Hp->Prop) (us:List Value) (s':Shared):Prop:=∃vs H',Inv X pins σ H' s'/\Vals vs us/\Q vs H'
def SP (X:Cx) (pins:List (Addr×Obj)) (D:Ends) (f:Flow) (s':Shared):Prop :=
 match f with
 |.next=>∃σ' H',Inv X pins σ' H' s'/\D.nx σ' H'
 |.brk=>∃σ' H',Inv X pins σ' H' s'/\D.bk σ' H'
 |.cont=>∃σ' H',Inv X pins σ' H' s'/\D.ct σ' H'
 |.ret u=>∃v σ' H',Inv X pins σ' H' s'/\RelV v u/\D.rt v H'
def PE (X:Cx) (e:Expr) (t:TE):Prop :=
 ∀(pins:List (Addr×Obj)) (s:Shared) (σ:St) (H:Hp) (Q:VK),Inv X pins σ H s->t σ H Q->wpAny (model X.prog X.w) X.A (eval e X.env) (EP X pins σ Q) X.xe s
def PT (X:Cx) (e:Expr) (t:TT):Prop :=
 ∀(pins:List (Addr×Obj)) (s:Shared) (σ:St) (H:Hp) (Q:Bool->Hp->Prop),Inv X pins σ H s->t σ H Q->wpAny (model X.prog X.w) X.A (isTrue e X.env (eval e X.env)) (TP X pins σ Q) X.xe s
def PW (X:Cx) (e:Expr) (t:TT):Prop :=
 ∀(whole:Sem Value) (pins:List (Addr×Obj)) (s:Shared) (σ:St) (H:Hp) (Q:Bool->Hp->Prop),Inv X pins σ H s->t σ H Q->wpAny (model X.prog X.w) X.A (isTrue e X.env whole) (TP X pins σ Q) X.xe s
theorem PW.pt {X:Cx} {e:Expr} {t:TT} (h:PW X e t):PT X e t:=h _
def PA (X:Cx) (es:List Expr) (t:TA):Prop :=
 ∀(pos:Pos) (pins:List (Addr×Obj)) (s:Shared) (σ:St) (H:Hp) (Q:List V->Hp->Prop),Inv X pins σ H s->t σ H Q->wpAny (model X.prog X.w) X.A (spliced (backTo pos (starEach es X.env))) (AP X pins σ Q) X.xe s
def PS (X:Cx) (st:Stmt) (t:TS):Prop :=
 ∀(pins:List (Addr×Obj)) (s:Shared) (σ:St) (H:Hp) (D:Ends),Inv X pins σ H s->t D σ H->wpAny (model X.prog X.w) X.A (exec st X.env) (SP X pins D) X.xe s
def PSs (X:Cx) (st:List Stmt) (t:TS):Prop :=
 ∀(pins:List (Addr×Obj)) (s:Shared) (σ:St) (H:Hp) (D:Ends),Inv X pins σ H s->t D σ H->wpAny (model X.prog X.w) X.A (execs st X.env) (SP X pins D) X.xe s
theorem thn {α:Type} {t:Sem α} {Q Q':α->Shared->Prop} {M:Model} {A:Around} {E:Value->Shared->Prop} {s:Shared} (h:wpAny M A t Q E s) (hQ:∀a s,Q a s->Q' a s):wpAny M A t Q' E s:=wpAny_mono h hQ fun _ _ x=>x
section
variable {X:Cx}
theorem bin {a b:Expr} {ta tb:TE} (ha:PE X a ta) (hb:PE X b tb) {pins:List (Addr×Obj)} {s:Shared} {σ:St} {H:Hp} {R:V->V->Hp->Prop} (I:Inv X pins σ H s) (h:ta σ H fun x H1=>tb σ H1 fun y H2=>R x y H2)
  {α:Type} {Q:α->Shared->Prop} {f:Value->Value->Sem α}
  (hf:∀v u s2 x y H2,Inv X pins σ H2 s2->RelV x v->RelV y u->R x y H2->wpAny (model X.prog X.w) X.A (f v u) Q X.xe s2) :
  wpAny (model X.prog X.w) X.A (eval a X.env) (fun v s₁=>wpAny (model X.prog X.w) X.A (eval b X.env) (fun u s₂=>wpAny (model X.prog X.w) X.A (f v u) Q X.xe s₂) X.xe s₁) X.xe s:=by
 refine thn (ha pins s σ H _ I h) fun v s1 ⟨x,H1,I1,r1,q1⟩=>?_
 refine thn (hb pins s1 σ H1 _ I1 q1) fun u s2 ⟨y,H2,I2,r2,q2⟩=>?_
 exact hf v u s2 x y H2 I2 r1 r2 q2
def tVar (i:Nat):TE:=fun σ H Q=>∃v,σ[i]?=some (some v)/\Q v H
def tC (v:V):TE:=fun _ H Q=>Q v H
theorem pe_var {i:Nat} {x:Str} {pos:Pos} (hN:X.N[i]?=some x) (hv:Vis X.env.scope x) (hd:(x==("__debug__" : Str))=false:=by decide) (hcd:(x==("__classdict__" : Str))=false:=by decide):PE X (.Name x pos) (tVar i):=by
 intro pins s σ H Q I h
 obtain⟨v,e,h⟩:=h
 obtain⟨m,hn,hl⟩:=I.loc
 obtain⟨u,r,l⟩:=hl i x v hN e hv
 have fin:EP X pins σ Q u s:=⟨v,H,I,r,h⟩
 rcases l with⟨hk,hm⟩|⟨hk,c,hc,hcell⟩
 ·exact wpAny_Name (wpAny_loadName_local I.ok.kind hk hn hm fin) hd
 ·rcases hk with hk|hk
  ·exact wpAny_Name (wpAny_loadName_cell I.ok.kind hk hc hcell fin) hd
  ·exact wpAny_Name (wpAny_loadName_free I.ok.kind hk hc hcell fin hcd) hd
theorem pe_int {i j pos}:PE X (.Constant (.int i) j pos) (tC (.int i)):=fun _ _ _ H _ I h=>wpAny_Constant_int ⟨.int i,H,I.tok _,⟨_,rfl⟩,h⟩
theorem pe_bl {b j pos}:PE X (.Constant (.bool b) j pos) (tC (.bl b)):=fun _ _ _ H _ I h=>Constant_bool ⟨.bl b,H,I,rfl,h⟩
theorem pe_non {j pos}:PE X (.Constant .none j pos) (tC .non):=fun _ _ _ H _ I h=>Constant_none ⟨.non,H,I,rfl,h⟩
theorem pe_str {x j pos}:PE X (.Constant (.str x) j pos) (tC (.str x)):=fun _ _ _ H _ I h=>Calls.Constant_str ⟨.str x,H,I.tok _,⟨_,rfl⟩,h⟩
def Gl (X:Cx) (x:Str):Prop:=X.env.kindOf x=some .globalImplicit
theorem ku {E:Value->Shared->Prop} {pins:List (Addr×Obj)} {s:Shared} {σ:St} {H:Hp} {x:Str} {u:Value} {pos:Pos} {Q:Value->Shared->Prop} (I:Inv X pins σ H s) (hg:Gl X x) (hm:X.mg x=some u) (h:Q u s)
  (hd:(x==("__debug__" : Str))=false:=by decide):wpAny (model X.prog X.w) X.A (eval (.Name x pos) X.env) Q E s :=
 Calls.Name_function_global I.ok.kind hg (Calls.loadGlobal_global (by rw[I.ok.glob]; exact I.mod.glob.keeps I.bk) hm h) hd
theorem xj {E:Value->Shared->Prop} {pins:List (Addr×Obj)} {s:Shared} {σ:St} {H:Hp} {x:Str} {u:Value} {pos:Pos} {Q:Value->Shared->Prop} (I:Inv X pins σ H s) (hg:Gl X x) (hm:X.mg x=none) (hv:bootBuiltins x=some u) (h:Q u s)
  (hn:x ≠ "__name__" := by decide) (hd:(x==("__debug__" : Str))=false:=by decide):wpAny (model X.prog X.w) X.A (eval (.Name x pos) X.env) Q E s:=by
 obtain⟨mb,h1,h2⟩:=I.mod.blt
 exact Calls.Name_function_global I.ok.kind hg (Calls.loadGlobal_builtin (by rw[I.ok.glob]; exact I.mod.glob.keeps I.bk) hm (by rw[I.ok.blt]; exact h1.keeps I.bk) ((h2 x hn).trans hv) h) hd
theorem XO {x:Str} {v:V} {u:Value} {pos:Pos} (hg:Gl X x) (hm:X.mg x=some u) (r:RelV v u) (hd:(x==("__debug__" : Str))=false:=by decide):PE X (.Name x pos) (tC v) :=
 fun _ _ _ H _ I h=>ku I hg hm ⟨v,H,I,r,h⟩ hd
variable {a b:Expr} {ta tb:TE} {pos:Pos}
def PC (X:Cx) (op:CmpOp) (a b:Expr) (t:TE):Prop :=
 ∀(pins:List (Addr×Obj)) (s:Shared) (σ:St) (H:Hp) (Q:VK),Inv X pins σ H s->t σ H Q ->
  wpAny (model X.prog X.w) X.A (eval a X.env) (fun v s₁=>wpAny (model X.prog X.w) X.A (eval b X.env) (fun u s₂=>wpAny (model X.prog X.w) X.A (compareOp op v u) (EP X pins σ Q) X.xe s₂) X.xe s₁) X.xe s
def tB (t:TE):TT:=fun σ H Q=>t σ H fun x H1=>∃c,x=.bl c/\Q c H1
theorem pt_cmp {op:CmpOp} {t:TE} (h:PC X op a b t) (h1:behindInMarks op b=false:=by first|exact nobehind _ (by decide) (by decide)|rfl):PT X (.Compare a [op] [b] pos) (tB t):=by
 intro pins s σ H Q I hw
 refine wpAny_isTrue_Compare1 (thn (h pins s σ H _ I hw) fun v s1 h1=>thn h1 fun u s2 h2=>thn h2 fun c s3 ⟨x,H1,I1,r1,q1⟩=>?_) h1
 obtain⟨d,rfl,q⟩:=q1
 cases r1
 exact wpAny_truthy_bool ⟨H1,I1,q⟩
theorem pt_val {e:Expr} {t:TE} (h:PE X e t) (he:∀whole,isTrue e X.env whole=(do let v <-whole; standAt e.pos; holding [v] (truthy v)):=by intro _; rfl):PT X e (tB t):=by
 intro pins s σ H Q I hw
 refine isTrue_plain (thn (h pins s σ H _ I hw) fun v s1 ⟨x,H1,I1,r1,q1⟩=>?_) (he _)
 obtain⟨d,rfl,q⟩:=q1
 cases r1
 exact wpAny_truthy_bool ⟨H1,I1,q⟩
variable {tA tB':TT} {rest:List Expr}
def tAnd (t u:TT):TT:=fun σ H Q=>t σ H fun c H1=>if c=true then u σ H1 Q else Q false H1
def tOr (t u:TT):TT:=fun σ H Q=>t σ H fun c H1=>if c=true then Q true H1 else u σ H1 Q
def tNot (t:TT):TT:=fun σ H Q=>t σ H fun c H1=>Q (!c) H1
theorem pw_and1 (ha:PT X a tA):PW X (.BoolOp .And [a] pos) tA:=by
 intro wh pins s σ H Q I h
 refine isTrue_and (thn (ha pins s σ H Q I h) fun c s1 e=>?_)
 cases c with
 |true=>exact isTrue_and_nil e
 |false=>exact e
theorem pw_or1 (ha:PT X a tA):PW X (.BoolOp .Or [a] pos) tA:=by
 intro wh pins s σ H Q I h
 refine isTrue_or (thn (ha pins s σ H Q I h) fun c s1 e=>?_)
 cases c with
 |false=>exact isTrue_or_nil e
 |true=>exact e
theorem pw_and (ha:PT X a tA) (hb:PW X (.BoolOp .And (b::rest) pos) tB'):PW X (.BoolOp .And (a::b::rest) pos) (tAnd tA tB'):=by
 intro wh pins s σ H Q I h
 refine isTrue_and (thn (ha pins s σ H _ I h) fun c s1 ⟨H1,I1,q1⟩=>?_)
 cases c with
 |true=>exact hb wh pins s1 σ H1 Q I1 q1
 |false=>exact⟨H1,I1,q1⟩
theorem pw_or (ha:PT X a tA) (hb:PW X (.BoolOp .Or (b::rest) pos) tB'):PW X (.BoolOp .Or (a::b::rest) pos) (tOr tA tB'):=by
 intro wh pins s σ H Q I h
 refine isTrue_or (thn (ha pins s σ H _ I h) fun c s1 ⟨H1,I1,q1⟩=>?_)
 cases c with
 |true=>exact⟨H1,I1,q1⟩
 |false=>exact hb wh pins s1 σ H1 Q I1 q1
theorem pt_not (ha:PT X a tA):PT X (.UnaryOp .Not a pos) (tNot tA):=by
 intro pins s σ H Q I h
 exact isTrue_not (ha pins s σ H (fun c H1=>Q (!c) H1) I h)
def tAndV (ta tb:TE):TE:=fun σ H Q=>ta σ H fun x H1=>∃c,x=.bl c/\if c=true then tb σ H1 Q else Q (.bl false) H1
def tOrV (ta tb:TE):TE:=fun σ H Q=>ta σ H fun x H1=>∃c,x=.bl c/\if c=true then Q (.bl true) H1 else tb σ H1 Q
def tNotV (ta:TE):TE:=fun σ H Q=>ta σ H fun x H1=>∃c,x=.bl c/\Q (.bl (!c)) H1
def tIf (t:TT) (ta tb:TE):TE:=fun σ H Q=>t σ H fun c H1=>if c=true then ta σ H1 Q else tb σ H1 Q
theorem pe_ifExp {c:Expr} (hc:PT X c tA) (ha:PE X a ta) (hb:PE X b tb):PE X (.IfExp c a b pos) (tIf tA ta tb):=by
 intro pins s σ H Q I h
 refine wpAny_IfExp (thn (hc pins s σ H _ I h) fun d s1 ⟨H1,I1,q1⟩=>?_)
 cases d with
 |true=>exact ha pins s1 σ H1 Q I1 q1
 |false=>exact hb pins s1 σ H1 Q I1 q1
end
def SqL (K:PySem.W.Frag) (H:Hp) (a:Addr) (xs:List V):Prop :=
 Rd H a (.lst xs) \/
  ∃(o:Obj) (its:Array Value) (n:Nat),K.lookup a=some o/\o.cls=.type "list" /\ o.dict=none/\o.data=.seq its n/\its.size<=sizeLine/\Vals xs its.toList
def SqT (K:PySem.W.Frag) (H:Hp) (a:Addr) (xs:List V):Prop :=
 Rd H a (.tup xs) \/
  ∃(o:Obj) (its:Array Value) (n:Nat),K.lookup a=some o/\o.cls=.type "tuple" /\ o.data=.seq its n/\its.size<=sizeLine/\Vals xs its.toList
def absV:Value->Option V
 |.none=>some .non
 |.bool b=>some (.bl b)
 |.int i _=>some (.int i)
 |.str x _=>some (.str x)
 |.bytes b _=>some (.byt b)
 |.float b _=>some (.flt b)
 |.ref a=>some (.ref a)
 |.type n=>some (.ty n)
 |_=>none
theorem RelV.abs {x:V} {u:Value} (r:RelV x u):absV u=some x:=by
 cases x with
 |non=>cases r; rfl
 |bl _=>cases r; rfl
 |int _=>obtain⟨t,rfl⟩:=r; rfl
 |str _=>obtain⟨t,rfl⟩:=r; rfl
 |byt _=>obtain⟨t,rfl⟩:=r; rfl
 |flt _=>obtain⟨t,rfl⟩:=r; rfl
 |ref _=>cases r; rfl
 |ty _=>cases r; rfl
theorem RelV.inj {x y:V} {u:Value} (r:RelV x u) (q:RelV y u):x=y:=Option.some.inj (r.abs.symm.trans q.abs)
theorem Vals.inj:∀{xs ys:List V} {us:List Value},Vals xs us->Vals ys us->xs=ys
 |_,_,_, .nil, .nil=>rfl
 |_,_,_, .cons r t, .cons r' t'=>by rw[r.inj r',Vals.inj t t']
section
variable {X:Cx} {pins:List (Addr×Obj)} {σ:St} {H:Hp} {s:Shared} {a:Addr} {xs ys:List V}
theorem SqL.of {K:PySem.W.Frag} (h:H a=some (.lst xs)):SqL K H a xs:=.inl (.inl h)
theorem SqT.of {K:PySem.W.Frag} (h:H a=some (.tup xs)):SqT K H a xs:=.inl (.inl h)
theorem Inv.list (I:Inv X pins σ H s) (h:SqL X.K H a xs):∃its:List Value,Vals xs its/\PlainL s.heap a its.toArray/\xs.length<=sizeLine:=by
 rcases h with h|⟨o,its,n,hk,hc,hd,hs,hz,r⟩
 ·obtain⟨z,its,n,r,e⟩:=h.ok I.hok
  exact⟨its,r,⟨_,n,e,rfl,rfl,rfl⟩,z⟩
 ·refine⟨its.toList,r,⟨o,n,I.kIn a o hk,hc,hd,by simpa using hs⟩, ?_⟩
  have e:=r.length
  simp only[Array.length_toList] at e
  omega
theorem Inv.tuple (I:Inv X pins σ H s) (h:SqT X.K H a xs):∃its:List Value,Vals xs its/\IsTup s.heap a its.toArray/\xs.length<=sizeLine:=by
 rcases h with h|⟨o,its,n,hk,hc,hs,hz,r⟩
 ·obtain⟨z,its,r,p⟩:=h.ok I.hok
  exact⟨its,r,p,z⟩
 ·refine⟨its.toList,r,⟨o,I.kIn a o hk,hc,n,by simpa using hs⟩, ?_⟩
  have e:=r.length
  simp only[Array.length_toList] at e
  omega
theorem Inv.list_inj (I:Inv X pins σ H s) (h:SqL X.K H a xs) (h':SqL X.K H a ys):xs=ys:=by
 obtain⟨its,r,⟨o,n,e,_,_,d⟩,_⟩:=I.list h
 obtain⟨its',r',⟨o',n',e',_,_,d'⟩,_⟩:=I.list h'
 rw[e] at e'; cases e'
 rw[d] at d'
 injection d' with d1 _
 have:its=its':=by simpa using congrArg Array.toList d1
 subst this
 exact r.inj r'
theorem Inv.tuple_inj (I:Inv X pins σ H s) (h:SqT X.K H a xs) (h':SqT X.K H a ys):xs=ys:=by
 obtain⟨its,r,⟨o,e,_,n,d⟩,_⟩:=I.tuple h
 obtain⟨its',r',⟨o',e',_,n',d'⟩,_⟩:=I.tuple h'
 rw[e] at e'; cases e'
 rw[d] at d'
 injection d' with d1 _
 have:its=its':=by simpa using congrArg Array.toList d1
 subst this
 exact r.inj r'
end
abbrev Cx.wish (X:Cx) (E:Value->Shared->Prop):Cx:={ X with xe:=E }
abbrev Cx.nox (X:Cx):Cx:=X.wish fun _ _=>False
theorem Cx.Ok.wish {X:Cx} (ok:X.Ok) (E:Value->Shared->Prop):(X.wish E).Ok :=
 ⟨ok.mod,ok.kind,ok.glob,ok.blt,ok.above,ok.inj,ok.has,ok.cab,ok.hd,ok.frames,ok.stk,ok.exf,ok.bs,ok.bsz,ok.noex,ok.exfs,ok.funs,ok.frf⟩
theorem Cx.Ok.unwish {X:Cx} {E:Value->Shared->Prop} (ok:(X.wish E).Ok):X.Ok :=
 ⟨ok.mod,ok.kind,ok.glob,ok.blt,ok.above,ok.inj,ok.has,ok.cab,ok.hd,ok.frames,ok.stk,ok.exf,ok.bs,ok.bsz,ok.noex,ok.exfs,ok.funs,ok.frf⟩
section
variable {X:Cx} {pins:List (Addr×Obj)} {σ:St} {H:Hp} {s:Shared} {E:Value->Shared->Prop}
theorem Inv.wish (I:Inv X pins σ H s) (E:Value->Shared->Prop):Inv (X.wish E) pins σ H s:=⟨I.ok.wish E,I.os,I.bare,I.base,I.loc,I.cell,I.free,I.freeC,I.pin,I.hok,I.len⟩
theorem Inv.unwish (I:Inv (X.wish E) pins σ H s):Inv X pins σ H s:=⟨I.ok.unwish,I.os,I.bare,I.base,I.loc,I.cell,I.free,I.freeC,I.pin,I.hok,I.len⟩
theorem SP.unwish {D:Ends} {f:Flow} {s':Shared} (h:SP (X.wish E) pins D f s'):SP X pins D f s':=by
 cases f with
 |next=>obtain⟨σ',H',I,q⟩:=h; exact⟨σ',H',I.unwish,q⟩
 |brk=>obtain⟨σ',H',I,q⟩:=h; exact⟨σ',H',I.unwish,q⟩
 |cont=>obtain⟨σ',H',I,q⟩:=h; exact⟨σ',H',I.unwish,q⟩
 |ret u=>obtain⟨v,σ',H',I,r,q⟩:=h; exact⟨v,σ',H',I.unwish,r,q⟩
theorem PSs.nox {st:List Stmt} {t:TS} (h:PSs X.nox st t):PSs X st t:=fun pins s σ H D I hw =>
 wpAny_mono (h pins s σ H D (I.wish _) hw) (fun _ _ q=>q.unwish) fun _ _ z=>False.elim z
end
section
variable {X:Cx} {st:Stmt} {rest:List Stmt} {t u:TS} {e:Expr} {te:TE} {pos:Pos}
def Qc:TS:=fun D σ H=>D.nx σ H
def tSeq (t u:TS):TS:=fun D σ H=>t { D with nx:=u D } σ H
theorem pss_nil:PSs X [] Qc:=fun _ _ σ H _ I h=>wpAny_execs_nil ⟨σ,H,I,h⟩
theorem pss_cons (h1:PS X st t) (h2:PSs X rest u):PSs X (st::rest) (tSeq t u):=by
 intro pins s σ H D I h
 refine wpAny_execs_cons (thn (h1 pins s σ H { D with nx:=u D } I h) fun f s1 q=>?_)
 cases f with
 |next =>
  obtain⟨σ',H',I',q⟩:=q
  exact h2 pins s1 σ' H' D I' q
 |ret v=>exact q
 |brk=>exact q
 |cont=>exact q
theorem pss_one (h1:PS X st t):PSs X [st] t:=by
 intro pins s σ H D I h
 refine wpAny_execs_cons (thn (h1 pins s σ H D I h) fun f s1 q=>?_)
 cases f with
 |next=>exact wpAny_execs_nil q
 |ret v=>exact q
 |brk=>exact q
 |cont=>exact q
theorem Inv.quiet {pins:List (Addr×Obj)} {σ:St} {H:Hp} {s:Shared} (I:Inv X pins σ H s):interactive X.env=false:=by simp[interactive,I.ok.kind]
def Qd (te:TE):TS:=fun D σ H=>te σ H fun _ H1=>D.nx σ H1
theorem ps_expr (he:PE X e te) (hs:swapsWith e none pos.line X.env=pure false:=by rfl):PS X (.Expr e pos) (Qd te):=by
 intro pins s σ H D I h
 exact wpAny_Expr_any (thn (he pins s σ H _ I h) fun v s1 ⟨x,H1,I1,r1,q1⟩=>⟨σ,H1,I1,q1⟩) I.quiet hs
def tRet (te:TE):TS:=fun D σ H=>te σ H D.rt
theorem ps_ret (he:PE X e te):PS X (.Return (some e) pos) (tRet te):=by
 intro pins s σ H D I h
 exact wpAny_Return_some (thn (he pins s σ H _ I h) fun v s1 ⟨x,H1,I1,r1,q1⟩=>⟨x,σ,H1,I1,r1,q1⟩)
def tRetN:TS:=fun D _ H=>D.rt .non H
def tIfS (c:TT) (t u:TS):TS:=fun D σ H=>c σ H fun b H1=>if b=true then t D σ H1 else u D σ H1
theorem ps_if {c:Expr} {a b:List Stmt} {tc:TT} (hc:PT X c tc) (ha:PSs X a t) (hb:PSs X b u):PS X (.If c a b pos) (tIfS tc t u):=by
 intro pins s σ H D I h
 refine wpAny_If (thn (hc pins s σ H _ I h) fun d s1 ⟨H1,I1,q1⟩=>?_)
 cases d with
 |true=>exact ha pins s1 σ H1 D I1 q1
 |false=>exact hb pins s1 σ H1 D I1 q1
end
abbrev TG:=V->St->Hp->(St->Hp->Prop)->Prop
abbrev TGs:=List V->St->Hp->(St->Hp->Prop)->Prop
def PG (X:Cx) (target:Expr) (t:TG):Prop :=
 ∀(pins:List (Addr×Obj)) (s:Shared) (σ:St) (H:Hp) (v:V) (u:Value) (Q:St->Hp->Prop),Inv X pins σ H s->RelV v u->t v σ H Q ->
  wpAny (model X.prog X.w) X.A (assign target X.env u) (fun _ s'=>∃σ' H',Inv X pins σ' H' s'/\Q σ' H') X.xe s
def PGs (X:Cx) (ts:List Expr) (t:TGs):Prop :=
 ∀(pins:List (Addr×Obj)) (s:Shared) (σ:St) (H:Hp) (vs:List V) (us:List Value) (Q:St->Hp->Prop),Inv X pins σ H s->Vals vs us->t vs σ H Q ->
  wpAny (model X.prog X.w) X.A (assignInOrder ((assignEach ts X.env).map (·.2)) us) (fun _ s'=>∃σ' H',Inv X pins σ' H' s'/\Q σ' H') X.xe s
abbrev TSet:=V->V->V->Hp->(Hp->Prop)->Prop
def PSet (X:Cx) (t:TSet):Prop :=
 ∀(pins:List (Addr×Obj)) (s:Shared) (σ:St) (H:Hp) (o i v:V) (ov iv u:Value) (Q:Hp->Prop),Inv X pins σ H s->RelV o ov->RelV i iv->RelV v u->t o i v H Q ->
  wpAny (model X.prog X.w) X.A (setItem ov iv u) (fun _ s'=>∃H',Inv X pins σ H' s'/\Q H') X.xe s
abbrev TIp:=V->V->Hp->VK->Prop
def PIp (X:Cx) (op:Operator) (t:TIp):Prop :=
 ∀(pins:List (Addr×Obj)) (s:Shared) (σ:St) (H:Hp) (x y:V) (v u:Value) (Q:VK),Inv X pins σ H s->RelV x v->RelV y u->t x y H Q ->
  wpAny (model X.prog X.w) X.A (inplaceOp op v u) (EP X pins σ Q) X.xe s
section
variable {X:Cx} {pos:Pos}
def qE (i:Nat):TG:=fun v σ H Q=>Q (σ.set i (some v)) H
theorem xz {i:Nat} {x:Str} (hN:X.N.Nodup) (hi:X.N[i]?=some x) (hx:Loc X.env.scope x) (hf:X.fn x=true\/X.env.scope.names.lookup x=some .local:=by first|exact .inl rfl|exact .inr rfl|assumption):PG X (.Name x pos) (qE i):=by
 intro pins s σ H v u Q I r h
 exact wpAny_assign_Name (jU I hN hi hx r (fun s' I'=>⟨_,H,I',h⟩) hf)
def gNil:TGs:=fun vs σ H Q=>vs=[]/\Q σ H
def qS (t:TG) (u:TGs):TGs:=fun vs σ H Q=>∃v r,vs=v::r/\t v σ H fun σ' H'=>u r σ' H' Q
theorem XM:PGs X [] gNil:=by
 intro pins s σ H vs us Q I r h
 obtain⟨e,h⟩:=h
 subst e
 cases r
 exact assignInOrder_nil ⟨σ,H,I,h⟩
theorem xf {e:Expr} {es:List Expr} {t:TG} {u:TGs} (h1:PG X e t) (h2:PGs X es u)
  (hs:(assignEach (e::es) X.env).map (·.2)=assign e X.env::(assignEach es X.env).map (·.2):=by rfl):PGs X (e::es) (qS t u):=by
 intro pins s σ H vs us Q I r h
 obtain⟨v,vr,e1,h⟩:=h
 subst e1
 cases r with
 |cons r rr =>
  rw[hs]
  refine assignInOrder_cons (thn (h1 pins s σ H _ _ _ I r h) fun _ s1 ⟨σ1,H1,I1,q1⟩=>?_)
  exact h2 pins s1 σ1 H1 _ _ Q I1 rr q1
def gTup (K:PySem.W.Frag) (n:Nat) (t:TGs):TG:=fun v σ H Q=>∃a xs,v=.ref a/\SqT K H a xs/\xs.length=n/\t xs σ H Q
theorem pg_tup {es:List Expr} {k:Nat} {t:TGs} {n:Nat} (hc:X.calm=true) (h:PGs X es t)
  (hn:(assignEach es X.env).length=n:=by rfl) (hst:(assignEach es X.env).findIdx? (·.1)=none:=by rfl):PG X (.Tuple es k pos) (gTup X.K n t):=by
 intro pins s σ H v u Q I r hw
 obtain⟨a,xs,e1,hq,hl,hw⟩:=hw
 subst e1
 cases r
 obtain⟨its,rv,ht,hz⟩:=I.tuple hq
 refine assign_Tuple_tuple (I.ok.hd hc) ht (by simp[hn, <-hl,rv.length]) hst fun h' hx=>?_
 have I1:Inv X pins σ H { s with heap:=h' }:=I.kept (t':=s.toks) fun b o e=>hx b o (Nat.ne_of_lt (Heap.lt_size e)) e
 exact h pins _ σ H xs _ Q I1 (by simpa using rv) hw
def gSub (to ti:TE) (t:TSet):TG:=fun v σ H Q=>to σ H fun o H1=>ti σ H1 fun i H2=>t o i v H2 fun H3=>Q σ H3
theorem pg_sub {o i:Expr} {to ti:TE} {t:TSet} (ho:PE X o to) (hi:PE X i ti) (hs:PSet X t)
  (ha:∀v,assign (.Subscript o i pos) X.env v=(do
   let ov <-holding [v] (eval o X.env)
   let iv <-holding [v,ov] (eval i X.env)
   standAt pos
   holding [v,ov,iv] (setItem ov iv v)
   release [v,ov,iv] []):=by intro _; rfl):PG X (.Subscript o i pos) (gSub to ti t):=by
 intro pins s σ H v u Q I r h
 rw[ha]
 refine wpAny_bind (wpAny_holding (thn (ho pins s σ H _ I h) fun ov s1 ⟨x,H1,I1,r1,q1⟩=>?_))
 refine wpAny_bind (wpAny_holding (thn (hi pins s1 σ H1 _ I1 q1) fun iv s2 ⟨y,H2,I2,r2,q2⟩=>?_))
 refine wpAny_bind (wpAny_standAt (wpAny_bind (wpAny_holding (thn (hs pins s2 σ H2 x y v ov iv u _ I2 r1 r2 r q2) fun _ s3 ⟨H3,I3,q3⟩=>?_))))
 exact wpAny_release ⟨σ,H3,I3,q3⟩
def tAsg (te:TE) (g:TG):TS:=fun D σ H=>te σ H fun x H1=>g x σ H1 D.nx
theorem ps_asg {tg e:Expr} {te:TE} {g:TG} (he:PE X e te) (hg:PG X tg g) (hs:swapsWithSole [tg] e pos.line X.env=pure false:=by rfl) (hw:swappedStores [tg] e X.env=pure none:=by rfl)
  (h1:(assignEach [tg] X.env).map (·.2)=[assign tg X.env]:=by rfl):PS X (.Assign [tg] e pos) (tAsg te g):=by
 intro pins s σ H D I h
 refine wpAny_Assign_stores (thn (he pins s σ H _ I h) fun v s1 ⟨x,H1,I1,r1,q1⟩=>?_) hs hw
 rw[h1]
 exact thn (hg pins s1 σ H1 x v _ I1 r1 q1) fun _ s2 q=>q
theorem ps_set {i:Nat} {x:Str} {e:Expr} {te:TE} {pos':Pos} (hN:X.N.Nodup) (hi:X.N[i]?=some x) (hx:Loc X.env.scope x) (he:PE X e te) (hs:swapsWith e (some (.Name x pos')) pos.line X.env=pure false:=by rfl) (hf:X.fn x=true\/X.env.scope.names.lookup x=some .local:=by first|exact .inl rfl|exact .inr rfl|assumption) :
  PS X (.Assign [.Name x pos'] e pos) (tAsg te (qE i)):=by
 intro pins s σ H D I h
 refine wpAny_Assign_Name (thn (he pins s σ H _ I h) fun v s1 ⟨y,H1,I1,r1,q1⟩=>?_) hs
 exact jU I1 hN hi hx r1 (fun s2 I2=>⟨_,H1,I2,q1⟩) hf
def tAug (i:Nat) (te:TE) (ti:TIp):TS:=fun D σ H=>∃x,σ[i]?=some (some x)/\te σ H fun y H1=>ti x y H1 fun z H2=>D.nx (σ.set i (some z)) H2
theorem ps_aug {i:Nat} {x:Str} {e:Expr} {te:TE} {op:Operator} {ti:TIp} {pos':Pos} (hN:X.N.Nodup) (hi:X.N[i]?=some x) (hx:Loc X.env.scope x) (he:PE X e te) (ho:PIp X op ti) (hf:X.fn x=true\/X.env.scope.names.lookup x=some .local:=by first|exact .inl rfl|exact .inr rfl|assumption) :
  PS X (.AugAssign (.Name x pos') op e pos) (tAug i te ti):=by
 intro pins s σ H D I h
 obtain⟨v,e1,h⟩:=h
 obtain⟨m,hn,hl⟩:=I.loc
 have vis:Vis X.env.scope x:=by rcases hx with k|k; exact .inl k; exact .inr (.inl k)
 obtain⟨u,r,l⟩:=hl i x v hi e1 vis
 refine wpAny_AugAssign_Name ?_
 have go:wpAny (model X.prog X.w) X.A (eval e X.env) (fun w s₂=>wpAny (model X.prog X.w) X.A (inplaceOp op u w) (fun r s₃=>wpAny (model X.prog X.w) X.A (storeName X.env x r) (fun _=>SP X pins D .next) X.xe s₃) X.xe s₂) X.xe s:=by
  refine thn (he pins s σ H _ I h) fun w s1 ⟨y,H1,I1,r1,q1⟩=>?_
  refine thn (ho pins s1 σ H1 v y u w _ I1 r r1 q1) fun z s2 ⟨zv,H2,I2,r2,q2⟩=>?_
  exact jU I2 hN hi hx r2 (fun s3 I3=>⟨_,H2,I3,q2⟩) hf
 rcases l with⟨hk,hm⟩|⟨hk,c,hc,hcell⟩
 ·exact wpAny_loadName_local I.ok.kind hk hn hm go
 ·rcases hk with hk|hk
  ·exact wpAny_loadName_cell I.ok.kind hk hc hcell go
  ·rcases hx with k|k
   ·have:X.env.scope.names.lookup x=some .free:=hk
    rw[k] at this; cases this
   ·have:X.env.scope.names.lookup x=some .free:=hk
    rw[k] at this; cases this
def ipI (f:Int->Int->Int):TIp:=fun x y H Q=>∃i j,x=.int i/\y=.int j/\Q (.int (f i j)) H
theorem ip_add:PIp X .Add (ipI fun i j=>i+j):=by
 intro pins s σ H x y v u Q I r1 r2 h
 obtain⟨i,j,e1,e2,q⟩:=h
 subst e1; subst e2
 obtain⟨t,rfl⟩:=r1
 obtain⟨t',rfl⟩:=r2
 exact iadd_int ⟨.int _,H,I.tok _,⟨_,rfl⟩,q⟩
end
section
variable {X:Cx} {pos:Pos}
def VR (c:TT) (tb:TS):TS:=fun D σ H=>∃W:Nat->St->Hp->Prop,(∃m,W m σ H)/\∀m σ H,W m σ H ->
 c σ H fun b H1=>if b=true then ∃N:St->Hp->Prop,(∀σ' H',N σ' H'->∃m',m'<m/\W m' σ' H')/\tb { D with nx:=N,ct:=N,bk:=D.nx } σ H1 else D.nx σ H1
theorem ps_while {c:Expr} {body:List Stmt} {tc:TT} {tb:TS} (hp:PassesOwn (model X.prog X.w) X.A X.env X.xe) (hc:PT X c tc) (hb:PSs X body tb):PS X (.While c body [] pos) (VR tc tb):=by
 intro pins s σ H D I h
 obtain⟨W,⟨m0,w0⟩,turn⟩:=h
 refine wpAny_While (codeAny_whileLoop (fun n s'=>∃σ' H',Inv X pins σ' H' s'/\W n σ' H') ?_ m0 ⟨σ,H,I,w0⟩)
 rintro n s1 ⟨σ1,H1,I1,w1⟩
 refine wpAny_passesOwn hp (thn (hc pins s1 σ1 H1 _ I1 (turn n σ1 H1 w1)) fun b s2 ⟨H2,I2,q2⟩=>?_)
 cases b with
 |true =>
  obtain⟨N,hN,q2⟩:=q2
  rw[if_pos rfl]
  refine wpAny_passesOwn hp (thn (hb pins s2 σ1 H2 _ I2 q2) fun f s3 q3=>?_)
  cases f with
  |next =>
   obtain⟨σ3,H3,I3,n3⟩:=q3
   obtain⟨m',hm,w3⟩:=hN σ3 H3 n3
   exact⟨m',hm,σ3,H3,I3,w3⟩
  |cont =>
   obtain⟨σ3,H3,I3,n3⟩:=q3
   obtain⟨m',hm,w3⟩:=hN σ3 H3 n3
   exact⟨m',hm,σ3,H3,I3,w3⟩
  |brk=>exact q3
  |ret v=>exact q3
 |false =>
  rw[if_neg Bool.false_ne_true]
  exact wpAny_execs_nil ⟨σ1,H2,I2,q2⟩
end
structure It where
 go:Nat->Hp->Prop
 yld:Nat->Hp->V->Hp->Prop
 stop:Nat->Hp->Prop
def FpOk (X:Cx) (pins:List (Addr×Obj)) (H:Hp) (b:Addr):Prop :=
 H b=none/\b≠X.env.locals/\b∉X.fs/\(b∈X.ex\/X.s₀.heap.objs.size<=b)/\(∀x c,X.env.cells.lookup x=some c->c≠b)/\∀p∈X.pn++pins,p.1≠b
theorem Inv.fpOk {X:Cx} {pins:List (Addr×Obj)} {σ:St} {H H':Hp} {s:Shared} {b:Addr} (I:Inv X pins σ H s) (hb:s.heap.objs.size<=b) (hn:H' b=none):FpOk X pins H' b:=by
 refine⟨hn,Nat.ne_of_gt (Nat.lt_of_lt_of_le I.lt hb),I.nofs hb, .inr (Nat.le_trans I.sz hb),fun x c e z=>?_,fun p hp z=>?_⟩
 ·obtain⟨v,q⟩:=I.cell x c e
  exact absurd (Nat.lt_of_lt_of_le q.lt (by rw[z]; exact hb)) (Nat.lt_irrefl _)
 ·exact absurd (Nat.lt_of_lt_of_le (Heap.lt_size (I.pin p hp).1) (by rw[z]; exact hb)) (Nat.lt_irrefl _)
structure Turn (P:Program) (w:World) (K:PySem.W.Frag) (tg:Expr) (J:It) (fp:List Addr) (it:Addr) (tn:Nat->Heap->Prop):Prop where
 mem:it∈fp
 obj:∀i h,tn i h->∀b∈fp,∃o,h.get? b=some o/\∀v,o.data ≠ .cell v
 keep:∀i h h',tn i h->(∀b∈fp,∀o,h.get? b=some o->h'.get? b=some o)->tn i h'
 item:∀(X:Cx),X.prog=P->X.w=w->X.K=K->X.calm=true->∀(i:Nat) (pins:List (Addr×Obj)) (s:Shared) (σ:St) (H:Hp) (E:Value->Shared->Prop),Inv X pins σ H s->(∀b∈fp,FpOk X pins H b)->tn i s.heap->J.go i H ->
  wpAny (model P w) X.A (pyNext (.ref it)) (fun r s1=>∃u,r=some u /\
   wpAny (model P w) X.A (letOwnedTupleGo tg (.ref it) u) (fun _ s2=>∃x H',Inv X pins σ H' s2/\RelV x u/\J.yld i H x H'/\tn (i+1) s2.heap/\∀b∈fp,H' b=none) E s1) E s
 done:∀(X:Cx),X.prog=P->X.w=w->X.K=K->X.calm=true->∀(i:Nat) (pins:List (Addr×Obj)) (s:Shared) (σ:St) (H:Hp) (E:Value->Shared->Prop),Inv X pins σ H s->(∀b∈fp,FpOk X pins H b)->tn i s.heap->J.stop i H ->
  wpAny (model P w) X.A (pyNext (.ref it)) (fun r s1=>r=none/\Inv X pins σ H s1) E s
 self:∀(A:Around) (i:Nat) (s:Shared) (Q:Value->Shared->Prop) (E:Value->Shared->Prop),tn i s.heap->Q (.ref it) s->wpAny (model P w) A (pyIter (.ref it)) Q E s
abbrev TI:=St->Hp->(It->Hp->Prop)->Prop
def PIE (X:Cx) (pins:List (Addr×Obj)) (σ:St) (tg:Expr) (R:It->Hp->Prop) (itv:Value) (s2:Shared):Prop :=
 ∃(it:Addr) (fp:List Addr) (tn:Nat->Heap->Prop) (J:It) (H':Hp),itv=.ref it/\Inv X pins σ H' s2/\Turn X.prog X.w X.K tg J fp it tn/\tn 0 s2.heap/\(∀b∈fp,FpOk X pins H' b)/\R J H'
def PI (X:Cx) (tg iter:Expr) (wi:TI):Prop :=
 ∀(pins:List (Addr×Obj)) (s:Shared) (σ:St) (H:Hp) (R:It->Hp->Prop),Inv X pins σ H s->wi σ H R ->
  wpAny (model X.prog X.w) X.A (eval iter X.env) (fun v s1=>wpAny (model X.prog X.w) X.A (pyIter v) (PIE X pins σ tg R) X.xe s1) X.xe s
theorem go_of {M:Model} {A:Around} {E:Value->Shared->Prop} {s:Shared} {tg:Expr} {it:Addr} {u:Value} {o:Obj} {n:String} {vs:Array Value} {Q:Unit->Shared->Prop} (ho:s.heap.get? it=some o) (hc:o.cls=.type n) (hd:o.data=.fields vs)
  (hn:["enumerate", "zip", "dict_itemiterator", "dict_reverseitemiterator", "odict_iterator", "itertools.zip_longest", "itertools.pairwise"].contains n=false) (hQ:Q () s):wpAny M A (letOwnedTupleGo tg (.ref it) u) Q E s:=by
 unfold letOwnedTupleGo
 cases tg<;>first
  |exact wpAny_pure hQ
  | (cases u<;>first
    |exact wpAny_pure hQ
    | (refine wpAny_bind (wpAny_load ho ?_)
       rw[hc,hd]
       show wpAny M A (if(["enumerate", "zip", "dict_itemiterator", "dict_reverseitemiterator", "odict_iterator", "itertools.zip_longest", "itertools.pairwise"].contains n&&vs[0]?==some (rawInt _))=true then _ else _) Q E s
       rw[if_neg (by intro h; rw[hn,Bool.false_and] at h; cases h)]
       exact wpAny_pure hQ))
def Itl (K:PySem.W.Frag) (a:Addr):It :=
 ⟨fun i H=>∃xs x,SqL K H a xs/\xs[i]?=some x,fun i H x H'=>H'=H/\∀xs,SqL K H a xs->xs[i]?=some x,fun i H=>∃xs,SqL K H a xs/\xs.length<=i⟩
def Itt (K:PySem.W.Frag) (a:Addr):It :=
 ⟨fun i H=>∃xs x,SqT K H a xs/\xs[i]?=some x,fun i H x H'=>H'=H/\∀xs,SqT K H a xs->xs[i]?=some x,fun i H=>∃xs,SqT K H a xs/\xs.length<=i⟩
def Itr (lo:Int) (n:Nat):It:=⟨fun i _=>i<n,fun i H x H'=>H'=H/\x=.int (lo+i),fun i _=>n<=i⟩
theorem Xj {P:Program} {w:World} {K:PySem.W.Frag} {tg:Expr} (a it:Addr):Turn P w K tg (Itl K a) [it] it (fun i h=>h.IsListIter it a i) where
 mem:=by simp
 obj:=fun i h st b hb=>by
  have e:b=it:=by simpa using hb
  subst e
  obtain⟨o,e,c,d⟩:=st
  exact⟨o,e,fun v z=>by rw[d] at z; cases z⟩
 keep:=fun i h h' st k=>st.at fun o e=>k it (by simp) o e
 item:=by
  intro X hP hw hK hc i pins s σ H E I hf st hg
  subst hP hw hK
  obtain⟨xs,x,hq,hx⟩:=hg
  obtain⟨its,rv,p,hz⟩:=I.list hq
  obtain⟨u,hu,ru⟩:=rv.get hx
  obtain⟨f0,f1,f2,f3,f4,f5⟩:=hf it (by simp)
  refine wpAny_pyNext_list_item st p.isList (x:=u) (by simpa using hu) fun h' st' sb=>?_
  have I1:Inv X pins σ H { s with heap:=h' }:=I.turned (t':=s.toks) (fun b o hb e=>(sb.2 b hb).trans e) f0 f1 f3 f4 f5
  obtain⟨o,e,c,d⟩:=id st'
  exact⟨u,rfl,go_of (s:={ s with heap:=h' }) e c d (by decide) ⟨x,H,I1,ru,⟨rfl,fun ys hy=>by rw[I.list_inj hy hq]; exact hx⟩,st',fun b hb=>(hf b hb).1⟩⟩
 done:=by
  intro X hP hw hK hc i pins s σ H E I hf st hg
  subst hP hw hK
  obtain⟨xs,hq,hx⟩:=hg
  obtain⟨its,rv,p,hz⟩:=I.list hq
  obtain⟨f0,f1,f2,f3,f4,f5⟩:=hf it (by simp)
  have hl:=rv.length
  exact wpAny_pyNext_list_end (I.ok.hd hc) st p.isList (by simp; omega) fun h' eb=>⟨rfl,I.turned (t':=s.toks) (fun b o hb e=>eb b o hb e) f0 f1 f3 f4 f5⟩
 self:=fun _ _ _ _ _ st h=>wpAny_pyIter_listiter st h
theorem Zl {P:Program} {w:World} {K:PySem.W.Frag} {tg:Expr} (a it:Addr):Turn P w K tg (Itt K a) [it] it (fun i h=>h.IsTupleIter it a i) where
 mem:=by simp
 obj:=fun i h st b hb=>by
  have e:b=it:=by simpa using hb
  subst e
  obtain⟨o,e,c,d⟩:=st
  exact⟨o,e,fun v z=>by rw[d] at z; cases z⟩
 keep:=fun i h h' st k=>st.at fun o e=>k it (by simp) o e
 item:=by
  intro X hP hw hK hc i pins s σ H E I hf st hg
  subst hP hw hK
  obtain⟨xs,x,hq,hx⟩:=hg
  obtain⟨its,rv,p,hz⟩:=I.tuple hq
  obtain⟨u,hu,ru⟩:=rv.get hx
  obtain⟨f0,f1,f2,f3,f4,f5⟩:=hf it (by simp)
  refine wpAny_pyNext_tuple_item st (show s.heap.IsTuple a its.toArray from p) (x:=u) (by simpa using hu) fun h' st' sb=>?_
  have I1:Inv X pins σ H { s with heap:=h' }:=I.turned (t':=s.toks) (fun b o hb e=>(sb.2 b hb).trans e) f0 f1 f3 f4 f5
  obtain⟨o,e,c,d⟩:=id st'
  exact⟨u,rfl,go_of (s:={ s with heap:=h' }) e c d (by decide) ⟨x,H,I1,ru,⟨rfl,fun ys hy=>by rw[I.tuple_inj hy hq]; exact hx⟩,st',fun b hb=>(hf b hb).1⟩⟩
 done:=by
  intro X hP hw hK hc i pins s σ H E I hf st hg
  subst hP hw hK
  obtain⟨xs,hq,hx⟩:=hg
  obtain⟨its,rv,p,hz⟩:=I.tuple hq
  obtain⟨f0,f1,f2,f3,f4,f5⟩:=hf it (by simp)
  have hl:=rv.length
  exact wpAny_pyNext_tuple_end (I.ok.hd hc) st (show s.heap.IsTuple a its.toArray from p) (by simp; omega) fun h' eb=>⟨rfl,I.turned (t':=s.toks) (fun b o hb e=>eb b o hb e) f0 f1 f3 f4 f5⟩
 self:=fun _ _ _ _ _ st h=>wpAny_pyIter_tupleiter st h
theorem Zm {P:Program} {w:World} {K:PySem.W.Frag} {tg:Expr} (it:Addr) (lo:Int) (n:Nat):Turn P w K tg (Itr lo n) [it] it (fun i h=>IsRangeIter h it (lo+(i:Nat)*1) ((n:Int)-(i:Nat)) 1) where
 mem:=by simp
 obj:=fun i h st b hb=>by
  have e:b=it:=by simpa using hb
  subst e
  exact⟨_,st,fun v z=>by
   have z':Data.fields _=Data.cell v:=z
   cases z'⟩
 keep:=fun i h h' st k=>k it (by simp) _ st
 item:=by
  intro X hP hw hK hc i pins s σ H E I hf st hg
  subst hP hw hK
  obtain⟨f0,f1,f2,f3,f4,f5⟩:=hf it (by simp)
  have W:=Walks.range (prog:=X.prog) (w:=X.w) (I.ok.hd hc) it lo 1 n
  refine W.item i s _ _ hg st fun v h' tk hv st' kk=>?_
  obtain⟨t,rfl⟩:=hv
  have I1:Inv X pins σ H { s with heap:=h',toks:=tk }:=I.turned (fun b o hb e=>kk b o (by simpa using hb) e) f0 f1 f3 f4 f5
  refine⟨_,rfl,go_of (s:={ s with heap:=h',toks:=tk }) (n := "range_iterator") st' rfl rfl (by decide) ⟨.int (lo+i),H,I1,⟨t, ?_⟩,⟨rfl,rfl⟩,st',fun b hb=>(hf b hb).1⟩⟩
  rw[Int.mul_one]
 done:=by
  intro X hP hw hK hc i pins s σ H E I hf st hg
  subst hP hw hK
  obtain⟨f0,f1,f2,f3,f4,f5⟩:=hf it (by simp)
  exact wpAny_pyNext_range_end (I.ok.hd hc) st (by have:n<=i:=hg; omega) fun h' eb=>⟨rfl,I.turned (t':=s.toks) (fun b o hb e=>eb b o hb e) f0 f1 f3 f4 f5⟩
 self:=fun _ _ _ _ _ st h=>wpAny_pyIter_rangeiter st h
section
variable {X:Cx} {tg:Expr}
def ZZ (K:PySem.W.Frag) (tl:TE):TI:=fun σ H R=>tl σ H fun x H1=>∃a,x=.ref a/\(∃xs,SqL K H1 a xs)/\R (Itl K a) H1
def iTup (K:PySem.W.Frag) (tl:TE):TI:=fun σ H R=>tl σ H fun x H1=>∃a,x=.ref a/\(∃xs,SqT K H1 a xs)/\R (Itt K a) H1
theorem pi_list {l:Expr} {tl:TE} (hl:PE X l tl):PI X tg l (ZZ X.K tl):=by
 intro pins s σ H R I h
 refine thn (hl pins s σ H _ I h) fun v s1 ⟨x,H1,I1,r1,q1⟩=>?_
 obtain⟨a,e,⟨xs,hq⟩,q⟩:=q1
 subst e
 cases r1
 obtain⟨its,rv,p,hz⟩:=I1.list hq
 refine wpAny_pyIter_list p.isList ?_
 refine⟨s1.heap.objs.size, [s1.heap.objs.size],_,_,H1,rfl,I1.kept (t':=s1.toks) fun b o e=>Heap.get?_push_of_some _ e,Xj a _,⟨_,Heap.get?_push_size _ rfl,rfl,rfl⟩,fun b hb=>?_,q⟩
 have e:b=s1.heap.objs.size:=by simpa using hb
 subst e
 exact I1.fpOk (Nat.le_refl _) (I1.hok.fresh (Nat.le_refl _))
theorem pi_tup {l:Expr} {tl:TE} (hl:PE X l tl):PI X tg l (iTup X.K tl):=by
 intro pins s σ H R I h
 refine thn (hl pins s σ H _ I h) fun v s1 ⟨x,H1,I1,r1,q1⟩=>?_
 obtain⟨a,e,⟨xs,hq⟩,q⟩:=q1
 subst e
 cases r1
 obtain⟨its,rv,p,hz⟩:=I1.tuple hq
 refine wpAny_pyIter_tuple (show s1.heap.IsTuple a its.toArray from p) ?_
 refine⟨s1.heap.objs.size, [s1.heap.objs.size],_,_,H1,rfl,I1.kept (t':=s1.toks) fun b o e=>Heap.get?_push_of_some _ e,Zl a _,⟨_,Heap.get?_push_size _ rfl,rfl,rfl⟩,fun b hb=>?_,q⟩
 have e:b=s1.heap.objs.size:=by simpa using hb
 subst e
 exact I1.fpOk (Nat.le_refl _) (I1.hok.fresh (Nat.le_refl _))
theorem VW {pins:List (Addr×Obj)} {σ:St} {H:Hp} {s:Shared} {R:It->Hp->Prop} {E:Value->Shared->Prop} {lo hi:Int} {t u v:Tok} {tk:Nat} (I:Inv X pins σ H s) (h1 : -(2^62)<=lo) (h2:lo<2^62) (h3 : -(2^62)<=hi) (h4:hi<2^62)
  (q:R (Itr lo (hi-lo).toNat) H):wpAny (model X.prog X.w) X.A (pyIter (.ref s.heap.objs.size)) (PIE X pins σ tg R) E { s with heap:=s.heap.push { cls:=.type "range", data:=.fields #[.int lo t, .int hi u, .int 1 v] },toks:=tk }:=by
 refine wpAny_pyIter_range (IsRange.new ..) (small_one h1 h2 h3 h4) ?_
 have I1:Inv X pins σ H { s with heap:=s.heap.push { cls:=.type "range", data:=.fields #[.int lo t, .int hi u, .int 1 v] },toks:=tk }:=I.kept fun b o e=>Heap.get?_push_of_some _ e
 refine⟨(s.heap.push { cls:=.type "range", data:=.fields #[.int lo t, .int hi u, .int 1 v] }).objs.size, [(s.heap.push { cls:=.type "range", data:=.fields #[.int lo t, .int hi u, .int 1 v] }).objs.size],_,_,H,rfl,
  I1.kept (t':=tk) fun b o e=>Heap.get?_push_of_some _ e,Zm _ lo (hi-lo).toNat, ?_,fun b hb=>?_,q⟩
 ·have e1:lo+((0:Nat):Int)*1=lo:=by simp
  have e2:(((hi-lo).toNat:Nat):Int)-((0:Nat):Int)=Builtin.Range.rangeSize lo hi 1:=by rw[rangeSize_one]; split<;>omega
  show IsRangeIter _ _ (lo+((0:Nat):Int)*1) ((((hi-lo).toNat:Nat):Int)-((0:Nat):Int)) 1
  rw[e1,e2]
  exact Heap.get?_push_size _ rfl
 ·have e:b=(s.heap.push { cls:=.type "range", data:=.fields #[.int lo t, .int hi u, .int 1 v] }).objs.size:=by simpa using hb
  subst e
  exact I1.fpOk (Nat.le_refl _) (I1.hok.fresh (Nat.le_refl _))
def Ju (ta:TA):TI:=fun σ H R=>ta σ H fun vs H1=>∃j:Int,vs=[.int j] /\ -(2^62)<=j/\j<2^62/\R (Itr 0 j.toNat) H1
def iRng2 (ta:TA):TI:=fun σ H R=>ta σ H fun vs H1=>∃i j:Int,vs=[.int i, .int j]/\(-(2^62)<=i/\i<2^62 /\ -(2^62)<=j/\j<2^62)/\R (Itr i (j-i).toNat) H1
theorem XJ {a:Expr} {ta:TA} {p pos:Pos} (hg:Gl X "range") (hm:X.mg "range" = none) (ha:PA X [a] ta) (hs:starEach [a] X.env=[(false,eval a X.env)]:=by rfl):PI X tg (.Call (.Name "range" p) [a] [] pos) (Ju ta):=by
 intro pins s σ H R I h
 refine Call_ (xj I hg hm boot_range (PyProof.Rows.callWith_type1 (thn (ha pos pins s σ H _ I h) fun us s1 ⟨vs,H1,I1,r1,q1⟩=>?_) hs rfl))
 obtain⟨j,e,q1,q2,q⟩:=q1
 subst e
 cases r1 with
 |cons r rr =>
  cases rr
  obtain⟨t,rfl⟩:=r
  exact call_range_1 (VW I1 (by omega) (by omega) q1 q2 (by simpa using q))
theorem XI {a b:Expr} {ta:TA} {p pos:Pos} (hg:Gl X "range") (hm:X.mg "range" = none) (ha:PA X [a,b] ta) (hs:starEach [a,b] X.env=[(false,eval a X.env),(false,eval b X.env)]:=by rfl) (hs2:starEach [b] X.env=[(false,eval b X.env)]:=by rfl) :
  PI X tg (.Call (.Name "range" p) [a,b] [] pos) (iRng2 ta):=by
 intro pins s σ H R I h
 refine Call_ (xj I hg hm boot_range (PyProof.Rows.callWith_type1 (thn (ha pos pins s σ H _ I h) fun us s1 ⟨vs,H1,I1,r1,q1⟩=>?_) (by rw[hs,hs2]) (by rw[hs2]; rfl)))
 obtain⟨i,j,e,⟨q1,q2,q3,q4⟩,q⟩:=q1
 subst e
 cases r1 with
 |cons r rr =>
  cases rr with
  |cons r' rr =>
   cases rr
   obtain⟨t,rfl⟩:=r
   obtain⟨t',rfl⟩:=r'
   exact call_range_2 (VW I1 q1 q2 q3 q4 q)
def tFor (wi:TI) (g:TG) (tb:TS):TS:=fun D σ H=>wi σ H fun J H1=>∃W:Nat->Nat->St->Hp->Prop,(∃m,W 0 m σ H1)/\∀i m σ H,W i m σ H ->
 (J.stop i H/\D.nx σ H)\/(J.go i H/\∃N:St->Hp->Prop,(∀σ' H',N σ' H'->∃m',m'<m/\W (i+1) m' σ' H')/\∀x H',J.yld i H x H'->g x σ H' fun σ2 H2=>tb { D with nx:=N,ct:=N,bk:=D.nx } σ2 H2)
def Qn (fp:List Addr) (h:Heap):List (Addr×Obj):=fp.filterMap fun b=>(h.get? b).map fun o=>(b,o)
theorem zA {fp:List Addr} {h:Heap} {b:Addr} {o:Obj} (hb:b∈fp) (e:h.get? b=some o):(b,o)∈Qn fp h:=List.mem_filterMap.mpr ⟨b,hb,by rw[e]; rfl⟩
theorem XZ {fp:List Addr} {h:Heap} {p:Addr×Obj} (hp:p∈Qn fp h):p.1∈fp/\h.get? p.1=some p.2:=by
 obtain⟨b,hb,e⟩:=List.mem_filterMap.mp hp
 cases q:h.get? b with
 |none=>rw[q] at e; cases e
 |some o =>
  rw[q] at e
  have e':(b,o)=p:=Option.some.inj e
  subst e'
  exact⟨hb,q⟩
theorem Inv.pinned {pins:List (Addr×Obj)} {σ:St} {H:Hp} {s:Shared} {fp:List Addr} (I:Inv X pins σ H s) (hf:∀b∈fp,FpOk X pins H b) (ho:∀b∈fp,∃o,s.heap.get? b=some o/\∀v,o.data ≠ .cell v):Inv X (pins++Qn fp s.heap) σ H s :=
 I.pins_of fun p hp=>(List.mem_append.mp hp).elim (fun z=>I.pin p (List.mem_append_right _ z)) fun z=>by
  obtain⟨hb,e⟩:=XZ z
  obtain⟨f0,f1,f2,_⟩:=hf p.1 hb
  obtain⟨o,e',d⟩:=ho p.1 hb
  rw[e] at e'; cases e'
  exact⟨e,f0,f1,f2,d⟩
theorem Inv.unpinned {pins pl:List (Addr×Obj)} {σ:St} {H:Hp} {s:Shared} (I:Inv X (pins++pl) σ H s):Inv X pins σ H s:=I.pins_of fun p hp=>I.pin p (List.mem_append_right _ (List.mem_append_left _ hp))
theorem ps_for {iter:Expr} {body:List Stmt} {wi:TI} {g:TG} {tb:TS} {pos:Pos} (hp:PassesOwn (model X.prog X.w) X.A X.env X.xe) (hc:X.calm=true) (hi:PI X tg iter wi) (hg:PG X tg g) (hb:PSs X body tb)
  (hs:∀x,foldedSetIterable iter X.env x=pure x:=by intro _; rfl):PS X (.For tg iter body [] pos) (tFor wi g tb):=by
 intro pins s σ H D I h
 refine wpAny_For (thn (hi pins s σ H _ I h) fun v s1 h1=>thn h1 fun itv s2 h2=>?_) hs
 obtain⟨it,fp,tn,J,H2,e,I2,T,st2,f2,W,⟨m0,w0⟩,turn⟩:=h2
 subst e
 -- what stays true of the iterator's objects through the loop
 have stat:∀{H':Hp},(∀b∈fp,H' b=none)->∀b∈fp,FpOk X pins H' b:=fun hn b hb=>⟨hn b hb,(f2 b hb).2⟩
 refine codeAny_forLoop_any (fun n s'=>∃i σ' H',Inv X pins σ' H' s'/\tn i s'.heap/\(∀b∈fp,H' b=none)/\W i n σ' H') ?_ m0 ⟨0,σ,H2,I2,st2,fun b hb=>(f2 b hb).1,w0⟩
 rintro n s3 ⟨i,σ3,H3,I3,st3,fr3,w3⟩
 rcases turn i n σ3 H3 w3 with⟨stop,qn⟩|⟨go,N,hN,step⟩
 ·refine wpAny_passesOwn hp (thn (T.done X rfl rfl rfl hc i pins s3 σ3 H3 X.xe I3 (stat fr3) st3 stop) fun r s4 ⟨hr,I4⟩=>?_)
  subst hr
  exact wpAny_execs_nil ⟨σ3,H3,I4,qn⟩
 ·refine wpAny_passesOwn hp (thn (T.item X rfl rfl rfl hc i pins s3 σ3 H3 X.xe I3 (stat fr3) st3 go) fun r s4 ⟨u,hr,h4⟩=>?_)
  subst hr
  refine wpAny_passesOwn hp (thn h4 fun _ s5 ⟨x,H5,I5,r5,y5,st5,fr5⟩=>?_)
  have I5':=I5.pinned (stat fr5) (T.obj _ _ st5)
  refine wpAny_passesOwn hp (thn (hg _ s5 σ3 H5 x u _ I5' r5 (step x H5 y5)) fun _ s6 ⟨σ6,H6,I6,q6⟩=>?_)
  refine wpAny_passesOwn hp (thn (hb _ s6 σ6 H6 _ I6 q6) fun f s7 q7=>?_)
  have again:∀{σ7:St} {H7:Hp},Inv X (pins++Qn fp s5.heap) σ7 H7 s7->N σ7 H7->∃m,m<n/\∃i σ' H',Inv X pins σ' H' s7/\tn i s7.heap/\(∀b∈fp,H' b=none)/\W i m σ' H':=fun {σ7 H7} I7 n7=>by
   obtain⟨m',hm,w7⟩:=hN σ7 H7 n7
   refine⟨m',hm,i+1,σ7,H7,I7.unpinned,T.keep _ _ _ st5 fun b hb o e=>(I7.pin (b,o) (List.mem_append_right _ (List.mem_append_right _ (zA hb e)))).1,fun b hb=>?_,w7⟩
   obtain⟨o,e,d⟩:=T.obj _ _ st5 b hb
   exact(I7.pin (b,o) (List.mem_append_right _ (List.mem_append_right _ (zA hb e)))).2.1
  cases f with
  |next=>obtain⟨σ7,H7,I7,n7⟩:=q7; exact again I7 n7
  |cont=>obtain⟨σ7,H7,I7,n7⟩:=q7; exact again I7 n7
  |brk=>obtain⟨σ7,H7,I7,q7⟩:=q7; exact⟨σ7,H7,I7.unpinned,q7⟩
  |ret v=>obtain⟨x7,σ7,H7,I7,r7,q7⟩:=q7; exact⟨x7,σ7,H7,I7.unpinned,r7,q7⟩
end
theorem for_list {K:PySem.W.Frag} {a:Addr} {xs:List V} {g:TG} {tb:TS} {D:Ends} {σ:St} {H:Hp} (Pv:Nat->St->Hp->Prop) (h0:Pv 0 σ H) (hl:∀i σ H,i<=xs.length->Pv i σ H->SqL K H a xs)
  (hs:∀i x σ H,xs[i]?=some x->Pv i σ H->g x σ H fun σ2 H2=>tb { D with nx:=Pv (i+1),ct:=Pv (i+1),bk:=D.nx } σ2 H2) (hd:∀σ H,Pv xs.length σ H->D.nx σ H) :
  ∃W:Nat->Nat->St->Hp->Prop,(∃m,W 0 m σ H)/\∀i m σ H,W i m σ H ->
   ((Itl K a).stop i H/\D.nx σ H)\/((Itl K a).go i H/\∃N:St->Hp->Prop,(∀σ' H',N σ' H'->∃m',m'<m/\W (i+1) m' σ' H')/\∀x H',(Itl K a).yld i H x H'->g x σ H' fun σ2 H2=>tb { D with nx:=N,ct:=N,bk:=D.nx } σ2 H2):=by
 refine⟨fun i m σ H=>m=xs.length-i/\i<=xs.length/\Pv i σ H,⟨xs.length,by simp,Nat.zero_le _,h0⟩, ?_⟩
 rintro i m σ H ⟨rfl,hi,p⟩
 have q:=hl i σ H hi p
 by_cases hlt:i<xs.length
 ·refine .inr ⟨⟨xs,xs[i],q,by simp[hlt]⟩,Pv (i+1),fun σ' H' p'=>⟨xs.length-(i+1),by omega,rfl,hlt,p'⟩,fun x H' y=>?_⟩
  obtain⟨e,y⟩:=y
  subst e
  exact hs i x σ _ (y xs q) p
 ·have e:i=xs.length:=by omega
  subst e
  exact .inl ⟨⟨xs,q,Nat.le_refl _⟩,hd σ H p⟩
abbrev R2:=V->V->Hp->VK->Prop
def OpR (X:Cx) (f:Value->Value->Sem Value) (r:R2):Prop :=
 ∀(pins:List (Addr×Obj)) (s:Shared) (σ:St) (H:Hp) (x y:V) (v u:Value) (Q:VK),Inv X pins σ H s->RelV x v->RelV y u->r x y H Q ->
  wpAny (model X.prog X.w) X.A (f v u) (EP X pins σ Q) X.xe s
def zY (X:Cx) (f:Value) (r:List V->Hp->VK->Prop):Prop :=
 ∀(pins:List (Addr×Obj)) (s:Shared) (σ:St) (H:Hp) (xs:List V) (us:List Value) (Q:VK),Inv X pins σ H s->Vals xs us->r xs H Q ->
  wpAny (model X.prog X.w) X.A (call f us) (EP X pins σ Q) X.xe s
def TruR (X:Cx) (r:V->Hp->(Bool->Hp->Prop)->Prop):Prop :=
 ∀(pins:List (Addr×Obj)) (s:Shared) (σ:St) (H:Hp) (x:V) (v:Value) (Q:Bool->Hp->Prop),Inv X pins σ H s->RelV x v->r x H Q ->
  wpAny (model X.prog X.w) X.A (truthy v) (TP X pins σ Q) X.xe s
def tOp (r:R2) (ta tb:TE):TE:=fun σ H Q=>ta σ H fun x H1=>tb σ H1 fun y H2=>r x y H2 Q
def tUn (r:V->Hp->VK->Prop) (ta:TE):TE:=fun σ H Q=>ta σ H fun x H1=>r x H1 Q
def rI (C:Int->Int->Prop) (g:Int->Int->V):R2:=fun x y H Q=>∃i j,x=.int i/\y=.int j/\C i j/\Q (g i j) H
def rI0 (g:Int->Int->V):R2:=fun x y H Q=>∃i j,x=.int i/\y=.int j/\Q (g i j) H
def rU (g:Int->V):V->Hp->VK->Prop:=fun x H Q=>∃i,x=.int i/\Q (g i) H
section
variable {X:Cx} {a b:Expr} {ta tb:TE} {pos:Pos}
theorem binT (ha:PE X a ta) (hb:PE X b tb) {pins:List (Addr×Obj)} {s:Shared} {σ:St} {H:Hp} {R:V->V->Hp->Prop} (I:Inv X pins σ H s)
  (h:ta σ H fun x H1=>tb σ H1 fun y H2=>R x y H2) {Q:Value->Shared->Prop} {f:Value->Value->Sem Value}
  (hf:∀v u s2 x y H2,Inv X pins σ H2 s2->RelV x v->RelV y u->R x y H2->wpAny (model X.prog X.w) X.A (f v u) Q X.xe s2) :
  wpAny (model X.prog X.w) X.A (eval a X.env) (fun v s₁=>wpAny (model X.prog X.w) X.A (eval b X.env) (fun u s₂=>wpAny (model X.prog X.w) X.A (f v u) Q X.xe s₂) X.xe s₁) X.xe s:=by
 refine thn (ha pins s σ H _ I h) fun v s1 ⟨x,H1,I1,r1,q1⟩=>?_
 refine thn (hb pins s1 σ H1 _ I1 q1) fun u s2 ⟨y,H2,I2,r2,q2⟩=>?_
 exact hf v u s2 x y H2 I2 r1 r2 q2
theorem pe_op {op:Operator} {r:R2} (ho:OpR X (binaryOp op) r) (ha:PE X a ta) (hb:PE X b tb):PE X (.BinOp a op b pos) (tOp r ta tb):=by
 intro pins s σ H Q I h
 exact wpAny_BinOp (binT ha hb I h fun v u s2 x y H2 I2 rx ry q=>ho pins s2 σ H2 x y v u Q I2 rx ry q)
theorem opI {f:Value->Value->Sem Value} {C:Int->Int->Prop} {g:Int->Int->Int}
  (rule:∀(i j:Int) (t u:Tok) (s:Shared) (Q:Value->Shared->Prop) (E:Value->Shared->Prop),C i j->Q (.int (g i j) s.toks) { s with toks:=s.toks+1 }->wpAny (model X.prog X.w) X.A (f (.int i t) (.int j u)) Q E s) :
  OpR X f (rI C fun i j=>.int (g i j)):=by
 intro pins s σ H x y v u Q I rx ry h
 obtain⟨i,j,rfl,rfl,hc,q⟩:=h
 obtain⟨t,rfl⟩:=rx
 obtain⟨t',rfl⟩:=ry
 exact rule i j t t' s _ _ hc ⟨.int (g i j),H,I.tok _,⟨_,rfl⟩,q⟩
theorem opI0 {f:Value->Value->Sem Value} {g:Int->Int->Int}
  (rule:∀(i j:Int) (t u:Tok) (s:Shared) (Q:Value->Shared->Prop) (E:Value->Shared->Prop),Q (.int (g i j) s.toks) { s with toks:=s.toks+1 }->wpAny (model X.prog X.w) X.A (f (.int i t) (.int j u)) Q E s) :
  OpR X f (rI0 fun i j=>.int (g i j)):=by
 intro pins s σ H x y v u Q I rx ry h
 obtain⟨i,j,rfl,rfl,q⟩:=h
 obtain⟨t,rfl⟩:=rx
 obtain⟨t',rfl⟩:=ry
 exact rule i j t t' s _ _ ⟨.int (g i j),H,I.tok _,⟨_,rfl⟩,q⟩
theorem opB0 {f:Value->Value->Sem Value} {g:Int->Int->Bool}
  (rule:∀(i j:Int) (t u:Tok) (s:Shared) (Q:Value->Shared->Prop) (E:Value->Shared->Prop),Q (.bool (g i j)) s->wpAny (model X.prog X.w) X.A (f (.int i t) (.int j u)) Q E s) :
  OpR X f (rI0 fun i j=>.bl (g i j)):=by
 intro pins s σ H x y v u Q I rx ry h
 obtain⟨i,j,rfl,rfl,q⟩:=h
 obtain⟨t,rfl⟩:=rx
 obtain⟨t',rfl⟩:=ry
 exact rule i j t t' s _ _ ⟨.bl (g i j),H,I,rfl,q⟩
def CPow (i j:Int):Prop:=0<=j/\j<=1000000/\i.natAbs<2^64
def CMul (i j:Int):Prop:=(-(2^64)<i/\i<2^64)\/(-(2^64)<j/\j<2^64)
theorem CMul.ok {i j:Int} (h:CMul i j):IntMulOk i j:=by
 rcases h with⟨h1,h2⟩|⟨h1,h2⟩
 ·exact .of_left (intBits_le_64 h1 h2)
 ·exact .of_right (intBits_le_64 h1 h2)
theorem vk:OpR X (binaryOp .Add) (rI0 fun i j=>.int (i+j)):=opI0 fun _ _ _ _ _ _ _ q=>add_int q
theorem za:OpR X (binaryOp .Sub) (rI0 fun i j=>.int (i-j)):=opI0 fun _ _ _ _ _ _ _ q=>sub_int q
theorem jG:OpR X (binaryOp .Mult) (rI CMul fun i j=>.int (i*j)):=opI fun _ _ _ _ _ _ _ hc q=>mul_int q hc.ok
theorem xh:OpR X (binaryOp .Mod) (rI (fun _ j=>0<j) fun i j=>.int (i % j)):=opI fun i j _ _ _ _ _ hc q=>by
 have h1:(0:Int)<j:=hc
 exact mod_int' (by omega) (by rw[Int.fmod_eq_emod_of_nonneg i (by omega)]; exact q)
theorem XV:OpR X (binaryOp .Pow) (rI CPow fun i j=>.int (i^j.toNat)):=opI fun _ _ _ _ _ _ _ hc q=>pow_int_small hc.1 hc.2.1 hc.2.2 q
theorem xg:OpR X (binaryOp .LShift) (rI CPow fun i j=>.int (i*2^j.toNat)):=opI fun _ _ _ _ _ _ _ hc q=>lshift_int_small hc.1 hc.2.1 hc.2.2 q
theorem op_xor:OpR X (binaryOp .BitXor) (rI0 fun i j=>.int (Builtin.bitXor i j)):=opI0 fun _ _ _ _ _ _ _ q=>xor_int q
end
def scal:V->V->Bool
 |.non, .non=>true | .non, .int _=>true | .int _, .non=>true | .non, .bl _=>true | .bl _, .non=>true | .non, .str _=>true | .str _, .non=>true
 |.int _, .int _=>true | .bl _, .bl _=>true | .str _, .str _=>true | .byt _, .byt _=>true
 |.int _, .str _=>true | .str _, .int _=>true | .bl _, .str _=>true | .str _, .bl _=>true
 |_,_=>false
def rEq:R2:=fun x y H Q=>scal x y=true/\Q (.bl (decide (x=y))) H
def rNe:R2:=fun x y H Q=>scal x y=true/\Q (.bl (!decide (x=y))) H
theorem JB {i j:Int}:decide (V.int i=V.int j)=(i==j):=by
 rw[Bool.eq_iff_iff]
 simp
theorem dec_bl {i j:Bool}:decide (V.bl i=V.bl j)=(i==j):=by
 rw[Bool.eq_iff_iff]
 simp
theorem JA {i j:Str}:decide (V.str i=V.str j)=(i==j):=by
 rw[Bool.eq_iff_iff]
 simp
theorem JC {i j:Array UInt8}:decide (V.byt i=V.byt j)=(i.toList==j.toList):=by
 rw[Bool.eq_iff_iff]
 cases i
 cases j
 simp
section
variable {X:Cx} {a b c:Expr} {ta tb tc:TE} {pos:Pos}
theorem qN {pins:List (Addr×Obj)} {σ:St} {H:Hp} {s:Shared} {Q:VK} {k k':Bool} (I:Inv X pins σ H s) (q:Q (.bl k) H) (e:k=k'):EP X pins σ Q (.bool k') s:=by
 subst e
 exact⟨.bl k,H,I,rfl,q⟩
theorem Vn:OpR X (compareOp .Eq) rEq:=by
 intro pins s σ H x y v u Q I rx ry h
 obtain⟨hs,q⟩:=h
 cases x with
 |non =>
  cases rx
  cases y with
  |non=>cases ry; exact PySem.EqNone.eq_none_none (qN I q (by simp))
  |bl j=>cases ry; exact PySem.EqNone.eq_none_bool (qN I q (by simp))
  |int j=>obtain⟨t',rfl⟩:=ry; exact PySem.EqNone.eq_none_int (qN I q (by simp))
  |str j=>obtain⟨t',rfl⟩:=ry; exact PySem.EqNone.eq_none_str (qN I q (by simp))
  |_=>exact absurd (show false=true from hs) Bool.false_ne_true
 |bl i =>
  cases rx
  cases y with
  |non=>cases ry; exact PySem.EqNone.eq_bool_none (qN I q (by simp))
  |bl j=>cases ry; exact eq_bool (qN I q dec_bl)
  |str j=>obtain⟨t',rfl⟩:=ry; exact PySem.EqMixed.eq_bool_str (qN I q (by simp))
  |_=>exact absurd (show false=true from hs) Bool.false_ne_true
 |int i =>
  obtain⟨t,rfl⟩:=rx
  cases y with
  |non=>cases ry; exact PySem.EqNone.eq_int_none (qN I q (by simp))
  |int j=>obtain⟨t',rfl⟩:=ry; exact eq_int (qN I q JB)
  |str j=>obtain⟨t',rfl⟩:=ry; exact PySem.EqMixed.eq_int_str (qN I q (by simp))
  |_=>exact absurd (show false=true from hs) Bool.false_ne_true
 |str i =>
  obtain⟨t,rfl⟩:=rx
  cases y with
  |non=>cases ry; exact PySem.EqNone.eq_str_none (qN I q (by simp))
  |bl j=>cases ry; exact PySem.EqMixed.eq_str_bool (qN I q (by simp))
  |int j=>obtain⟨t',rfl⟩:=ry; exact PySem.EqMixed.eq_str_int (qN I q (by simp))
  |str j=>obtain⟨t',rfl⟩:=ry; exact eq_str (qN I q JA)
  |_=>exact absurd (show false=true from hs) Bool.false_ne_true
 |byt i =>
  obtain⟨t,rfl⟩:=rx
  cases y with
  |byt j=>obtain⟨t',rfl⟩:=ry; exact PySem.W.eq_bytes (qN I q JC)
  |_=>exact absurd (show false=true from hs) Bool.false_ne_true
 |_=>cases y<;>exact absurd (show false=true from hs) Bool.false_ne_true
theorem XW:OpR X (compareOp .NotEq) rNe:=by
 intro pins s σ H x y v u Q I rx ry h
 obtain⟨hs,q⟩:=h
 cases x with
 |non =>
  cases rx
  cases y with
  |non=>cases ry; exact PySem.EqNone.ne_none_none (qN I q (by simp))
  |bl j=>cases ry; exact PySem.EqNone.ne_none_bool (qN I q (by simp))
  |int j=>obtain⟨t',rfl⟩:=ry; exact PySem.EqNone.ne_none_int (qN I q (by simp))
  |str j=>obtain⟨t',rfl⟩:=ry; exact PySem.EqNone.ne_none_str (qN I q (by simp))
  |_=>exact absurd (show false=true from hs) Bool.false_ne_true
 |bl i =>
  cases rx
  cases y with
  |non=>cases ry; exact PySem.EqNone.ne_bool_none (qN I q (by simp))
  |bl j=>cases ry; exact ne_bool (qN I q (congrArg not dec_bl))
  |str j=>obtain⟨t',rfl⟩:=ry; exact PySem.EqMixed.ne_bool_str (qN I q (by simp))
  |_=>exact absurd (show false=true from hs) Bool.false_ne_true
 |int i =>
  obtain⟨t,rfl⟩:=rx
  cases y with
  |non=>cases ry; exact PySem.EqNone.ne_int_none (qN I q (by simp))
  |int j=>obtain⟨t',rfl⟩:=ry; exact ne_int (qN I q (congrArg not JB))
  |str j=>obtain⟨t',rfl⟩:=ry; exact PySem.EqMixed.ne_int_str (qN I q (by simp))
  |_=>exact absurd (show false=true from hs) Bool.false_ne_true
 |str i =>
  obtain⟨t,rfl⟩:=rx
  cases y with
  |non=>cases ry; exact PySem.EqNone.ne_str_none (qN I q (by simp))
  |bl j=>cases ry; exact PySem.EqMixed.ne_str_bool (qN I q (by simp))
  |int j=>obtain⟨t',rfl⟩:=ry; exact PySem.EqMixed.ne_str_int (qN I q (by simp))
  |str j=>obtain⟨t',rfl⟩:=ry; exact ne_str (qN I q (congrArg not JA))
  |_=>exact absurd (show false=true from hs) Bool.false_ne_true
 |byt i =>
  obtain⟨t,rfl⟩:=rx
  cases y with
  |byt j=>obtain⟨t',rfl⟩:=ry; exact PySem.W.ne_bytes (qN I q (congrArg not JC))
  |_=>exact absurd (show false=true from hs) Bool.false_ne_true
 |_=>cases y<;>exact absurd (show false=true from hs) Bool.false_ne_true
theorem Zu:OpR X (compareOp .Lt) (rI0 fun i j=>.bl (decide (i<j))):=opB0 fun _ _ _ _ _ _ _ q=>lt_int q
theorem Vm:OpR X (compareOp .LtE) (rI0 fun i j=>.bl (decide (i<=j))):=opB0 fun _ _ _ _ _ _ _ q=>le_int q
theorem op_gt:OpR X (compareOp .Gt) (rI0 fun i j=>.bl (decide (j<i))):=opB0 fun _ _ _ _ _ _ _ q=>gt_int q
theorem op_ge:OpR X (compareOp .GtE) (rI0 fun i j=>.bl (decide (j<=i))):=opB0 fun _ _ _ _ _ _ _ q=>ge_int q
theorem Vl:OpR X (compareOp .IsNot) (fun x y H Q=>y=.non/\Q (.bl (!decide (x=.non))) H):=by
 intro pins s σ H x y v u Q I rx ry h
 obtain⟨rfl,q⟩:=h
 cases ry
 refine isnot_none_gen (qN I q ?_)
 cases x<;>first
  | (cases rx; rfl)
  | (obtain⟨t,rfl⟩:=rx; rfl)
theorem qQ (b:Expr) {op:CmpOp} (h:op ≠ .In:=by decide) (h2:op ≠ .NotIn:=by decide):behindInMarks op b=false:=by
 have e1:(op==CmpOp.In)=false:=by cases op<;>first|rfl|exact absurd rfl h
 have e2:(op==CmpOp.NotIn)=false:=by cases op<;>first|rfl|exact absurd rfl h2
 cases b<;>simp[behindInMarks,e1,e2]
theorem pe_cmpR {op:CmpOp} {r:R2} (ho:OpR X (compareOp op) r) (ha:PE X a ta) (hb:PE X b tb) (hm:behindInMarks op b=false):PE X (.Compare a [op] [b] pos) (tOp r ta tb):=by
 intro pins s σ H Q I h
 exact wpAny_Compare1 (binT ha hb I h fun v u s2 x y H2 I2 rx ry q=>ho pins s2 σ H2 x y v u Q I2 rx ry q) hm
def xS (t:TE):TT:=fun σ H Q=>t σ H fun x H'=>∃k,x=.bl k/\Q k H'
theorem pt_cmpR {op:CmpOp} {r:R2} (ho:OpR X (compareOp op) r) (ha:PE X a ta) (hb:PE X b tb) (hm:behindInMarks op b=false):PT X (.Compare a [op] [b] pos) (xS (tOp r ta tb)):=by
 intro pins s σ H Q I h
 refine wpAny_isTrue_Compare1 (thn (ha pins s σ H _ I h) fun v s1 ⟨x,H1,I1,r1,q1⟩=>thn (hb pins s1 σ H1 _ I1 q1) fun u s2 ⟨y,H2,I2,r2,q2⟩ =>
  thn (ho pins s2 σ H2 x y v u _ I2 r1 r2 q2) fun c s3 ⟨z,H3,I3,r3,k,e,q3⟩=>?_) hm
 subst e
 cases r3
 exact wpAny_truthy_bool ⟨H3,I3,q3⟩
def zJ (r r':R2) (ta tb tc:TE):TE:=fun σ H Q=>ta σ H fun x H1=>tb σ H1 fun y H2=>r x y H2 fun z H3=>∃k,z=.bl k /\
 (if k=true then tc σ H3 fun w' H4=>r' y w' H4 Q else Q (.bl false) H3)
theorem pe_chain {op op':CmpOp} {r r':R2} (ho:OpR X (compareOp op) r) (ho':OpR X (compareOp op') r') (ha:PE X a ta) (hb:PE X b tb) (hc:PE X c tc)
  (hm:lastMarks [op,op'] [b,c]=false:=by with_unfolding_all rfl):PE X (.Compare a [op,op'] [b,c] pos) (zJ r r' ta tb tc):=by
 intro pins s σ H Q I h
 refine Compare_chain (thn (ha pins s σ H _ I h) fun v s1 ⟨x,H1,I1,r1,q1⟩=>chain_link (thn (hb pins s1 σ H1 _ I1 q1) fun u s2 ⟨y,H2,I2,r2,q2⟩ =>
  thn (ho pins s2 σ H2 x y v u _ I2 r1 r2 q2) fun d s3 ⟨z,H3,I3,r3,k,e,q3⟩=>?_)) hm
 subst e
 cases r3
 refine wpAny_truthy_bool ?_
 cases k with
 |false=>exact ite_ff ⟨.bl false,H3,I3,rfl,q3⟩
 |true=>exact ite_tt (chain_last (thn (hc pins s3 σ H3 _ I3 q3) fun w' s4 ⟨z',H4,I4,r4,q4⟩=>ho' pins s4 σ H4 y z' u w' Q I4 r2 r4 q4))
theorem pt_chain {op op':CmpOp} {r r':R2} (ho:OpR X (compareOp op) r) (ho':OpR X (compareOp op') r') (ha:PE X a ta) (hb:PE X b tb) (hc:PE X c tc)
  (hm:lastMarks [op,op'] [b,c]=false:=by with_unfolding_all rfl):PT X (.Compare a [op,op'] [b,c] pos) (xS (zJ r r' ta tb tc)):=by
 intro pins s σ H Q I h
 refine isTrue_chain (thn (ha pins s σ H _ I h) fun v s1 ⟨x,H1,I1,r1,q1⟩=>test_link (thn (hb pins s1 σ H1 _ I1 q1) fun u s2 ⟨y,H2,I2,r2,q2⟩ =>
  thn (ho pins s2 σ H2 x y v u _ I2 r1 r2 q2) fun d s3 ⟨z,H3,I3,r3,k,e,q3⟩=>?_)) hm
 subst e
 cases r3
 refine wpAny_truthy_bool ?_
 cases k with
 |false =>
  obtain⟨k',e',q'⟩:=q3
  cases e'
  exact ite_ff ⟨H3,I3,q'⟩
 |true =>
  refine ite_tt (test_last (thn (hc pins s3 σ H3 _ I3 q3) fun w' s4 ⟨z',H4,I4,r4,q4⟩=>thn (ho' pins s4 σ H4 y z' u w' _ I4 r2 r4 q4) fun d' s5 ⟨z2,H5,I5,r5,k2,e2,q5⟩=>?_))
  subst e2
  cases r5
  exact wpAny_truthy_bool ⟨H5,I5,q5⟩
def TruV (K:PySem.W.Frag) (x:V) (H:Hp) (k:Bool):Prop :=
 match x with
 |.non=>k=false
 |.bl b=>k=b
 |.int i=>k=(i != 0)
 |.str y=>y.length<=sizeLine/\k=((y.length:Int) != 0)
 |.byt y=>y.size<=sizeLine/\k=((y.size:Int) != 0)
 |.ref p=>(∃xs,SqL K H p xs/\k = !xs.isEmpty)\/(∃xs,SqT K H p xs/\k = !xs.isEmpty)\/∃kvs,H p=some (.dK kvs)/\k = !kvs.isEmpty
 |_=>False
theorem ZY {κ:Type} {kvs:List (κ×V)} {vs:List (κ×Value)} (r:KV kvs vs):(!vs.isEmpty) = !kvs.isEmpty:=by
 cases r<;>rfl
theorem jJ {xs:List V} {its:List Value} (r:Vals xs its):(!its.toArray.isEmpty) = !xs.isEmpty:=by
 cases r<;>simp
theorem QM:(sizeLine:Nat)<2^63:=by rw[sizeLine_eq]; decide
theorem tru_ok:TruR X (fun x H Q=>∃k,TruV X.K x H k/\Q k H):=by
 intro pins s σ H x v Q I rx h
 obtain⟨k,e,q⟩:=h
 have hl:=QM
 have hs:sizeLine=16777216:=sizeLine_eq
 cases x with
 |non =>
  cases rx
  have e':k=false:=e
  subst e'
  exact truthy_none ⟨H,I,q⟩
 |bl b =>
  cases rx
  have e':k=b:=e
  subst e'
  exact wpAny_truthy_bool ⟨H,I,q⟩
 |int i =>
  obtain⟨t,rfl⟩:=rx
  have e':k=(i != 0):=e
  subst e'
  exact PySem.P.truthy_int ⟨H,I,q⟩
 |str y =>
  obtain⟨t,rfl⟩:=rx
  obtain⟨hy,e'⟩:y.length<=sizeLine/\k=((y.length:Int) != 0):=e
  subst e'
  exact PySem.P.truthy_str (by omega) ⟨H,I.tok _,q⟩
 |byt y =>
  obtain⟨t,rfl⟩:=rx
  obtain⟨hy,e'⟩:y.size<=sizeLine/\k=((y.size:Int) != 0):=e
  subst e'
  exact PySem.W.truthy_bytes (by omega) ⟨H,I.tok _,q⟩
 |ref p =>
  cases rx
  have e':(∃xs,SqL X.K H p xs/\k = !xs.isEmpty)\/(∃xs,SqT X.K H p xs/\k = !xs.isEmpty)\/∃kvs,H p=some (.dK kvs)/\k = !kvs.isEmpty:=e
  rcases e' with⟨xs,hx,e'⟩|⟨xs,hx,e'⟩|⟨kvs,hx,e'⟩
  ·subst e'
   obtain⟨its,r,pl,hz⟩:=I.list hx
   have hlen:=r.length
   exact wpAny_truthy_list pl.isList (by simp only[List.size_toArray]; omega) ⟨H,I.tok _,by rw[jJ r]; exact q⟩
  ·subst e'
   obtain⟨its,r,pl,hz⟩:=I.tuple hx
   have hlen:=r.length
   exact truthy_tuple pl (by simp only[List.size_toArray]; omega) ⟨H,I.tok _,by rw[jJ r]; exact q⟩
  ·subst e'
   obtain⟨hz,hS,vs,r,m⟩:kvs.length<=sizeLine/\(p==sysModules)=false/\∃vs,KV kvs vs/\s.heap.DictOf (qX X.prog X.w) p vs:=I.hok p _ hx
   have hlen:kvs.length=vs.length:=Paired.length r
   exact wpAny_truthy_dict hS m (by omega) ⟨H,I.tok _,by rw[ZY r]; exact q⟩
 |_=>exact(show False from e).elim
theorem pt_truth (ha:PE X a ta) (he:∀whole,isTrue a X.env whole=(do let v <-whole; standAt a.pos; holding [v] (truthy v))) :
  PT X a (fun σ H Q=>ta σ H fun x H'=>∃k,TruV X.K x H' k/\Q k H'):=by
 intro pins s σ H Q I h
 exact isTrue_plain (thn (ha pins s σ H _ I h) fun v s1 ⟨x,H1,I1,r1,q1⟩=>tru_ok pins s1 σ H1 x v Q I1 r1 q1) (he _)
theorem jP {x:V} {us:List Value} (r:Vals [x] us):∃u,us=[u]/\RelV x u:=by
 cases r with
 |cons r1 r2=>cases r2; exact⟨_,rfl,r1⟩
theorem vals2 {x y:V} {us:List Value} (r:Vals [x,y] us):∃u w',us=[u,w']/\RelV x u/\RelV y w':=by
 cases r with
 |cons r1 r2 =>
  cases r2 with
  |cons r3 r4=>cases r4; exact⟨_,_,rfl,r1,r3⟩
theorem call_abs:zY X (.builtin "abs") (fun xs H Q=>∃i,xs=[.int i]/\Q (.int (if i<0 then -i else i)) H):=by
 intro pins s σ H xs us Q I r h
 obtain⟨i,rfl,q⟩:=h
 obtain⟨u,rfl,t,rfl⟩:=jP r
 exact call_abs_int fun u tk=>⟨.int (if i<0 then -i else i),H,I.tok _,⟨_,rfl⟩,q⟩
theorem JO (hc:X.calm=true):zY X (.builtin "min") (fun xs H Q=>∃i j,xs=[.int i, .int j]/\Q (.int (if j<i then j else i)) H):=by
 intro pins s σ H xs us Q I r h
 obtain⟨i,j,rfl,q⟩:=h
 obtain⟨u,w',rfl,⟨t,rfl⟩,⟨t',rfl⟩⟩:=vals2 r
 refine min_two_ints (I.ok.hd hc) fun h' tk k=>⟨_,H,I.kept k, ?_,q⟩
 by_cases hj:j<i
 ·rw[if_pos hj,if_pos hj]; exact⟨_,rfl⟩
 ·rw[if_neg hj,if_neg hj]; exact⟨_,rfl⟩
theorem Q3:zY X (.type "int") (fun xs H Q=>(∃i,xs=[.int i]/\Q (.int i) H)\/∃k,xs=[.bl k]/\Q (.int (if k then 1 else 0)) H):=by
 intro pins s σ H xs us Q I r h
 rcases h with⟨i,rfl,q⟩|⟨k,rfl,q⟩
 ·obtain⟨u,rfl,t,rfl⟩:=jP r
  exact call_int_int ⟨.int i,H,I,⟨_,rfl⟩,q⟩
 ·obtain⟨u,rfl,r1⟩:=jP r
  cases r1
  exact call_int_bool ⟨.int (if k then 1 else 0),H,I.tok _,⟨_,rfl⟩,q⟩
end
theorem RelO.some_of {v:V} {o:Option Value} (r:RelO (some v) o):∃u,o=some u/\RelV v u:=by
 cases o with
 |none=>exact(show False from r).elim
 |some u=>exact⟨u,rfl,r⟩
structure Cls (K:PySem.W.Frag) (C:Addr):Prop where
 pg:PySem.W.plainGet K C Str.empty=true
 hd:PySem.W.hasDictIn K C=true
 po:PySem.W.plainOver K C=true
 sa:PySem.W.findIn K (.ref C) "__setattr__" = some (some (.builtin "object.__setattr__"))
def NoAttr (K:PySem.W.Frag) (C:Addr) (f:Str):Prop:=PySem.W.findIn K (.ref C) f=some none
section
variable {X:Cx} {pins:List (Addr×Obj)} {σ:St} {H:Hp} {s:Shared} {a C:Addr}
theorem Inv.made (I:Inv X pins σ H s):Inv X pins σ (upd (upd H s.heap.objs.size (.own (s.heap.objs.size+1))) (s.heap.objs.size+1) (.ins C s.heap.objs.size []))
  { s with heap:=(s.heap.push PySem.W.emptyDict).push (PySem.W.instObj C s.heap.objs.size) }:=by
 have e1:(s.heap.push PySem.W.emptyDict).get? s.heap.objs.size=some PySem.W.emptyDict:=Heap.get?_push_size s.heap rfl
 have e2:((s.heap.push PySem.W.emptyDict).push (PySem.W.instObj C s.heap.objs.size)).get? (s.heap.objs.size+1)=some (PySem.W.instObj C s.heap.objs.size):=by
  have:=Heap.get?_push_size (s.heap.push PySem.W.emptyDict) (o:=PySem.W.instObj C s.heap.objs.size) rfl
  rwa [Heap.size_push] at this
 have e3:(s.heap.push PySem.W.emptyDict).Ns s.heap.objs.size (fun _=>none):=⟨PySem.W.emptyDict, #[],_,e1,rfl,(fun e he=>absurd he (by simp)),fun _=>rfl⟩
 have I1:=I.laid (a:=s.heap.objs.size) (o:=.own (s.heap.objs.size+1)) (h':=s.heap.push PySem.W.emptyDict) (t':=s.toks) (fun b u q=>Heap.get?_push_of_some _ q) (Nat.le_refl _) ⟨_,e1⟩
 refine I1.laid (a:=s.heap.objs.size+1) (o:=.ins C s.heap.objs.size []) (t':=s.toks) (fun b u q=>Heap.get?_push_of_some _ q) (Nat.le_of_eq (Heap.size_push _ _)) ?_
 have ne:s.heap.objs.size≠s.heap.objs.size+1:=Nat.ne_of_lt (Nat.lt_succ_self _)
 refine⟨by rw[upd_ne ne,upd_same],Nat.zero_le _,ne,e2,fun _=>none,(Heap.Ns1.of_empty e3).at fun o q=>Heap.get?_push_of_some _ q,fun _=>True.intro,fun y hy=>absurd rfl hy⟩
end
structure Room (k:Nat) (A:Around):Prop where
 hd:A.handled=none
 dp:A.depth+3*k+5<recursionLimit
 un:A.units+16*k+200<cLine
 gd:A.guards=some []
theorem Room.mono {j k:Nat} {A:Around} (r:Room k A) (h:j<=k):Room j A:=⟨r.hd,by have:=r.dp; omega,by have:=r.un; omega,r.gd⟩
theorem Room.deeper {k:Nat} {A:Around} (r:Room (k+1) A) (env:Env):Room k (A.deeper env) :=
 ⟨r.hd,by have:=r.dp; show A.depth+1+3*k+5<_; omega,by have:=r.un; show A.units+3+16*k+200<_; omega,r.gd⟩
theorem Room.in1 {k:Nat} {A:Around} (r:Room (k+1) A):Room k A.in1 :=
 ⟨r.hd,by have:=r.dp; show A.depth+3*k+5<_; omega,by have:=r.un; show A.units+1+16*k+200<_; omega,r.gd⟩
theorem Room.depth {k:Nat} {A:Around} (r:Room k A):A.depth<recursionLimit:=by have:=r.dp; omega
theorem Room.units {k:Nat} {A:Around} (r:Room k A):A.units+64<cLine:=by have:=r.un; omega
def tNil:TA:=fun _ H Q=>Q [] H
def vo (ta:TE) (tr:TA):TA:=fun σ H Q=>ta σ H fun x H1=>tr σ H1 fun xs H2=>Q (x::xs) H2
section
variable {X:Cx} {e:Expr} {es:List Expr} {te:TE} {t:TA} {pos:Pos}
theorem XT:PA X [] tNil:=fun _ _ _ _ H Q I h=>Calls.spliced_nil ⟨[],H,I, .nil,h⟩
theorem kb (ha:PE X e te) (hr:PA X es t) (hs:starEach (e::es) X.env=(false,eval e X.env)::starEach es X.env:=by rfl):PA X (e::es) (vo te t):=by
 intro pos pins s σ H Q I h
 rw[hs]
 show wpAny _ _ (spliced ((false,eval e X.env)::backTo pos (starEach es X.env))) _ _ s
 refine Calls.spliced_cons (thn (ha pins s σ H _ I h) fun u s1 ⟨x,H1,I1,r1,q1⟩=>?_)
 exact thn (hr pos pins s1 σ H1 _ I1 q1) fun us s2 ⟨xs,H2,I2,r2,q2⟩=>⟨x::xs,H2,I2, .cons r1 r2,q2⟩
def tTup (t:TA):TE:=fun σ H Q=>t σ H fun xs H1=>xs.length<=sizeLine/\∀p,H1 p=none->Q (.ref p) (upd H1 p (.tup xs))
def tLst (t:TA):TE:=fun σ H Q=>t σ H fun xs H1=>xs.length<=sizeLine/\∀p,H1 p=none->Q (.ref p) (upd H1 p (.lst xs))
theorem pe_tup {x1} (h:PA X es t):PE X (.Tuple es x1 pos) (tTup t):=by
 intro pins s σ H Q I hq
 refine wpAny_Tuple_spliced (thn (h pos pins s σ H _ I hq) fun us s1 ⟨xs,H1,I1,r,z,q⟩=>⟨by rw[<-r.length]; exact z, ?_⟩)
 have hf:H1 s1.heap.objs.size=none:=I1.hok.fresh (Nat.le_refl _)
 refine⟨.ref s1.heap.objs.size,upd H1 s1.heap.objs.size (.tup xs),I1.laid (t':=s1.toks) (fun b u e=>Heap.get?_push_of_some _ e) (Nat.le_refl _) ?_,rfl,q _ hf⟩
 exact⟨z,us,r,⟨_,Heap.get?_push_size _ rfl,rfl,_,rfl⟩⟩
theorem pe_lst (h:PA X es t):PE X (.List es pos) (tLst t):=by
 intro pins s σ H Q I hq
 refine wpAny_List_spliced (thn (h pos pins s σ H _ I hq) fun us s1 ⟨xs,H1,I1,r,z,q⟩=>⟨by rw[<-r.length]; exact z, ?_⟩)
 have hf:H1 s1.heap.objs.size=none:=I1.hok.fresh (Nat.le_refl _)
 refine⟨.ref s1.heap.objs.size,upd H1 s1.heap.objs.size (.lst xs),I1.laid (t':=s1.toks) (fun b u e=>Heap.get?_push_of_some _ e) (Nat.le_refl _) ?_,rfl,q _ hf⟩
 exact⟨z,us,0,r,Heap.get?_push_size _ rfl⟩
end
abbrev Sp:=List V->Hp->VK->XK->Prop
abbrev CXT:=List Env->Hp->Shared->XK->Value->Shared->Prop
structure Env0 (P:Program) (w:World) (K:PySem.W.Frag) (mg:Str->Option Value) (base:Heap) (A:Around) (outer:List Env) (s:Shared) (H:Hp):Prop where
 frames:A.frames=some outer
 mod:Mod K mg base
 bs:∀b o,base.get? b=some o->s.heap.get? b=some o/\H b=none
 bsz:base.objs.size<=s.heap.objs.size
 funs:s.heap.FunFrames base outer
 frf:∀b∈frs outer,H b=none
 hok:HOk P w H s.heap
 bare:AllBare s.gens
def CE (outer:List Env) (P:Program) (w:World) (H:Hp) (s:Shared) (Q:VK) (u:Value) (s':Shared):Prop :=
 ∃v H',s'.os=s.os/\AllBare s'.gens/\Un (frs outer) [] H H' s.heap s'.heap/\HOk P w H' s'.heap/\RelV v u/\Q v H'
def CR (CX:CXT) (outer:List Env) (P:Program) (w:World) (H:Hp) (s:Shared) (Q:VK) (E:XK) (r:Result) (s':Shared):Prop :=
 match r with
 |.ok (.ret u)=>CE outer P w H s Q u s'
 |.ok _=>False
 |.error e=>CX outer H s E e s'
structure FnOk (P:Program) (w:World) (K:PySem.W.Frag) (mg:Str->Option Value) (base:Heap) (CX:CXT) (k:Nat) (f:Addr) (fd:FuncData) (ps:List Str) (sp:Sp):Prop where
 len:∀vs H Q E,sp vs H Q E->vs.length=ps.length
 run:∀(A:Around) (outer:List Env) (s:Shared) (H:Hp) (args:Args) (us:List Value) (vs:List V) (Q:VK) (E:XK),Room k A->Env0 P w K mg base A outer s H->BindsTo s fd args (ps.zip us)->Vals vs us->sp vs H Q E ->
  codeAny (model P w) A (.call (.ref f) args) (CR CX outer P w H s Q E) s
theorem FnOk.imp {P:Program} {w:World} {K:PySem.W.Frag} {mg:Str->Option Value} {base:Heap} {CX:CXT} {k:Nat} {f:Addr} {fd:FuncData} {ps:List Str} {sp sp':Sp} (F:FnOk P w K mg base CX k f fd ps sp)
  (h:∀vs H Q E,sp' vs H Q E->sp vs H Q E):FnOk P w K mg base CX k f fd ps sp' :=
 ⟨fun vs H Q E q=>F.len vs H Q E (h _ _ _ _ q),fun A outer s H args us vs Q E hr he hb hv hs=>F.run A outer s H args us vs Q E hr he hb hv (h _ _ _ _ hs)⟩
section
variable {X:Cx} {pins:List (Addr×Obj)} {σ:St} {H:Hp} {s s':Shared}
theorem Inv.env0 (I:Inv X pins σ H s):Env0 X.prog X.w X.K X.mg X.base X.A X.stack s H :=
 ⟨I.ok.frames,I.ok.mod,I.bs,Nat.le_trans I.ok.bsz I.sz,I.stack,I.stkFree,I.hok,I.bare⟩
theorem Inv.after {Q:VK} {u:Value} (I:Inv X pins σ H s) (h:CE X.stack X.prog X.w H s Q u s'):EP X pins σ Q u s':=by
 obtain⟨v,H',os,bare,un,hok,r,q⟩:=h
 obtain⟨hh,g,d,t,os'⟩:=s'
 obtain rfl:os'=s.os:=os
 exact⟨v,H',I.call (h':=hh) (g':=g) (d':=d) (t':=t) (ch:=[]) un hok bare (fun b z=>absurd z (by simp)),r,q⟩
end
def v3 (sp:Sp) (dvs:List V) (E:XK) (t:TA):TE:=fun σ H Q=>t σ H fun vs H1=>sp (vs++dvs) H1 Q E
def Binds (K:PySem.W.Frag) (fd:FuncData) (ps:List Str) (ds:List Value):Prop :=
 ∀(s:Shared) (us:List Value),K.In s.heap->(us++ds).length=ps.length->BindsTo s fd ⟨us, []⟩ (ps.zip (us++ds))
theorem Binds.all {K:PySem.W.Frag} {fd:FuncData} {ps:List Str} (h:∀us:List Value,us.length=ps.length->bindArgs fd ⟨us, []⟩=pure (ps.zip us)):Binds K fd ps []:=fun s us _ hl=>by
 rw[List.append_nil] at hl ⊢
 exact .of_eq (h us hl)
def Zj (CX:CXT) (X:Cx) (E:XK):Prop:=∀(pins:List (Addr×Obj)) (σ:St) (H:Hp) (s:Shared) (e:Value) (s':Shared),Inv X pins σ H s->CX X.stack H s E e s'->X.xe e s'
section
variable {X:Cx} {CX:CXT} {k:Nat} {f:Addr} {fd:FuncData} {ps:List Str} {sp:Sp} {dvs:List V} {ds:List Value} {E:XK} {x:Str} {p pos:Pos} {e:Expr} {es:List Expr} {t:TA}
theorem run_fn {pins:List (Addr×Obj)} {σ:St} {H:Hp} {s:Shared} {Q:VK} {us:List Value} {vs:List V} (F:FnOk X.prog X.w X.K X.mg X.base CX k f fd ps sp) (hr:Room k X.A) (hb:Binds X.K fd ps ds) (hd:Vals dvs ds) (hx:Zj CX X E)
  (I:Inv X pins σ H s) (r:Vals vs us) (h:sp (vs++dvs) H Q E):wpAny (model X.prog X.w) X.A (call (.ref f) us) (EP X pins σ Q) X.xe s:=by
 have r2:Vals (vs++dvs) (us++ds):=r.append hd
 have hl:(us++ds).length=ps.length:=by rw[<-r2.length]; exact F.len _ _ _ _ h
 refine wpAny_call (codeAny_mono (F.run X.A X.stack s H ⟨us, []⟩ (us++ds) (vs++dvs) Q E hr I.env0 (hb s us I.kIn hl) r2 h) fun r s' hq=>?_)
 cases r with
 |error e=>exact hx pins σ H s e s' I hq
 |ok fl =>
  cases fl with
  |ret u=>exact I.after hq
  |next=>exact False.elim hq
  |brk=>exact False.elim hq
  |cont=>exact False.elim hq
theorem XR (F:FnOk X.prog X.w X.K X.mg X.base CX k f fd ps sp) (hr:Room k X.A) (hg:Gl X x) (hm:X.mg x=some (.ref f)) (hk:PySem.W.keepIn X.K (.ref f)=true) (hb:Binds X.K fd ps ds) (hd:Vals dvs ds) (hx:Zj CX X E)
  (ha:PA X (e::es) t) (hdb:(x==("__debug__" : Str))=false:=by decide) (he:starEach (e::es) X.env=(false,eval e X.env)::starEach es X.env:=by rfl) (hpl:(backTo pos (starEach es X.env)).any (·.1)=false:=by rfl) :
  PE X (.Call (.Name x p) (e::es) [] pos) (v3 sp dvs E t):=by
 intro pins s σ H Q I h
 refine wpAny_Call_Name_kw (ku I hg hm ?_ hdb)
 refine PySem.W.callWith_K (h₀:=X.base) I.ok.mod.kin hk (thn (ha pos pins s σ H _ I h) fun us s1 ⟨vs,H1,I1,r,q⟩=>⟨I1.kIn, ?_⟩) he hpl
 exact run_fn F hr hb hd hx I1 r q
theorem pe_call0 (F:FnOk X.prog X.w X.K X.mg X.base CX k f fd ps sp) (hr:Room k X.A) (hg:Gl X x) (hm:X.mg x=some (.ref f)) (hk:PySem.W.keepIn X.K (.ref f)=true) (hb:Binds X.K fd ps ds) (hd:Vals dvs ds) (hx:Zj CX X E)
  (hdb:(x==("__debug__" : Str))=false:=by decide):PE X (.Call (.Name x p) [] [] pos) (v3 sp dvs E tNil):=by
 intro pins s σ H Q I h
 refine wpAny_Call_Name_kw (ku I hg hm ?_ hdb)
 exact PySem.W.callWith_K0 I.kIn hk (run_fn (us:=[]) F hr hb hd hx I .nil h)
end
def PK (X:Cx) (kws:List Keyword) (t:TA):Prop :=
 ∀(pos:Pos) (pins:List (Addr×Obj)) (s:Shared) (σ:St) (H:Hp) (Q:List V->Hp->Prop),Inv X pins σ H s->t σ H Q->wpAny (model X.prog X.w) X.A (evalAll ((backToKw pos (keywordEach kws X.env)).map (·.2))) (AP X pins σ Q) X.xe s
section
variable {X:Cx} {x:Str} {pos kpos:Pos} {e:Expr} {kws:List Keyword} {te:TE} {t:TA} {nm:Option Str}
theorem pk_nil:PK X [] tNil:=fun _ _ _ _ H Q I h=>wpAny_evalAll_nil ⟨[],H,I, .nil,h⟩
theorem pk_cons (ha:PE X e te) (hr:PK X kws t):PK X (⟨nm,e,kpos⟩::kws) (vo te t):=by
 intro pos pins s σ H Q I h
 show wpAny _ _ (evalAll ((do let v <-eval e X.env; standAt pos; pure v)::(backToKw pos (keywordEach kws X.env)).map (·.2))) _ _ s
 refine wpAny_evalAll_cons (wpAny_bind (thn (ha pins s σ H _ I h) fun u s1 ⟨x,H1,I1,r1,q1⟩=>wpAny_bind (wpAny_standAt (wpAny_pure ?_))))
 exact thn (hr pos pins s1 σ H1 _ I1 q1) fun us s2 ⟨xs,H2,I2,r2,q2⟩=>⟨x::xs,H2,I2, .cons r1 r2,q2⟩
end
structure FnScope (N P:List Str) (sc:Scope):Prop where
 kind:sc.kind=.function
 co:sc.isCoroutine=false
 gen:sc.isGenerator=false
 nd:N.Nodup
 pre:N.take P.length=P
 par:∀x∈P,sc.names.lookup x=some .local\/sc.names.lookup x=some .cell
 nofree:∀y∈sc.names,y.2 ≠ .free
theorem Q4 {kindOf:Str->Option NameKind} {x:Str}:∀{binds:List (Str×Value)} {m:Str->Option Value},(∀v,(x,v)∉binds)->bindL kindOf binds m x=m x
 | [],_,_=>rfl
 | (n,v)::r,m,h=>by
  unfold bindL
  rw[Q4 fun w hw=>h w (List.mem_cons_of_mem _ hw)]
  split
  ·have:x≠n:=by rintro rfl; exact h v List.mem_cons_self
   simp[this]
  ·rfl
theorem Q6 {kindOf:Str->Option NameKind} {x:Str}:∀{binds:List (Str×Value)} {m:Str->Option Value},(∀v,(x,v)∉binds)->bindC kindOf binds m x=m x
 | [],_,_=>rfl
 | (n,v)::r,m,h=>by
  unfold bindC
  rw[Q6 fun w hw=>h w (List.mem_cons_of_mem _ hw)]
  split
  ·rfl
  ·have:x≠n:=by rintro rfl; exact h v List.mem_cons_self
   simp[this]
theorem Q5 {kindOf:Str->Option NameKind} {x:Str} {v:Value}:∀{P:List Str} {vs:List Value} {i:Nat} {m:Str->Option Value},P.Nodup->P[i]?=some x->vs[i]?=some v->kindOf x=some .local ->
  bindL kindOf (P.zip vs) m x=some v
 | [],_,_,_,_,h,_,_=>by simp at h
 |_::_, [],_,_,_,_,h,_=>by simp at h
 |p::P,w::vs,0,m,nd,h1,h2,hk=>by
  simp at h1 h2; subst h1; subst h2
  show bindL kindOf ((p,w)::P.zip vs) m p=_
  unfold bindL
  rw[Q4 fun v hv=>(List.nodup_cons.mp nd).1 (List.of_mem_zip hv).1,if_pos hk]
  simp
 |p::P,w::vs,i+1,m,nd,h1,h2,hk=>by
  show bindL kindOf ((p,w)::P.zip vs) m x=_
  unfold bindL
  exact Q5 (i:=i) (List.nodup_cons.mp nd).2 (by simpa using h1) (by simpa using h2) hk
theorem Q7 {kindOf:Str->Option NameKind} {x:Str} {v:Value}:∀{P:List Str} {vs:List Value} {i:Nat} {m:Str->Option Value},P.Nodup->P[i]?=some x->vs[i]?=some v->kindOf x≠some .local ->
  bindC kindOf (P.zip vs) m x=some v
 | [],_,_,_,_,h,_,_=>by simp at h
 |_::_, [],_,_,_,_,h,_=>by simp at h
 |p::P,w::vs,0,m,nd,h1,h2,hk=>by
  simp at h1 h2; subst h1; subst h2
  show bindC kindOf ((p,w)::P.zip vs) m p=_
  unfold bindC
  rw[Q6 fun v hv=>(List.nodup_cons.mp nd).1 (List.of_mem_zip hv).1,if_neg hk]
  simp
 |p::P,w::vs,i+1,m,nd,h1,h2,hk=>by
  show bindC kindOf ((p,w)::P.zip vs) m x=_
  unfold bindC
  exact Q7 (i:=i) (List.nodup_cons.mp nd).2 (by simpa using h1) (by simpa using h2) hk
def start (N:List Str) (vs:List V):St:=vs.map some++List.replicate (N.length-vs.length) none
def cxOf (CX:CXT) (P:Program) (w:World) (K:PySem.W.Frag) (mg:Str->Option Value) (base:Heap) (N:List Str) (qual:Str) (scope:Scope) (f:Addr) (cd:Value) (A:Around) (outer:List Env) (s:Shared) (H:Hp) (E:XK):Cx where
 prog:=P
 w:=w
 K:=K
 mg:=mg
 base:=base
 A:=A.deeper (envOfC qual scope s.heap.objs.size f cd)
 N:=N
 s₀:=s
 H₀:=H
 env:=envOfC qual scope s.heap.objs.size f cd
 outer:=outer
 stack:=envOfC qual scope s.heap.objs.size f cd::outer
 ex:=[]
 calm:=true
 fn:=fun _=>true
 pn:=[]
 xe:=fun e s'=>wpAny (model P w) (A.deeper (envOfC qual scope s.heap.objs.size f cd)) (leaving (envOfC qual scope s.heap.objs.size f cd) e) (fun _ s''=>CX outer H s E e s'') (fun e' s''=>CX outer H s E e' s'') s'
theorem Zf {sc:Scope} {n:Nat} {x:Str} (h:sc.names.lookup x=some .cell):∃c,(cellsFrom n sc.names []).lookup x=some c:=by
 have q:=PySem.W.cellsFrom_some sc.names n [] (.inl h)
 exact Option.isSome_iff_exists.mp q
theorem Js {CX:CXT} {P:Program} {w:World} {K:PySem.W.Frag} {mg:Str->Option Value} {base:Heap} {N ps:List Str} {qual:Str} {scope:Scope} {f:Addr} {cd:Value} {A:Around} {outer:List Env} {s s1:Shared} {H:Hp} {E:XK} {us:List Value} {vs:List V}
  (S:FnScope N ps scope) (hd:A.handled=none) (e0:Env0 P w K mg base A outer s H) (hl:vs.length=ps.length) (r:Vals vs us)
  (x:InCallC s s.heap.objs.size (bindL (envOfC qual scope s.heap.objs.size f cd).kindOf (ps.zip us) fun _=>none) (cellsFrom (s.heap.objs.size+1) scope.names []) (bindC (envOfC qual scope s.heap.objs.size f cd).kindOf (ps.zip us) fun _=>none) s1) :
  Inv (cxOf CX P w K mg base N qual scope f cd A outer s H E) [] (start N vs) H s1:=by
 have hpl:ps.length<=N.length:=by have:=congrArg List.length S.pre; rw[List.length_take] at this; omega
 obtain⟨h1,tk,rfl,hk⟩:=x.done
 have noA:∀b:Addr,b∉(cxOf CX P w K mg base N qual scope f cd A outer s H E).ex:=fun b z=>absurd (show b∈([]:List Addr) from z) (by simp)
 refine⟨⟨e0.mod,S.kind,rfl,rfl,Nat.le_refl _,fun y z c h1 h2=>?_,fun y hy=>?_,fun y c _ h=>?_,fun _=>hd,Around.frames_deeper e0.frames, .inr ⟨rfl,rfl⟩,fun b z=>absurd z (noA b),e0.bs,e0.bsz,fun b _ _=>noA b,fun b z=>absurd z (noA b),e0.funs,e0.frf⟩,
  rfl,e0.bare,Un.kept hk,⟨_,x.toInCall.ns,fun i y v h1 h2 h3=>?_⟩,fun y c h=>⟨_,x.cell y c h⟩,e0.hok.fresh (Nat.le_refl _),fun y c h=>?_,fun p hp=>absurd (show p∈([]:List (Addr×Obj)) from hp) (by simp),e0.hok.kept hk, ?_⟩
 ·exact name_of_addr x.apart (PySem.mem_of_lookup h1) (PySem.mem_of_lookup h2)
 ·have hy:scope.names.lookup y=some .cell\/scope.names.lookup y=some .free:=hy
  rcases hy with hy|hy
  ·exact Zf hy
  ·exact absurd rfl (S.nofree _ (PySem.mem_of_lookup hy))
 ·exact Nat.le_of_lt (x.above y c (PySem.mem_of_lookup h))
 ·have hi:i<vs.length:=by
   unfold start at h2
   by_cases hi:i<vs.length
   ·exact hi
   ·rw[List.getElem?_append_right (by simpa using hi)] at h2
    rw[List.getElem?_replicate] at h2
    split at h2<;>cases h2
  have ha:vs[i]?=some v:=by
   unfold start at h2
   rw[List.getElem?_append_left (by simpa using hi),List.getElem?_map] at h2
   cases e:vs[i]? with
   |none=>rw[e] at h2; cases h2
   |some a=>rw[e] at h2; cases h2; rfl
  obtain⟨u,hu,rv⟩:=r.get ha
  have hp:ps[i]?=some y:=by
   rw[<-S.pre,List.getElem?_take_of_lt (by omega)]; exact h1
  have ndP:ps.Nodup:=by rw[<-S.pre]; exact S.nd.sublist (List.take_sublist _ _)
  refine⟨u,rv, ?_⟩
  rcases S.par y (List.mem_of_getElem? hp) with k|k
  ·exact .inl ⟨k,Q5 ndP hp hu k⟩
  ·obtain⟨c,e⟩:=Zf (n:=s.heap.objs.size+1) k
   refine .inr ⟨.inl k,c,e, ?_⟩
   have q:=x.cell y c e
   rw[Q7 ndP hp hu (by show scope.names.lookup y≠_; rw[k]; decide)] at q
   exact q
 ·exact e0.hok.fresh (Nat.le_of_lt (x.above y c (PySem.mem_of_lookup h)))
 ·unfold start
  show _=N.length
  rw[List.length_append,List.length_map,List.length_replicate]
  omega
theorem fn_of {CX:CXT} {P:Program} {w:World} {K:PySem.W.Frag} {mg:Str->Option Value} {base:Heap} {k:Nat} {f:Addr} {name qual:Str} {params:Arguments} {body:List Stmt} {scope:Scope} {dV kV doc pm cdv ct oc:Value} {an od:Option Addr}
  {osl:Array (Option Value)} {N ps:List Str} {sp:Sp} (lk:K.lookup f=some ⟨oc,od, .func (PySem.W.fnOf name qual params body scope dV kV doc pm an cdv ct),osl⟩) (hcd:PySem.W.codeIn K cdv qual=true) (S:FnScope N ps scope)
  (len:∀vs H Q E,sp vs H Q E->vs.length=ps.length)
  (hbody:∀(A:Around) (outer:List Env) (s:Shared) (H:Hp) (vs:List V) (Q:VK) (E:XK),Room k (A.deeper (envOfC qual scope s.heap.objs.size f cdv))->sp vs H Q E ->
   ∃t,PSs (cxOf CX P w K mg base N qual scope f cdv A outer s H E) body t/\t { nx:=fun _ H'=>Q .non H',rt:=Q } (start N vs) H) :
  FnOk P w K mg base CX (k+1) f (PySem.W.fnOf name qual params body scope dV kV doc pm an cdv ct) ps sp:=by
 refine⟨len,fun A outer s H args us vs Q E hr e0 hb r hsp=>?_⟩
 have hl:=len _ _ _ _ hsp
 have KX:K.In s.heap:=e0.mod.kin.keeps fun b o e=>(e0.bs b o e).1
 have lim:s.heap.NoLimit:=e0.mod.nolimit.keeps fun b o e=>(e0.bs b o e).1
 have hkind:∀y∈ps.zip us,scope.names.lookup y.1=some .local\/(scope.names.lookup y.1=some .cell/\((cellsFrom (s.heap.objs.size+1) scope.names []).lookup y.1).isSome=true):=fun⟨n,v⟩ hy=>by
  rcases S.par n (List.of_mem_zip hy).1 with q|q
  ·exact .inl q
  ·exact .inr ⟨q,PySem.W.cellsFrom_some _ _ _ (.inl q)⟩
 refine codeAny_call_function hr.depth (KX _ _ lk) rfl S.co S.gen rfl (PySem.W.codeRec_of KX hcd) (hb _ _ _ _ ?_)
 refine wpAny_newFunctionEnv_cells S.kind hkind fun env he s1 x=>?_
 subst he
 refine⟨lim.keeps x.toInCall.keep,codeAny_func ?_⟩
 obtain⟨t,ht,hq⟩:=hbody A outer s H vs Q E (hr.deeper _) hsp
 have I:Inv (cxOf CX P w K mg base N qual scope f cdv A outer s H E) [] (start N vs) H s1:=Js S hr.hd e0 hl r x
 refine wpAny_mono (ht [] s1 (start N vs) H _ I hq) (fun fl s' hs=>?_) fun e s' hs=>hs
 have fin:∀{σ':St} {H':Hp} {v:V} {u:Value},Inv (cxOf CX P w K mg base N qual scope f cdv A outer s H E) [] σ' H' s'->RelV v u->Q v H'->CE outer P w H s Q u s' :=
  fun {σ' H' v u} J rv q=>⟨v,H',J.os,J.bare,J.base,J.hok,rv,q⟩
 cases fl with
 |ret u =>
  obtain⟨v,σ',H',J,rv,q⟩:=hs
  exact fin J rv q
 |next =>
  obtain⟨σ',H',J,q⟩:=hs
  exact fin (v:=V.non) (u:=Value.none) J rfl q
 |brk =>
  obtain⟨_,_,_,q⟩:=hs
  exact False.elim q
 |cont =>
  obtain⟨_,_,_,q⟩:=hs
  exact False.elim q
section
variable {X:Cx} {x:Str} {p pos:Pos} {e:Expr} {es:List Expr} {t:TA} {id T:String} {r:List V->Hp->VK->Prop}
def tCB (r:List V->Hp->VK->Prop) (t:TA):TE:=fun σ H Q=>t σ H fun vs H1=>r vs H1 Q
theorem pe_callB (hc:zY X (.builtin id) r) (hg:Gl X x) (hm:X.mg x=none) (hv:bootBuiltins x=some (.builtin id)) (ha:PA X (e::es) t) (hn:x ≠ "__name__" := by decide) (hdb:(x==("__debug__" : Str))=false:=by decide)
  (he:starEach (e::es) X.env=(false,eval e X.env)::starEach es X.env:=by rfl) (hpl:(backTo pos (starEach es X.env)).any (·.1)=false:=by rfl):PE X (.Call (.Name x p) (e::es) [] pos) (tCB r t):=by
 intro pins s σ H Q I h
 refine wpAny_Call_Name_kw (xj I hg hm hv ?_ hn hdb)
 exact PyProof.Rows.callWith_builtin1 (thn (ha pos pins s σ H _ I h) fun us s1 ⟨vs,H1,I1,r1,q1⟩=>hc pins s1 σ H1 vs us Q I1 r1 q1) he hpl
theorem XQ (hc:zY X (.type T) r) (hg:Gl X x) (hm:X.mg x=none) (hv:bootBuiltins x=some (.type T)) (ha:PA X (e::es) t) (hn:x ≠ "__name__" := by decide) (hdb:(x==("__debug__" : Str))=false:=by decide)
  (he:starEach (e::es) X.env=(false,eval e X.env)::starEach es X.env:=by rfl) (hpl:(backTo pos (starEach es X.env)).any (·.1)=false:=by rfl):PE X (.Call (.Name x p) (e::es) [] pos) (tCB r t):=by
 intro pins s σ H Q I h
 refine wpAny_Call_Name_kw (xj I hg hm hv ?_ hn hdb)
 exact PyProof.Rows.callWith_type1 (thn (ha pos pins s σ H _ I h) fun us s1 ⟨vs,H1,I1,r1,q1⟩=>hc pins s1 σ H1 vs us Q I1 r1 q1) he hpl
end
end L2
namespace HT
open PySem PyProof.Rows
section
def sIx (n d:Nat):Option Int->Nat
 |none=>d
 |some v=>if v<0 then(v+(n:Int)).toNat else min v.toNat n
theorem sIx_nat (n d k:Nat):sIx n d (some (k:Int))=min k n:=by
 show(if(k:Int)<0 then((k:Int)+(n:Int)).toNat else min (k:Int).toNat n)=min k n
 rw[if_neg (by omega),Int.toNat_natCast]
end
end HT
namespace L2
open PySem PySem.Spec PyProof.Rows
abbrev TO:=St->Hp->(Option Int->Hp->Prop)->Prop
def PO (X:Cx) (e:Option Expr) (t:TO):Prop :=
 ∀(pins:List (Addr×Obj)) (s:Shared) (σ:St) (H:Hp) (Q:Option Int->Hp->Prop),Inv X pins σ H s->t σ H Q ->
  wpAny (model X.prog X.w) X.A (evalPart e X.env) (fun u s'=>∃o H',Inv X pins σ H' s'/\IsPart u o/\Q o H') X.xe s
def zf:TO:=fun _ H Q=>Q none H
def Qb (t:TE):TO:=fun σ H Q=>t σ H fun x H1=>∃i,x=.int i/\Q (some i) H1
theorem jK {ns:List Int}:∀{us:List Value},Vals (ns.map V.int) us->IntsAre us ns:=by
 induction ns with
 |nil=>intro us r; rw[List.map_nil] at r; cases r; exact .nil
 |cons n ns ih =>
  intro us r
  rw[List.map_cons] at r
  cases r with
  |cons r1 r2 =>
   obtain⟨t,e⟩:=r1
   subst e
   exact .cons n t (ih r2)
section
variable {X:Cx} {e:Expr} {te:TE} {lo hi:Option Expr} {tl th:TO} {pos p2:Pos}
theorem po_none:PO X none zf:=by
 intro pins s σ H Q I h
 rw[evalPart_none]
 exact wpAny_pure ⟨none,H,I, .none,h⟩
theorem po_some (h:PE X e te):PO X (some e) (Qb te):=by
 intro pins s σ H Q I hw
 rw[evalPart_some]
 refine thn (h pins s σ H _ I hw) fun u s1 ⟨x,H1,I1,r1,q1⟩=>?_
 obtain⟨i,rfl,q⟩:=q1
 obtain⟨t,rfl⟩:=r1
 exact⟨some i,H1,I1, .int i t,q⟩
def SlR (X:Cx) (r:V->Option Int->Option Int->Hp->VK->Prop):Prop :=
 ∀(pins:List (Addr×Obj)) (s:Shared) (σ:St) (H:Hp) (x:V) (v vl vu:Value) (lo hi:Option Int) (sl:Addr) (Q:VK),Inv X pins σ H s->RelV x v->s.heap.IsSliceOf sl vl vu .none->IsPart vl lo->IsPart vu hi->r x lo hi H Q ->
  ∃T id,typeLookup (.type T) "__getitem__" = pure (some (.builtin id))/\s.TypeIs v T/\wpAny (model X.prog X.w) X.A (getItem v (.ref sl)) (EP X pins σ Q) X.xe s
def tSl (r:V->Option Int->Option Int->Hp->VK->Prop) (te:TE) (tl th:TO):TE:=fun σ H Q=>te σ H fun x H1=>tl σ H1 fun l H2=>th σ H2 fun u H3=>r x l u H3 Q
theorem pe_slice {r:V->Option Int->Option Int->Hp->VK->Prop} (hr:SlR X r) (he:PE X e te) (hl:PO X lo tl) (hu:PO X hi th):PE X (.Subscript e (.Slice lo hi none p2) pos) (tSl r te tl th):=by
 intro pins s σ H Q I h
 refine Subscript_ (thn (he pins s σ H _ I h) fun v s1 ⟨x,H1,I1,r1,q1⟩=>?_)
 refine wpAny_Slice (thn (hl pins s1 σ H1 _ I1 q1) fun vl s2 ⟨l,H2,I2,pl,q2⟩=>thn (hu pins s2 σ H2 _ I2 q2) fun vu s3 ⟨u,H3,I3,pu,q3⟩=>?_)
 rw[evalPart_none]
 refine wpAny_pure ?_
 have I4:Inv X pins σ H3 { s3 with heap:=s3.heap.push { cls:=.type "slice", data:=.fields #[vl,vu, .none] } }:=I3.kept (t':=s3.toks) fun b ob q=>Heap.get?_push_of_some _ q
 obtain⟨T,id,hT,ht,hg⟩:=hr pins { s3 with heap:=s3.heap.push { cls:=.type "slice", data:=.fields #[vl,vu, .none] } } σ H3 x v vl vu l u s3.heap.objs.size Q I4 r1 (Heap.IsSliceOf.new ..) pl pu q3
 show wpAny (model X.prog X.w) X.A (subscriptTail e (.Slice lo hi none p2) v (.ref s3.heap.objs.size)) (EP X pins σ Q) X.xe { s3 with heap:=s3.heap.push { cls:=.type "slice", data:=.fields #[vl,vu, .none] } }
 exact tail_any (ops:=[.ref s3.heap.objs.size,v]) ht hT hg (by with_unfolding_all rfl)
def cutV (xs:List V) (lo hi:Option Int):List V:=(xs.drop (HT.sIx xs.length 0 lo)).take (HT.sIx xs.length xs.length hi-HT.sIx xs.length 0 lo)
theorem VD (xs:List V) (lo hi:Option Int):(cutV xs lo hi).length<=xs.length:=by
 unfold cutV
 rw[List.length_take,List.length_drop]
 omega
end
def ixN (n:Nat) (i:Int):Option Nat:=if 0<=i then(if i<n then some i.toNat else none) else if -(n:Int)<=i then some (i+n).toNat else none
def atI {α:Type} (xs:List α) (i:Int):Option α:=(ixN xs.length i).bind fun j=>xs[j]?
theorem Jp {n:Nat} {i:Int} {j:Nat} (h:ixN n i=some j):seqIndex? i n=some j/\j<n /\ -(n:Int)<=i/\i<n:=by
 unfold ixN at h
 by_cases h0:0<=i
 ·rw[if_pos h0] at h
  by_cases h1:i<n
  ·rw[if_pos h1] at h
   have e:i.toNat=j:=Option.some.inj h
   exact⟨by rw[seqIndex_of h0 h1,e],by omega,by omega,h1⟩
  ·rw[if_neg h1] at h; cases h
 ·rw[if_neg h0] at h
  by_cases h1 : -(n:Int)<=i
  ·rw[if_pos h1] at h
   have e:(i+n).toNat=j:=Option.some.inj h
   exact⟨by rw[seqIndex_neg (by omega) h1,e],by omega,h1,by omega⟩
  ·rw[if_neg h1] at h; cases h
theorem JT {α:Type} {xs:List α} {i:Int} {v:α} (h:atI xs i=some v):∃j,seqIndex? i xs.length=some j/\xs[j]?=some v/\j<xs.length /\ -(xs.length:Int)<=i/\i<xs.length:=by
 unfold atI at h
 cases e:ixN xs.length i with
 |none=>rw[e] at h; cases h
 |some j =>
  rw[e] at h
  obtain⟨h1,h2,h3,h4⟩:=Jp e
  exact⟨j,h1,h,h2,h3,h4⟩
theorem kU {α:Type} {xs:List α} {j:Nat} {v:α} (h:xs[j]?=some v):atI xs (j:Int)=some v:=by
 have hj:j<xs.length:=(List.getElem?_eq_some_iff.mp h).1
 have e:ixN xs.length (j:Int)=some j:=by
  unfold ixN
  rw[if_pos (by omega),if_pos (by omega)]; simp
 unfold atI; rw[e]; exact h
def JX (b:Expr):Prop:=∀o i,subscripted b false o i=operate [o,i] (getItem o i)
def IxR (X:Cx) (r:R2):Prop :=
 ∀(value slice:Expr) (pins:List (Addr×Obj)) (s:Shared) (σ:St) (H:Hp) (x y:V) (v u:Value) (Q:VK),Inv X pins σ H s->RelV x v->RelV y u->r x y H Q ->
  subscripted slice false v u=operate [v,u] (getItem v u)->wpAny (model X.prog X.w) X.A (subscriptTail value slice v u) (EP X pins σ Q) X.xe s
def MtR (X:Cx) (id:String) (r:V->List V->Hp->VK->Prop):Prop :=
 ∀(pins:List (Addr×Obj)) (s:Shared) (σ:St) (H:Hp) (x:V) (xs:List V) (v:Value) (us:List Value) (Q:VK),Inv X pins σ H s->RelV x v->Vals xs us->r x xs H Q ->
  wpAny (model X.prog X.w) X.A (call (.builtin id) (v::us)) (EP X pins σ Q) X.xe s
section
variable {X:Cx} {a b:Expr} {ta tb:TE} {pos:Pos}
theorem pe_ix {r:R2} (hr:IxR X r) (ha:PE X a ta) (hb:PE X b tb) (hs:JX b):PE X (.Subscript a b pos) (tOp r ta tb):=by
 intro pins s σ H Q I h
 exact Subscript_ (binT ha hb I h fun v u s2 x y H2 I2 rx ry q=>hr a b pins s2 σ H2 x y v u Q I2 rx ry q (hs _ _))
def rIxL (K:PySem.W.Frag):R2:=fun x y H Q=>∃p xs i v,x=.ref p/\y=.int i/\SqL K H p xs/\atI xs i=some v/\Q v H
def rIxT (K:PySem.W.Frag):R2:=fun x y H Q=>∃p xs i v,x=.ref p/\y=.int i/\SqT K H p xs/\atI xs i=some v/\Q v H
theorem ix_list:IxR X (rIxL X.K):=by
 intro value slice pins s σ H x y v u Q I rx ry h hs
 obtain⟨p,xs,i,z,rfl,rfl,hq,he,q⟩:=h
 cases rx
 obtain⟨t,rfl⟩:=ry
 obtain⟨its,r,pl,hz⟩:=I.list hq
 obtain⟨j,h1,h2,h3,h4,h5⟩:=JT he
 obtain⟨w,ew,rw'⟩:=r.get h2
 have hl:=r.length
 have hn:=QM
 have fin:EP X pins σ Q w s:=⟨z,H,I,rw',q⟩
 by_cases h0:0<=i
 ·have hj:i.toNat=j:=by
   rw[seqIndex_of h0 h5] at h1
   exact Option.some.inj h1
  exact item_listR pl.isList h0 (by omega) (by rw[hj]; simpa using ew) fin hs
 ·have hj:(i+(its.toArray.size:Int)).toNat=j:=by
   rw[seqIndex_neg (by omega) h4] at h1
   rw[List.size_toArray, <-hl]
   exact Option.some.inj h1
  exact subscriptTail_builtinR (x:=w) pl.isList.typeIs slot_list_getitem.lookup
   (wpAny_getItem_list_neg (Q:=fun r s'=>r=w/\EP X pins σ Q r s') pl.isList (by omega) (by rw[List.size_toArray]<;>omega) (by omega) (by rw[hj]; simpa using ew) ⟨rfl,fin⟩) hs
theorem ix_tup:IxR X (rIxT X.K):=by
 intro value slice pins s σ H x y v u Q I rx ry h hs
 obtain⟨p,xs,i,z,rfl,rfl,hq,he,q⟩:=h
 cases rx
 obtain⟨t,rfl⟩:=ry
 obtain⟨its,r,pl,hz⟩:=I.tuple hq
 obtain⟨j,h1,h2,h3,h4,h5⟩:=JT he
 obtain⟨w,ew,rw'⟩:=r.get h2
 have hl:=r.length
 have hn:=QM
 have fin:EP X pins σ Q w s:=⟨z,H,I,rw',q⟩
 exact subscriptTail_builtinR (x:=w) pl.typeIs slot_tuple_getitem.lookup
  (getItem_tuple (j:=j) (Q:=fun r s'=>r=w/\EP X pins σ Q r s') pl (by omega) (by omega) (by rw[List.size_toArray, <-hl]; exact h1) (by simpa using ew) ⟨rfl,fin⟩) hs
theorem ZQ (its:List Value) (n j:Nat) (u:Value):Obj.mapSeq (·.setIfInBounds j u) { cls:=.type "list", data:=.seq its.toArray n }={ cls:=.type "list", data:=.seq (its.set j u).toArray n }:=by
 simp[Obj.mapSeq]
theorem Inv.lst {pins:List (Addr×Obj)} {σ:St} {H:Hp} {s:Shared} {p:Addr} {xs:List V} (I:Inv X pins σ H s) (h:H p=some (.lst xs)) :
  ∃(its:List Value) (n:Nat),Vals xs its/\s.heap.get? p=some { cls:=.type "list", data:=.seq its.toArray n }/\xs.length<=sizeLine:=by
 obtain⟨z,its,n,r,e⟩:=I.hok p _ h
 exact⟨its,n,r,e,z⟩
theorem Inv.lstUpd {pins:List (Addr×Obj)} {σ:St} {H:Hp} {s:Shared} {p:Addr} {xs ys:List V} {its its':List Value} {n n':Nat} {f:Obj->Obj} (I:Inv X pins σ H s) (h:H p=some (.lst xs))
  (ho:s.heap.get? p=some { cls:=.type "list", data:=.seq its.toArray n }) (hf:f { cls:=.type "list", data:=.seq its.toArray n }={ cls:=.type "list", data:=.seq its'.toArray n' }) (r:Vals ys its') (hz:ys.length<=sizeLine) (t:Nat) :
  Inv X pins σ (upd H p (.lst ys)) { s with heap:=s.heap.update p f,toks:=t }:=by
 have e:(s.heap.update p f).get? p=some { cls:=.type "list", data:=.seq its'.toArray n' }:=by
  rw[Heap.get?_update_self f ho (by rw[hf]<;>rfl),hf]
 refine I.write (x:=p) (e:=p) (by rw[h]; trivial) (.inl rfl) (fun b u hb q=>(Heap.get?_update_other _ _ (Ne.symm hb)).trans q) ⟨_,e⟩ ?_
 exact⟨hz,its',n',r,e⟩
def rSetL:V->V->V->Hp->(Hp->Prop)->Prop:=fun o i v H Q=>∃p xs k j,o=.ref p/\i=.int k/\H p=some (.lst xs)/\ixN xs.length k=some j/\Q (upd H p (.lst (xs.set j v)))
theorem zZ:PSet X rSetL:=by
 intro pins s σ H o i v ov iv u Q I ro ri rv h
 obtain⟨p,xs,k,j,rfl,rfl,hp,hj,q⟩:=h
 cases ro
 obtain⟨t,rfl⟩:=ri
 obtain⟨its,n,r,ho,hz⟩:=I.lst hp
 obtain⟨h1,h2,h3,h4⟩:=Jp hj
 have hl:=r.length
 have hn:=QM
 have I':Inv X pins σ (upd H p (.lst (xs.set j v))) { s with heap:=s.heap.update p (Obj.mapSeq (·.setIfInBounds j u)) } :=
  I.lstUpd hp ho (ZQ its n j u) (r.set rv j) (by rw[List.length_set]; exact hz) s.toks
 by_cases h0:0<=k
 ·have hk:k.toNat=j:=by
   rw[seqIndex_of h0 h4] at h1
   exact Option.some.inj h1
  exact PySem.W.ki_setAt ho h0 (by omega) (by rw[List.size_toArray, <-hl]; exact h4) (by rw[hk]; exact⟨_,I',q⟩)
 ·have hk:(k+(its.toArray.size:Int)).toNat=j:=by
   rw[seqIndex_neg (by omega) h3] at h1
   rw[List.size_toArray, <-hl]
   exact Option.some.inj h1
  exact PySem.W.ki_setBack ho (by omega) (by rw[List.size_toArray, <-hl]; exact h3) (by omega) (by rw[hk]; exact⟨_,I',q⟩)
theorem Qi (lo hi:Option Int) (n:Nat):(sliceBounds lo hi none n).1=((HT.sIx n 0 lo:Nat):Int)/\(sliceBounds lo hi none n).2.1=((HT.sIx n n hi:Nat):Int)/\(sliceBounds lo hi none n).2.2=1:=by
 refine⟨?_, ?_,rfl⟩
 ·cases lo with
  |none=>simp[sliceBounds,HT.sIx]
  |some i =>
   simp only[sliceBounds,HT.sIx,Option.getD_none,show(1:Int)>0 by decide,if_true]
   by_cases h:i<0
   ·simp only[h,if_true]<;>omega
   ·simp only[h,if_false]<;>omega
 ·cases hi with
  |none=>simp[sliceBounds,HT.sIx]
  |some i =>
   simp only[sliceBounds,HT.sIx,Option.getD_none,show(1:Int)>0 by decide,if_true]
   by_cases h:i<0
   ·simp only[h,if_true]<;>omega
   ·simp only[h,if_false]<;>omega
theorem jV (its:List Value) (lo hi:Option Int):slicePick its.toArray lo hi none=((its.drop (HT.sIx its.length 0 lo)).take (HT.sIx its.length its.length hi-HT.sIx its.length 0 lo)).toArray:=by
 obtain⟨h1,h2,h3⟩:=Qi lo hi its.toArray.size
 unfold slicePick
 rw[h1,h2,h3]
 simp only[sliceRange_one,pick_run,List.size_toArray]<;>rfl
def rSlL (K:PySem.W.Frag):V->Option Int->Option Int->Hp->VK->Prop:=fun x lo hi H Q=>∃a xs,x=.ref a/\SqL K H a xs/\∀p,H p=none->Q (.ref p) (upd H p (.lst (cutV xs lo hi)))
theorem sl_list:SlR X (rSlL X.K):=by
 intro pins s σ H x v vl vu lo hi sl Q I rx hs pl pu h
 obtain⟨a,xs,rfl,hx,q⟩:=h
 cases rx
 obtain⟨its,r,ht,hz⟩:=I.list hx
 have hlen:=r.length
 refine⟨"list", _,slot_list_getitem.lookup,ht.isList.typeIs, ?_⟩
 refine wpAny_getItem_list_slice ht.isList hs pl pu .none (by simp) ?_ (by rw[List.size_toArray]<;>omega)
 rw[jV, <-hlen]
 refine⟨.ref s.heap.objs.size,_,I.laid (t':=s.toks) (o:=.lst (cutV xs lo hi)) (fun b ob q=>Heap.get?_push_of_some _ q) (Nat.le_refl _) ?_,rfl,q _ (I.hok.fresh (Nat.le_refl _))⟩
 exact⟨Nat.le_trans (VD xs lo hi) hz,_,0,(r.drop (HT.sIx xs.length 0 lo)).take (HT.sIx xs.length xs.length hi-HT.sIx xs.length 0 lo),Heap.get?_push_size _ rfl⟩
def flatV:V->Bool
 |.non=>true
 |.bl _=>true
 |.int _=>true
 |.str _=>true
 |_=>false
def eqV:V->V->Bool
 |.non, .non=>true
 |.bl a, .bl b=>a==b
 |.bl a, .int b=>(if a then 1 else 0)==b
 |.int a, .bl b=>a==(if b then 1 else 0)
 |.int a, .int b=>a==b
 |.str a, .str b=>a==b
 |_,_=>false
theorem eqAt_V {A:Around} {s:Shared} {y x:V} {u v:Value} (ry:RelV y u) (rx:RelV x v) (fy:flatV y=true) (fx:flatV x=true):SeqAt.EqAt A s u v (eqV y x):=by
 cases y with
 |non =>
  cases ry
  cases x with
  |non=>cases rx; exact SeqAt.EqAt.same _
  |bl b=>cases rx; exact SeqAt.EqAt.none_bool b
  |int b=>obtain⟨t,rfl⟩:=rx; exact SeqAt.EqAt.none_int b t
  |str b=>obtain⟨t,rfl⟩:=rx; exact SeqAt.EqAt.none_str b t
  |_=>exact absurd (show false=true from fx) Bool.false_ne_true
 |bl a =>
  cases ry
  cases x with
  |non=>cases rx; exact SeqAt.EqAt.bool_none a
  |bl b=>cases rx; exact SeqAt.EqAt.bool_bool a b
  |int b=>obtain⟨t,rfl⟩:=rx; exact SeqAt.EqAt.bool_int a b t
  |str b=>obtain⟨t,rfl⟩:=rx; exact SeqAt.EqAt.bool_str a b t
  |_=>exact absurd (show false=true from fx) Bool.false_ne_true
 |int a =>
  obtain⟨t',rfl⟩:=ry
  cases x with
  |non=>cases rx; exact SeqAt.EqAt.int_none a t'
  |bl b=>cases rx; exact SeqAt.EqAt.int_bool a t' b
  |int b=>obtain⟨t,rfl⟩:=rx; exact SeqAt.EqAt.int_int a t' b t
  |str b=>obtain⟨t,rfl⟩:=rx; exact SeqAt.EqAt.int_str a t' b t
  |_=>exact absurd (show false=true from fx) Bool.false_ne_true
 |str a =>
  obtain⟨t',rfl⟩:=ry
  cases x with
  |non=>cases rx; exact SeqAt.EqAt.str_none a t'
  |bl b=>cases rx; exact SeqAt.EqAt.str_bool a t' b
  |int b=>obtain⟨t,rfl⟩:=rx; exact SeqAt.EqAt.str_int a t' b t
  |str b=>obtain⟨t,rfl⟩:=rx; exact SeqAt.EqAt.str_str a t' b t
  |_=>exact absurd (show false=true from fx) Bool.false_ne_true
 |_=>exact absurd (show false=true from fy) Bool.false_ne_true
def inV (x:V) (xs:List V):Bool:=xs.any fun y=>eqV y x
theorem xF:zY X (.builtin "len") (fun xs H Q=>∃p ys,xs=[.ref p]/\(SqL X.K H p ys\/SqT X.K H p ys)/\Q (.int ys.length) H):=by
 intro pins s σ H xs us Q I r h
 obtain⟨p,ys,rfl,hq,q⟩:=h
 obtain⟨u,rfl,rx⟩:=jP r
 cases rx
 have hn:=QM
 rcases hq with hq|hq
 ·obtain⟨its,r',pl,hz⟩:=I.list hq
  have hlen:=r'.length
  exact Calls.call_len_list pl.isList (by simp only[List.size_toArray]<;>omega) ⟨.int ys.length,H,I.tok _,⟨s.toks+1,by rw[List.size_toArray,hlen]⟩,q⟩
 ·obtain⟨its,r',pl,hz⟩:=I.tuple hq
  have hlen:=r'.length
  exact len_tuple pl (by simp only[List.size_toArray]<;>omega) ⟨.int ys.length,H,I.tok _,⟨s.toks+1,by rw[List.size_toArray,hlen]⟩,q⟩
theorem xE:zY X (.type "list") (fun xs H Q=>∃p ys,xs=[.ref p]/\(SqL X.K H p ys\/SqT X.K H p ys)/\∀l,H l=none->Q (.ref l) (upd H l (.lst ys))):=by
 intro pins s σ H xs us Q I r h
 obtain⟨p,ys,rfl,hq,q⟩:=h
 obtain⟨u,rfl,rx⟩:=jP r
 cases rx
 have fin:∀(its:List Value),Vals ys its->ys.length<=sizeLine->∀(h':Heap) (c':Nat),(∀b o',s.heap.get? b=some o'->h'.get? b=some o') ->
   h'.get? s.heap.objs.size=some { cls:=.type "list", dict:=none,data:=.seq its.toArray c',slots:=#[] }->EP X pins σ Q (.ref s.heap.objs.size) { s with heap:=h' }:=fun its r' hz h' c' kp e =>
  ⟨.ref s.heap.objs.size,_,I.laid (t':=s.toks) kp (Nat.le_refl _) (show ObjOk X.prog X.w _ h' _ (.lst ys) from⟨hz,its,c',r',e⟩),rfl,q _ (I.hok.fresh (Nat.le_refl _))⟩
 rcases hq with hq|hq
 ·obtain⟨its,r',pl,hz⟩:=I.list hq
  have hlen:=r'.length
  obtain⟨o,ho,hc,n,hd⟩:=pl.isList
  exact call_list_seq p (.inl rfl) ho hc hd (fun h' c' kp e=>fin its r' hz h' c' kp e) (by simp only[List.size_toArray]<;>omega)
 ·obtain⟨its,r',pl,hz⟩:=I.tuple hq
  have hlen:=r'.length
  obtain⟨o,ho,hc,n,hd⟩:=pl
  exact call_list_seq p (.inr rfl) ho hc hd (fun h' c' kp e=>fin its r' hz h' c' kp e) (by simp only[List.size_toArray]<;>omega)
def tyV (K:PySem.W.Frag) (T:String) (x:V) (H:Hp):Prop:=match x with
 |.str _=>T = "str"
 |.int _=>T = "int"
 |.ref p=>(T = "list" /\ ∃xs,SqL K H p xs)\/(T = "tuple" /\ ∃o,K.lookup p=some o/\o.cls=.type "tuple" /\ o.dict=none) \/
   (T = "dict" /\ ((∃kvs,H p=some (.dK kvs))\/∃kvs,H p=some (.dT kvs)))\/(T = "set" /\ ∃S n,H p=some (.set S n))
 |_=>False
theorem tyV_is {pins:List (Addr×Obj)} {σ:St} {H:Hp} {s:Shared} {T:String} {x:V} {v:Value} (I:Inv X pins σ H s) (r:RelV x v) (ty:tyV X.K T x H) :
  s.TypeIs v T/\∀a,v=.ref a->∃ob,s.heap.get? a=some ob/\ob.dict=none:=by
 cases x with
 |str z =>
  obtain⟨t,rfl⟩:=r
  cases(show T = "str" from ty)
  exact⟨typeIs_str s z t,fun _ e=>nomatch e⟩
 |int i =>
  obtain⟨t,rfl⟩:=r
  cases(show T = "int" from ty)
  exact⟨typeIs_int s i t,fun _ e=>nomatch e⟩
 |ref p =>
  cases r
  rcases ty with⟨rfl,xs,hq⟩|⟨rfl,o,hk,hc,hd⟩|⟨rfl,hk⟩|⟨rfl,S,n,hk⟩
  ·obtain⟨its,_,pl,_⟩:=I.list hq
   refine⟨pl.isList.typeIs,fun a e=>?_⟩
   cases e
   obtain⟨o,n,e,c,hd,_⟩:=pl
   exact⟨o,e,hd⟩
  ·refine⟨⟨o,I.kIn p o hk,hc⟩,fun a e=>?_⟩
   cases e
   exact⟨o,I.kIn _ o hk,hd⟩
  ·have z:∃o,s.heap.get? p=some o/\o.ExactDict:=by
    rcases hk with⟨kvs,hk⟩|⟨kvs,hk⟩
    ·obtain⟨_,_,_,_,o,_,_,e,ex,_⟩:=I.hok p _ hk
     exact⟨o,e,ex⟩
    ·obtain⟨_,_,_,_,o,_,_,e,ex,_⟩:=I.hok p _ hk
     exact⟨o,e,ex⟩
   obtain⟨o,e,ex⟩:=z
   refine⟨⟨o,e,ex.1⟩,fun a e2=>?_⟩
   cases e2
   exact⟨o,e,ex.2.1⟩
  ·obtain⟨o,_,_,_,e,ex,_⟩:=I.hok p _ hk
   refine⟨⟨o,e,ex.1⟩,fun a e2=>?_⟩
   cases e2
   exact⟨o,e,ex.2.1⟩
 |_=>exact False.elim ty
def tBM0 (K:PySem.W.Frag) (T:String) (r:V->List V->Hp->VK->Prop) (to:TE):TE:=fun σ H Q=>to σ H fun x H1=>tyV K T x H1/\r x [] H1 Q
def tBM (K:PySem.W.Frag) (T:String) (r:V->List V->Hp->VK->Prop) (to:TE) (t:TA):TE:=fun σ H Q=>to σ H fun x H1=>tyV K T x H1/\t σ H1 fun xs H2=>r x xs H2 Q
end
def MtM (X:Cx) (id:String) (r:V->List V->Hp->VK->Prop):Prop :=
 ∀(pins:List (Addr×Obj)) (s:Shared) (σ:St) (H:Hp) (x:V) (xs:List V) (v:Value) (us:List Value) (Q:VK),Inv X pins σ H s->RelV x v->Vals xs us->r x xs H Q ->
  wpAny (model X.prog X.w) X.A (call (.builtin id) (v::us)) (EP X pins σ Q) X.xe s
theorem Vals.one:∀{x:V} {us:List Value},Vals [x] us->∃u,us=[u]/\RelV x u
 |_,_, .cons r .nil=>⟨_,rfl,r⟩
theorem Vals.eraseIdx:∀{xs:List V} {us:List Value} (i:Nat),Vals xs us->Vals (xs.eraseIdx i) (us.eraseIdx i)
 |_,_,_, .nil=>.nil
 |_,_,0, .cons _ t=>t
 |_,_,i+1, .cons r t=>.cons r (Vals.eraseIdx i t)
theorem Vals.rep {xs:List V} {us:List Value} (h:Vals xs us):∀k:Nat,Vals (List.replicate k xs).flatten (List.replicate k us).flatten
 |0=>.nil
 |k+1=>by
  rw[List.replicate_succ,List.replicate_succ,List.flatten_cons,List.flatten_cons]
  exact Vals.append h (Vals.rep h k)
theorem QN {α:Type}:∀(l:List α) (i:Nat),(l.eraseIdx i).length<=l.length
 | [],_=>Nat.le_refl _
 |_::_,0=>Nat.le_succ _
 |_::r,i+1=>Nat.succ_le_succ (QN r i)
theorem QX (its:List Value):∀(k:Nat) (acc:List Value),
  List.foldl (fun x1 x2=>x1++x2) acc.toArray (List.replicate k its.toArray)=(acc++(List.replicate k its).flatten).toArray
 |0,acc=>by simp
 |k+1,acc=>by
  have e:acc.toArray++its.toArray=(acc++its).toArray:=by simp
  have e2:(acc++its)++(List.replicate k its).flatten=acc++(List.replicate (k+1) its).flatten:=by
   rw[List.replicate_succ,List.flatten_cons,List.append_assoc]
  rw[<-e2, <-QX its k (acc++its), <-e,List.replicate_succ,List.foldl_cons]
section
variable {X:Cx} {pins:List (Addr×Obj)} {σ:St} {H:Hp} {s:Shared} {l:Addr} {xs ys:List V}
theorem Inv.lset {its its':List Value} {n:Nat} {f:Array Value->Array Value} {t':Nat} (I:Inv X pins σ H s) (hH:H l=some (.lst xs))
  (e:s.heap.get? l=some { cls:=.type "list", data:=.seq its.toArray n }) (hf:f its.toArray=its'.toArray) (hv:Vals ys its') (hz:ys.length<=sizeLine) :
  Inv X pins σ (upd H l (.lst ys)) { s with heap:=s.heap.update l (Obj.mapSeq f),toks:=t' }:=by
 have q:=PySem.IsL.update e f
 rw[hf] at q
 refine I.write (x:=l) (e:=l) (by rw[hH]; exact trivial) (.inl rfl) (fun b' u hb hu=>(Heap.get?_update_other s.heap (Obj.mapSeq f) (Ne.symm hb)).trans hu) ⟨_,q⟩ ?_
 exact⟨hz,its',_,hv,q⟩
theorem Inv.lnew {its:List Value} {t':Nat} (I:Inv X pins σ H s) (hv:Vals ys its) (hz:ys.length<=sizeLine) :
  Inv X pins σ (upd H s.heap.objs.size (.lst ys)) { s with heap:=s.heap.push { cls:=.type "list", data:=.seq its.toArray },toks:=t' } :=
 I.laid (fun _ _ q=>Heap.get?_push_of_some _ q) (Nat.le_refl _) ⟨hz,its,0,hv,Heap.get?_push_size _ rfl⟩
theorem Inv.fresh (I:Inv X pins σ H s):H s.heap.objs.size=none:=I.hok.fresh (Nat.le_refl _)
theorem Inv.lstM (I:Inv X pins σ H s) (hH:H l=some (.lst xs)):xs.length<=sizeLine/\∃(its:List Value) (n:Nat),Vals xs its/\xs.length=its.length/\s.heap.get? l=some { cls:=.type "list", data:=.seq its.toArray n }:=by
 obtain⟨z,its,n,r,e⟩:=I.hok l _ hH
 exact⟨z,its,n,r,r.length,e⟩
theorem V1 {n:Nat} (h:n<=sizeLine):Builtin.List.listTooLong n=false:=by
 unfold Builtin.List.listTooLong
 exact decide_eq_false (by omega)
end
section
variable {X:Cx}
def XA:V->List V->Hp->VK->Prop:=fun x vs H Q=>∃l xs y,x=.ref l/\vs=[y]/\H l=some (.lst xs)/\xs.length<sizeLine/\Q .non (upd H l (.lst (xs++[y])))
theorem vS:MtM X "list.append" XA:=by
 intro pins s σ H x vs v us Q I rx rv h
 obtain⟨l,xs,y,rfl,rfl,hH,hz,q⟩:=h
 cases rx
 obtain⟨u,rfl,ru⟩:=rv.one
 obtain⟨z,its,n,r,hl,e⟩:=I.lstM hH
 refine call_meets F.slot_list_append ⟨_,e,rfl⟩ F.entry_list_append (F.args_list_append_2 _ _) (PySem.list_append l its.toArray n u (by rw[List.size_toArray]; omega)) ⟨e, ?_⟩
 refine⟨.non,_,I.lset (its':=its++[u]) hH e (by simp) (r.append (.cons ru .nil)) ?_,rfl,q⟩
 rw[List.length_append,List.length_singleton]
 omega
def rExtend:V->List V->Hp->VK->Prop:=fun x vs H Q=>∃l b xs zs,x=.ref l/\vs=[.ref b]/\H l=some (.lst xs)/\H b=some (.lst zs)/\xs.length+zs.length<=sizeLine/\Q .non (upd H l (.lst (xs++zs)))
theorem mt_extend:MtM X "list.extend" rExtend:=by
 intro pins s σ H x vs v us Q I rx rv h
 obtain⟨l,b,xs,zs,rfl,rfl,hH,hB,hz,q⟩:=h
 cases rx
 obtain⟨u,rfl,ru⟩:=rv.one
 cases ru
 obtain⟨z,its,n,r,hl,e⟩:=I.lstM hH
 obtain⟨z2,its2,n2,r2,hl2,e2⟩:=I.lstM hB
 have hsz:its.toArray.size+its2.toArray.size<=sizeLine:=by rw[List.size_toArray,List.size_toArray]; omega
 have hlong:¬(!its.toArray.isEmpty&&Builtin.List.listTooLong (its.toArray.size+its2.toArray.size))=true:=by
  rw[V1 hsz,Bool.and_false]
  exact Bool.false_ne_true
 refine call_meets F.slot_list_extend ⟨_,e,rfl⟩ F.entry_list_extend (F.args_list_extend_2 _ _)
  (AutoSeq1.list_extend_list_list_0 l its.toArray n b its2.toArray n2 hlong (by rw[List.size_toArray]; omega) (by omega)) ⟨e,e2, ?_⟩
 refine⟨.non,_,I.lset (its':=its++its2) hH e (by simp) (r.append r2) ?_,rfl,q⟩
 rw[List.length_append]
 omega
def rCat:R2:=fun x y H Q=>∃l b xs zs,x=.ref l/\y=.ref b/\H l=some (.lst xs)/\H b=some (.lst zs)/\xs.length+zs.length<=sizeLine/\∀p,H p=none->Q (.ref p) (upd H p (.lst (xs++zs)))
theorem jc:OpR X (binaryOp .Add) rCat:=by
 intro pins s σ H x y v u Q I rx ry h
 obtain⟨l,b,xs,zs,rfl,rfl,hH,hB,hz,q⟩:=h
 cases rx
 cases ry
 obtain⟨z,its,n,r,hl,e⟩:=I.lstM hH
 obtain⟨z2,its2,n2,r2,hl2,e2⟩:=I.lstM hB
 refine PySem.P.add_list e e2 ?_ (by rw[List.size_toArray,List.size_toArray]; omega)
 have ea:its.toArray++its2.toArray=(its++its2).toArray:=by simp
 rw[ea]
 exact⟨.ref _,_,I.lnew (t':=s.toks) (r.append r2) (by rw[List.length_append]; omega),rfl,q _ I.fresh⟩
def rRep:R2:=fun x y H Q=>∃l k xs,x=.ref l/\y=.int k/\H l=some (.lst xs) /\ -(2^63)<=k/\k<2^63/\xs.length*k.toNat<=sizeLine /\
 ∀p,H p=none->Q (.ref p) (upd H p (.lst (List.replicate k.toNat xs).flatten))
theorem len_rep {α:Type} (xs:List α) (k:Nat):(List.replicate k xs).flatten.length=k*xs.length:=by
 induction k with
 |zero=>simp
 |succ k ih=>rw[List.replicate_succ,List.flatten_cons,List.length_append,ih,Nat.succ_mul,Nat.add_comm]
theorem op_rep:OpR X (binaryOp .Mult) rRep:=by
 intro pins s σ H x y v u Q I rx ry h
 obtain⟨l,k,xs,rfl,rfl,hH,h1,h2,hz,q⟩:=h
 cases rx
 obtain⟨t,rfl⟩:=ry
 obtain⟨z,its,n,r,hl,e⟩:=I.lstM hH
 have hlen:its.toArray.size*k.toNat<=sizeLine:=by rw[List.size_toArray, <-hl]; exact hz
 have hcap:¬its.toArray.size*k.toNat>(2^63-1) / 8:=by
  have:(sizeLine:Nat)<=(2^63-1) / 8:=by decide
  omega
 have hfit:¬(!Builtin.List.listFitsIndex k)=true:=by
  rw[fitsIndex_both h1 h2]
  exact Bool.false_ne_true
 have hlong:¬Builtin.List.listTooLong (its.toArray.size*k.toNat)=true:=by
  rw[V1 hlen]
  exact Bool.false_ne_true
 have hnew:List.foldl (fun x1 x2=>x1++x2) #[] (List.replicate (if its.toArray.isEmpty=true then 0 else k.toNat) its.toArray)=(List.replicate k.toNat its).flatten.toArray:=by
  have f0:∀m:Nat,List.foldl (fun x1 x2=>x1++x2) #[] (List.replicate m its.toArray)=(List.replicate m its).flatten.toArray:=fun m=>by
   have:=QX its m []
   rw[List.nil_append] at this
   exact this
  rw[f0]
  cases its with
  |nil=>simp
  |cons a r'=>rw[if_neg (by simp)]
 refine wpAny_binaryOp_repeat_ref (T := "list") (U := "int") (by decide) ⟨_,e,rfl⟩ (fun s'=>typeIs_int s' k t) noFill_list_mul F.fills_int_mul F.slot_int_rmul repeat_list F.slot_int_index.lookup
  (call_meets F.slot_int_rmul (typeIs_int s k t) F.entry_int_rmul (F.args_int_rmul_2 _ _) (int___rmul___int_list k t l its.toArray n)
   ⟨e,rfl,⟨_,e,rfl⟩,call_meets F.slot_list_mul ⟨_,e,rfl⟩ F.entry_list_mul (F.args_list_mul_2 _ _) (AutoListH.list___mul___list_int_3 l its.toArray n k t hfit hcap hlong) ⟨e, ?_⟩⟩)
 rw[hnew]
 exact⟨.ref _,_,I.lnew (t':=s.toks) (r.rep k.toNat) (by rw[len_rep,Nat.mul_comm]; exact hz),rfl,q _ I.fresh⟩
end
end L2
namespace Att
open PySem PySem.W PySem.Calls PyProof.Rows
theorem jh {P:Params} {h:Heap}:∀(ns:List Int) (vs:List Value),WellAll P h vs (ns.map WData.int)->IntsAre vs ns:=by
 intro ns
 induction ns with
 |nil =>
  intro vs w
  rw[List.map_nil] at w
  cases w
  exact .nil
 |cons n ns ih =>
  intro vs w
  rw[List.map_cons] at w
  cases w with
  |cons a b =>
   cases a
   exact .cons _ _ (ih _ b)
theorem Xo {l:OpenLaw} {n:Nat} (hn:l.most=some n) {P:Params} {h:Heap} {args:List WData} {vals:List Value}
  (hpre:l.row.toRowW.claim.pre args=true) (hwl:WellAll P h vals args) :
  ∃a vs ns,vals=[Value.ref a]/\args=[WData.list (ns.map WData.int)]/\h.get? a=some { cls:=.type "list", data:=.seq vs.toArray }/\IntsAre vs ns/\ns.length<=n:=by
 have hsh:WShape.hasAll [] args [.list .int]=true:=(pre_splitW hpre).1
 have hc:l.pre.holds [] { args:=args }=true:=(pre_splitW hpre).2
 obtain⟨d,r,rfl,h1,h2⟩:=hasAllW_cons hsh
 obtain rfl:=hasAllW_nil h2
 obtain⟨xs,rfl,h3⟩:=hasW_list h1
 obtain⟨ns,rfl⟩:=items_int h3
 have hlen:ns.length<=n:=by
  unfold OpenLaw.pre at hc
  have h4:(WTm.not (.lt (.lit (.int (n:Int))) (.len (.arg 0)))).holds [] { args:=[.list (ns.map .int)] }=true:=by
   have h4:=(holds_andW hc).1
   rw[hn] at h4
   exact h4
  have h5:=condW_of h4 (w_not (w_lt w_lit (w_len_list (w_arg rfl))))
  rw[List.length_map] at h5
  refine Nat.le_of_not_lt fun q=>?_
  have q':(n:Int)<((ns.length:Nat):Int):=by omega
  first
   | (rw[decide_eq_true q'] at h5; exact absurd h5 (by decide))
   | (simp at h5; omega)
 cases hwl with
 |cons w1 w2 =>
  cases w2
  cases w1 with
  |list ho hall=>exact⟨_,_,ns,rfl,rfl,ho,jh ns _ hall,hlen⟩
theorem XH (l:OpenLaw) (args:List WData):l.row.toRowW.claim.post args (.bool true) args=true :=
 postW_of (r:=l.row.toRowW) (X:=(true==true))
  (show WShape.has [] (.bool true) .bool=true by first|rfl|decide|simp[WShape.has,WShape.arms,WShape.armsAll])
  (show(WTm.eq .res (.lit (.bool true))).value [] { args:=args,res:=some (.bool true),after:=args }=some (.bool (true==true)) from w_eq_bool (w_res rfl) w_lit) rfl
theorem attach_call {l:OpenLaw} {n:Nat} {q:Program} {loose:List Str} {XP:(Str->Option Value)->Heap->Prop} {YP:World->Heap->Prop} {d:DefRec}
  (hn:l.most=some n) (hdf:d.params.defaults=[])
  (call:∀(w:World) (s₀ s₁:Shared) (mg mb:Str->Option Value) (fa:Addr) (o:Obj) (pm cd doc:Value) (a:Addr) (vs:List Value) (ns:List Int),
   Ground q loose [] XP w s₀ mg mb s₁.heap->YP w s₁.heap ->
   s₁.heap.get? fa=some o->o.data=.func (docDef d.name d.params d.body d.scope pm cd doc)->s₁.heap.CodeRec cd d.name->mg d.name=some (.ref fa) ->
   s₁.heap.get? a=some { cls:=.type "list", data:=.seq vs.toArray }->IntsAre vs ns->ns.length<=n->s₁.gens=#[] ->
   codeAny (model l.prog w) callerA (.call (.ref fa) ⟨[.ref a], []⟩) (fun r s'=>r=.ok (.ret (.bool true))/\OldK s₁.heap s'.heap/\s'.os=s₁.os/\AllBare s'.gens) s₁) :
  WalkO q loose XP YP l.row.toRowW d [] (fun f vs=>PySem.call f vs):=by
 intro w s₀ s₁ mg mb G Y fa o pm cd doc dV kV ho hd hcd hD hmg hg args vals as hpre hlay hrd hwl hlo
 obtain rfl:dV=.none:=Dflts.none hD hdf
 obtain rfl:kV=.none:=Dflts.noKw hD
 obtain⟨a,vs,ns,rfl,rfl,hobj,hints,hlen⟩:=Xo hn hpre hwl
 refine enter_call (codeAny_mono (call w s₀ s₁ mg mb fa o pm cd doc a vs ns G Y ho (fd_plain hd) hcd hmg hobj hints hlen hg) fun r s' hq=>?_)
 obtain⟨rfl,h2,h3,h4⟩:=hq
 exact⟨.inl ⟨.bool true, .bool true, [],rfl,fun _=>rfl, .bool true,XH l _,fun _=>⟨List.Pairwise.nil,fun _ hm=>(nomatch hm)⟩⟩,h2,h3,h4⟩
end Att
namespace L2
open PySem PySem.Spec PyProof.Rows
theorem kZ:∀{vs:List Value} {ns:List Int},IntsAre vs ns->Vals (ns.map V.int) vs
 |_,_, .nil=>.nil
 |_,_, .cons n t h=>.cons ⟨t,rfl⟩ (kZ h)
def inClass (s:Stmt) (j:Nat):Stmt:=match s with
 |.ClassDef _ _ _ body _ _ _ _ _ _ _=>body.getD j (.Pass ⟨0,0,0,0⟩)
 |_=>.Pass ⟨0,0,0,0⟩
def jk (s:Stmt):Arguments:=match s with
 |.FunctionDef _ a _ _ _ _ _ _ _ _=>a
 |_=>{ posonlyargs:=[],args:=[],vararg:=none,kwonlyargs:=[],kw_defaults:=[],kwarg:=none,defaults:=[] }
def vi (s:Stmt):List Stmt:=match s with
 |.FunctionDef _ _ b _ _ _ _ _ _ _=>b
 |_=>[]
def qi (s:Stmt):Scope:=match s with
 |.FunctionDef _ _ _ _ _ _ sc _ _ _=>sc
 |_=>{ kind:=.function,names:=[],isGenerator:=false,isCoroutine:=false }
abbrev CX0:CXT:=fun _ _ _ _ _ _=>False
abbrev E0:XK:=fun _ _ _=>False
theorem pass0 {X:Cx}:Zj CX0 X E0:=fun _ _ _ _ _ _ _ h=>h.elim
structure Fun (K:PySem.W.Frag) (x qual:Str) (st:Stmt) (f:Addr) (fd:FuncData):Prop where
 ex:∃(oc:Value) (od:Option Addr) (kV doc pm:Value) (an:Option Addr) (cdv ct:Value) (osl:Array (Option Value)),
  fd=PySem.W.fnOf x qual (jk st) (vi st) (qi st) .none kV doc pm an cdv ct/\K.lookup f=some ⟨oc,od, .func fd,osl⟩/\PySem.W.codeIn K cdv qual=true
 kp:PySem.W.keepIn K (.ref f)=true
section
variable {P:Program} {w:World} {K:PySem.W.Frag} {mg:Str->Option Value} {base:Heap}
theorem Fun.ok {x qual:Str} {st:Stmt} {f:Addr} {fd:FuncData} {N ps:List Str} {k:Nat} {sp:Sp} (F:Fun K x qual st f fd) (S:FnScope N ps (qi st)) (len:∀vs H Q E,sp vs H Q E->vs.length=ps.length)
  (hbody:∀(cdv:Value) (A:Around) (outer:List Env) (s:Shared) (H:Hp) (vs:List V) (Q:VK) (E:XK),Room k (A.deeper (envOfC qual (qi st) s.heap.objs.size f cdv))->sp vs H Q E ->
   ∃t,PSs (cxOf CX0 P w K mg base N qual (qi st) f cdv A outer s H E).nox (vi st) t/\t { nx:=fun _ H'=>Q .non H',rt:=Q } (start N vs) H):FnOk P w K mg base CX0 (k+1) f fd ps sp:=by
 obtain⟨oc,od,kV,doc,pm,an,cdv,ct,osl,rfl,lk,hcd⟩:=F.ex
 refine fn_of lk hcd S len fun A outer s H vs Q E hr hsp=>?_
 obtain⟨t,h,q⟩:=hbody cdv A outer s H vs Q E hr hsp
 exact⟨t,h.nox,q⟩
theorem Fun.binds {x qual:Str} {st:Stmt} {f:Addr} {fd:FuncData} {ps:List Str} (F:Fun K x qual st f fd)
  (h:∀(kV doc pm:Value) (an:Option Addr) (cdv ct:Value) (us:List Value),us.length=ps.length->bindArgs (PySem.W.fnOf x qual (jk st) (vi st) (qi st) .none kV doc pm an cdv ct) ⟨us, []⟩=pure (ps.zip us)):Binds K fd ps []:=by
 obtain⟨oc,od,kV,doc,pm,an,cdv,ct,osl,rfl,lk,hcd⟩:=F.ex
 exact .all (h kV doc pm an cdv ct)
theorem fun_mk {x qual:Str} {st:Stmt} {f:Addr} {oc:Value} {od an:Option Addr} {osl:Array (Option Value)} {kV doc pm cdv ct:Value} (l:K.lookup f=some ⟨oc,od, .func (PySem.W.fnOf x qual (jk st) (vi st) (qi st) .none kV doc pm an cdv ct),osl⟩)
  (c:PySem.W.codeIn K cdv qual=true) (k:PySem.W.keepIn K (.ref f)=true):Fun K x qual st f (PySem.W.fnOf x qual (jk st) (vi st) (qi st) .none kV doc pm an cdv ct):=⟨⟨oc,od,kV,doc,pm,an,cdv,ct,osl,rfl,l,c⟩,k⟩
end
theorem hu_of {A:Around} {k:Nat} (hr:Room k A):A.units+1<cLine:=Nat.lt_of_le_of_lt (Nat.add_le_add_left (by decide:1<=64) _) hr.units
theorem qH {n:Nat} (h:n<=1000):n<sizeLine:=Nat.lt_of_le_of_lt h (by decide)
section
variable {X:Cx}
theorem pv (i:Nat) {x:Str} {pos:Pos} (hN:X.N[i]?=some x:=by rfl) (hv:Vis X.env.scope x:=by first|exact Or.inl rfl|exact Or.inr (Or.inl rfl)|exact Or.inr (Or.inr rfl)) (hd:(x==("__debug__" : Str))=false:=by decide)
  (hcd:(x==("__classdict__" : Str))=false:=by decide):PE X (.Name x pos) (tVar i):=pe_var hN hv hd hcd
end
theorem ite2 {c A B:Prop} [Decidable c] (h1:c->A) (h2:¬c->B):if c then A else B:=by
 by_cases h:c
 ·rw[if_pos h]
  exact h1 h
 ·rw[if_neg h]
  exact h2 h
def Same (H H':Hp):Prop:=∀b o,H b=some o->H' b=some o
theorem Same.refl (H:Hp):Same H H:=fun _ _ h=>h
theorem Same.trans {H H1 H2:Hp} (a:Same H H1) (b:Same H1 H2):Same H H2:=fun c o h=>b c o (a c o h)
theorem Same.free {H H':Hp} (e:Same H H') {l:Addr} (h:H' l=Option.none):H l=Option.none:=by
 cases q:H l with
 |none=>rfl
 |some o =>
  rw[e l o q] at h
  cases h
theorem Same.seq {K:PySem.W.Frag} {H H':Hp} {a:Addr} {xs:List V} (e:Same H H') (h:SqL K H a xs):SqL K H' a xs:=by
 rcases h with(h|⟨o,h⟩)|h
 ·exact .inl (.inl (e _ _ h))
 ·exact .inl (.inr ⟨o,e _ _ h⟩)
 ·exact .inr h
section
variable {κ:Type} [DecidableEq κ]
def valV (kvs:List (κ×V)) (k:κ):Option V:=(kvs.find? fun kv=>decide (kv.1=k)).map (·.2)
def putK (kvs:List (κ×V)) (k:κ) (v:V):List (κ×V) :=
 if(kvs.any fun kv=>decide (kv.1=k))=true then kvs.map (fun kv=>if kv.1=k then(kv.1,v) else kv) else kvs++[(k,v)]
def dropK (kvs:List (κ×V)) (k:κ):List (κ×V):=kvs.filter fun kv=>decide (kv.1≠k)
theorem VL {p:κ×V} {r:List (κ×V)} {k:κ} (e:p.1=k):valV (p::r) k=some p.2:=by simp[valV,List.find?_cons,e]
theorem VM {p:κ×V} {r:List (κ×V)} {k:κ} (e:¬p.1=k):valV (p::r) k=valV r k:=by simp[valV,List.find?_cons,e]
theorem Vv (kvs:List (κ×V)) (k:κ) (v:V):(putK kvs k v).length<=kvs.length+1:=by
 unfold putK
 split
 ·rw[List.length_map]; omega
 ·rw[List.length_append,List.length_cons,List.length_nil]; omega
theorem RelO.getD {o:Option V} {u:Option Value} {d:V} {d':Value} (r:RelO o u) (rd:RelV d d'):RelV (o.getD d) (u.getD d'):=by
 cases o with
 |none=>cases u with
  |none=>exact rd
  |some _=>exact(show False from r).elim
 |some _=>cases u with
  |none=>exact(show False from r).elim
  |some _=>exact r
theorem KV.val {kvs:List (κ×V)} {vs:List (κ×Value)} (r:KV kvs vs) (k:κ):RelO (valV kvs k) (valueAt vs k):=by
 unfold KV at r
 induction r with
 |nil=>exact True.intro
 | @cons p q ps qs h t ih =>
  obtain⟨h1,h2⟩:=h
  by_cases e:p.1=k
  ·have e':q.1=k:=h1.symm.trans e
   have b:valueAt (q::qs) k=some q.2:=by simp[valueAt,List.find?_cons,e']
   rw[VL e,b]; exact h2
  ·have e':¬q.1=k:=fun z=>e (h1.trans z)
   have b:valueAt (q::qs) k=valueAt qs k:=by simp[valueAt,List.find?_cons,e']
   rw[VM e,b]; exact ih
theorem KV.any {kvs:List (κ×V)} {vs:List (κ×Value)} (r:KV kvs vs) (k:κ):(kvs.any fun kv=>decide (kv.1=k))=vs.any fun kv=>decide (kv.1=k):=by
 unfold KV at r
 induction r with
 |nil=>rfl
 |cons h t ih=>rw[List.any_cons,List.any_cons,ih,h.1]
theorem KV.repl {kvs:List (κ×V)} {vs:List (κ×Value)} (r:KV kvs vs) (k:κ) {y:V} {u:Value} (ry:RelV y u) :
  KV (kvs.map fun kv=>if kv.1=k then(kv.1,y) else kv) (vs.map fun kv=>if kv.1=k then(kv.1,u) else kv):=by
 unfold KV at r ⊢
 induction r with
 |nil=>exact .nil
 | @cons p q ps qs h t ih =>
  rw[List.map_cons,List.map_cons]
  refine .cons ?_ ih
  obtain⟨h1,h2⟩:=h
  by_cases e:p.1=k
  ·rw[if_pos e,if_pos (h1.symm.trans e)]; exact⟨h1,ry⟩
  ·rw[if_neg e,if_neg (fun z=>e (h1.trans z))]; exact⟨h1,h2⟩
theorem KV.put {kvs:List (κ×V)} {vs:List (κ×Value)} (r:KV kvs vs) (k:κ) {y:V} {u:Value} (ry:RelV y u):KV (putK kvs k y) (stored vs k u):=by
 unfold putK stored
 rw[r.any k]
 by_cases e:(vs.any fun kv=>decide (kv.1=k))=true
 ·rw[if_pos e,if_pos e]; exact r.repl k ry
 ·rw[if_neg e,if_neg e]; exact Paired.snoc r ⟨rfl,ry⟩
theorem KV.drop {kvs:List (κ×V)} {vs:List (κ×Value)} (r:KV kvs vs) (k:κ):KV (dropK kvs k) (without vs k):=by
 unfold KV at r ⊢
 unfold dropK without
 induction r with
 |nil=>exact .nil
 | @cons p q ps qs h t ih =>
  obtain⟨h1,h2⟩:=h
  rw[List.filter_cons,List.filter_cons]
  by_cases e:p.1=k
  ·have a:¬decide (p.1≠k)=true:=by simp[e]
   have b:¬decide (q.1≠k)=true:=by simp[h1.symm.trans e]
   rw[if_neg a,if_neg b]; exact ih
  ·have e':¬q.1=k:=fun z=>e (h1.trans z)
   have a:decide (p.1≠k)=true:=by simp[e]
   have b:decide (q.1≠k)=true:=by simp[e']
   rw[if_pos a,if_pos b]; exact .cons ⟨h1,h2⟩ ih
theorem KV.length {kvs:List (κ×V)} {vs:List (κ×Value)} (r:KV kvs vs):kvs.length=vs.length:=Paired.length r
end
theorem kV_is {P:Program} {w:World} {k:Key} {u:Value} (r:RelV (kV k) u):(qX P w).is k u=true:=by
 cases k with
 |inl i=>obtain⟨t,e⟩:=(show ∃t,u=Value.int i t from r); subst e; exact Vr P w i t
 |inr x=>obtain⟨t,e⟩:=(show ∃t,u=Value.str x t from r); subst e; exact zS P w x t
 |non=>cases(show u=Value.none from r); rfl
theorem QP {P:Program} {w:World}:∀{ks:List Key} {us:List Value},Vals (ks.map kV) us->ItemsAre (qX P w) ks us
 | [],_,r=>by rw[List.map_nil] at r; cases r; exact .nil
 |k::ks,_,r=>by
  rw[List.map_cons] at r
  cases r with
  |cons h t=>exact .cons (kV_is h) (QP t)
abbrev KT (H:Hp):List (List Key×V)->List (List Key×Addr×Value)->Prop:=Paired fun p q=>p.1=q.1/\H q.2.1=some (.tup (p.1.map kV))/\RelV p.2 q.2.2
theorem KT.val {H:Hp} {kvs:List (List Key×V)} {xs:List (List Key×Addr×Value)} (r:KT H kvs xs) (k:List Key):RelO (valV kvs k) ((atKey xs k).map (·.2)):=by
 induction r with
 |nil=>exact True.intro
 | @cons p q ps qs h t ih =>
  obtain⟨h1,_,h2⟩:=h
  by_cases e:p.1=k
  ·have e':q.1=k:=h1.symm.trans e
   have b:atKey (q::qs) k=some q.2:=by simp[atKey,List.find?_cons,e']
   rw[VL e,b]; exact h2
  ·have e':¬q.1=k:=fun z=>e (h1.trans z)
   have b:atKey (q::qs) k=atKey qs k:=by simp[atKey,List.find?_cons,e']
   rw[VM e,b]; exact ih
section
variable {P:Program} {w:World} {H:Hp} {h:Heap} {a:Addr}
theorem rd_of {u:HO} (ok:HOk P w H h) (e:Rd H a u):ObjOk P w H h a u:=e.ok ok
theorem dk_rd {kvs:List (Key×V)} (ok:HOk P w H h) (e:Rd H a (.dK kvs)):kvs.length<=sizeLine/\(a==sysModules)=false/\∃vs,KV kvs vs/\h.DictOf (qX P w) a vs :=
 show ObjOk P w H h a (.dK kvs) from rd_of ok e
theorem dk_of {kvs:List (Key×V)} (ok:HOk P w H h) (e:H a=some (.dK kvs)):kvs.length<=sizeLine/\(a==sysModules)=false/\∃vs,KV kvs vs/\h.DictOf (qX P w) a vs:=dk_rd ok (.inl e)
theorem key_of {ks:List Key} (ok:HOk P w H h) (e:H a=some (.tup (ks.map kV))):(tupleKind (qX P w)).is h ks a:=by
 obtain⟨_,its,r,o,h1,h2,n,h3⟩:=(show ObjOk P w H h a (.tup (ks.map kV)) from ok a _ e)
 exact⟨o,its.toArray,n,h1,h2,h3,by simpa using QP r⟩
theorem dt_rd {kvs:List (List Key×V)} (ok:HOk P w H h) (e:Rd H a (.dT kvs)):kvs.length<=sizeLine/\(a==sysModules)=false /\
  ∃xs,KT H kvs xs/\h.DictOfH (tupleKind (qX P w)) a xs:=by
 obtain⟨z,y,xs,r,o,es,ep,h1,h2,h3,h4,h5⟩:=(show ObjOk P w H h a (.dT kvs) from rd_of ok e)
 refine⟨z,y,xs,r,o,es,ep,h1,h2,h3,h4,fun x hx=>?_,h5⟩
 have all:∀{l:List (List Key×V)} {m:List (List Key×Addr×Value)},KT H l m->∀x∈m,(tupleKind (qX P w)).is h x.1 x.2.1:=by
  intro l m q
  induction q with
  |nil=>intro x hx; exact nomatch hx
  | @cons p q ps qs hq t ih =>
   intro x hx
   rcases List.mem_cons.mp hx with e|hx
   ·subst e
    exact key_of ok (by rw[<-hq.1]; exact hq.2.1)
   ·exact ih x hx
 exact all r x hx
end
def DGet (H:Hp) (a:Addr) (y:V) (r:Option V):Prop :=
 (∃kvs k,Rd H a (.dK kvs)/\y=kV k/\r=valV kvs k)\/∃kvs k b,Rd H a (.dT kvs)/\y=.ref b/\H b=some (.tup (k.map kV))/\r=valV kvs k
def DPut (H:Hp) (a:Addr) (y v:V) (H':Hp):Prop :=
 (∃kvs k,H a=some (.dK kvs)/\y=kV k/\kvs.length<sizeLine/\H'=upd H a (.dK (putK kvs k v))) \/
 ∃kvs k b,H a=some (.dT kvs)/\y=.ref b/\H b=some (.tup (k.map kV))/\kvs.length<sizeLine/\H'=upd H a (.dT (putK kvs k v))
theorem DGet.k {H:Hp} {a:Addr} {kvs:List (Key×V)} {k:Key} (e:H a=some (.dK kvs)):DGet H a (kV k) (valV kvs k):=.inl ⟨kvs,k, .inl e,rfl,rfl⟩
theorem DGet.t {H:Hp} {a b:Addr} {kvs:List (List Key×V)} {k:List Key} (e:H a=some (.dT kvs)) (eb:H b=some (.tup (k.map kV))):DGet H a (.ref b) (valV kvs k):=.inr ⟨kvs,k,b, .inl e,rfl,eb,rfl⟩
theorem DPut.k {H:Hp} {a:Addr} {kvs:List (Key×V)} {k:Key} {v:V} (e:H a=some (.dK kvs)) (hl:kvs.length<sizeLine):DPut H a (kV k) v (upd H a (.dK (putK kvs k v))):=.inl ⟨kvs,k,e,rfl,hl,rfl⟩
theorem DPut.t {H:Hp} {a b:Addr} {kvs:List (List Key×V)} {k:List Key} {v:V} (e:H a=some (.dT kvs)) (eb:H b=some (.tup (k.map kV))) (hl:kvs.length<sizeLine) :
  DPut H a (.ref b) v (upd H a (.dT (putK kvs k v))):=.inr ⟨kvs,k,b,e,rfl,eb,hl,rfl⟩
section
variable {X:Cx} {pins:List (Addr×Obj)} {σ:St} {H:Hp} {s:Shared} {a:Addr} {y v:V} {u:Value} {o:Option V} {A:Around} {E:Value->Shared->Prop}
theorem Inv.big (I:Inv X pins σ H s):sysModules<s.heap.objs.size:=by
 have h:mainGlobals<s.heap.objs.size:=(I.mod.glob.keeps I.bk).lt
 exact Nat.lt_trans (by decide) h
theorem JD {Q:Value->Shared->Prop} (hu:A.units+1<cLine) (I:Inv X pins σ H s) (g:DGet H a y (some v)) (ry:RelV y u) (h:∀w' s',Inv X pins σ H s'->RelV v w'->Q w' s') :
  wpAny (model X.prog X.w) A (getItem (.ref a) u) Q E s:=by
 rcases g with⟨kvs,k,e,ey,l⟩|⟨kvs,k,b,e,ey,eb,l⟩
 ·subst ey
  obtain⟨z,hd,vs,rel,dd⟩:=dk_rd I.hok e
  obtain⟨w',hw,rw'⟩:=RelO.some_of (v:=v) (o:=valueAt vs k) (by rw[l]; exact rel.val k)
  exact wpAny_getItem_of (kV_is ry) dd.mapOf hw (h w' _ (I.tok _) rw')
 ·subst ey
  cases(show u=Value.ref b from ry)
  obtain⟨z,hd,xs,rel,dd⟩:=dt_rd I.hok e
  obtain⟨w',hw,rw'⟩:=RelO.some_of (v:=v) (o:=(atKey xs k).map (·.2)) (by rw[l]; exact rel.val k)
  obtain⟨p,hp,hp2⟩:=Option.map_eq_some_iff.mp hw
  refine wpAny_getItem_heap (tupleKind_room_in1 hu) (key_of I.hok eb) dd hp ?_
  rw[hp2]
  exact h w' _ (I.tok _) rw'
theorem d_write {h':Heap} {t':Nat} {ob:HO} (I:Inv X pins σ H s) (mu:Mut (H a)) (hs:Heap.SameBut a s.heap h') (he:∃q,h'.get? a=some q) (new:ObjOk X.prog X.w (upd H a ob) h' a ob) :
  Inv X pins σ (upd H a ob) { s with heap:=h',toks:=t' } :=
 I.write (x:=a) (e:=a) mu (.inl rfl) (fun b q hb z=>(hs.2 b hb).trans z) he new
theorem dk_new {P:Program} {w:World} {H':Hp} {h':Heap} {kvs:List (Key×V)} {vs:List (Key×Value)} (z:kvs.length<=sizeLine) (hd:(a==sysModules)=false) (rel:KV kvs vs) (dd:h'.DictOf (qX P w) a vs) :
  ObjOk P w H' h' a (.dK kvs):=⟨z,hd,vs,rel,dd⟩
end
def NoSl (i:Expr):Prop:=∀ov iv,subscripted i false ov iv=operate [ov,iv] (getItem ov iv)
theorem Xm {prog:Program} {w:World} {A:Around} {E:Value->Shared->Prop} {s:Shared} {env:Env} {value slice:Expr} {pos:Pos} {T id:String} {Q:Value->Shared->Prop}
  (hl:typeLookup (.type T) "__getitem__" = pure (some (.builtin id))) (hs:NoSl slice)
  (h:wpAny (model prog w) A (eval value env) (fun o s₁=>wpAny (model prog w) A (eval slice env) (fun i s₂=>s₂.TypeIs o T/\wpAny (model prog w) A (getItem o i) Q E s₂) E s₁) E s) :
  wpAny (model prog w) A (eval (.Subscript value slice pos) env) Q E s:=by
 refine Subscript_ (wpAny_mono h (fun o s₁ h₁=>wpAny_mono h₁ (fun i s₂ h₂=>?_) fun _ _ x=>x) fun _ _ x=>x)
 obtain⟨hT,h₂⟩:=h₂
 unfold subscriptTail
 refine wpAny_bind ?_
 rw[getitemInPython_of_ne hT.not_modules]
 refine wpAny_bind (wpAny_specialOf hT hl ?_)
 have fin:wpAny (model prog w) A (subscripted slice false o i) (fun r s₃=>wpAny (model prog w) A (letTemporaryGo value o r >>= fun _=>pure r) Q E s₃) E s₂:=by
  rw[hs o i]
  exact wpAny_operating (wpAny_mono h₂ (fun r s₃ h₃=>wpAny_bind (wpAny_letTemporaryGo (wpAny_pure h₃))) fun _ _ x=>x)
 first
  |exact wpAny_pure (wpAny_bind fin)
  |exact wpAny_bind (wpAny_pure (wpAny_bind fin))
  |exact wpAny_bind fin
theorem VC {X:Cx} {pins:List (Addr×Obj)} {σ:St} {H:Hp} {s:Shared} {a:Addr} {y:V} {o:Option V} (I:Inv X pins σ H s) (g:DGet H a y o):s.TypeIs (.ref a) "dict" := by
 rcases g with⟨kvs,k,e,_,_⟩|⟨kvs,k,b,e,_,_,_⟩
 ·obtain⟨_,_,vs,_,dd⟩:=dk_rd I.hok e
  exact dd.typeIs
 ·obtain⟨_,_,xs,_,dd⟩:=dt_rd I.hok e
  exact dd.typeIs
def tDGet (td ty:TE):TE:=fun σ H Q=>td σ H fun x H1=>ty σ H1 fun y H2=>∃a v,x=.ref a/\DGet H2 a y (some v)/\Q v H2
section
variable {X:Cx} {o i:Expr} {pos:Pos} {td ty:TE}
theorem pe_dget (hu:X.A.units+1<cLine) (ho:PE X o td) (hi:PE X i ty) (hs:NoSl i):PE X (.Subscript o i pos) (tDGet td ty):=by
 intro pins s σ H Q I h
 refine Xm PySem.F.slot_dict_getitem.lookup hs (thn (ho pins s σ H _ I h) fun u s1 ⟨x,H1,I1,rx,q1⟩=>thn (hi pins s1 σ H1 _ I1 q1) fun iv s2 ⟨y,H2,I2,ry,a,v,ex,g,q2⟩=>?_)
 subst ex
 obtain rfl:u=Value.ref a:=rx
 exact⟨VC I2 g,JD hu I2 g ry fun w' s3 I3 rw'=>⟨v,H2,I3,rw',q2⟩⟩
end
theorem dk_empty {P:Program} {w:World} {H:Hp} (h:Heap) (hb:sysModules<h.objs.size):ObjOk P w H (h.push { cls:=.type "dict", data:=.dict #[] }) h.objs.size (.dK []) :=
 ⟨Nat.zero_le _,beq_eq_false_iff_ne.mpr (Ne.symm (Nat.ne_of_lt hb)), [], .nil,Heap.DictOf.new h⟩
def VS:List (TE×TE)->St->Hp->(List (V×V)->Hp->Prop)->Prop
 | [],_,H,Q=>Q [] H
 | (tk,tv)::r,σ,H,Q=>tk σ H fun x H1=>tv σ H1 fun y H2=>VS r σ H2 fun ps H3=>Q ((x,y)::ps) H3
abbrev VV:List (V×V)->List (Value×Value)->Prop:=Paired fun p q=>RelV p.1 q.1/\RelV p.2 q.2
def PPs (X:Cx) (pos:Pos) (keys:List (Option Expr)) (values:List Expr) (trs:List (TE×TE)):Prop :=
 ∀(pins:List (Addr×Obj)) (s:Shared) (σ:St) (H:Hp) (Q:List (V×V)->Hp->Prop),Inv X pins σ H s->VS trs σ H Q ->
  wpAny (model X.prog X.w) X.A (evalPairs (pairTrees keys values X.env pos)) (fun vs s'=>∃ps H',Inv X pins σ H' s'/\VV ps vs/\Q ps H') X.xe s
theorem pps_nil {X:Cx} {pos:Pos}:PPs X pos [] [] []:=fun pins s σ H Q I h=>pairTrees_nil_walk ⟨[],H,I, .nil,h⟩
theorem pps_cons {X:Cx} {pos:Pos} {k v:Expr} {ks:List (Option Expr)} {vs:List Expr} {tk tv:TE} {trs:List (TE×TE)} (hk:PE X k tk) (hv:PE X v tv) (hr:PPs X pos ks vs trs) :
  PPs X pos (some k::ks) (v::vs) ((tk,tv)::trs):=fun pins s σ H Q I h =>
 pairTrees_cons_walk (thn (hk pins s σ H _ I h) fun u s1 ⟨x,H1,I1,rx,q1⟩=>thn (hv pins s1 σ H1 _ I1 q1) fun w2 s2 ⟨y,H2,I2,ry,q2⟩ =>
  thn (hr pins s2 σ H2 _ I2 q2) fun ws s3 ⟨ps,H3,I3,rel,q3⟩=>⟨(x,y)::ps,H3,I3, .cons ⟨rx,ry⟩ rel,q3⟩)
def je (kvs more:List (Key×V)):List (Key×V):=more.foldl (fun acc kv=>putK acc kv.1 kv.2) kvs
theorem KV.merge:∀{more:List (Key×V)} {rs:List (Key×Value)} {kvs:List (Key×V)} {vs:List (Key×Value)},KV more rs->KV kvs vs->KV (je kvs more) (merged vs rs):=by
 intro more rs kvs vs r
 unfold KV at r
 induction r generalizing kvs vs with
 |nil=>intro q; exact q
 | @cons p q ps qs h t ih =>
  intro r0
  have e:KV (putK kvs p.1 p.2) (stored vs q.1 q.2):=by
   have:=r0.put p.1 h.2
   rw[<-h.1]; exact this
  exact ih e
theorem xi:∀(more kvs:List (Key×V)),(je kvs more).length<=kvs.length+more.length
 | [],kvs=>by show kvs.length<=kvs.length+0; omega
 |p::r,kvs=>by
  have h1:=xi r (putK kvs p.1 p.2)
  have h2:=Vv kvs p.1 p.2
  show(je (putK kvs p.1 p.2) r).length<=_
  rw[List.length_cons]; omega
theorem jN {P:Program} {w:World}:∀{kvs:List (Key×V)} {ws:List (Value×Value)},VV (kvs.map fun kv=>(kV kv.1,kv.2)) ws->∃rs,Carries (qX P w) ws rs/\KV kvs rs
 | [],_,r=>by rw[List.map_nil] at r; cases r; exact⟨[],True.intro, .nil⟩
 |p::kvs,_,r=>by
  rw[List.map_cons] at r
  cases r with
  | @cons a b as bs h t =>
   obtain⟨rs,c,q⟩:=jN (P:=P) (w:=w) t
   obtain⟨b1,b2⟩:=b
   exact⟨(p.1,b2)::rs,⟨kV_is h.1,rfl,c⟩, .cons ⟨rfl,h.2⟩ q⟩
def tDisp (trs:List (TE×TE)):TE:=fun σ H Q=>∀p,H p=none->VS trs σ (upd H p (.dK [])) fun ps H2=>H2 p=some (.dK [])/\∃kvs:List (Key×V),ps=kvs.map (fun kv=>(kV kv.1,kv.2))/\kvs.length<=15/\Q (.ref p) (upd H2 p (.dK (je [] kvs)))
theorem pe_disp {X:Cx} {pos:Pos} {keys:List (Option Expr)} {values:List Expr} {trs:List (TE×TE)} (h:PPs X pos keys values trs) (hall:keys.all (·.isSome)=true) (hl:keys.length=values.length) (h0:keys≠[])
  (h15:keys.length<=15):PE X (.Dict keys values pos) (tDisp trs):=by
 intro pins s σ H Q I q
 have hn:=I.hok.fresh (Nat.le_refl s.heap.objs.size)
 have I1:=I.laid (a:=s.heap.objs.size) (o:=.dK []) (h':=s.heap.push { cls:=.type "dict", data:=.dict #[] }) (t':=s.toks) (fun _ _ q=>Heap.get?_push_of_some _ q) (Nat.le_refl _) (dk_empty s.heap I.big)
 refine wpAny_Dict_walk (knd:=qX X.prog X.w) hall hl h0 h15 (thn (h pins _ σ _ _ I1 (q _ hn)) fun ws s2 ⟨ps,H2,I2,rel,e,kvs,ep,lk,q2⟩=>?_)
 subst ep
 obtain⟨rs,c,rk⟩:=jN (P:=X.prog) (w:=X.w) rel
 obtain⟨z,hd,vs0,r0,dd⟩:=dk_of I2.hok e
 cases r0
 refine⟨rs,c,dd,fun h' dd' hs=>⟨.ref s.heap.objs.size,_, ?_,rfl,q2⟩⟩
 have hz:(je [] kvs).length<=sizeLine:=by
  have h1:=xi kvs []
  rw[List.length_nil] at h1
  rw[sizeLine_eq]; omega
 have he:∃q,h'.get? s.heap.objs.size=some q:=let⟨q,_,_,hq,_⟩:=dd'; ⟨q,hq⟩
 exact d_write I2 (by rw[e]; exact True.intro) hs he (dk_new hz hd (rk.merge .nil) dd')
structure M2 (X:Cx) (o:Expr) (m:Str) (apos:Pos) (e f:Expr) (cpos:Pos):Prop where
 base:attributeBase o m X.env (eval o X.env)=eval o X.env
 few:((backTo cpos (starEach [e,f] X.env)).all (fun x => !x.1)&&(backToKw cpos (keywordEach [] X.env)).all (fun x=>x.1.isSome)
  && decide (([e,f]:List Expr).length+([]:List Keyword).length+(if([]:List Keyword).isEmpty then 0 else 1)<30))=true
 line:(apos.endLine==cpos.line)=true
 trees:backTo cpos (starEach [e,f] X.env)=[(false,eval e X.env),(false,eval f X.env)]
def cxC (X:Cx) (scope:Scope) (cl:List (Str×Addr)) (M:List Str) (fp:List Addr) (s:Shared) (H:Hp):Cx :=
 { X with N:=M,s₀:=s,H₀:=H,env:=compEnvC scope cl s.heap.objs.size X.env,outer:=X.stack,stack:=X.stack,ex:=fp,fn:=fun _=>false,pn:=[],xe:=fun _ _=>False }
def vV (bs:List Bool) (n:Nat) (σ:St):St:=(bs.zip σ).map (fun p=>if p.1 then p.2 else none)++List.replicate n none
def ExtS (σ τ:St):Prop:=∀(i:Nat) v,σ[i]?=some (some v)->τ[i]?=some (some v)
theorem ExtS.refl (σ:St):ExtS σ σ:=fun _ _ h=>h
theorem ExtS.trans {a b c:St} (h:ExtS a b) (k:ExtS b c):ExtS a c:=fun i v e=>k i v (h i v e)
theorem ExtS.put {σ τ:St} {i:Nat} {v:V} (h:ExtS σ τ) (e:σ[i]?=some none):ExtS σ (τ.set i (some v)):=fun j w q=>by
 by_cases hj:i=j
 ·subst hj; rw[e] at q; cases q
 ·rw[List.getElem?_set_ne hj]; exact h j w q
def CompW (J:It) (acc:Addr) (g:TG) (tt:TT) (te:TE) (σ0:St) (H1:Hp) (Q:VK):Prop:=∃W:Nat->Nat->Hp->Prop,(∃m,W 0 m (upd H1 acc (.lst []))) /\
 ∀i m H2,W i m H2->(J.stop i H2/\Q (.ref acc) H2)\/(J.go i H2/\∃N:Hp->Prop,(∀H',N H'->∃m',m'<m/\W (i+1) m' H')/\∀x H3,J.yld i H2 x H3->g x σ0 H3 fun σ4 H4=>(ExtS σ0 σ4/\σ4.length=σ0.length)/\tt σ4 H4 fun b H5 =>
  if b=true then te σ4 H5 fun v H6=>∃ys,H6 acc=some (.lst ys)/\ys.length<sizeLine/\N (upd H6 acc (.lst (ys++[v]))) else N H5)
def xq (wi:TI) (bs:List Bool) (n:Nat) (g:TG) (tt:TT) (te:TE):TE:=fun σ H Q=>wi σ H fun J H1=>∀acc,H1 acc=none->CompW J acc g tt te (vV bs n σ) H1 Q
def PTs (X:Cx) (ifs:List Expr) (t:TT):Prop :=
 ∀(pins:List (Addr×Obj)) (s:Shared) (σ:St) (H:Hp) (Q:Bool->Hp->Prop),Inv X pins σ H s->t σ H Q ->
  wpAny (model X.prog X.w) X.A (forIn ifs true fun c r=>if r=true then do let ok <-isTrue c X.env (eval c X.env); pure (ForInStep.yield ok) else pure (ForInStep.yield r)) (TP X pins σ Q) X.xe s
def tYes:TT:=fun _ H Q=>Q true H
theorem pts_nil {X:Cx}:PTs X [] tYes:=fun _ _ _ H _ I h=>wpAny_tests_nil ⟨H,I,h⟩
theorem pts_one {X:Cx} {c:Expr} {t:TT} (h:PT X c t):PTs X [c] t:=fun pins s σ H Q I q=>wpAny_tests_one (h pins s σ H Q I q)
structure CompS (X:Cx) (scope:Scope) (cl:List (Str×Addr)) (bs:List Bool) (ext:List Str):Prop where
 clos:closureFor scope X.env=pure cl
 cell:∀y∈scope.names,y.2 ≠ .cell
 kind:scope.kind=.function
 names:∀y∈scope.names,y.2=.local->scope.names.lookup y.1=some .local
 sub:∀x c,cl.lookup x=some c->X.env.cells.lookup x=some c
 has:∀x,((relabel scope X.env).names.lookup x=some .cell\/(relabel scope X.env).names.lookup x=some .free)->∃c,cl.lookup x=some c
 len:bs.length=X.N.length
 vis:∀(i:Nat) x,X.N[i]?=some x->bs[i]?=some true->Vis (relabel scope X.env) x->(relabel scope X.env).names.lookup x≠some .local/\(X.env.kindOf x=some .cell\/X.env.kindOf x=some .free)/\Vis X.env.scope x
theorem Jd {bs:List Bool} {n:Nat} {σ:St} (h:bs.length=σ.length):(vV bs n σ).length=σ.length+n:=by
 unfold vV; simp[h]
theorem Je {bs:List Bool} {n:Nat} {σ:St} (h:bs.length=σ.length) {i:Nat} {v:V} (e:(vV bs n σ)[i]?=some (some v)):i<σ.length/\bs[i]?=some true/\σ[i]?=some (some v):=by
 unfold vV at e
 by_cases hi:i<σ.length
 ·rw[List.getElem?_append_left (by simp[h]; exact hi),List.getElem?_map] at e
  have hb:i<bs.length:=by omega
  rw[List.getElem?_eq_getElem (by simp[h]; exact hi)] at e
  simp only[List.getElem_zip,Option.map_some] at e
  split at e
  ·rename_i hb2
   refine⟨hi, ?_, ?_⟩
   ·rw[List.getElem?_eq_getElem hb]; rw[hb2]
   ·rw[List.getElem?_eq_getElem hi]; exact e
  ·cases e
 ·rw[List.getElem?_append_right (by simp[h]; omega),List.getElem?_replicate] at e
  split at e<;>cases e
section
variable {X:Cx} {pins:List (Addr×Obj)} {σ:St} {H:Hp} {s:Shared}
theorem cxC_ok {scope:Scope} {cl:List (Str×Addr)} {bs:List Bool} {ext:List Str} {fp:List Addr} (S:CompS X scope cl bs ext) (I:Inv X pins σ H s) (hf:∀b∈fp,FpOk X pins H b) (hfs:∀b∈fp,b<s.heap.objs.size) :
  (cxC X scope cl (X.N++ext) fp s H).Ok where
 mod:=I.ok.mod
 kind:=S.kind
 glob:=I.ok.glob
 blt:=I.ok.blt
 above:=Nat.le_refl _
 inj:=fun x y c a b=>I.ok.inj x y c (S.sub x c a) (S.sub y c b)
 has:=S.has
 cab:=fun x c h=>nomatch h
 hd:=I.ok.hd
 frames:=I.ok.frames
 stk:=.inl rfl
 exf:=fun b hb=>⟨Nat.ne_of_lt (hfs b hb),fun x c e=>(hf b hb).2.2.2.2.1 x c (S.sub x c e)⟩
 bs:=I.bs
 bsz:=Nat.le_trans I.ok.bsz I.sz
 noex:=fun b o e hb=>by
  rcases(hf b hb).2.2.2.1 with z|z
  ·exact I.ok.noex b o e z
  ·exact absurd (Nat.lt_of_lt_of_le (Nat.lt_of_lt_of_le (Heap.lt_size e) I.ok.bsz) z) (Nat.lt_irrefl _)
 exfs:=fun b hb z=>by
  rcases List.mem_cons.mp (I.stkSub b z) with q|q
  ·exact(hf b hb).2.1 q
  ·exact(hf b hb).2.2.1 q
 funs:=I.stack
 frf:=I.stkFree
theorem JF {scope:Scope} {cl:List (Str×Addr)} {bs:List Bool} {ext:List Str} {fp:List Addr} {h1:Heap} {t':Nat} (S:CompS X scope cl bs ext) (I:Inv X pins σ H s) (hf:∀b∈fp,FpOk X pins H b) (hfs:∀b∈fp,b<s.heap.objs.size)
  (hn:h1.Ns s.heap.objs.size (fun _=>none)) (k:∀b o,s.heap.get? b=some o->h1.get? b=some o) :
  Inv (cxC X scope cl (X.N++ext) fp s H) [] (vV bs ext.length σ) H { s with heap:=h1,toks:=t' }:=by
 have hl:bs.length=σ.length:=S.len.trans I.len.symm
 have cellk:∀c v,s.heap.IsCell c v->h1.IsCell c v:=fun c v ⟨o,ho,hd⟩=>⟨o,k c o ho,hd⟩
 refine⟨cxC_ok S I hf hfs,rfl,I.bare,Un.kept k,⟨_,hn,fun i x v e1 e2 e3=>?_⟩,fun x c e=>?_,I.hok.fresh (Nat.le_refl _),fun x c e=>I.freeC x c (S.sub x c e),fun p hp=>absurd hp (by simp[cxC]),I.hok.kept k, ?_⟩
 ·obtain⟨hi,hb,hs⟩:=Je hl e2
  have e1':X.N[i]?=some x:=by
   have e1'':(X.N++ext)[i]?=some x:=e1
   rwa [List.getElem?_append_left (by have:=I.len; omega)] at e1''
  obtain⟨nl,kk,vv⟩:=S.vis i x e1' hb e3
  obtain⟨m,_,hloc⟩:=I.loc
  obtain⟨u,r,l⟩:=hloc i x v e1' hs vv
  refine⟨u,r, .inr ⟨?_, ?_⟩⟩
  ·rcases e3 with z|z|z
   ·exact absurd z nl
   ·exact .inl z
   ·exact .inr z
  ·have hc:=S.has x (by
    rcases e3 with z|z|z
    ·exact absurd z nl
    ·exact .inl z
    ·exact .inr z)
   obtain⟨c,hc⟩:=hc
   rcases l with⟨kl,_⟩|⟨_,c',hc',hcell⟩
   ·rcases kk with z|z<;>(rw[kl] at z; cases z)
   ·rw[S.sub x c hc] at hc'
    cases hc'
    exact⟨c,hc,cellk c _ hcell⟩
 ·obtain⟨v,z⟩:=I.cell x c (S.sub x c e)
  exact⟨v,cellk c v z⟩
 ·rw[Jd hl,I.len]; show _=(X.N++ext).length; simp
theorem JG {scope:Scope} {cl:List (Str×Addr)} {ext:List Str} {fp:List Addr} {σ':St} {H':Hp} {s':Shared} {h':Heap} {pins':List (Addr×Obj)} (I:Inv X pins σ H s) (hf:∀b∈fp,FpOk X pins H b)
  (J:Inv (cxC X scope cl (X.N++ext) fp s H) pins' σ' H' s') (sb:Heap.SameBut s.heap.objs.size s'.heap h'):Inv X pins σ H' { s' with heap:=h' }:=by
 have B:Un (frs X.stack) fp H H' s.heap s'.heap:=J.base
 have nC:∀b o,s.heap.get? b=some o->b≠s.heap.objs.size:=fun b o e=>Nat.ne_of_lt (Heap.lt_size e)
 refine I.call' (ch:=fp) (s':={ s' with heap:=h' }) J.os ⟨fun b o e n hb hx=>?_,fun b o e n hb hx=>?_,fun b o e n hx=>B.free b o e n hx,fun b o e hx=>?_,B.tups,B.frzs,B.tbls⟩ ?_ J.bare fun b hb=>⟨(hf b hb).2.2.2.1,(hf b hb).2.1,(hf b hb).2.2.2.2.1,(hf b hb).2.2.2.2.2⟩
 ·exact sb.extBut b o (nC b o e) (B.keep b o e n hb hx)
 ·obtain⟨sl,q⟩:=B.slot b o e n hb hx
  exact⟨sl,sb.extBut b _ (nC b o e) q⟩
 ·obtain⟨o',q⟩:=B.there b o e hx
  exact⟨o',sb.extBut b o' (nC b o e) q⟩
 ·intro a o e
  have fr:H' s.heap.objs.size=none:=J.free
  refine(J.hok a o e).stay (fun b u hb q=>sb.extBut b u ?_ q) (fun _ q=>q) fun _ _ q=>q
  rcases hb with z|z
  ·subst z; intro z; rw[z,fr] at e; cases e
  ·intro z2; rw[z2,fr] at z; cases z
end
section
variable {X:Cx} {elt tg iter:Expr} {ifs:List Expr} {scope:Scope} {cl:List (Str×Addr)} {bs:List Bool} {ext:List Str} {pos:Pos} {wi:TI} {g:TG} {tt:TT} {te:TE}
theorem Za {use:Option (Value->Sem Unit)} {pins:List (Addr×Obj)} {s:Shared} {σ:St} {H:Hp} {Q:VK} {RR:Value->Shared->Prop} (S:CompS X scope cl bs ext) (hc:X.calm=true) (hi:PI X tg iter wi)
  (hg:∀fp s H,PG (cxC X scope cl (X.N++ext) fp s H) tg g) (ht:∀fp s H,PTs (cxC X scope cl (X.N++ext) fp s H) ifs tt) (he:∀fp s H,PE (cxC X scope cl (X.N++ext) fp s H) elt te)
  (hs:∀x,foldedSetIterable iter X.env x=pure x) (I:Inv X pins σ H s) (h:xq wi bs ext.length g tt te σ H Q) (ep:Pos)
  (hend:∀(acc:Addr) (s2:Shared) (H2:Hp) (fp:List Addr) (σ':St) (H':Hp) (s':Shared),Inv X pins σ H2 s2->(∀b∈fp,FpOk X pins H2 b)->Inv (cxC X scope cl (X.N++ext) fp s2 H2) [] σ' H' s'->Q (.ref acc) H' ->
   compPost (model X.prog X.w) X.A X.xe use RR (.ref acc) s2.heap.objs.size (.ok .next) s') :
  wpAny (model X.prog X.w) X.A (comprehension (.ListComp elt [⟨tg,iter,ifs,0⟩] scope pos) scope X.env ep (newList []) false (eval iter X.env) use) RR X.xe s:=by
 refine wpAny_comprehension_free (use:=use) rfl hs S.clos S.kind S.names (thn (hi pins s σ H _ I h) fun v s1 h1=>thn h1 fun itv s2 h2=>?_)
 obtain⟨it,fp,tn,J,H2,e,I2,T,st2,f2,hW⟩:=h2
 subst e
 refine wpAny_newList ?_ (by decide)
 have hn2:H2 s2.heap.objs.size=none:=I2.hok.fresh (Nat.le_refl _)
 obtain⟨W,⟨m0,w0⟩,turn⟩:=hW s2.heap.objs.size hn2
 have I3:=I2.lnew (its:=[]) (ys:=[]) (t':=s2.toks) .nil (Nat.zero_le _)
 generalize hs3:({ s2 with heap:=s2.heap.push { cls:=.type "list", data:=.seq ([]:List Value).toArray },toks:=s2.toks }:Shared)=s3 at I3
 have hsz3:s3.heap.objs.size=s2.heap.objs.size+1:=by rw[<-hs3]; exact Heap.size_push ..
 have k3:∀b o,s2.heap.get? b=some o->s3.heap.get? b=some o:=fun b o e=>by rw[<-hs3]; exact Heap.get?_push_of_some _ e
 have fpo:∀b∈fp,b<s2.heap.objs.size:=fun b hb=>by obtain⟨o,e,_⟩:=T.obj _ _ st2 b hb; exact Heap.lt_size e
 have f3:∀b∈fp,FpOk X pins (upd H2 s2.heap.objs.size (.lst [])) b:=fun b hb=>⟨by rw[upd_ne (Nat.ne_of_lt (fpo b hb))]; exact(f2 b hb).1,(f2 b hb).2⟩
 have fps:∀b∈fp,b<s3.heap.objs.size:=fun b hb=>by rw[hsz3]; exact Nat.lt_succ_of_lt (fpo b hb)
 have st3:tn 0 s3.heap:=T.keep _ _ _ st2 fun b hb o e=>k3 b o e
 refine wpAny_newFunctionEnv S.cell (by intro y hy; simp at hy) (fun h4 hns4 hsb4=>?_) S.kind
 have k4:∀b o,s3.heap.get? b=some o->h4.get? b=some o:=fun b o e=>hsb4.extBut b o (Nat.ne_of_lt (Heap.lt_size e)) (Heap.get?_push_of_some _ e)
 have I4:=JF (ext:=ext) (t':=s3.toks+([]:List (Str×Value)).length) S I3 f3 fps (h1:=h4) hns4 k4
 have st4:tn 0 h4:=T.keep _ _ _ st3 fun b hb o e=>k4 b o e
 generalize hs4:({ s3 with heap:=h4,toks:=s3.toks+([]:List (Str×Value)).length }:Shared)=s4 at I4 ⊢
 have st4':tn 0 s4.heap:=by rw[<-hs4]; exact st4
 -- the block
 generalize hY:cxC X scope cl (X.N++ext) fp s3 (upd H2 s2.heap.objs.size (.lst []))=Y at I4
 have hYs:∀{H':Hp},(∀b∈fp,H' b=none)->∀b∈fp,FpOk Y [] H' b:=fun hn b hb=>by
  subst hY
  refine⟨hn b hb,Nat.ne_of_lt (fps b hb),fun z=>?_, .inl hb,fun x c e=>(f3 b hb).2.2.2.2.1 x c (S.sub x c e),fun p hp=>absurd hp (by simp[cxC])⟩
  rcases List.mem_cons.mp (I3.stkSub b z) with q|q
  ·exact(f3 b hb).2.1 q
  ·exact(f3 b hb).2.2.1 q
 have hgY:PG Y tg g:=by subst hY; exact hg _ _ _
 have htY:PTs Y ifs tt:=by subst hY; exact ht _ _ _
 have heY:PE Y elt te:=by subst hY; exact he _ _ _
 have hYc:Y.calm=true:=by subst hY; exact hc
 have hYm:Y.prog=X.prog/\Y.w=X.w/\Y.K=X.K/\Y.A=X.A/\Y.env=compEnvC scope cl s3.heap.objs.size X.env/\Y.xe=fun _ _=>False:=by subst hY; exact⟨rfl,rfl,rfl,rfl,rfl,rfl⟩
 obtain⟨e1,e2,e3,e4,e5,e6⟩:=hYm
 have never:∀{α:Type} {t:Sem α} {Q:α->Shared->Prop} {s:Shared} {E:Value->Shared->Prop},wpAny (model Y.prog Y.w) Y.A t Q Y.xe s->wpAny (model X.prog X.w) X.A t Q E s:=fun {α t Q s E} q=>by
  rw[e1,e2,e4,e6] at q
  exact wpAny_mono q (fun _ _ z=>z) fun _ _ z=>z.elim
 have loop:codeAny (model X.prog X.w) X.A (.compLoop (.ListComp elt [⟨tg,iter,ifs,0⟩] scope pos) 0 (.ref it) (.ref s2.heap.objs.size) (compEnvC scope cl s3.heap.objs.size X.env))
   (compPost (model X.prog X.w) X.A X.xe use RR (.ref s2.heap.objs.size) s3.heap.objs.size) s4:=by
  refine codeAny_loop rfl (fun n s'=>∃i H',Inv Y [] (vV bs ext.length σ) H' s'/\tn i s'.heap/\(∀b∈fp,H' b=none)/\W i n H') (fun n s5 hI=>?_) m0 ⟨0,_,I4,st4',fun b hb=>(f3 b hb).1,w0⟩
  obtain⟨i,H5,I5,st5,fr5,w5⟩:=hI
  show wpAny _ X.A ((compTurn (.ListComp elt [⟨tg,iter,ifs,0⟩] scope pos) 0 (.ref it) (.ref s2.heap.objs.size) (compEnvC scope cl s3.heap.objs.size X.env)).onRaise (fun x=>do noteFrame x (compEnvC scope cl s3.heap.objs.size X.env); theTreesLotGoes x)) _ _ s5
  refine wpAny_noted ?_
  rw[compTurn_list]
  rcases turn i n H5 w5 with⟨stop,qn⟩|⟨go,N,hN,step⟩
  ·refine wpAny_bind (wpAny_standAt (wpAny_bind ?_))
   have hd:=T.done Y e1 e2 e3 hYc i [] s5 _ H5 (fun _ _=>False) I5 (hYs fr5) st5 stop
   rw[e4] at hd
   refine wpAny_mono hd (fun r s6 ⟨hr,I6⟩=>?_) fun _ _ z=>z.elim
   subst hr
   subst hY
   exact wpAny_pure (hend s2.heap.objs.size s3 _ fp _ H5 s6 I3 f3 I6 qn)
  ·refine wpAny_bind (wpAny_standAt (wpAny_bind ?_))
   have hd:=T.item Y e1 e2 e3 hYc i [] s5 _ H5 (fun _ _=>False) I5 (hYs fr5) st5 go
   rw[e4] at hd
   refine wpAny_mono hd (fun r s6 ⟨u,hr,h6⟩=>?_) fun _ _ z=>z.elim
   subst hr
   refine wpAny_bind (wpAny_mono h6 (fun _ s7 ⟨x,H7,I7,r7,y7,st7,fr7⟩=>?_) fun _ _ z=>z.elim)
   have I7':=I7.pinned (hYs fr7) (T.obj _ _ st7)
   rw[<-e5]
   refine wpAny_bind (never (thn (hgY _ s7 _ H7 x u _ I7' r7 (step x H7 y7)) fun _ s8 ⟨σ8,H8,I8,⟨hx8,hl8⟩,q8⟩=>?_))
   refine wpAny_bind (never (thn (htY _ s8 σ8 H8 _ I8 q8) fun b s9 ⟨H9,I9,q9⟩=>?_))
   have again:∀{H10:Hp} {s10:Shared} {m':Nat},Inv Y ([]++Qn fp s7.heap) σ8 H10 s10->m'<n->W (i+1) m' H10->∃m,m<n/\∃i H',Inv Y [] (vV bs ext.length σ) H' s10/\tn i s10.heap/\(∀b∈fp,H' b=none)/\W i m H':=fun {H10 s10 m'} I10 hm w10=>by
    refine⟨m',hm,i+1,H10,(I10.unpinned).weak hl8.symm hx8,T.keep _ _ _ st7 fun b hb o e=>(I10.pin (b,o) (List.mem_append_right _ (List.mem_append_right _ (zA hb e)))).1,fun b hb=>?_,w10⟩
    obtain⟨o,e,d⟩:=T.obj _ _ st7 b hb
    exact(I10.pin (b,o) (List.mem_append_right _ (List.mem_append_right _ (zA hb e)))).2.1
   cases b with
   |false =>
    rw[if_neg Bool.false_ne_true] at q9
    obtain⟨m',hm,w9⟩:=hN _ q9
    exact wpAny_pure ⟨by rw[e5],again I9 hm w9⟩
   |true =>
    rw[if_pos rfl] at q9
    refine wpAny_bind (wpAny_bind (never (thn (heY _ s9 σ8 H9 _ I9 q9) fun xv s10 ⟨y,H10,I10,r10,ys,hys,hz,n10⟩=>?_)))
    obtain⟨m',hm,w10⟩:=hN _ n10
    refine wpAny_bind (never (thn (vS (X:=Y) _ s10 σ8 H10 (.ref s2.heap.objs.size) [y] (.ref s2.heap.objs.size) [xv] (fun _ H=>∃m',m'<n/\W (i+1) m' H) I10 rfl (.cons r10 .nil) ⟨_,ys,y,rfl,rfl,hys,hz,m',hm,w10⟩) fun _ s11 ⟨_,H11,I11,_,m2,hm2,w11⟩=>?_))
    exact wpAny_pure (wpAny_pure ⟨by rw[e5],again I11 hm2 w11⟩)
 exact codeAny_compStart_list loop (T.self X.A 0 s4 _ _ st4' loop)
theorem pe_comp (S:CompS X scope cl bs ext) (hc:X.calm=true) (hi:PI X tg iter wi)
  (hg:∀fp s H,PG (cxC X scope cl (X.N++ext) fp s H) tg g) (ht:∀fp s H,PTs (cxC X scope cl (X.N++ext) fp s H) ifs tt) (he:∀fp s H,PE (cxC X scope cl (X.N++ext) fp s H) elt te)
  (hs:∀x,foldedSetIterable iter X.env x=pure x:=by intro _; rfl):PE X (.ListComp elt [⟨tg,iter,ifs,0⟩] scope pos) (xq wi bs ext.length g tt te):=by
 intro pins s σ H Q I h
 rw[eval_ListComp]
 refine Za (use:=none) S hc hi hg ht he hs I h _ fun acc s2 H2 fp σ' H' s' I2 f2 J q=>?_
 obtain⟨m,hn,_⟩:=J.loc
 exact⟨m,hn,fun h' sb=>⟨.ref acc,H',JG I2 f2 J sb,rfl,q⟩⟩
theorem ps_comp {i:Nat} {x:Str} {pos' spos:Pos} (S:CompS X scope cl bs ext) (hc:X.calm=true) (hN:X.N.Nodup) (hix:X.N[i]?=some x) (hx:X.env.scope.names.lookup x=some .local) (hi:PI X tg iter wi)
  (hg:∀fp s H,PG (cxC X scope cl (X.N++ext) fp s H) tg g) (ht:∀fp s H,PTs (cxC X scope cl (X.N++ext) fp s H) ifs tt) (he:∀fp s H,PE (cxC X scope cl (X.N++ext) fp s H) elt te)
  (hsw:swapsWith (.ListComp elt [⟨tg,iter,ifs,0⟩] scope pos) (some (.Name x pos')) spos.line X.env=pure true)
  (hs:∀x,foldedSetIterable iter X.env x=pure x:=by intro _; rfl):PS X (.Assign [.Name x pos'] (.ListComp elt [⟨tg,iter,ifs,0⟩] scope pos) spos) (tAsg (xq wi bs ext.length g tt te) (qE i)):=by
 intro pins s σ H D I h
 rw[exec_Assign_Name_used _ _ _ _ hsw]
 refine wpAny_bind (wpAny_standAt (wpAny_bind ?_))
 show wpAny _ X.A (do let _ <-comprehension (.ListComp elt [⟨tg,iter,ifs,0⟩] scope pos) scope X.env _ (newList []) false (eval iter X.env) (some (assign (.Name x pos') X.env))) _ _ s
 refine wpAny_bind (wpAny_mono (Za (use:=some (assign (.Name x pos') X.env)) (RR:=fun _ s'=>SP X pins D .next s') S hc hi hg ht he hs I h _ fun acc s2 H2 fp σ' H' s' I2 f2 J q=>?_) (fun _ s' hq=>wpAny_pure (wpAny_pure hq)) fun _ _ e=>e)
 have I5:Inv X pins σ H' s':=by
  have:=JG (h':=s'.heap) I2 f2 J (.refl ..)
  exact this
 show wpAny _ X.A (assign (.Name x pos') X.env (.ref acc)) _ _ s'
 obtain⟨m,hn,_⟩:=J.loc
 have hCL:s2.heap.objs.size≠X.env.locals:=Nat.ne_of_gt I2.lt
 have nC:∀b o,s2.heap.get? b=some o->b≠s2.heap.objs.size:=fun b o e=>Nat.ne_of_lt (Heap.lt_size e)
 have cC:∀y c,X.env.cells.lookup y=some c->c≠s2.heap.objs.size:=fun y c e=>by
  obtain⟨v,o,ho,_⟩:=I2.cell y c e
  exact nC c o ho
 refine wpAny_assign_Name (Qf I5 hN hix (.inl hx) (v:=.ref acc) rfl (fun s6 I6 k6=>?_) (.inr hx))
 obtain⟨a,sb6,ha⟩:=k6
 have haC:a≠s2.heap.objs.size:=by
  rcases ha with z|z
  ·rw[z]; exact hCL.symm
  ·exact cC x a z
 refine⟨m,hn.sameBut sb6 haC.symm,fun h' sb=>?_⟩
 refine⟨_,H',I6.turned (t':=s6.toks) (it:=s2.heap.objs.size) (fun b o hb e=>sb.extBut b o hb e) ?_ hCL (.inr (Nat.le_trans I2.ok.above (Nat.le_of_lt I2.lt))) cC fun p hp=>?_,q⟩
 ·have fr:H' s2.heap.objs.size=none:=J.free
  exact fr
 ·exact nC p.1 p.2 (I2.pin p hp).1
end
theorem JH {K:PySem.W.Frag} {a acc:Addr} {xs:List V} {g:TG} {tt:TT} {te:TE} {σ0:St} {H1:Hp} {Q:VK} (Pv:Nat->Hp->Prop) (h0:Pv 0 (upd H1 acc (.lst []))) (hl:∀i H,i<=xs.length->Pv i H->SqL K H a xs)
  (hs:∀i x H,xs[i]?=some x->Pv i H->g x σ0 H fun σ4 H4=>(ExtS σ0 σ4/\σ4.length=σ0.length)/\tt σ4 H4 fun b H5 =>
   if b=true then te σ4 H5 fun v H6=>∃ys,H6 acc=some (.lst ys)/\ys.length<sizeLine/\Pv (i+1) (upd H6 acc (.lst (ys++[v]))) else Pv (i+1) H5)
  (hd:∀H,Pv xs.length H->Q (.ref acc) H):CompW (Itl K a) acc g tt te σ0 H1 Q:=by
 refine⟨fun i m H=>m=xs.length-i/\i<=xs.length/\Pv i H,⟨xs.length,by simp,Nat.zero_le _,h0⟩, ?_⟩
 rintro i m H ⟨rfl,hi,p⟩
 have q:=hl i H hi p
 by_cases hlt:i<xs.length
 ·refine .inr ⟨⟨xs,xs[i],q,by simp[hlt]⟩,Pv (i+1),fun H' p'=>⟨xs.length-(i+1),by omega,rfl,hlt,p'⟩,fun x H' y=>?_⟩
  obtain⟨e,y⟩:=y
  subst e
  exact hs i x _ (y xs q) p
 ·have e:i=xs.length:=by omega
  subst e
  exact .inl ⟨⟨xs,q,Nat.le_refl _⟩,hd H p⟩
def clOf (env:Env):List (Str×NameKind)->List (Str×Addr)->List (Str×Addr)
 | [],cs=>cs
 | (n,k)::r,cs=>clOf env r (if(k==NameKind.free)=true then(n,(env.cells.lookup n).getD 0)::cs else cs)
theorem clos_eq {env:Env} (scope:Scope) (h:∀p∈scope.names,p.2=.free->∃c,env.cells.lookup p.1=some c):closureFor scope env=pure (clOf env scope.names []):=by
 unfold closureFor
 generalize([]:List (Str×Addr))=cs0
 generalize scope.names=ns at h
 have key:∀(ns:List (Str×NameKind)) (cs:List (Str×Addr)),(∀p∈ns,p.2=.free->∃c,env.cells.lookup p.1=some c) ->
   (forIn ns cs fun(x:Str×NameKind) (r:List (Str×Addr))=>(match x with|(name,kind)=>if(kind==NameKind.free)=true then do let c <-cellOf env name; pure (ForInStep.yield ((name,c)::r)) else pure (ForInStep.yield r):Sem (ForInStep (List (Str×Addr)))))=pure (clOf env ns cs):=by
  intro ns
  induction ns with
  |nil=>intro cs _; rfl
  |cons p r ih =>
   intro cs hp
   obtain⟨n,k⟩:=p
   rw[List.forIn_cons]
   by_cases hk:(k==NameKind.free)=true
   ·obtain⟨c,hc⟩:=hp (n,k) List.mem_cons_self (by simpa using hk)
    have hcell:cellOf env n=pure c:=by unfold cellOf; rw[hc]
    simp only[hk,if_true,hcell,pure_bind]
    rw[ih _ fun q hq=>hp q (List.mem_cons_of_mem _ hq)]
    have hc':List.lookup n env.cells=some c:=hc
    simp[clOf,hk,hc']
   ·simp only[hk,Bool.false_eq_true,if_false,pure_bind]
    rw[ih _ fun q hq=>hp q (List.mem_cons_of_mem _ hq)]
    simp[clOf,hk]
 have:=key ns cs0 h
 rw[show(do
   let mut cs:=cs0
   for (name,kind) in ns do
    if kind == .free then cs:=(name, <-cellOf env name)::cs
   return cs:Sem (List (Str×Addr)))=(forIn ns cs0 fun(x:Str×NameKind) (r:List (Str×Addr))=>(match x with|(name,kind)=>if(kind==NameKind.free)=true then do let c <-cellOf env name; pure (ForInStep.yield ((name,c)::r)) else pure (ForInStep.yield r):Sem (ForInStep (List (Str×Addr))))) >>= pure from rfl]
 rw[this,pure_bind]
theorem Zb {env:Env}:∀(ns:List (Str×NameKind)) (cs:List (Str×Addr)),(∀p∈ns,p.2=.free->∃c,env.cells.lookup p.1=some c)->(∀x c,cs.lookup x=some c->env.cells.lookup x=some c)->∀x c,(clOf env ns cs).lookup x=some c->env.cells.lookup x=some c
 | [],cs,_,h,x,c,e=>h x c e
 | (n,k)::r,cs,hp,h,x,c,e=>by
  refine Zb r _ (fun q hq=>hp q (List.mem_cons_of_mem _ hq)) (fun y d e'=>?_) x c e
  split at e'
  ·rename_i hk
   obtain⟨c',hc⟩:=hp (n,k) List.mem_cons_self (by simpa using hk)
   rw[List.lookup_cons] at e'
   have hc':List.lookup n env.cells=some c':=hc
   rw[hc'] at e'
   split at e'
   ·rename_i hy
    have hy':y=n:=by simpa using hy
    subst hy'
    rw[<-e']; exact hc'
   ·exact h y d e'
  ·exact h y d e'
theorem Zc {env:Env}:∀(ns:List (Str×NameKind)) (cs:List (Str×Addr)) (x:Str),((x,NameKind.free)∈ns\/∃c,cs.lookup x=some c)->∃c,(clOf env ns cs).lookup x=some c
 | [],cs,x,h=>by
  rcases h with h|h
  ·cases h
  ·exact h
 | (n,k)::r,cs,x,h=>by
  refine Zc r _ x ?_
  rcases h with h|⟨c,h⟩
  ·rcases List.mem_cons.mp h with h|h
   ·injection h with h1 h2
    subst h1 h2
    right
    exact⟨_,by simp[List.lookup_cons]; rfl⟩
   ·exact .inl h
  ·right
   split
   ·rw[List.lookup_cons]
    split
    ·exact⟨_,rfl⟩
    ·exact⟨c,h⟩
   ·exact⟨c,h⟩
def xD (scope:Scope) (env:Env) (N:List Str) (bs:List Bool):Bool :=
 scope.names.all (fun p=>p.2 != .cell)&&(scope.kind == .function)&&scope.names.all (fun p=>p.2 != .local||scope.names.lookup p.1==some .local)&&(bs.length==N.length)
  && scope.names.all (fun p=>p.2 != .free||(env.kindOf p.1==some .cell||env.kindOf p.1==some .free))&&(N.zip bs).all (fun p => !p.2||scope.names.lookup p.1==some .free)
theorem mem_of_lookup {β:Type} {x:Str} {b:β}:∀{l:List (Str×β)},l.lookup x=some b->(x,b)∈l
 | [],h=>by simp at h
 | (y,c)::r,h=>by
  rw[List.lookup_cons] at h
  split at h
  ·rename_i hy
   have:x=y:=by simpa using hy
   subst this; cases h; exact List.mem_cons_self
  ·exact List.mem_cons_of_mem _ (mem_of_lookup h)
theorem vp {env:Env}:∀{names:List (Str×NameKind)} {x:Str} {k:NameKind},
  (names.map fun(n,k)=>if(k==NameKind.free&&env.scope.kind == .function&&env.kindOf n==some .cell) then(n,NameKind.cell) else(n,k)).lookup x=some k->names.lookup x=some k\/(k=.cell/\names.lookup x=some .free)
 | [],_,_,h=>by simp at h
 | (n,k')::r,x,k,h=>by
  have ih:=@vp env r x k
  have h':List.lookup x ((if(k'==NameKind.free&&env.scope.kind == .function&&env.kindOf n==some .cell)=true then(n,NameKind.cell) else(n,k'))::(r.map fun(n,k)=>if(k==NameKind.free&&env.scope.kind == .function&&env.kindOf n==some .cell) then(n,NameKind.cell) else(n,k)))=some k:=h
  by_cases hc:(k'==NameKind.free&&env.scope.kind == .function&&env.kindOf n==some .cell)=true
  ·rw[if_pos hc,List.lookup_cons] at h'
   rw[List.lookup_cons]
   have hf:k'=.free:=by
    cases k'<;>first|rfl|(exfalso; revert hc; simp)
   split at h'
   ·right
    injection h' with h'
    rw[hf]
    exact⟨h'.symm,rfl⟩
   ·exact ih h'
  ·rw[if_neg hc,List.lookup_cons] at h'
   rw[List.lookup_cons]
   split at h'
   ·exact .inl h'
   ·exact ih h'
theorem CompS.of {X:Cx} {scope:Scope} {bs:List Bool} {ext:List Str} {pins:List (Addr×Obj)} {σ:St} {H:Hp} {s:Shared} (I:Inv X pins σ H s) (h:xD scope X.env X.N bs=true):CompS X scope (clOf X.env scope.names []) bs ext:=by
 unfold xD at h
 simp only[Bool.and_eq_true,List.all_eq_true] at h
 obtain⟨⟨⟨⟨⟨h1,h2⟩,h3⟩,h4⟩,h5⟩,h6⟩:=h
 have hc:∀p∈scope.names,p.2=.free->∃c,X.env.cells.lookup p.1=some c:=fun p hp hf=>by
  have:=h5 p hp
  rw[hf] at this
  refine I.ok.has p.1 ?_
  simpa using this
 have nocell:∀{x:Str},scope.names.lookup x≠some .cell:=fun {x} e=>by
  have:=h1 _ (mem_of_lookup e)
  simp at this
 refine⟨clos_eq scope hc,fun y hy=>by simpa using h1 y hy,by simpa using h2,fun y hy hl=>?_,fun x c e=>Zb scope.names [] hc (fun _ _ z=>by simp at z) x c e,fun x hx=>?_,by simpa using h4,fun i x hN hb hv=>?_⟩
 ·have:=h3 y hy
  rw[hl] at this
  simpa using this
 ·refine Zc scope.names [] x (.inl ?_)
  rcases hx with hx|hx
  ·rcases vp hx with z|⟨_,z⟩
   ·exact absurd z nocell
   ·exact mem_of_lookup z
  ·rcases vp hx with z|⟨z,_⟩
   ·exact mem_of_lookup z
   ·cases z
 ·have hz:(x,true)∈X.N.zip bs:=by
   have:(X.N.zip bs)[i]?=some (x,true):=by
    rw[List.getElem?_zip_eq_some]; exact⟨hN,hb⟩
   exact List.mem_of_getElem? this
  have hf:=h6 _ hz
  have hf:scope.names.lookup x=some .free:=by simpa using hf
  have hk:=h5 _ (mem_of_lookup hf)
  have hk:X.env.kindOf x=some .cell\/X.env.kindOf x=some .free:=by simpa using hk
  refine⟨fun z=>?_,hk, ?_⟩
  ·rcases vp z with q|⟨q,_⟩
   ·rw[hf] at q; cases q
   ·cases q
  ·rcases hk with q|q
   ·exact .inr (.inl q)
   ·exact .inr (.inr q)
section
variable {X:Cx} {elt tg iter:Expr} {ifs:List Expr} {scope:Scope} {bs:List Bool} {ext:List Str} {pos:Pos} {wi:TI} {g:TG} {tt:TT} {te:TE}
abbrev cxB (X:Cx) (scope:Scope) (ext:List Str) (fp:List Addr) (s:Shared) (H:Hp):Cx:=cxC X scope (clOf X.env scope.names []) (X.N++ext) fp s H
theorem pe_lc (bs:List Bool) (ext:List Str) (hi:PI X tg iter wi) (hg:∀fp s H,PG (cxB X scope ext fp s H) tg g) (ht:∀fp s H,PTs (cxB X scope ext fp s H) ifs tt) (he:∀fp s H,PE (cxB X scope ext fp s H) elt te)
  (hk:xD scope X.env X.N bs=true:=by rfl) (hc:X.calm=true:=by rfl) (hs:∀x,foldedSetIterable iter X.env x=pure x:=by intro _; rfl) :
  PE X (.ListComp elt [⟨tg,iter,ifs,0⟩] scope pos) (xq wi bs ext.length g tt te):=fun pins s σ H Q I h=>pe_comp (CompS.of I hk) hc hi hg ht he hs pins s σ H Q I h
theorem ps_lc {i:Nat} {x:Str} {pos' spos:Pos} (bs:List Bool) (ext:List Str) (hN:X.N.Nodup) (hix:X.N[i]?=some x) (hx:X.env.scope.names.lookup x=some .local) (hi:PI X tg iter wi) (hg:∀fp s H,PG (cxB X scope ext fp s H) tg g) (ht:∀fp s H,PTs (cxB X scope ext fp s H) ifs tt) (he:∀fp s H,PE (cxB X scope ext fp s H) elt te)
  (hk:xD scope X.env X.N bs=true:=by rfl) (hc:X.calm=true:=by rfl)
  (hsw:swapsWith (.ListComp elt [⟨tg,iter,ifs,0⟩] scope pos) (some (.Name x pos')) spos.line X.env=pure true:=by rfl) (hs:∀x,foldedSetIterable iter X.env x=pure x:=by intro _; rfl) :
  PS X (.Assign [.Name x pos'] (.ListComp elt [⟨tg,iter,ifs,0⟩] scope pos) spos) (tAsg (xq wi bs ext.length g tt te) (qE i)):=fun pins s σ H D I h=>ps_comp (CompS.of I hk) hc hN hix hx hi hg ht he hsw hs pins s σ H D I h
end
def CDivB (i j:Int):Prop:=0<j/\j.natAbs.log2<9000
theorem noPyl {i j:Int} (h:CDivB i j):Builtin.divisionGoesByPylong i j=false:=PyProof.noPylong_of_log2 h.2
theorem VZ {X:Cx}:OpR X (binaryOp .FloorDiv) (rI CDivB fun i j=>.int (i / j)):=opI fun i j _ _ _ _ _ hc q=>by
 refine floordiv_int (by have:=hc.1; omega) ?_ (.inl (noPyl hc))
 rw[Int.fdiv_eq_ediv_of_nonneg _ (by have:=hc.1; omega)]
 exact q
section
variable {σ:St} {H:Hp} {Q:VK}
theorem rd_I {C:Int->Int->Prop} {g:Int->Int->V} {i j:Int}:rI C g (.int i) (.int j) H Q=(C i j/\Q (g i j) H) :=
 propext ⟨fun⟨_,_,e1,e2,h⟩=>by cases e1; cases e2; exact h,fun h=>⟨i,j,rfl,rfl,h⟩⟩
theorem rd_I0 {g:Int->Int->V} {i j:Int}:rI0 g (.int i) (.int j) H Q=Q (g i j) H :=
 propext ⟨fun⟨_,_,e1,e2,h⟩=>by cases e1; cases e2; exact h,fun h=>⟨i,j,rfl,rfl,h⟩⟩
theorem rd_U {g:Int->V} {i:Int}:rU g (.int i) H Q=Q (g i) H :=
 propext ⟨fun⟨_,e1,h⟩=>by cases e1; exact h,fun h=>⟨i,rfl,h⟩⟩
theorem j8 {t:TE} {R:Bool->Hp->Prop}:xS t σ H R=t σ H fun x H'=>∃k,x=.bl k/\R k H':=rfl
theorem rd_bl {k:Bool} {R:Bool->Prop}:(∃k',V.bl k=.bl k'/\R k')=R k:=propext ⟨fun⟨_,e,h⟩=>by cases e; exact h,fun h=>⟨k,rfl,h⟩⟩
theorem rd_l1 {i:Int} {R:Int->Prop}:(∃j,([V.int i]:List V)=[V.int j]/\R j)=R i:=propext ⟨fun⟨_,e,h⟩=>by cases e; exact h,fun h=>⟨i,rfl,h⟩⟩
theorem rd_l2 {a b:Int} {R:Int->Int->Prop}:(∃i j,([V.int a,V.int b]:List V)=[V.int i,V.int j]/\R i j)=R a b:=propext ⟨fun⟨_,_,e,h⟩=>by cases e; exact h,fun h=>⟨a,b,rfl,h⟩⟩
theorem rd_lr {a:Addr} {R:Addr->List V->Prop}:(∃p ys,([V.ref a]:List V)=[V.ref p]/\R p ys)=∃ys,R a ys:=propext ⟨fun⟨_,ys,e,h⟩=>by cases e; exact⟨ys,h⟩,fun⟨ys,h⟩=>⟨a,ys,rfl,h⟩⟩
theorem vq {p x:Addr} {o o':HO} (hp:H p=none) (h:H x=some o):upd H p o' x=some o:=by rw[upd_ne (vf h hp)]; exact h
theorem xH {p x:Addr} {o o':HO} (hn:x≠p) (h:H x=some o):upd H p o' x=some o:=by rw[upd_ne hn]; exact h
theorem kO {p x:Addr} {o':HO} (h:upd H p o' x=none):H x=none/\x≠p:=by
 have hx:x≠p:=fun e=>by subst e; rw[upd_same] at h; cases h
 rw[upd_ne hx] at h
 exact⟨h,hx⟩
theorem Same.upd {H1:Hp} {p:Addr} {o:HO} (s:Same H H1) (h:H p=none):Same H (upd H1 p o):=fun b o' e=>by
 rw[upd_ne (vf e h)]; exact s b o' e
theorem ExtS.nl:ExtS [] []:=fun _ _ h=>h
theorem ExtS.no {a b:St} {x:Option V} (h:ExtS a b):ExtS (none::a) (x::b):=fun i v e=>by
 cases i with
 |zero=>simp at e
 |succ i=>simpa using h i v (by simpa using e)
theorem ExtS.sm {a b:St} {x:Option V} (h:ExtS a b):ExtS (x::a) (x::b):=fun i v e=>by
 cases i with
 |zero=>simpa using e
 |succ i=>simpa using h i v (by simpa using e)
end
structure Def (P:Program) (w:World) (K:PySem.W.Frag) (mg:Str->Option Value) (base:Heap) (x:Str) (k:Nat) (ps:List Str) (sp:Sp):Prop where
 ex:∃(f:Addr) (fd:FuncData),mg x=some (.ref f)/\PySem.W.keepIn K (.ref f)=true/\Binds K fd ps []/\FnOk P w K mg base CX0 k f fd ps sp
section
variable {X:Cx} {x:Str} {k:Nat} {ps:List Str} {sp:Sp} {p pos:Pos} {e:Expr} {es:List Expr} {t:TA}
theorem pe_def (D:Def X.prog X.w X.K X.mg X.base x k ps sp) (hr:Room k X.A) (ha:PA X (e::es) t) (hg:Gl X x:=by rfl) (hdb:(x==("__debug__" : Str))=false:=by decide) (he:starEach (e::es) X.env=(false,eval e X.env)::starEach es X.env:=by rfl) (hpl:(backTo pos (starEach es X.env)).any (·.1)=false:=by rfl) :
  PE X (.Call (.Name x p) (e::es) [] pos) (v3 sp [] E0 t):=by
 obtain⟨f,fd,h1,h2,h3,h4⟩:=D.ex
 exact XR h4 hr hg h1 h2 h3 .nil pass0 ha hdb he hpl
theorem pe_def0 (D:Def X.prog X.w X.K X.mg X.base x k ps sp) (hr:Room k X.A) (hg:Gl X x:=by rfl) (hdb:(x==("__debug__" : Str))=false:=by decide):PE X (.Call (.Name x p) [] [] pos) (v3 sp [] E0 tNil):=by
 obtain⟨f,fd,h1,h2,h3,h4⟩:=D.ex
 exact pe_call0 h4 hr hg h1 h2 h3 .nil pass0 hdb
end
inductive DE (K:PySem.W.Frag) (H:Hp):Nat->V->V->Bool->Prop
 |flat {n:Nat} {x y:V}:flatV x=true->flatV y=true->DE K H n x y (eqV x y)
 |same {n:Nat} {a:Addr}:DE K H n (.ref a) (.ref a) true
 |tup {n:Nat} {a b:Addr} {xs ys:List V} {e:Nat->Bool}:a≠b->SqT K H a xs->SqT K H b ys->(∀(j:Nat) x y,xs[j]?=some x->ys[j]?=some y->DE K H n x y (e j))->DE K H (n+1) (.ref a) (.ref b) ((List.range (min xs.length ys.length)).all e&&xs.length==ys.length)
 |lst {n:Nat} {a b:Addr} {xs ys:List V} {e:Nat->Bool}:a≠b->SqL K H a xs->SqL K H b ys->xs.length=ys.length->(∀(j:Nat) x y,xs[j]?=some x->ys[j]?=some y->DE K H n x y (e j))->DE K H (n+1) (.ref a) (.ref b) ((List.range xs.length).all e)
 |lstN {n:Nat} {a b:Addr} {xs ys:List V}:a≠b->SqL K H a xs->SqL K H b ys->xs.length≠ys.length->DE K H (n+1) (.ref a) (.ref b) false
theorem zq {A:Around}:A.in1.units=A.units+1:=rfl
theorem DE.eqAt {X:Cx} {pins:List (Addr×Obj)} {σ:St} {H:Hp} {s:Shared} (I:Inv X pins σ H s) {n:Nat} {x y:V} {b:Bool} (d:DE X.K H n x y b):∀{A:Around} {u v:Value},A.units+n<cLine->RelV x u->RelV y v->SeqAt.EqAt A s u v b:=by
 induction d with
 |flat f g=>intro A u v _ rx ry; exact eqAt_V rx ry f g
 |same =>
  intro A u v _ rx ry
  obtain rfl:u=_:=rx
  obtain rfl:v=_:=ry
  exact SeqAt.EqAt.same _
 | @tup n a b xs ys e ne ha hb _ ih =>
  intro A u v hu rx ry
  obtain rfl:u=Value.ref a:=rx
  obtain rfl:v=Value.ref b:=ry
  obtain⟨its,r1,p1,_⟩:=I.tuple ha
  obtain⟨its2,r2,p2,_⟩:=I.tuple hb
  have:=SeqAt.RcAt.tuples (A:=A) (e:=e) p1 p2 (by omega) fun j h1 h2=>by
   have l1:j<xs.length:=by rw[r1.length]; simpa using h1
   have l2:j<ys.length:=by rw[r2.length]; simpa using h2
   obtain⟨u1,q1,s1⟩:=r1.get (List.getElem?_eq_getElem l1)
   obtain⟨u2,q2,s2⟩:=r2.get (List.getElem?_eq_getElem l2)
   have e1:its.toArray[j]=u1:=by
    have:=List.getElem?_eq_some_iff.mp q1
    obtain⟨_,z⟩:=this
    simpa using z
   have e2:its2.toArray[j]=u2:=by
    have:=List.getElem?_eq_some_iff.mp q2
    obtain⟨_,z⟩:=this
    simpa using z
   rw[e1,e2]
   exact ih j _ _ (List.getElem?_eq_getElem l1) (List.getElem?_eq_getElem l2) (by rw[zq]; omega) s1 s2
  rw[List.size_toArray,List.size_toArray, <-r1.length, <-r2.length] at this
  exact .of_refs ne this
 | @lst n a b xs ys e ne ha hb hl _ ih =>
  intro A u v hu rx ry
  obtain rfl:u=Value.ref a:=rx
  obtain rfl:v=Value.ref b:=ry
  obtain⟨its,r1,p1,_⟩:=I.list ha
  obtain⟨its2,r2,p2,_⟩:=I.list hb
  have:=SeqAt.RcAt.lists (A:=A) (e:=e) p1.isList p2.isList (by simp[<-r1.length, <-r2.length,hl]) (by omega) fun j h1 h2=>by
   have l1:j<xs.length:=by rw[r1.length]; simpa using h1
   have l2:j<ys.length:=by rw[r2.length]; simpa using h2
   obtain⟨u1,q1,s1⟩:=r1.get (List.getElem?_eq_getElem l1)
   obtain⟨u2,q2,s2⟩:=r2.get (List.getElem?_eq_getElem l2)
   have e1:its.toArray[j]=u1:=by
    have:=List.getElem?_eq_some_iff.mp q1
    obtain⟨_,z⟩:=this
    simpa using z
   have e2:its2.toArray[j]=u2:=by
    have:=List.getElem?_eq_some_iff.mp q2
    obtain⟨_,z⟩:=this
    simpa using z
   rw[e1,e2]
   exact ih j _ _ (List.getElem?_eq_getElem l1) (List.getElem?_eq_getElem l2) (by rw[zq]; omega) s1 s2
  rw[List.size_toArray, <-r1.length] at this
  exact .of_refs ne this
 | @lstN n a b xs ys ne ha hb hl =>
  intro A u v hu rx ry
  obtain rfl:u=Value.ref a:=rx
  obtain rfl:v=Value.ref b:=ry
  obtain⟨its,r1,p1,_⟩:=I.list ha
  obtain⟨its2,r2,p2,_⟩:=I.list hb
  exact .of_refs ne (SeqAt.RcAt.lists_lengths p1.isList p2.isList (by simp[<-r1.length, <-r2.length,hl]) (by omega))
end L2
namespace PySem.SeqAt
open AutoSeq1 (wpAny_loadPart')
open MeetsSeq MeetsSeq2 MeetsSeq3 SeqRoads2
theorem j6 (l:Addr) (items:Array Value) (n:Nat) (x:Value) (e:Nat->Bool) (j:Nat) (hj:j<items.size) (hit:e j=true) (k:Nat) (hs1:items.size<=sizeLine) :
  ∀i:Nat,j-i=k->i<=j->(∀m (hm:m<items.size),i<=m->m<j->e m=false)->Meets (Builtin.«list.remove.loop» ⟨[.ref l,x,rawInt i], []⟩)
   (fun A R s=>s.heap.get? l=some { cls:=.type "list", dict:=none,data:=.seq items n,slots:=#[] }/\(∀m (hm:m<items.size),m<=j->EqAt A.in1 s items[m] x (e m))/\R (.ok (.ret .none)) { s with heap:=s.heap.update l (Obj.mapSeq fun xs=>xs.eraseIdxIfInBounds j) }):=by
 induction k with
 |zero =>
  intro i hk hij hno prog w A R s h
  obtain⟨hp,g,d,tk,os⟩:=s; obtain⟨hl,he,h⟩:=h
  have hij':i=j:=by omega
  subst hij'
  wp_walk using wpAny_loadPart' hl
  have hi:items[((i:Nat):Int).toNat]?=some items[i]:=by simp[hj]
  rw[hi]
  refine wpAny_bind (he _ hj (Nat.le_refl _) prog w _ _ ?_)
  rw[hit]
  have hz':(items.eraseIdxIfInBounds i).size<=sizeLine+1:=Nat.le_trans (size_erased items _) (Nat.le_succ_of_le hs1)
  wp_walk using(wpAny_updateSeq hl rfl (hz:=hs1) (_hz':=hz')),wpAny_loadPart' hl
  simpa using h
 |succ k ih =>
  intro i hk hij hno prog w A R s h
  obtain⟨hp,g,d,tk,os⟩:=s; obtain⟨hl,he,h⟩:=h
  have hlt:i<items.size:=by omega
  wp_walk using wpAny_loadPart' hl
  have hi:items[((i:Nat):Int).toNat]?=some items[i]:=by simp[hlt]
  have hc:((i:Int)+1)=((i+1:Nat):Int):=by push_cast; rfl
  rw[hi]
  refine wpAny_bind (he _ hlt (by omega) prog w _ _ ?_)
  rw[hno i hlt (Nat.le_refl _) (by omega)]
  wp_walk
  rw[hc]
  exact⟨plainId_quiet plain_remove_loop _,codeAny_builtin entry_remove_loop (by
   rw[Around.under_plainId plain_remove_loop _]
   exact ih (i+1) (by omega) (by omega) (fun m hm h1 h2=>hno m hm (by omega) h2) prog w A R _ ⟨hl,he,h⟩)⟩
theorem list_removeAt (l:Addr) (items:Array Value) (n:Nat) (x:Value) (e:Nat->Bool) (j:Nat) (hj:j<items.size)
  (hit:e j=true) (hno:∀m (hm:m<items.size),m<j->e m=false) (hs1:items.size<=sizeLine:=by size_fits) :
  Meets (Builtin.«list.remove» ⟨[.ref l,x], []⟩)
   (fun A R s=>s.heap.get? l=some { cls:=.type "list", dict:=none,data:=.seq items n,slots:=#[] }/\(∀m (hm:m<items.size),m<=j->EqAt A.in1 s items[m] x (e m))/\R (.ok (.ret .none)) { s with heap:=s.heap.update l (Obj.mapSeq fun xs=>xs.eraseIdxIfInBounds j) }):=by
 intro prog w A R s h
 obtain⟨hp,g,d,tk,os⟩:=s; obtain⟨hl,he,h⟩:=h
 wp_walk using wpAny_loadPart' hl
 exact⟨plainId_quiet plain_remove_loop _,codeAny_builtin entry_remove_loop (by
  rw[Around.under_plainId plain_remove_loop _]
  exact j6 l items n x e j hj hit _ hs1 0 rfl (Nat.zero_le _) (fun m hm _ h2=>hno m hm h2) prog w A R _ ⟨hl,he,h⟩)⟩
end PySem.SeqAt
namespace L2
open PySem PySem.Spec PyProof.Rows
def Vh (K:PySem.W.Frag):V->List V->Hp->VK->Prop:=fun x vs H Q=>∃l xs y j,∃e:Nat->Bool,x=.ref l/\vs=[y]/\H l=some (.lst xs)/\j<xs.length/\e j=true/\(∀m,m<j->e m=false)/\(∀(m:Nat) z,m<=j->xs[m]?=some z->DE K H 20 z y (e m))/\Q .non (upd H l (.lst (xs.eraseIdx j)))
theorem X7 {X:Cx} (hu:X.A.units+64<cLine):MtM X "list.remove" (Vh X.K):=by
 intro pins s σ H x vs v us Q I rx rv h
 obtain⟨l,xs,y,j,e,rfl,rfl,hH,hj,hit,hno,he,q⟩:=h
 cases rx
 obtain⟨u,rfl,ru⟩:=rv.one
 obtain⟨z,its,n,r,hl,eo⟩:=I.lstM hH
 refine call_meets F.slot_list_remove ⟨_,eo,rfl⟩ F.entry_list_remove (F.args_list_remove_2 _ _) (SeqAt.list_removeAt l its.toArray n u e j (by simp; omega) hit (fun m _ hm=>hno m hm) (by rw[List.size_toArray]; omega)) ⟨eo,fun m hm hmj=>?_, ?_⟩
 ·have l1:m<xs.length:=by rw[hl]; simpa using hm
  obtain⟨u1,q1,s1⟩:=r.get (List.getElem?_eq_getElem l1)
  have e1:its.toArray[m]=u1:=by
   have:=List.getElem?_eq_some_iff.mp q1
   obtain⟨_,z⟩:=this
   simpa using z
  rw[e1]
  exact(he m _ hmj (List.getElem?_eq_getElem l1)).eqAt I (by rw[zq]; omega) s1 ru
 ·refine⟨.non,_,I.lset (its':=its.eraseIdx j) hH eo (by simp) (r.eraseIdx j) (Nat.le_trans (QN _ _) z),rfl,q⟩
structure Nms (mg:Str->Option Value):Prop where
 abs:mg "abs" = none
 len:mg "len" = none
 min:mg "min" = none
 max:mg "max" = none
 sum:mg "sum" = none
 sorted:mg "sorted" = none
 all:mg "all" = none
 any:mg "any" = none
 isinstance:mg "isinstance" = none
 range:mg "range" = none
 int:mg "int" = none
 list:mg "list" = none
 str:mg "str" = none
 bool:mg "bool" = none
 tuple:mg "tuple" = none
 zip:mg "zip" = none
 enumerate:mg "enumerate" = none
 dict:mg "dict" = none
theorem b_abs:bootBuiltins "abs" = some (.builtin "abs"):=by decide +kernel
theorem VG:bootBuiltins "len" = some (.builtin "len"):=by decide +kernel
theorem b_min:bootBuiltins "min" = some (.builtin "min"):=by decide +kernel
theorem b_sum:bootBuiltins "sum" = some (.builtin "sum"):=by decide +kernel
theorem Zi:bootBuiltins "sorted" = some (.builtin "sorted"):=by decide +kernel
theorem b_int:bootBuiltins "int" = some (.type "int"):=by decide +kernel
theorem b_list:bootBuiltins "list" = some (.type "list"):=by decide +kernel
def SameB (b:Addr) (H H':Hp):Prop:=∀x o,H x=some o->x≠b->H' x=some o
theorem SameB.trans {b:Addr} {H H1 H2:Hp} (h:SameB b H H1) (k:SameB b H1 H2):SameB b H H2:=fun x o e n=>k x o (h x o e n) n
theorem SameB.upd {b p:Addr} {H H1:Hp} {o:HO} (s:SameB b H H1) (h:H p=none\/p=b):SameB b H (upd H1 p o):=fun x o' e n=>by
 have:x≠p:=by
  rcases h with h|h
  ·exact vf e h
  ·rw[h]; exact n
 rw[upd_ne this]; exact s x o' e n
def rLenL:List V->Hp->VK->Prop:=fun vs H Q=>∃p ys,vs=[.ref p]/\H p=some (.lst ys)/\Q (.int ys.length) H
theorem vY {X:Cx}:zY X (.builtin "len") rLenL:=by
 intro pins s σ H xs us Q I r h
 obtain⟨p,ys,e,h,q⟩:=h
 exact xF pins s σ H xs us Q I r ⟨p,ys,e, .inl (SqL.of h),q⟩
section
variable {K:PySem.W.Frag} {H:Hp} {Q:VK} {p:Addr} {xs:List V} {v:V} {i:Int}
theorem Jq (h:H p=some (.lst xs)) (e:atI xs i=some v) (q:Q v H):rIxL K (.ref p) (.int i) H Q:=⟨p,xs,i,v,rfl,rfl,SqL.of h,e,q⟩
theorem ixT_at (h:H p=some (.tup xs)) (e:atI xs i=some v) (q:Q v H):rIxT K (.ref p) (.int i) H Q:=⟨p,xs,i,v,rfl,rfl,SqT.of h,e,q⟩
theorem at0 {α:Type} {x:α} {l:List α}:atI (x::l) 0=some x:=kU (j:=0) rfl
theorem at1 {α:Type} {x y:α} {l:List α}:atI (x::y::l) 1=some y:=kU (j:=1) rfl
theorem setL_at {j:Nat} {R:Hp->Prop} (h:H p=some (.lst xs)) (e:ixN xs.length i=some j) (q:R (upd H p (.lst (xs.set j v)))):rSetL (.ref p) (.int i) v H R:=⟨p,xs,i,j,rfl,rfl,h,e,q⟩
theorem eq_at {x y:V} (h:scal x y=true) (q:Q (.bl (decide (x=y))) H):rEq x y H Q:=⟨h,q⟩
theorem ne_at {x y:V} (h:scal x y=true) (q:Q (.bl (!decide (x=y))) H):rNe x y H Q:=⟨h,q⟩
theorem len_at (h:H p=some (.lst xs)) (q:Q (.int xs.length) H):rLenL [.ref p] H Q:=⟨p,xs,rfl,h,q⟩
theorem kI {σ:St} {x y:V} {i j:Nat} {R:St->Hp->Prop} (h:H p=some (.tup [x,y])) (q:R ((σ.set i (some x)).set j (some y)) H):gTup K 2 (qS (qE i) (qS (qE j) gNil)) (.ref p) σ H R :=
 ⟨p,_,rfl,SqT.of h,rfl,_,_,rfl,_,_,rfl,rfl,q⟩
theorem kH {σ:St} {x y z:V} {i j k:Nat} {R:St->Hp->Prop} (h:H p=some (.tup [x,y,z])) (q:R (((σ.set i (some x)).set j (some y)).set k (some z)) H):gTup K 3 (qS (qE i) (qS (qE j) (qS (qE k) gNil))) (.ref p) σ H R :=
 ⟨p,_,rfl,SqT.of h,rfl,_,_,rfl,_,_,rfl,_,_,rfl,rfl,q⟩
theorem zF {i j:Int}:(V.int i=V.int j)=(i=j):=propext ⟨fun h=>by cases h; rfl,fun h=>by rw[h]⟩
theorem zE {i j:Str}:(V.str i=V.str j)=(i=j):=propext ⟨fun h=>by cases h; rfl,fun h=>by rw[h]⟩
end
section
variable {X:Cx} {i j k:Nat} {x y z:Str} {px py pz pos:Pos} {kk:Nat}
theorem pg_t2 (hN:X.N.Nodup) (hc:X.calm=true) (hi:X.N[i]?=some x) (hj:X.N[j]?=some y) (lx:Loc X.env.scope x) (ly:Loc X.env.scope y)
  (fx:X.fn x=true\/X.env.scope.names.lookup x=some .local) (fy:X.fn y=true\/X.env.scope.names.lookup y=some .local) :
  PG X (.Tuple [.Name x px, .Name y py] kk pos) (gTup X.K 2 (qS (qE i) (qS (qE j) gNil))):=pg_tup hc (xf (xz hN hi lx fx) (xf (xz hN hj ly fy) XM))
theorem pg_t3 (hN:X.N.Nodup) (hc:X.calm=true) (hi:X.N[i]?=some x) (hj:X.N[j]?=some y) (hk:X.N[k]?=some z) (lx:Loc X.env.scope x) (ly:Loc X.env.scope y) (lz:Loc X.env.scope z)
  (fx:X.fn x=true\/X.env.scope.names.lookup x=some .local) (fy:X.fn y=true\/X.env.scope.names.lookup y=some .local) (fz:X.fn z=true\/X.env.scope.names.lookup z=some .local) :
  PG X (.Tuple [.Name x px, .Name y py, .Name z pz] kk pos) (gTup X.K 3 (qS (qE i) (qS (qE j) (qS (qE k) gNil)))):=pg_tup hc (xf (xz hN hi lx fx) (xf (xz hN hj ly fy) (xf (xz hN hk lz fz) XM)))
end
section
variable {X:Cx} {K:PySem.W.Frag}
theorem qt (h:X.K=K):IxR X (rIxL K):=h▸ix_list
theorem qK (h:X.K=K):IxR X (rIxT K):=h▸ix_tup
theorem pi_listK {tg l:Expr} {tl:TE} (h:X.K=K) (hl:PE X l tl):PI X tg l (ZZ K tl):=h▸pi_list hl
theorem pi_tupK {tg l:Expr} {tl:TE} (h:X.K=K) (hl:PE X l tl):PI X tg l (iTup K tl):=h▸pi_tup hl
theorem vM (h:X.K=K):SlR X (rSlL K):=h▸sl_list
theorem ZM (h:X.K=K) (hu:X.A.units+64<cLine):MtM X "list.remove" (Vh K):=h▸X7 hu
def tTru (K:PySem.W.Frag) (ta:TE):TT:=fun σ H Q=>ta σ H fun x H'=>∃k,TruV K x H' k/\Q k H'
theorem XG {a:Expr} {ta:TE} (h:X.K=K) (ha:PE X a ta) (he:∀whole,isTrue a X.env whole=(do let v <-whole; standAt a.pos; holding [v] (truthy v))):PT X a (tTru K ta):=h▸pt_truth ha he
theorem pg_t2K {i j:Nat} {x y:Str} {px py pos:Pos} {kk:Nat} (h:X.K=K) (hN:X.N.Nodup) (hc:X.calm=true) (hi:X.N[i]?=some x) (hj:X.N[j]?=some y) (lx:Loc X.env.scope x) (ly:Loc X.env.scope y)
  (fx:X.fn x=true\/X.env.scope.names.lookup x=some .local) (fy:X.fn y=true\/X.env.scope.names.lookup y=some .local) :
  PG X (.Tuple [.Name x px, .Name y py] kk pos) (gTup K 2 (qS (qE i) (qS (qE j) gNil))):=h▸pg_t2 hN hc hi hj lx ly fx fy
theorem pg_t3K {i j k:Nat} {x y z:Str} {px py pz pos:Pos} {kk:Nat} (h:X.K=K) (hN:X.N.Nodup) (hc:X.calm=true) (hi:X.N[i]?=some x) (hj:X.N[j]?=some y) (hk:X.N[k]?=some z) (lx:Loc X.env.scope x) (ly:Loc X.env.scope y) (lz:Loc X.env.scope z)
  (fx:X.fn x=true\/X.env.scope.names.lookup x=some .local) (fy:X.fn y=true\/X.env.scope.names.lookup y=some .local) (fz:X.fn z=true\/X.env.scope.names.lookup z=some .local) :
  PG X (.Tuple [.Name x px, .Name y py, .Name z pz] kk pos) (gTup K 3 (qS (qE i) (qS (qE j) (qS (qE k) gNil)))):=h▸pg_t3 hN hc hi hj hk lx ly lz fx fy fz
def LmStep (x:V) (H:Hp) (k:Prop):Prop:=∃p xs,x=.ref p/\H p=some (.lst xs)/\k
theorem lm_at {p:Addr} {xs:List V} {H:Hp} {k:Prop} (h:H p=some (.lst xs)) (q:k):LmStep (.ref p) H k:=⟨p,xs,rfl,h,q⟩
def tLM (r:V->List V->Hp->VK->Prop) (to:TE) (t:TA):TE:=fun σ H Q=>to σ H fun x H1=>LmStep x H1 (t σ H1 fun vs H2=>r x vs H2 Q)
theorem pe_lm {o e:Expr} {es:List Expr} {to:TE} {t:TA} {name:Str} {apos cpos:Pos} {id:String} {r:V->List V->Hp->VK->Prop} (slot:Slot "list" name id) (hty:typeOf (.builtin id)=pure (.type "method_descriptor")) (hm:MtR X id r) (ho:PE X o to) (ha:PA X (e::es) t)
  (hbase:attributeBase o name X.env (eval o X.env)=eval o X.env:=by rfl)
  (hfew:((backTo cpos (starEach (e::es) X.env)).all (fun x => !x.1)&&(backToKw cpos (keywordEach [] X.env)).all (fun x=>x.1.isSome)
   && decide ((e::es).length+([]:List Keyword).length+(if([]:List Keyword).isEmpty then 0 else 1)<30))=true:=by rfl)
  (hline:(apos.endLine==cpos.line)=true:=by rfl) (hs:starEach (e::es) X.env=(false,eval e X.env)::starEach es X.env:=by rfl) (hplain:(backTo cpos (starEach es X.env)).any (·.1)=false:=by rfl) :
  PE X (.Call (.Attribute o name apos) (e::es) [] cpos) (tLM r to t):=by
 intro pins s σ H Q I h
 refine wpAny_Call_method_late hbase hfew hline rfl (thn (ho pins s σ H _ I h) fun v s1 ⟨x,H1,I1,r1,p,xs,ex,hp,q1⟩=>?_)
 subst ex
 obtain⟨h1,h2⟩:=tyV_is (T := "list") I1 r1 (.inl ⟨rfl,xs,SqL.of hp⟩)
 refine⟨"list", id,PySem.F.plainAttrs_list,slot,hty,h1,h2, ?_⟩
 have hA:=ha cpos pins s1 σ H1 _ I1 q1
 rw[hs] at hA ⊢
 refine Calls.callWith_builtin (by show(false||(backTo cpos (starEach es X.env)).any (·.1))=false; rw[hplain]<;>rfl) (Calls.evalArgs_plain ?_)
 exact thn hA fun us s2 ⟨vs,H2,I2,r2,q2⟩=>hm pins s2 σ H2 (.ref p) vs v us Q I2 r1 r2 q2
end
def ForW (J:It) (g:TG) (tb:TS) (D:Ends) (σ:St) (H1:Hp):Prop:=∃W:Nat->Nat->St->Hp->Prop,(∃m,W 0 m σ H1)/\∀i m σ H,W i m σ H ->
 (J.stop i H/\D.nx σ H)\/(J.go i H/\∃N:St->Hp->Prop,(∀σ' H',N σ' H'->∃m',m'<m/\W (i+1) m' σ' H')/\∀x H',J.yld i H x H'->g x σ H' fun σ2 H2=>tb { D with nx:=N,ct:=N,bk:=D.nx } σ2 H2)
theorem VU {wi:TI} {g:TG} {tb:TS} {D:Ends} {σ:St} {H:Hp}:tFor wi g tb D σ H=wi σ H fun J H1=>ForW J g tb D σ H1:=rfl
def ItStep (K:PySem.W.Frag) (x:V) (H:Hp) (R:It->Hp->Prop):Prop:=∃a,x=.ref a/\(∃xs,SqL K H a xs)/\R (Itl K a) H
theorem xK {K:PySem.W.Frag} {tl:TE} {σ:St} {H:Hp} {R:It->Hp->Prop}:ZZ K tl σ H R=tl σ H fun x H1=>ItStep K x H1 R:=rfl
theorem it_at {K:PySem.W.Frag} {p:Addr} {xs:List V} {H:Hp} {R:It->Hp->Prop} (h:H p=some (.lst xs)) (q:R (Itl K p) H):ItStep K (.ref p) H R:=⟨p,rfl,⟨xs,SqL.of h⟩,q⟩
def RgStep (vs:List V) (H:Hp) (R:It->Hp->Prop):Prop:=∃j:Int,vs=[.int j] /\ -(2^62)<=j/\j<2^62/\R (Itr 0 j.toNat) H
theorem xJ {ta:TA} {σ:St} {H:Hp} {R:It->Hp->Prop}:Ju ta σ H R=ta σ H fun vs H1=>RgStep vs H1 R:=rfl
theorem rd_pi {k:Int} {R:Int->Prop}:(∃i,V.int k=.int i/\R i)=R k:=propext ⟨fun⟨_,e,h⟩=>by cases e; exact h,fun h=>⟨k,rfl,h⟩⟩
def h00:Heap:={}
def jH (h:Heap) (L:Addr):List (Addr×Obj):=(List.range h.objs.size).filterMap fun a=>if a=L then none else(h.get? a).map fun o=>(a,o)
theorem kA (a:Addr):h00.get? a=none:=Heap.get?_none_of_le (Nat.zero_le _)
theorem ki {h:Heap} {L b:Addr} {o:Obj} (e:h.get? b=some o) (n:b≠L):(b,o)∈jH h L:=by
 refine List.mem_filterMap.mpr ⟨b,List.mem_range.mpr (Heap.lt_size e), ?_⟩
 rw[if_neg n,e]
 rfl
theorem X2 {h:Heap} {L:Addr}:News h00 L h (jH h L):=fun p hp=>by
 obtain⟨a,_,e⟩:=List.mem_filterMap.mp hp
 by_cases n:a=L
 ·rw[if_pos n] at e; cases e
 ·rw[if_neg n] at e
  cases q:h.get? a with
  |none=>rw[q] at e; cases e
  |some o=>rw[q] at e; cases e; exact⟨q,n,kA _⟩
def rLenA (K:PySem.W.Frag):List V->Hp->VK->Prop:=fun xs H Q=>∃p ys,xs=[.ref p]/\(SqL K H p ys\/SqT K H p ys)/\Q (.int ys.length) H
theorem Xb {X:Cx} {K:PySem.W.Frag} (h:X.K=K):zY X (.builtin "len") (rLenA K):=h▸xF
structure GInt (mg:Str->Option Value) (nm:Str) (n:Int):Prop where
 ex:∃t,mg nm=some (.int n t)
theorem pe_gint {X:Cx} {x:Str} {n:Int} {pos:Pos} (G:GInt X.mg x n) (hg:Gl X x) (hd:(x==("__debug__" : Str))=false:=by decide):PE X (.Name x pos) (tC (.int n)):=by
 obtain⟨t,e⟩:=G.ex
 exact XO hg e ⟨t,rfl⟩ hd
def Bt (n:Nat) (i:Int):Prop:=i.natAbs<2^n
theorem Bt.bits {n:Nat} {i:Int} (h:Bt n i):Builtin.Int.intBits i<=n:=intBits_le_iff.mpr h
theorem Bt.mono {n m:Nat} {i:Int} (h:Bt n i) (hm:n<=m):Bt m i:=Nat.lt_of_lt_of_le h (Nat.pow_le_pow_right (by decide) hm)
theorem Bt.neg {n:Nat} {i:Int} (h:Bt n i):Bt n (-i):=by unfold Bt; rw[Int.natAbs_neg]; exact h
theorem Bt.small {n:Nat} {i:Int} (h0 : -(2^62)<i) (h1:i<2^62) (hn:62<=n):Bt n i:=by
 refine Bt.mono (n:=62) ?_ hn
 unfold Bt
 omega
theorem Bt.sign {n:Nat} {i s:Int} (h:Bt n i) (hs:s=1\/s = -1):Bt n (s*i):=by
 rcases hs with rfl|rfl
 ·rw[Int.one_mul]; exact h
 ·rw[Int.neg_mul,Int.one_mul]; exact h.neg
def Itv (K:PySem.W.Frag) (a:Addr) (n:Nat):It :=
 ⟨fun i H=>i<n/\∃xs,SqL K H a xs/\xs.length=n,fun i H x H'=>H'=H/\∀xs,SqL K H a xs->xs[n-1-i]?=some x,fun i H=>n=i⟩
def RvStep (K:PySem.W.Frag) (vs:List V) (H:Hp) (R:It->Hp->Prop):Prop:=∃a xs,vs=[.ref a]/\SqL K H a xs/\R (Itv K a xs.length) H
def iRev (K:PySem.W.Frag) (ta:TA):TI:=fun σ H R=>ta σ H fun vs H1=>RvStep K vs H1 R
theorem j9 {K:PySem.W.Frag} {ta:TA} {σ:St} {H:Hp} {R:It->Hp->Prop}:iRev K ta σ H R=ta σ H fun vs H1=>RvStep K vs H1 R:=rfl
def Ite (K:PySem.W.Frag) (a:Addr):It :=
 ⟨fun i H=>∃xs x,SqL K H a xs/\xs[i]?=some x,fun i H x H'=>∃(p:Addr) (v:V),x=.ref p/\H p=none/\H'=upd H p (.tup [.int i,v])/\∀xs,SqL K H a xs->xs[i]?=some v,fun i H=>∃xs,SqL K H a xs/\xs.length<=i⟩
def EnStep (K:PySem.W.Frag) (vs:List V) (H:Hp) (R:It->Hp->Prop):Prop:=∃a xs,vs=[.ref a]/\SqL K H a xs/\R (Ite K a) H
def iEnum (K:PySem.W.Frag) (ta:TA):TI:=fun σ H R=>ta σ H fun vs H1=>EnStep K vs H1 R
theorem xL {K:PySem.W.Frag} {ta:TA} {σ:St} {H:Hp} {R:It->Hp->Prop}:iEnum K ta σ H R=ta σ H fun vs H1=>EnStep K vs H1 R:=rfl
def rNeL (K:PySem.W.Frag):R2:=fun x y H Q=>∃a b xs ys,x=.ref a/\y=.ref b/\SqL K H a xs/\SqL K H b ys/\((xs.length≠ys.length/\Q (.bl true) H)\/(xs.length=ys.length/\∃e:Nat->Bool,(∀(j:Nat) x y,xs[j]?=some x->ys[j]?=some y->DE K H 20 x y (e j))/\Q (.bl (!(List.range xs.length).all e)) H))
def rEqL (K:PySem.W.Frag):R2:=fun x y H Q=>∃a b xs ys,x=.ref a/\y=.ref b/\SqL K H a xs/\SqL K H b ys/\((xs.length≠ys.length/\Q (.bl false) H)\/(xs.length=ys.length/\∃e:Nat->Bool,(∀(j:Nat) x y,xs[j]?=some x->ys[j]?=some y->DE K H 20 x y (e j))/\Q (.bl ((List.range xs.length).all e)) H))
theorem op_neLK {X:Cx} {K:PySem.W.Frag} (hK:X.K=K) (hu:X.A.units+64<cLine):OpR X (compareOp .NotEq) (rNeL K):=by
 subst hK
 intro pins s σ H x y v u Q I rx ry h
 obtain⟨a,b,xs,ys,rfl,rfl,ha,hb,h⟩:=h
 obtain rfl:v=Value.ref a:=rx
 obtain rfl:u=Value.ref b:=ry
 obtain⟨its,r1,p1,_⟩:=I.list ha
 obtain⟨its2,r2,p2,_⟩:=I.list hb
 rcases h with⟨hl,q⟩|⟨hl,e,he,q⟩
 ·exact EqBoolInt.of_rcne (SeqAt.RcNeAt.lists_lengths (A:=X.A) p1.isList p2.isList (by simp[<-r1.length, <-r2.length,hl]) (by omega)) ⟨.bl _,H,I,rfl,q⟩
 ·refine EqBoolInt.of_rcne (SeqAt.RcNeAt.lists (A:=X.A) (e:=e) p1.isList p2.isList (by simp[<-r1.length, <-r2.length,hl]) (by omega) fun j h1 h2=>?_) ⟨.bl _,H,I,rfl, ?_⟩
  ·have l1:j<xs.length:=by rw[r1.length]; simpa using h1
   have l2:j<ys.length:=by rw[r2.length]; simpa using h2
   obtain⟨u1,q1,s1⟩:=r1.get (List.getElem?_eq_getElem l1)
   obtain⟨u2,q2,s2⟩:=r2.get (List.getElem?_eq_getElem l2)
   have e1:its.toArray[j]=u1:=by
    obtain⟨_,z⟩:=List.getElem?_eq_some_iff.mp q1
    simpa using z
   have e2:its2.toArray[j]=u2:=by
    obtain⟨_,z⟩:=List.getElem?_eq_some_iff.mp q2
    simpa using z
   rw[e1,e2]
   exact(he j _ _ (List.getElem?_eq_getElem l1) (List.getElem?_eq_getElem l2)).eqAt I (by rw[zq]; omega) s1 s2
  ·rw[List.size_toArray, <-r1.length]
   exact q
theorem op_eqLK {X:Cx} {K:PySem.W.Frag} (hK:X.K=K) (hu:X.A.units+64<cLine):OpR X (compareOp .Eq) (rEqL K):=by
 subst hK
 intro pins s σ H x y v u Q I rx ry h
 obtain⟨a,b,xs,ys,rfl,rfl,ha,hb,h⟩:=h
 obtain rfl:v=Value.ref a:=rx
 obtain rfl:u=Value.ref b:=ry
 obtain⟨its,r1,p1,_⟩:=I.list ha
 obtain⟨its2,r2,p2,_⟩:=I.list hb
 rcases h with⟨hl,q⟩|⟨hl,e,he,q⟩
 ·exact EqBoolInt.of_rc (SeqAt.RcAt.lists_lengths (A:=X.A) p1.isList p2.isList (by simp[<-r1.length, <-r2.length,hl]) (by omega)) ⟨.bl _,H,I,rfl,q⟩
 ·refine EqBoolInt.of_rc (SeqAt.RcAt.lists (A:=X.A) (e:=e) p1.isList p2.isList (by simp[<-r1.length, <-r2.length,hl]) (by omega) fun j h1 h2=>?_) ⟨.bl _,H,I,rfl, ?_⟩
  ·have l1:j<xs.length:=by rw[r1.length]; simpa using h1
   have l2:j<ys.length:=by rw[r2.length]; simpa using h2
   obtain⟨u1,q1,s1⟩:=r1.get (List.getElem?_eq_getElem l1)
   obtain⟨u2,q2,s2⟩:=r2.get (List.getElem?_eq_getElem l2)
   have e1:its.toArray[j]=u1:=by
    obtain⟨_,z⟩:=List.getElem?_eq_some_iff.mp q1
    simpa using z
   have e2:its2.toArray[j]=u2:=by
    obtain⟨_,z⟩:=List.getElem?_eq_some_iff.mp q2
    simpa using z
   rw[e1,e2]
   exact(he j _ _ (List.getElem?_eq_getElem l1) (List.getElem?_eq_getElem l2)).eqAt I (by rw[zq]; omega) s1 s2
  ·rw[List.size_toArray, <-r1.length]
   exact q
theorem JV {α:Type} [DecidableEq α] {ns ms:List α} (hl:ns.length=ms.length):(List.range ns.length).all (fun j=>ns[j]?==ms[j]?)=decide (ns=ms):=by
 rw[Bool.eq_iff_iff,decide_eq_true_iff,List.all_eq_true]
 constructor
 ·intro h
  refine List.ext_getElem? fun j=>?_
  by_cases hj:j<ns.length
  ·exact eq_of_beq (h j (List.mem_range.mpr hj))
  ·rw[List.getElem?_eq_none (by omega),List.getElem?_eq_none (by omega)]
 ·rintro rfl j _
  simp
def ixRev (n:Nat):List Nat:=sliceRange (sliceBounds none none (some (-1)) n).1 (sliceBounds none none (some (-1)) n).2.1 (sliceBounds none none (some (-1)) n).2.2
def pickV (xs:List V):List V:=(ixRev xs.length).filterMap fun i=>xs[i]?
def RevStep (K:PySem.W.Frag) (x:V) (H:Hp) (Q:VK):Prop:=∃a xs,x=.ref a/\SqL K H a xs/\∀r,H r=none->Q (.ref r) (upd H r (.lst (pickV xs)))
def tRev (K:PySem.W.Frag) (te:TE):TE:=fun σ H Q=>te σ H fun x H1=>RevStep K x H1 Q
def X1:Expr->Bool
 |.Starred _ _=>false
 |_=>true
theorem Xn {e:Expr} {es:List Expr} {env:Env} (h:X1 e=true):starEach (e::es) env=(false,eval e env)::starEach es env:=by
 cases e<;>first|rfl|cases h
theorem pa_c {X:Cx} {e:Expr} {es:List Expr} {te:TE} {t:TA} (ha:PE X e te) (hr:PA X es t) (h:X1 e=true:=by rfl):PA X (e::es) (vo te t):=kb ha hr (Xn h)
structure QE (X:Cx) (e:Expr) (t:TE):Prop where
 h:PE X e t
structure QT (X:Cx) (e:Expr) (t:TT):Prop where
 h:PT X e t
structure QW (X:Cx) (e:Expr) (t:TT):Prop where
 h:PW X e t
structure QA (X:Cx) (e:List Expr) (t:TA):Prop where
 h:PA X e t
structure QS (X:Cx) (e:Stmt) (t:TS):Prop where
 h:PS X e t
structure QSs (X:Cx) (e:List Stmt) (t:TS):Prop where
 h:PSs X e t
structure QG (X:Cx) (e:Expr) (t:TG):Prop where
 h:PG X e t
structure QTs (X:Cx) (e:List Expr) (t:TT):Prop where
 h:PTs X e t
structure QO (X:Cx) (e:Option Expr) (t:TO):Prop where
 h:PO X e t
structure QI (X:Cx) (tg e:Expr) (t:TI):Prop where
 h:PI X tg e t
structure QPs (X:Cx) (pos:Pos) (ks:List (Option Expr)) (vs:List Expr) (t:List (TE×TE)):Prop where
 h:PPs X pos ks vs t
section
variable {X:Cx}
theorem vd  : QSs X [] Qc:=⟨pss_nil ⟩
end
section
variable {X:Cx} {st:Stmt} {t:TS}
theorem qj (h1:QS X st t):QSs X [st] t:=⟨pss_one h1.h⟩
end
section
variable {X:Cx} {st:Stmt} {rest:List Stmt} {t u:TS}
theorem qh (h1:QS X st t) (h2:QSs X rest u):QSs X (st::rest) (tSeq t u):=⟨pss_cons h1.h h2.h⟩
end
section
variable {X:Cx} {elt tg iter:Expr} {ifs:List Expr} {scope:Scope} {bs:List Bool} {ext:List Str} {pos:Pos} {wi:TI} {g:TG} {tt:TT} {te:TE}
theorem XB {i:Nat} {x:Str} {pos' spos:Pos} (bs:List Bool) (ext:List Str) (hN:X.N.Nodup) (hix:X.N[i]?=some x) (hx:X.env.scope.names.lookup x=some .local) (hi:QI X tg iter wi) (hg:∀fp s H,QG (cxB X scope ext fp s H) tg g) (ht:∀fp s H,QTs (cxB X scope ext fp s H) ifs tt) (he:∀fp s H,QE (cxB X scope ext fp s H) elt te) (hk:xD scope X.env X.N bs=true:=by rfl) (hc:X.calm=true:=by rfl) (hsw:swapsWith (.ListComp elt [⟨tg,iter,ifs,0⟩] scope pos) (some (.Name x pos')) spos.line X.env=pure true:=by rfl) (hs:∀x,foldedSetIterable iter X.env x=pure x:=by intro _; rfl):QS X (.Assign [.Name x pos'] (.ListComp elt [⟨tg,iter,ifs,0⟩] scope pos) spos) (tAsg (xq wi bs ext.length g tt te) (qE i)):=⟨ps_lc bs ext hN hix hx hi.h (fun fp s H=>(hg fp s H).h) (fun fp s H=>(ht fp s H).h) (fun fp s H=>(he fp s H).h) hk hc hsw hs⟩
end
section
variable {X:Cx} {pos:Pos}
theorem qD {i:Nat} {x:Str} {e:Expr} {te:TE} {pos':Pos} (hN:X.N.Nodup) (hi:X.N[i]?=some x) (hx:Loc X.env.scope x) (he:QE X e te) (hs:swapsWith e (some (.Name x pos')) pos.line X.env=pure false:=by rfl) (hf:X.fn x=true\/X.env.scope.names.lookup x=some .local:=by first|exact .inl rfl|exact .inr rfl|assumption):QS X (.Assign [.Name x pos'] e pos) (tAsg te (qE i)):=⟨ps_set hN hi hx he.h hs hf⟩
end
section
variable {X:Cx} {pos:Pos}
theorem jC {tg e:Expr} {te:TE} {g:TG} (he:QE X e te) (hg:QG X tg g) (hs:swapsWithSole [tg] e pos.line X.env=pure false:=by rfl) (hw:swappedStores [tg] e X.env=pure none:=by rfl) (h1:(assignEach [tg] X.env).map (·.2)=[assign tg X.env]:=by rfl):QS X (.Assign [tg] e pos) (tAsg te g):=⟨ps_asg he.h hg.h hs hw h1⟩
end
section
variable {X:Cx} {pos:Pos}
theorem qs_aug {i:Nat} {x:Str} {e:Expr} {te:TE} {op:Operator} {ti:TIp} {pos':Pos} (hN:X.N.Nodup) (hi:X.N[i]?=some x) (hx:Loc X.env.scope x) (he:QE X e te) (ho:PIp X op ti) (hf:X.fn x=true\/X.env.scope.names.lookup x=some .local:=by first|exact .inl rfl|exact .inr rfl|assumption):QS X (.AugAssign (.Name x pos') op e pos) (tAug i te ti):=⟨ps_aug hN hi hx he.h ho hf⟩
end
section
variable {X:Cx} {e:Expr} {te:TE} {pos:Pos}
theorem qx (he:QE X e te):QS X (.Return (some e) pos) (tRet te):=⟨ps_ret he.h⟩
end
section
variable {X:Cx} {t u:TS} {pos:Pos}
theorem zd {c:Expr} {a b:List Stmt} {tc:TT} (hc:QT X c tc) (ha:QSs X a t) (hb:QSs X b u):QS X (.If c a b pos) (tIfS tc t u):=⟨ps_if hc.h ha.h hb.h⟩
end
section
variable {X:Cx} {tg:Expr}
theorem v8 {iter:Expr} {body:List Stmt} {wi:TI} {g:TG} {tb:TS} {pos:Pos} (hp:PassesOwn (model X.prog X.w) X.A X.env X.xe) (hc:X.calm=true) (hi:QI X tg iter wi) (hg:QG X tg g) (hb:QSs X body tb) (hs:∀x,foldedSetIterable iter X.env x=pure x:=by intro _; rfl):QS X (.For tg iter body [] pos) (tFor wi g tb):=⟨ps_for hp hc hi.h hg.h hb.h hs⟩
end
section
variable {X:Cx} {pos:Pos}
theorem VX {c:Expr} {body:List Stmt} {tc:TT} {tb:TS} (hp:PassesOwn (model X.prog X.w) X.A X.env X.xe) (hc:QT X c tc) (hb:QSs X body tb):QS X (.While c body [] pos) (VR tc tb):=⟨ps_while hp hc.h hb.h⟩
end
section
variable {X:Cx} {e:Expr} {te:TE} {pos:Pos}
theorem xw (he:QE X e te) (hs:swapsWith e none pos.line X.env=pure false:=by rfl):QS X (.Expr e pos) (Qd te):=⟨ps_expr he.h hs⟩
end
section
variable {X:Cx} {tg:Expr}
theorem zo {a:Expr} {ta:TA} {p pos:Pos} (hg:Gl X "range") (hm:X.mg "range" = none) (ha:QA X [a] ta) (hs:starEach [a] X.env=[(false,eval a X.env)]:=by rfl):QI X tg (.Call (.Name "range" p) [a] [] pos) (Ju ta):=⟨XJ hg hm ha.h hs⟩
end
section
variable {X:Cx} {tg:Expr}
theorem XD {a b:Expr} {ta:TA} {p pos:Pos} (hg:Gl X "range") (hm:X.mg "range" = none) (ha:QA X [a,b] ta) (hs:starEach [a,b] X.env=[(false,eval a X.env),(false,eval b X.env)]:=by rfl) (hs2:starEach [b] X.env=[(false,eval b X.env)]:=by rfl):QI X tg (.Call (.Name "range" p) [a,b] [] pos) (iRng2 ta):=⟨XI hg hm ha.h hs hs2⟩
end
section
variable {X:Cx} {K:PySem.W.Frag}
theorem qG {tg l:Expr} {tl:TE} (h:X.K=K) (hl:QE X l tl):QI X tg l (ZZ K tl):=⟨pi_listK h hl.h⟩
end
section
variable {X:Cx} {K:PySem.W.Frag}
theorem qi_tupK {tg l:Expr} {tl:TE} (h:X.K=K) (hl:QE X l tl):QI X tg l (iTup K tl):=⟨pi_tupK h hl.h⟩
end
section
variable {X:Cx} {pos:Pos}
theorem qO {i:Nat} {x:Str} (hN:X.N.Nodup) (hi:X.N[i]?=some x) (hx:Loc X.env.scope x) (hf:X.fn x=true\/X.env.scope.names.lookup x=some .local:=by first|exact .inl rfl|exact .inr rfl|assumption):QG X (.Name x pos) (qE i):=⟨xz hN hi hx hf⟩
end
section
variable {X:Cx} {K:PySem.W.Frag}
theorem Ql {i j:Nat} {x y:Str} {px py pos:Pos} {kk:Nat} (h:X.K=K) (hN:X.N.Nodup) (hc:X.calm=true) (hi:X.N[i]?=some x) (hj:X.N[j]?=some y) (lx:Loc X.env.scope x) (ly:Loc X.env.scope y) (fx:X.fn x=true\/X.env.scope.names.lookup x=some .local) (fy:X.fn y=true\/X.env.scope.names.lookup y=some .local):QG X (.Tuple [.Name x px, .Name y py] kk pos) (gTup K 2 (qS (qE i) (qS (qE j) gNil))):=⟨pg_t2K h hN hc hi hj lx ly fx fy⟩
end
section
variable {X:Cx} {K:PySem.W.Frag}
theorem Qk {i j k:Nat} {x y z:Str} {px py pz pos:Pos} {kk:Nat} (h:X.K=K) (hN:X.N.Nodup) (hc:X.calm=true) (hi:X.N[i]?=some x) (hj:X.N[j]?=some y) (hk:X.N[k]?=some z) (lx:Loc X.env.scope x) (ly:Loc X.env.scope y) (lz:Loc X.env.scope z) (fx:X.fn x=true\/X.env.scope.names.lookup x=some .local) (fy:X.fn y=true\/X.env.scope.names.lookup y=some .local) (fz:X.fn z=true\/X.env.scope.names.lookup z=some .local):QG X (.Tuple [.Name x px, .Name y py, .Name z pz] kk pos) (gTup K 3 (qS (qE i) (qS (qE j) (qS (qE k) gNil)))):=⟨pg_t3K h hN hc hi hj hk lx ly lz fx fy fz⟩
end
section
variable {X:Cx} {pos:Pos}
theorem Qm {o i:Expr} {to ti:TE} {t:TSet} (ho:QE X o to) (hi:QE X i ti) (hs:PSet X t) (ha:∀v,assign (.Subscript o i pos) X.env v=(do
   let ov <-holding [v] (eval o X.env)
   let iv <-holding [v,ov] (eval i X.env)
   standAt pos
   holding [v,ov,iv] (setItem ov iv v)
   release [v,ov,iv] []):=by intro _; rfl):QG X (.Subscript o i pos) (gSub to ti t):=⟨pg_sub ho.h hi.h hs ha⟩
end
section
theorem vP {X:Cx}:QTs X [] tYes:=⟨pts_nil ⟩
end
section
theorem v5 {X:Cx} {c:Expr} {t:TT} (h:QT X c t):QTs X [c] t:=⟨pts_one h.h⟩
end
section
theorem qa_c {X:Cx} {e:Expr} {es:List Expr} {te:TE} {t:TA} (ha:QE X e te) (hr:QA X es t) (h:X1 e=true:=by rfl):QA X (e::es) (vo te t):=⟨pa_c ha.h hr.h h⟩
end
section
variable {X:Cx}
theorem qf  : QA X [] tNil:=⟨XT ⟩
end
section
variable {X:Cx} {a b:Expr} {ta tb:TE} {pos:Pos}
theorem qL {op:CmpOp} {r:R2} (ho:OpR X (compareOp op) r) (ha:QE X a ta) (hb:QE X b tb) (hm:behindInMarks op b=false):QT X (.Compare a [op] [b] pos) (xS (tOp r ta tb)):=⟨pt_cmpR ho ha.h hb.h hm⟩
end
section
variable {X:Cx} {a b c:Expr} {ta tb tc:TE} {pos:Pos}
theorem qt_chain {op op':CmpOp} {r r':R2} (ho:OpR X (compareOp op) r) (ho':OpR X (compareOp op') r') (ha:QE X a ta) (hb:QE X b tb) (hc:QE X c tc) (hm:lastMarks [op,op'] [b,c]=false:=by with_unfolding_all rfl):QT X (.Compare a [op,op'] [b,c] pos) (xS (zJ r r' ta tb tc)):=⟨pt_chain ho ho' ha.h hb.h hc.h hm⟩
end
section
theorem Vi {X:Cx} {e:Expr} {t:TT} (h:QW X e t):QT X e t:=⟨PW.pt h.h⟩
end
section
variable {X:Cx}
variable {a b:Expr} {pos:Pos}
variable {tA tB':TT} {rest:List Expr}
theorem qw_and (ha:QT X a tA) (hb:QW X (.BoolOp .And (b::rest) pos) tB'):QW X (.BoolOp .And (a::b::rest) pos) (tAnd tA tB'):=⟨pw_and ha.h hb.h⟩
end
section
variable {X:Cx}
variable {a:Expr} {pos:Pos}
variable {tA:TT}
theorem qw_and1 (ha:QT X a tA):QW X (.BoolOp .And [a] pos) tA:=⟨pw_and1 ha.h⟩
end
section
variable {X:Cx}
variable {a b:Expr} {pos:Pos}
variable {tA tB':TT} {rest:List Expr}
theorem Zq (ha:QT X a tA) (hb:QW X (.BoolOp .Or (b::rest) pos) tB'):QW X (.BoolOp .Or (a::b::rest) pos) (tOr tA tB'):=⟨pw_or ha.h hb.h⟩
end
section
variable {X:Cx}
variable {a:Expr} {pos:Pos}
variable {tA:TT}
theorem jB (ha:QT X a tA):QW X (.BoolOp .Or [a] pos) tA:=⟨pw_or1 ha.h⟩
end
section
variable {X:Cx}
variable {a:Expr} {pos:Pos}
variable {tA:TT}
theorem zn (ha:QT X a tA):QT X (.UnaryOp .Not a pos) (tNot tA):=⟨pt_not ha.h⟩
end
section
variable {X:Cx}
variable {pos:Pos}
theorem zK {e:Expr} {t:TE} (h:QE X e t) (he:∀whole,isTrue e X.env whole=(do let v <-whole; standAt e.pos; holding [v] (truthy v)):=by intro _; rfl):QT X e (tB t):=⟨pt_val h.h he⟩
end
section
variable {X:Cx} {K:PySem.W.Frag}
theorem xZ {a:Expr} {ta:TE} (h:X.K=K) (ha:QE X a ta) (he:∀whole,isTrue a X.env whole=(do let v <-whole; standAt a.pos; holding [v] (truthy v))):QT X a (tTru K ta):=⟨XG h ha.h he⟩
end
section
variable {X:Cx}
theorem zL {j pos}:QE X (.Constant .none j pos) (tC .non):=⟨pe_non ⟩
end
section
variable {X:Cx}
theorem xG {b j pos}:QE X (.Constant (.bool b) j pos) (tC (.bl b)):=⟨pe_bl ⟩
end
section
variable {X:Cx}
theorem qe {i j pos}:QE X (.Constant (.int i) j pos) (tC (.int i)):=⟨pe_int ⟩
end
section
variable {X:Cx}
theorem ve {x j pos}:QE X (.Constant (.str x) j pos) (tC (.str x)):=⟨pe_str ⟩
end
section
variable {X:Cx}
theorem qv (i:Nat) {x:Str} {pos:Pos} (hN:X.N[i]?=some x:=by rfl) (hv:Vis X.env.scope x:=by first|exact Or.inl rfl|exact Or.inr (Or.inl rfl)|exact Or.inr (Or.inr rfl)) (hd:(x==("__debug__" : Str))=false:=by decide) (hcd:(x==("__classdict__" : Str))=false:=by decide):QE X (.Name x pos) (tVar i):=⟨pv i hN hv hd hcd⟩
end
section
variable {X:Cx} {a b:Expr} {ta tb:TE} {pos:Pos}
theorem qw {op:Operator} {r:R2} (ho:OpR X (binaryOp op) r) (ha:QE X a ta) (hb:QE X b tb):QE X (.BinOp a op b pos) (tOp r ta tb):=⟨pe_op ho ha.h hb.h⟩
end
section
variable {X:Cx} {a b:Expr} {ta tb:TE} {pos:Pos}
theorem jb {op:CmpOp} {r:R2} (ho:OpR X (compareOp op) r) (ha:QE X a ta) (hb:QE X b tb) (hm:behindInMarks op b=false):QE X (.Compare a [op] [b] pos) (tOp r ta tb):=⟨pe_cmpR ho ha.h hb.h hm⟩
end
section
variable {X:Cx} {a b c:Expr} {ta tb tc:TE} {pos:Pos}
theorem VY {op op':CmpOp} {r r':R2} (ho:OpR X (compareOp op) r) (ho':OpR X (compareOp op') r') (ha:QE X a ta) (hb:QE X b tb) (hc:QE X c tc) (hm:lastMarks [op,op'] [b,c]=false:=by with_unfolding_all rfl):QE X (.Compare a [op,op'] [b,c] pos) (zJ r r' ta tb tc):=⟨pe_chain ho ho' ha.h hb.h hc.h hm⟩
end
section
variable {X:Cx}
variable {a b:Expr} {ta tb:TE} {pos:Pos}
variable {tA:TT}
theorem qe_ifExp {c:Expr} (hc:QT X c tA) (ha:QE X a ta) (hb:QE X b tb):QE X (.IfExp c a b pos) (tIf tA ta tb):=⟨pe_ifExp hc.h ha.h hb.h⟩
end
section
variable {X:Cx} {es:List Expr} {t:TA} {pos:Pos}
theorem qV (h:QA X es t):QE X (.List es pos) (tLst t):=⟨pe_lst h.h⟩
end
section
variable {X:Cx} {es:List Expr} {t:TA} {pos:Pos}
theorem qR {x1} (h:QA X es t):QE X (.Tuple es x1 pos) (tTup t):=⟨pe_tup h.h⟩
end
section
variable {X:Cx} {e:Expr} {te:TE} {lo hi:Option Expr} {tl th:TO} {pos p2:Pos}
theorem vN {r:V->Option Int->Option Int->Hp->VK->Prop} (hr:SlR X r) (he:QE X e te) (hl:QO X lo tl) (hu:QO X hi th):QE X (.Subscript e (.Slice lo hi none p2) pos) (tSl r te tl th):=⟨pe_slice hr he.h hl.h hu.h⟩
end
section
variable {X:Cx} {e:Expr} {te:TE}
theorem vQ (h:QE X e te):QO X (some e) (Qb te):=⟨po_some h.h⟩
end
section
variable {X:Cx}
theorem xy  : QO X none zf:=⟨po_none ⟩
end
section
variable {X:Cx} {a b:Expr} {ta tb:TE} {pos:Pos}
theorem qI {r:R2} (hr:IxR X r) (ha:QE X a ta) (hb:QE X b tb) (hs:JX b):QE X (.Subscript a b pos) (tOp r ta tb):=⟨pe_ix hr ha.h hb.h hs⟩
end
section
variable {X:Cx} {o i:Expr} {pos:Pos} {td ty:TE}
theorem XF (hu:X.A.units+1<cLine) (ho:QE X o td) (hi:QE X i ty) (hs:NoSl i):QE X (.Subscript o i pos) (tDGet td ty):=⟨pe_dget hu ho.h hi.h hs⟩
end
section
variable {X:Cx} {elt tg iter:Expr} {ifs:List Expr} {scope:Scope} {bs:List Bool} {ext:List Str} {pos:Pos} {wi:TI} {g:TG} {tt:TT} {te:TE}
theorem xb (bs:List Bool) (ext:List Str) (hi:QI X tg iter wi) (hg:∀fp s H,QG (cxB X scope ext fp s H) tg g) (ht:∀fp s H,QTs (cxB X scope ext fp s H) ifs tt) (he:∀fp s H,QE (cxB X scope ext fp s H) elt te) (hk:xD scope X.env X.N bs=true:=by rfl) (hc:X.calm=true:=by rfl) (hs:∀x,foldedSetIterable iter X.env x=pure x:=by intro _; rfl):QE X (.ListComp elt [⟨tg,iter,ifs,0⟩] scope pos) (xq wi bs ext.length g tt te):=⟨pe_lc bs ext hi.h (fun fp s H=>(hg fp s H).h) (fun fp s H=>(ht fp s H).h) (fun fp s H=>(he fp s H).h) hk hc hs⟩
end
section
theorem qe_disp {X:Cx} {pos:Pos} {keys:List (Option Expr)} {values:List Expr} {trs:List (TE×TE)} (h:QPs X pos keys values trs) (hall:keys.all (·.isSome)=true) (hl:keys.length=values.length) (h0:keys≠[]) (h15:keys.length<=15):QE X (.Dict keys values pos) (tDisp trs):=⟨pe_disp h.h hall hl h0 h15⟩
end
section
theorem qps_nil {X:Cx} {pos:Pos}:QPs X pos [] [] []:=⟨pps_nil ⟩
end
section
theorem xa {X:Cx} {pos:Pos} {k v:Expr} {ks:List (Option Expr)} {vs:List Expr} {tk tv:TE} {trs:List (TE×TE)} (hk:QE X k tk) (hv:QE X v tv) (hr:QPs X pos ks vs trs):QPs X pos (some k::ks) (v::vs) ((tk,tv)::trs):=⟨pps_cons hk.h hv.h hr.h⟩
end
section
variable {X:Cx} {x:Str} {k:Nat} {ps:List Str} {sp:Sp} {p pos:Pos} {e:Expr} {es:List Expr} {t:TA}
theorem qo (D:Def X.prog X.w X.K X.mg X.base x k ps sp) (hr:Room k X.A) (ha:QA X (e::es) t) (hg:Gl X x:=by rfl) (hdb:(x==("__debug__" : Str))=false:=by decide) (he:starEach (e::es) X.env=(false,eval e X.env)::starEach es X.env:=by rfl) (hpl:(backTo pos (starEach es X.env)).any (·.1)=false:=by rfl):QE X (.Call (.Name x p) (e::es) [] pos) (v3 sp [] E0 t):=⟨pe_def D hr ha.h hg hdb he hpl⟩
end
section
variable {X:Cx} {x:Str} {k:Nat} {ps:List Str} {sp:Sp} {p pos:Pos}
theorem ka (D:Def X.prog X.w X.K X.mg X.base x k ps sp) (hr:Room k X.A) (hg:Gl X x:=by rfl) (hdb:(x==("__debug__" : Str))=false:=by decide):QE X (.Call (.Name x p) [] [] pos) (v3 sp [] E0 tNil):=⟨pe_def0 D hr hg hdb⟩
end
section
variable {X:Cx} {x:Str} {p pos:Pos} {e:Expr} {es:List Expr} {t:TA} {id:String} {r:List V->Hp->VK->Prop}
theorem va (hc:zY X (.builtin id) r) (hg:Gl X x) (hm:X.mg x=none) (hv:bootBuiltins x=some (.builtin id)) (ha:QA X (e::es) t) (hn:x ≠ "__name__" := by decide) (hdb:(x==("__debug__" : Str))=false:=by decide) (he:starEach (e::es) X.env=(false,eval e X.env)::starEach es X.env:=by rfl) (hpl:(backTo pos (starEach es X.env)).any (·.1)=false:=by rfl):QE X (.Call (.Name x p) (e::es) [] pos) (tCB r t):=⟨pe_callB hc hg hm hv ha.h hn hdb he hpl⟩
end
section
variable {X:Cx} {x:Str} {p pos:Pos} {e:Expr} {es:List Expr} {t:TA} {T:String} {r:List V->Hp->VK->Prop}
theorem xc (hc:zY X (.type T) r) (hg:Gl X x) (hm:X.mg x=none) (hv:bootBuiltins x=some (.type T)) (ha:QA X (e::es) t) (hn:x ≠ "__name__" := by decide) (hdb:(x==("__debug__" : Str))=false:=by decide) (he:starEach (e::es) X.env=(false,eval e X.env)::starEach es X.env:=by rfl) (hpl:(backTo pos (starEach es X.env)).any (·.1)=false:=by rfl):QE X (.Call (.Name x p) (e::es) [] pos) (tCB r t):=⟨XQ hc hg hm hv ha.h hn hdb he hpl⟩
end
section
variable {X:Cx}
theorem Zr {o e:Expr} {es:List Expr} {to:TE} {t:TA} {name:Str} {apos cpos:Pos} {id:String} {r:V->List V->Hp->VK->Prop} (slot:Slot "list" name id) (hty:typeOf (.builtin id)=pure (.type "method_descriptor")) (hm:MtR X id r) (ho:QE X o to) (ha:QA X (e::es) t) (hbase:attributeBase o name X.env (eval o X.env)=eval o X.env:=by rfl) (hfew:((backTo cpos (starEach (e::es) X.env)).all (fun x => !x.1)&&(backToKw cpos (keywordEach [] X.env)).all (fun x=>x.1.isSome)
   && decide ((e::es).length+([]:List Keyword).length+(if([]:List Keyword).isEmpty then 0 else 1)<30))=true:=by rfl) (hline:(apos.endLine==cpos.line)=true:=by rfl) (hs:starEach (e::es) X.env=(false,eval e X.env)::starEach es X.env:=by rfl) (hplain:(backTo cpos (starEach es X.env)).any (·.1)=false:=by rfl):QE X (.Call (.Attribute o name apos) (e::es) [] cpos) (tLM r to t):=⟨pe_lm slot hty hm ho.h ha.h hbase hfew hline hs hplain⟩
end
section
theorem Vj {X:Cx} {x:Str} {n:Int} {pos:Pos} (G:GInt X.mg x n) (hg:Gl X x) (hd:(x==("__debug__" : Str))=false:=by decide):QE X (.Name x pos) (tC (.int n)):=⟨pe_gint G hg hd⟩
end
section
variable {X:Cx} {pos:Pos}
theorem ja {x:Str} {v:V} {u:Value} {pos:Pos} (hg:Gl X x) (hm:X.mg x=some u) (r:RelV v u) (hd:(x==("__debug__" : Str))=false:=by decide):QE X (.Name x pos) (tC v):=⟨XO hg hm r hd⟩
end
def Obk (h h':Heap):Prop:=∀(b:Nat) (o:Obj),h.objs[b]?=some o->∃o',h'.objs[b]?=some o'/\o'.dict=o.dict
theorem Obk.refl (h:Heap):Obk h h:=fun b o e=>⟨o,e,rfl⟩
theorem Obk.trans {h h' h'':Heap} (x:Obk h h') (y:Obk h' h''):Obk h h'':=fun b o e=>by
 obtain⟨o',e',d'⟩:=x b o e
 obtain⟨o2,e2,d2⟩:=y b o' e'
 exact⟨o2,e2,d2.trans d'⟩
theorem Obk.push (h:Heap) (o:Obj):Obk h (h.push o):=fun b u e=>⟨u,by
 have hb:b<h.objs.size:=(Array.getElem?_eq_some_iff.mp e).1
 cases h
 simp only[Heap.push] at e hb ⊢
 rw[Array.getElem?_push,if_neg (Nat.ne_of_lt hb)]; exact e,rfl⟩
theorem Obk.update (h:Heap) (a:Addr) {f:Obj->Obj} (hf:∀o,(f o).dict=o.dict):Obk h (h.update a f):=fun b u e=>by
 cases h
 simp only[Heap.update] at e ⊢
 rw[Array.getElem?_modify]
 split
 ·exact⟨f u,by rw[e]; rfl,hf u⟩
 ·exact⟨u,e,rfl⟩
theorem Obk.get {h h':Heap} {a d:Addr} {o o':Obj} (x:Obk h h') (e:h.get? a=some o) (e':h'.get? a=some o'):o'.dict=o.dict:=by
 obtain⟨u,eu,du⟩:=x a o (Heap.get?_some_iff.mp e).1
 rw[(Heap.get?_some_iff.mp e').1] at eu
 cases eu
 exact du
def DK {α:Type}:Sem α->Prop
 |.pure _=>True
 |.raise _=>True
 |.unsupported _=>True
 |.finish _=>True
 |.rule _ k=>DK (k ())
 |.at _ k=>DK (k ())
 |.load _ _ k=>∀o,DK (k o)
 |.update _ _ f k=>(∀o,(f o).dict=o.dict)/\DK (k ())
 |.alloc _ k=>∀a,DK (k a)
 |.loadIfAlive _ k=>∀o,DK (k o)
 |.point _ k=>DK (k ())
 |.register _ _=>True
 |.fresh k=>∀t,DK (k t)
 |.ask k=>∀x,DK (k x)
 |.choose _ _ k=>∀n,DK (k n)
 |.os _ _ k=>∀r,DK (k r)
 |.call _ _ _ _ _=>False
 |.handled _ k=>∀x,DK (k x)
 |.newGen _ k=>∀n,DK (k n)
 |.genState _ k=>∀x,DK (k x)
 |.resume _ _ _ _=>False
 |.yield _ _ _ _=>True
 |.stack k=>∀l,DK (k l)
 |.fork _ _=>True
 |.thread k=>∀n,DK (k n)
 |.await _ _ _ _ _=>True
theorem DK.wp {α:Type} {M:Model} {Γ:PySem.Ctx}:∀{t:Sem α} {Q:α->Pos->Shared->Prop} {E:Value->Pos->Shared->Prop} {p:Pos} {s:Shared},DK t->Sem.wp M Γ t Q E p s ->
  Sem.wp M Γ t (fun a p' s'=>Q a p' s'/\Obk s.heap s'.heap) (fun e p' s'=>E e p' s'/\Obk s.heap s'.heap) p s:=by
 intro t
 induction t with
 |pure a=>intro Q E p s _ h; rw[Sem.wp] at h ⊢; exact⟨h, .refl _⟩
 |raise e=>intro Q E p s _ h; rw[Sem.wp] at h ⊢; exact⟨h, .refl _⟩
 |unsupported x=>intro Q E p s _ h; rw[Sem.wp] at h; exact h.elim
 |finish x=>intro Q E p s _ h; rw[Sem.wp] at h; exact h.elim
 |rule x k ih=>intro Q E p s d h; rw[Sem.wp] at h ⊢; exact ih () d h
 | «at» x k ih=>intro Q E p s d h; rw[Sem.wp] at h ⊢; exact ih () d h
 |load a x k ih=>intro Q E p s d h; rw[Sem.wp] at h ⊢; obtain⟨o,e,h⟩:=h; exact⟨o,e,ih o (d o) h⟩
 |update a x f k ih =>
  intro Q E p s d h; rw[Sem.wp] at h ⊢
  refine⟨h.1,Sem.wp_mono M Γ _ (fun a p' s' z=>⟨z.1,(Obk.update _ _ d.1).trans z.2⟩) (fun a p' s' z=>⟨z.1,(Obk.update _ _ d.1).trans z.2⟩) _ _ (ih () d.2 h.2)⟩
 |alloc o k ih =>
  intro Q E p s d h; rw[Sem.wp] at h ⊢
  exact Sem.wp_mono M Γ _ (fun a p' s' z=>⟨z.1,(Obk.push _ _).trans z.2⟩) (fun a p' s' z=>⟨z.1,(Obk.push _ _).trans z.2⟩) _ _ (ih _ (d _) h)
 |loadIfAlive a k ih=>intro Q E p s d h; rw[Sem.wp] at h ⊢; exact ih _ (d _) h
 |point x k ih=>intro Q E p s d h; rw[Sem.wp] at h ⊢; exact ih () d h
 |register a k ih=>intro Q E p s d h; rw[Sem.wp] at h; exact h.elim
 |fresh k ih=>intro Q E p s d h; rw[Sem.wp] at h ⊢; exact ih _ (d _) h
 |ask k ih=>intro Q E p s d h; rw[Sem.wp] at h ⊢; exact ih _ (d _) h
 |choose x n k ih=>intro Q E p s d h; rw[Sem.wp] at h ⊢; exact⟨h.1,ih _ (d _) h.2⟩
 |os q l k ih=>intro Q E p s d h; rw[Sem.wp] at h ⊢; exact ih _ (d _) h
 |call c x g l k ih=>intro Q E p s d h; exact d.elim
 |handled x k ih=>intro Q E p s d h; rw[Sem.wp] at h ⊢; exact ih _ (d _) h
 |newGen c k ih=>intro Q E p s d h; rw[Sem.wp] at h ⊢; exact ih _ (d _) h
 |genState g k ih=>intro Q E p s d h; rw[Sem.wp] at h ⊢; obtain⟨o,e,h⟩:=h; exact⟨o,e,ih _ (d _) h⟩
 |resume g r l k ih=>intro Q E p s d h; exact d.elim
 |yield v g l k ih=>intro Q E p s d h; rw[Sem.wp] at h; exact h.elim
 |stack k ih=>intro Q E p s d h; rw[Sem.wp] at h ⊢; exact ih _ (d _) h
 |fork c k ih=>intro Q E p s d h; rw[Sem.wp] at h; exact h.elim
 |thread k ih=>intro Q E p s d h; rw[Sem.wp] at h ⊢; exact ih _ (d _) h
 |await a f b l k ih=>intro Q E p s d h; rw[Sem.wp] at h; exact h.elim
theorem DK.any {α:Type} {M:Model} {A:Around} {t:Sem α} {Q:α->Shared->Prop} {E:Value->Shared->Prop} {s:Shared} (d:DK t) (h:wpAny M A t Q E s) :
  wpAny M A t (fun a s'=>Q a s'/\Obk s.heap s'.heap) (fun e s'=>E e s'/\Obk s.heap s'.heap) s:=fun Γ p hΓ=>DK.wp d (h Γ p hΓ)
structure Fli (P:Program) (w:World) (outer:List Env) (H:Hp) (s:Shared) (a:Addr) (C:Value) (d:Option Addr) (H':Hp) (s':Shared):Prop where
 own:∀o,s'.heap.get? a=some o->o.dict=d
 os:s'.os=s.os
 bare:AllBare s'.gens
 fly:∃(B:Heap) (a0:Value),Heap.FlyingW B outer a C a0 s'.heap/\HOk P w H' B/\(∀b∈frs outer,B.get? b=none)/\(∀b o,s.heap.get? b=some o->H b=none->b∉frs outer->B.get? b=some o) /\
  ∀b o,s.heap.get? b=some o->H b≠none->∃o',B.get? b=some o'
 up:∀b o,s.heap.get? b=some o->H b=none->b∈frs outer->∃sl,s'.heap.get? b=some { o with slots:=sl }
 free:∀b o,s.heap.get? b=some o->H b=none->H' b=none
 tups:∀b xs,H b=some (.tup xs)->H' b=some (.tup xs)
 frzs:∀b o u,H b=some (.frz o u)->H' b=some (.frz o u)
 tbls:∀b ps,H b=some (.tbl ps)->∃more,H' b=some (.tbl (ps++more))
def wordsX:List Str:=["laying", "room", "word", "head", "end", "limb", "small", "kind", "address"]
def wW (n:Int):Str:=(wordsX[((n-1000000) % 9).toNat]?).getD ""
def wK (n:Int):Int:=(n-1000000) / 9
def xfs (n:Int):List (Str×V):=if n<1000000 then[("part", .int n)] else[("word", .str (wW n)),("k", .int (wK n))]
def pV:Option Int->V
 |none=>.non
 |some n=>.int n
theorem pV_inj {p q:Option Int} (h:pV p=pV q):p=q:=by
 cases p<;>cases q<;>first|rfl|cases h
 rfl
def PartIs (d:Option Addr) (H:Hp):Option Int->Prop
 |none=>d=none
 |some n=>∃x,d=some x/\H x=some (.xd (xfs n))
def EX (mg:Str->Option Value) (D:Ends) (σ:St):XK:=fun C d H'=>∃nm p,mg nm=some C/\PartIs d H' p/\D.bk (some (.str nm)::some (pV p)::σ) H'
section
variable {mg:Str->Option Value}
def bkX (n:Nat) (mg:Str->Option Value) (E:XK):St->Hp->Prop:=fun τ H'=>∃nm p σ',τ=some (.str nm)::some (pV p)::σ'/\σ'.length=n/\∀C d,mg nm=some C->PartIs d H' p->E C d H'
theorem bkX.ex {n:Nat} {E:XK} {Q:VK} {nx:St->Hp->Prop} {σ:St} {C:Value} {H':Hp} {d:Option Addr} (h:EX mg { nx:=nx,rt:=Q,bk:=bkX n mg E } σ C d H'):E C d H':=by
 obtain⟨nm,p,hm,hp,nm',p',σ',e,_,k⟩:=h
 simp only[List.cons.injEq,Option.some.injEq,V.str.injEq] at e
 exact k C d (e.1▸hm) (pV_inj e.2.1▸hp)
end
section
variable {P:Program} {w:World} {outer:List Env} {H H':Hp} {s s':Shared} {a:Addr} {C:Value} {d:Option Addr}
theorem Fli.step (F:Fli P w outer H s a C d H' s'):∃B a0,Heap.FlyingW B outer a C a0 s'.heap/\∀h',Heap.FlyingW B outer a C a0 h'->s'.heap.UpToSlots h'->Obk s'.heap h'->Fli P w outer H s a C d H' { s' with heap:=h' }:=by
 obtain⟨B,a0,fl,hok,nb,kp,th⟩:=F.fly
 refine⟨B,a0,fl,fun h' fl' up kd=>⟨fun o q=>by
  obtain⟨o1,e1,_⟩:=fl.there
  exact(kd.get (d:=0) e1 q).trans (F.own o1 e1),F.os,F.bare,⟨B,a0,fl',hok,nb,kp,th⟩,fun b o q n hb=>?_,F.free,F.tups,F.frzs,F.tbls⟩⟩
 obtain⟨sl,e⟩:=F.up b o q n hb
 obtain⟨_,o',ho',hd⟩:=fl.2.2.1.mem (show b∈outer.filterMap (·.frame) from hb)
 rw[e] at ho'; cases ho'
 obtain⟨sl2,e2⟩:=up b _ e hd
 exact⟨sl2,e2⟩
end
end L2
namespace PySem
theorem Paired.of_get {α β:Type} {F:α->β->Prop}:∀{l:List α} {m:List β},l.length=m.length->(∀(i:Nat) x y,l[i]?=some x->m[i]?=some y->F x y)->Paired F l m
 | [], [],_,_=>.nil
 | [],_::_,h,_=>by simp at h
 |_::_, [],h,_=>by simp at h
 |x::l,y::m,h,r=>.cons (r 0 x y rfl rfl) (Paired.of_get (by simpa using h) fun i a b ha hb=>r (i+1) a b (by simpa using ha) (by simpa using hb))
theorem Paired.len {α β:Type} {F:α->β->Prop}:∀{l:List α} {m:List β},Paired F l m->l.length=m.length
 |_,_, .nil=>rfl
 |_,_, .cons _ t=>by rw[List.length_cons,List.length_cons,Paired.len t]
theorem Paired.get2 {α β:Type} {F:α->β->Prop}:∀{l:List α} {m:List β} {i:Nat} {x:α} {y:β},Paired F l m->l[i]?=some x->m[i]?=some y->F x y
 |_,_,_,_,_, .nil,h,_=>by simp at h
 |_,_,0,_,_, .cons r _,h,k=>by simp at h k; subst h k; exact r
 |_,_,i+1,_,_, .cons _ t,h,k=>Paired.get2 (i:=i) t (by simpa using h) (by simpa using k)
theorem Paired.getR {α β:Type} {F:α->β->Prop} {l:List α} {m:List β} {i:Nat} {y:β} (h:Paired F l m) (e:m[i]?=some y):∃x,l[i]?=some x/\F x y:=by
 have hl:=h.len
 have hi:=(List.getElem?_eq_some_iff.mp e).1
 have hx:l[i]?=some (l[i]'(by omega)):=List.getElem?_eq_getElem (by omega)
 exact⟨_,hx,h.get2 hx e⟩
theorem Paired.getL {α β:Type} {F:α->β->Prop} {l:List α} {m:List β} {i:Nat} {x:α} (h:Paired F l m) (e:l[i]?=some x):∃y,m[i]?=some y/\F x y:=by
 have hl:=h.len
 have hi:=(List.getElem?_eq_some_iff.mp e).1
 have hx:m[i]?=some (m[i]'(by omega)):=List.getElem?_eq_getElem (by omega)
 exact⟨_,hx,h.get2 e hx⟩
theorem Paired.app {α β:Type} {F:α->β->Prop}:∀{l l':List α} {m m':List β},Paired F l m->Paired F l' m'->Paired F (l++l') (m++m')
 |_,_,_,_, .nil,h=>h
 |_,_,_,_, .cons r t,h=>.cons r (Paired.app t h)
theorem Paired.put {α β:Type} {F:α->β->Prop} {x:α} {y:β} (r:F x y):∀{l:List α} {m:List β} (i:Nat),Paired F l m->Paired F (l.set i x) (m.set i y)
 |_,_,_, .nil=>.nil
 |_,_,0, .cons _ t=>.cons r t
 |_,_,i+1, .cons q t=>.cons q (Paired.put r i t)
theorem Paired.tk {α β:Type} {F:α->β->Prop}:∀{l:List α} {m:List β} (n:Nat),Paired F l m->Paired F (l.take n) (m.take n)
 |_,_,0,_=>.nil
 |_,_,_+1, .nil=>.nil
 |_,_,n+1, .cons r t=>.cons r (Paired.tk n t)
theorem Paired.dr {α β:Type} {F:α->β->Prop}:∀{l:List α} {m:List β} (n:Nat),Paired F l m->Paired F (l.drop n) (m.drop n)
 |_,_,0,r=>r
 |_,_,_+1, .nil=>.nil
 |_,_,n+1, .cons _ t=>Paired.dr n t
theorem Paired.erase {α β:Type} {F:α->β->Prop}:∀{l:List α} {m:List β} (n:Nat),Paired F l m->Paired F (l.eraseIdx n) (m.eraseIdx n)
 |_,_,_, .nil=>.nil
 |_,_,0, .cons _ t=>t
 |_,_,n+1, .cons r t=>.cons r (Paired.erase n t)
theorem Paired.mapR {α β γ:Type} {F:α->β->Prop} {G:α->γ->Prop} {f:β->γ} (h:∀a b,F a b->G a (f b)):∀{l:List α} {m:List β},Paired F l m->Paired G l (m.map f)
 |_,_, .nil=>.nil
 |_,_, .cons r t=>.cons (h _ _ r) (Paired.mapR h t)
theorem Paired.unmapR {α β γ:Type} {F:α->β->Prop} {G:α->γ->Prop} {f:β->γ} (h:∀a b,G a (f b)->F a b):∀{m:List β} {l:List α},Paired G l (m.map f)->Paired F l m
 | [],_, .nil=>.nil
 |_::m,_, .cons r t=>.cons (h _ _ r) (Paired.unmapR h (m:=m) t)
theorem Paired.empt {α β:Type} {F:α->β->Prop} {l:List α} {m:List β} (h:Paired F l m):l.isEmpty=m.isEmpty:=by cases h<;>rfl
end PySem
namespace L2
open PySem PySem.Spec PyProof.Rows
inductive T where
 |non|bl (b:Bool)|int (i:Int)|str (x:Str)|tup (xs:List T)|lst (xs:List T)
inductive U where
 |p (t:T)|m (k:Nat)|x (a:Addr) (d:Option Addr) (q:Option Int)
inductive MO where
 |lst (us:List U)|tup (us:List U)|ins (C:Addr) (fs:List (Str×U))|dK (kvs:List (Key×U))|dF (kvs:List (Key×U)) (ob:Obj) (gs:List (Key×V))|tab (P:Addr) (pos:Pos) (qual:Str)
abbrev MM:=List MO
abbrev UEnv:=List (Option U)
inductive RepT (A:Addr->Prop) (H:Hp):V->T->Prop
 |non:RepT A H .non .non
 |bl (b:Bool):RepT A H (.bl b) (.bl b)
 |int (i:Int):RepT A H (.int i) (.int i)
 |str (x:Str):RepT A H (.str x) (.str x)
 |tup {p:Addr} {vs:List V} {ts:List T} (na:¬A p) (e:H p=some (.tup vs)) (l:vs.length=ts.length) (r:∀(i:Nat) v t,vs[i]?=some v->ts[i]?=some t->RepT A H v t):RepT A H (.ref p) (.tup ts)
 |lst {p:Addr} {vs:List V} {ts:List T} (na:¬A p) (e:H p=some (.lst vs)) (l:vs.length=ts.length) (r:∀(i:Nat) v t,vs[i]?=some v->ts[i]?=some t->RepT A H v t):RepT A H (.ref p) (.lst ts)
section
variable {A A':Addr->Prop} {H H':Hp} {v:V} {t:T} {ι ι':List Addr} {M:MM} {u:U} {σ:St} {ρ:UEnv}
abbrev RepTs (A:Addr->Prop) (H:Hp):List V->List T->Prop:=Paired (RepT A H)
theorem RepT.tupP {p:Addr} {vs:List V} {ts:List T} (na:¬A p) (e:H p=some (.tup vs)) (r:RepTs A H vs ts):RepT A H (.ref p) (.tup ts):=.tup na e r.len fun i v t h k=>r.get2 h k
theorem RepT.lstP {p:Addr} {vs:List V} {ts:List T} (na:¬A p) (e:H p=some (.lst vs)) (r:RepTs A H vs ts):RepT A H (.ref p) (.lst ts):=.lst na e r.len fun i v t h k=>r.get2 h k
theorem RepT.mono (h:∀x o,¬A x->H x=some o->H' x=some o/\¬A' x) (r:RepT A H v t):RepT A' H' v t:=by
 induction r with
 |non=>exact .non
 |bl b=>exact .bl b
 |int i=>exact .int i
 |str x=>exact .str x
 |tup na e l r ih=>exact .tup (h _ _ na e).2 (h _ _ na e).1 l ih
 |lst na e l r ih=>exact .lst (h _ _ na e).2 (h _ _ na e).1 l ih
theorem RepT.tup_inv {ts:List T} (r:RepT A H v (.tup ts)):∃p vs,v=.ref p/\¬A p/\H p=some (.tup vs)/\RepTs A H vs ts:=by
 cases r with
 |tup na e l r=>exact⟨_,_,rfl,na,e,Paired.of_get l r⟩
theorem RepT.lst_inv {ts:List T} (r:RepT A H v (.lst ts)):∃p vs,v=.ref p/\¬A p/\H p=some (.lst vs)/\RepTs A H vs ts:=by
 cases r with
 |lst na e l r=>exact⟨_,_,rfl,na,e,Paired.of_get l r⟩
def Av (A:Addr->Prop) (ι:List Addr):Addr->Prop:=fun x=>A x\/x∈ι
def PartX (ι:List Addr) (H:Hp) (d:Option Addr):Option Int->Prop
 |none=>d=none
 |some n=>∃x0,d=some x0/\x0∉ι/\H x0=some (.xd (xfs n))
inductive RepU (A:Addr->Prop) (ι:List Addr) (H:Hp):V->U->Prop
 |p {v:V} {t:T} (r:RepT (Av A ι) H v t):RepU A ι H v (.p t)
 |m {k:Nat} {a:Addr} (e:ι[k]?=some a):RepU A ι H (.ref a) (.m k)
 |x {a:Addr} {d:Option Addr} {q:Option Int} (h:PartX ι H d q):RepU A ι H (.ref a) (.x a d q)
abbrev RepUs (A:Addr->Prop) (ι:List Addr) (H:Hp):List V->List U->Prop:=Paired (RepU A ι H)
def Z5 (c:Addr) (qual:Str):HO:=.ext fun h=>h.CodeRec (.ref c) qual
def ObjR (A:Addr->Prop) (ι:List Addr) (H:Hp) (a:Addr):MO->Prop
 |.lst us=>∃vs,H a=some (.lst vs)/\RepUs A ι H vs us
 |.tup us=>∃vs,H a=some (.tup vs)/\RepUs A ι H vs us
 |.ins C fs=>∃dx gs,H a=some (.ins C dx gs)/\H dx=some (.own a)/\dx∉ι/\Paired (fun(g:Str×V) (f:Str×U)=>g.1=f.1/\RepU A ι H g.2 f.2) gs fs
 |.dK kvs=>∃gs,H a=some (.dK gs)/\Paired (fun(g:Key×V) (f:Key×U)=>g.1=f.1/\RepU A ι H g.2 f.2) gs kvs
 |.dF kvs ob gs=>H a=some (.frz ob (.dK gs))/\Paired (fun(g:Key×V) (f:Key×U)=>g.1=f.1/\RepU A ι H g.2 f.2) gs kvs
 |.tab P pos qual=>∃ps:Array Value,H a=some (.tbl ps)/\(TriplesOk ps.toList/\a=P)/\(codeAmong pos ps.toList=none\/∃c,codeAmong pos ps.toList=some (.ref c)/\H c=some (Z5 c qual)/\c∉ι)
structure Wd (A:Addr->Prop) (ι:List Addr) (H:Hp) (M:MM):Prop where
 nd:ι.Nodup
 len:ι.length=M.length
 dom:∀x,A x->H x≠none
 na:∀x∈ι,¬A x
 obj:∀(k:Nat) a o,ι[k]?=some a->M[k]?=some o->ObjR A ι H a o
structure Le (ι:List Addr) (H:Hp) (ι':List Addr) (H':Hp):Prop where
 ext:∃n,ι'=ι++n/\∀x∈n,H x=none
 fr:∀x o,H x=some o->x∉ι->H' x=some o
 al:∀x,H x≠none->H' x≠none
theorem Le.refl (ι:List Addr) (H:Hp):Le ι H ι H:=⟨⟨[],by simp,by simp⟩,fun _ _ h _=>h,fun _ h=>h⟩
theorem Le.trans {ι2:List Addr} {H2:Hp} (a:Le ι H ι' H') (b:Le ι' H' ι2 H2):Le ι H ι2 H2:=by
 obtain⟨n,rfl,hn⟩:=a.ext
 obtain⟨m,rfl,hm⟩:=b.ext
 have key:∀x,H x≠none->x∉ι->x∉ι++n:=fun x hx h z=>by
  rcases List.mem_append.mp z with z|z
  ·exact h z
  ·exact hx (hn x z)
 refine⟨⟨n++m,by rw[List.append_assoc],fun x hx=>?_⟩,fun x o e h=>b.fr x o (a.fr x o e h) (key x (by rw[e]; simp) h),fun x h=>b.al x (a.al x h)⟩
 rcases List.mem_append.mp hx with z|z
 ·exact hn x z
 ·cases q:H x with
  |none=>rfl
  |some o=>exact absurd (hm x z) (a.al x (by rw[q]; simp))
theorem Le.av (l:Le ι H ι' H') {x:Addr} {o:HO} (h:¬Av A ι x) (e:H x=some o):H' x=some o/\¬Av A ι' x:=by
 obtain⟨n,rfl,hn⟩:=l.ext
 refine⟨l.fr x o e fun z=>h (.inr z),fun z=>?_⟩
 rcases z with z|z
 ·exact h (.inl z)
 ·rcases List.mem_append.mp z with z|z
  ·exact h (.inr z)
  ·rw[hn x z] at e; cases e
theorem RepT.le (l:Le ι H ι' H') (r:RepT (Av A ι) H v t):RepT (Av A ι') H' v t:=r.mono fun _ _ h e=>l.av h e
theorem PartX.le {d:Option Addr} {q:Option Int} (l:Le ι H ι' H') (h:PartX ι H d q):PartX ι' H' d q:=by
 cases q with
 |none=>exact h
 |some n =>
  obtain⟨x0,e,ni,hx⟩:=h
  obtain⟨m,rfl,hm⟩:=l.ext
  refine⟨x0,e,fun z=>?_,l.fr x0 _ hx ni⟩
  rcases List.mem_append.mp z with z|z
  ·exact ni z
  ·rw[hm x0 z] at hx; cases hx
theorem RepU.le (l:Le ι H ι' H') (r:RepU A ι H v u):RepU A ι' H' v u:=by
 cases r with
 |p r=>exact .p (r.le l)
 |m e =>
  obtain⟨n,rfl,_⟩:=l.ext
  exact .m (by rw[List.getElem?_append_left (List.getElem?_eq_some_iff.mp e).1]; exact e)
 |x h=>exact .x (h.le l)
theorem RepUs.le {vs:List V} {us:List U} (l:Le ι H ι' H') (r:RepUs A ι H vs us):RepUs A ι' H' vs us:=Paired.mapP r fun _ _ q=>q.le l
theorem ObjR.some {a:Addr} {o:MO} (r:ObjR A ι H a o):∃h,H a=some h:=by
 cases o with
 |lst=>obtain⟨vs,e,_⟩:=r; exact⟨_,e⟩
 |tup=>obtain⟨vs,e,_⟩:=r; exact⟨_,e⟩
 |ins=>obtain⟨_,_,e,_⟩:=r; exact⟨_,e⟩
 |dK=>obtain⟨_,e,_⟩:=r; exact⟨_,e⟩
 |dF=>obtain⟨e,_⟩:=r; exact⟨_,e⟩
 |tab=>obtain⟨_,e,_⟩:=r; exact⟨_,e⟩
theorem ObjR.le' {a:Addr} {o:MO} (l:Le ι H ι' H') (ea:H' a=H a) (eo:∀x,H x=Option.some (.own a)->H' x=H x) (r:ObjR A ι H a o):ObjR A ι' H' a o:=by
 cases o with
 |lst=>obtain⟨vs,e,r⟩:=r; exact⟨vs,by rw[ea]; exact e,Paired.mapP r fun _ _ q=>q.le l⟩
 |tup=>obtain⟨vs,e,r⟩:=r; exact⟨vs,by rw[ea]; exact e,Paired.mapP r fun _ _ q=>q.le l⟩
 |ins =>
  obtain⟨dx,gs,e,ed,nd,r⟩:=r
  obtain⟨n,rfl,hn⟩:=l.ext
  refine⟨dx,gs,by rw[ea]; exact e,by rw[eo dx ed]; exact ed,fun z=>?_,Paired.mapP r fun _ _ q=>⟨q.1,q.2.le l⟩⟩
  rcases List.mem_append.mp z with z|z
  ·exact nd z
  ·rw[hn dx z] at ed; cases ed
 |dK=>obtain⟨gs,e,r⟩:=r; exact⟨gs,by rw[ea]; exact e,Paired.mapP r fun _ _ q=>⟨q.1,q.2.le l⟩⟩
 |dF=>obtain⟨e,r⟩:=r; exact⟨by rw[ea]; exact e,Paired.mapP r fun _ _ q=>⟨q.1,q.2.le l⟩⟩
 |tab =>
  obtain⟨ps,e,t,z⟩:=r
  obtain⟨n,rfl,hn⟩:=l.ext
  refine⟨ps,by rw[ea]; exact e,t,z.imp id fun⟨c,h1,h2,h3⟩=>⟨c,h1,l.fr c _ h2 h3,fun y=>?_⟩⟩
  rcases List.mem_append.mp y with y|y
  ·exact h3 y
  ·rw[hn c y] at h2; cases h2
theorem Wd.al (w:Wd A ι H M) {k:Nat} {a:Addr} (e:ι[k]?=some a):∃o,M[k]?=some o/\ObjR A ι H a o:=by
 have h:=(List.getElem?_eq_some_iff.mp e).1
 have e2:M[k]?=some (M[k]'(by rw[<-w.len]; exact h)):=List.getElem?_eq_getElem _
 exact⟨_,e2,w.obj k a _ e e2⟩
theorem Wd.at (w:Wd A ι H M) {k:Nat} {o:MO} (e:M[k]?=some o):∃a,ι[k]?=some a/\ObjR A ι H a o:=by
 have h:=(List.getElem?_eq_some_iff.mp e).1
 have e2:ι[k]?=some (ι[k]'(by rw[w.len]; exact h)):=List.getElem?_eq_getElem _
 exact⟨_,e2,w.obj k _ _ e2 e⟩
theorem Wd.mem_some (w:Wd A ι H M) {a:Addr} (h:a∈ι):∃o,H a=some o:=by
 obtain⟨k,e⟩:=List.getElem?_of_mem h
 obtain⟨o,_,r⟩:=w.al e
 exact r.some
theorem Wd.not_own (w:Wd A ι H M) {a x:Addr} (h:a∈ι):H a≠some (.own x):=fun z=>by
 obtain⟨k,e⟩:=List.getElem?_of_mem h
 obtain⟨o,_,r⟩:=w.al e
 cases o with
 |lst=>obtain⟨vs,e,_⟩:=r; rw[z] at e; cases e
 |tup=>obtain⟨vs,e,_⟩:=r; rw[z] at e; cases e
 |ins=>obtain⟨_,_,e,_⟩:=r; rw[z] at e; cases e
 |dK=>obtain⟨_,e,_⟩:=r; rw[z] at e; cases e
 |dF=>obtain⟨e,_⟩:=r; rw[z] at e; cases e
 |tab=>obtain⟨_,e,_⟩:=r; rw[z] at e; cases e
theorem Le.fresh {p:Addr} {o:HO} (h:H p=none):Le ι H ι (upd H p o):=⟨⟨[],by simp,by simp⟩,fun x o' e _=>vq h e,fun x e=>by
 by_cases z:x=p
 ·subst z; rw[upd_same]; simp
 ·rw[upd_ne z]; exact e⟩
theorem Le.push {p:Addr} {o:HO} (h:H p=none):Le ι H (ι++[p]) (upd H p o):=⟨⟨[p],rfl,fun x hx=>by rw[List.mem_singleton.mp hx]; exact h⟩,(Le.fresh (ι:=ι) h).fr,(Le.fresh (ι:=ι) h).al⟩
theorem Le.put {p:Addr} {o:HO} (h:p∈ι):Le ι H ι (upd H p o):=⟨⟨[],by simp,by simp⟩,fun x o' e n=>by rw[upd_ne (fun z=>n (by rw[z]; exact h))]; exact e,fun x e=>by
 by_cases z:x=p
 ·subst z; rw[upd_same]; simp
 ·rw[upd_ne z]; exact e⟩
theorem Wd.fresh (w:Wd A ι H M) {p:Addr} {o:HO} (h:H p=none):Wd A ι (upd H p o) M :=
 ⟨w.nd,w.len,fun x hx=>(Le.fresh (ι:=ι) h).al x (w.dom x hx),w.na,fun k a ob e1 e2=>(w.obj k a ob e1 e2).le' (.fresh h) (upd_ne fun z=>by
  obtain⟨q,hq⟩:=w.mem_some (List.mem_of_getElem? e1)
  rw[z,h] at hq; cases hq) fun x ex=>upd_ne fun z=>by rw[z,h] at ex; cases ex⟩
theorem Wd.nin (w:Wd A ι H M) {p:Addr} (h:H p=none):p∉ι:=fun z=>by
 obtain⟨q,hq⟩:=w.mem_some z
 rw[h] at hq; cases hq
theorem Wd.nA (w:Wd A ι H M) {p:Addr} (h:H p=none):¬Av A ι p:=fun z=>z.elim (fun z=>w.dom p z h) (w.nin h)
theorem Wd.push (w:Wd A ι H M) {p:Addr} {o:HO} {mo:MO} (h:H p=none) (new:ObjR A (ι++[p]) (upd H p o) p mo):Wd A (ι++[p]) (upd H p o) (M++[mo]):=by
 have np:=w.nin h
 refine⟨List.nodup_append.mpr ⟨w.nd,by simp,fun a ha b hb=>?_⟩,by simp[w.len],fun x hx=>(Le.fresh (ι:=ι) h).al x (w.dom x hx),fun x hx=>?_,fun k a ob e1 e2=>?_⟩
 ·rw[List.mem_singleton.mp hb]; exact fun z=>np (by rw[<-z]; exact ha)
 ·rcases List.mem_append.mp hx with z|z
  ·exact w.na x z
  ·rw[List.mem_singleton.mp z]; exact fun z=>w.dom p z h
 ·by_cases hk:k<ι.length
  ·rw[List.getElem?_append_left hk] at e1
   rw[List.getElem?_append_left (by rw[<-w.len]; exact hk)] at e2
   exact(w.obj k a ob e1 e2).le' (.push h) (upd_ne fun z=>np (by rw[<-z]; exact List.mem_of_getElem? e1)) fun x ex=>upd_ne fun z=>by rw[z,h] at ex; cases ex
  ·have hk2:=(List.getElem?_eq_some_iff.mp e1).1
   rw[List.length_append,List.length_singleton] at hk2
   have:k=ι.length:=by omega
   subst this
   rw[List.getElem?_append_right (Nat.le_refl _),Nat.sub_self] at e1
   rw[w.len,List.getElem?_append_right (Nat.le_refl _),Nat.sub_self] at e2
   simp at e1 e2
   subst e1 e2
   exact new
theorem Wd.put (w:Wd A ι H M) {k:Nat} {p:Addr} {o:HO} {mo:MO} (e:ι[k]?=some p) (new:ObjR A ι (upd H p o) p mo):Wd A ι (upd H p o) (M.set k mo):=by
 have hp:=List.mem_of_getElem? e
 refine⟨w.nd,by rw[List.length_set]; exact w.len,fun x hx=>(Le.put hp).al x (w.dom x hx),w.na,fun j a ob e1 e2=>?_⟩
 by_cases hj:k=j
 ·subst hj
  rw[e] at e1; cases e1
  rw[List.getElem?_set_self (by rw[<-w.len]; exact(List.getElem?_eq_some_iff.mp e).1)] at e2
  cases e2
  exact new
 ·rw[List.getElem?_set_ne hj] at e2
  have na:a≠p:=fun z=>by
   subst z
   have h1:=List.getElem?_eq_some_iff.mp e
   have h2:=List.getElem?_eq_some_iff.mp e1
   exact hj ((List.getElem_inj w.nd).mp (h1.2.trans h2.2.symm))
  exact(w.obj j a ob e1 e2).le' (.put hp) (upd_ne na) fun x ex=>upd_ne fun z=>by
   rw[z] at ex; exact w.not_own hp ex
def EnvR (A:Addr->Prop) (ι:List Addr) (H:Hp):St->UEnv->Prop:=Paired fun(s:Option V) (r:Option U)=>∀u,r=some u->∃v,s=some v/\RepU A ι H v u
theorem EnvR.le (l:Le ι H ι' H') (r:EnvR A ι H σ ρ):EnvR A ι' H' σ ρ:=Paired.mapP r fun _ _ q u e=>by
 obtain⟨v,h1,h2⟩:=q u e
 exact⟨v,h1,h2.le l⟩
theorem EnvR.get (r:EnvR A ι H σ ρ) {i:Nat} {u:U} (e:ρ[i]?=some (some u)):∃v,σ[i]?=some (some v)/\RepU A ι H v u:=by
 obtain⟨s,h1,h2⟩:=Paired.getR r e
 obtain⟨v,rfl,h3⟩:=h2 u rfl
 exact⟨v,h1,h3⟩
theorem EnvR.put (r:EnvR A ι H σ ρ) (i:Nat) (q:RepU A ι H v u):EnvR A ι H (σ.set i (some v)) (ρ.set i (some u)):=Paired.put (fun w e=>by cases e; exact⟨v,rfl,q⟩) i r
def maskU (bs:List Bool) (n:Nat) (ρ:UEnv):UEnv:=(bs.zip ρ).map (fun p=>if p.1 then p.2 else none)++List.replicate n none
theorem EnvR.mask {bs:List Bool} {n:Nat} (r:EnvR A ι H σ ρ):EnvR A ι H (vV bs n σ) (maskU bs n ρ):=by
 refine Paired.app ?_ ?_
 ·induction r generalizing bs with
  |nil=>simp; exact .nil
  |cons q t ih =>
   cases bs with
   |nil=>exact .nil
   |cons b bs =>
    refine .cons ?_ ih
    cases b
    ·intro u e; simp at e
    ·simpa using q
 ·induction n with
  |zero=>exact .nil
  |succ n ih=>exact .cons (fun u e=>by cases e) ih
end
abbrev UK:=U->MM->Prop
abbrev UE:=UEnv->MM->UK->Prop
abbrev UT:=UEnv->MM->(Bool->MM->Prop)->Prop
abbrev UA:=UEnv->MM->(List U->MM->Prop)->Prop
def LE (te:TE) (ue:UE):Prop:=∀(A:Addr->Prop) (ι:List Addr) (σ:St) (H:Hp) (ρ:UEnv) (M:MM) (Qu:UK) (Q:VK),Wd A ι H M->EnvR A ι H σ ρ->ue ρ M Qu ->
 (∀u M' ι' v H',Le ι H ι' H'->Wd A ι' H' M'->RepU A ι' H' v u->Qu u M'->Q v H')->te σ H Q
def LT (tt:TT) (ut:UT):Prop:=∀(A:Addr->Prop) (ι:List Addr) (σ:St) (H:Hp) (ρ:UEnv) (M:MM) (Qu:Bool->MM->Prop) (Q:Bool->Hp->Prop),Wd A ι H M->EnvR A ι H σ ρ->ut ρ M Qu ->
 (∀b M' ι' H',Le ι H ι' H'->Wd A ι' H' M'->Qu b M'->Q b H')->tt σ H Q
def LA (n:Nat) (ta:TA) (ua:UA):Prop:=∀(A:Addr->Prop) (ι:List Addr) (σ:St) (H:Hp) (ρ:UEnv) (M:MM) (Qu:List U->MM->Prop) (Q:List V->Hp->Prop),Wd A ι H M->EnvR A ι H σ ρ->ua ρ M Qu ->
 (∀us M' ι' vs H',Le ι H ι' H'->Wd A ι' H' M'->us.length=n->RepUs A ι' H' vs us->Qu us M'->Q vs H')->ta σ H Q
section
variable {ta tb tc:TE} {ua ub uc:UE} {tt tt':TT} {ut ut':UT} {tl:TA} {ul:UA} {n:Nat}
def uVar (i:Nat):UE:=fun ρ M Q=>∃u,ρ[i]?=some (some u)/\Q u M
theorem le_var (i:Nat):LE (tVar i) (uVar i):=fun A ι σ H ρ M Qu Q w e ⟨u,h,q⟩ k=>by
 obtain⟨v,h1,h2⟩:=e.get h
 exact⟨v,h1,k u M ι v H (.refl _ _) w h2 q⟩
inductive Sc:V->T->Prop
 |non:Sc .non .non
 |bl (b:Bool):Sc (.bl b) (.bl b)
 |int (i:Int):Sc (.int i) (.int i)
 |str (x:Str):Sc (.str x) (.str x)
theorem Sc.rep {A:Addr->Prop} {H:Hp} {v:V} {t:T} (h:Sc v t):RepT A H v t:=by cases h<;>constructor
def uC (t:T):UE:=fun _ M Q=>Q (.p t) M
theorem le_c {v:V} {t:T} (h:Sc v t):LE (tC v) (uC t):=fun A ι σ H ρ M Qu Q w e q k=>k _ M ι v H (.refl _ _) w (.p h.rep) q
def uNil:UA:=fun _ M Q=>Q [] M
def uCons (ua:UE) (ul:UA):UA:=fun ρ M Q=>ua ρ M fun x M1=>ul ρ M1 fun xs M2=>Q (x::xs) M2
theorem la_nil:LA 0 tNil uNil:=fun A ι σ H ρ M Qu Q w e q k=>k [] M ι [] H (.refl _ _) w rfl .nil q
theorem la_cons (ha:LE ta ua) (hl:LA n tl ul):LA (n+1) (vo ta tl) (uCons ua ul):=fun A ι σ H ρ M Qu Q w e q k =>
 ha A ι σ H ρ M _ _ w e q fun x M1 ι1 v H1 l1 w1 r1 q1=>hl A ι1 σ H1 ρ M1 _ _ w1 (e.le l1) q1 fun xs M2 ι2 vs H2 l2 w2 hn r2 q2 =>
  k (x::xs) M2 ι2 (v::vs) H2 (l1.trans l2) w2 (by rw[List.length_cons,hn]) (.cons (r1.le l2) r2) q2
def vI:List U->Option (List T)
 | []=>some []
 |.p t::r=>(vI r).map (t :: ·)
 |.m _::_=>none
 |.x _ _ _::_=>none
@[simp] theorem zy:∀ts:List T,vI (ts.map U.p)=some ts
 | []=>rfl
 |t::r=>by simp[vI,zy r]
theorem vD:∀{us:List U} {ts:List T},vI us=some ts->us=ts.map U.p
 | [],_,h=>by simp[vI] at h; subst h; rfl
 |.p t::r,ts,h=>by
  simp[vI] at h
  obtain⟨a,h1,rfl⟩:=h
  rw[List.map_cons, <-vD h1]
 |.m _::_,_,h=>by simp[vI] at h
 |.x _ _ _::_,_,h=>by simp[vI] at h
def sn (M:MM):U->Option T
 |.p t=>some t
 |.m k=>match M[k]? with
  |some (.lst us)=>(vI us).map T.lst
  |some (.tup us)=>(vI us).map T.tup
  |_=>none
 |.x _ _ _=>none
def sns (M:MM):List U->Option (List T)
 | []=>some []
 |u::r=>match sn M u,sns M r with
  |some t,some ts=>some (t::ts)
  |_,_=>none
inductive RepV (A:Addr->Prop) (H:Hp):V->T->Prop
 |of {v:V} {t:T} (r:RepT A H v t):RepV A H v t
 |lst {p:Addr} {vs:List V} {ts:List T} (e:H p=some (.lst vs)) (r:RepTs A H vs ts):RepV A H (.ref p) (.lst ts)
 |tup {p:Addr} {vs:List V} {ts:List T} (e:H p=some (.tup vs)) (r:RepTs A H vs ts):RepV A H (.ref p) (.tup ts)
variable {A:Addr->Prop} {H H':Hp} {ι:List Addr} {M:MM} {v:V} {u:U} {t:T}
theorem RepV.lst_inv {ts:List T} (r:RepV A H v (.lst ts)):∃p vs,v=.ref p/\H p=some (.lst vs)/\RepTs A H vs ts:=by
 cases r with
 |of r=>obtain⟨p,vs,h1,_,h2,h3⟩:=r.lst_inv; exact⟨p,vs,h1,h2,h3⟩
 |lst e r=>exact⟨_,_,rfl,e,r⟩
theorem RepV.tup_inv {ts:List T} (r:RepV A H v (.tup ts)):∃p vs,v=.ref p/\H p=some (.tup vs)/\RepTs A H vs ts:=by
 cases r with
 |of r=>obtain⟨p,vs,h1,_,h2,h3⟩:=r.tup_inv; exact⟨p,vs,h1,h2,h3⟩
 |tup e r=>exact⟨_,_,rfl,e,r⟩
theorem RepV.int_inv {i:Int} (r:RepV A H v (.int i)):v=.int i:=by cases r with|of r=>cases r; rfl
theorem RepV.bl_inv {i:Bool} (r:RepV A H v (.bl i)):v=.bl i:=by cases r with|of r=>cases r; rfl
theorem RepV.str_inv {i:Str} (r:RepV A H v (.str i)):v=.str i:=by cases r with|of r=>cases r; rfl
theorem RepV.non_inv (r:RepV A H v .non):v=.non:=by cases r with|of r=>cases r; rfl
theorem RepUs.pures {vs:List V} {ts:List T} (r:RepUs A ι H vs (ts.map U.p)):RepTs (Av A ι) H vs ts:=Paired.unmapR (fun a b q=>by cases q with|p r=>exact r) r
theorem RepTs.ups {vs:List V} {ts:List T} (r:RepTs (Av A ι) H vs ts):RepUs A ι H vs (ts.map U.p):=Paired.mapR (fun a b q=>.p q) r
theorem RepU.sn (w:Wd A ι H M) (r:RepU A ι H v u) (e:sn M u=some t):RepV (Av A ι) H v t:=by
 cases r with
 |p r=>simp[L2.sn] at e; subst e; exact .of r
 |m q =>
  obtain⟨o,h1,h2⟩:=w.al q
  simp only[L2.sn,h1] at e
  cases o with
  |lst us =>
   simp at e
   obtain⟨ts,e1,rfl⟩:=e
   obtain⟨vs,h3,h4⟩:=h2
   rw[vD e1] at h4
   exact .lst h3 h4.pures
  |tup us =>
   simp at e
   obtain⟨ts,e1,rfl⟩:=e
   obtain⟨vs,h3,h4⟩:=h2
   rw[vD e1] at h4
   exact .tup h3 h4.pures
  |ins=>simp at e
  |dK=>simp at e
  |dF=>simp at e
  |tab=>simp at e
 |x h=>simp[L2.sn] at e
theorem RepUs.sns (w:Wd A ι H M):∀{vs:List V} {us:List U} {ts:List T},RepUs A ι H vs us->sns M us=some ts->Paired (RepV (Av A ι) H) vs ts
 |_,_,ts, .nil,e=>by simp[L2.sns] at e; subst e; exact .nil
 |_,_,ts, .cons r q,e=>by
  simp only[L2.sns] at e
  split at e
  ·rename_i h1 h2
   simp at e; subst e
   exact .cons (r.sn w h1) (RepUs.sns w q h2)
  ·cases e
def OpL (r:R2) (s:T->T->(T->Prop)->Prop):Prop:=∀(A:Addr->Prop) (ι:List Addr) (H:Hp) (M:MM) (x y:V) (a b:T) (Qs:T->Prop) (Q:VK),Wd A ι H M->RepV (Av A ι) H x a->RepV (Av A ι) H y b->s a b Qs ->
 (∀t ι' v H',Le ι H ι' H'->Wd A ι' H' M->RepT (Av A ι') H' v t->Qs t->Q v H')->r x y H Q
def uOp (s:T->T->(T->Prop)->Prop) (ua ub:UE):UE:=fun ρ M Q=>ua ρ M fun x M1=>ub ρ M1 fun y M2=>∃a b,sn M2 x=some a/\sn M2 y=some b/\s a b fun t=>Q (.p t) M2
theorem le_op {r:R2} {s:T->T->(T->Prop)->Prop} (h:OpL r s) (ha:LE ta ua) (hb:LE tb ub):LE (tOp r ta tb) (uOp s ua ub):=fun A ι σ H ρ M Qu Q w e q k =>
 ha A ι σ H ρ M _ _ w e q fun x M1 ι1 v H1 l1 w1 r1 q1=>hb A ι1 σ H1 ρ M1 _ _ w1 (e.le l1) q1 fun y M2 ι2 v2 H2 l2 w2 r2 ⟨a,b,e1,e2,q2⟩ =>
  h A ι2 H2 M2 v v2 a b _ Q w2 ((r1.le l2).sn w2 e1) (r2.sn w2 e2) q2 fun t ι3 z H3 l3 w3 r3 q3=>k _ M2 ι3 z H3 ((l1.trans l2).trans l3) w3 (.p r3) q3
def sI (C:Int->Int->Prop) (g:Int->Int->T):T->T->(T->Prop)->Prop:=fun a b Q=>∃i j,a=.int i/\b=.int j/\C i j/\Q (g i j)
def sI0 (g:Int->Int->T):T->T->(T->Prop)->Prop:=fun a b Q=>∃i j,a=.int i/\b=.int j/\Q (g i j)
theorem zH {C:Int->Int->Prop} {gv:Int->Int->V} {g:Int->Int->T} (hg:∀i j,Sc (gv i j) (g i j)):OpL (rI C gv) (sI C g):=fun A ι H M x y a b Qs Q w r1 r2 ⟨i,j,ea,eb,c,q⟩ k=>by
 subst ea eb
 exact⟨i,j,r1.int_inv,r2.int_inv,c,k _ ι _ H (.refl _ _) w (hg i j).rep q⟩
theorem qA {gv:Int->Int->V} {g:Int->Int->T} (hg:∀i j,Sc (gv i j) (g i j)):OpL (rI0 gv) (sI0 g):=fun A ι H M x y a b Qs Q w r1 r2 ⟨i,j,ea,eb,q⟩ k=>by
 subst ea eb
 exact⟨i,j,r1.int_inv,r2.int_inv,k _ ι _ H (.refl _ _) w (hg i j).rep q⟩
def vt:T->Option V
 |.non=>some .non
 |.bl b=>some (.bl b)
 |.int i=>some (.int i)
 |.str x=>some (.str x)
 |_=>none
theorem VJ {x:V} (e:vt t=some x):Sc x t:=by
 cases t<;>simp[vt] at e<;>subst e<;>constructor
theorem RepV.sc {x y:V} (r:RepV A H v t) (e:vt t=some x):v=x:=by
 cases VJ e with
 |non=>exact r.non_inv
 |bl=>exact r.bl_inv
 |int=>exact r.int_inv
 |str=>exact r.str_inv
def sEq (neg:Bool):T->T->(T->Prop)->Prop:=fun a b Q=>∃x y,vt a=some x/\vt b=some y/\scal x y=true/\Q (.bl (if neg then !decide (x=y) else decide (x=y)))
theorem Qq:OpL rEq (sEq false):=fun A ι H M x y a b Qs Q w r1 r2 ⟨x',y',e1,e2,sc,q⟩ k=>by
 cases r1.sc (y:=.non) e1; cases r2.sc (y:=.non) e2
 exact⟨sc,k _ ι _ H (.refl _ _) w (.bl _) q⟩
theorem Qp:OpL rNe (sEq true):=fun A ι H M x y a b Qs Q w r1 r2 ⟨x',y',e1,e2,sc,q⟩ k=>by
 cases r1.sc (y:=.non) e1; cases r2.sc (y:=.non) e2
 exact⟨sc,k _ ι _ H (.refl _ _) w (.bl _) q⟩
def sStr:T->T->(T->Prop)->Prop:=fun a b Q=>∃i j,a=.str i/\b=.str j/\i.length+j.length<=sizeLine/\Q (.str (i++j))
def vts:List T->Option (List V)
 | []=>some []
 |t::r=>match vt t,vts r with
  |some x,some xs=>some (x::xs)
  |_,_=>none
def seqT:T->Option (List T)
 |.lst ts=>some ts
 |.tup ts=>some ts
 |_=>none
theorem vF (w:Wd A ι H M) {p:Addr} {vs:List V} {ts:List T} (h:H p=none) (r:RepTs (Av A ι) H vs ts):RepT (Av A ι) (upd H p (.lst vs)) (.ref p) (.lst ts) :=
 .lstP (w.nA h) upd_same (Paired.mapP r fun _ _ q=>q.le (.fresh h))
theorem ji (w:Wd A ι H M) {p:Addr} {vs:List V} {ts:List T} (h:H p=none) (r:RepTs (Av A ι) H vs ts):RepT (Av A ι) (upd H p (.tup vs)) (.ref p) (.tup ts) :=
 .tupP (w.nA h) upd_same (Paired.mapP r fun _ _ q=>q.le (.fresh h))
def sCat:T->T->(T->Prop)->Prop:=fun a b Q=>∃xs ys,a=.lst xs/\b=.lst ys/\xs.length+ys.length<=sizeLine/\Q (.lst (xs++ys))
theorem zR:OpL rCat sCat:=fun A ι H M x y a b Qs Q w r1 r2 ⟨xs,ys,ea,eb,hz,q⟩ k=>by
 subst ea eb
 obtain⟨p,vs,rfl,h1,q1⟩:=r1.lst_inv
 obtain⟨p2,vs2,rfl,h2,q2⟩:=r2.lst_inv
 exact⟨p,p2,vs,vs2,rfl,rfl,h1,h2,by rw[q1.len,q2.len]; exact hz,fun p hp=>k _ ι _ _ (.fresh hp) (w.fresh hp) (vF w hp (q1.app q2)) q⟩
theorem jF {α β:Type} {F:α->β->Prop} {l:List α} {m:List β} (h:Paired F l m):∀n:Nat,Paired F (List.replicate n l).flatten (List.replicate n m).flatten
 |0=>.nil
 |n+1=>by rw[List.replicate_succ,List.replicate_succ,List.flatten_cons,List.flatten_cons]; exact h.app (jF h n)
def Vx:U->Bool
 |.p .non=>true
 |_=>false
theorem Jr (r:RepU A ι H v u):decide (v=.non)=Vx u:=by
 cases r with
 |p r=>cases r<;>simp[Vx]
 |m e=>simp[Vx]
 |x h=>simp[Vx]
def uIsN (neg:Bool) (ua:UE):UE:=fun ρ M Q=>ua ρ M fun x M1=>Q (.p (.bl (if neg then !Vx x else Vx x))) M1
theorem le_notN (ha:LE ta ua):LE (tOp (fun x y H Q=>y=.non/\Q (.bl (!decide (x=.non))) H) ta (tC .non)) (uIsN true ua):=fun A ι σ H ρ M Qu Q w e q k =>
 ha A ι σ H ρ M _ _ w e q fun x M1 ι1 v H1 l1 w1 r1 q1=>⟨rfl,by rw[Jr r1]; exact k _ M1 ι1 _ H1 l1 w1 (.p (.bl _)) q1⟩
def uNeg (ua:UE):UE:=fun ρ M Q=>ua ρ M fun x M1=>∃i,x=.p (.int i)/\Q (.p (.int (-i))) M1
def uB (ua:UE):UT:=fun ρ M Q=>ua ρ M fun x M1=>∃b,x=.p (.bl b)/\Q b M1
theorem lt_b (ha:LE ta ua):LT (tB ta) (uB ua):=fun A ι σ H ρ M Qu Q w e q k =>
 ha A ι σ H ρ M _ _ w e q fun x M1 ι1 v H1 l1 w1 r1 ⟨b,ex,q1⟩=>by
  subst ex
  cases r1 with
  |p r=>cases r; exact⟨b,rfl,k b M1 ι1 H1 l1 w1 q1⟩
theorem lt_test (ha:LE ta ua):LT (xS ta) (uB ua):=lt_b ha
def truU (M:MM):U->Option Bool
 |.p .non=>some false
 |.p (.bl b)=>some b
 |.p (.int i)=>some (i != 0)
 |.p (.lst ts)=>some (!ts.isEmpty)
 |.p (.tup ts)=>some (!ts.isEmpty)
 |.m k=>match M[k]? with
  |some (.lst us)=>some (!us.isEmpty)
  |some (.tup us)=>some (!us.isEmpty)
  |some (.dK us)=>some (!us.isEmpty)
  |_=>none
 |_=>none
theorem tru_rep {K:PySem.W.Frag} {b:Bool} (w:Wd A ι H M) (r:RepU A ι H v u) (e:truU M u=some b):TruV K v H b:=by
 cases r with
 |p r =>
  cases r with
  |non=>simp[truU] at e; subst e; rfl
  |bl=>simp[truU] at e; subst e; rfl
  |int=>simp[truU] at e; subst e; simp[TruV]
  |str=>simp[truU] at e
  |tup na e1 l r=>simp only[truU,Option.some.injEq] at e; subst e; exact .inr (.inl ⟨_,SqT.of e1,by rw[(Paired.of_get l r).empt]⟩)
  |lst na e1 l r=>simp only[truU,Option.some.injEq] at e; subst e; exact .inl ⟨_,SqL.of e1,by rw[(Paired.of_get l r).empt]⟩
 |m q =>
  obtain⟨o,h1,h2⟩:=w.al q
  simp only[truU,h1] at e
  cases o with
  |lst us=>simp only[Option.some.injEq] at e; subst e; obtain⟨vs,h3,h4⟩:=h2; exact .inl ⟨_,SqL.of h3,by rw[h4.empt]⟩
  |tup us=>simp only[Option.some.injEq] at e; subst e; obtain⟨vs,h3,h4⟩:=h2; exact .inr (.inl ⟨_,SqT.of h3,by rw[h4.empt]⟩)
  |ins=>simp at e
  |dK us=>simp only[Option.some.injEq] at e; subst e; obtain⟨vs,h3,h4⟩:=h2; exact .inr (.inr ⟨_,h3,by rw[h4.empt]⟩)
  |dF=>simp at e
  |tab=>simp at e
 |x h=>simp[truU] at e
def uTru (ua:UE):UT:=fun ρ M Q=>ua ρ M fun x M1=>∃b,truU M1 x=some b/\Q b M1
theorem lt_tru {K:PySem.W.Frag} (ha:LE ta ua):LT (tTru K ta) (uTru ua):=fun A ι σ H ρ M Qu Q w e q k =>
 ha A ι σ H ρ M _ _ w e q fun x M1 ι1 v H1 l1 w1 r1 ⟨b,eb,q1⟩=>⟨b,tru_rep w1 r1 eb,k b M1 ι1 H1 l1 w1 q1⟩
def uAnd (t s:UT):UT:=fun ρ M Q=>t ρ M fun c M1=>if c=true then s ρ M1 Q else Q false M1
def uOr (t s:UT):UT:=fun ρ M Q=>t ρ M fun c M1=>if c=true then Q true M1 else s ρ M1 Q
def uNot (t:UT):UT:=fun ρ M Q=>t ρ M fun c M1=>Q (!c) M1
theorem lt_or (ha:LT tt ut) (hb:LT tt' ut'):LT (tOr tt tt') (uOr ut ut'):=fun A ι σ H ρ M Qu Q w e q k =>
 ha A ι σ H ρ M _ _ w e q fun c M1 ι1 H1 l1 w1 q1=>by
  cases c with
  |true=>exact k true M1 ι1 H1 l1 w1 q1
  |false=>exact hb A ι1 σ H1 ρ M1 _ _ w1 (e.le l1) q1 fun b M2 ι2 H2 l2 w2 q2=>k b M2 ι2 H2 (l1.trans l2) w2 q2
theorem lt_not (ha:LT tt ut):LT (tNot tt) (uNot ut):=fun A ι σ H ρ M Qu Q w e q k =>
 ha A ι σ H ρ M _ _ w e q fun c M1 ι1 H1 l1 w1 q1=>k _ M1 ι1 H1 l1 w1 q1
def uAndV (ua ub:UE):UE:=fun ρ M Q=>ua ρ M fun x M1=>∃c,x=.p (.bl c)/\if c=true then ub ρ M1 Q else Q (.p (.bl false)) M1
def uOrV (ua ub:UE):UE:=fun ρ M Q=>ua ρ M fun x M1=>∃c,x=.p (.bl c)/\if c=true then Q (.p (.bl true)) M1 else ub ρ M1 Q
def uNotV (ua:UE):UE:=fun ρ M Q=>ua ρ M fun x M1=>∃c,x=.p (.bl c)/\Q (.p (.bl (!c))) M1
def uIf (t:UT) (ua ub:UE):UE:=fun ρ M Q=>t ρ M fun c M1=>if c=true then ua ρ M1 Q else ub ρ M1 Q
theorem le_if (hc:LT tt ut) (ha:LE ta ua) (hb:LE tb ub):LE (tIf tt ta tb) (uIf ut ua ub):=fun A ι σ H ρ M Qu Q w e q k =>
 hc A ι σ H ρ M _ _ w e q fun c M1 ι1 H1 l1 w1 q1=>by
  cases c with
  |true=>exact ha A ι1 σ H1 ρ M1 _ _ w1 (e.le l1) q1 fun b M2 ι2 v2 H2 l2 w2 r2 q2=>k b M2 ι2 v2 H2 (l1.trans l2) w2 r2 q2
  |false=>exact hb A ι1 σ H1 ρ M1 _ _ w1 (e.le l1) q1 fun b M2 ι2 v2 H2 l2 w2 r2 q2=>k b M2 ι2 v2 H2 (l1.trans l2) w2 r2 q2
def VP (s s':T->T->(T->Prop)->Prop) (ua ub uc:UE):UE:=fun ρ M Q=>ua ρ M fun x M1=>ub ρ M1 fun y M2=>∃a b,sn M2 x=some a/\sn M2 y=some b/\s a b fun z=>∃k,z=.bl k /\
 if k=true then uc ρ M2 fun c M3=>∃b' c',sn M3 y=some b'/\sn M3 c=some c'/\s' b' c' fun t=>Q (.p t) M3 else Q (.p (.bl false)) M2
theorem le_chain {r r':R2} {s s':T->T->(T->Prop)->Prop} (h:OpL r s) (h':OpL r' s') (ha:LE ta ua) (hb:LE tb ub) (hc:LE tc uc):LE (zJ r r' ta tb tc) (VP s s' ua ub uc):=by
 intro A ι σ H ρ M Qu Q w e q k
 refine ha A ι σ H ρ M _ _ w e q fun x M1 ι1 v H1 l1 w1 r1 q1=>?_
 refine hb A ι1 σ H1 ρ M1 _ _ w1 (e.le l1) q1 fun y M2 ι2 v2 H2 l2 w2 r2 q2=>?_
 obtain⟨a,b,e1,e2,q2⟩:=q2
 refine h A ι2 H2 M2 v v2 a b _ _ w2 ((r1.le l2).sn w2 e1) (r2.sn w2 e2) q2 fun t ι3 z H3 l3 w3 r3 q3=>?_
 obtain⟨kk,et,q3⟩:=q3
 subst et
 cases r3
 refine⟨kk,rfl, ?_⟩
 cases kk with
 |false=>exact k _ M2 ι3 _ H3 ((l1.trans l2).trans l3) w3 (.p (.bl _)) q3
 |true =>
  refine hc A ι3 σ H3 ρ M2 _ _ w3 (e.le ((l1.trans l2).trans l3)) q3 fun c M4 ι4 v4 H4 l4 w4 r4 q4=>?_
  obtain⟨b',c',e3,e4,q4⟩:=q4
  exact h' A ι4 H4 M4 v2 v4 b' c' _ Q w4 ((r2.le (l3.trans l4)).sn w4 e3) (r4.sn w4 e4) q4 fun t ι5 z H5 l5 w5 r5 q5=>k _ M4 ι5 z H5 ((((l1.trans l2).trans l3).trans l4).trans l5) w5 (.p r5) q5
def uTup (ul:UA):UE:=fun ρ M Q=>ul ρ M fun us M1=>∃ts,vI us=some ts/\Q (.p (.tup ts)) M1
def uLst (ul:UA):UE:=fun ρ M Q=>ul ρ M fun us M1=>∃ts,vI us=some ts/\Q (.p (.lst ts)) M1
def uNew (ul:UA):UE:=fun ρ M Q=>ul ρ M fun us M1=>Q (.m M1.length) (M1++[.lst us])
def uNewT (ul:UA):UE:=fun ρ M Q=>ul ρ M fun us M1=>Q (.m M1.length) (M1++[.tup us])
theorem le_tup (ha:LA n tl ul) (hn:n<=1000:=by decide):LE (tTup tl) (uTup ul):=fun A ι σ H ρ M Qu Q w e q k =>
 ha A ι σ H ρ M _ _ w e q fun us M1 ι1 vs H1 l1 w1 hl r1 ⟨ts,et,q1⟩=>by
  have r2:=r1
  rw[vD et] at r2
  exact⟨by rw[r1.len,hl]; exact Nat.le_of_lt (qH hn),fun p hp=>k _ M1 ι1 _ _ (l1.trans (.fresh hp)) (w1.fresh hp) (.p (ji w1 hp r2.pures)) q1⟩
theorem le_lst (ha:LA n tl ul) (hn:n<=1000:=by decide):LE (tLst tl) (uLst ul):=fun A ι σ H ρ M Qu Q w e q k =>
 ha A ι σ H ρ M _ _ w e q fun us M1 ι1 vs H1 l1 w1 hl r1 ⟨ts,et,q1⟩=>by
  have r2:=r1
  rw[vD et] at r2
  exact⟨by rw[r1.len,hl]; exact Nat.le_of_lt (qH hn),fun p hp=>k _ M1 ι1 _ _ (l1.trans (.fresh hp)) (w1.fresh hp) (.p (vF w1 hp r2.pures)) q1⟩
theorem kB {α:Type} {l:List α} {x:α}:(l++[x])[l.length]?=some x:=by rw[List.getElem?_append_right (Nat.le_refl _),Nat.sub_self]; rfl
theorem X4 (w:Wd A ι H M) {p:Addr} {vs:List V} {us:List U} (h:H p=none) (r:RepUs A ι H vs us):Wd A (ι++[p]) (upd H p (.lst vs)) (M++[.lst us])/\RepU A (ι++[p]) (upd H p (.lst vs)) (.ref p) (.m M.length) :=
 ⟨w.push h ⟨vs,upd_same,r.le (.push h)⟩, .m (by rw[<-w.len]; exact kB)⟩
theorem X3 (w:Wd A ι H M) {p:Addr} {vs:List V} {us:List U} (h:H p=none) (r:RepUs A ι H vs us):Wd A (ι++[p]) (upd H p (.tup vs)) (M++[.tup us])/\RepU A (ι++[p]) (upd H p (.tup vs)) (.ref p) (.m M.length) :=
 ⟨w.push h ⟨vs,upd_same,r.le (.push h)⟩, .m (by rw[<-w.len]; exact kB)⟩
theorem le_new (ha:LA n tl ul) (hn:n<=1000:=by decide):LE (tLst tl) (uNew ul):=fun A ι σ H ρ M Qu Q w e q k =>
 ha A ι σ H ρ M _ _ w e q fun us M1 ι1 vs H1 l1 w1 hl r1 q1=>⟨by rw[r1.len,hl]; exact Nat.le_of_lt (qH hn),fun p hp=>k _ _ _ _ _ (l1.trans (.push hp)) (X4 w1 hp r1).1 (X4 w1 hp r1).2 q1⟩
theorem le_newT (ha:LA n tl ul) (hn:n<=1000:=by decide):LE (tTup tl) (uNewT ul):=fun A ι σ H ρ M Qu Q w e q k =>
 ha A ι σ H ρ M _ _ w e q fun us M1 ι1 vs H1 l1 w1 hl r1 q1=>⟨by rw[r1.len,hl]; exact Nat.le_of_lt (qH hn),fun p hp=>k _ _ _ _ _ (l1.trans (.push hp)) (X3 w1 hp r1).1 (X3 w1 hp r1).2 q1⟩
def qF (M:MM):U->Option (List U)
 |.p (.lst ts)=>some (ts.map .p)
 |.m k=>match M[k]? with
  |some (.lst us)=>some us
  |_=>none
 |_=>none
def vE (M:MM):U->Option (List U)
 |.p (.tup ts)=>some (ts.map .p)
 |.m k=>match M[k]? with
  |some (.tup us)=>some us
  |_=>none
 |_=>none
theorem vn {us:List U} (w:Wd A ι H M) (r:RepU A ι H v u) (e:qF M u=some us):∃p vs,v=.ref p/\H p=some (.lst vs)/\RepUs A ι H vs us:=by
 cases r with
 |p r =>
  cases r with
  |lst na e1 l r=>simp[qF] at e; subst e; exact⟨_,_,rfl,e1,RepTs.ups (Paired.of_get l r)⟩
  |_=>simp[qF] at e
 |m q =>
  obtain⟨o,h1,h2⟩:=w.al q
  simp only[qF,h1] at e
  cases o with
  |lst us=>simp at e; subst e; obtain⟨vs,h3,h4⟩:=h2; exact⟨_,_,rfl,h3,h4⟩
  |_=>simp at e
 |x h=>simp[qF] at e
theorem vJ {us:List U} (w:Wd A ι H M) (r:RepU A ι H v u) (e:vE M u=some us):∃p vs,v=.ref p/\H p=some (.tup vs)/\RepUs A ι H vs us:=by
 cases r with
 |p r =>
  cases r with
  |tup na e1 l r=>simp[vE] at e; subst e; exact⟨_,_,rfl,e1,RepTs.ups (Paired.of_get l r)⟩
  |_=>simp[vE] at e
 |m q =>
  obtain⟨o,h1,h2⟩:=w.al q
  simp only[vE,h1] at e
  cases o with
  |tup us=>simp at e; subst e; obtain⟨vs,h3,h4⟩:=h2; exact⟨_,_,rfl,h3,h4⟩
  |_=>simp at e
 |x h=>simp[vE] at e
theorem JR {vs:List V} {us:List U} {i:Int} {z:U} (r:RepUs A ι H vs us) (e:atI us i=some z):∃x,atI vs i=some x/\RepU A ι H x z:=by
 unfold atI at e ⊢
 rw[r.len]
 cases q:ixN us.length i with
 |none=>rw[q] at e; cases e
 |some j =>
  rw[q] at e
  exact Paired.getR r e
def uIx (it:MM->U->Option (List U)) (ua ub:UE):UE:=fun ρ M Q=>ua ρ M fun x M1=>ub ρ M1 fun y M2=>∃us i z,it M2 x=some us/\y=.p (.int i)/\atI us i=some z/\Q z M2
theorem le_ixL {K:PySem.W.Frag} (ha:LE ta ua) (hb:LE tb ub):LE (tOp (rIxL K) ta tb) (uIx qF ua ub):=fun A ι σ H ρ M Qu Q w e q k =>
 ha A ι σ H ρ M _ _ w e q fun x M1 ι1 v H1 l1 w1 r1 q1=>hb A ι1 σ H1 ρ M1 _ _ w1 (e.le l1) q1 fun y M2 ι2 v2 H2 l2 w2 r2 ⟨us,i,z,e1,e2,e3,q2⟩=>by
  subst e2
  obtain⟨p,vs,rfl,h1,h2⟩:=vn w2 (r1.le l2) e1
  obtain⟨x',h3,h4⟩:=JR h2 e3
  cases r2 with
  |p r=>cases r; exact⟨p,vs,i,x',rfl,rfl,SqL.of h1,h3,k z M2 ι2 x' H2 (l1.trans l2) w2 h4 q2⟩
theorem le_ixT {K:PySem.W.Frag} (ha:LE ta ua) (hb:LE tb ub):LE (tOp (rIxT K) ta tb) (uIx vE ua ub):=fun A ι σ H ρ M Qu Q w e q k =>
 ha A ι σ H ρ M _ _ w e q fun x M1 ι1 v H1 l1 w1 r1 q1=>hb A ι1 σ H1 ρ M1 _ _ w1 (e.le l1) q1 fun y M2 ι2 v2 H2 l2 w2 r2 ⟨us,i,z,e1,e2,e3,q2⟩=>by
  subst e2
  obtain⟨p,vs,rfl,h1,h2⟩:=vJ w2 (r1.le l2) e1
  obtain⟨x',h3,h4⟩:=JR h2 e3
  cases r2 with
  |p r=>cases r; exact⟨p,vs,i,x',rfl,rfl,SqT.of h1,h3,k z M2 ι2 x' H2 (l1.trans l2) w2 h4 q2⟩
def CbL (r:List V->Hp->VK->Prop) (s:List T->(T->Prop)->Prop):Prop:=∀(A:Addr->Prop) (ι:List Addr) (H:Hp) (M:MM) (vs:List V) (ts:List T) (Qs:T->Prop) (Q:VK),Wd A ι H M->Paired (RepV (Av A ι) H) vs ts->s ts Qs ->
 (∀t ι' v H',Le ι H ι' H'->Wd A ι' H' M->RepT (Av A ι') H' v t->Qs t->Q v H')->r vs H Q
def uCb (s:List T->(T->Prop)->Prop) (ul:UA):UE:=fun ρ M Q=>ul ρ M fun us M1=>∃ts,sns M1 us=some ts/\s ts fun t=>Q (.p t) M1
theorem le_cb {r:List V->Hp->VK->Prop} {s:List T->(T->Prop)->Prop} (h:CbL r s) (ha:LA n tl ul):LE (tCB r tl) (uCb s ul):=fun A ι σ H ρ M Qu Q w e q k =>
 ha A ι σ H ρ M _ _ w e q fun us M1 ι1 vs H1 l1 w1 hl r1 ⟨ts,e1,q1⟩=>h A ι1 H1 M1 vs ts _ Q w1 (r1.sns w1 e1) q1 fun t ι2 z H2 l2 w2 r2 q2=>k _ M1 ι2 z H2 (l1.trans l2) w2 (.p r2) q2
theorem pv1 {vs:List V} {t:T} (r:Paired (RepV A H) vs [t]):∃v,vs=[v]/\RepV A H v t:=by
 cases r with
 |cons r q=>cases q; exact⟨_,rfl,r⟩
theorem pv2 {vs:List V} {t s:T} (r:Paired (RepV A H) vs [t,s]):∃v z,vs=[v,z]/\RepV A H v t/\RepV A H z s:=by
 cases r with
 |cons r q =>
  obtain⟨v,rfl,r2⟩:=pv1 q
  exact⟨_,_,rfl,r,r2⟩
def sAbs:List T->(T->Prop)->Prop:=fun ts Q=>∃i,ts=[.int i]/\Q (.int (if i<0 then -i else i))
def sMin:List T->(T->Prop)->Prop:=fun ts Q=>∃i j,ts=[.int i, .int j]/\Q (.int (if j<i then j else i))
theorem cbl_min:CbL (fun xs H Q=>∃i j,xs=[.int i, .int j]/\Q (.int (if j<i then j else i)) H) sMin:=fun A ι H M vs ts Qs Q w r ⟨i,j,e,q⟩ k=>by
 subst e
 obtain⟨v,z,ev,r1,r2⟩:=pv2 r
 subst ev
 cases r1.int_inv; cases r2.int_inv
 exact⟨i,j,rfl,k _ ι _ H (.refl _ _) w (.int _) q⟩
def sMax:List T->(T->Prop)->Prop:=fun ts Q=>∃i j,ts=[.int i, .int j]/\Q (.int (if j>i then j else i))
def sInt:List T->(T->Prop)->Prop:=fun ts Q=>(∃i,ts=[.int i]/\Q (.int i))\/∃k,ts=[.bl k]/\Q (.int (if k then 1 else 0))
theorem JN:CbL (fun xs H Q=>(∃i,xs=[.int i]/\Q (.int i) H)\/∃k,xs=[.bl k]/\Q (.int (if k then 1 else 0)) H) sInt:=fun A ι H M vs ts Qs Q w r h k=>by
 rcases h with⟨i,e,q⟩|⟨b,e,q⟩
 ·subst e
  obtain⟨v,ev,r1⟩:=pv1 r
  subst ev
  cases r1.int_inv
  exact .inl ⟨i,rfl,k _ ι _ H (.refl _ _) w (.int _) q⟩
 ·subst e
  obtain⟨v,ev,r1⟩:=pv1 r
  subst ev
  cases r1.bl_inv
  exact .inr ⟨b,rfl,k _ ι _ H (.refl _ _) w (.int _) q⟩
def bls:List T->Option (List Bool)
 | []=>some []
 |.bl b::r=>(bls r).map (b :: ·)
 |_=>none
@[simp] theorem bls_map:∀bs:List Bool,bls (bs.map T.bl)=some bs
 | []=>rfl
 |b::r=>by simp[bls,bls_map r]
def sListOf:List T->(T->Prop)->Prop:=fun ts Q=>∃a xs,ts=[a]/\seqT a=some xs/\Q (.lst xs)
theorem Zg {K:PySem.W.Frag}:CbL (fun xs H Q=>∃p ys,xs=[.ref p]/\(SqL K H p ys\/SqT K H p ys)/\∀l,H l=none->Q (.ref l) (upd H l (.lst ys))) sListOf:=fun A ι H M vs ts Qs Q w r ⟨a,xs,e,ea,q⟩ k=>by
 subst e
 obtain⟨v,ev,r1⟩:=pv1 r
 subst ev
 cases a<;>simp[seqT] at ea
 ·subst ea
  obtain⟨p,zs,rfl,h1,h2⟩:=r1.tup_inv
  exact⟨p,zs,rfl, .inr (SqT.of h1),fun l hl=>k _ ι _ _ (.fresh hl) (w.fresh hl) (vF w hl h2) q⟩
 ·subst ea
  obtain⟨p,zs,rfl,h1,h2⟩:=r1.lst_inv
  exact⟨p,zs,rfl, .inl (SqL.of h1),fun l hl=>k _ ι _ _ (.fresh hl) (w.fresh hl) (vF w hl h2) q⟩
def uLen (it:MM->U->Option (List U)) (ul:UA):UE:=fun ρ M Q=>ul ρ M fun us M1=>∃x ys,us=[x]/\it M1 x=some ys/\Q (.p (.int ys.length)) M1
theorem le_len (ha:LA n tl ul):LE (tCB rLenL tl) (uLen qF ul):=fun A ι σ H ρ M Qu Q w e q k =>
 ha A ι σ H ρ M _ _ w e q fun us M1 ι1 vs H1 l1 w1 hl r1 ⟨x,ys,e1,e2,q1⟩=>by
  subst e1
  cases r1 with
  |cons r q =>
   cases q
   obtain⟨p,zs,rfl,h1,h2⟩:=vn w1 r e2
   exact⟨p,zs,rfl,h1,by rw[h2.len]; exact k _ M1 ι1 _ H1 l1 w1 (.p (.int _)) q1⟩
def uBits (ua:UE):UE:=fun ρ M Q=>ua ρ M fun x M1=>∃i,x=.p (.int i)/\Q (.p (.int (Builtin.Int.intBits i))) M1
def cutT (xs:List T) (lo hi:Option Int):List T:=(xs.drop (HT.sIx xs.length 0 lo)).take (HT.sIx xs.length xs.length hi-HT.sIx xs.length 0 lo)
theorem cut_rep {vs:List V} {ts:List T} {lo hi:Option Int} (r:RepTs A H vs ts):RepTs A H (cutV vs lo hi) (cutT ts lo hi):=by
 unfold cutV cutT
 rw[r.len]
 exact(r.dr _).tk _
abbrev UO:=UEnv->MM->(Option Int->MM->Prop)->Prop
def LO (to:TO) (uo:UO):Prop:=∀(A:Addr->Prop) (ι:List Addr) (σ:St) (H:Hp) (ρ:UEnv) (M:MM) (Qu:Option Int->MM->Prop) (Q:Option Int->Hp->Prop),Wd A ι H M->EnvR A ι H σ ρ->uo ρ M Qu ->
 (∀b M' ι' H',Le ι H ι' H'->Wd A ι' H' M'->Qu b M'->Q b H')->to σ H Q
def Va:UO:=fun _ M Q=>Q none M
def uPart (ua:UE):UO:=fun ρ M Q=>ua ρ M fun x M1=>∃i,x=.p (.int i)/\Q (some i) M1
theorem lo_none:LO zf Va:=fun A ι σ H ρ M Qu Q w e q k=>k _ M ι H (.refl _ _) w q
theorem lo_some (ha:LE ta ua):LO (Qb ta) (uPart ua):=fun A ι σ H ρ M Qu Q w e q k =>
 ha A ι σ H ρ M _ _ w e q fun x M1 ι1 v H1 l1 w1 r1 ⟨i,ex,q1⟩=>by
  subst ex
  cases r1 with
  |p r=>cases r; exact⟨i,rfl,k _ M1 ι1 H1 l1 w1 q1⟩
def uSl (ua:UE) (ul uh:UO):UE:=fun ρ M Q=>ua ρ M fun x M1=>ul ρ M1 fun l M2=>uh ρ M2 fun h M3=>∃ts,sn M3 x=some (.lst ts)/\Q (.p (.lst (cutT ts l h))) M3
theorem le_sl {K:PySem.W.Frag} {t1 t2:TO} {u1 u2:UO} (ha:LE ta ua) (h1:LO t1 u1) (h2:LO t2 u2):LE (tSl (rSlL K) ta t1 t2) (uSl ua u1 u2):=fun A ι σ H ρ M Qu Q w e q k =>
 ha A ι σ H ρ M _ _ w e q fun x M1 ι1 v H1 l1 w1 r1 q1=>h1 A ι1 σ H1 ρ M1 _ _ w1 (e.le l1) q1 fun lo M2 ι2 H2 l2 w2 q2=>h2 A ι2 σ H2 ρ M2 _ _ w2 (e.le (l1.trans l2)) q2 fun hi M3 ι3 H3 l3 w3 ⟨ts,es,q3⟩=>by
  obtain⟨p,vs,rfl,h4,h5⟩:=((r1.le (l2.trans l3)).sn w3 es).lst_inv
  exact⟨p,vs,rfl,SqL.of h4,fun r hr=>k _ M3 ι3 _ _ (((l1.trans l2).trans l3).trans (.fresh hr)) (w3.fresh hr) (.p (vF w3 hr (cut_rep h5))) q3⟩
end
section
variable {te ta:TE} {ue ua:UE} {tt:TT} {ut:UT} {tl:TA} {ul:UA} {n:Nat} {A A' A2:Addr->Prop} {H H' H1 H2:Hp} {ι ι' ι1 ι2:List Addr} {M M':MM} {v:V} {u:U} {t:T} {σ:St} {ρ:UEnv} {K:PySem.W.Frag}
structure Lea (A:Addr->Prop) (ι:List Addr) (H:Hp) (A':Addr->Prop) (ι':List Addr) (H':Hp):Prop where
 ext:∃n,ι'=ι++n
 av:∀x o,¬Av A ι x->H x=some o->H' x=some o/\¬Av A' ι' x
 xd:∀x fs,x∉ι->H x=some (.xd fs)->x∉ι'/\H' x=some (.xd fs)
theorem Le.xd (l:Le ι H ι' H'):∀x fs,x∉ι->H x=some (.xd fs)->x∉ι'/\H' x=some (.xd fs):=fun x fs hx e=>by
 obtain⟨m,rfl,hm⟩:=l.ext
 refine⟨fun z=>?_,l.fr x _ e hx⟩
 rcases List.mem_append.mp z with z|z
 ·exact hx z
 ·rw[hm x z] at e; cases e
theorem Le.lea (l:Le ι H ι' H'):Lea A ι H A ι' H':=⟨let⟨n,e,_⟩:=l.ext; ⟨n,e⟩,fun _ _ h e=>l.av h e,l.xd⟩
theorem Lea.trans (a:Lea A ι H A' ι' H') (b:Lea A' ι' H' A2 ι2 H2):Lea A ι H A2 ι2 H2:=by
 obtain⟨n,rfl⟩:=a.ext
 obtain⟨m,rfl⟩:=b.ext
 exact⟨⟨n++m,by rw[List.append_assoc]⟩,fun x o h e=>b.av x o (a.av x o h e).2 (a.av x o h e).1,fun x fs h e=>b.xd x fs (a.xd x fs h e).1 (a.xd x fs h e).2⟩
theorem RepU.lea (l:Lea A ι H A' ι' H') (r:RepU A ι H v u):RepU A' ι' H' v u:=by
 cases r with
 |p r=>exact .p (r.mono l.av)
 |m e =>
  obtain⟨n,rfl⟩:=l.ext
  exact .m (by rw[List.getElem?_append_left (List.getElem?_eq_some_iff.mp e).1]; exact e)
 | @x a d q h =>
  refine .x ?_
  cases q with
  |none=>exact h
  |some n =>
   obtain⟨x0,e,ni,hx⟩:=h
   have:=l.xd x0 _ ni hx
   exact⟨x0,e,this.1,this.2⟩
theorem EnvR.lea (l:Lea A ι H A' ι' H') (r:EnvR A ι H σ ρ):EnvR A' ι' H' σ ρ:=Paired.mapP r fun _ _ q u e=>by
 obtain⟨v,h1,h2⟩:=q u e
 exact⟨v,h1,h2.lea l⟩
structure UIt where
 n:Nat
 ok:MM->Prop
 item:Nat->U->Prop
def ItR (A:Addr->Prop) (ι1:List Addr) (H1:Hp) (J:It) (it:UIt):Prop:=∀(A':Addr->Prop) (ι:List Addr) (H:Hp) (M:MM) (i:Nat),Lea A ι1 H1 A' ι H->Wd A' ι H M->it.ok M ->
 (i<it.n->J.go i H/\∀x H',J.yld i H x H'->∃u,it.item i u/\Le ι H ι H'/\Wd A' ι H' M/\RepU A' ι H' x u)/\(i=it.n->J.stop i H)
abbrev UI:=UEnv->MM->(UIt->MM->Prop)->Prop
def LI (wi:TI) (ui:UI):Prop:=∀(A:Addr->Prop) (ι:List Addr) (σ:St) (H:Hp) (ρ:UEnv) (M:MM) (Qu:UIt->MM->Prop) (R:It->Hp->Prop),Wd A ι H M->EnvR A ι H σ ρ->ui ρ M Qu ->
 (∀it M' ι' J H',Le ι H ι' H'->Wd A ι' H' M'->ItR A ι' H' J it->Qu it M'->R J H')->wi σ H R
def uIter (ua:UE):UI:=fun ρ M Q=>ua ρ M fun x M1=>∃us,qF M1 x=some us/\Q ⟨us.length,fun M=>qF M x=some us,fun i z=>us[i]?=some z⟩ M1
theorem li_list (ha:LE ta ua):LI (ZZ K ta) (uIter ua):=fun A ι σ H ρ M Qu R w e q k =>
 ha A ι σ H ρ M _ _ w e q fun x M1 ι1 v H1 l1 w1 r1 ⟨us,eu,q1⟩=>by
  obtain⟨p,vs,rfl,h1,h2⟩:=vn w1 r1 eu
  refine⟨p,rfl,⟨vs,SqL.of h1⟩,k _ M1 ι1 _ H1 l1 w1 ?_ q1⟩
  intro A' ι2 H2 M2 i l w2 ok
  obtain⟨p',vs2,e2,h3,h4⟩:=vn w2 (r1.lea l) ok
  cases e2
  have hl:=h4.len
  refine⟨fun hi=>?_,fun hi=>⟨vs2,SqL.of h3,by rw[hl]; exact Nat.le_of_eq hi.symm⟩⟩
  have hx:vs2[i]?=some (vs2[i]'(by rw[hl]; exact hi)):=List.getElem?_eq_getElem _
  refine⟨⟨vs2,_,SqL.of h3,hx⟩,fun x H' y=>?_⟩
  obtain⟨rfl,y⟩:=y
  have hx2:=y vs2 (SqL.of h3)
  obtain⟨z,hz,rz⟩:=Paired.getL h4 hx2
  exact⟨z,hz, .refl _ _,w2,rz⟩
def uRev (ul:UA):UI:=fun ρ M Q=>ul ρ M fun xs M1=>∃x us,xs=[x]/\qF M1 x=some us/\Q ⟨us.length,fun M=>qF M x=some us,fun i z=>us[us.length-1-i]?=some z⟩ M1
def uRng1 (ul:UA):UI:=fun ρ M Q=>ul ρ M fun xs M1=>∃j:Int,xs=[.p (.int j)] /\ -(2^62)<=j/\j<2^62/\Q ⟨j.toNat,fun _=>True,fun i z=>z=.p (.int i)⟩ M1
theorem itr_ok {lo:Int} {n:Nat}:ItR A ι H (Itr lo n) ⟨n,fun _=>True,fun i z=>z=.p (.int (lo+i))⟩:=fun A' ι2 H2 M2 i l w2 _ =>
 ⟨fun hi=>⟨hi,fun x H' y=>by
  obtain⟨rfl,rfl⟩:=y
  exact⟨_,rfl, .refl _ _,w2, .p (.int _)⟩⟩,fun hi=>Nat.le_of_eq hi.symm⟩
theorem li_rng1 (ha:LA n tl ul):LI (Ju tl) (uRng1 ul):=fun A ι σ H ρ M Qu R w e q k =>
 ha A ι σ H ρ M _ _ w e q fun xs M1 ι1 vs1 H1 l1 w1 hn r0 ⟨j,ex,j0,j1,q1⟩=>by
  subst ex
  cases r0 with
  |cons r1 r0 =>
  cases r0
  cases r1 with
  |p r =>
  cases r
  have:=itr_ok (A:=A) (ι:=ι1) (H:=H1) (lo:=0) (n:=j.toNat)
  simp only[Int.zero_add] at this
  exact⟨j,rfl,j0,j1,k _ M1 ι1 _ H1 l1 w1 this q1⟩
def uRng2 (ul:UA):UI:=fun ρ M Q=>ul ρ M fun xs M1=>∃i j:Int,xs=[.p (.int i), .p (.int j)]/\(-(2^62)<=i/\i<2^62 /\ -(2^62)<=j/\j<2^62)/\Q ⟨(j-i).toNat,fun _=>True,fun k z=>z=.p (.int (i+k))⟩ M1
theorem li_rng2 (ha:LA n tl ul):LI (iRng2 tl) (uRng2 ul):=fun A ι σ H ρ M Qu R w e q k =>
 ha A ι σ H ρ M _ _ w e q fun xs M1 ι1 vs1 H1 l1 w1 hn r0 ⟨i,j,ex,c,q1⟩=>by
  subst ex
  cases r0 with
  |cons r1 r0 =>
  cases r0 with
  |cons r2 r0 =>
  cases r0
  cases r1 with
  |p r =>
  cases r2 with
  |p r2 =>
  cases r
  cases r2
  exact⟨i,j,rfl,c,k _ M1 ι1 _ H1 l1 w1 itr_ok q1⟩
abbrev UG:=U->UEnv->MM->(UEnv->MM->Prop)->Prop
def LG (g:TG) (ug:UG):Prop:=∀(A:Addr->Prop) (ι:List Addr) (σ:St) (H:Hp) (ρ:UEnv) (M:MM) (v:V) (u:U) (Qu:UEnv->MM->Prop) (Q:St->Hp->Prop),Wd A ι H M->EnvR A ι H σ ρ->RepU A ι H v u->ug u ρ M Qu ->
 (∀ρ' M' ι' σ' H',Le ι H ι' H'->Wd A ι' H' M'->EnvR A ι' H' σ' ρ'->Qu ρ' M'->Q σ' H')->g v σ H Q
def Xh (i:Nat):UG:=fun u ρ M Q=>Q (ρ.set i (some u)) M
def Qa (i j:Nat):UG:=fun u ρ M Q=>∃a b,vE M u=some [a,b]/\Q ((ρ.set i (some a)).set j (some b)) M
def k8 (i j k:Nat):UG:=fun u ρ M Q=>∃a b c,vE M u=some [a,b,c]/\Q (((ρ.set i (some a)).set j (some b)).set k (some c)) M
theorem lg_name (i:Nat):LG (qE i) (Xh i):=fun A ι σ H ρ M v u Qu Q w e r q k=>k _ M ι _ H (.refl _ _) w (e.put i r) q
theorem rep2 {vs:List V} {a b:U} (r:RepUs A ι H vs [a,b]):∃x y,vs=[x,y]/\RepU A ι H x a/\RepU A ι H y b:=by
 cases r with
 |cons r q=>cases q with|cons r2 q=>cases q; exact⟨_,_,rfl,r,r2⟩
theorem rep3 {vs:List V} {a b c:U} (r:RepUs A ι H vs [a,b,c]):∃x y z,vs=[x,y,z]/\RepU A ι H x a/\RepU A ι H y b/\RepU A ι H z c:=by
 cases r with
 |cons r q =>
  obtain⟨y,z,rfl,r2,r3⟩:=rep2 q
  exact⟨_,_,_,rfl,r,r2,r3⟩
theorem lg_name2 (i j:Nat):LG (gTup K 2 (qS (qE i) (qS (qE j) gNil))) (Qa i j):=fun A ι σ H ρ M v u Qu Q w e r ⟨a,b,ei,q⟩ k=>by
 obtain⟨p,vs,rfl,h1,h2⟩:=vJ w r ei
 obtain⟨x,y,rfl,r1,r2⟩:=rep2 h2
 exact kI h1 (k _ M ι _ H (.refl _ _) w ((e.put i r1).put j r2) q)
theorem lg_name3 (i j l:Nat):LG (gTup K 3 (qS (qE i) (qS (qE j) (qS (qE l) gNil)))) (k8 i j l):=fun A ι σ H ρ M v u Qu Q w e r ⟨a,b,c,ei,q⟩ k=>by
 obtain⟨p,vs,rfl,h1,h2⟩:=vJ w r ei
 obtain⟨x,y,z,rfl,r1,r2,r3⟩:=rep3 h2
 exact kH h1 (k _ M ι _ H (.refl _ _) w (((e.put i r1).put j r2).put l r3) q)
def uSub (uo ui:UE):UG:=fun u ρ M Q=>uo ρ M fun o M1=>ui ρ M1 fun i M2=>∃k us z j,o=.m k/\M2[k]?=some (.lst us)/\i=.p (.int z)/\ixN us.length z=some j/\Q ρ (M2.set k (.lst (us.set j u)))
def vL (bs:List Bool) (n i:Nat):Bool:=match bs[i]? with
 |some b => !b
 |none=>decide (i<bs.length+n)
theorem vU {bs:List Bool} {n i:Nat} {σ:St} (hl:σ.length=bs.length) (h:vL bs n i=true):(vV bs n σ)[i]?=some none:=by
 unfold vL at h
 unfold vV
 have hz:((bs.zip σ).map (fun p=>if p.1 then p.2 else none)).length=bs.length:=by simp[hl]
 cases e:bs[i]? with
 |some b =>
  rw[e] at h
  have hi:=(List.getElem?_eq_some_iff.mp e).1
  rw[List.getElem?_append_left (by rw[hz]; exact hi),List.getElem?_map]
  have hb:b=false:=by simpa using h
  have e2:(bs.zip σ)[i]?=some (b,σ[i]'(by omega)):=by
   rw[List.getElem?_eq_getElem (by simp[hl]; exact hi)]
   simp
   exact(List.getElem?_eq_some_iff.mp e).2
  rw[e2,hb]
  rfl
 |none =>
  rw[e] at h
  have hi:=List.getElem?_eq_none_iff.mp e
  simp at h
  rw[List.getElem?_append_right (by rw[hz]; exact hi),hz,List.getElem?_replicate]
  rw[if_pos (by omega)]
def LGx (bs:List Bool) (n:Nat) (g:TG) (ug:UG):Prop:=∀(A:Addr->Prop) (ι:List Addr) (σ:St) (H:Hp) (ρ:UEnv) (M:MM) (v:V) (u:U) (Qu:UEnv->MM->Prop) (Q:St->Hp->Prop),σ.length=bs.length->Wd A ι H M->EnvR A ι H (vV bs n σ) ρ->RepU A ι H v u->ug u ρ M Qu ->
 (∀ρ' σ',EnvR A ι H σ' ρ'->ExtS (vV bs n σ) σ'->σ'.length=(vV bs n σ).length->Qu ρ' M->Q σ' H)->g v (vV bs n σ) H Q
theorem lgx_name {bs:List Bool} (i:Nat) (h:vL bs n i=true:=by rfl):LGx bs n (qE i) (Xh i):=fun A ι σ H ρ M v u Qu Q hl w e r q k =>
 k _ _ (e.put i r) ((ExtS.refl _).put (vU hl h)) (by simp) q
theorem Jh {bs:List Bool} (i j:Nat) (h:vL bs n i=true:=by rfl) (h2:vL bs n j=true:=by rfl):LGx bs n (gTup K 2 (qS (qE i) (qS (qE j) gNil))) (Qa i j):=fun A ι σ H ρ M v u Qu Q hl w e r ⟨a,b,ei,q⟩ k=>by
 obtain⟨p,vs,rfl,h1,h2⟩:=vJ w r ei
 obtain⟨x,y,rfl,r1,r2⟩:=rep2 h2
 exact kI h1 (k _ _ ((e.put i r1).put j r2) (((ExtS.refl _).put (vU hl h)).put (vU hl ‹_›)) (by simp) q)
theorem Jg {bs:List Bool} (i j l:Nat) (h:vL bs n i=true:=by rfl) (h2:vL bs n j=true:=by rfl) (h3:vL bs n l=true:=by rfl):LGx bs n (gTup K 3 (qS (qE i) (qS (qE j) (qS (qE l) gNil)))) (k8 i j l):=fun A ι σ H ρ M v u Qu Q hl w e r ⟨a,b,c,ei,q⟩ k=>by
 obtain⟨p,vs,rfl,h1,hh⟩:=vJ w r ei
 obtain⟨x,y,z,rfl,r1,r2,r3⟩:=rep3 hh
 exact kH h1 (k _ _ (((e.put i r1).put j r2).put l r3) ((((ExtS.refl _).put (vU hl h)).put (vU hl h2)).put (vU hl h3)) (by simp) q)
theorem lt_yes:LT tYes (fun _ M Q=>Q true M):=fun A ι σ H ρ M Qu Q w e q k=>k true M ι H (.refl _ _) w q
abbrev uYes:UT:=fun _ M Q=>Q true M
def JW (it:UIt) (ug:UG) (ut:UT) (ue:UE) (ρ0:UEnv) (M1:MM) (Q:UK):Prop:=it.n<=sizeLine/\∃Iv:Nat->List T->MM->Prop,Iv 0 [] M1 /\
 (∀i acc M2,i<it.n->acc.length<=i->Iv i acc M2->it.ok M2/\∀u,it.item i u->ug u ρ0 M2 fun ρ4 M4=>ut ρ4 M4 fun b M5=>if b=true then ue ρ4 M5 fun z M6=>∃t,z=.p t/\Iv (i+1) (acc++[t]) M6 else Iv (i+1) acc M5) /\
 (∀acc M2,Iv it.n acc M2->it.ok M2/\Q (.p (.lst acc)) M2)
def uComp (ui:UI) (bs:List Bool) (n:Nat) (ug:UG) (ut:UT) (ue:UE):UE:=fun ρ M Q=>ui ρ M fun it M1=>ρ.length=bs.length/\JW it ug ut ue (maskU bs n ρ) M1 Q
theorem Wd.addA (w:Wd A ι H M) {p:Addr} {o:HO} (h:H p=none):Wd (fun x=>A x\/x=p) ι (upd H p o) M:=by
 have w2:=w.fresh (o:=o) h
 have hm:∀x o',¬Av A ι x->(upd H p o) x=some o'->H x≠none->(upd H p o) x=some o'/\¬Av (fun x=>A x\/x=p) ι x:=fun x o' hx e hs=>⟨e,fun z=>by
  rcases z with(z|z)|z
  ·exact hx (.inl z)
  ·subst z; exact hs h
  ·exact hx (.inr z)⟩
 have hl:Lea A ι H (fun x=>A x\/x=p) ι (upd H p o):=⟨⟨[],by simp⟩,fun x o' hx e=>hm x o' hx (vq h e) (by rw[e]; simp),fun x fs hx e=>⟨hx,vq h e⟩⟩
 refine⟨w.nd,w.len,fun x hx=>?_,fun x hx z=>?_,fun k a ob e1 e2=>?_⟩
 ·rcases hx with hx|hx
  ·exact w2.dom x hx
  ·rw[hx,upd_same]; simp
 ·rcases z with z|z
  ·exact w.na x hx z
  ·exact w.nin h (by rw[<-z]; exact hx)
 ·have r:=w.obj k a ob e1 e2
  have ea:upd H p o a=H a:=upd_ne fun z=>by
   obtain⟨q,hq⟩:=r.some
   rw[z,h] at hq; cases hq
  cases ob with
  |lst=>obtain⟨vs,e,r⟩:=r; exact⟨vs,by rw[ea]; exact e,Paired.mapP r fun _ _ q=>q.lea hl⟩
  |tup=>obtain⟨vs,e,r⟩:=r; exact⟨vs,by rw[ea]; exact e,Paired.mapP r fun _ _ q=>q.lea hl⟩
  |ins =>
   obtain⟨dx,gs,e,ed,nd,r⟩:=r
   exact⟨dx,gs,by rw[ea]; exact e,vq h ed,nd,Paired.mapP r fun _ _ q=>⟨q.1,q.2.lea hl⟩⟩
  |dK=>obtain⟨gs,e,r⟩:=r; exact⟨gs,by rw[ea]; exact e,Paired.mapP r fun _ _ q=>⟨q.1,q.2.lea hl⟩⟩
  |dF=>obtain⟨e,r⟩:=r; exact⟨by rw[ea]; exact e,Paired.mapP r fun _ _ q=>⟨q.1,q.2.lea hl⟩⟩
  |tab=>obtain⟨ps,e,t,z⟩:=r; exact⟨ps,by rw[ea]; exact e,t,z.imp id fun⟨c,h1,h2,h3⟩=>⟨c,h1,vq h h2,h3⟩⟩
theorem Wd.lessA (w:Wd A' ι H M) (h:∀x,A x->A' x):Wd A ι H M:=by
 have hl:Lea A' ι H A ι H:=⟨⟨[],by simp⟩,fun x o hx e=>⟨e,fun z=>hx (z.elim (fun z=>.inl (h x z)) .inr)⟩,fun x fs hx e=>⟨hx,e⟩⟩
 refine⟨w.nd,w.len,fun x hx=>w.dom x (h x hx),fun x hx z=>w.na x hx (h x z),fun k a ob e1 e2=>?_⟩
 have r:=w.obj k a ob e1 e2
 cases ob with
 |lst=>obtain⟨vs,e,r⟩:=r; exact⟨vs,e,Paired.mapP r fun _ _ q=>q.lea hl⟩
 |tup=>obtain⟨vs,e,r⟩:=r; exact⟨vs,e,Paired.mapP r fun _ _ q=>q.lea hl⟩
 |ins=>obtain⟨dx,gs,e,ed,nd,r⟩:=r; exact⟨dx,gs,e,ed,nd,Paired.mapP r fun _ _ q=>⟨q.1,q.2.lea hl⟩⟩
 |dK=>obtain⟨gs,e,r⟩:=r; exact⟨gs,e,Paired.mapP r fun _ _ q=>⟨q.1,q.2.lea hl⟩⟩
 |dF=>obtain⟨e,r⟩:=r; exact⟨e,Paired.mapP r fun _ _ q=>⟨q.1,q.2.lea hl⟩⟩
 |tab=>exact r
theorem Wd.updA (w:Wd A ι H M) {p:Addr} {o:HO} {ys:List V} (ha:A p) (hp:H p=some (.lst ys)):Lea A ι H A ι (upd H p o)/\Wd A ι (upd H p o) M:=by
 have hl:Lea A ι H A ι (upd H p o):=⟨⟨[],by simp⟩,fun x o' hx e=>⟨by rw[upd_ne fun z=>hx (.inl (by rw[z]; exact ha))]; exact e,hx⟩,fun x fs hx e=>⟨hx,by rw[upd_ne fun z=>by rw[z,hp] at e; cases e]; exact e⟩⟩
 refine⟨hl,w.nd,w.len,fun x hx=>?_,w.na,fun k a ob e1 e2=>?_⟩
 ·by_cases z:x=p
  ·rw[z,upd_same]; simp
  ·rw[upd_ne z]; exact w.dom x hx
 ·have r:=w.obj k a ob e1 e2
  have ea:upd H p o a=H a:=upd_ne fun z=>w.na a (List.mem_of_getElem? e1) (by rw[z]; exact ha)
  cases ob with
  |lst=>obtain⟨vs,e,r⟩:=r; exact⟨vs,by rw[ea]; exact e,Paired.mapP r fun _ _ q=>q.lea hl⟩
  |tup=>obtain⟨vs,e,r⟩:=r; exact⟨vs,by rw[ea]; exact e,Paired.mapP r fun _ _ q=>q.lea hl⟩
  |ins =>
   obtain⟨dx,gs,e,ed,nd,r⟩:=r
   exact⟨dx,gs,by rw[ea]; exact e,by rw[upd_ne fun z=>by rw[z,hp] at ed; cases ed]; exact ed,nd,Paired.mapP r fun _ _ q=>⟨q.1,q.2.lea hl⟩⟩
  |dK=>obtain⟨gs,e,r⟩:=r; exact⟨gs,by rw[ea]; exact e,Paired.mapP r fun _ _ q=>⟨q.1,q.2.lea hl⟩⟩
  |dF=>obtain⟨e,r⟩:=r; exact⟨by rw[ea]; exact e,Paired.mapP r fun _ _ q=>⟨q.1,q.2.lea hl⟩⟩
  |tab=>obtain⟨ps,e,t,z⟩:=r; exact⟨ps,by rw[ea]; exact e,t,z.imp id fun⟨c,h1,h2,h3⟩=>⟨c,h1,by rw[upd_ne fun z=>by rw[z,hp] at h2; cases h2]; exact h2,h3⟩⟩
theorem Le.updF {p:Addr} {o:HO} (l:Le ι H ι' H') (h:H p=none):Le ι H ι' (upd H' p o):=⟨l.ext,fun x o' e n=>by rw[upd_ne (vf e h)]; exact l.fr x o' e n,fun x e=>by
 by_cases z:x=p
 ·rw[z,upd_same]; simp
 ·rw[upd_ne z]; exact l.al x e⟩
theorem le_comp {wi:TI} {ui:UI} {bs:List Bool} {g:TG} {ug:UG} (hi:LI wi ui) (hg:LGx bs n g ug) (ht:LT tt ut) (he:LE te ue):LE (xq wi bs n g tt te) (uComp ui bs n ug ut ue):=by
 intro A ι σ H ρ M Qu Q w e q k
 refine hi A ι σ H ρ M _ _ w e q fun it M1 ι1 J H1 l1 w1 hJ q1 acc hacc=>?_
 obtain⟨hlen,hsz,Iv,I0,It,Id⟩:=q1
 have hσ:σ.length=bs.length:=by rw[<-hlen]; exact e.len
 have e1:=e.le l1
 have na:¬Av A ι1 acc:=w1.nA hacc
 have key:∀ι2 H2,Le ι1 H1 ι2 H2->(∀x∈ι2,¬(A x\/x=acc))->Lea A ι1 H1 (fun x=>A x\/x=acc) ι2 H2:=fun ι2 H2 l h=>by
  refine⟨let⟨n,e,_⟩:=l.ext; ⟨n,e⟩,fun x o hx ex=>?_,l.xd⟩
  obtain⟨a1,a2⟩:=l.av hx ex
  refine⟨a1,fun z=>?_⟩
  rcases z with(z|z)|z
  ·exact a2 (.inl z)
  ·rw[z,hacc] at ex; cases ex
  ·exact a2 (.inr z)
 refine⟨fun i m H2=>m=it.n-i/\i<=it.n/\∃ι2 M2 at' ys,Le ι1 H1 ι2 H2/\Wd (fun x=>A x\/x=acc) ι2 H2 M2/\H2 acc=some (.lst ys)/\RepTs (Av (fun x=>A x\/x=acc) ι2) H2 ys at'/\at'.length<=i/\Iv i at' M2,
  ⟨it.n,by simp,Nat.zero_le _,ι1,M1, [], [], .fresh hacc,w1.addA hacc,upd_same, .nil,Nat.le_refl _,I0⟩, ?_⟩
 rintro i m H2 ⟨rfl,hin,ι2,M2,at',ys,l2,w2,hys,rys,hat,I2⟩
 have lea:=key ι2 H2 l2 w2.na
 by_cases hlt:i<it.n
 ·obtain⟨ok,step⟩:=It i at' M2 hlt hat I2
  obtain⟨jgo,jy⟩:=(hJ _ ι2 H2 M2 i lea w2 ok).1 hlt
  refine .inr ⟨jgo,fun H'=>∃ι2 M2 at' ys,Le ι1 H1 ι2 H'/\Wd (fun x=>A x\/x=acc) ι2 H' M2/\H' acc=some (.lst ys)/\RepTs (Av (fun x=>A x\/x=acc) ι2) H' ys at'/\at'.length<=i+1/\Iv (i+1) at' M2,fun H' h=>⟨it.n-(i+1),by omega,rfl,hlt,h⟩,fun x H3 y=>?_⟩
  obtain⟨u,hu,l3,w3,r3⟩:=jy x H3 y
  have l13:=l2.trans l3
  have nacc:∀{ι':List Addr} {H':Hp} {M':MM},Wd (fun x=>A x\/x=acc) ι' H' M'->acc∉ι':=fun w z=>w.na acc z (.inr rfl)
  have ys3:H3 acc=some (.lst ys):=l3.fr _ _ hys (nacc w2)
  have env3:EnvR (fun x=>A x\/x=acc) ι2 H3 (vV bs n σ) (maskU bs n ρ):=(e1.mask).lea (key ι2 H3 l13 w3.na)
  refine hg _ ι2 σ H3 _ M2 x u _ _ hσ w3 env3 r3 (step u hu) fun ρ4 σ4 e4 x4 len4 q4=>⟨⟨x4,len4⟩, ?_⟩
  refine ht _ ι2 σ4 H3 ρ4 M2 _ _ w3 e4 q4 fun b M5 ι5 H5 l5 w5 q5=>?_
  have ys5:H5 acc=some (.lst ys):=l5.fr _ _ ys3 (nacc w3)
  have rys5:RepTs (Av (fun x=>A x\/x=acc) ι5) H5 ys at':=Paired.mapP rys fun _ _ q=>(q.le l3).le l5
  cases b with
  |false=>exact⟨ι5,M5,at',ys,l13.trans l5,w5,ys5,rys5,Nat.le_succ_of_le hat,q5⟩
  |true =>
   refine he _ ι5 σ4 H5 ρ4 M5 _ _ w5 (e4.le l5) q5 fun z M6 ι6 zv H6 l6 w6 r6 q6=>?_
   obtain⟨t,rfl,q6⟩:=q6
   have ys6:H6 acc=some (.lst ys):=l6.fr _ _ ys5 (nacc w5)
   refine⟨ys,ys6, ?_,ι6,M6,at'++[t],ys++[zv],((l13.trans l5).trans l6).updF hacc,(w6.updA (.inr rfl) ys6).2,upd_same, ?_,by rw[List.length_append,List.length_singleton]; omega,q6⟩
   ·rw[rys.len]; omega
   ·have hl:=(w6.updA (o:=.lst (ys++[zv])) (.inr rfl) ys6).1
    cases r6 with
    |p r6=>exact Paired.app (Paired.mapP rys5 fun _ _ q=>(q.le l6).mono hl.av) (.cons (r6.mono hl.av) .nil)
 ·have ei:i=it.n:=by omega
  subst ei
  obtain⟨ok,fin⟩:=Id at' M2 I2
  refine .inl ⟨(hJ _ ι2 H2 M2 _ lea w2 ok).2 rfl,k _ M2 ι2 _ H2 (l1.trans l2) (w2.lessA fun x hx=>.inl hx) (.p (.lstP (fun z=>?_) hys (Paired.mapP rys fun _ _ q=>q.mono fun x o hx ex=>⟨ex,fun z=>hx (z.elim (fun z=>.inl (.inl z)) .inr)⟩))) fin⟩
  rcases z with z|z
  ·exact na (.inl z)
  ·exact w2.na acc z (.inr rfl)
end
section
variable {ta:TE} {ua ub uc:UE} {tt:TT} {ut:UT} {tl:TA} {ul:UA} {n:Nat} {A:Addr->Prop} {H H' H1 H2:Hp} {ι ι' ι1 ι2:List Addr} {M M':MM} {v:V} {u:U} {t:T} {σ:St} {ρ:UEnv}
structure UEnds where
 nx:UEnv->MM->Prop
 rt:UK
 bk:UEnv->MM->Prop:=fun _ _=>False
 ct:UEnv->MM->Prop:=fun _ _=>False
abbrev US:=UEnds->UEnv->MM->Prop
structure EndsR (A:Addr->Prop) (ι0:List Addr) (H0:Hp) (E:UEnds) (D:Ends):Prop where
 nx:∀ι σ H ρ M,Le ι0 H0 ι H->Wd A ι H M->EnvR A ι H σ ρ->E.nx ρ M->D.nx σ H
 rt:∀ι v H u M,Le ι0 H0 ι H->Wd A ι H M->RepU A ι H v u->E.rt u M->D.rt v H
 bk:∀ι σ H ρ M,Le ι0 H0 ι H->Wd A ι H M->EnvR A ι H σ ρ->E.bk ρ M->D.bk σ H
 ct:∀ι σ H ρ M,Le ι0 H0 ι H->Wd A ι H M->EnvR A ι H σ ρ->E.ct ρ M->D.ct σ H
theorem EndsR.le {E:UEnds} {D:Ends} (l:Le ι H ι' H') (r:EndsR A ι H E D):EndsR A ι' H' E D :=
 ⟨fun _ _ _ _ _ h=>r.nx _ _ _ _ _ (l.trans h),fun _ _ _ _ _ h=>r.rt _ _ _ _ _ (l.trans h),fun _ _ _ _ _ h=>r.bk _ _ _ _ _ (l.trans h),fun _ _ _ _ _ h=>r.ct _ _ _ _ _ (l.trans h)⟩
def LS (ts:TS) (us:US):Prop:=∀(A:Addr->Prop) (ι:List Addr) (σ:St) (H:Hp) (ρ:UEnv) (M:MM) (D:Ends) (E:UEnds),Wd A ι H M->EnvR A ι H σ ρ->EndsR A ι H E D->us E ρ M->ts D σ H
variable {ts ts':TS} {us us':US}
def uNext:US:=fun E ρ M=>E.nx ρ M
def uSeq (a b:US):US:=fun E ρ M=>a { E with nx:=b E } ρ M
def uDrop (ua:UE):US:=fun E ρ M=>ua ρ M fun _ M1=>E.nx ρ M1
def uRet (ua:UE):US:=fun E ρ M=>ua ρ M E.rt
def uRetN:US:=fun E ρ M=>E.rt (.p .non) M
def uIfS (c:UT) (a b:US):US:=fun E ρ M=>c ρ M fun k M1=>if k=true then a E ρ M1 else b E ρ M1
def uAsg (ua:UE) (g:UG):US:=fun E ρ M=>ua ρ M fun x M1=>g x ρ M1 E.nx
def uAug (i:Nat) (f:Int->Int->Int) (ua:UE):US:=fun E ρ M=>∃a,ρ[i]?=some (some (.p (.int a)))/\ua ρ M fun y M1=>∃b,y=.p (.int b)/\E.nx (ρ.set i (some (.p (.int (f a b))))) M1
theorem ls_next:LS Qc uNext:=fun A ι σ H ρ M D E w e r q=>r.nx ι σ H ρ M (.refl _ _) w e q
theorem ls_seq (ha:LS ts us) (hb:LS ts' us'):LS (tSeq ts ts') (uSeq us us'):=fun A ι σ H ρ M D E w e r q =>
 ha A ι σ H ρ M _ { E with nx:=us' E } w e ⟨fun ι1 σ1 H1 ρ1 M1 l w1 e1 q1=>hb A ι1 σ1 H1 ρ1 M1 D E w1 e1 (r.le l) q1,r.rt,r.bk,r.ct⟩ q
theorem ls_drop (ha:LE ta ua):LS (Qd ta) (uDrop ua):=fun A ι σ H ρ M D E w e r q =>
 ha A ι σ H ρ M _ _ w e q fun x M1 ι1 v H1 l1 w1 r1 q1=>r.nx ι1 σ H1 ρ M1 l1 w1 (e.le l1) q1
theorem ls_ret (ha:LE ta ua):LS (tRet ta) (uRet ua):=fun A ι σ H ρ M D E w e r q =>
 ha A ι σ H ρ M _ _ w e q fun x M1 ι1 v H1 l1 w1 r1 q1=>r.rt ι1 v H1 x M1 l1 w1 r1 q1
theorem ls_if (hc:LT tt ut) (ha:LS ts us) (hb:LS ts' us'):LS (tIfS tt ts ts') (uIfS ut us us'):=fun A ι σ H ρ M D E w e r q =>
 hc A ι σ H ρ M _ _ w e q fun c M1 ι1 H1 l1 w1 q1=>by
  cases c with
  |true=>exact ha A ι1 σ H1 ρ M1 D E w1 (e.le l1) (r.le l1) q1
  |false=>exact hb A ι1 σ H1 ρ M1 D E w1 (e.le l1) (r.le l1) q1
theorem ls_asg {g:TG} {ug:UG} (ha:LE ta ua) (hg:LG g ug):LS (tAsg ta g) (uAsg ua ug):=fun A ι σ H ρ M D E w e r q =>
 ha A ι σ H ρ M _ _ w e q fun x M1 ι1 v H1 l1 w1 r1 q1=>hg A ι1 σ H1 ρ M1 v x _ _ w1 (e.le l1) r1 q1 fun ρ2 M2 ι2 σ2 H2 l2 w2 e2 q2=>r.nx ι2 σ2 H2 ρ2 M2 (l1.trans l2) w2 e2 q2
theorem ls_aug {i:Nat} {f:Int->Int->Int} (ha:LE ta ua):LS (tAug i ta (ipI f)) (uAug i f ua):=fun A ι σ H ρ M D E w e r ⟨a,ea,q⟩=>by
 obtain⟨x,h1,h2⟩:=e.get ea
 cases h2 with
 |p h2 =>
 cases h2
 refine⟨.int a,h1,ha A ι σ H ρ M _ _ w e q fun y M1 ι1 v H1 l1 w1 r1 q1=>?_⟩
 obtain⟨b,rfl,q1⟩:=q1
 cases r1 with
 |p r1 =>
 cases r1
 exact⟨a,b,rfl,rfl,r.nx ι1 _ H1 _ M1 l1 w1 ((e.le l1).put i (.p (.int _))) q1⟩
def UFor (it:UIt) (ug:UG) (ub:US) (E:UEnds) (ρ:UEnv) (M1:MM):Prop:=∃Iv:Nat->UEnv->MM->Prop,Iv 0 ρ M1 /\
 (∀i ρ2 M2,i<it.n->Iv i ρ2 M2->it.ok M2/\∀u,it.item i u->ug u ρ2 M2 fun ρ3 M3=>ub { E with nx:=Iv (i+1),ct:=Iv (i+1),bk:=E.nx } ρ3 M3) /\
 (∀ρ2 M2,Iv it.n ρ2 M2->it.ok M2/\E.nx ρ2 M2)
def uFor (ui:UI) (ug:UG) (ub:US):US:=fun E ρ M=>ui ρ M fun it M1=>UFor it ug ub E ρ M1
theorem ls_for {wi:TI} {ui:UI} {g:TG} {ug:UG} (hi:LI wi ui) (hg:LG g ug) (hb:LS ts us):LS (tFor wi g ts) (uFor ui ug us):=by
 intro A ι σ H ρ M D E w e r q
 refine hi A ι σ H ρ M _ _ w e q fun it M1 ι1 J H1 l1 w1 hJ q1=>?_
 obtain⟨Iv,I0,It,Id⟩:=q1
 have r1:=r.le l1
 refine⟨fun i m σ2 H2=>m=it.n-i/\i<=it.n/\∃ι2 ρ2 M2,Le ι1 H1 ι2 H2/\Wd A ι2 H2 M2/\EnvR A ι2 H2 σ2 ρ2/\Iv i ρ2 M2,⟨it.n,by simp,Nat.zero_le _,ι1,ρ,M1, .refl _ _,w1,e.le l1,I0⟩, ?_⟩
 rintro i m σ2 H2 ⟨rfl,hin,ι2,ρ2,M2,l2,w2,e2,I2⟩
 by_cases hlt:i<it.n
 ·obtain⟨ok,step⟩:=It i ρ2 M2 hlt I2
  obtain⟨jgo,jy⟩:=(hJ A ι2 H2 M2 i l2.lea w2 ok).1 hlt
  refine .inr ⟨jgo,fun σ' H'=>∃ι2 ρ2 M2,Le ι1 H1 ι2 H'/\Wd A ι2 H' M2/\EnvR A ι2 H' σ' ρ2/\Iv (i+1) ρ2 M2,fun σ' H' h=>⟨it.n-(i+1),by omega,rfl,hlt,h⟩,fun x H3 y=>?_⟩
  obtain⟨u,hu,l3,w3,r3⟩:=jy x H3 y
  refine hg A ι2 σ2 H3 ρ2 M2 x u _ _ w3 (e2.le l3) r3 (step u hu) fun ρ4 M4 ι4 σ4 H4 l4 w4 e4 q4=>?_
  have l14:=(l2.trans l3).trans l4
  exact hb A ι4 σ4 H4 ρ4 M4 _ { E with nx:=Iv (i+1),ct:=Iv (i+1),bk:=E.nx } w4 e4 ⟨fun ι5 σ5 H5 ρ5 M5 l5 w5 e5 q5=>⟨ι5,ρ5,M5,l14.trans l5,w5,e5,q5⟩,(r1.le l14).rt,(r1.le l14).nx,fun ι5 σ5 H5 ρ5 M5 l5 w5 e5 q5=>⟨ι5,ρ5,M5,l14.trans l5,w5,e5,q5⟩⟩ q4
 ·have ei:i=it.n:=by omega
  subst ei
  obtain⟨ok,fin⟩:=Id ρ2 M2 I2
  exact .inl ⟨(hJ A ι2 H2 M2 _ l2.lea w2 ok).2 rfl,r1.nx ι2 σ2 H2 ρ2 M2 l2 w2 e2 fin⟩
def uWhile (uc:UT) (ub:US):US:=fun E ρ M=>∃W:Nat->UEnv->MM->Prop,(∃m,W m ρ M)/\∀m ρ M,W m ρ M ->
 uc ρ M fun b M1=>if b=true then ∃N:UEnv->MM->Prop,(∀ρ' M',N ρ' M'->∃m',m'<m/\W m' ρ' M')/\ub { E with nx:=N,ct:=N,bk:=E.nx } ρ M1 else E.nx ρ M1
theorem ls_while (hc:LT tt ut) (hb:LS ts us):LS (VR tt ts) (uWhile ut us):=by
 intro A ι σ H ρ M D E w e r q
 obtain⟨W,⟨m0,W0⟩,step⟩:=q
 refine⟨fun m σ2 H2=>∃ι2 ρ2 M2,Le ι H ι2 H2/\Wd A ι2 H2 M2/\EnvR A ι2 H2 σ2 ρ2/\W m ρ2 M2,⟨m0,ι,ρ,M, .refl _ _,w,e,W0⟩, ?_⟩
 rintro m σ2 H2 ⟨ι2,ρ2,M2,l2,w2,e2,W2⟩
 refine hc A ι2 σ2 H2 ρ2 M2 _ _ w2 e2 (step m ρ2 M2 W2) fun b M3 ι3 H3 l3 w3 q3=>?_
 cases b with
 |false=>exact r.nx ι3 σ2 H3 ρ2 M3 (l2.trans l3) w3 (e2.le l3) q3
 |true =>
  obtain⟨N,hN,q3⟩:=q3
  have l13:=l2.trans l3
  refine⟨fun σ' H'=>∃ι4 ρ4 M4,Le ι H ι4 H'/\Wd A ι4 H' M4/\EnvR A ι4 H' σ' ρ4/\N ρ4 M4, ?_, ?_⟩
  ·rintro σ' H' ⟨ι4,ρ4,M4,l4,w4,e4,n4⟩
   obtain⟨m',hm,W4⟩:=hN ρ4 M4 n4
   exact⟨m',hm,ι4,ρ4,M4,l4,w4,e4,W4⟩
  ·exact hb A ι3 σ2 H3 ρ2 M3 _ { E with nx:=N,ct:=N,bk:=E.nx } w3 (e2.le l3) ⟨fun ι5 σ5 H5 ρ5 M5 l5 w5 e5 q5=>⟨ι5,ρ5,M5,l13.trans l5,w5,e5,q5⟩,(r.le l13).rt,(r.le l13).nx,fun ι5 σ5 H5 ρ5 M5 l5 w5 e5 q5=>⟨ι5,ρ5,M5,l13.trans l5,w5,e5,q5⟩⟩ q3
def MeL (r:V->List V->Hp->VK->Prop) (s:List U->List U->(U->List U->Prop)->Prop):Prop:=∀(A:Addr->Prop) (ι:List Addr) (H:Hp) (M:MM) (k:Nat) (a:Addr) (xs ys:List V) (us ws:List U) (Qs:U->List U->Prop) (Q:VK),Wd A ι H M->ι[k]?=some a->H a=some (.lst xs)->M[k]?=some (.lst us)->RepUs A ι H xs us->RepUs A ι H ys ws->s us ws Qs ->
 (∀z us' v xs',RepUs A ι H xs' us'->RepU A ι H v z->Qs z us'->Q v (upd H a (.lst xs')))->r (.ref a) ys H Q
def uMe (s:List U->List U->(U->List U->Prop)->Prop) (uo:UE) (ul:UA):UE:=fun ρ M Q=>uo ρ M fun o M1=>∃k,o=.m k/\(∃zs,M1[k]?=some (.lst zs))/\ul ρ M1 fun ws M2=>∃us,M2[k]?=some (.lst us)/\s us ws fun z us'=>Q z (M2.set k (.lst us'))
theorem le_me {r:V->List V->Hp->VK->Prop} {s:List U->List U->(U->List U->Prop)->Prop} (h:MeL r s) (ha:LE ta ua) (hl:LA n tl ul):LE (tLM r ta tl) (uMe s ua ul):=fun A ι σ H ρ M Qu Q w e q k =>
 ha A ι σ H ρ M _ _ w e q fun o M1 ι1 v H1 l1 w1 r1 ⟨kk,eo,⟨zs,hz⟩,q1⟩=>by
  subst eo
  cases r1 with
  |m ek =>
  rename_i a
  obtain⟨xs1,h1,_⟩:=w1.obj kk a _ ek hz
  refine⟨a,xs1,rfl,h1,hl A ι1 σ H1 ρ M1 _ _ w1 (e.le l1) q1 fun ws M2 ι2 ys H2 l2 w2 hn r2 q2=>?_⟩
  obtain⟨us,hus,q2⟩:=q2
  have ek2:ι2[kk]?=some a:=by
   obtain⟨nn,rfl,_⟩:=l2.ext
   rw[List.getElem?_append_left (List.getElem?_eq_some_iff.mp ek).1]; exact ek
  obtain⟨xs2,h3,h4⟩:=w2.obj kk a _ ek2 hus
  have hm:=List.mem_of_getElem? ek2
  exact h A ι2 H2 M2 kk a xs2 ys us ws _ Q w2 ek2 h3 hus h4 r2 q2 fun z us' zv xs' rx rz qz=>k z _ ι2 zv _ ((l1.trans l2).trans (.put hm)) (w2.put (mo:=.lst us') ek2 ⟨xs',upd_same,RepUs.le (.put hm) rx⟩) (rz.le (.put hm)) qz
def Xv:List U->List U->(U->List U->Prop)->Prop:=fun us ws Q=>∃y,ws=[y]/\us.length<sizeLine/\Q (.p .non) (us++[y])
theorem vT:MeL XA Xv:=fun A ι H M k a xs ys us ws Qs Q w ek h1 h2 rx ry ⟨y,ey,hz,q⟩ kk=>by
 subst ey
 cases ry with
 |cons r q' =>
 cases q'
 exact⟨a,xs,_,rfl,rfl,h1,by rw[rx.len]; exact hz,kk _ _ _ _ (rx.app (.cons r .nil)) (.p .non) q⟩
def spU (G:List U->MM->UK->Prop):Sp:=fun vs H Q _=>∃A ι M us Qu,Wd A ι H M/\RepUs A ι H vs us/\G us M Qu/\∀u M' ι' v H',Le ι H ι' H'->Wd A ι' H' M'->RepU A ι' H' v u->Qu u M'->Q v H'
def uCall (G:List U->MM->UK->Prop) (ul:UA):UE:=fun ρ M Q=>ul ρ M fun us M1=>G us M1 Q
theorem le_callU {G:List U->MM->UK->Prop} {E:XK} (ha:LA n tl ul):LE (v3 (spU G) [] E tl) (uCall G ul):=fun A ι σ H ρ M Qu Q w e q k =>
 ha A ι σ H ρ M _ _ w e q fun us M1 ι1 vs H1 l1 w1 hn r1 q1=>by
  rw[List.append_nil]
  exact⟨A,ι1,M1,us,_,w1,r1,q1,fun u M2 ι2 v H2 l2 w2 r2 q2=>k u M2 ι2 v H2 (l1.trans l2) w2 r2 q2⟩
def spP (G:List T->(T->Prop)->Prop):Sp:=fun vs H Q _=>∃A ts Qt,(∀x,A x->H x≠none)/\RepTs A H vs ts/\G ts Qt/\∀t v H',Same H H'->RepT A H' v t->Qt t->Q v H'
def Xi (G:List T->(T->Prop)->Prop) (ul:UA):UE:=fun ρ M Q=>ul ρ M fun us M1=>∃ts,vI us=some ts/\G ts fun t=>Q (.p t) M1
def uCallS (G:List T->(T->Prop)->Prop) (ul:UA):UE:=fun ρ M Q=>ul ρ M fun us M1=>∃ts,sns M1 us=some ts/\G ts fun t=>(∃x,vt t=some x)/\Q (.p t) M1
theorem Same.le (s:Same H H'):Le ι H ι H':=⟨⟨[],by simp,by simp⟩,fun x o e _=>s x o e,fun x e=>by
 cases q:H x with
 |none=>exact absurd q e
 |some o=>rw[s x o q]; simp⟩
theorem Wd.same (w:Wd A ι H M) (s:Same H H'):Wd A ι H' M :=
 ⟨w.nd,w.len,fun x hx=>(Same.le (ι:=ι) s).al x (w.dom x hx),w.na,fun k a ob e1 e2=>(w.obj k a ob e1 e2).le' s.le (by
  obtain⟨o,ho⟩:=(w.obj k a ob e1 e2).some
  rw[ho,s _ _ ho]) fun x ex=>by rw[ex,s _ _ ex]⟩
theorem Wd.domAv (w:Wd A ι H M):∀x,Av A ι x->H x≠none:=fun x h=>by
 rcases h with h|h
 ·exact w.dom x h
 ·obtain⟨o,ho⟩:=w.mem_some h
  rw[ho]; simp
theorem le_callP {G:List T->(T->Prop)->Prop} {E:XK} (ha:LA n tl ul):LE (v3 (spP G) [] E tl) (Xi G ul):=fun A ι σ H ρ M Qu Q w e q k =>
 ha A ι σ H ρ M _ _ w e q fun us M1 ι1 vs H1 l1 w1 hn r1 ⟨ts,et,q1⟩=>by
  rw[List.append_nil]
  rw[vD et] at r1
  exact⟨Av A ι1,ts,_,w1.domAv,r1.pures,q1,fun t v H2 s r2 q2=>k _ M1 ι1 v H2 (l1.trans s.le) (w1.same s) (.p r2) q2⟩
theorem RepU.snT (w:Wd A ι H M) (r:RepU A ι H v u) (e:L2.sn M u=some t):RepT A H v t:=by
 have wk:∀{v t},RepT (Av A ι) H v t->RepT A H v t:=fun r=>r.mono fun x o hx ex=>⟨ex,fun z=>hx (.inl z)⟩
 cases r with
 |p r=>simp[L2.sn] at e; subst e; exact wk r
 |m q =>
  obtain⟨o,h1,h2⟩:=w.al q
  have hna:=w.na _ (List.mem_of_getElem? q)
  simp only[L2.sn,h1] at e
  cases o with
  |lst us =>
   simp at e
   obtain⟨ts,e1,rfl⟩:=e
   obtain⟨vs,h3,h4⟩:=h2
   rw[vD e1] at h4
   exact .lstP hna h3 (Paired.mapP h4.pures fun _ _ q=>wk q)
  |tup us =>
   simp at e
   obtain⟨ts,e1,rfl⟩:=e
   obtain⟨vs,h3,h4⟩:=h2
   rw[vD e1] at h4
   exact .tupP hna h3 (Paired.mapP h4.pures fun _ _ q=>wk q)
  |ins=>simp at e
  |dK=>simp at e
  |dF=>simp at e
  |tab=>simp at e
 |x h=>simp[L2.sn] at e
theorem RepUs.snsT (w:Wd A ι H M):∀{vs:List V} {us:List U} {ts:List T},RepUs A ι H vs us->L2.sns M us=some ts->RepTs A H vs ts
 |_,_,ts, .nil,e=>by simp[L2.sns] at e; subst e; exact .nil
 |_,_,ts, .cons r q,e=>by
  simp only[L2.sns] at e
  split at e
  ·rename_i h1 h2
   simp at e; subst e
   exact .cons (r.snT w h1) (RepUs.snsT w q h2)
  ·cases e
def frzs (f:U->Option T):List U->Option (List T)
 | []=>some []
 |u::r=>match f u,frzs f r with
  |some t,some ts=>some (t::ts)
  |_,_=>none
def frzN:Nat->MM->U->Option T
 |_,_, .p t=>some t
 |0,_, .m _=>none
 |_,_, .x _ _ _=>none
 |n+1,M, .m k=>match M[k]? with
  |some (.lst us)=>(frzs (frzN n M) us).map T.lst
  |some (.tup us)=>(frzs (frzN n M) us).map T.tup
  |_=>none
theorem V6 {f:U->Option T} {vs:List V} {us:List U} {ts:List T} (r:RepUs A ι H vs us) (h:∀v u t,RepU A ι H v u->f u=some t->RepT A H v t) (e:frzs f us=some ts):RepTs A H vs ts:=by
 induction r generalizing ts with
 |nil=>simp[frzs] at e; subst e; exact .nil
 |cons r q ih =>
  simp only[frzs] at e
  split at e
  ·rename_i h1 h2
   simp at e; subst e
   exact .cons (h _ _ _ r h1) (ih h2)
  ·cases e
theorem VA (w:Wd A ι H M):∀{n:Nat} {v:V} {u:U} {t:T},RepU A ι H v u->frzN n M u=some t->RepT A H v t
 |n,v, .p t',t, .p r,e=>by
  cases n<;>simp[frzN] at e<;>subst e<;>exact r.mono fun x o hx ex=>⟨ex,fun z=>hx (.inl z)⟩
 |0,v, .m k,t,r,e=>by simp[frzN] at e
 |n,v, .x a d q,t,r,e=>by cases n<;>simp[frzN] at e
 |n+1,v, .m k,t,r,e=>by
  cases r with
  |m q =>
  obtain⟨o,h1,h2⟩:=w.al q
  have hna:=w.na _ (List.mem_of_getElem? q)
  simp only[frzN,h1] at e
  cases o with
  |lst us =>
   simp at e
   obtain⟨ts,e1,rfl⟩:=e
   obtain⟨vs,h3,h4⟩:=h2
   exact .lstP hna h3 (V6 h4 (fun v u t r e=>VA w r e) e1)
  |tup us =>
   simp at e
   obtain⟨ts,e1,rfl⟩:=e
   obtain⟨vs,h3,h4⟩:=h2
   exact .tupP hna h3 (V6 h4 (fun v u t r e=>VA w r e) e1)
  |ins=>simp at e
  |dK=>simp at e
  |dF=>simp at e
  |tab=>simp at e
theorem kN {f:U->Option T} (h:∀t,f (.p t)=some t):∀ts:List T,frzs f (ts.map U.p)=some ts
 | []=>rfl
 |t::r=>by simp[frzs,h t,kN h r]
@[simp] theorem frzN_p {n:Nat} {M:MM} {t:T}:frzN n M (.p t)=some t:=by cases n<;>rfl
def zh (N:List Str) (us:List U):UEnv:=us.map some++List.replicate (N.length-us.length) none
theorem zg {N:List Str} {vs:List V} {us:List U} (r:RepUs A ι H vs us):EnvR A ι H (start N vs) (zh N us):=by
 unfold start zh
 refine Paired.app ?_ ?_
 ·exact Paired.mapR (f:=some) (F:=fun s u=>∃v,s=some v/\RepU A ι H v u) (fun a b q u e=>by cases e; exact q) (by
   induction r with
   |nil=>exact .nil
   |cons r q ih=>exact .cons ⟨_,rfl,r⟩ ih)
 ·rw[r.len]
  generalize N.length-us.length=m
  induction m with
  |zero=>exact .nil
  |succ m ih=>exact .cons (fun u e=>by cases e) ih
end
section
variable {P:Program} {w:World} {K:PySem.W.Frag} {mg:Str->Option Value} {base:Heap}
theorem Fun.okU {x qual:Str} {st:Stmt} {f:Addr} {fd:FuncData} {N ps:List Str} {k:Nat} {G:List U->MM->UK->Prop} (F:Fun K x qual st f fd) (S:FnScope N ps (qi st)) (len:∀us M Qu,G us M Qu->us.length=ps.length)
  (hbody:∀(cdv:Value) (A:Around) (outer:List Env) (s:Shared) (H:Hp) (E:XK),Room k (A.deeper (envOfC qual (qi st) s.heap.objs.size f cdv)) ->
   ∃t,PSs (cxOf CX0 P w K mg base N qual (qi st) f cdv A outer s H E).nox (vi st) t/\∃u,LS t u/\∀us M Qu,G us M Qu->u { nx:=fun _ M'=>Qu (.p .non) M',rt:=Qu } (zh N us) M):FnOk P w K mg base CX0 (k+1) f fd ps (spU G):=by
 refine F.ok S (fun vs H Q E h=>?_) (fun cdv A outer s H vs Q E hr h=>?_)
 ·obtain⟨A,ι,M,us,Qu,w1,r,g,_⟩:=h
  rw[r.len]; exact len us M Qu g
 ·obtain⟨B,ι,M,us,Qu,w1,r,g,kk⟩:=h
  obtain⟨t,ht,u,hu,hb⟩:=hbody cdv A outer s H E hr
  refine⟨t,ht,hu B ι _ H _ M _ { nx:=fun _ M'=>Qu (.p .non) M',rt:=Qu } w1 (zg r) ⟨fun ι1 σ1 H1 ρ1 M1 l1 w1 e1 q1=>kk _ M1 ι1 _ H1 l1 w1 (.p .non) q1,fun ι1 v H1 z M1 l1 w1 r1 q1=>kk z M1 ι1 v H1 l1 w1 r1 q1,fun _ _ _ _ _ _ _ _ q=>q.elim,fun _ _ _ _ _ _ _ _ q=>q.elim⟩ (hb us M Qu g)⟩
theorem Fun.okP {x qual:Str} {st:Stmt} {f:Addr} {fd:FuncData} {N ps:List Str} {k:Nat} {G:List T->(T->Prop)->Prop} (F:Fun K x qual st f fd) (S:FnScope N ps (qi st)) (len:∀ts Qt,G ts Qt->ts.length=ps.length)
  (hbody:∀(cdv:Value) (A:Around) (outer:List Env) (s:Shared) (H:Hp) (E:XK),Room k (A.deeper (envOfC qual (qi st) s.heap.objs.size f cdv)) ->
   ∃t,PSs (cxOf CX0 P w K mg base N qual (qi st) f cdv A outer s H E).nox (vi st) t/\∃u,LS t u/\∀ts Qt,G ts Qt->u { nx:=fun _ _=>Qt .non,rt:=fun z M'=>∃t,frzN 4 M' z=some t/\Qt t } (zh N (ts.map U.p)) []):FnOk P w K mg base CX0 (k+1) f fd ps (spP G):=by
 refine F.ok S (fun vs H Q E h=>?_) (fun cdv A outer s H vs Q E hr h=>?_)
 ·obtain⟨A,ts,Qt,hd,r,g,_⟩:=h
  rw[r.len]; exact len ts Qt g
 ·obtain⟨B,ts,Qt,hd,r,g,kk⟩:=h
  obtain⟨t,ht,u,hu,hb⟩:=hbody cdv A outer s H E hr
  have w0:Wd B [] H []:=⟨List.nodup_nil,rfl,hd,fun x hx=>by simp at hx,fun k a o e _=>by simp at e⟩
  have same:∀{ι1:List Addr} {H1:Hp},Le [] H ι1 H1->Same H H1:=fun l b o e=>l.fr b o e (by simp)
  have r0:RepUs B [] H vs (ts.map U.p):=RepTs.ups (Paired.mapP r fun _ _ q=>q.mono fun x o hx ex=>⟨ex,fun z=>z.elim hx (by simp)⟩)
  refine⟨t,ht,hu B [] _ H _ [] _ { nx:=fun _ _=>Qt .non,rt:=fun z M'=>∃t,frzN 4 M' z=some t/\Qt t } w0 (zg r0) ⟨fun ι1 σ1 H1 ρ1 M1 l1 w1 e1 q1=>kk _ _ H1 (same l1) .non q1,fun ι1 v H1 z M1 l1 w1 r1 ⟨t1,et,q1⟩=>kk t1 v H1 (same l1) (VA w1 r1 et) q1,fun _ _ _ _ _ _ _ _ q=>q.elim,fun _ _ _ _ _ _ _ _ q=>q.elim⟩ (hb ts Qt g)⟩
end
section
variable {ua ub uc:UE} {ut:UT} {ul:UA} {us us':US} {n:Nat} {M M1:MM} {u:U} {t:T} {ρ:UEnv} {Q:UK} {QB:Bool->MM->Prop} {E:UEnds} {ug:UG}
def OpS (s:T->T->(T->Prop)->Prop) (M:MM) (x y:U) (Q:UK):Prop:=∃a b,sn M x=some a/\sn M y=some b/\s a b fun t=>Q (.p t) M
theorem rd_op {s:T->T->(T->Prop)->Prop}:uOp s ua ub ρ M Q=ua ρ M fun x M1=>ub ρ M1 fun y M2=>OpS s M2 x y Q:=rfl
theorem rd_opS {s:T->T->(T->Prop)->Prop} {a b:T}:OpS s M (.p a) (.p b) Q=s a b fun t=>Q (.p t) M :=
 propext ⟨fun⟨_,_,e1,e2,h⟩=>by cases e1; cases e2; exact h,fun h=>⟨a,b,rfl,rfl,h⟩⟩
theorem rd_sI {C:Int->Int->Prop} {g:Int->Int->T} {i j:Int} {Q:T->Prop}:sI C g (.int i) (.int j) Q=(C i j/\Q (g i j)) :=
 propext ⟨fun⟨_,_,e1,e2,h⟩=>by cases e1; cases e2; exact h,fun h=>⟨i,j,rfl,rfl,h⟩⟩
theorem rd_sI0 {g:Int->Int->T} {i j:Int} {Q:T->Prop}:sI0 g (.int i) (.int j) Q=Q (g i j) :=
 propext ⟨fun⟨_,_,e1,e2,h⟩=>by cases e1; cases e2; exact h,fun h=>⟨i,j,rfl,rfl,h⟩⟩
theorem rd_eqI {i j:Int} {Q:T->Prop}:sEq false (.int i) (.int j) Q=Q (.bl (decide (i=j))):=by
 refine propext ⟨fun⟨x,y,e1,e2,_,h⟩=>?_,fun h=>⟨_,_,rfl,rfl,rfl, ?_⟩⟩
 ·simp[vt] at e1 e2; subst e1 e2; simpa using h
 ·simpa using h
theorem rd_neI {i j:Int} {Q:T->Prop}:sEq true (.int i) (.int j) Q=Q (.bl (!decide (i=j))):=by
 refine propext ⟨fun⟨x,y,e1,e2,_,h⟩=>?_,fun h=>⟨_,_,rfl,rfl,rfl, ?_⟩⟩
 ·simp[vt] at e1 e2; subst e1 e2; simpa using h
 ·simpa using h
theorem rd_eqS {i j:Str} {Q:T->Prop}:sEq false (.str i) (.str j) Q=Q (.bl (decide (i=j))):=by
 refine propext ⟨fun⟨x,y,e1,e2,_,h⟩=>?_,fun h=>⟨_,_,rfl,rfl,rfl, ?_⟩⟩
 ·simp[vt] at e1 e2; subst e1 e2; simpa using h
 ·simpa using h
theorem rd_neS {i j:Str} {Q:T->Prop}:sEq true (.str i) (.str j) Q=Q (.bl (!decide (i=j))):=by
 refine propext ⟨fun⟨x,y,e1,e2,_,h⟩=>?_,fun h=>⟨_,_,rfl,rfl,rfl, ?_⟩⟩
 ·simp[vt] at e1 e2; subst e1 e2; simpa using h
 ·simpa using h
theorem rd_eqB {i j:Bool} {Q:T->Prop}:sEq false (.bl i) (.bl j) Q=Q (.bl (decide (i=j))):=by
 refine propext ⟨fun⟨x,y,e1,e2,_,h⟩=>?_,fun h=>⟨_,_,rfl,rfl,rfl, ?_⟩⟩
 ·simp[vt] at e1 e2; subst e1 e2; simpa using h
 ·simpa using h
theorem rd_neB {i j:Bool} {Q:T->Prop}:sEq true (.bl i) (.bl j) Q=Q (.bl (!decide (i=j))):=by
 refine propext ⟨fun⟨x,y,e1,e2,_,h⟩=>?_,fun h=>⟨_,_,rfl,rfl,rfl, ?_⟩⟩
 ·simp[vt] at e1 e2; subst e1 e2; simpa using h
 ·simpa using h
def VarS (o:Option (Option U)) (M:MM) (Q:UK):Prop:=∃u,o=some (some u)/\Q u M
theorem rd_var {i:Nat}:uVar i ρ M Q=VarS ρ[i]? M Q:=rfl
theorem rd_varS:VarS (some (some u)) M Q=Q u M:=propext ⟨fun⟨_,e,h⟩=>by cases e; exact h,fun h=>⟨u,rfl,h⟩⟩
def IntS (x:U) (R:Int->Prop):Prop:=∃i,x=.p (.int i)/\R i
theorem rd_intS {i:Int} {R:Int->Prop}:IntS (.p (.int i)) R=R i:=propext ⟨fun⟨_,e,h⟩=>by cases e; exact h,fun h=>⟨i,rfl,h⟩⟩
def BlS (x:U) (R:Bool->Prop):Prop:=∃b,x=.p (.bl b)/\R b
theorem rd_blS {b:Bool} {R:Bool->Prop}:BlS (.p (.bl b)) R=R b:=propext ⟨fun⟨_,e,h⟩=>by cases e; exact h,fun h=>⟨b,rfl,h⟩⟩
theorem rd_neg:uNeg ua ρ M Q=ua ρ M fun x M1=>IntS x fun i=>Q (.p (.int (-i))) M1:=rfl
theorem rd_bits:uBits ua ρ M Q=ua ρ M fun x M1=>IntS x fun i=>Q (.p (.int (Builtin.Int.intBits i))) M1:=rfl
theorem rd_b:uB ua ρ M QB=ua ρ M fun x M1=>BlS x fun b=>QB b M1:=rfl
theorem rd_andV:uAndV ua ub ρ M Q=ua ρ M fun x M1=>BlS x fun c=>if c=true then ub ρ M1 Q else Q (.p (.bl false)) M1:=rfl
theorem rd_orV:uOrV ua ub ρ M Q=ua ρ M fun x M1=>BlS x fun c=>if c=true then Q (.p (.bl true)) M1 else ub ρ M1 Q:=rfl
theorem rd_notV:uNotV ua ρ M Q=ua ρ M fun x M1=>BlS x fun c=>Q (.p (.bl (!c))) M1:=rfl
def ChS (s':T->T->(T->Prop)->Prop) (uc:UE) (ρ:UEnv) (M:MM) (y:U) (Q:UK) (z:T):Prop:=∃k,z=.bl k/\if k=true then uc ρ M fun c M3=>OpS s' M3 y c Q else Q (.p (.bl false)) M
theorem rd_chain {s s':T->T->(T->Prop)->Prop}:VP s s' ua ub uc ρ M Q=ua ρ M fun x M1=>ub ρ M1 fun y M2=>OpS s M2 x y fun z _=>∃t,z=.p t/\ChS s' uc ρ M2 y Q t :=
 propext (by
  have e:∀(x y:U) (M2:MM),(∃a b,sn M2 x=some a/\sn M2 y=some b/\s a b fun z=>∃k,z=.bl k/\if k=true then uc ρ M2 fun c M3=>∃b' c',sn M3 y=some b'/\sn M3 c=some c'/\s' b' c' fun t=>Q (.p t) M3 else Q (.p (.bl false)) M2)=(OpS s M2 x y fun z _=>∃t,z=.p t/\ChS s' uc ρ M2 y Q t):=fun x y M2=>by
   unfold OpS ChS
   have:∀z:T,(∃t,U.p z=.p t/\∃k,t=.bl k/\if k=true then uc ρ M2 fun c M3=>OpS s' M3 y c Q else Q (.p (.bl false)) M2)=(∃k,z=.bl k/\if k=true then uc ρ M2 fun c M3=>∃b' c',sn M3 y=some b'/\sn M3 c=some c'/\s' b' c' fun t=>Q (.p t) M3 else Q (.p (.bl false)) M2):=fun z =>
    propext ⟨fun⟨t,e,h⟩=>by cases e; exact h,fun h=>⟨z,rfl,h⟩⟩
   simp only[this]
  unfold VP
  simp only[e])
theorem rd_chP {s':T->T->(T->Prop)->Prop} {y:U} {b:Bool}:(∃t,U.p (.bl b)=.p t/\ChS s' uc ρ M y Q t)=if b=true then uc ρ M fun c M3=>OpS s' M3 y c Q else Q (.p (.bl false)) M :=
 propext ⟨fun⟨t,e,k,e2,h⟩=>by cases e; cases e2; exact h,fun h=>⟨_,rfl,b,rfl,h⟩⟩
def PurS (us:List U) (R:List T->Prop):Prop:=∃ts,vI us=some ts/\R ts
theorem Xx {ts:List T} {R:List T->Prop}:PurS (ts.map U.p) R=R ts:=propext ⟨fun⟨_,e,h⟩=>by rw[zy] at e; cases e; exact h,fun h=>⟨ts,zy ts,h⟩⟩
theorem rd_pur0 {R:List T->Prop}:PurS [] R=R []:=Xx (ts:=[])
theorem rd_purC {a:T} {us:List U} {R:List T->Prop}:PurS (.p a::us) R=PurS us fun ts=>R (a::ts):=by
 refine propext ⟨fun⟨ts,e,h⟩=>?_,fun⟨ts,e,h⟩=>⟨a::ts,by simp[vI,e],h⟩⟩
 simp[vI] at e
 obtain⟨r,e1,rfl⟩:=e
 exact⟨r,e1,h⟩
theorem rd_tup:uTup ul ρ M Q=ul ρ M fun us M1=>PurS us fun ts=>Q (.p (.tup ts)) M1:=rfl
theorem rd_lst:uLst ul ρ M Q=ul ρ M fun us M1=>PurS us fun ts=>Q (.p (.lst ts)) M1:=rfl
def IxS (it:MM->U->Option (List U)) (M:MM) (x y:U) (Q:UK):Prop:=∃us i z,it M x=some us/\y=.p (.int i)/\atI us i=some z/\Q z M
theorem rd_ix {it:MM->U->Option (List U)}:uIx it ua ub ρ M Q=ua ρ M fun x M1=>ub ρ M1 fun y M2=>IxS it M2 x y Q:=rfl
theorem ix_at {it:MM->U->Option (List U)} {x:U} {us:List U} {i:Int} {z:U} (h1:it M x=some us) (h2:atI us i=some z) (q:Q z M):IxS it M x (.p (.int i)) Q:=⟨us,i,z,h1,rfl,h2,q⟩
theorem JS {ts:List T} {i:Int} {t:T} (h:atI ts i=some t):atI (ts.map U.p) i=some (.p t):=by
 unfold atI at h ⊢
 rw[List.length_map]
 cases e:ixN ts.length i with
 |none=>rw[e] at h; cases h
 |some j=>rw[e] at h; simp at h ⊢; rw[h]
theorem vK {ts:List T} {i:Int} {t:T} (h:atI ts i=some t) (q:Q (.p t) M):IxS qF M (.p (.lst ts)) (.p (.int i)) Q:=ix_at rfl (JS h) q
theorem ixt_at {ts:List T} {i:Int} {t:T} (h:atI ts i=some t) (q:Q (.p t) M):IxS vE M (.p (.tup ts)) (.p (.int i)) Q:=ix_at rfl (JS h) q
def SnsS (M:MM) (us:List U) (R:List T->Prop):Prop:=∃ts,sns M us=some ts/\R ts
theorem rd_sns0 {R:List T->Prop}:SnsS M [] R=R []:=propext ⟨fun⟨_,e,h⟩=>by cases e; exact h,fun h=>⟨[],rfl,h⟩⟩
theorem rd_snsC {a:T} {us:List U} {R:List T->Prop}:SnsS M (.p a::us) R=SnsS M us fun ts=>R (a::ts):=by
 refine propext ⟨fun⟨ts,e,h⟩=>?_,fun⟨ts,e,h⟩=>⟨a::ts,by simp[sns,sn,e],h⟩⟩
 simp only[sns,sn] at e
 cases q:sns M us with
 |none=>rw[q] at e; cases e
 |some r=>rw[q] at e; simp at e; subst e; exact⟨r,q,h⟩
theorem rd_cb {s:List T->(T->Prop)->Prop}:uCb s ul ρ M Q=ul ρ M fun us M1=>SnsS M1 us fun ts=>s ts fun t=>Q (.p t) M1:=rfl
theorem rd_abs' {i:Int} {Q:T->Prop}:sAbs [.int i] Q=Q (.int (if i<0 then -i else i)):=propext ⟨fun⟨_,e,h⟩=>by cases e; exact h,fun h=>⟨i,rfl,h⟩⟩
theorem rd_min' {i j:Int} {Q:T->Prop}:sMin [.int i, .int j] Q=Q (.int (if j<i then j else i)):=propext ⟨fun⟨_,_,e,h⟩=>by cases e; exact h,fun h=>⟨i,j,rfl,h⟩⟩
theorem rd_max' {i j:Int} {Q:T->Prop}:sMax [.int i, .int j] Q=Q (.int (if j>i then j else i)):=propext ⟨fun⟨_,_,e,h⟩=>by cases e; exact h,fun h=>⟨i,j,rfl,h⟩⟩
theorem rd_int' {i:Int} {Q:T->Prop}:sInt [.int i] Q=Q (.int i):=by
 refine propext ⟨fun h=>?_,fun h=>Or.inl ⟨i,rfl,h⟩⟩
 rcases h with⟨_,e,h⟩|⟨_,e,h⟩
 ·cases e; exact h
 ·cases e
theorem rd_intB {k:Bool} {Q:T->Prop}:sInt [.bl k] Q=Q (.int (if k then 1 else 0)):=by
 refine propext ⟨fun h=>?_,fun h=>Or.inr ⟨k,rfl,h⟩⟩
 rcases h with⟨_,e,h⟩|⟨_,e,h⟩
 ·cases e
 ·cases e; exact h
def LenS (it:MM->U->Option (List U)) (M:MM) (us:List U) (Q:UK):Prop:=∃x ys,us=[x]/\it M x=some ys/\Q (.p (.int ys.length)) M
theorem rd_len {it:MM->U->Option (List U)}:uLen it ul ρ M Q=ul ρ M fun us M1=>LenS it M1 us Q:=rfl
theorem rd_lenP {ts:List T}:LenS qF M [.p (.lst ts)] Q=Q (.p (.int ts.length)) M :=
 propext ⟨fun⟨_,_,e1,e2,h⟩=>by cases e1; cases e2; rw[List.length_map] at h; exact h,fun h=>⟨_,_,rfl,rfl,by rw[List.length_map]; exact h⟩⟩
theorem kr {k:Nat} {us:List U} (e:M[k]?=some (.lst us)) (h:Q (.p (.int us.length)) M):LenS qF M [.m k] Q:=⟨_,_,rfl,by simp[qF,e],h⟩
def SlS (M:MM) (x:U) (l h:Option Int) (Q:UK):Prop:=∃ts,sn M x=some (.lst ts)/\Q (.p (.lst (cutT ts l h))) M
theorem rd_sl {u1 u2:UO}:uSl ua u1 u2 ρ M Q=ua ρ M fun x M1=>u1 ρ M1 fun l M2=>u2 ρ M2 fun h M3=>SlS M3 x l h Q:=rfl
theorem rd_slS {ts:List T} {l h:Option Int}:SlS M (.p (.lst ts)) l h Q=Q (.p (.lst (cutT ts l h))) M:=propext ⟨fun⟨_,e,h⟩=>by cases e; exact h,fun h=>⟨ts,rfl,h⟩⟩
theorem rd_part {QO:Option Int->MM->Prop}:uPart ua ρ M QO=ua ρ M fun x M1=>IntS x fun i=>QO (some i) M1:=rfl
theorem Xy {QO:Option Int->MM->Prop}:Va ρ M QO=QO none M:=rfl
theorem rd_cat {xs ys:List T} {Q:T->Prop}:sCat (.lst xs) (.lst ys) Q=(xs.length+ys.length<=sizeLine/\Q (.lst (xs++ys))):=propext ⟨fun⟨_,_,e1,e2,h⟩=>by cases e1; cases e2; exact h,fun h=>⟨xs,ys,rfl,rfl,h⟩⟩
theorem rd_str {i j:Str} {Q:T->Prop}:sStr (.str i) (.str j) Q=(i.length+j.length<=sizeLine/\Q (.str (i++j))):=propext ⟨fun⟨_,_,e1,e2,h⟩=>by cases e1; cases e2; exact h,fun h=>⟨i,j,rfl,rfl,h⟩⟩
def itU (x:U) (us:List U):UIt:=⟨us.length,fun M=>qF M x=some us,fun i z=>us[i]?=some z⟩
def IterS (M:MM) (x:U) (R:UIt->MM->Prop):Prop:=∃us,qF M x=some us/\R (itU x us) M
theorem rd_iter {R:UIt->MM->Prop}:uIter ua ρ M R=ua ρ M fun x M1=>IterS M1 x R:=rfl
theorem rd_iterP {ts:List T} {R:UIt->MM->Prop}:IterS M (.p (.lst ts)) R=R (itU (.p (.lst ts)) (ts.map U.p)) M:=propext ⟨fun⟨_,e,h⟩=>by cases e; exact h,fun h=>⟨_,rfl,h⟩⟩
theorem ky {k:Nat} {us:List U} {R:UIt->MM->Prop} (e:M[k]?=some (.lst us)) (h:R (itU (.m k) us) M):IterS M (.m k) R:=⟨us,by simp[qF,e],h⟩
def itR0 (n:Nat):UIt:=⟨n,fun _=>True,fun i z=>z=.p (.int i)⟩
def RngS (us:List U) (M:MM) (R:UIt->MM->Prop):Prop:=∃j:Int,us=[.p (.int j)] /\ -(2^62)<=j/\j<2^62/\R (itR0 j.toNat) M
theorem rd_rng1 {R:UIt->MM->Prop}:uRng1 ul ρ M R=ul ρ M fun us M1=>RngS us M1 R:=rfl
theorem Qj {j:Int} {R:UIt->MM->Prop} (h1 : -(2^62)<=j) (h2:j<2^62) (q:R (itR0 j.toNat) M):RngS [.p (.int j)] M R:=⟨j,rfl,h1,h2,q⟩
theorem ze {ts:List T} {ub:US} (Iv:Nat->UEnv->MM->Prop) (h0:Iv 0 ρ M) (hs:∀i t ρ2 M2,ts[i]?=some t->Iv i ρ2 M2->ug (.p t) ρ2 M2 fun ρ3 M3=>ub { E with nx:=Iv (i+1),ct:=Iv (i+1),bk:=E.nx } ρ3 M3) (hd:∀ρ2 M2,Iv ts.length ρ2 M2->E.nx ρ2 M2):UFor (itU (.p (.lst ts)) (ts.map U.p)) ug ub E ρ M:=by
 refine⟨Iv,h0,fun i ρ2 M2 hi h=>⟨rfl,fun u hu=>?_⟩,fun ρ2 M2 h=>⟨rfl,hd ρ2 M2 (by simpa[itU] using h)⟩⟩
 have hu:(ts.map U.p)[i]?=some u:=hu
 rw[List.getElem?_map] at hu
 cases e:ts[i]? with
 |none=>rw[e] at hu; cases hu
 |some t=>rw[e] at hu; cases hu; exact hs i t ρ2 M2 e h
theorem VN {m:Nat} {ub:US} (Iv:Nat->UEnv->MM->Prop) (h0:Iv 0 ρ M) (hs:∀(i:Nat) ρ2 M2,i<m->Iv i ρ2 M2->ug (.p (.int i)) ρ2 M2 fun ρ3 M3=>ub { E with nx:=Iv (i+1),ct:=Iv (i+1),bk:=E.nx } ρ3 M3) (hd:∀ρ2 M2,Iv m ρ2 M2->E.nx ρ2 M2):UFor (itR0 m) ug ub E ρ M :=
 ⟨Iv,h0,fun i ρ2 M2 hi h=>⟨trivial,fun u hu=>by cases(show u=_ from hu); exact hs i ρ2 M2 hi h⟩,fun ρ2 M2 h=>⟨trivial,hd ρ2 M2 h⟩⟩
theorem ufor_mut {k:Nat} {xs:List U} {ub:US} (Iv:Nat->UEnv->MM->Prop) (h0:Iv 0 ρ M) (hk:∀i ρ2 M2,Iv i ρ2 M2->M2[k]?=some (.lst xs)) (hs:∀i z ρ2 M2,xs[i]?=some z->Iv i ρ2 M2->ug z ρ2 M2 fun ρ3 M3=>ub { E with nx:=Iv (i+1),ct:=Iv (i+1),bk:=E.nx } ρ3 M3) (hd:∀ρ2 M2,Iv xs.length ρ2 M2->E.nx ρ2 M2):UFor (itU (.m k) xs) ug ub E ρ M :=
 ⟨Iv,h0,fun i ρ2 M2 hi h=>⟨by show qF M2 (.m k)=_; simp[qF,hk i ρ2 M2 h],fun u hu=>hs i u ρ2 M2 hu h⟩,fun ρ2 M2 h=>⟨by show qF M2 (.m k)=_; simp[qF,hk _ ρ2 M2 h],hd ρ2 M2 h⟩⟩
theorem qW {ts:List T} {ρ0:UEnv} (hz:ts.length<=sizeLine) (Iv:Nat->List T->MM->Prop) (h0:Iv 0 [] M) (hs:∀i t acc M2,ts[i]?=some t->acc.length<=i->Iv i acc M2->ug (.p t) ρ0 M2 fun ρ4 M4=>ut ρ4 M4 fun b M5=>if b=true then ua ρ4 M5 fun z M6=>∃t,z=.p t/\Iv (i+1) (acc++[t]) M6 else Iv (i+1) acc M5) (hd:∀acc M2,Iv ts.length acc M2->Q (.p (.lst acc)) M2):JW (itU (.p (.lst ts)) (ts.map U.p)) ug ut ua ρ0 M Q:=by
 refine⟨by simpa[itU] using hz,Iv,h0,fun i acc M2 hi ha h=>⟨rfl,fun u hu=>?_⟩,fun acc M2 h=>⟨rfl,hd acc M2 (by simpa[itU] using h)⟩⟩
 have hu:(ts.map U.p)[i]?=some u:=hu
 rw[List.getElem?_map] at hu
 cases e:ts[i]? with
 |none=>rw[e] at hu; cases hu
 |some t=>rw[e] at hu; cases hu; exact hs i t acc M2 e ha h
theorem xQ {m:Nat} {ρ0:UEnv} (hz:m<=sizeLine) (Iv:Nat->List T->MM->Prop) (h0:Iv 0 [] M) (hs:∀(i:Nat) acc M2,i<m->acc.length<=i->Iv i acc M2->ug (.p (.int i)) ρ0 M2 fun ρ4 M4=>ut ρ4 M4 fun b M5=>if b=true then ua ρ4 M5 fun z M6=>∃t,z=.p t/\Iv (i+1) (acc++[t]) M6 else Iv (i+1) acc M5) (hd:∀acc M2,Iv m acc M2->Q (.p (.lst acc)) M2):JW (itR0 m) ug ut ua ρ0 M Q :=
 ⟨hz,Iv,h0,fun i acc M2 hi ha h=>⟨trivial,fun u hu=>by cases(show u=_ from hu); exact hs i acc M2 hi ha h⟩,fun acc M2 h=>⟨trivial,hd acc M2 h⟩⟩
def T2S (M:MM) (u:U) (R:U->U->Prop):Prop:=∃a b,vE M u=some [a,b]/\R a b
def T3S (M:MM) (u:U) (R:U->U->U->Prop):Prop:=∃a b c,vE M u=some [a,b,c]/\R a b c
theorem rd_name2 {i j:Nat} {R:UEnv->MM->Prop}:Qa i j u ρ M R=T2S M u fun a b=>R ((ρ.set i (some a)).set j (some b)) M:=rfl
theorem rd_name3 {i j k:Nat} {R:UEnv->MM->Prop}:k8 i j k u ρ M R=T3S M u fun a b c=>R (((ρ.set i (some a)).set j (some b)).set k (some c)) M:=rfl
theorem rd_t2 {a b:T} {R:U->U->Prop}:T2S M (.p (.tup [a,b])) R=R (.p a) (.p b):=propext ⟨fun⟨_,_,e,h⟩=>by cases e; exact h,fun h=>⟨_,_,rfl,h⟩⟩
theorem rd_t3 {a b c:T} {R:U->U->U->Prop}:T3S M (.p (.tup [a,b,c])) R=R (.p a) (.p b) (.p c):=propext ⟨fun⟨_,_,_,e,h⟩=>by cases e; exact h,fun h=>⟨_,_,_,rfl,h⟩⟩
theorem rd_callP {G:List T->(T->Prop)->Prop}:Xi G ul ρ M Q=ul ρ M fun us M1=>PurS us fun ts=>G ts fun t=>Q (.p t) M1:=rfl
theorem rd_callS {G:List T->(T->Prop)->Prop}:uCallS G ul ρ M Q=ul ρ M fun us M1=>SnsS M1 us fun ts=>G ts fun t=>(∃x,vt t=some x)/\Q (.p t) M1:=rfl
theorem rd_callU {G:List U->MM->UK->Prop}:uCall G ul ρ M Q=ul ρ M fun us M1=>G us M1 Q:=rfl
def MeS (s:List U->List U->(U->List U->Prop)->Prop) (ul:UA) (ρ:UEnv) (M:MM) (o:U) (Q:UK):Prop:=∃k,o=.m k/\(∃zs,M[k]?=some (.lst zs))/\ul ρ M fun ws M2=>∃us,M2[k]?=some (.lst us)/\s us ws fun z us'=>Q z (M2.set k (.lst us'))
theorem rd_me {s:List U->List U->(U->List U->Prop)->Prop}:uMe s ua ul ρ M Q=ua ρ M fun o M1=>MeS s ul ρ M1 o Q:=rfl
theorem me_at {s:List U->List U->(U->List U->Prop)->Prop} {k:Nat} {zs:List U} (e:M[k]?=some (.lst zs)) (h:ul ρ M fun ws M2=>∃us,M2[k]?=some (.lst us)/\s us ws fun z us'=>Q z (M2.set k (.lst us'))):MeS s ul ρ M (.m k) Q:=⟨k,rfl,⟨zs,e⟩,h⟩
theorem rd_app {us:List U} {y:U} {Q:U->List U->Prop}:Xv us [y] Q=(us.length<sizeLine/\Q (.p .non) (us++[y])):=propext ⟨fun⟨_,e,h⟩=>by cases e; exact h,fun h=>⟨y,rfl,h⟩⟩
theorem ss {α:Type} {a:α} {R:α->Prop}:(∃x,some a=some x/\R x)=R a:=propext ⟨fun⟨_,e,h⟩=>by cases e; exact h,fun h=>⟨a,rfl,h⟩⟩
end
inductive EqT:Nat->T->T->Bool->Prop
 |flat {n:Nat} {a b:T} {x y:V}:vt a=some x->vt b=some y->EqT n a b (eqV x y)
 |tup {n:Nat} {xs ys:List T} {e:Nat->Bool}:(∀(j:Nat) x y,xs[j]?=some x->ys[j]?=some y->EqT n x y (e j))->EqT (n+1) (.tup xs) (.tup ys) ((List.range (min xs.length ys.length)).all e&&xs.length==ys.length)
 |lst {n:Nat} {xs ys:List T} {e:Nat->Bool}:xs.length=ys.length->(∀(j:Nat) x y,xs[j]?=some x->ys[j]?=some y->EqT n x y (e j))->EqT (n+1) (.lst xs) (.lst ys) ((List.range xs.length).all e)
 |lstN {n:Nat} {xs ys:List T}:xs.length≠ys.length->EqT (n+1) (.lst xs) (.lst ys) false
section
variable {A:Addr->Prop} {H:Hp} {ι:List Addr} {M M':MM} {v:V} {u:U} {t:T} {K:PySem.W.Frag} {n:Nat}
theorem RepT.inj {a b:T} (r:RepT A H v a):RepT A H v b->a=b:=by
 induction r generalizing b with
 |non=>intro q; cases q; rfl
 |bl=>intro q; cases q; rfl
 |int=>intro q; cases q; rfl
 |str=>intro q; cases q; rfl
 |tup na e l r ih =>
  intro q
  cases q with
  |tup na' e' l' r' =>
   rw[e] at e'; cases e'
   congr 1
   refine List.ext_getElem (by omega) fun i h1 h2=>?_
   have h3:=h1
   rw[<-l] at h3
   exact ih i _ _ (List.getElem?_eq_getElem h3) (List.getElem?_eq_getElem h1) (r' i _ _ (List.getElem?_eq_getElem h3) (List.getElem?_eq_getElem h2))
  |lst na' e' l' r'=>rw[e] at e'; cases e'
 |lst na e l r ih =>
  intro q
  cases q with
  |lst na' e' l' r' =>
   rw[e] at e'; cases e'
   congr 1
   refine List.ext_getElem (by omega) fun i h1 h2=>?_
   have h3:=h1
   rw[<-l] at h3
   exact ih i _ _ (List.getElem?_eq_getElem h3) (List.getElem?_eq_getElem h1) (r' i _ _ (List.getElem?_eq_getElem h3) (List.getElem?_eq_getElem h2))
  |tup na' e' l' r'=>rw[e] at e'; cases e'
theorem eqV_self:∀{x:V} {t:T},vt t=some x->eqV x x=true:=fun {x t} h=>by cases VJ h<;>simp[eqV]
theorem EqT.self {a b:T} {r:Bool} (h:EqT n a b r):a=b->r=true:=by
 induction h with
 |flat h1 h2=>intro e; subst e; rw[h1] at h2; cases h2; exact eqV_self h1
 | @tup n xs ys e hh ih =>
  intro q
  cases q
  simp only[Nat.min_self,beq_self_eq_true,Bool.and_true,List.all_eq_true,List.mem_range]
  intro j hj
  exact ih j _ _ (List.getElem?_eq_getElem hj) (List.getElem?_eq_getElem hj) rfl
 | @lst n xs ys e hl hh ih =>
  intro q
  cases q
  simp only[List.all_eq_true,List.mem_range]
  intro j hj
  exact ih j _ _ (List.getElem?_eq_getElem hj) (List.getElem?_eq_getElem hj) rfl
 |lstN hl=>intro q; cases q; exact absurd rfl hl
theorem EqT.de {a b:T} {r:Bool} (h:EqT n a b r):∀{x y:V},RepT A H x a->RepT A H y b->DE K H n x y r:=by
 induction h with
 | @flat n a b x0 y0 h1 h2 =>
  intro x y r1 r2
  cases(RepV.of r1).sc (y:=.non) h1; cases(RepV.of r2).sc (y:=.non) h2
  exact .flat (by cases VJ h1<;>rfl) (by cases VJ h2<;>rfl)
 | @tup n xs ys e hh ih =>
  intro x y r1 r2
  obtain⟨p,vs,rfl,_,h1,q1⟩:=r1.tup_inv
  obtain⟨p2,vs2,rfl,_,h2,q2⟩:=r2.tup_inv
  by_cases hp:p=p2
  ·subst hp
   have:=(EqT.tup (n:=n) hh).self (r1.inj r2)
   rw[this]; exact .same
  ·have:=DE.tup (K:=K) (H:=H) (n:=n) (e:=e) hp (SqT.of h1) (SqT.of h2) fun j x y hx hy=>by
    obtain⟨a,ha,ra⟩:=Paired.getL q1 hx
    obtain⟨b,hb,rb⟩:=Paired.getL q2 hy
    exact ih j a b ha hb ra rb
   rw[q1.len,q2.len] at this
   exact this
 | @lst n xs ys e hl hh ih =>
  intro x y r1 r2
  obtain⟨p,vs,rfl,_,h1,q1⟩:=r1.lst_inv
  obtain⟨p2,vs2,rfl,_,h2,q2⟩:=r2.lst_inv
  by_cases hp:p=p2
  ·subst hp
   have:=(EqT.lst (n:=n) hl hh).self (r1.inj r2)
   rw[this]; exact .same
  ·have:=DE.lst (K:=K) (H:=H) (n:=n) (e:=e) hp (SqL.of h1) (SqL.of h2) (by rw[q1.len,q2.len,hl]) fun j x y hx hy=>by
    obtain⟨a,ha,ra⟩:=Paired.getL q1 hx
    obtain⟨b,hb,rb⟩:=Paired.getL q2 hy
    exact ih j a b ha hb ra rb
   rw[q1.len] at this
   exact this
 | @lstN n xs ys hl =>
  intro x y r1 r2
  obtain⟨p,vs,rfl,_,h1,q1⟩:=r1.lst_inv
  obtain⟨p2,vs2,rfl,_,h2,q2⟩:=r2.lst_inv
  by_cases hp:p=p2
  ·subst hp
   have:=r1.inj r2
   cases this
   exact absurd rfl hl
  ·exact .lstN hp (SqL.of h1) (SqL.of h2) (by rw[q1.len,q2.len]; exact hl)
def sEqL (neg:Bool):T->T->(T->Prop)->Prop:=fun a b Q=>∃xs ys,a=.lst xs/\b=.lst ys/\((xs.length≠ys.length/\Q (.bl neg))\/(xs.length=ys.length/\∃e:Nat->Bool,(∀(j:Nat) x y,xs[j]?=some x->ys[j]?=some y->EqT 20 x y (e j))/\Q (.bl (if neg then !(List.range xs.length).all e else(List.range xs.length).all e))))
theorem opl_eqL:OpL (rEqL K) (sEqL false):=fun A ι H M x y a b Qs Q w r1 r2 ⟨xs,ys,ea,eb,h⟩ k=>by
 subst ea eb
 obtain⟨p,vs,rfl,h1,q1⟩:=r1.lst_inv
 obtain⟨p2,vs2,rfl,h2,q2⟩:=r2.lst_inv
 refine⟨p,p2,vs,vs2,rfl,rfl,SqL.of h1,SqL.of h2, ?_⟩
 rcases h with⟨hl,q⟩|⟨hl,e,he,q⟩
 ·exact .inl ⟨by rw[q1.len,q2.len]; exact hl,k _ ι _ H (.refl _ _) w (.bl _) q⟩
 ·refine .inr ⟨by rw[q1.len,q2.len]; exact hl,e,fun j x y hx hy=>?_,by rw[q1.len]; exact k _ ι _ H (.refl _ _) w (.bl _) q⟩
  obtain⟨a,ha,ra⟩:=Paired.getL q1 hx
  obtain⟨b,hb,rb⟩:=Paired.getL q2 hy
  exact(he j a b ha hb).de ra rb
theorem opl_neL:OpL (rNeL K) (sEqL true):=fun A ι H M x y a b Qs Q w r1 r2 ⟨xs,ys,ea,eb,h⟩ k=>by
 subst ea eb
 obtain⟨p,vs,rfl,h1,q1⟩:=r1.lst_inv
 obtain⟨p2,vs2,rfl,h2,q2⟩:=r2.lst_inv
 refine⟨p,p2,vs,vs2,rfl,rfl,SqL.of h1,SqL.of h2, ?_⟩
 rcases h with⟨hl,q⟩|⟨hl,e,he,q⟩
 ·exact .inl ⟨by rw[q1.len,q2.len]; exact hl,k _ ι _ H (.refl _ _) w (.bl _) q⟩
 ·refine .inr ⟨by rw[q1.len,q2.len]; exact hl,e,fun j x y hx hy=>?_,by rw[q1.len]; exact k _ ι _ H (.refl _ _) w (.bl _) q⟩
  obtain⟨a,ha,ra⟩:=Paired.getL q1 hx
  obtain⟨b,hb,rb⟩:=Paired.getL q2 hy
  exact(he j a b ha hb).de ra rb
abbrev intsT (ns:List Int):T:=.lst (ns.map T.int)
theorem eqNil {neg:Bool} {xs:List T} {Q:T->Prop} (q:Q (.bl (if neg then !xs.isEmpty else xs.isEmpty))):sEqL neg (.lst xs) (.lst []) Q:=by
 refine⟨_,_,rfl,rfl, ?_⟩
 cases xs with
 |nil=>exact .inr ⟨rfl,fun _=>true,fun j x y hx=>by simp at hx,by simpa using q⟩
 |cons x xs=>exact .inl ⟨by simp,by cases neg<;>simpa using q⟩
def sRep:T->T->(T->Prop)->Prop:=fun a b Q=>∃xs k,a=.lst xs/\b=.int k /\ -(2^63)<=k/\k<2^63/\xs.length*k.toNat<=sizeLine/\Q (.lst (List.replicate k.toNat xs).flatten)
theorem XU:OpL rRep sRep:=fun A ι H M x y a b Qs Q w r1 r2 ⟨xs,kk,ea,eb,k0,k1,hz,q⟩ k=>by
 subst ea eb
 obtain⟨p,vs,rfl,h1,q1⟩:=r1.lst_inv
 cases r2.int_inv
 exact⟨p,kk,vs,rfl,rfl,h1,k0,k1,by rw[q1.len]; exact hz,fun l hl=>k _ ι _ _ (.fresh hl) (w.fresh hl) (vF w hl (jF q1 _)) q⟩
def frzB (b:Nat):Nat->MM->U->Option T
 |_,_, .p t=>some t
 |0,_, .m _=>none
 |_,_, .x _ _ _=>none
 |n+1,M, .m k=>if b<=k then match M[k]? with
  |some (.lst us)=>(frzs (frzB b n M) us).map T.lst
  |some (.tup us)=>(frzs (frzB b n M) us).map T.tup
  |_=>none else none
@[simp] theorem Jy {b n:Nat} {M:MM} {t:T}:frzB b n M (.p t)=some t:=by cases n<;>rfl
theorem QV {A':Addr->Prop} {f:U->Option T} {vs:List V} {us:List U} {ts:List T} (r:RepUs A ι H vs us) (h:∀v u t,RepU A ι H v u->f u=some t->RepT A' H v t) (e:frzs f us=some ts):RepTs A' H vs ts:=by
 induction r generalizing ts with
 |nil=>simp[frzs] at e; subst e; exact .nil
 |cons r q ih =>
  simp only[frzs] at e
  split at e
  ·rename_i h1 h2
   simp at e; subst e
   exact .cons (h _ _ _ r h1) (ih h2)
  ·cases e
theorem xM {m:List Addr} (w:Wd A (ι++m) H M):∀{n:Nat} {v:V} {u:U} {t:T},RepU A (ι++m) H v u->frzB ι.length n M u=some t->RepT (Av A ι) H v t
 |n,v, .p t',t, .p r,e=>by
  rw[Jy] at e; cases e
  exact r.mono fun x o hx ex=>⟨ex,fun z=>hx (z.elim .inl fun z=>.inr (List.mem_append_left _ z))⟩
 |0,v, .m k,t,r,e=>by simp[frzB] at e
 |n,v, .x a d q,t,r,e=>by cases n<;>simp[frzB] at e
 |n+1,v, .m k,t,r,e=>by
  cases r with
  |m q =>
  rename_i a
  obtain⟨o,h1,h2⟩:=w.al q
  simp only[frzB,h1] at e
  split at e
  ·rename_i hk
   have hna:¬Av A ι a:=fun z=>by
    rcases z with z|z
    ·exact w.na _ (List.mem_of_getElem? q) z
    ·rw[List.getElem?_append_right hk] at q
     have hd:=(List.nodup_append.mp w.nd).2.2
     exact hd a z a (List.mem_of_getElem? q) rfl
   cases o with
   |lst us =>
    simp at e
    obtain⟨ts,e1,rfl⟩:=e
    obtain⟨vs,h3,h4⟩:=h2
    exact .lstP hna h3 (QV h4 (fun v u t r e=>xM w r e) e1)
   |tup us =>
    simp at e
    obtain⟨ts,e1,rfl⟩:=e
    obtain⟨vs,h3,h4⟩:=h2
    exact .tupP hna h3 (QV h4 (fun v u t r e=>xM w r e) e1)
   |ins=>simp at e
   |dK=>simp at e
   |dF=>simp at e
   |tab=>simp at e
  ·cases e
def PurO (o:MO):Prop:=∃ts:List T,o=.lst (ts.map U.p)
def vZ (M M':MM):Prop:=∀(i:Nat) o,i<M.length->M'[i]?=some o->M[i]?=some o\/PurO o
theorem RepU.less {m:List Addr} {v0:V} {H0:Hp} (r:RepU A (ι++m) H v u) (r0:RepU A ι H0 v0 u):RepU A ι H v u:=by
 cases r with
 |p r=>exact .p (r.mono fun x o hx ex=>⟨ex,fun z=>hx (z.elim .inl fun z=>.inr (List.mem_append_left _ z))⟩)
 |m e =>
  cases r0 with
  |m e0 =>
   rw[List.getElem?_append_left (List.getElem?_eq_some_iff.mp e0).1] at e
   exact .m e
 | @x a d q h =>
  refine .x ?_
  cases q with
  |none=>exact h
  |some n =>
   obtain⟨x0,e,ni,hx⟩:=h
   exact⟨x0,e,fun z=>ni (List.mem_append_left _ z),hx⟩
theorem vA {α β:Type} {F G L:α->β->Prop} (h:∀a a0 b,F a b->G a0 b->L a b):∀{l l0:List α} {r:List β},Paired F l r->Paired G l0 r->Paired L l r
 |_,_,_, .nil, .nil=>.nil
 |_,_,_, .cons p q, .cons p0 q0=>.cons (h _ _ _ p p0) (vA h q q0)
theorem ObjR.less {m:List Addr} {a a0:Addr} {o:MO} {H0:Hp} (r:ObjR A (ι++m) H a o) (r0:ObjR A ι H0 a0 o):ObjR A ι H a o:=by
 cases o with
 |lst=>obtain⟨vs,e,r⟩:=r; obtain⟨_,_,r0⟩:=r0; exact⟨vs,e,vA (fun _ _ _ p q=>p.less q) r r0⟩
 |tup=>obtain⟨vs,e,r⟩:=r; obtain⟨_,_,r0⟩:=r0; exact⟨vs,e,vA (fun _ _ _ p q=>p.less q) r r0⟩
 |ins=>obtain⟨dx,gs,e,ed,nd,r⟩:=r; obtain⟨_,_,_,_,_,r0⟩:=r0; exact⟨dx,gs,e,ed,fun z=>nd (List.mem_append_left _ z),vA (fun _ _ _ p q=>⟨p.1,p.2.less q.2⟩) r r0⟩
 |dK=>obtain⟨gs,e,r⟩:=r; obtain⟨_,_,r0⟩:=r0; exact⟨gs,e,vA (fun _ _ _ p q=>⟨p.1,p.2.less q.2⟩) r r0⟩
 |dF=>obtain⟨e,r⟩:=r; obtain⟨_,r0⟩:=r0; exact⟨e,vA (fun _ _ _ p q=>⟨p.1,p.2.less q.2⟩) r r0⟩
 |tab=>obtain⟨ps,e,t,z⟩:=r; exact⟨ps,e,t,z.imp id fun⟨c,h1,h2,h3⟩=>⟨c,h1,h2,fun z=>h3 (List.mem_append_left _ z)⟩⟩
theorem Wd.trim {m:List Addr} {H0:Hp} (w:Wd A (ι++m) H M') (w0:Wd A ι H0 M) (h:vZ M M'):Wd A ι H (M'.take M.length):=by
 have hl:M.length<=M'.length:=by
  have:=w.len; rw[List.length_append,w0.len] at this; omega
 refine⟨(List.nodup_append.mp w.nd).1,by rw[List.length_take,Nat.min_eq_left hl]; exact w0.len,w.dom,fun x hx=>w.na x (List.mem_append_left _ hx),fun k a o e1 e2=>?_⟩
 have hk:=(List.getElem?_eq_some_iff.mp e1).1
 rw[List.getElem?_take_of_lt (by rw[<-w0.len]; exact hk)] at e2
 have r:=w.obj k a o (by rw[List.getElem?_append_left hk]; exact e1) e2
 rcases h k o (by rw[<-w0.len]; exact hk) e2 with z|⟨ts,rfl⟩
 ·exact r.less (w0.obj k a o e1 z)
 ·obtain⟨vs,e,q⟩:=r
  refine⟨vs,e, ?_⟩
  have q2:=q.pures
  exact RepTs.ups (Paired.mapP q2 fun _ _ q=>q.mono fun x o hx ex=>⟨ex,fun z=>hx (z.elim .inl fun z=>.inr (List.mem_append_left _ z))⟩)
end
section
variable {P:Program} {w:World} {K:PySem.W.Frag} {mg:Str->Option Value} {base:Heap}
theorem Fun.okV {x qual:Str} {st:Stmt} {f:Addr} {fd:FuncData} {N ps:List Str} {k:Nat} {G:List U->MM->UK->Prop} (F:Fun K x qual st f fd) (S:FnScope N ps (qi st)) (len:∀us M Qu,G us M Qu->us.length=ps.length)
  (hbody:∀(cdv:Value) (A:Around) (outer:List Env) (s:Shared) (H:Hp) (E:XK),Room k (A.deeper (envOfC qual (qi st) s.heap.objs.size f cdv)) ->
   ∃t,PSs (cxOf CX0 P w K mg base N qual (qi st) f cdv A outer s H E).nox (vi st) t/\∃u,LS t u/\∀us M Qu,G us M Qu->u { nx:=fun _ M'=>vZ M M'/\Qu (.p .non) (M'.take M.length),rt:=fun z M'=>vZ M M'/\∃t,frzB M.length 4 M' z=some t/\Qu (.p t) (M'.take M.length) } (zh N us) M):FnOk P w K mg base CX0 (k+1) f fd ps (spU G):=by
 refine F.ok S (fun vs H Q E h=>?_) (fun cdv A outer s H vs Q E hr h=>?_)
 ·obtain⟨A,ι,M,us,Qu,w1,r,g,_⟩:=h
  rw[r.len]; exact len us M Qu g
 ·obtain⟨B,ι,M,us,Qu,w1,r,g,kk⟩:=h
  obtain⟨t,ht,u,hu,hb⟩:=hbody cdv A outer s H E hr
  have less:∀{ι1:List Addr} {H1:Hp},Le ι H ι1 H1->Le ι H ι H1:=fun l=>⟨⟨[],by simp,by simp⟩,l.fr,l.al⟩
  refine⟨t,ht,hu B ι _ H _ M _ { nx:=fun _ M'=>vZ M M'/\Qu (.p .non) (M'.take M.length),rt:=fun z M'=>vZ M M'/\∃t,frzB M.length 4 M' z=some t/\Qu (.p t) (M'.take M.length) } w1 (zg r) ⟨fun ι1 σ1 H1 ρ1 M1 l1 w2 e1 q1=>?_,fun ι1 v H1 z M1 l1 w2 r1 q1=>?_,fun _ _ _ _ _ _ _ _ q=>q.elim,fun _ _ _ _ _ _ _ _ q=>q.elim⟩ (hb us M Qu g)⟩
  ·obtain⟨tr,q⟩:=q1
   obtain⟨m,rfl,_⟩:=id l1.ext
   exact kk _ _ ι _ H1 (less l1) (w2.trim w1 tr) (.p .non) q
  ·obtain⟨tr,t1,et,q⟩:=q1
   obtain⟨m,rfl,_⟩:=id l1.ext
   rw[<-w1.len] at et
   exact kk _ _ ι v H1 (less l1) (w2.trim w1 tr) (.p (xM w2 r1 et)) q
end
section
variable {ta tb:TE} {ua ub uc:UE} {ul:UA} {A:Addr->Prop} {H H':Hp} {ι ι':List Addr} {M M':MM} {v:V} {u:U} {σ:St} {ρ:UEnv} {K:PySem.W.Frag}
def keyU:Key->U
 |.inl i=>.p (.int i)
 |.inr x=>.p (.str x)
 |.non=>.p .non
def valU (kvs:List (Key×U)) (k:Key):Option U:=(kvs.find? fun kv=>decide (kv.1=k)).map (·.2)
def putU (kvs:List (Key×U)) (k:Key) (y:U):List (Key×U):=if kvs.any (fun kv=>decide (kv.1=k)) then kvs.map (fun kv=>if kv.1=k then(kv.1,y) else kv) else kvs++[(k,y)]
def zM (kvs more:List (Key×U)):List (Key×U):=more.foldl (fun acc kv=>putU acc kv.1 kv.2) kvs
abbrev KR (A:Addr->Prop) (ι:List Addr) (H:Hp):List (Key×V)->List (Key×U)->Prop:=Paired fun(g:Key×V) (f:Key×U)=>g.1=f.1/\RepU A ι H g.2 f.2
theorem val_rep {gs:List (Key×V)} {kvs:List (Key×U)} {k:Key} (r:KR A ι H gs kvs):match valU kvs k with|some u=>∃v,valV gs k=some v/\RepU A ι H v u|none=>valV gs k=none:=by
 induction r with
 |nil=>rfl
 | @cons g f gs kvs p q ih =>
  obtain⟨e,r⟩:=p
  unfold valU valV at ih ⊢
  simp only[List.find?_cons]
  by_cases h:f.1=k
  ·rw[e]
   simp only[h,decide_true]
   exact⟨_,rfl,r⟩
  ·rw[e]
   simp only[h,decide_false]
   exact ih
theorem any_rep {gs:List (Key×V)} {kvs:List (Key×U)} {k:Key} (r:KR A ι H gs kvs):(gs.any fun kv=>decide (kv.1=k))=(kvs.any fun kv=>decide (kv.1=k)):=by
 induction r with
 |nil=>rfl
 |cons p q ih=>rw[List.any_cons,List.any_cons,ih,p.1]
theorem Vu {gs:List (Key×V)} {kvs:List (Key×U)} {k:Key} (r:KR A ι H gs kvs) (rv:RepU A ι H v u):KR A ι H (gs.map fun kv=>if kv.1=k then(kv.1,v) else kv) (kvs.map fun kv=>if kv.1=k then(kv.1,u) else kv):=by
 induction r with
 |nil=>exact .nil
 | @cons g f gs kvs p q ih =>
  refine .cons ?_ ih
  show(if g.1=k then(g.1,v) else g).1=(if f.1=k then(f.1,u) else f).1/\RepU A ι H (if g.1=k then(g.1,v) else g).2 (if f.1=k then(f.1,u) else f).2
  by_cases h:f.1=k
  ·rw[if_pos h,if_pos (p.1.trans h)]; exact⟨p.1,rv⟩
  ·rw[if_neg h,if_neg (fun z=>h (p.1.symm.trans z))]; exact p
theorem put_rep {gs:List (Key×V)} {kvs:List (Key×U)} {k:Key} (r:KR A ι H gs kvs) (rv:RepU A ι H v u):KR A ι H (putK gs k v) (putU kvs k u):=by
 unfold putK putU
 rw[any_rep r]
 split
 ·exact Vu r rv
 ·exact r.app (.cons ⟨rfl,rv⟩ .nil)
theorem Jc {more:List (Key×V)} {moreU:List (Key×U)} (q:KR A ι H more moreU):∀{gs:List (Key×V)} {kvs:List (Key×U)},KR A ι H gs kvs->KR A ι H (je gs more) (zM kvs moreU):=by
 unfold je zM
 induction q with
 |nil=>intro gs kvs r; exact r
 |cons p q ih =>
  intro gs kvs r
  rw[List.foldl_cons,List.foldl_cons,p.1]
  exact ih (put_rep r p.2)
inductive LPs:List (TE×TE)->List (UE×UE)->Prop
 |nil:LPs [] []
 |cons {tk tv:TE} {uk uv:UE} {ts:List (TE×TE)} {us:List (UE×UE)}:LE tk uk->LE tv uv->LPs ts us->LPs ((tk,tv)::ts) ((uk,uv)::us)
def VO:List (UE×UE)->UEnv->MM->(List (U×U)->MM->Prop)->Prop
 | [],_,M,Q=>Q [] M
 | (k,v)::r,ρ,M,Q=>k ρ M fun x M1=>v ρ M1 fun y M2=>VO r ρ M2 fun ps M3=>Q ((x,y)::ps) M3
theorem lps_run {trs:List (TE×TE)} {urs:List (UE×UE)} (h:LPs trs urs):∀(A:Addr->Prop) (ι:List Addr) (σ:St) (H:Hp) (ρ:UEnv) (M:MM) (Qu:List (U×U)->MM->Prop) (Q:List (V×V)->Hp->Prop),Wd A ι H M->EnvR A ι H σ ρ->VO urs ρ M Qu ->
  (∀us M' ι' vs H',Le ι H ι' H'->Wd A ι' H' M'->Paired (fun(x:V×V) (y:U×U)=>RepU A ι' H' x.1 y.1/\RepU A ι' H' x.2 y.2) vs us->Qu us M'->Q vs H')->VS trs σ H Q:=by
 induction h with
 |nil=>intro A ι σ H ρ M Qu Q w e q k; exact k [] M ι [] H (.refl _ _) w .nil q
 |cons h1 h2 h3 ih =>
  intro A ι σ H ρ M Qu Q w e q k
  refine h1 A ι σ H ρ M _ _ w e q fun x M1 ι1 v1 H1 l1 w1 r1 q1=>?_
  refine h2 A ι1 σ H1 ρ M1 _ _ w1 (e.le l1) q1 fun y M2 ι2 v2 H2 l2 w2 r2 q2=>?_
  refine ih A ι2 σ H2 ρ M2 _ _ w2 (e.le (l1.trans l2)) q2 fun us M3 ι3 vs H3 l3 w3 r3 q3=>?_
  exact k _ M3 ι3 _ H3 ((l1.trans l2).trans l3) w3 (.cons ⟨(r1.le l2).le l3,r2.le l3⟩ r3) q3
def uDisp (urs:List (UE×UE)):UE:=fun ρ M Q=>VO urs ρ (M++[.dK []]) fun ps M2=>M2[M.length]?=some (.dK [])/\∃kvs:List (Key×U),ps=kvs.map (fun kv=>(keyU kv.1,kv.2))/\kvs.length<=15/\Q (.m M.length) (M2.set M.length (.dK (zM [] kvs)))
theorem Jm {k:Key} (r:RepU A ι H v (keyU k)):v=kV k:=by
 cases k with
 |inl i=>cases r with|p r=>cases r; rfl
 |inr x=>cases r with|p r=>cases r; rfl
 |non=>cases r with|p r=>cases r; rfl
theorem Jl:∀{kvs:List (Key×U)} {vs:List (V×V)},Paired (fun(x:V×V) (y:U×U)=>RepU A ι H x.1 y.1/\RepU A ι H x.2 y.2) vs (kvs.map fun kv=>(keyU kv.1,kv.2))->∃gs:List (Key×V),vs=gs.map (fun kv=>(kV kv.1,kv.2))/\KR A ι H gs kvs
 | [],_, .nil=>⟨[],rfl, .nil⟩
 |kv::kvs,(a,b)::_, .cons p q=>by
  obtain⟨gs,rfl,r⟩:=Jl (kvs:=kvs) q
  refine⟨(kv.1,b)::gs, ?_, .cons ⟨rfl,p.2⟩ r⟩
  rw[List.map_cons]
  have:=Jm p.1
  simp only at this
  rw[this]
theorem le_disp {trs:List (TE×TE)} {urs:List (UE×UE)} (h:LPs trs urs):LE (tDisp trs) (uDisp urs):=by
 intro A ι σ H ρ M Qu Q w e q k p hp
 have w1:Wd A (ι++[p]) (upd H p (.dK [])) (M++[.dK []]):=w.push hp ⟨[],upd_same, .nil⟩
 have l1:Le ι H (ι++[p]) (upd H p (.dK [])):=.push hp
 refine lps_run h A _ σ _ ρ _ _ _ w1 (e.le l1) q fun us M2 ι2 vs H2 l2 w2 r2 q2=>?_
 obtain⟨hm,kvs,rfl,hl,q2⟩:=q2
 have ep:ι2[M.length]?=some p:=by
  obtain⟨nn,rfl,_⟩:=l2.ext
  rw[List.getElem?_append_left (by rw[List.length_append,w.len]; simp), <-w.len]
  exact kB
 obtain⟨gs0,h1,h2⟩:=w2.obj _ p _ ep hm
 cases h2
 obtain⟨gs,rfl,rk⟩:=Jl r2
 have hmem:=List.mem_of_getElem? ep
 refine⟨h1,gs,rfl,by rw[rk.len]; exact hl,k _ _ ι2 _ _ ((l1.trans l2).trans (.put hmem)) (w2.put (mo:=.dK (zM [] kvs)) ep ⟨_,upd_same, ?_⟩) (.m ep) q2⟩
 exact Paired.mapP (Jc rk .nil) fun _ _ q=>⟨q.1,q.2.le (.put hmem)⟩
def DGetS (M:MM) (x y:U) (Q:UK):Prop:=∃k kvs key w,x=.m k/\M[k]?=some (.dK kvs)/\y=keyU key/\valU kvs key=some w/\Q w M
def uDGet (ua ub:UE):UE:=fun ρ M Q=>ua ρ M fun x M1=>ub ρ M1 fun y M2=>DGetS M2 x y Q
theorem le_dget (ha:LE ta ua) (hb:LE tb ub):LE (tDGet ta tb) (uDGet ua ub):=fun A ι σ H ρ M Qu Q w e q k =>
 ha A ι σ H ρ M _ _ w e q fun x M1 ι1 v H1 l1 w1 r1 q1=>hb A ι1 σ H1 ρ M1 _ _ w1 (e.le l1) q1 fun y M2 ι2 v2 H2 l2 w2 r2 ⟨kk,kvs,key,z,ex,em,ey,ez,q2⟩=>by
  subst ex ey
  have r1':=r1.le l2
  cases r1' with
  |m ek =>
  obtain⟨gs,h1,h2⟩:=w2.obj kk _ _ ek em
  have hv:=val_rep (k:=key) h2
  rw[ez] at hv
  obtain⟨x',hx,rx⟩:=hv
  refine⟨_,x',rfl, ?_,k z M2 ι2 x' H2 (l1.trans l2) w2 rx q2⟩
  have:=DGet.k (k:=key) h1
  rw[hx] at this
  rw[Jm r2]
  exact this
theorem rd_dget {Q:UK}:uDGet ua ub ρ M Q=ua ρ M fun x M1=>ub ρ M1 fun y M2=>DGetS M2 x y Q:=rfl
theorem V8 {k:Nat} {kvs:List (Key×U)} {x:Str} {w:U} {Q:UK} (h1:M[k]?=some (.dK kvs)) (h2:valU kvs (.inr x)=some w) (q:Q w M):DGetS M (.m k) (.p (.str x)) Q:=⟨k,kvs, .inr x,w,rfl,h1,rfl,h2,q⟩
def uIfC (c:UT) (t1 t2:T):UE:=fun ρ M Q=>c ρ M fun b M1=>Q (.p (if b=true then t1 else t2)) M1
theorem iteT_int {c:Prop} [Decidable c] {a b:Int}:(if c then T.int a else T.int b)=T.int (if c then a else b):=by split<;>rfl
theorem iteT_str {c:Prop} [Decidable c] {a b:Str}:(if c then T.str a else T.str b)=T.str (if c then a else b):=by split<;>rfl
def itV (x:U) (us:List U):UIt:=⟨us.length,fun M=>qF M x=some us,fun i z=>us[us.length-1-i]?=some z⟩
def RevS (us:List U) (M:MM) (R:UIt->MM->Prop):Prop:=∃x ys,us=[x]/\qF M x=some ys/\R (itV x ys) M
theorem rd_rev {R:UIt->MM->Prop}:uRev ul ρ M R=ul ρ M fun us M1=>RevS us M1 R:=rfl
theorem rd_revP {ts:List T} {R:UIt->MM->Prop}:RevS [.p (.lst ts)] M R=R (itV (.p (.lst ts)) (ts.map U.p)) M:=propext ⟨fun⟨_,_,e1,e2,h⟩=>by cases e1; cases e2; exact h,fun h=>⟨_,_,rfl,rfl,h⟩⟩
theorem rd_ch {s':T->T->(T->Prop)->Prop} {y:U} {b:Bool} {Q:UK}:ChS s' uc ρ M y Q (.bl b)=if b=true then uc ρ M fun c M3=>OpS s' M3 y c Q else Q (.p (.bl false)) M :=
 propext ⟨fun⟨k,e,h⟩=>by cases e; exact h,fun h=>⟨b,rfl,h⟩⟩
def sRemove:List U->List U->(U->List U->Prop)->Prop:=fun us ws Q=>∃(ts:List T) (y:T) (j:Nat) (e:Nat->Bool),us=ts.map U.p/\ws=[.p y]/\j<ts.length/\e j=true/\(∀m,m<j->e m=false)/\(∀(m:Nat) z,m<=j->ts[m]?=some z->EqT 20 z y (e m))/\Q (.p .non) ((ts.eraseIdx j).map U.p)
theorem QF {α β:Type} (f:α->β):∀(l:List α) (j:Nat),(l.eraseIdx j).map f=(l.map f).eraseIdx j
 | [],_=>rfl
 |_::_,0=>rfl
 |x::l,j+1=>by rw[List.eraseIdx_cons_succ,List.map_cons,List.map_cons,List.eraseIdx_cons_succ,QF f l j]
theorem ZN:MeL (Vh K) sRemove:=fun A ι H M k a xs ys us ws Qs Q w ek h1 h2 rx ry ⟨ts,y,j,e,eu,ew,hj,hjt,hjf,hd,q⟩ kk=>by
 subst eu ew
 cases ry with
 |cons r q' =>
 cases q'
 cases r with
 |p r =>
 have rp:=rx.pures
 refine⟨a,xs,_,j,e,rfl,rfl,h1,by rw[rp.len]; exact hj,hjt,hjf,fun m z hm hz=>?_,kk _ _ _ _ (RepTs.ups (rp.erase j)) (.p .non) q⟩
 obtain⟨b,hb,rb⟩:=Paired.getL rp hz
 exact(hd m b hm hb).de rb r
end
section
variable {ua ub:UE} {ul:UA} {A:Addr->Prop} {H:Hp} {ι:List Addr} {M:MM} {v:V} {t:T} {σ:St} {ρ:UEnv} {K:PySem.W.Frag}
def KTu (K:PySem.W.Frag) (p:Addr) (vs:List V):Prop:=∀H,SqT K H p vs
def uIxK (ts:List T) (ub:UE):UE:=fun ρ M Q=>ub ρ M fun y M1=>IntS y fun i=>∃t,atI ts i=some t/\Q (.p t) M1
def uInK (neg:Bool) (vs:List V) (ua:UE):UE:=fun ρ M Q=>ua ρ M fun x M1=>∃a,x=.p a/\∃y,vt a=some y/\Q (.p (.bl (if neg then !inV y vs else inV y vs))) M1
theorem le_lenK {p:Addr} {vs:List V} (h:KTu K p vs):LE (tCB (rLenA K) (vo (tC (.ref p)) tNil)) (uC (.int vs.length)):=fun A ι σ H ρ M Qu Q w e q k =>
 ⟨p,vs,rfl, .inr (h H),k _ M ι _ H (.refl _ _) w (.p (.int _)) q⟩
inductive TyC where
 |int|bool|str|list|tuple
def TyC.name:TyC->String
 |.int => "int" |.bool => "bool" |.str => "str" |.list => "list" |.tuple => "tuple"
def isT:T->TyC->Bool
 |.int _, .int=>true
 |.bl _, .int=>true
 |.bl _, .bool=>true
 |.str _, .str=>true
 |.lst _, .list=>true
 |.tup _, .tuple=>true
 |_,_=>false
def isU (M:MM):U->TyC->Option Bool
 |.p t,c=>some (isT t c)
 |.m k,c=>match M[k]? with
  |some (.lst _)=>some (isT (.lst []) c)
  |some (.tup _)=>some (isT (.tup []) c)
  |_=>none
 |.x _ _ _,_=>none
def uIsi (c:TyC) (ua:UE):UE:=fun ρ M Q=>ua ρ M fun x M1=>∃b,isU M1 x c=some b/\Q (.p (.bl b)) M1
def uIsi2 (c d:TyC) (ua:UE):UE:=fun ρ M Q=>ua ρ M fun x M1=>∃b,isU M1 x c=some b/\∃b',isU M1 x d=some b'/\Q (.p (.bl (b||b'))) M1
def uDNew:UE:=fun _ M Q=>Q (.m M.length) (M++[.dK []])
def DInS (neg:Bool) (M:MM) (y x:U) (Q:UK):Prop:=∃k kvs key,x=.m k/\M[k]?=some (.dK kvs)/\y=keyU key/\Q (.p (.bl (if neg then !(valU kvs key).isSome else(valU kvs key).isSome))) M
def uDIn (neg:Bool) (ua ub:UE):UE:=fun ρ M Q=>ua ρ M fun y M1=>ub ρ M1 fun x M2=>DInS neg M2 y x Q
def DPutS (M:MM) (x y v:U) (R:MM->Prop):Prop:=∃k kvs key,x=.m k/\M[k]?=some (.dK kvs)/\y=keyU key/\kvs.length<sizeLine/\R (M.set k (.dK (putU kvs key v)))
def uDPut (ud uy uv:UE):US:=fun E ρ M=>uv ρ M fun v M1=>ud ρ M1 fun x M2=>uy ρ M2 fun y M3=>DPutS M3 x y v fun M4=>E.nx ρ M4
theorem rd_din {neg:Bool} {Q:UK}:uDIn neg ua ub ρ M Q=ua ρ M fun y M1=>ub ρ M1 fun x M2=>DInS neg M2 y x Q:=rfl
theorem rd_dput {ud uy uv:UE} {E:UEnds}:uDPut ud uy uv E ρ M=uv ρ M fun v M1=>ud ρ M1 fun x M2=>uy ρ M2 fun y M3=>DPutS M3 x y v fun M4=>E.nx ρ M4:=rfl
def IdxS (us:List U) (xs:List Str) (M:MM) (Q:UK):Prop:=∃(t:Str) (j:Nat),us=[.p (.str t)]/\xs[j]?=some t/\(∀m,m<j->xs[m]?≠some t)/\Q (.p (.int j)) M
def uIdxK (xs:List Str) (ul:UA):UE:=fun ρ M Q=>ul ρ M fun us M1=>IdxS us xs M1 Q
theorem rd_idxK {xs:List Str} {Q:UK}:uIdxK xs ul ρ M Q=ul ρ M fun us M1=>IdxS us xs M1 Q:=rfl
end
section
variable {ul:UA} {n:Nat} {M:MM} {u:U} {ρ:UEnv}
def LRng2S (us:List U) (M:MM) (Q:UK):Prop:=∃(i j:Int) (n:Nat),us=[.p (.int i), .p (.int j)] /\ -(2^62)<=i/\j<2^62/\j=i+n/\n<=1000000/\Q (.p (.lst ((List.range n).map fun k:Nat=>T.int (i+k)))) M
def uLRng2 (ul:UA):UE:=fun ρ M Q=>ul ρ M fun us M1=>LRng2S us M1 Q
theorem rd_lrng2 {Q:UK}:uLRng2 ul ρ M Q=ul ρ M fun us M1=>LRng2S us M1 Q:=rfl
theorem gdIx {it:MM->U->Option (List U)} {x y:U} {Q:UK} (h:IxS it M x y Q):IxS it M x y Q:=h
theorem gdT2 {u:U} {R:U->U->Prop} (h:T2S M u R):T2S M u R:=h
theorem gdT3 {u:U} {R:U->U->U->Prop} (h:T3S M u R):T3S M u R:=h
theorem gdMe {s:List U->List U->(U->List U->Prop)->Prop} {o:U} {Q:UK} (h:MeS s ul ρ M o Q):MeS s ul ρ M o Q:=h
theorem gdLen {it:MM->U->Option (List U)} {us:List U} {Q:UK} (h:LenS it M us Q):LenS it M us Q:=h
end
section
variable {ua ub uv:UE} {ul:UA} {M:MM} {v:V} {u:U} {ρ:UEnv} {K:PySem.W.Frag} {f m:Str} {C:Addr}
def putFU (f:Str) (v:U):List (Str×U)->List (Str×U)
 | []=>[(f,v)]
 | (g,x)::r=>if g=f then(g,v)::r else(g,x)::putFU f v r
def FldS (K:PySem.W.Frag) (f:Str) (x:U) (M:MM) (Q:UK):Prop:=∃k C fs u,x=.m k/\M[k]?=some (.ins C fs)/\Cls K C/\NoAttr K C f/\fs.lookup f=some u/\Q u M
def uFld (K:PySem.W.Frag) (ua:UE) (f:Str):UE:=fun ρ M Q=>ua ρ M fun x M1=>FldS K f x M1 Q
def JY (K:PySem.W.Frag) (f:Str) (x y:U) (M:MM) (R:MM->Prop):Prop:=∃k C fs,x=.m k/\M[k]?=some (.ins C fs)/\Cls K C/\NoAttr K C f/\fs.length<1000/\R (M.set k (.ins C (putFU f y fs)))
def uFldPut (K:PySem.W.Frag) (ua uv:UE) (f:Str):US:=fun E ρ M=>uv ρ M fun y M1=>ua ρ M1 fun x M2=>JY K f x y M2 fun M3=>E.nx ρ M3
def MethS (C:Addr) (m:Str) (x:U) (M:MM) (R:Prop):Prop:=∃k fs,x=.m k/\M[k]?=some (.ins C fs)/\fs.lookup m=none/\R
def uMeth (C:Addr) (m:Str) (G:List U->MM->UK->Prop) (ua:UE) (ul:UA):UE:=fun ρ M Q=>ua ρ M fun x M1=>MethS C m x M1 (ul ρ M1 fun us M2=>G (x::us) M2 Q)
def uMake (C:Addr) (G:List U->MM->UK->Prop) (ul:UA):UE:=fun ρ M Q=>ul ρ M fun us M1=>G (.m M1.length::us) (M1++[.ins C []]) fun v M2=>v=.p .non/\Q (.m M1.length) M2
def RepNS (M:MM) (x y:U) (Q:UK):Prop:=∃xs k,x=.p (.lst xs)/\y=.p (.int k) /\ -(2^63)<=k/\k<2^63/\xs.length*k.toNat<=sizeLine/\Q (.m M.length) (M++[.lst ((List.replicate k.toNat xs).flatten.map U.p)])
def uRepNew (ua ub:UE):UE:=fun ρ M Q=>ua ρ M fun x M1=>ub ρ M1 fun y M2=>RepNS M2 x y Q
def SubS (M:MM) (o i u:U) (R:MM->Prop):Prop:=∃k us z j,o=.m k/\M[k]?=some (.lst us)/\i=.p (.int z)/\ixN us.length z=some j/\R (M.set k (.lst (us.set j u)))
theorem rd_sub {Q:UEnv->MM->Prop}:uSub ua ub u ρ M Q=ua ρ M fun o M1=>ub ρ M1 fun i M2=>SubS M2 o i u fun M3=>Q ρ M3:=rfl
def uName4 (i j k l:Nat):UG:=fun u ρ M Q=>∃a b c d,vE M u=some [a,b,c,d]/\Q ((((ρ.set i (some a)).set j (some b)).set k (some c)).set l (some d)) M
def T4S (M:MM) (u:U) (R:U->U->U->U->Prop):Prop:=∃a b c d,vE M u=some [a,b,c,d]/\R a b c d
theorem rd_name4 {i j k l:Nat} {R:UEnv->MM->Prop}:uName4 i j k l u ρ M R=T4S M u fun a b c d=>R ((((ρ.set i (some a)).set j (some b)).set k (some c)).set l (some d)) M:=rfl
theorem rd_t4 {a b c d:T} {R:U->U->U->U->Prop}:T4S M (.p (.tup [a,b,c,d])) R=R (.p a) (.p b) (.p c) (.p d):=propext ⟨fun⟨_,_,_,_,e,h⟩=>by cases e; exact h,fun h=>⟨_,_,_,_,rfl,h⟩⟩
def P2S (us:List U) (R:U->U->Prop):Prop:=∃a b,us=[a,b]/\R a b
def P3S (us:List U) (R:U->U->U->Prop):Prop:=∃a b c,us=[a,b,c]/\R a b c
def uPar (i j:Nat) (ul:UA):US:=fun E ρ M=>ul ρ M fun us M1=>P2S us fun a b=>E.nx ((ρ.set i (some a)).set j (some b)) M1
def uPar3 (i j k:Nat) (ul:UA):US:=fun E ρ M=>ul ρ M fun us M1=>P3S us fun a b c=>E.nx (((ρ.set i (some a)).set j (some b)).set k (some c)) M1
theorem rd_par {i j:Nat} {E:UEnds}:uPar i j ul E ρ M=ul ρ M fun us M1=>P2S us fun a b=>E.nx ((ρ.set i (some a)).set j (some b)) M1:=rfl
theorem rd_par3 {i j k:Nat} {E:UEnds}:uPar3 i j k ul E ρ M=ul ρ M fun us M1=>P3S us fun a b c=>E.nx (((ρ.set i (some a)).set j (some b)).set k (some c)) M1:=rfl
theorem rd_p2 {a b:U} {R:U->U->Prop}:P2S [a,b] R=R a b:=propext ⟨fun⟨_,_,e,h⟩=>by cases e; exact h,fun h=>⟨a,b,rfl,h⟩⟩
theorem rd_p3 {a b c:U} {R:U->U->U->Prop}:P3S [a,b,c] R=R a b c:=propext ⟨fun⟨_,_,_,e,h⟩=>by cases e; exact h,fun h=>⟨a,b,c,rfl,h⟩⟩
theorem rd_fld {Q:UK}:uFld K ua f ρ M Q=ua ρ M fun x M1=>FldS K f x M1 Q:=rfl
theorem Xz {E:UEnds}:uFldPut K ua uv f E ρ M=uv ρ M fun y M1=>ua ρ M1 fun x M2=>JY K f x y M2 fun M3=>E.nx ρ M3:=rfl
theorem rd_meth {G:List U->MM->UK->Prop} {Q:UK}:uMeth C m G ua ul ρ M Q=ua ρ M fun x M1=>MethS C m x M1 (ul ρ M1 fun us M2=>G (x::us) M2 Q):=rfl
theorem rd_make {G:List U->MM->UK->Prop} {Q:UK}:uMake C G ul ρ M Q=ul ρ M fun us M1=>G (.m M1.length::us) (M1++[.ins C []]) fun v M2=>v=.p .non/\Q (.m M1.length) M2:=rfl
theorem Xw {Q:UK}:uRepNew ua ub ρ M Q=ua ρ M fun x M1=>ub ρ M1 fun y M2=>RepNS M2 x y Q:=rfl
end
section
variable {P:Program} {w:World} {K:PySem.W.Frag} {mg:Str->Option Value} {base:Heap}
def gNo:List U->MM->UK->Prop:=fun _ _ _=>False
theorem FnOk.no {k:Nat} {f:Addr} {fd:FuncData} {ps:List Str}:FnOk P w K mg base CX0 k f fd ps (spU gNo) :=
 ⟨fun vs H Q E ⟨_,_,_,_,_,_,_,h,_⟩=>h.elim,fun _ _ _ _ _ _ _ _ _ _ _ _ _ ⟨_,_,_,_,_,_,_,h,_⟩=>h.elim⟩
end
structure ZE (a:TE) (b:UE):Prop where
 h:LE a b
structure ZT (a:TT) (b:UT):Prop where
 h:LT a b
structure ZA (n:Nat) (a:TA) (b:UA):Prop where
 h:LA n a b
structure ZO (a:TO) (b:UO):Prop where
 h:LO a b
structure ZI (a:TI) (b:UI):Prop where
 h:LI a b
structure ZG (a:TG) (b:UG):Prop where
 h:LG a b
structure ZX (bs:List Bool) (n:Nat) (a:TG) (b:UG):Prop where
 h:LGx bs n a b
structure ZS (a:TS) (b:US):Prop where
 h:LS a b
structure ZP (a:List (TE×TE)) (b:List (UE×UE)):Prop where
 h:LPs a b
theorem cp_nil:ZP [] []:=⟨.nil⟩
theorem jl {tk tv:TE} {uk uv:UE} {ts:List (TE×TE)} {us:List (UE×UE)} (a:ZE tk uk) (b:ZE tv uv) (c:ZP ts us):ZP ((tk,tv)::ts) ((uk,uv)::us):=⟨.cons a.h b.h c.h⟩
theorem ce_disp {trs:List (TE×TE)} {urs:List (UE×UE)} (h:ZP trs urs):ZE (tDisp trs) (uDisp urs):=⟨le_disp h.h⟩
section
theorem qd (i:Nat):ZE (tVar i) (uVar i):=⟨le_var i⟩
end
section
theorem ce_c {v:V} {t:T} (h:Sc v t):ZE (tC v) (uC t):=⟨le_c h⟩
end
section
theorem qg  : ZA 0 tNil uNil:=⟨la_nil ⟩
end
section
variable {ta:TE} {ua:UE} {tl:TA} {ul:UA} {n:Nat}
theorem qc (ha:ZE ta ua) (hl:ZA n tl ul):ZA (n+1) (vo ta tl) (uCons ua ul):=⟨la_cons ha.h hl.h⟩
end
section
variable {ta tb:TE} {ua ub:UE}
theorem qu {r:R2} {s:T->T->(T->Prop)->Prop} (h:OpL r s) (ha:ZE ta ua) (hb:ZE tb ub):ZE (tOp r ta tb) (uOp s ua ub):=⟨le_op h ha.h hb.h⟩
end
section
variable {ta:TE} {ua:UE}
variable {H:Hp}
theorem VF (ha:ZE ta ua):ZE (tOp (fun x y H Q=>y=.non/\Q (.bl (!decide (x=.non))) H) ta (tC .non)) (uIsN true ua):=⟨le_notN ha.h⟩
end
section
variable {ta:TE} {ua:UE}
theorem ct_b (ha:ZE ta ua):ZT (tB ta) (uB ua):=⟨lt_b ha.h⟩
end
section
variable {ta:TE} {ua:UE}
theorem qP (ha:ZE ta ua):ZT (xS ta) (uB ua):=⟨lt_test ha.h⟩
end
section
variable {ta:TE} {ua:UE}
theorem ct_tru {K:PySem.W.Frag} (ha:ZE ta ua):ZT (tTru K ta) (uTru ua):=⟨lt_tru ha.h⟩
end
section
variable {tt tt':TT} {ut ut':UT}
theorem Z4 (ha:ZT tt ut) (hb:ZT tt' ut'):ZT (tOr tt tt') (uOr ut ut'):=⟨lt_or ha.h hb.h⟩
end
section
variable {tt:TT} {ut:UT}
theorem zr (ha:ZT tt ut):ZT (tNot tt) (uNot ut):=⟨lt_not ha.h⟩
end
section
variable {ta tb:TE} {ua ub:UE} {tt:TT} {ut:UT}
theorem ce_if (hc:ZT tt ut) (ha:ZE ta ua) (hb:ZE tb ub):ZE (tIf tt ta tb) (uIf ut ua ub):=⟨le_if hc.h ha.h hb.h⟩
end
section
variable {ta tb tc:TE} {ua ub uc:UE}
theorem kR {r r':R2} {s s':T->T->(T->Prop)->Prop} (h:OpL r s) (h':OpL r' s') (ha:ZE ta ua) (hb:ZE tb ub) (hc:ZE tc uc):ZE (zJ r r' ta tb tc) (VP s s' ua ub uc):=⟨le_chain h h' ha.h hb.h hc.h⟩
end
section
variable {tl:TA} {ul:UA} {n:Nat}
theorem qT (ha:ZA n tl ul) (hn:n<=1000:=by decide):ZE (tTup tl) (uTup ul):=⟨le_tup ha.h hn⟩
end
section
variable {tl:TA} {ul:UA} {n:Nat}
theorem vG (ha:ZA n tl ul) (hn:n<=1000:=by decide):ZE (tLst tl) (uLst ul):=⟨le_lst ha.h hn⟩
end
section
variable {tl:TA} {ul:UA} {n:Nat}
theorem jp (ha:ZA n tl ul) (hn:n<=1000:=by decide):ZE (tLst tl) (uNew ul):=⟨le_new ha.h hn⟩
end
section
variable {tl:TA} {ul:UA} {n:Nat}
theorem ce_newT (ha:ZA n tl ul) (hn:n<=1000:=by decide):ZE (tTup tl) (uNewT ul):=⟨le_newT ha.h hn⟩
end
section
variable {ta tb:TE} {ua ub:UE}
theorem vO {K:PySem.W.Frag} (ha:ZE ta ua) (hb:ZE tb ub):ZE (tOp (rIxL K) ta tb) (uIx qF ua ub):=⟨le_ixL ha.h hb.h⟩
end
section
variable {ta tb:TE} {ua ub:UE}
theorem vc {K:PySem.W.Frag} (ha:ZE ta ua) (hb:ZE tb ub):ZE (tOp (rIxT K) ta tb) (uIx vE ua ub):=⟨le_ixT ha.h hb.h⟩
end
section
variable {tl:TA} {ul:UA} {n:Nat}
theorem jx {r:List V->Hp->VK->Prop} {s:List T->(T->Prop)->Prop} (h:CbL r s) (ha:ZA n tl ul):ZE (tCB r tl) (uCb s ul):=⟨le_cb h ha.h⟩
end
section
variable {tl:TA} {ul:UA} {n:Nat}
theorem Q2 (ha:ZA n tl ul):ZE (tCB rLenL tl) (uLen qF ul):=⟨le_len ha.h⟩
end
section
theorem kP  : ZO zf Va:=⟨lo_none ⟩
end
section
variable {ta:TE} {ua:UE}
theorem zw (ha:ZE ta ua):ZO (Qb ta) (uPart ua):=⟨lo_some ha.h⟩
end
section
variable {ta:TE} {ua:UE}
theorem Z6 {K:PySem.W.Frag} {t1 t2:TO} {u1 u2:UO} (ha:ZE ta ua) (h1:ZO t1 u1) (h2:ZO t2 u2):ZE (tSl (rSlL K) ta t1 t2) (uSl ua u1 u2):=⟨le_sl ha.h h1.h h2.h⟩
end
section
variable {ta:TE} {ua:UE} {K:PySem.W.Frag}
theorem qU (ha:ZE ta ua):ZI (ZZ K ta) (uIter ua):=⟨li_list ha.h⟩
end
section
variable {tl:TA} {ul:UA} {n:Nat}
theorem jn (ha:ZA n tl ul):ZI (Ju tl) (uRng1 ul):=⟨li_rng1 ha.h⟩
end
section
variable {tl:TA} {ul:UA} {n:Nat}
theorem ci_rng2 (ha:ZA n tl ul):ZI (iRng2 tl) (uRng2 ul):=⟨li_rng2 ha.h⟩
end
section
theorem qm (i:Nat):ZG (qE i) (Xh i):=⟨lg_name i⟩
end
section
variable {K:PySem.W.Frag}
theorem kQ (i j:Nat):ZG (gTup K 2 (qS (qE i) (qS (qE j) gNil))) (Qa i j):=⟨lg_name2 i j⟩
end
section
variable {K:PySem.W.Frag}
theorem Ze (i j l:Nat):ZG (gTup K 3 (qS (qE i) (qS (qE j) (qS (qE l) gNil)))) (k8 i j l):=⟨lg_name3 i j l⟩
end
section
variable {n:Nat}
theorem vg {bs:List Bool} (i:Nat) (h:vL bs n i=true:=by rfl):ZX bs n (qE i) (Xh i):=⟨lgx_name i h⟩
end
section
variable {n:Nat} {K:PySem.W.Frag}
theorem Q1 {bs:List Bool} (i j:Nat) (h:vL bs n i=true:=by rfl) (h2:vL bs n j=true:=by rfl):ZX bs n (gTup K 2 (qS (qE i) (qS (qE j) gNil))) (Qa i j):=⟨Jh i j h h2⟩
end
section
variable {n:Nat} {K:PySem.W.Frag}
theorem jo {bs:List Bool} (i j l:Nat) (h:vL bs n i=true:=by rfl) (h2:vL bs n j=true:=by rfl) (h3:vL bs n l=true:=by rfl):ZX bs n (gTup K 3 (qS (qE i) (qS (qE j) (qS (qE l) gNil)))) (k8 i j l):=⟨Jg i j l h h2 h3⟩
end
section
variable {M:MM}
theorem xp  : ZT tYes (fun _ M Q=>Q true M):=⟨lt_yes ⟩
end
section
variable {te:TE} {ue:UE} {tt:TT} {ut:UT} {n:Nat}
theorem qY {wi:TI} {ui:UI} {bs:List Bool} {g:TG} {ug:UG} (hi:ZI wi ui) (hg:ZX bs n g ug) (ht:ZT tt ut) (he:ZE te ue):ZE (xq wi bs n g tt te) (uComp ui bs n ug ut ue):=⟨le_comp hi.h hg.h ht.h he.h⟩
end
section
theorem vj  : ZS Qc uNext:=⟨ls_next ⟩
end
section
variable {ts ts':TS} {us us':US}
theorem ql (ha:ZS ts us) (hb:ZS ts' us'):ZS (tSeq ts ts') (uSeq us us'):=⟨ls_seq ha.h hb.h⟩
end
section
variable {ta:TE} {ua:UE}
theorem xC (ha:ZE ta ua):ZS (Qd ta) (uDrop ua):=⟨ls_drop ha.h⟩
end
section
variable {ta:TE} {ua:UE}
theorem qB (ha:ZE ta ua):ZS (tRet ta) (uRet ua):=⟨ls_ret ha.h⟩
end
section
variable {tt:TT} {ut:UT}
variable {ts ts':TS} {us us':US}
theorem zI (hc:ZT tt ut) (ha:ZS ts us) (hb:ZS ts' us'):ZS (tIfS tt ts ts') (uIfS ut us us'):=⟨ls_if hc.h ha.h hb.h⟩
end
section
variable {ta:TE} {ua:UE}
theorem qC {g:TG} {ug:UG} (ha:ZE ta ua) (hg:ZG g ug):ZS (tAsg ta g) (uAsg ua ug):=⟨ls_asg ha.h hg.h⟩
end
section
variable {ta:TE} {ua:UE}
theorem cs_aug {i:Nat} {f:Int->Int->Int} (ha:ZE ta ua):ZS (tAug i ta (ipI f)) (uAug i f ua):=⟨ls_aug ha.h⟩
end
section
variable {ts:TS} {us:US}
theorem zu {wi:TI} {ui:UI} {g:TG} {ug:UG} (hi:ZI wi ui) (hg:ZG g ug) (hb:ZS ts us):ZS (tFor wi g ts) (uFor ui ug us):=⟨ls_for hi.h hg.h hb.h⟩
end
section
variable {tt:TT} {ut:UT}
variable {ts:TS} {us:US}
theorem V9 (hc:ZT tt ut) (hb:ZS ts us):ZS (VR tt ts) (uWhile ut us):=⟨ls_while hc.h hb.h⟩
end
section
variable {ta:TE} {ua:UE} {tl:TA} {ul:UA} {n:Nat}
theorem Z7 {r:V->List V->Hp->VK->Prop} {s:List U->List U->(U->List U->Prop)->Prop} (h:MeL r s) (ha:ZE ta ua) (hl:ZA n tl ul):ZE (tLM r ta tl) (uMe s ua ul):=⟨le_me h ha.h hl.h⟩
end
section
variable {tl:TA} {ul:UA} {n:Nat}
theorem qp {G:List U->MM->UK->Prop} {E:XK} (ha:ZA n tl ul):ZE (v3 (spU G) [] E tl) (uCall G ul):=⟨le_callU ha.h⟩
end
section
variable {tl:TA} {ul:UA} {n:Nat}
theorem qr {G:List T->(T->Prop)->Prop} {E:XK} (ha:ZA n tl ul):ZE (v3 (spP G) [] E tl) (Xi G ul):=⟨le_callP ha.h⟩
end
section
variable {ta tb:TE} {ua ub:UE}
theorem JL (ha:ZE ta ua) (hb:ZE tb ub):ZE (tDGet ta tb) (uDGet ua ub):=⟨le_dget ha.h hb.h⟩
end
section
variable {K:PySem.W.Frag}
theorem ce_lenK {p:Addr} {vs:List V} (h:KTu K p vs):ZE (tCB (rLenA K) (vo (tC (.ref p)) tNil)) (uC (.int vs.length)):=⟨le_lenK h⟩
end
section
variable {P:Program} {w:World} {K:PySem.W.Frag} {mg:Str->Option Value} {base:Heap}
theorem Fun.okQ {x qual:Str} {st:Stmt} {f:Addr} {fd:FuncData} {N ps:List Str} {k:Nat} {sp:Sp} (F:Fun K x qual st f fd) (S:FnScope N ps (qi st)) (len:∀vs H Q E,sp vs H Q E->vs.length=ps.length)
  (hbody:∀(cdv:Value) (A:Around) (outer:List Env) (s:Shared) (H:Hp) (vs:List V) (Q:VK) (E:XK),Room k (A.deeper (envOfC qual (qi st) s.heap.objs.size f cdv))->sp vs H Q E ->
   ∃t,QSs (cxOf CX0 P w K mg base N qual (qi st) f cdv A outer s H E).nox (vi st) t/\t { nx:=fun _ H'=>Q .non H',rt:=Q } (start N vs) H):FnOk P w K mg base CX0 (k+1) f fd ps sp :=
 F.ok S len fun cdv A outer s H vs Q E hr hsp=>by
  obtain⟨t,h,q⟩:=hbody cdv A outer s H vs Q E hr hsp
  exact⟨t,h.h,q⟩
theorem Fun.zU {x qual:Str} {st:Stmt} {f:Addr} {fd:FuncData} {N ps:List Str} {k:Nat} {G:List U->MM->UK->Prop} (F:Fun K x qual st f fd) (S:FnScope N ps (qi st)) (len:∀us M Qu,G us M Qu->us.length=ps.length)
  (hbody:∀(cdv:Value) (A:Around) (outer:List Env) (s:Shared) (H:Hp) (E:XK),Room k (A.deeper (envOfC qual (qi st) s.heap.objs.size f cdv)) ->
   ∃t,QSs (cxOf CX0 P w K mg base N qual (qi st) f cdv A outer s H E).nox (vi st) t/\∃u,ZS t u/\∀us M Qu,G us M Qu->u { nx:=fun _ M'=>Qu (.p .non) M',rt:=Qu } (zh N us) M):FnOk P w K mg base CX0 (k+1) f fd ps (spU G) :=
 F.okU S len fun cdv A outer s H E hr=>by
  obtain⟨t,h,u,hu,q⟩:=hbody cdv A outer s H E hr
  exact⟨t,h.h,u,hu.h,q⟩
theorem Fun.zV {x qual:Str} {st:Stmt} {f:Addr} {fd:FuncData} {N ps:List Str} {k:Nat} {G:List U->MM->UK->Prop} (F:Fun K x qual st f fd) (S:FnScope N ps (qi st)) (len:∀us M Qu,G us M Qu->us.length=ps.length)
  (hbody:∀(cdv:Value) (A:Around) (outer:List Env) (s:Shared) (H:Hp) (E:XK),Room k (A.deeper (envOfC qual (qi st) s.heap.objs.size f cdv)) ->
   ∃t,QSs (cxOf CX0 P w K mg base N qual (qi st) f cdv A outer s H E).nox (vi st) t/\∃u,ZS t u/\∀us M M1 Qu,M1=M->G us M Qu->u { nx:=fun _ M'=>vZ M M'/\Qu (.p .non) (M'.take M.length),rt:=fun z M'=>vZ M M'/\∃t,frzB M.length 4 M' z=some t/\Qu (.p t) (M'.take M.length) } (zh N us) M1):FnOk P w K mg base CX0 (k+1) f fd ps (spU G) :=
 F.okV S len fun cdv A outer s H E hr=>by
  obtain⟨t,h,u,hu,q⟩:=hbody cdv A outer s H E hr
  exact⟨t,h.h,u,hu.h,fun us M Qu g=>q us M M Qu rfl g⟩
theorem Fun.zP {x qual:Str} {st:Stmt} {f:Addr} {fd:FuncData} {N ps:List Str} {k:Nat} {G:List T->(T->Prop)->Prop} (F:Fun K x qual st f fd) (S:FnScope N ps (qi st)) (len:∀ts Qt,G ts Qt->ts.length=ps.length)
  (hbody:∀(cdv:Value) (A:Around) (outer:List Env) (s:Shared) (H:Hp) (E:XK),Room k (A.deeper (envOfC qual (qi st) s.heap.objs.size f cdv)) ->
   ∃t,QSs (cxOf CX0 P w K mg base N qual (qi st) f cdv A outer s H E).nox (vi st) t/\∃u,ZS t u/\∀ts Qt,G ts Qt->u { nx:=fun _ _=>Qt .non,rt:=fun z M'=>∃t,frzN 4 M' z=some t/\Qt t } (zh N (ts.map U.p)) []):FnOk P w K mg base CX0 (k+1) f fd ps (spP G) :=
 F.okP S len fun cdv A outer s H E hr=>by
  obtain⟨t,h,u,hu,q⟩:=hbody cdv A outer s H E hr
  exact⟨t,h.h,u,hu.h,q⟩
end
section
variable {A:Addr->Prop} {ι:List Addr} {H:Hp} {M:MM} {a:Addr} {d:Option Addr}
theorem Wd.not_xd (w:Wd A ι H M) {a:Addr} {fs:List (Str×V)} (h:a∈ι):H a≠some (.xd fs):=fun z=>by
 obtain⟨k,e⟩:=List.getElem?_of_mem h
 obtain⟨o,_,r⟩:=w.al e
 cases o with
 |lst=>obtain⟨vs,e,_⟩:=r; rw[z] at e; cases e
 |tup=>obtain⟨vs,e,_⟩:=r; rw[z] at e; cases e
 |ins=>obtain⟨_,_,e,_⟩:=r; rw[z] at e; cases e
 |dK=>obtain⟨_,e,_⟩:=r; rw[z] at e; cases e
 |dF=>obtain⟨e,_⟩:=r; rw[z] at e; cases e
 |tab=>obtain⟨_,e,_⟩:=r; rw[z] at e; cases e
theorem PartIs.x (w:Wd A ι H M) {q:Option Int} (h:PartIs d H q):PartX ι H d q:=by
 cases q with
 |none=>exact h
 |some n =>
  obtain⟨x0,e,hx⟩:=h
  exact⟨x0,e,fun z=>w.not_xd z hx,hx⟩
end
section
variable {A:Addr->Prop} {ι:List Addr} {H H':Hp} {M:MM}
theorem Wd.ext (w:Wd A ι H M) (h:∀x o,H x=some o->H' x=some o):Wd A ι H' M:=by
 have l:Le ι H ι H':=⟨⟨[],by simp,by simp⟩,fun x o e _=>h x o e,fun x e=>by
  cases q:H x with
  |none=>exact absurd q e
  |some o=>rw[h x o q]; simp⟩
 refine⟨w.nd,w.len,fun x hx=>l.al x (w.dom x hx),w.na,fun k a o e1 e2=>?_⟩
 have r:=w.obj k a o e1 e2
 obtain⟨q,hq⟩:=r.some
 exact r.le' l (by rw[h a q hq,hq]) fun x hx=>by rw[h x _ hx,hx]
end
section
def zG (xs:List Str):List V:=xs.map V.str
end
section
variable {X:Cx} {pins:List (Addr×Obj)} {σ:St} {H:Hp} {s:Shared}
def entD (P:Params) (e:Str×Tok×Value):DictEntry:=⟨PyData.keyHash P e.1, .str e.1 e.2.1,e.2.2⟩
structure KDi (K:PySem.W.Frag) (w:World) (mg:Str->Option Value) (nm:Str) (a:Addr) (kvs:List (Str×V)):Prop where
 g:mg nm=some (.ref a)
 ex:∃(rows:List (Str×Tok×Value)) (ep:Nat),K.lookup a=some ⟨.type "dict", none, .dict ((rows.map (entD w.params)).toArray) ep, #[]⟩/\(rows.map (·.1)).Nodup/\Paired (fun(kv:Str×V) (r:Str×Tok×Value)=>kv.1=r.1/\RelV kv.2 r.2.2) kvs rows
def keyR (r:Str×Tok×Value):Key×Value:=(.inr r.1,r.2.2)
theorem XS {prog:Program} {w:World}:∀rows:List (Str×Tok×Value),Pairs (qX prog w) (rows.map (entD w.params)) (rows.map keyR)
 | []=>.nil
 |r::rows=>.cons (zS prog w r.1 r.2.1) rfl (XS rows)
theorem keys_D {prog:Program} {w:World} (rows:List (Str×Tok×Value)):KeysOf (qX prog w) (rows.map (entD w.params)).toArray:=fun e he=>by
 obtain⟨r,_,rfl⟩:=List.mem_map.mp (List.mem_toArray.mp he)
 exact⟨.inr r.1,zS prog w r.1 r.2.1,rfl⟩
theorem nodup_D:∀{rows:List (Str×Tok×Value)},(rows.map (·.1)).Nodup->((rows.map keyR).map (·.1)).Nodup:=fun {rows} h=>by
 rw[List.map_map]
 have e:((fun x=>x.1) ∘ keyR)=(fun x:Str=>(Key.inr x:Key)) ∘ (fun r:Str×Tok×Value=>r.1):=rfl
 rw[e, <-List.map_map]
 exact List.Pairwise.map _ (fun a b hab z=>hab (Key.inr.inj z)) h
theorem look_D {k:Str} {v:V}:∀{kvs:List (Str×V)} {rows:List (Str×Tok×Value)},Paired (fun(kv:Str×V) (r:Str×Tok×Value)=>kv.1=r.1/\RelV kv.2 r.2.2) kvs rows->kvs.lookup k=some v->∃u,valueAt (rows.map keyR) (.inr k:Key)=some u/\RelV v u
 |_,_, .nil,e=>by simp at e
 | (a,b)::kvs,r::rows, .cons ⟨e1,e2⟩ q,e=>by
  have e1:a=r.1:=e1
  subst e1
  by_cases h:k=r.1
  ·subst h
   rw[List.lookup_cons,beq_self_eq_true] at e
   cases e
   exact⟨r.2.2,by simp[valueAt,keyR],e2⟩
  ·rw[List.lookup_cons,beq_false_of_ne h] at e
   obtain⟨u,h1,h2⟩:=look_D q e
   refine⟨u, ?_,h2⟩
   unfold valueAt at h1 ⊢
   rw[List.map_cons,List.find?_cons_of_neg]
   ·exact h1
   ·intro z
    exact h (Key.inr.inj (of_decide_eq_true z)).symm
theorem kd_at {nm:Str} {a:Addr} {kvs:List (Str×V)} (D:KDi X.K X.w X.mg nm a kvs) (I:Inv X pins σ H s):∃rows:List (Str×Tok×Value),s.heap.DictOf (qX X.prog X.w) a (rows.map keyR)/\Paired (fun(kv:Str×V) (r:Str×Tok×Value)=>kv.1=r.1/\RelV kv.2 r.2.2) kvs rows:=by
 obtain⟨rows,ep,h1,h2,h3⟩:=D.ex
 exact⟨rows,⟨_,_,ep,I.kIn a _ h1,⟨rfl,rfl,rfl⟩,rfl,keys_D rows,by simpa using XS rows,nodup_D h2⟩,h3⟩
def tKD (kvs:List (Str×V)) (ty:TE):TE:=fun σ H Q=>ty σ H fun y H1=>∃k v,y=.str k/\kvs.lookup k=some v/\Q v H1
theorem pe_kd {nm:Str} {a:Addr} {kvs:List (Str×V)} {i:Expr} {ty:TE} {p pos:Pos} (D:KDi X.K X.w X.mg nm a kvs) (hg:Gl X nm) (hi:PE X i ty) (hs:NoSl i) (hd:(nm==("__debug__" : Str))=false:=by decide):PE X (.Subscript (.Name nm p) i pos) (tKD kvs ty):=by
 intro pins s σ H Q I h
 refine Xm PySem.F.slot_dict_getitem.lookup hs (ku I hg D.g (thn (hi pins s σ H _ I h) fun iv s2 ⟨y,H2,I2,ry,k,v,ey,e,q2⟩=>?_) hd)
 subst ey
 obtain⟨rows,dd,hp⟩:=kd_at D I2
 obtain⟨u,hu,ru⟩:=look_D hp e
 exact⟨dd.typeIs,wpAny_getItem_of (kV_is (k:=.inr k) ry) dd.mapOf hu ⟨v,H2,I2.tok _,ru,q2⟩⟩
theorem qe_kd {nm:Str} {a:Addr} {kvs:List (Str×V)} {i:Expr} {ty:TE} {p pos:Pos} (D:KDi X.K X.w X.mg nm a kvs) (hg:Gl X nm) (hi:QE X i ty) (hs:NoSl i) (hd:(nm==("__debug__" : Str))=false:=by decide):QE X (.Subscript (.Name nm p) i pos) (tKD kvs ty):=⟨pe_kd D hg hi.h hs hd⟩
def uKD (ks:List (Str×T)) (ub:UE):UE:=fun ρ M Q=>ub ρ M fun y M1=>∃k t,y=.p (.str k)/\ks.lookup k=some t/\Q (.p t) M1
theorem Jf {k:Str} {t:T}:∀{kvs:List (Str×V)} {ks:List (Str×T)},Paired (fun(a:Str×V) (b:Str×T)=>a.1=b.1/\Sc a.2 b.2) kvs ks->ks.lookup k=some t->∃v,kvs.lookup k=some v/\Sc v t
 |_,_, .nil,e=>by simp at e
 | (a,b)::kvs,(c,d)::ks, .cons ⟨e1,e2⟩ q,e=>by
  have e1:a=c:=e1
  subst e1
  rw[List.lookup_cons] at e ⊢
  cases h:k==a with
  |true=>rw[h] at e; cases e; exact⟨b,rfl,e2⟩
  |false=>rw[h] at e; exact Jf q e
theorem le_kd {kvs:List (Str×V)} {ks:List (Str×T)} {tb:TE} {ub:UE} (h:Paired (fun(a:Str×V) (b:Str×T)=>a.1=b.1/\Sc a.2 b.2) kvs ks) (hb:LE tb ub):LE (tKD kvs tb) (uKD ks ub):=fun A ι σ H ρ M Qu Q w e q k =>
 hb A ι σ H ρ M _ _ w e q fun y M1 ι1 v H1 l1 w1 r1 ⟨kk,t,ey,el,q1⟩=>by
  subst ey
  cases r1 with
  |p r =>
  cases r
  obtain⟨v,h1,h2⟩:=Jf h el
  exact⟨kk,v,rfl,h1,k _ M1 ι1 _ H1 l1 w1 (.p h2.rep) q1⟩
theorem ce_kd {kvs:List (Str×V)} {ks:List (Str×T)} {tb:TE} {ub:UE} (h:Paired (fun(a:Str×V) (b:Str×T)=>a.1=b.1/\Sc a.2 b.2) kvs ks) (hb:ZE tb ub):ZE (tKD kvs tb) (uKD ks ub):=⟨le_kd h hb.h⟩
end
mutual
def toD:T->PyData
 |.non=>.none
 |.bl b=>.bool b
 |.int i=>.int i
 |.str x=>.str x
 |.tup xs=>.tuple (toDs xs)
 |.lst xs=>.list (toDs xs)
def toDs:List T->List PyData
 | []=>[]
 |x::xs=>toD x::toDs xs
end
mutual
theorem noD:∀t:T,(toD t).hasDict=false
 |.non=>rfl
 |.bl _=>rfl
 |.int _=>rfl
 |.str _=>rfl
 |.tup xs=>noDs xs
 |.lst xs=>noDs xs
theorem noDs:∀ts:List T,PyData.hasDictAll (toDs ts)=false
 | []=>rfl
 |x::xs=>by show((toD x).hasDict||PyData.hasDictAll (toDs xs))=false; rw[noD x,noDs xs]; rfl
end
section
variable {X:Cx} {pins:List (Addr×Obj)} {σ:St} {H:Hp} {s:Shared}
theorem zm {h:Heap}:∀{vs:List V} {ts:List T} {us:List Value},Vals vs us->vs.length=ts.length->(∀(i:Nat) v t,vs[i]?=some v->ts[i]?=some t->∀u,RelV v u->∃as,Reads h u (toD t) as)->∃as,ReadsAll h us (toDs ts) as
 | [], [],_, .nil,_,_=>⟨_, .nil⟩
 |v::vs,t::ts,_, .cons r q,hl,ih=>by
  obtain⟨as,h1⟩:=ih 0 v t rfl rfl _ r
  obtain⟨bs,h2⟩:=zm q (by simpa using hl) fun i v t e1 e2=>ih (i+1) v t (by simpa using e1) (by simpa using e2)
  exact⟨_, .cons h1 h2⟩
theorem j7 {A:Addr->Prop} {v:V} {t:T} (I:Inv X pins σ H s) (r:RepT A H v t):∀u,RelV v u->∃as,Reads s.heap u (toD t) as:=by
 induction r with
 |non=>intro u e; cases e; exact⟨_, .none⟩
 |bl b=>intro u e; cases e; exact⟨_, .bool b⟩
 |int i=>intro u e; obtain⟨t,rfl⟩:=e; exact⟨_, .int i t⟩
 |str x=>intro u e; obtain⟨t,rfl⟩:=e; exact⟨_, .str x t⟩
 |tup na e l r ih =>
  intro u eu
  cases eu
  obtain⟨its,rv,⟨o,h1,h2,n,h3⟩,_⟩:=I.tuple (SqT.of e)
  obtain⟨as,q⟩:=zm (h:=s.heap) rv l ih
  exact⟨_, .tuple h1 h2 h3 (by simpa using q)⟩
 |lst na e l r ih =>
  intro u eu
  cases eu
  obtain⟨its,rv,pl,_⟩:=I.list (SqL.of e)
  obtain⟨o,h1,h2,n,h3⟩:=pl.isList
  obtain⟨as,q⟩:=zm (h:=s.heap) rv l ih
  exact⟨_, .list h1 h2 h3 (by simpa using q)⟩
structure ShowT (t:T):Prop where
 sh:(toD t).showable=true
 dp:(toD t).depth<=60
 sz:(toD t).shown.length<=sizeLine
def rRepr:List V->Hp->VK->Prop:=fun xs H Q=>∃(A:Addr->Prop) (v:V) (t:T),xs=[v]/\RepV A H v t/\ShowT t/\Q (.str (toD t).shown) H
theorem call_repr (hg:X.A.guards=some []) (hu:X.A.units+64<cLine):zY X (.builtin "repr") rRepr:=by
 intro pins s σ H xs us Q I r h
 obtain⟨A,v,t,rfl,rv,ok,q⟩:=h
 obtain⟨u,rfl,ru⟩:=jP r
 have big:∀(a:Addr) (as:List Addr),Reads s.heap (.ref a) (toD t) as->wpAny (model X.prog X.w) X.A (call (.builtin "repr") [.ref a]) (EP X pins σ Q) X.xe s:=fun a as rd =>
  repr_of_reads' rd ok.sh (PyData.noDict_hsm (noD t)) hg (by have:=ok.dp; omega) (fun _ _ e=>e) (fun h' u tk hk=>⟨.str _,H,I.kept (t':=tk) hk,⟨_,rfl⟩,q⟩) ok.sz
 cases rv with
 |of r =>
  obtain⟨as,rd⟩:=j7 I r u ru
  cases r with
  |non=>cases ru; exact PySem.P.repr_of_none ⟨.str _,H,I.tok _,⟨_,rfl⟩,q⟩
  |bl b=>cases ru; exact PySem.P.repr_of_bool ⟨.str _,H,I.tok _,⟨_,rfl⟩,q⟩
  |int i =>
   obtain⟨t,rfl⟩:=ru
   exact PySem.P.repr_of_int (of_decide_eq_true ok.sh) ⟨.str _,H,I.tok _,⟨_,rfl⟩,q⟩
  |str x =>
   obtain⟨t,rfl⟩:=ru
   exact PySem.P.repr_of_str ⟨.str _,H,I.tok _,⟨_,rfl⟩,q⟩ ok.sz
  |tup=>cases ru; exact big _ _ rd
  |lst=>cases ru; exact big _ _ rd
 |lst e rr =>
  cases ru
  obtain⟨its,rv,pl,_⟩:=I.list (SqL.of e)
  obtain⟨o,h1,h2,n,h3⟩:=pl.isList
  obtain⟨as,q⟩:=zm (h:=s.heap) rv rr.len fun i v t e1 e2=>j7 I (Paired.get2 rr e1 e2)
  exact big _ _ (.list h1 h2 h3 (by simpa using q))
 |tup e rr =>
  cases ru
  obtain⟨its,rv,⟨o,h1,h2,n,h3⟩,_⟩:=I.tuple (SqT.of e)
  obtain⟨as,q⟩:=zm (h:=s.heap) rv rr.len fun i v t e1 e2=>j7 I (Paired.get2 rr e1 e2)
  exact big _ _ (.tuple h1 h2 h3 (by simpa using q))
def sRepr:List T->(T->Prop)->Prop:=fun ts Q=>∃t,ts=[t]/\ShowT t/\Q (.str (toD t).shown)
theorem cbl_repr:CbL rRepr sRepr:=fun A ι H M vs ts Qs Q w r ⟨t,e,ok,q⟩ k=>by
 subst e
 obtain⟨v,ev,r1⟩:=pv1 r
 subst ev
 exact⟨_,v,t,rfl,r1,ok,k _ ι _ H (.refl _ _) w (.str _) q⟩
theorem rd_repr {t:T} {Q:T->Prop}:sRepr [t] Q=(ShowT t/\Q (.str (toD t).shown)):=propext ⟨fun⟨_,e,h⟩=>by cases e; exact h,fun h=>⟨t,rfl,h⟩⟩
theorem b_repr:bootBuiltins "repr" = some (.builtin "repr"):=by decide +kernel
end
section
theorem xU {A:Addr->Prop} {H:Hp}:∀zs:List Str,RepTs A H (zG zs) (zs.map T.str)
 | []=>.nil
 |z::zs=>.cons (.str z) (xU zs)
end
structure Nx (P:Program) (w:World) (it:Addr) (rd:List Addr) (st:Nat->Heap->Prop) (n:Nat) (yl:Nat->Value->Prop):Prop where
 keep:∀i h h',st i h->(∀c∈rd,∀o,h.get? c=some o->h'.get? c=some o)->st i h'
 here:∀i h,st i h->∃o,h.get? it=some o
 mem:it∈rd
 item:∀(A:Around) (E:Value->Shared->Prop) (s:Shared) (i:Nat) (Q:Value->Shared->Prop),st i s.heap->i<n->(∀h' x tk,yl i x->st (i+1) h'->Heap.SameBut it s.heap h'->Q x { s with heap:=h',toks:=tk })->wpAny (model P w) A (Builtin.SmallTypes.nextOf (.ref it)) Q E s
 fin:∀(A:Around) (E:Value->Shared->Prop) (s:Shared) (i:Nat) (Q:Value->Shared->Prop),A.handled=none->st i s.heap->n<=i->(∀h' e,Heap.ExtBut it s.heap h'->(∃o,h'.get? e=some o/\o.cls=.type "StopIteration")->E (.ref e) { s with heap:=h' })->wpAny (model P w) A (Builtin.SmallTypes.nextOf (.ref it)) Q E s
section
variable {P:Program} {w:World} {A:Around} {E:Value->Shared->Prop} {s:Shared}
theorem X0 {it l:Addr} {vs:List Value} (ne:l≠it):Nx P w it [it,l] (fun i h=>h.IsListIter it l i/\h.IsList l vs.toArray) vs.length (fun i x=>vs[i]?=some x) where
 keep:=fun i h h' st k=>⟨st.1.at fun o e=>k it (by simp) o e,st.2.at fun o e=>k l (by simp) o e⟩
 here:=fun i h st=>let⟨⟨o,e,_⟩,_⟩:=st; ⟨o,e⟩
 mem:=by simp
 item:=fun A E s i Q st hi q=>wpAny_nextOf_list_item (x:=vs[i]) st.1 st.2 (by simp[hi]) fun h' a b=>q h' _ s.toks (List.getElem?_eq_getElem hi) ⟨a,st.2.extBut b.extBut ne⟩ b
 fin:=fun A E s i Q hh st hx q=>wpAny_nextOf_list_end hh st.1 st.2 (by simpa using hx) q
theorem next_tup {it t:Addr} {i:Nat} {items:Array Value} {x:Value} {Q:Value->Shared->Prop} (hi:s.heap.IsTupleIter it t i) (ht:s.heap.IsTuple t items) (hx:items[i]?=some x) (q:∀h',h'.IsTupleIter it t (i+1)->Heap.SameBut it s.heap h'->Q x { s with heap:=h' }) :
  wpAny (model P w) A (Builtin.SmallTypes.nextOf (.ref it)) Q E s:=by
 obtain⟨oi,e1,c1,d1⟩:=id hi
 obtain⟨ot,e2,_,nt,d2⟩:=ht
 unfold Builtin.SmallTypes.nextOf
 refine wpAny_bind (wpAny_callSpecial?_slot (name:=Str.ofString "__next__") hi.typeIs F.slot_tuple_iterator_next (wpAny_call_entry F.slot_tuple_iterator_next hi.typeIs F.entry_tuple_iterator_next ?_ (F.args_tuple_iterator_next_1 _)))
 refine(show wpAny (model P w) _ (field (.ref it) 0 >>= _) _ E s from wpAny_bind (wpAny_field e1 d1 (x:=.ref t) rfl ?_))
 have nn:¬((Value.ref t==Value.none)=true):=Bool.false_ne_true
 show wpAny (model P w) _ (if(Value.ref t==Value.none)=true then _ else _) _ E s
 rw[if_neg nn]
 refine(show wpAny (model P w) _ (field (.ref it) 1 >>= _) _ E s from wpAny_bind (wpAny_field e1 d1 (x:=.int i 0) rfl ?_))
 refine(show wpAny (model P w) _ (seqItems? (.ref t) >>= _) _ E s from wpAny_bind (wpAny_seqItems e2 d2 ?_))
 simp only[Int.toNat_natCast,hx]
 refine wpAny_bind (wpAny_setField e1 d1 (by simp) (wpAny_pure ⟨x,rfl,wpAny_pure (q _ ⟨_,Heap.get?_update_self _ e1 (Obj.isFreed_of_fields (Obj.data_mapFields d1 _)),(Obj.cls_mapFields ..).trans c1,by rw[Obj.data_mapFields d1]; simp[rawInt]⟩ (Heap.SameBut.update ..))⟩))
theorem QC {it t:Addr} {i:Nat} {items:Array Value} {Q:Value->Shared->Prop} (hh:A.handled=none) (hi:s.heap.IsTupleIter it t i) (ht:s.heap.IsTuple t items) (hx:items[i]?=none) (q:∀h' e,Heap.ExtBut it s.heap h'->(∃o,h'.get? e=some o/\o.cls=.type "StopIteration")->E (.ref e) { s with heap:=h' }) :
  wpAny (model P w) A (Builtin.SmallTypes.nextOf (.ref it)) Q E s:=by
 obtain⟨oi,e1,c1,d1⟩:=id hi
 obtain⟨ot,e2,_,nt,d2⟩:=ht
 unfold Builtin.SmallTypes.nextOf
 refine wpAny_bind (wpAny_callSpecial?_slot (name:=Str.ofString "__next__") hi.typeIs F.slot_tuple_iterator_next (wpAny_call_entry F.slot_tuple_iterator_next hi.typeIs F.entry_tuple_iterator_next ?_ (F.args_tuple_iterator_next_1 _)))
 refine(show wpAny (model P w) _ (field (.ref it) 0 >>= _) _ E s from wpAny_bind (wpAny_field e1 d1 (x:=.ref t) rfl ?_))
 have nn:¬((Value.ref t==Value.none)=true):=Bool.false_ne_true
 show wpAny (model P w) _ (if(Value.ref t==Value.none)=true then _ else _) _ E s
 rw[if_neg nn]
 refine(show wpAny (model P w) _ (field (.ref it) 1 >>= _) _ E s from wpAny_bind (wpAny_field e1 d1 (x:=.int i 0) rfl ?_))
 refine(show wpAny (model P w) _ (seqItems? (.ref t) >>= _) _ E s from wpAny_bind (wpAny_seqItems e2 d2 ?_))
 simp only[Int.toNat_natCast,hx]
 refine wpAny_bind (wpAny_rule (wpAny_bind (wpAny_setField e1 d1 (by simp) ?_)))
 refine(show wpAny (model P w) _ (newExc (.type "StopIteration") [] >>= _) _ E _ from wpAny_bind ?_)
 simp only[newExc,newTuple]
 refine wpAny_bind (wpAny_newObj_type ?_ (by size_fits))
 refine wpAny_bind (m:=firstArgMember _ _) (wpAny_of_eq (a:=Value.none) (by first|rfl|(simp only[firstArgMember]; rfl)) (wpAny_newObj_type ?_ (by size_fits)))
 simp only[raiseNew]
 refine wpAny_bind (wpAny_handled ?_)
 first|rw[show A.in1.handled=none from hh]|rw[hh]
 exact wpAny_bind (wpAny_pure (wpAny_throw (q _ _ (((Heap.SameBut.update ..).extBut.push _).push _) ⟨_,Heap.get?_push_size _ rfl,rfl⟩)))
theorem nx_tup {it l:Addr} {vs:List Value} (ne:l≠it):Nx P w it [it,l] (fun i h=>h.IsTupleIter it l i/\h.IsTuple l vs.toArray) vs.length (fun i x=>vs[i]?=some x) where
 keep:=fun i h h' st k=>⟨let⟨o,e,r⟩:=st.1; ⟨o,k it (by simp) o e,r⟩,let⟨o,e,r⟩:=st.2; ⟨o,k l (by simp) o e,r⟩⟩
 here:=fun i h st=>let⟨⟨o,e,_⟩,_⟩:=st; ⟨o,e⟩
 mem:=by simp
 item:=fun A E s i Q st hi q=>next_tup (x:=vs[i]) st.1 st.2 (by simp[hi]) fun h' a b=>q h' _ s.toks (List.getElem?_eq_getElem hi) ⟨a,st.2.extBut b.extBut ne⟩ b
 fin:=fun A E s i Q hh st hx q=>QC hh st.1 st.2 (by simpa using hx) q
structure ZA5 (z TI TO i1 i2:Addr) (rd1 rd2:List Addr):Prop where
 a:TI≠z/\TO≠z/\i1≠z/\i2≠z/\TI≠TO/\TI≠i1/\TI≠i2/\TO≠i1/\TO≠i2/\i1≠i2
 r1:z∉rd1/\TO∉rd1/\i2∉rd1
 r2:z∉rd2/\TO∉rd2/\i1∉rd2
theorem zip_it {z TI TO i1 i2:Addr} {rd1 rd2:List Addr} {st1 st2:Nat->Heap->Prop} {n1 n2:Nat} {yl1 yl2:Nat->Value->Prop} {k:Nat} {a b:Value} {Q:Value->Shared->Prop} (D:ZA5 z TI TO i1 i2 rd1 rd2) (N1:Nx P w i1 rd1 st1 n1 yl1) (N2:Nx P w i2 rd2 st2 n2 yl2)
  (hz:IsZip s.heap z TI TO .none) (hI:IsPair s.heap TI (.ref i1) (.ref i2)) (hO:IsPair s.heap TO a b) (h1:st1 k s.heap) (h2:st2 k s.heap) (hx:k<n1) (hy:k<n2)
  (q:∀h' x y tk,yl1 k x->yl2 k y->IsZip h' z TI TO (rawInt s.heap.objs.size)->IsPair h' TO x y->st1 (k+1) h'->st2 (k+1) h'->IsPair h' s.heap.objs.size x y->h'.objs.size=s.heap.objs.size+1->(∀c o,c≠z->c≠TO->c≠i1->c≠i2->s.heap.get? c=some o->h'.get? c=some o)->Q (.ref s.heap.objs.size) { s with heap:=h',toks:=tk }) :
  wpAny (model P w) A (Builtin.«zip.__next__» ⟨[.ref z], []⟩) (fun fin s'=>∃v,fin=.done (.ret v)/\Q v s') E s:=by
 obtain⟨d1,d2,d3,d4,d5,d6,d7,d8,d9,d10⟩:=D.a
 have nr1:∀{c},c∈rd1->c≠z/\c≠TO/\c≠i2:=fun hc=>⟨fun e=>D.r1.1 (e▸hc),fun e=>D.r1.2.1 (e▸hc),fun e=>D.r1.2.2 (e▸hc)⟩
 have nr2:∀{c},c∈rd2->c≠z/\c≠TO/\c≠i1:=fun hc=>⟨fun e=>D.r2.1 (e▸hc),fun e=>D.r2.2.1 (e▸hc),fun e=>D.r2.2.2 (e▸hc)⟩
 refine(show wpAny (model P w) A (field (.ref z) 2 >>= _) _ E s from wpAny_bind (wpAny_field hz rfl (x:=.bool false) rfl ?_))
 refine(show wpAny (model P w) A (field (.ref z) 3 >>= _) _ E s from wpAny_bind (wpAny_field hz rfl (x:=.ref TI) rfl (wpAny_bind (wpAny_seqItems hI rfl ?_))))
 refine(show wpAny (model P w) A (Builtin.SmallTypes.ownedTupleIsFree (.ref z) >>= _) _ E s from wpAny_bind ?_)
 unfold Builtin.SmallTypes.ownedTupleIsFree
 refine wpAny_bind (wpAny_field hz rfl (x:=.none) rfl (wpAny_pure ?_))
 simp only[if_true]
 refine wpAny_bind (wpAny_rule (wpAny_bind (wpAny_field hz rfl (x:=.ref TO) rfl (wpAny_bind (wpAny_setField_rec hz (by simp) fun g1 z1 s1=>?_)))))
 replace z1:IsZip g1 z TI TO .ellipsis:=z1
 refine wpAny_bind ?_
 simp only[List.zipIdx_cons,List.zipIdx_nil,List.forIn_cons,List.forIn_nil]
 refine wpAny_bind (wpAny_bind (wpAny_onRaise ?_))
 refine(show wpAny (model P w) A (Builtin.SmallTypes.nextOf (.ref i1) >>= _) _ _ _ from wpAny_bind (N1.item _ _ _ k _ (N1.keep _ _ _ h1 fun c hc o e=>s1.extBut _ _ (nr1 hc).1 e) hx fun g2 x tk1 yx t1 s2=>wpAny_pure ?_))
 have o2:IsPair g2 TO a b:=s2.extBut _ _ d8 (s1.extBut _ _ d2 hO)
 refine wpAny_bind (wpAny_seqItems o2 rfl (wpAny_bind (wpAny_updateSeq_pair o2 fun g3 o3 s3=>?_)))
 replace o3:IsPair g3 TO x b:=o3
 refine wpAny_bind (wpAny_letGo (wpAny_pure (wpAny_bind (wpAny_bind (wpAny_onRaise ?_)))))
 refine(show wpAny (model P w) A (Builtin.SmallTypes.nextOf (.ref i2) >>= _) _ _ _ from wpAny_bind (N2.item _ _ _ k _ (N2.keep _ _ _ h2 fun c hc o e=>s3.extBut _ _ (nr2 hc).2.1 (s2.extBut _ _ (nr2 hc).2.2 (s1.extBut _ _ (nr2 hc).1 e))) hy fun g4 y tk2 yy t2 s4=>wpAny_pure ?_))
 have o4:IsPair g4 TO x b:=s4.extBut _ _ d9 o3
 refine wpAny_bind (wpAny_seqItems o4 rfl (wpAny_bind (wpAny_updateSeq_pair o4 fun g5 o5 s5=>?_)))
 replace o5:IsPair g5 TO x y:=o5
 refine wpAny_bind (wpAny_letGo (wpAny_pure (wpAny_pure (wpAny_bind (wpAny_seqItems o5 rfl (wpAny_bind (wpAny_newTuple ?_)))))))
 have sz:g5.objs.size=s.heap.objs.size:=by rw[s5.1,s4.1,s3.1,s2.1,s1.1]
 have z5:IsZip g5 z TI TO .ellipsis:=s5.extBut _ _ d2.symm (s4.extBut _ _ d4.symm (s3.extBut _ _ d2.symm (s2.extBut _ _ d3.symm z1)))
 have k5:∀c o,c≠z->c≠TO->c≠i1->c≠i2->s.heap.get? c=some o->g5.get? c=some o:=fun c o c1 c2 c3 c4 e=>s5.extBut _ _ c2 (s4.extBut _ _ c4 (s3.extBut _ _ c2 (s2.extBut _ _ c3 (s1.extBut _ _ c1 e))))
 have u1:st1 (k+1) g5:=N1.keep _ _ _ t1 fun c hc o e=>s5.extBut _ _ (nr1 hc).2.1 (s4.extBut _ _ (nr1 hc).2.2 (s3.extBut _ _ (nr1 hc).2.1 e))
 have u2:st2 (k+1) g5:=N2.keep _ _ _ t2 fun c hc o e=>s5.extBut _ _ (nr2 hc).2.1 e
 have lz:z<g5.objs.size:=Heap.lt_size z5
 refine(show wpAny (model P w) A (Builtin.SmallTypes.ownedTupleHandOut (.ref z) (.ref g5.objs.size) >>= _) _ E _ from wpAny_bind ?_)
 unfold Builtin.SmallTypes.ownedTupleHandOut
 have z6:IsZip (g5.push { cls:=.type "tuple", data:=.seq #[x,y] }) z TI TO .ellipsis:=Heap.get?_push_of_some _ z5
 refine wpAny_bind (wpAny_setField_rec z6 (by simp) fun g7 z7 s7=>?_)
 replace z7:IsZip g7 z TI TO (rawInt g5.objs.size):=z7
 refine wpAny_setField_rec z7 (by simp) fun g8 z8 s8=>?_
 replace z8:IsZip g8 z TI TO (rawInt g5.objs.size):=z8
 have up:∀c o,c≠z->g5.get? c=some o->g8.get? c=some o:=fun c o c1 e=>s8.extBut _ _ c1 (s7.extBut _ _ c1 (Heap.get?_push_of_some _ e))
 have T8:IsPair g8 g5.objs.size x y:=s8.extBut _ _ (Nat.ne_of_gt lz) (s7.extBut _ _ (Nat.ne_of_gt lz) (Heap.get?_push_size _ rfl))
 have e8:g8.objs.size=g5.objs.size+1:=by rw[s8.1,s7.1,Heap.size_push]
 rw[sz] at z8 T8 e8
 refine wpAny_pure ⟨_,rfl, ?_⟩
 show Q (.ref g5.objs.size) _
 rw[sz]
 exact q g8 x y tk2 yx yy z8 (up _ _ d2 o5) (N1.keep _ _ _ u1 fun c hc o e=>up c o (nr1 hc).1 e) (N2.keep _ _ _ u2 fun c hc o e=>up c o (nr2 hc).1 e) T8 e8 fun c o c1 c2 c3 c4 e=>up c o c1 (k5 c o c1 c2 c3 c4 e)
theorem zip_fin {z TI TO i1 i2:Addr} {rd1 rd2:List Addr} {st1 st2:Nat->Heap->Prop} {n1 n2:Nat} {yl1 yl2:Nat->Value->Prop} {k:Nat} {a b:Value} {Q:PySem.Fin->Shared->Prop} (hh:A.handled=none) (D:ZA5 z TI TO i1 i2 rd1 rd2) (N1:Nx P w i1 rd1 st1 n1 yl1) (N2:Nx P w i2 rd2 st2 n2 yl2)
  (hz:IsZip s.heap z TI TO .none) (hI:IsPair s.heap TI (.ref i1) (.ref i2)) (hO:IsPair s.heap TO a b) (h1:st1 k s.heap) (h2:st2 k s.heap) (he:n1<=k\/n2<=k)
  (q:∀h' e tk,(∀c o,c≠z->c≠TO->c≠i1->c≠i2->s.heap.get? c=some o->h'.get? c=some o)->(∃o,h'.get? e=some o/\o.cls=.type "StopIteration")->E (.ref e) { s with heap:=h',toks:=tk }) :
  wpAny (model P w) A (Builtin.«zip.__next__» ⟨[.ref z], []⟩) Q E s:=by
 obtain⟨d1,d2,d3,d4,d5,d6,d7,d8,d9,d10⟩:=D.a
 have nr1:∀{c},c∈rd1->c≠z/\c≠TO/\c≠i2:=fun hc=>⟨fun e=>D.r1.1 (e▸hc),fun e=>D.r1.2.1 (e▸hc),fun e=>D.r1.2.2 (e▸hc)⟩
 have nr2:∀{c},c∈rd2->c≠z/\c≠TO/\c≠i1:=fun hc=>⟨fun e=>D.r2.1 (e▸hc),fun e=>D.r2.2.1 (e▸hc),fun e=>D.r2.2.2 (e▸hc)⟩
 refine(show wpAny (model P w) A (field (.ref z) 2 >>= _) _ E s from wpAny_bind (wpAny_field hz rfl (x:=.bool false) rfl ?_))
 refine(show wpAny (model P w) A (field (.ref z) 3 >>= _) _ E s from wpAny_bind (wpAny_field hz rfl (x:=.ref TI) rfl (wpAny_bind (wpAny_seqItems hI rfl ?_))))
 refine(show wpAny (model P w) A (Builtin.SmallTypes.ownedTupleIsFree (.ref z) >>= _) _ E s from wpAny_bind ?_)
 unfold Builtin.SmallTypes.ownedTupleIsFree
 refine wpAny_bind (wpAny_field hz rfl (x:=.none) rfl (wpAny_pure ?_))
 simp only[if_true]
 refine wpAny_bind (wpAny_rule (wpAny_bind (wpAny_field hz rfl (x:=.ref TO) rfl (wpAny_bind (wpAny_setField_rec hz (by simp) fun g1 z1 s1=>?_)))))
 replace z1:IsZip g1 z TI TO .ellipsis:=z1
 refine wpAny_bind ?_
 simp only[List.zipIdx_cons,List.zipIdx_nil,List.forIn_cons,List.forIn_nil]
 refine wpAny_bind (wpAny_bind (wpAny_onRaise ?_))
 have k1:=N1.keep _ _ g1 h1 fun c hc o e=>s1.extBut _ _ (nr1 hc).1 e
 by_cases hx:n1<=k
 ·refine(show wpAny (model P w) A (Builtin.SmallTypes.nextOf (.ref i1) >>= _) _ _ _ from wpAny_bind (N1.fin _ _ _ k _ hh k1 hx fun g2 e s2 ee=>?_))
  obtain⟨oe,hoe,hce⟩:=ee
  have z2:IsZip g2 z TI TO .ellipsis:=s2 _ _ d3.symm z1
  have ez:e≠z:=fun x=>by subst x; rw[z2] at hoe; cases hoe; simp at hce
  exact wpAny_setField_rec z2 (by simp) fun g3 _ s3=>q g3 e _ (fun c o c1 _ c3 _ x=>s3.extBut _ _ c1 (s2 _ _ c3 (s1.extBut _ _ c1 x))) ⟨oe,s3.extBut _ _ ez hoe,hce⟩
 ·have hy:n2<=k:=he.elim (fun h=>absurd h hx) id
  refine(show wpAny (model P w) A (Builtin.SmallTypes.nextOf (.ref i1) >>= _) _ _ _ from wpAny_bind (N1.item _ _ _ k _ k1 (by omega) fun g2 x tk1 yx t1 s2=>wpAny_pure ?_))
  have o2:IsPair g2 TO a b:=s2.extBut _ _ d8 (s1.extBut _ _ d2 hO)
  refine wpAny_bind (wpAny_seqItems o2 rfl (wpAny_bind (wpAny_updateSeq_pair o2 fun g3 o3 s3=>wpAny_bind (wpAny_letGo (wpAny_pure (wpAny_bind (wpAny_bind (wpAny_onRaise ?_))))))))
  refine(show wpAny (model P w) A (Builtin.SmallTypes.nextOf (.ref i2) >>= _) _ _ _ from wpAny_bind (N2.fin _ _ _ k _ hh (N2.keep _ _ _ h2 fun c hc o e=>s3.extBut _ _ (nr2 hc).2.1 (s2.extBut _ _ (nr2 hc).2.2 (s1.extBut _ _ (nr2 hc).1 e))) hy fun g4 e s4 ee=>?_))
  obtain⟨oe,hoe,hce⟩:=ee
  have z4:IsZip g4 z TI TO .ellipsis:=s4 _ _ d4.symm (s3.extBut _ _ d2.symm (s2.extBut _ _ d3.symm z1))
  have ez:e≠z:=fun x=>by subst x; rw[z4] at hoe; cases hoe; simp at hce
  exact wpAny_setField_rec z4 (by simp) fun g5 _ s5=>q g5 e _ (fun c o c1 c2 c3 c4 x=>s5.extBut _ _ c1 (s4 _ _ c4 (s3.extBut _ _ c2 (s2.extBut _ _ c3 (s1.extBut _ _ c1 x))))) ⟨oe,s5.extBut _ _ ez hoe,hce⟩
end
section
def SqB (b:Bool) (K:PySem.W.Frag) (H:Hp) (a:Addr) (xs:List V):Prop:=match b with
 |true=>SqL K H a xs
 |false=>SqT K H a xs
def ItB (b:Bool) (h:Heap) (it a:Addr) (i:Nat):Prop:=match b with
 |true=>h.IsListIter it a i
 |false=>h.IsTupleIter it a i
theorem ItB.ex {b:Bool} {h:Heap} {it a:Addr} {i:Nat} (x:ItB b h it a i):∃o vs,h.get? it=some o/\o.data=.fields vs:=by
 cases b
 ·obtain⟨o,e,_,d⟩:=(show h.IsTupleIter it a i from x); exact⟨o,_,e,d⟩
 ·obtain⟨o,e,_,d⟩:=(show h.IsListIter it a i from x); exact⟨o,_,e,d⟩
theorem ItB.at {b:Bool} {h h':Heap} {it a:Addr} {i:Nat} (x:ItB b h it a i) (k:∀o,h.get? it=some o->h'.get? it=some o):ItB b h' it a i:=by
 cases b
 ·obtain⟨o,e,r⟩:=(show h.IsTupleIter it a i from x); exact⟨o,k o e,r⟩
 ·obtain⟨o,e,r⟩:=(show h.IsListIter it a i from x); exact⟨o,k o e,r⟩
def ItzS (S1 S2:Hp->List V->Prop):It :=
 ⟨fun i H=>∃xs ys x y,S1 H xs/\S2 H ys/\xs[i]?=some x/\ys[i]?=some y,
   fun i H x H'=>∃p u v,x=.ref p/\H p=none/\H'=upd H p (.tup [u,v])/\∀xs ys,S1 H xs->S2 H ys->xs[i]?=some u/\ys[i]?=some v,
   fun i H=>∃xs ys,S1 H xs/\S2 H ys/\(xs.length<=i\/ys.length<=i)⟩
def Itz (K:PySem.W.Frag) (b1 b2:Bool) (a1 a2:Addr):It:=ItzS (fun H xs=>SqB b1 K H a1 xs) (fun H xs=>SqB b2 K H a2 xs)
structure Sx (P:Program) (w:World) (K:PySem.W.Frag) (S:Hp->List V->Prop) (it:Addr) (rd:List Addr) (J:Nat->Heap->Prop):Prop where
 nx:∀{X:Cx} {pins:List (Addr×Obj)} {σ:St} {H:Hp} {s:Shared} {xs:List V},X.prog=P->X.w=w->X.K=K->Inv X pins σ H s->S H xs->∃(yl:Nat->Value->Prop) (st:Nat->Heap->Prop),(∀i u,yl i u->∃x,xs[i]?=some x/\RelV x u)/\Nx P w it rd st xs.length yl/\(∀i,J i s.heap->st i s.heap)/\∀i h,st i h->J i h
 inj:∀{X:Cx} {pins:List (Addr×Obj)} {σ:St} {H:Hp} {s:Shared} {xs ys:List V},X.K=K->Inv X pins σ H s->S H xs->S H ys->xs=ys
 ex:∀{i:Nat} {h:Heap},J i h->∃o vs,h.get? it=some o/\o.data=.fields vs
 ke:∀{i:Nat} {h h':Heap},J i h->(∀o,h.get? it=some o->h'.get? it=some o)->J i h'
theorem sx_B {P:Program} {w:World} {K:PySem.W.Frag} {b:Bool} {a it:Addr} (ne:a≠it):Sx P w K (fun H xs=>SqB b K H a xs) it [it,a] (fun i h=>ItB b h it a i) where
 nx:=fun {X pins σ H s xs} hP hw hK I hq=>by
  subst hP hw hK
  cases b
  ·obtain⟨its,rv,p,_⟩:=I.tuple hq
   have hl:=rv.length
   exact⟨_,_,fun i u e=>Paired.getR rv e,hl▸nx_tup ne,fun i h=>⟨h,p⟩,fun i h st=>st.1⟩
  ·obtain⟨its,rv,p,_⟩:=I.list hq
   have hl:=rv.length
   exact⟨_,_,fun i u e=>Paired.getR rv e,hl▸X0 ne,fun i h=>⟨h,p.isList⟩,fun i h st=>st.1⟩
 inj:=fun {X pins σ H s xs ys} hK I h h'=>by
  subst hK
  cases b
  ·exact I.tuple_inj h h'
  ·exact I.list_inj h h'
 ex:=fun h=>h.ex
 ke:=fun h k=>h.at k
theorem Inv.turnedL {X:Cx} {pins:List (Addr×Obj)} {σ:St} {H:Hp} {s:Shared} {h':Heap} {t':Nat} {fp:List Addr} {a:Addr} {o:HO} (I:Inv X pins σ H s) (k:∀b u,b∉fp->s.heap.get? b=some u->h'.get? b=some u) (ff:∀b∈fp,FpOk X pins H b)
  (hp:s.heap.objs.size<=a) (new:ObjOk X.prog X.w (upd H a o) h' a o):Inv X pins σ (upd H a o) { s with heap:=h',toks:=t' }:=by
 have hn:=I.hok.fresh hp
 have na:∀b u,s.heap.get? b=some u->b≠a:=fun b u q z=>by
  have:=Heap.lt_size q
  subst z
  exact absurd (Nat.lt_of_lt_of_le this hp) (Nat.lt_irrefl _)
 have nf:∀b u,H b=some u->b∉fp:=fun b u q z=>by rw[(ff b z).1] at q; cases q
 refine I.step (g':=s.gens) (d':=s.drawn) (ch:=fp) (fun b hb=>?_) (fun b u _ _ c q _=>k b u c q) (fun b u _ _ c q _=>⟨u.slots,k b u c q⟩) (fun b u _ q n=>by rw[upd_ne (na b u q)]; exact n)
  (fun b u c q=>⟨u,k b u c q⟩) (fun b xs q=>vq hn q) (fun b _ _ q=>vq hn q) (fun b ps q=>⟨#[],by rw[vq hn q]; simp⟩) (fun m hm=>?_) (fun b u q=>?_) I.bare
 ·have f:=ff b hb
  exact⟨f.2.2.2.1,f.2.1,f.2.2.2.2.1,f.2.2.2.2.2⟩
 ·obtain⟨o,es,ep,ho,r⟩:=hm
  exact⟨o,es,ep,k _ o (fun z=>(ff _ z).2.1 rfl) ho,r⟩
 ·by_cases hb:b=a
  ·subst hb; rw[upd_same] at q; cases q; exact new
  ·rw[upd_ne hb] at q
   refine(I.hok b u q).stay (fun c v hcc qq=>?_) (fun c qq=>vq hn qq) fun c xs qq=>vq hn qq
   rcases hcc with z|z
   ·subst z; exact k c v (nf c u q) qq
   ·exact k c v (nf c _ z) qq
theorem Inv.stopL {X:Cx} {pins:List (Addr×Obj)} {σ:St} {H:Hp} {s:Shared} {h':Heap} {t':Nat} {fp:List Addr} (I:Inv X pins σ H s) (k:∀b u,b∉fp->s.heap.get? b=some u->h'.get? b=some u) (ff:∀b∈fp,FpOk X pins H b):Inv X pins σ H { s with heap:=h',toks:=t' }:=by
 have nf:∀b u,H b=some u->b∉fp:=fun b u q z=>by rw[(ff b z).1] at q; cases q
 refine I.step (g':=s.gens) (d':=s.drawn) (ch:=fp) (fun b hb=>?_) (fun b u _ _ c q _=>k b u c q) (fun b u _ _ c q _=>⟨u.slots,k b u c q⟩) (fun b u _ q n=>n)
  (fun b u c q=>⟨u,k b u c q⟩) (fun b xs q=>q) (fun b _ _ q=>q) (fun b ps q=>⟨#[],by rw[q]; simp⟩) (fun m hm=>?_) (fun b u q=>?_) I.bare
 ·have f:=ff b hb
  exact⟨f.2.2.2.1,f.2.1,f.2.2.2.2.1,f.2.2.2.2.2⟩
 ·obtain⟨o,es,ep,ho,r⟩:=hm
  exact⟨o,es,ep,k _ o (fun z=>(ff _ z).2.1 rfl) ho,r⟩
 ·refine(I.hok b u q).stay (fun c v hcc qq=>?_) (fun c qq=>qq) fun c xs qq=>qq
  rcases hcc with z|z
  ·subst z; exact k c v (nf c u q) qq
  ·exact k c v (nf c _ z) qq
def ZTn (rd1 rd2:List Addr) (J1 J2:Nat->Heap->Prop) (z TI TO i1 i2:Addr) (i:Nat) (h:Heap):Prop:=ZA5 z TI TO i1 i2 rd1 rd2/\IsZip h z TI TO .none/\IsPair h TI (.ref i1) (.ref i2)/\(∃a b,IsPair h TO a b)/\J1 i h/\J2 i h
theorem turn_zip {P:Program} {w:World} {K:PySem.W.Frag} {elts:List Expr} {kk:_} {pos:Pos} {S1 S2:Hp->List V->Prop} {rd1 rd2:List Addr} {J1 J2:Nat->Heap->Prop} (z TI TO i1 i2:Addr) (Y1:Sx P w K S1 i1 rd1 J1) (Y2:Sx P w K S2 i2 rd2 J2):Turn P w K (.Tuple elts kk pos) (ItzS S1 S2) [z,TI,TO,i1,i2] z (ZTn rd1 rd2 J1 J2 z TI TO i1 i2) where
 mem:=by simp
 obj:=fun i h ⟨_,hz,hI,⟨a,b,hO⟩,h1,h2⟩ c hc=>by
  have fl:∀{o:Obj} {vs:Array Value},o.data=.fields vs->∀v,o.data ≠ .cell v:=fun d v e=>by rw[d] at e; cases e
  have sq:∀{o:Obj} {vs:Array Value} {n:Nat},o.data=.seq vs n->∀v,o.data ≠ .cell v:=fun d v e=>by rw[d] at e; cases e
  simp only[List.mem_cons,List.not_mem_nil,or_false] at hc
  rcases hc with rfl|rfl|rfl|rfl|rfl
  ·exact⟨_,hz,fl rfl⟩
  ·exact⟨_,hI,sq rfl⟩
  ·exact⟨_,hO,sq rfl⟩
  ·obtain⟨o,vs,e,d⟩:=Y1.ex h1; exact⟨o,e,fl d⟩
  ·obtain⟨o,vs,e,d⟩:=Y2.ex h2; exact⟨o,e,fl d⟩
 keep:=fun i h h' ⟨D,hz,hI,⟨a,b,hO⟩,h1,h2⟩ k=>⟨D,k z (by simp) _ hz,k TI (by simp) _ hI,⟨a,b,k TO (by simp) _ hO⟩,Y1.ke h1 fun o e=>k i1 (by simp) o e,Y2.ke h2 fun o e=>k i2 (by simp) o e⟩
 item:=by
  intro X hP hw hK hc i pins s σ H E I hf st hg
  subst hP hw hK
  obtain⟨D,hz,hI,⟨a,b,hO⟩,h1,h2⟩:=st
  obtain⟨xs,ys,x,y,q1,q2,hx,hy⟩:=hg
  obtain⟨ix,t1,r1,N1,in1,out1⟩:=Y1.nx rfl rfl rfl I q1
  obtain⟨iy,t2,r2,N2,in2,out2⟩:=Y2.nx rfl rfl rfl I q2
  have lx:=(List.getElem?_eq_some_iff.mp hx).1
  have ly:=(List.getElem?_eq_some_iff.mp hy).1
  have hT:s.TypeIs (.ref z) "zip" := ⟨_,hz,rfl⟩
  unfold pyNext
  refine wpAny_bind (wpAny_attempt (wpAny_callSpecial?_slot (name:=Str.ofString "__next__") hT F.slot_zip_next (wpAny_call_entry F.slot_zip_next hT F.entry_zip_next (zip_it D N1 N2 hz hI hO (in1 i h1) (in2 i h2) lx ly fun h' u v tk yu yv c1 c2 c3 c4 c5 c6 c7=>wpAny_pure ⟨_,rfl, ?_⟩) (F.args_zip_next_1 _))))
  obtain⟨x',hx',ru⟩:=r1 i u yu
  rw[hx] at hx'
  cases hx'
  obtain⟨y',hy',rv⟩:=r2 i v yv
  rw[hy] at hy'
  cases hy'
  have lt:∀{c o},s.heap.get? c=some o->s.heap.objs.size≠c:=fun e=>Nat.ne_of_gt (Heap.lt_size e)
  have fr:=I.hok.fresh (Nat.le_refl s.heap.objs.size)
  have d:=D.a
  refine wpAny_letOwnedTupleGo_zip c1 fun h'' z2 s2=>?_
  have up:∀c o,c≠z->h'.get? c=some o->h''.get? c=some o:=fun c o n e=>s2.extBut _ _ n e
  have kp:∀c o,c∉[z,TI,TO,i1,i2]->s.heap.get? c=some o->h''.get? c=some o:=fun c o hc e=>by
   simp only[List.mem_cons,List.not_mem_nil,or_false,not_or] at hc
   exact up c o hc.1 (c7 c o hc.1 hc.2.2.1 hc.2.2.2.1 hc.2.2.2.2 e)
  obtain⟨o1,vs1,g1,_⟩:=Y1.ex h1
  obtain⟨o2,vs2,g2,_⟩:=Y2.ex h2
  have T2:IsPair h'' s.heap.objs.size u v:=up _ _ (lt hz) c5
  refine⟨.ref s.heap.objs.size,_,I.turnedL (o:=.tup [x,y]) kp hf (Nat.le_refl _) ⟨by show 2<=sizeLine; decide, [u,v], .cons ru (.cons rv .nil),_,T2,rfl,_,rfl⟩,rfl,⟨_,x,y,rfl,fr,rfl,fun xs' ys' e1 e2=>by rw[Y1.inj rfl I e1 q1,Y2.inj rfl I e2 q2]; exact⟨hx,hy⟩⟩,⟨D,z2,up _ _ d.1 (c7 _ _ d.1 d.2.2.2.2.1 d.2.2.2.2.2.1 d.2.2.2.2.2.2.1 hI),⟨_,_,up _ _ d.2.1 c2⟩,Y1.ke (out1 _ _ c3) fun o e=>up _ o d.2.2.1 e,Y2.ke (out2 _ _ c4) fun o e=>up _ o d.2.2.2.1 e⟩,fun b hb=>?_⟩
  have hb1:=(hf b hb).1
  have nb:b≠s.heap.objs.size:=fun e=>by
   simp only[List.mem_cons,List.not_mem_nil,or_false] at hb
   rcases hb with rfl|rfl|rfl|rfl|rfl
   ·exact lt hz e.symm
   ·exact lt hI e.symm
   ·exact lt hO e.symm
   ·exact lt g1 e.symm
   ·exact lt g2 e.symm
  rw[upd_ne nb]; exact hb1
 done:=by
  intro X hP hw hK hc i pins s σ H E I hf st hg
  subst hP hw hK
  obtain⟨D,hz,hI,⟨a,b,hO⟩,h1,h2⟩:=st
  obtain⟨xs,ys,q1,q2,he⟩:=hg
  obtain⟨ix,t1,r1,N1,in1,out1⟩:=Y1.nx rfl rfl rfl I q1
  obtain⟨iy,t2,r2,N2,in2,out2⟩:=Y2.nx rfl rfl rfl I q2
  have hT:s.TypeIs (.ref z) "zip" := ⟨_,hz,rfl⟩
  unfold pyNext
  refine wpAny_bind (wpAny_attempt (wpAny_callSpecial?_slot (name:=Str.ofString "__next__") hT F.slot_zip_next (wpAny_call_entry F.slot_zip_next hT F.entry_zip_next (zip_fin (I.ok.hd hc) D N1 N2 hz hI hO (in1 i h1) (in2 i h2) he fun h' e tk hk ⟨o,ho,hc⟩=>?_) (F.args_zip_next_1 _))))
  refine wpAny_bind (wpAny_isInstance (T := "StopIteration") (b:=true) ⟨o,ho,hc⟩ isSubtype_stop (wpAny_pure ⟨rfl,I.stopL (t':=tk) (fun c o hc e=>?_) hf⟩))
  simp only[List.mem_cons,List.not_mem_nil,or_false,not_or] at hc
  exact hk c o hc.1 hc.2.2.1 hc.2.2.2.1 hc.2.2.2.2 e
 self:=fun _ _ _ _ _ st h=>wpAny_pyIter_zip st.2.1 h
end
section
def SrcH (b:Bool) (h:Heap) (l:Addr):Prop:=match b with
 |true=>∃xs,h.IsList l xs
 |false=>∃xs,h.IsTuple l xs
abbrev itO (b:Bool) (l:Addr):Obj:={ cls:=.type (match b with|true => "list_iterator" |false => "tuple_iterator"),data:=.fields #[.ref l, .int 0 0] }
abbrev zq2 (h:Heap) (o1 o2:Obj):Heap:=(h.push o1).push o2
abbrev zq3 (h:Heap) (o1 o2:Obj):Heap:=(zq2 h o1 o2).push { cls:=.type "tuple", data:=.seq #[.ref h.objs.size, .ref (h.push o1).objs.size] }
abbrev zq4 (h:Heap) (o1 o2:Obj):Heap:=(zq3 h o1 o2).push { cls:=.type "tuple", data:=.seq #[.none, .none] }
abbrev zq5 (h:Heap) (o1 o2:Obj):Heap:=(zq4 h o1 o2).push { cls:=.type "zip", data:=.fields #[.none, .bool false, .bool false, .ref (zq2 h o1 o2).objs.size, .ref (zq3 h o1 o2).objs.size] }
theorem kY (b1 b2:Bool) (l1 l2:Addr):Meets (Builtin.«zip.__new__» ⟨[.type "zip", .ref l1, .ref l2], []⟩) (fun _ R s=>SrcH b1 s.heap l1/\SrcH b2 s.heap l2/\R (.ok (.ret (.ref (zq4 s.heap (itO b1 l1) (itO b2 l2)).objs.size))) { s with heap:=zq5 s.heap (itO b1 l1) (itO b2 l2) }) :=
 .of_wp fun prog w A R s h=>by
  obtain⟨hp,g,d,tk,os⟩:=s
  obtain⟨m1,m2,h⟩:=h
  have hsub:=sub_zip
  cases b1<;>cases b2<;>obtain⟨xs,e1⟩:=m1<;>obtain⟨ys,e2⟩:=m2
  ·have u1:Heap.IsTuple (Shared.heap ⟨hp,g,d,tk,os⟩) l1 xs:=e1
   have u2:Heap.IsTuple (Shared.heap ⟨hp.push { cls:=.type "tuple_iterator", data:=.fields #[.ref l1, .int 0 0] },g,d,tk,os⟩) l2 ys:=e2.push _
   wp_walk using wpAny_pyIter_tuple u1,wpAny_pyIter_tuple u2
   exact⟨_,rfl,h⟩
  ·have u1:Heap.IsTuple (Shared.heap ⟨hp,g,d,tk,os⟩) l1 xs:=e1
   have u2:Heap.IsList (Shared.heap ⟨hp.push { cls:=.type "tuple_iterator", data:=.fields #[.ref l1, .int 0 0] },g,d,tk,os⟩) l2 ys:=Heap.IsList.push e2 _
   wp_walk using wpAny_pyIter_tuple u1,wpAny_pyIter_list u2
   exact⟨_,rfl,h⟩
  ·have u1:Heap.IsList (Shared.heap ⟨hp,g,d,tk,os⟩) l1 xs:=e1
   have u2:Heap.IsTuple (Shared.heap ⟨hp.push { cls:=.type "list_iterator", data:=.fields #[.ref l1, .int 0 0] },g,d,tk,os⟩) l2 ys:=e2.push _
   wp_walk using wpAny_pyIter_list u1,wpAny_pyIter_tuple u2
   exact⟨_,rfl,h⟩
  ·have u1:Heap.IsList (Shared.heap ⟨hp,g,d,tk,os⟩) l1 xs:=e1
   have u2:Heap.IsList (Shared.heap ⟨hp.push { cls:=.type "list_iterator", data:=.fields #[.ref l1, .int 0 0] },g,d,tk,os⟩) l2 ys:=Heap.IsList.push e2 _
   wp_walk using wpAny_pyIter_list u1,wpAny_pyIter_list u2
   exact⟨_,rfl,h⟩
theorem VH {P:Program} {w:World} {A:Around} {E:Value->Shared->Prop} {s:Shared} {o1 o2:Obj} {v1 v2:Value} {R:Value->Shared->Prop} {Pre:Heap->Prop} (f1:o1.isFreed=false) (f2:o2.isFreed=false) (mt:Meets (Builtin.«zip.__new__» ⟨[.type "zip", v1,v2], []⟩) (fun _ R s=>Pre s.heap/\R (.ok (.ret (.ref (zq4 s.heap o1 o2).objs.size))) { s with heap:=zq5 s.heap o1 o2 })) (m:Pre s.heap)
  (q:∀h',IsZip h' (s.heap.objs.size+4) (s.heap.objs.size+2) (s.heap.objs.size+3) .none->IsPair h' (s.heap.objs.size+2) (.ref s.heap.objs.size) (.ref (s.heap.objs.size+1))->IsPair h' (s.heap.objs.size+3) .none .none->h'.get? s.heap.objs.size=some o1->h'.get? (s.heap.objs.size+1)=some o2 ->
   (∀c o,s.heap.get? c=some o->h'.get? c=some o)->R (.ref (s.heap.objs.size+4)) { s with heap:=h' }):wpAny (model P w) A (call (.type "zip") [v1,v2]) R E s:=by
 refine callType_new F.called_zip (by decide) (F.typeCall_zip_2 _ _) (F.newCall_zip_2 _ _) (fun obj=>F.args_object_init_3 obj _ _) F.entry_zip_new mt ⟨m, ?_⟩
 have e1:(s.heap.push o1).objs.size=s.heap.objs.size+1:=Heap.size_push ..
 have e2:(zq2 s.heap o1 o2).objs.size=s.heap.objs.size+2:=by rw[Heap.size_push,e1]
 have e3:(zq3 s.heap o1 o2).objs.size=s.heap.objs.size+3:=by rw[Heap.size_push,e2]
 have e4:(zq4 s.heap o1 o2).objs.size=s.heap.objs.size+4:=by rw[Heap.size_push,e3]
 have ps:∀{h:Heap} {a:Addr} {o o':Obj},h.get? a=some o->(h.push o').get? a=some o:=fun e=>Heap.get?_push_of_some _ e
 have g5:(zq5 s.heap o1 o2).get? (zq4 s.heap o1 o2).objs.size=some _:=Heap.get?_push_size _ rfl
 have g4:(zq5 s.heap o1 o2).get? (zq3 s.heap o1 o2).objs.size=some _:=ps (Heap.get?_push_size _ rfl)
 have g3:(zq5 s.heap o1 o2).get? (zq2 s.heap o1 o2).objs.size=some _:=ps (ps (Heap.get?_push_size _ rfl))
 have g2:(zq5 s.heap o1 o2).get? (s.heap.push o1).objs.size=some o2:=ps (ps (ps (Heap.get?_push_size _ f2)))
 have g1:(zq5 s.heap o1 o2).get? s.heap.objs.size=some o1:=ps (ps (ps (ps (Heap.get?_push_size _ f1))))
 show _/\_
 rw[e2,e3,e4] at g5
 rw[e1,e2] at g3
 rw[e3] at g4
 rw[e1] at g2
 rw[e4]
 exact⟨⟨_,g5,rfl⟩,q _ g5 g3 g4 g1 g2 fun c o x=>ps (ps (ps (ps (ps x))))⟩
end
section
variable {X:Cx}
def ZipStep (K:PySem.W.Frag) (b1 b2:Bool) (vs:List V) (H:Hp) (R:It->Hp->Prop):Prop:=∃a1 a2 xs ys,vs=[.ref a1, .ref a2]/\SqB b1 K H a1 xs/\SqB b2 K H a2 ys/\R (Itz K b1 b2 a1 a2) H
def iZip (K:PySem.W.Frag) (b1 b2:Bool) (ta:TA):TI:=fun σ H R=>ta σ H fun vs H1=>ZipStep K b1 b2 vs H1 R
theorem src_h {pins:List (Addr×Obj)} {σ:St} {H:Hp} {s:Shared} {b:Bool} {a:Addr} {xs:List V} (I:Inv X pins σ H s) (hq:SqB b X.K H a xs):SrcH b s.heap a/\a<s.heap.objs.size:=by
 cases b
 ·obtain⟨its,rv,p,_⟩:=I.tuple hq
  obtain⟨o,e,_⟩:=id p
  exact⟨⟨_,p⟩,Heap.lt_size e⟩
 ·obtain⟨its,rv,p,_⟩:=I.list hq
  obtain⟨o,e,_⟩:=id p.isList
  exact⟨⟨_,p.isList⟩,Heap.lt_size e⟩
theorem it_O {b:Bool} {h:Heap} {it l:Addr} (g:h.get? it=some (itO b l)):ItB b h it l 0:=by
 cases b<;>exact⟨_,g,rfl,rfl⟩
theorem apart5 {n a1 a2:Nat} (l1:a1<n) (l2:a2<n):ZA5 (n+4) (n+2) (n+3) n (n+1) [n,a1] [n+1,a2]:=by
 have hm:∀{x y z:Nat},x≠y->x≠z->x∉[y,z]:=fun h1 h2 h=>by simp at h; omega
 refine⟨?_,⟨hm ?_ ?_,hm ?_ ?_,hm ?_ ?_⟩,⟨hm ?_ ?_,hm ?_ ?_,hm ?_ ?_⟩⟩
 ·show(n+2:Nat)≠n+4/\(n+3:Nat)≠n+4/\(n:Nat)≠n+4/\(n+1:Nat)≠n+4/\(n+2:Nat)≠n+3/\(n+2:Nat)≠n/\(n+2:Nat)≠n+1/\(n+3:Nat)≠n/\(n+3:Nat)≠n+1/\(n:Nat)≠n+1
  omega
 all_goals omega
theorem pi_zip {K:PySem.W.Frag} {b1 b2:Bool} {elts:List Expr} {kk:_} {tpos:Pos} {a b:Expr} {ta:TA} {p pos:Pos} (hK:X.K=K) (hg:Gl X "zip") (hm:X.mg "zip" = none) (ha:PA X [a,b] ta) (hs:starEach [a,b] X.env=[(false,eval a X.env),(false,eval b X.env)]:=by rfl) (hs2:starEach [b] X.env=[(false,eval b X.env)]:=by rfl):PI X (.Tuple elts kk tpos) (.Call (.Name "zip" p) [a,b] [] pos) (iZip K b1 b2 ta):=by
 subst hK
 intro pins s σ H R I h
 refine Call_ (xj I hg hm boot_zip (PyProof.Rows.callWith_type1 (thn (ha pos pins s σ H _ I h) fun us s1 ⟨vs,H1,I1,r1,q1⟩=>?_) (by rw[hs,hs2]) (by rw[hs2]; rfl)))
 obtain⟨a1,a2,xs,ys,e,q1,q2,q⟩:=q1
 subst e
 cases r1 with
 |cons r rr =>
 cases rr with
 |cons r' rr =>
 cases rr
 cases r
 cases r'
 obtain⟨m1,l1⟩:=src_h I1 q1
 obtain⟨m2,l2⟩:=src_h I1 q2
 refine VH (Pre:=fun h=>SrcH b1 h a1/\SrcH b2 h a2) (o1:=itO b1 a1) (o2:=itO b2 a2) rfl rfl (by simpa only[and_assoc] using kY b1 b2 a1 a2) ⟨m1,m2⟩ fun h' hz hI hO t1 t2 kp=>wpAny_pyIter_zip hz ?_
 have ne:∀{c:Addr} {j:Nat},c<s1.heap.objs.size->c≠s1.heap.objs.size+j:=fun h=>Nat.ne_of_lt (Nat.lt_of_lt_of_le h (Nat.le_add_right _ _))
 have n0:∀{c:Addr},c<s1.heap.objs.size->c≠s1.heap.objs.size:=fun h=>Nat.ne_of_lt h
 have D:ZA5 (s1.heap.objs.size+4) (s1.heap.objs.size+2) (s1.heap.objs.size+3) s1.heap.objs.size (s1.heap.objs.size+1) [s1.heap.objs.size,a1] [s1.heap.objs.size+1,a2]:=apart5 l1 l2
 refine⟨s1.heap.objs.size+4, [s1.heap.objs.size+4,s1.heap.objs.size+2,s1.heap.objs.size+3,s1.heap.objs.size,s1.heap.objs.size+1],_,_,H1,rfl,I1.kept (t':=s1.toks) kp,turn_zip _ _ _ _ _ (sx_B (n0 l1)) (sx_B (ne l2)),⟨D,hz,hI,⟨_,_,hO⟩,it_O t1,it_O t2⟩,fun bb hb=>?_,q⟩
 have hb':s1.heap.objs.size<=bb:=by
  simp only[List.mem_cons,List.not_mem_nil,or_false] at hb
  rcases hb with rfl|rfl|rfl|rfl|rfl
  ·exact Nat.le_add_right _ _
  ·exact Nat.le_add_right _ _
  ·exact Nat.le_add_right _ _
  ·exact Nat.le_refl _
  ·exact Nat.le_add_right _ _
 exact I1.fpOk hb' (I1.hok.fresh hb')
theorem XC {K:PySem.W.Frag} {b1 b2:Bool} {elts:List Expr} {kk:_} {tpos:Pos} {a b:Expr} {ta:TA} {p pos:Pos} (hK:X.K=K) (hg:Gl X "zip") (hm:X.mg "zip" = none) (ha:QA X [a,b] ta) (hs:starEach [a,b] X.env=[(false,eval a X.env),(false,eval b X.env)]:=by rfl) (hs2:starEach [b] X.env=[(false,eval b X.env)]:=by rfl):QI X (.Tuple elts kk tpos) (.Call (.Name "zip" p) [a,b] [] pos) (iZip K b1 b2 ta):=⟨pi_zip hK hg hm ha.h hs hs2⟩
end
section
variable {A:Addr->Prop} {H:Hp} {ι:List Addr} {M:MM} {K:PySem.W.Frag} {tl:TA} {ul:UA} {n:Nat}
def jg (b:Bool) (M:MM) (x:U):Option (List U):=match b with
 |true=>qF M x
 |false=>vE M x
theorem zB {b:Bool} {v:V} {u:U} {us:List U} (w:Wd A ι H M) (r:RepU A ι H v u) (e:jg b M u=some us):∃p vs,v=.ref p/\SqB b K H p vs/\RepUs A ι H vs us:=by
 cases b
 ·obtain⟨p,vs,h1,h2,h3⟩:=vJ w r e; exact⟨p,vs,h1,SqT.of h2,h3⟩
 ·obtain⟨p,vs,h1,h2,h3⟩:=vn w r e; exact⟨p,vs,h1,SqL.of h2,h3⟩
def itZ (b1 b2:Bool) (x y:U) (ts ss:List T):UIt:=⟨min ts.length ss.length,fun M=>jg b1 M x=some (ts.map U.p)/\jg b2 M y=some (ss.map U.p),fun i z=>∃t s,ts[i]?=some t/\ss[i]?=some s/\z=.p (.tup [t,s])⟩
def ZipS (b1 b2:Bool) (xs:List U) (M:MM) (Q:UIt->MM->Prop):Prop:=∃(x y:U) (ts ss:List T),xs=[x,y]/\jg b1 M x=some (ts.map U.p)/\jg b2 M y=some (ss.map U.p)/\Q (itZ b1 b2 x y ts ss) M
def uZip (b1 b2:Bool) (ul:UA):UI:=fun ρ M Q=>ul ρ M fun xs M1=>ZipS b1 b2 xs M1 Q
theorem li_zip {b1 b2:Bool} (ha:LA n tl ul):LI (iZip K b1 b2 tl) (uZip b1 b2 ul):=fun A ι σ H ρ M Qu R w e q k =>
 ha A ι σ H ρ M _ _ w e q fun xs M1 ι1 vs1 H1 l1 w1 hn r0 ⟨x,y,ts,ss,ex,eu,ev,q1⟩=>by
  subst ex
  cases r0 with
  |cons r1 r0 =>
  cases r0 with
  |cons r2 r0 =>
  cases r0
  obtain⟨p1,us1,rfl,h1,g1⟩:=zB (K:=K) w1 r1 eu
  obtain⟨p2,us2,rfl,h2,g2⟩:=zB (K:=K) w1 r2 ev
  refine⟨p1,p2,us1,us2,rfl,h1,h2,k _ M1 ι1 _ H1 l1 w1 ?_ q1⟩
  intro A' ι2 H2 M2 i l w2 ok
  obtain⟨p1',vs1,e1,h3,h4⟩:=zB (K:=K) w2 (r1.lea l) ok.1
  obtain⟨p2',vs2,e2,h5,h6⟩:=zB (K:=K) w2 (r2.lea l) ok.2
  cases e1
  cases e2
  have t1:=h4.pures
  have t2:=h6.pures
  have hl1:=t1.len
  have hl2:=t2.len
  refine⟨fun hi=>?_,fun hi=>⟨vs1,vs2,h3,h5, ?_⟩⟩
  ·have hi:i<min ts.length ss.length:=hi
   have hx:vs1[i]?=some (vs1[i]'(by omega)):=List.getElem?_eq_getElem _
   have hy:vs2[i]?=some (vs2[i]'(by omega)):=List.getElem?_eq_getElem _
   refine⟨⟨vs1,vs2,_,_,h3,h5,hx,hy⟩,fun x H' y=>?_⟩
   obtain⟨r,u,v,rfl,hr,rfl,y⟩:=y
   obtain⟨y1,y2⟩:=y vs1 vs2 h3 h5
   obtain⟨t,ht,rt⟩:=Paired.getL t1 y1
   obtain⟨s,hs,rs⟩:=Paired.getL t2 y2
   exact⟨_,⟨t,s,ht,hs,rfl⟩, .fresh hr,w2.fresh hr, .p (ji w2 hr (.cons rt (.cons rs .nil)))⟩
  ·have hi:i=min ts.length ss.length:=hi
   omega
theorem ci_zip {b1 b2:Bool} (ha:ZA n tl ul):ZI (iZip K b1 b2 tl) (uZip b1 b2 ul):=⟨li_zip ha.h⟩
end
section
variable {P:Program} {w:World} {A:Around} {E:Value->Shared->Prop} {s:Shared} {κ:Type} [DecidableEq κ]
def TextT (P:Program) (w:World) (t:Sem Value) (x:Str):Prop:=∀(A:Around) (E:Value->Shared->Prop) (s:Shared) (Q:Value->Shared->Prop),(∀tk t',Q (.str x t') { s with toks:=tk })->wpAny (model P w) A t Q E s
inductive TextPs (P:Program) (w:World):List (Sem Value×Sem Value)->List (Str×Str)->Prop
 |nil:TextPs P w [] []
 |cons {k v:Sem Value} {x y:Str} {ps:List (Sem Value×Sem Value)} {zs:List (Str×Str)} (hk:TextT P w k x) (hv:TextT P w v y) (r:TextPs P w ps zs):TextPs P w ((k,v)::ps) ((x,y)::zs)
theorem TextPs.len {ps:List (Sem Value×Sem Value)} {zs:List (Str×Str)} (h:TextPs P w ps zs):ps.length=zs.length:=by
 induction h with
 |nil=>rfl
 |cons _ _ _ ih=>rw[List.length_cons,List.length_cons,ih]
inductive TextV:List (Key×Value)->List (Str×Str)->Prop
 |nil:TextV [] []
 |cons {x y:Str} {t:Tok} {l:List (Key×Value)} {zs:List (Str×Str)} (r:TextV l zs):TextV ((.inr x, .str y t)::l) ((x,y)::zs)
theorem TextV.keys {l:List (Key×Value)} {zs:List (Str×Str)} (h:TextV l zs):l.map (·.1)=zs.map fun z=>Key.inr z.1:=by
 induction h with
 |nil=>rfl
 |cons _ ih=>rw[List.map_cons,List.map_cons,ih]
theorem TextV.len {l:List (Key×Value)} {zs:List (Str×Str)} (h:TextV l zs):l.length=zs.length:=by
 have:=congrArg List.length h.keys
 simpa using this
end
section
inductive ConstPs:List (Option Expr)->List Expr->List (Str×Str)->Prop
 |nil:ConstPs [] [] []
 |cons {x y:Str} {j j':Nat} {p p':Pos} {ks:List (Option Expr)} {vs:List Expr} {zs:List (Str×Str)} (r:ConstPs ks vs zs):ConstPs (some (.Constant (.str x) j p)::ks) (.Constant (.str y) j' p'::vs) ((x,y)::zs)
theorem ConstPs.all {ks:List (Option Expr)} {vs:List Expr} {zs:List (Str×Str)} (h:ConstPs ks vs zs):ks.all (·.isSome)=true/\ks.length=vs.length:=by
 induction h with
 |nil=>exact⟨rfl,rfl⟩
 |cons _ ih=>exact⟨by rw[List.all_cons,ih.1]; rfl,by rw[List.length_cons,List.length_cons,ih.2]⟩
end
section
variable {X:Cx} {K:PySem.W.Frag}
theorem jA {ss:List Str}:∀{its:List Value},Vals (zG ss) its->StrsAre its ss:=by
 unfold zG
 induction ss with
 |nil=>intro its h; cases h; exact .nil
 |cons s ss ih =>
  intro its h
  cases h with
  |cons r q =>
  obtain⟨t,rfl⟩:=r
  exact .cons _ _ (ih q)
theorem jz {ss:List Str} {its:List Value} (h:StrsAre its ss):Vals (zG ss) its:=by
 induction h with
 |nil=>exact .nil
 |cons _ _ _ ih=>exact .cons ⟨_,rfl⟩ ih
def rSortS (K:PySem.W.Frag):List V->Hp->VK->Prop:=fun xs H Q=>∃(p:Addr) (ss:List Str),xs=[.ref p]/\SqL K H p (zG ss)/\ss.length<64/\∀ss':List Str,ss'.Perm ss->sortedS ss'=true->∀l,H l=none->Q (.ref l) (upd H l (.lst (zG ss')))
theorem Xa (hK:X.K=K):zY X (.builtin "sorted") (rSortS K):=by
 subst hK
 intro pins s σ H xs us Q I r h
 obtain⟨p,ss,rfl,hq,h64,q⟩:=h
 obtain⟨u,rfl,rx⟩:=jP r
 cases rx
 obtain⟨its,r',pl,hz⟩:=I.list hq
 have hs:=jA r'
 have hl:its.length=ss.length:=by rw[<-r'.length]; unfold zG; simp
 refine sorted_strs pl.isList hs (by omega) fun out ss' a1 a2 a3=>?_
 obtain⟨e,he⟩:=sortedAll_at s.heap its out
 have hl2:ss'.length=ss.length:=a2.length_eq
 exact⟨.ref (s.heap.objs.size+1),_,I.laid (t':=s.toks) (fun _ _=>sortedAll_old) (Nat.le_succ _) (show ObjOk X.prog X.w _ _ _ (.lst (zG ss')) from⟨by unfold zG; rw[List.length_map,sizeLine_eq]; omega,out.toList,e,jz a1,he⟩),rfl,q ss' a2 a3 _ (I.hok.fresh (Nat.le_succ _))⟩
def rSumL (K:PySem.W.Frag):List V->Hp->VK->Prop:=fun xs H Q=>∃(l:Addr) (ns:List Int),xs=[.ref l]/\SqL K H l (ns.map V.int)/\Q (.int ns.sum) H
theorem jr (hK:X.K=K) (hc:X.calm=true):zY X (.builtin "sum") (rSumL K):=by
 subst hK
 intro pins s σ H xs us Q I r h
 obtain⟨l,ns,rfl,hl,q⟩:=h
 obtain⟨u,rfl,rx⟩:=jP r
 cases rx
 obtain⟨its,r',pl,hz⟩:=I.list hl
 have hi:=jK r'
 obtain⟨xs,e⟩:=hi.allInts.items
 have hns:ns=xs.toList.map (·.1):=by rw[<-hi.numsOf, <-nums_intItems, <-e]
 have hl2:=pl.isList
 rw[e] at hl2
 refine sum_intListG (I.ok.hd hc) hl2 fun h' tk t' hk=>⟨.int ns.sum,H,I.kept (t':=tk) hk,⟨t', ?_⟩,q⟩
 rw[preSum_eq,List.take_of_length_le (by simp),hns]
end
section
variable {prog:Program} {w:World} {A:Around} {E:Value->Shared->Prop} {s:Shared}
theorem collectT {l:Addr} {vs:List Value} {Q:List Value->Shared->Prop} (hl:IsTup s.heap l vs.toArray) (hsz:vs.length<=sizeLine)
  (h:Q vs { s with heap:=(s.heap.push (seqObj "list" #[] 0)).update s.heap.objs.size (Obj.mapSeq (· ++ vs.toArray)) }):wpAny (model prog w) A (collect (.ref l)) Q E s:=by
 obtain⟨o,ho,hc,n,hd⟩:=id hl
 unfold collect
 refine wpAny_bind (wpAny_runValue (codeAny_builtin entry_proto_collect' ?_))
 show wpAny _ _ (do again (.builtin "list.__iadd__" ⟨[<-newList [], .ref l], []⟩)) _ _ s
 refine wpAny_bind (wpAny_newList (wpAny_pure ⟨Code.quiet_builtin _ (by decide +kernel),codeAny_builtin entry_list_iadd' ?_⟩))
 show wpAny _ _ (Builtin.List.listExtendWith (.ref s.heap.objs.size) (.ref l) (.ref s.heap.objs.size)) _ _ { s with heap:=s.heap.push (seqObj "list" #[] 0) }
 unfold Builtin.List.listExtendWith
 have ho':(s.heap.push (seqObj "list" #[] 0)).get? l=some o:=Heap.get?_push_of_some _ ho
 refine wpAny_bind (wpAny_typeOf (T := "tuple") ⟨o,ho',hc⟩ ?_)
 have ht:(Value.type "tuple" == Value.type "tuple")=true:=by rfl
 rw[if_pos (by rw[ht]; simp)]
 refine wpAny_bind (listItems_at ho' hd ?_)
 refine wpAny_bind (listItems_at (xs:=#[]) (n:=0) (Heap.get?_push_size _ rfl) rfl ?_)
 rw[if_neg (by simp)]
 refine wpAny_bind (listUpdate_at (xs:=#[]) (n:=0) (Heap.get?_push_size _ rfl) rfl ?_ (Nat.zero_le _) (by show(#[]++vs.toArray).size<=sizeLine+1; simp only[Array.size_append,List.size_toArray,List.length_nil]; omega))
 refine wpAny_pure ?_
 refine wpAny_bind (wpAny_load (get?_update_seq (Heap.get?_push_size _ rfl) _) ?_)
 show wpAny _ _ (pure ((#[]:Array Value)++vs.toArray).toList) Q E _
 rw[show((#[]:Array Value)++vs.toArray).toList=vs by simp]
 exact wpAny_pure h
theorem Qh {l:Addr} {vs:List Value} {ss:List Str} {Q:Value->Shared->Prop} (hl:IsTup s.heap l vs.toArray) (hS:StrsAre vs ss) (h64:vs.length<64)
  (h:∀(out:Array Value) (ss':List Str),StrsAre out.toList ss'->ss'.Perm ss->sortedS ss'=true->Q (.ref (s.heap.objs.size+1)) { s with heap:=sortedAll s.heap vs out }) :
  wpAny (model prog w) A (call (.builtin "sorted") [.ref l]) Q E s:=by
 refine Calls.call_function_entry kind_sorted plain_sorted entry_sorted (args_sorted1 _) ?_
 unfold Builtin.«sorted»
 refine wpAny_bind (m:=checkCount "sorted" 1 1 _) (wpAny_pure ?_)
 refine wpAny_bind (collectT hl (by rw[sizeLine_eq]; omega) ?_)
 refine wpAny_bind (wpAny_newList ?_)
 have hsz:((s.heap.push (seqObj "list" #[] 0)).update s.heap.objs.size (Obj.mapSeq (· ++ vs.toArray))).objs.size=s.heap.objs.size+1:=by
  rw[Heap.size_update,size_push']
 have hoL:(((s.heap.push (seqObj "list" #[] 0)).update s.heap.objs.size (Obj.mapSeq (· ++ vs.toArray))).push (seqObj "list" vs.toArray 0)).get? (s.heap.objs.size+1)=some (seqObj "list" vs.toArray 0):=by
  rw[<-hsz]; exact Heap.get?_push_size _ rfl
 show wpAny _ _ _ _ _ { s with heap:=((s.heap.push (seqObj "list" #[] 0)).update s.heap.objs.size (Obj.mapSeq (· ++ vs.toArray))).push (seqObj "list" vs.toArray 0) }
 rw[hsz]
 refine wpAny_bind (wpAny_holding (wpAny_call_entry slot_list_sort ⟨_,hoL,rfl⟩ entry_list_sort (list_sort_treeK strKind_oneLt hoL hS.keysOf (fun v₁ v₂ rest e=>keyKind_strs (by rw[<-e]; exact hS)) h64 fun st' hp hs=>⟨_,rfl, ?_⟩) (args_list_sort _)))
 obtain⟨ss',h1,h2,h3⟩:=sorted_out_str hS hp hs
 exact wpAny_pure ⟨_,rfl,h _ ss' h1 h2 h3⟩
end
section
variable {X:Cx} {K:PySem.W.Frag}
def rSortT (K:PySem.W.Frag):List V->Hp->VK->Prop:=fun xs H Q=>∃(p:Addr) (ss:List Str),xs=[.ref p]/\SqT K H p (zG ss)/\ss.length<64/\∀ss':List Str,ss'.Perm ss->sortedS ss'=true->∀l,H l=none->Q (.ref l) (upd H l (.lst (zG ss')))
theorem Z9 (hK:X.K=K):zY X (.builtin "sorted") (rSortT K):=by
 subst hK
 intro pins s σ H xs us Q I r h
 obtain⟨p,ss,rfl,hq,h64,q⟩:=h
 obtain⟨u,rfl,rx⟩:=jP r
 cases rx
 obtain⟨its,r',pl,hz⟩:=I.tuple hq
 have hs:=jA r'
 have hl:its.length=ss.length:=by rw[<-r'.length]; unfold zG; simp
 refine Qh pl hs (by omega) fun out ss' a1 a2 a3=>?_
 obtain⟨e,he⟩:=sortedAll_at s.heap its out
 have hl2:ss'.length=ss.length:=a2.length_eq
 exact⟨.ref (s.heap.objs.size+1),_,I.laid (t':=s.toks) (fun _ _=>sortedAll_old) (Nat.le_succ _) (show ObjOk X.prog X.w _ _ _ (.lst (zG ss')) from⟨by unfold zG; rw[List.length_map,sizeLine_eq]; omega,out.toList,e,jz a1,he⟩),rfl,q ss' a2 a3 _ (I.hok.fresh (Nat.le_succ _))⟩
def sSortS:List T->(T->Prop)->Prop:=fun ts Q=>∃ss:List Str,ts=[.lst (ss.map T.str)]/\ss.length<64/\∀ss':List Str,ss'.Perm ss->sortedS ss'=true->Q (.lst (ss'.map T.str))
theorem VT:∀{ss:List Str} {A:Addr->Prop} {H:Hp} {vs:List V},RepTs A H vs (ss.map T.str)->vs=zG ss
 | [],_,_,_, .nil=>rfl
 |s::ss,_,_,_, .cons r q=>by cases r; rw[VT q]; rfl
theorem ints_inv:∀{ss:List Int} {A:Addr->Prop} {H:Hp} {vs:List V},RepTs A H vs (ss.map T.int)->vs=ss.map V.int
 | [],_,_,_, .nil=>rfl
 |s::ss,_,_,_, .cons r q=>by cases r; rw[ints_inv q]; rfl
theorem JM:CbL (rSortS K) sSortS:=fun A ι H M vs ts Qs Q w r ⟨ss,e,h64,q⟩ k=>by
 subst e
 obtain⟨v,ev,r1⟩:=pv1 r
 subst ev
 obtain⟨p,zs,rfl,h1,h2⟩:=r1.lst_inv
 cases VT h2
 exact⟨p,ss,rfl,SqL.of h1,h64,fun ss' a b l hl=>k _ ι _ _ (.fresh hl) (w.fresh hl) (vF w hl (xU ss')) (q ss' a b)⟩
def sSumL:List T->(T->Prop)->Prop:=fun ts Q=>∃ss:List Int,ts=[.lst (ss.map T.int)]/\Q (.int ss.sum)
theorem kS:CbL (rSumL K) sSumL:=fun A ι H M vs ts Qs Q w r ⟨ss,e,q⟩ k=>by
 subst e
 obtain⟨v,ev,r1⟩:=pv1 r
 subst ev
 obtain⟨p,zs,rfl,h1,h2⟩:=r1.lst_inv
 cases ints_inv h2
 exact⟨p,ss,rfl,SqL.of h1,k _ ι _ _ (.refl _ _) w (.int _) q⟩
def uSortK (ss:List Str):UE:=fun ρ M Q=>∀ss':List Str,ss'.Perm ss->sortedS ss'=true->Q (.p (.lst (ss'.map T.str))) M
theorem ce_sortK {a:Addr} {ss:List Str} (h:KTu K a (zG ss)) (h64:ss.length<64):ZE (tCB (rSortT K) (vo (tC (.ref a)) tNil)) (uSortK ss):=⟨fun A ι σ H ρ M Qu Q w e q k =>
 ⟨a,ss,rfl,h H,h64,fun ss' p1 p2 l hl=>k _ M ι _ _ (.fresh hl) (w.fresh hl) (.p (vF w hl (xU ss'))) (q ss' p1 p2)⟩⟩
end
end L2
namespace L2
open PySem PySem.Spec PyProof.Rows PySem.W
section
variable {prog:Program} {w:World} {A:Around} {R:Result->Shared->Prop} {I:Addr} {fp wr:List Addr} {n:Nat} {P:Nat->Value->Prop} {St:Nat->Heap->Prop}
theorem Ja (W:Walks prog w A.in1 I fp wr n P St) (bt:Nat->Nat->Bool) (hcmp:CmpOf prog w A.in1 .Lt P bt) (S:Addr) (hSf:S∉fp) (d:Value) :
  ∀(k j:Nat) (s:Shared) (bs:Array Value) (c:Nat),n-j=k->j<=n->St j s.heap->((j=0/\bs=#[])\/(0<j/\∃vb,bs=#[vb,vb]/\P (argBest bt (j-1)) vb)) ->
  s.heap.get? S=some { cls:=.type "list", dict:=none,data:=.seq bs c,slots:=#[] } ->
  (∀v h' tk,((n=0/\v=d)\/(0<n/\P (argBest bt (n-1)) v))->(∀b o,b∉wr->b≠S->s.heap.get? b=some o->h'.get? b=some o)->R (.ok (.ret v)) { s with heap:=h',toks:=tk }) ->
  codeAny (model prog w) A (.builtin "min.loop" ⟨[.ref I, .none, .ref S], [("default", d)]⟩) R s:=by
 have hSw:S∉wr:=fun h=>hSf (W.sub _ h)
 have hname:(toString "min" ++ toString ".loop" : String) = "min.loop" := by decide
 intro k
 induction k with
 |zero =>
  intro j s bs c hk hj hst hb hS hR
  have hin:j=n:=by omega
  subst hin
  refine codeAny_builtin F.entry_min_loop ?_
  rw[Around.under_plainId F.plain_min_loop _]
  show wpAny _ A.in1 (seqItems? (.ref S) >>= _) _ _ s
  refine wpAny_bind (wpAny_seqItems hS rfl ?_)
  show wpAny _ A.in1 (tryCatch (pyNext (.ref I)) _ >>= _) _ _ s
  refine wpAny_bind (wpAny_tryCatch (W.done s _ _ hst fun h' tk hk'=>?_))
  rcases hb with⟨h0,rfl⟩|⟨h0,vb,rfl,hp⟩
  ·refine wpAny_bind (wpAny_rule (wpAny_pure ?_))
   exact hR d h' tk (.inl ⟨h0,rfl⟩) fun b o hbw _ e=>hk' b o hbw e
  ·have hS':=hk' S _ hSw hS
   show wpAny _ A.in1 (updateSeq S (fun _=>#[]) >>= _) _ _ _
   refine wpAny_bind ?_
   refine wpAny_updateSeq hS' rfl (wpAny_bind (wpAny_letGo (wpAny_pure ?_)))
   exact hR vb _ tk (.inr ⟨h0,hp⟩) fun b o hbw hbS e=>(Heap.get?_update_other _ _ (Ne.symm hbS)).trans (hk' b o hbw e)
 |succ k ih =>
  intro j s bs c hk hj hst hb hS hR
  have hlt:j<n:=by omega
  refine codeAny_builtin F.entry_min_loop ?_
  rw[Around.under_plainId F.plain_min_loop _]
  show wpAny _ A.in1 (seqItems? (.ref S) >>= _) _ _ s
  refine wpAny_bind (wpAny_seqItems hS rfl ?_)
  show wpAny _ A.in1 (tryCatch (pyNext (.ref I)) _ >>= _) _ _ s
  refine wpAny_bind (wpAny_tryCatch (W.item j s _ _ hlt hst fun v h' tk hP hst' hk'=>?_))
  have hS':=hk' S _ hSw hS
  rcases hb with⟨h0,rfl⟩|⟨h0,vb,rfl,hp⟩
  ·subst h0
   show wpAny _ A.in1 (updateSeq S (fun _=>#[v,v]) >>= _) _ _ _
   refine wpAny_bind ?_
   refine wpAny_updateSeq hS' rfl ?_
   rw[hname]
   refine wpAny_pure ⟨plainId_quiet F.plain_min_loop _,ih (0+1) _ #[v,v] _ (by omega) hlt (W.frame _ _ _ hst' fun b hbf o e=>?_) (.inr ⟨Nat.succ_pos _,v,rfl,hP⟩) (Heap.get?_update_self _ hS' rfl) fun v' h'' tk'' hP' hk''=>?_⟩
   ·exact(Heap.get?_update_other _ _ (fun h:S=b=>hSf (by rw[h]; exact hbf))).trans e
   ·exact hR v' h'' tk'' hP' fun b o hbw hbS e=>hk'' b o hbw hbS ((Heap.get?_update_other _ _ (Ne.symm hbS)).trans (hk' b o hbw e))
  ·obtain⟨i,rfl⟩:∃i,j=i+1:=⟨j-1,by omega⟩
   show wpAny _ A.in1 (tryCatch (holding [v,v] (richCompare .Lt v vb >>= _)) _ >>= _) _ _ _
   refine wpAny_bind (wpAny_tryCatch (wpAny_holding (wpAny_bind (hcmp (i+1) (argBest bt i) v vb _ _ _ hP hp ?_))))
   refine wpAny_bind (wpAny_holding (wpAny_truthy_bool ?_))
   refine wpAny_bind (wpAny_letGo (wpAny_pure ?_))
   cases hb:bt (i+1) (argBest bt i) with
   |true =>
    simp only[if_true]
    refine wpAny_bind ?_
    refine wpAny_updateSeq hS' rfl (wpAny_bind (wpAny_letGo ?_))
    rw[hname]
    refine wpAny_pure ⟨plainId_quiet F.plain_min_loop _,ih (i+1+1) _ #[v,v] _ (by omega) hlt (W.frame _ _ _ hst' fun b hbf o e=>?_) (.inr ⟨Nat.succ_pos _,v,rfl,by show P (argBest bt (i+1)) v; simp only[argBest,hb,if_true]; exact hP⟩) (Heap.get?_update_self _ hS' rfl)
     fun v' h'' tk'' hP' hk''=>?_⟩
    ·exact(Heap.get?_update_other _ _ (fun h:S=b=>hSf (by rw[h]; exact hbf))).trans e
    ·exact hR v' h'' tk'' hP' fun b o hbw hbS e=>hk'' b o hbw hbS ((Heap.get?_update_other _ _ (Ne.symm hbS)).trans (hk' b o hbw e))
   |false =>
    simp only[Bool.false_eq_true,if_false]
    refine wpAny_bind (wpAny_letGo ?_)
    rw[hname]
    refine wpAny_pure ⟨plainId_quiet F.plain_min_loop _,ih (i+1+1) _ #[vb,vb] c (by omega) hlt hst' (.inr ⟨Nat.succ_pos _,vb,rfl,by show P (argBest bt (i+1)) vb; simp only[argBest,hb,Bool.false_eq_true,if_false]; exact hp⟩) hS' fun v' h'' tk'' hP' hk''=>?_⟩
    exact hR v' h'' tk'' hP' fun b o hbw hbS e=>hk'' b o hbw hbS (hk' b o hbw e)
end
section
variable {prog:Program} {w:World} {A:Around} {E:Value->Shared->Prop} {s:Shared}
theorem JU (a v:Value):argsOk "min" ⟨[a], [("default", v)]⟩:=by unfold argsOk; kernel_rfl
theorem Jb {l:Addr} {vs:List Value} {ns:List Int} {d:Value} {Q:Value->Shared->Prop} (hh:A.handled=none) (hl:s.heap.IsList l vs.toArray) (hi:IntsAre vs ns)
  (h:∀h' v tk,(∀b o,s.heap.get? b=some o->h'.get? b=some o)->((ns=[]/\v=d)\/∃M t,v=.int M t/\M∈ns/\∀a∈ns,M<=a)->Q v { s with heap:=h',toks:=tk }) :
  wpAny (model prog w) A (call (.builtin "min") [.ref l] [("default", d)]) Q E s:=by
 obtain⟨xs,e⟩:=hi.allInts.items
 have hns:ns=xs.toList.map (·.1):=by rw[<-hi.numsOf, <-nums_intItems, <-e]
 rw[e] at hl
 have hname:(toString "min" ++ toString ".loop" : String) = "min.loop" := by decide
 refine kmb_tree F.kind_min F.plain_min F.entry_min (JU _ _) ?_
 show wpAny _ A.in1 (Builtin.Builtins.bindParams "min" ["key", "default"] 0 ⟨[], [("default", d)]⟩ >>= _) _ _ s
 refine wpAny_bind (wpAny_of_eq (show Builtin.Builtins.bindParams "min" ["key", "default"] 0 ⟨[], [("default", d)]⟩=pure [none,some d] from rfl) ?_)
 refine wpAny_bind (wpAny_pure ?_)
 refine wpAny_bind (iter_intList hl fun s₂ e2 st hfp hlI=>?_)
 subst e2
 refine wpAny_bind (wpAny_newObj_type ?_)
 rw[hname]
 have W:=Walks.list (prog:=prog) (w:=w) (A:=A.in1) hh s.heap.objs.size l hlI (intItems xs)
 refine wpAny_pure ⟨plainId_quiet F.plain_min_loop _,Ja W (fun i j=>decide (numAt xs i<numAt xs j)) (CmpOf.ints_lt (numAt xs) (fun _ _=>intItems_at)) _ (fun hm=>Nat.lt_irrefl _ (hfp _ hm)) d _ 0 _ #[] 0 rfl (Nat.zero_le _) (W.frame _ _ _ st fun b _ o e=>Heap.get?_push_of_some _ e) (.inl ⟨rfl,rfl⟩) (Heap.get?_push_size _ rfl) fun v h' tk hP hk=>?_⟩
 refine h h' v tk (fun b o q=>hk b o (fun z=>?_) (Nat.ne_of_lt ?_) (Heap.get?_push_of_some _ (Heap.get?_push_of_some _ q))) ?_
 ·rw[List.mem_singleton.mp z] at q
  exact absurd (Heap.lt_size q) (Nat.lt_irrefl _)
 ·exact Nat.lt_trans (Heap.lt_size q) (by show _<(s.heap.push _).objs.size; rw[size_push']; exact Nat.lt_succ_self _)
 ·rcases hP with⟨h0,rfl⟩|⟨h0,hP⟩
  ·refine .inl ⟨?_,rfl⟩
   have:xs.size=0:=by simpa[intItems] using h0
   rw[hns,Array.eq_empty_of_size_eq_zero this]; rfl
  ·obtain⟨t,rfl⟩:=intItems_at hP
   have hsz:(intItems xs).size=xs.size:=by simp[intItems]
   rw[hsz] at h0
   obtain⟨h1,h2⟩:=argBest_lt (numAt xs) (xs.size-1)
   refine .inr ⟨_,t,rfl, ?_,fun a ha=>?_⟩
   ·rw[hsz,hns,numAt_eq]; exact getD_mem (by rw[List.length_map,Array.length_toList]; omega)
   ·rw[hns] at ha
    obtain⟨j,hj,rfl⟩:=mem_getD ha
    rw[List.length_map,Array.length_toList] at hj
    rw[<-numAt_eq,hsz]; exact h2 j (by omega)
end
section
variable {X:Cx} {K:PySem.W.Frag} {x:Str} {p pos kp:Pos} {e ed:Expr} {te td:TE}
def rMinD (K:PySem.W.Frag):List V->Hp->VK->Prop:=fun xs H Q=>∃(l:Addr) (ns:List Int),xs=[.ref l, .non]/\SqL K H l (ns.map V.int)/\(ns=[]->Q .non H)/\∀M,M∈ns->(∀a∈ns,M<=a)->Q (.int M) H
theorem qe_minD (hK:X.K=K) (hc:X.calm=true) (hg:Gl X x) (hm:X.mg x=none) (hv:bootBuiltins x=some (.builtin "min")) (ha:QE X e te) (hd:QE X ed td) (hn:x ≠ "__name__" := by decide) (hdb:(x==("__debug__" : Str))=false:=by decide)
  (he2:starEach [e] X.env=(false,eval e X.env)::starEach [] X.env:=by rfl):QE X (.Call (.Name x p) [e] [⟨some "default", ed,kp⟩] pos) (tCB (rMinD K) (vo te (vo td tNil))):=⟨by
 subst hK
 intro pins s σ H Q I h
 refine wpAny_Call_Name_kw (xj I hg hm hv ?_ hn hdb)
 refine callWith_kw (thn (kb ha.h XT he2 pos pins s σ H (fun xs H1=>match xs with | [x]=>td σ H1 fun y H2=>rMinD X.K [x,y] H2 Q|_=>False) I h) fun us s1 ⟨vs,H1,I1,r,q⟩=>?_) (by rw[he2]; rfl) (by rw[he2]; rfl)
 obtain⟨x0,rfl⟩:∃x0,vs=[x0]:=by
  match vs,q with
  | [x0],_=>exact⟨x0,rfl⟩
  | [],q=>exact q.elim
  |_::_::_,q=>exact q.elim
 cases r with
 |cons r1 r =>
 cases r
 refine thn (pk_cons hd.h pk_nil pos pins s1 σ H1 (fun zs H2=>match zs with | [y]=>rMinD X.K [x0,y] H2 Q|_=>False) I1 q) fun ws s2 ⟨zs,H2,I2,rz,q2⟩=>?_
 cases rz with
 |nil=>exact q2.elim
 |cons r2 r =>
 cases r with
 |cons _ _=>exact q2.elim
 |nil =>
 obtain⟨l,ns,ex,hl,qa,qb⟩:=q2
 cases ex
 cases r1
 cases r2
 obtain⟨its,r',pl,hz⟩:=I2.list hl
 exact Jb (I2.ok.hd hc) pl.isList (jK r') fun h' v tk hk hv=>by
  rcases hv with⟨e0,rfl⟩|⟨M,t,rfl,hM,hall⟩
  ·exact⟨.non,H2,I2.kept (t':=tk) hk,rfl,qa e0⟩
  ·exact⟨.int M,H2,I2.kept (t':=tk) hk,⟨t,rfl⟩,qb M hM hall⟩⟩
def sMinD:List T->(T->Prop)->Prop:=fun ts Q=>∃ss:List Int,ts=[.lst (ss.map T.int), .non]/\(ss=[]->Q .non)/\∀M,M∈ss->(∀a∈ss,M<=a)->Q (.int M)
theorem cbl_minD:CbL (rMinD K) sMinD:=fun A ι H M vs ts Qs Q w r ⟨ss,e,qa,qb⟩ k=>by
 subst e
 obtain⟨v,z,ev,r1,r2⟩:=pv2 r
 subst ev
 obtain⟨p,zs,rfl,h1,h2⟩:=r1.lst_inv
 cases ints_inv h2
 cases r2.sc (y:=.non) rfl
 exact⟨p,ss,rfl,SqL.of h1,fun e=>k _ ι _ _ (.refl _ _) w .non (qa e),fun M a b=>k _ ι _ _ (.refl _ _) w (.int M) (qb M a b)⟩
end
section
theorem DGet.f {H:Hp} {a:Addr} {o:Obj} {kvs:List (Key×V)} {k:Key} (e:H a=some (.frz o (.dK kvs))):DGet H a (kV k) (valV kvs k):=.inl ⟨kvs,k, .inr ⟨o,e⟩,rfl,rfl⟩
end
section
variable {P:Program} {w:World} {A:Around} {E:Value->Shared->Prop} {s:Shared}
abbrev jO (h:Heap) (z TI TO r:Addr) (b:Bool):Prop:=h.get? z=some { cls:=.type "zip", dict:=none,data:=.fields #[rawInt r, .bool b, .bool false, .ref TI, .ref TO],slots:=#[] }
theorem wp_alive {M:Model} {a:Addr} {o:Obj} {Q:Option Obj->Shared->Prop} (ho:s.heap.get? a=some o) (h:Q (some o) s):wpAny M A (loadIfAlive a) Q E s:=by
 intro Γ p hΓ
 show Sem.wp M _ (.loadIfAlive a _) _ _ _ _
 rw[Sem.wp_loadIfAlive,ho]
 exact h
theorem Qo {r z TI TO:Addr} {bb:Bool} {ot:Obj} {Q:Bool->Shared->Prop} (hz:jO s.heap z TI TO r bb) (hr:s.heap.get? r=some ot)
  (q:∀h0,jO h0 z TI TO r true->Heap.SameBut z s.heap h0->Q false { s with heap:=h0 }):wpAny (model P w) A (Builtin.SmallTypes.ownedTupleIsFree (.ref z)) Q E s:=by
 unfold Builtin.SmallTypes.ownedTupleIsFree
 refine wpAny_bind (wpAny_field hz rfl (x:=rawInt r) rfl ?_)
 refine(show wpAny (model P w) A (loadIfAlive r >>= _) Q E s from wpAny_bind (wp_alive hr ?_))
 simp only[Option.isNone_some,Bool.false_eq_true,if_false]
 refine wpAny_bind (wpAny_field hz rfl (x:=.bool bb) rfl ?_)
 cases bb
 ·rw[if_pos (by decide)]
  exact wpAny_bind (wpAny_setField_rec hz (by simp) fun g1 z1 s1=>wpAny_pure (q g1 z1 s1))
 ·rw[if_neg (by decide)]
  exact wpAny_pure (q s.heap hz ⟨rfl,fun _ _=>rfl⟩)
theorem zip_it2 {r z TI TO i1 i2:Addr} {bb:Bool} {ot:Obj} {rd1 rd2:List Addr} {st1 st2:Nat->Heap->Prop} {n1 n2:Nat} {yl1 yl2:Nat->Value->Prop} {k:Nat} {Q:Value->Shared->Prop} (D:ZA5 z TI TO i1 i2 rd1 rd2) (N1:Nx P w i1 rd1 st1 n1 yl1) (N2:Nx P w i2 rd2 st2 n2 yl2)
  (hz:jO s.heap z TI TO r bb) (hr:s.heap.get? r=some ot) (hI:IsPair s.heap TI (.ref i1) (.ref i2)) (h1:st1 k s.heap) (h2:st2 k s.heap) (hx:k<n1) (hy:k<n2)
  (q:∀h' x y tk,yl1 k x->yl2 k y->jO h' z TI TO r true->st1 (k+1) h'->st2 (k+1) h'->IsPair h' s.heap.objs.size x y->(∀c o,c≠z->c≠i1->c≠i2->s.heap.get? c=some o->h'.get? c=some o)->Q (.ref s.heap.objs.size) { s with heap:=h',toks:=tk }) :
  wpAny (model P w) A (Builtin.«zip.__next__» ⟨[.ref z], []⟩) (fun fin s'=>∃v,fin=.done (.ret v)/\Q v s') E s:=by
 obtain⟨d1,d2,d3,d4,d5,d6,d7,d8,d9,d10⟩:=D.a
 have nr1:∀{c},c∈rd1->c≠z/\c≠TO/\c≠i2:=fun hc=>⟨fun e=>D.r1.1 (e▸hc),fun e=>D.r1.2.1 (e▸hc),fun e=>D.r1.2.2 (e▸hc)⟩
 have nr2:∀{c},c∈rd2->c≠z/\c≠TO/\c≠i1:=fun hc=>⟨fun e=>D.r2.1 (e▸hc),fun e=>D.r2.2.1 (e▸hc),fun e=>D.r2.2.2 (e▸hc)⟩
 refine(show wpAny (model P w) A (field (.ref z) 2 >>= _) _ E s from wpAny_bind (wpAny_field hz rfl (x:=.bool false) rfl ?_))
 refine(show wpAny (model P w) A (field (.ref z) 3 >>= _) _ E s from wpAny_bind (wpAny_field hz rfl (x:=.ref TI) rfl (wpAny_bind (wpAny_seqItems hI rfl ?_))))
 refine(show wpAny (model P w) A (Builtin.SmallTypes.ownedTupleIsFree (.ref z) >>= _) _ E s from wpAny_bind (Qo hz hr fun g1 z1 s1=>?_))
 simp only[Bool.false_eq_true,if_false]
 refine wpAny_bind ?_
 rw[<-Array.forIn_toList]
 simp only[List.forIn_cons,List.forIn_nil]
 refine wpAny_bind (wpAny_bind (wpAny_holding ?_))
 refine(show wpAny (model P w) A (Builtin.SmallTypes.nextOf (.ref i1) >>= _) _ _ _ from wpAny_bind (N1.item _ _ _ k _ (N1.keep _ _ _ h1 fun c hc o e=>s1.extBut _ _ (nr1 hc).1 e) hx fun g2 x tk1 yx t1 s2=>wpAny_pure ?_))
 refine wpAny_pure (wpAny_bind (wpAny_bind (wpAny_holding ?_)))
 refine(show wpAny (model P w) A (Builtin.SmallTypes.nextOf (.ref i2) >>= _) _ _ _ from wpAny_bind (N2.item _ _ _ k _ (N2.keep _ _ _ h2 fun c hc o e=>s2.extBut _ _ (nr2 hc).2.2 (s1.extBut _ _ (nr2 hc).1 e)) hy fun g4 y tk2 yy t2 s4=>wpAny_pure ?_))
 refine wpAny_pure (wpAny_pure (wpAny_bind (wpAny_newTuple ?_ (by show 2<=sizeLine; decide))))
 have sz:g4.objs.size=s.heap.objs.size:=by rw[s4.1,s2.1,s1.1]
 refine wpAny_pure ⟨_,rfl, ?_⟩
 show Q (.ref g4.objs.size) _
 rw[sz]
 refine q _ x y tk2 yx yy ?_ ?_ ?_ ?_ ?_
 ·exact Heap.get?_push_of_some _ (s4.extBut _ _ d4.symm (s2.extBut _ _ d3.symm z1))
 ·exact N1.keep _ _ _ t1 fun c hc o e=>Heap.get?_push_of_some _ (s4.extBut _ _ (nr1 hc).2.2 e)
 ·exact N2.keep _ _ _ t2 fun c hc o e=>Heap.get?_push_of_some _ e
 ·rw[<-sz]; exact Heap.get?_push_size _ rfl
 ·exact fun c o c1 c3 c4 e=>Heap.get?_push_of_some _ (s4.extBut _ _ c4 (s2.extBut _ _ c3 (s1.extBut _ _ c1 e)))
theorem zip_fin2 {r z TI TO i1 i2:Addr} {bb:Bool} {ot:Obj} {rd1 rd2:List Addr} {st1 st2:Nat->Heap->Prop} {n1 n2:Nat} {yl1 yl2:Nat->Value->Prop} {k:Nat} {Q:PySem.Fin->Shared->Prop} (hh:A.handled=none) (D:ZA5 z TI TO i1 i2 rd1 rd2) (N1:Nx P w i1 rd1 st1 n1 yl1) (N2:Nx P w i2 rd2 st2 n2 yl2)
  (hz:jO s.heap z TI TO r bb) (hr:s.heap.get? r=some ot) (hI:IsPair s.heap TI (.ref i1) (.ref i2)) (h1:st1 k s.heap) (he:n1<=k)
  (q:∀h' e tk,(∀c o,c≠z->c≠TO->c≠i1->c≠i2->s.heap.get? c=some o->h'.get? c=some o)->(∃o,h'.get? e=some o/\o.cls=.type "StopIteration")->E (.ref e) { s with heap:=h',toks:=tk }) :
  wpAny (model P w) A (Builtin.«zip.__next__» ⟨[.ref z], []⟩) Q E s:=by
 obtain⟨d1,d2,d3,d4,d5,d6,d7,d8,d9,d10⟩:=D.a
 have nr1:∀{c},c∈rd1->c≠z/\c≠TO/\c≠i2:=fun hc=>⟨fun e=>D.r1.1 (e▸hc),fun e=>D.r1.2.1 (e▸hc),fun e=>D.r1.2.2 (e▸hc)⟩
 refine(show wpAny (model P w) A (field (.ref z) 2 >>= _) _ E s from wpAny_bind (wpAny_field hz rfl (x:=.bool false) rfl ?_))
 refine(show wpAny (model P w) A (field (.ref z) 3 >>= _) _ E s from wpAny_bind (wpAny_field hz rfl (x:=.ref TI) rfl (wpAny_bind (wpAny_seqItems hI rfl ?_))))
 refine(show wpAny (model P w) A (Builtin.SmallTypes.ownedTupleIsFree (.ref z) >>= _) _ E s from wpAny_bind (Qo hz hr fun g1 z1 s1=>?_))
 simp only[Bool.false_eq_true,if_false]
 refine wpAny_bind ?_
 rw[<-Array.forIn_toList]
 simp only[List.forIn_cons,List.forIn_nil]
 refine wpAny_bind (wpAny_bind (wpAny_holding ?_))
 have k1:=N1.keep _ _ g1 h1 fun c hc o e=>s1.extBut _ _ (nr1 hc).1 e
 refine(show wpAny (model P w) A (Builtin.SmallTypes.nextOf (.ref i1) >>= _) _ _ _ from wpAny_bind (N1.fin _ _ _ k _ hh k1 he fun g2 e s2 ee=>?_))
 exact q g2 e _ (fun c o c1 _ c3 _ x=>s2 _ _ c3 (s1.extBut _ _ c1 x)) ee
def ZTs (N:Nat) (xs ys:List Value) (h:Heap) (Ts:List Addr):Prop:=Ts.Nodup/\(∀T∈Ts,N<=T)/\∀(j:Nat) T,Ts[j]?=some T->∃x y,xs[j]?=some x/\ys[j]?=some y/\IsPair h T x y
def ZFr (N:Nat) (z TI TO:Addr) (i:Nat) (h:Heap):Prop:=(i=0/\IsZip h z TI TO .none)\/(0<i/\∃r b o,jO h z TI TO r b/\h.get? r=some o/\N<=r)
structure ZC (st1 st2:Nat->Heap->Prop) (N:Nat) (xs ys:List Value) (z TI TO i1 i2:Addr) (i:Nat) (h:Heap) (Ts:List Addr):Prop where
 I:IsPair h TI (.ref i1) (.ref i2)
 O:∃a b,IsPair h TO a b
 a:st1 i h
 b:st2 i h
 f:ZFr N z TI TO i h
 t:ZTs N xs ys h Ts
 l:Ts.length=i
theorem ZTs.keep {N:Nat} {xs ys:List Value} {h h':Heap} {Ts:List Addr} (z:ZTs N xs ys h Ts) (k:∀c o,N<=c->h.get? c=some o->h'.get? c=some o):ZTs N xs ys h' Ts :=
 ⟨z.1,z.2.1,fun j T e=>let⟨x,y,a,b,c⟩:=z.2.2 j T e; ⟨x,y,a,b,k _ _ (z.2.1 T (List.mem_of_getElem? e)) c⟩⟩
theorem ZTs.add {N:Nat} {xs ys:List Value} {h h':Heap} {Ts:List Addr} {x y:Value} {T:Addr} (z:ZTs N xs ys h Ts) (k:∀c o,N<=c->h.get? c=some o->h'.get? c=some o) (hT:h.objs.size<=T) (hN:N<=T) (hx:xs[Ts.length]?=some x) (hy:ys[Ts.length]?=some y) (e:IsPair h' T x y):ZTs N xs ys h' (Ts++[T]):=by
 have z':=z.keep k
 refine⟨List.nodup_append.mpr ⟨z.1,by simp,fun a ha b hb e=>?_⟩,fun a ha=>?_,fun j a ha=>?_⟩
 ·obtain⟨j,hj⟩:=List.getElem?_of_mem ha
  obtain⟨x,y,_,_,p⟩:=z.2.2 j a hj
  rw[List.mem_singleton.mp hb] at e
  rw[e] at p
  exact absurd (Heap.lt_size p) (Nat.not_lt.mpr hT)
 ·rcases List.mem_append.mp ha with ha|ha
  ·exact z.2.1 a ha
  ·rw[List.mem_singleton.mp ha]; exact hN
 ·by_cases hj:j<Ts.length
  ·rw[List.getElem?_append_left hj] at ha
   exact z'.2.2 j a ha
  ·rw[List.getElem?_append_right (by omega)] at ha
   have:j-Ts.length=0:=by
    have:=(List.getElem?_eq_some_iff.mp ha).1
    simp at this; omega
   rw[this] at ha
   cases ha
   have:j=Ts.length:=by omega
   subst this
   exact⟨x,y,hx,hy,e⟩
theorem zip_next {z TI TO i1 i2:Addr} {rd1 rd2:List Addr} {st1 st2:Nat->Heap->Prop} {N n i:Nat} {xs ys:List Value} {Ts:List Addr} {Q:Option Value->Shared->Prop} (D:ZA5 z TI TO i1 i2 rd1 rd2) (N1:Nx P w i1 rd1 st1 n fun i x=>xs[i]?=some x) (N2:Nx P w i2 rd2 st2 n fun i x=>ys[i]?=some x)
  (hN:∀c,c∈[z,TI,TO,i1,i2]->c<N) (hs:N<=s.heap.objs.size) (hi:i<n) (c:ZC st1 st2 N xs ys z TI TO i1 i2 i s.heap Ts)
  (q:∀h' tk,ZC st1 st2 N xs ys z TI TO i1 i2 (i+1) h' (Ts++[s.heap.objs.size])->(∀c o,c∉[z,TO,i1,i2]->s.heap.get? c=some o->h'.get? c=some o)->Q (some (.ref s.heap.objs.size)) { s with heap:=h',toks:=tk }) :
  wpAny (model P w) A (pyNext (.ref z)) Q E s:=by
 have d:=D.a
 obtain⟨hI,⟨a,b,hO⟩,h1,h2,hf,ht,hl⟩:=c
 have nN:∀{c:Addr},N<=c->c≠z/\c≠TI/\c≠TO/\c≠i1/\c≠i2:=fun h=>⟨fun e=>absurd (hN z (by simp)) (Nat.not_lt.mpr (e▸h)),fun e=>absurd (hN TI (by simp)) (Nat.not_lt.mpr (e▸h)),fun e=>absurd (hN TO (by simp)) (Nat.not_lt.mpr (e▸h)),fun e=>absurd (hN i1 (by simp)) (Nat.not_lt.mpr (e▸h)),fun e=>absurd (hN i2 (by simp)) (Nat.not_lt.mpr (e▸h))⟩
 rcases hf with⟨_,hz⟩|⟨_,r,bb,o,hz,hr,hrN⟩
 ·have hT:s.TypeIs (.ref z) "zip" := ⟨_,hz,rfl⟩
  unfold pyNext
  refine wpAny_bind (wpAny_attempt (wpAny_callSpecial?_slot (name:=Str.ofString "__next__") hT F.slot_zip_next (wpAny_call_entry F.slot_zip_next hT F.entry_zip_next (zip_it D N1 N2 hz hI hO h1 h2 hi hi fun h' u v tk yu yv c1 c2 c3 c4 c5 c6 c7=>wpAny_pure (q h' tk ⟨c7 _ _ d.1 d.2.2.2.2.1 d.2.2.2.2.2.1 d.2.2.2.2.2.2.1 hI,⟨_,_,c2⟩,c3,c4, .inr ⟨Nat.succ_pos _,_,false,_,c1,c5,hs⟩,ht.add (fun c o hc e=>c7 c o (nN hc).1 (nN hc).2.2.1 (nN hc).2.2.2.1 (nN hc).2.2.2.2 e) (Nat.le_refl _) hs (by rw[hl]; exact yu) (by rw[hl]; exact yv) c5,by simp[hl]⟩ fun c o hc e=>?_)) (F.args_zip_next_1 _))))
  simp only[List.mem_cons,List.not_mem_nil,or_false,not_or] at hc
  exact c7 c o hc.1 hc.2.1 hc.2.2.1 hc.2.2.2 e
 ·have hT:s.TypeIs (.ref z) "zip" := ⟨_,hz,rfl⟩
  unfold pyNext
  refine wpAny_bind (wpAny_attempt (wpAny_callSpecial?_slot (name:=Str.ofString "__next__") hT F.slot_zip_next (wpAny_call_entry F.slot_zip_next hT F.entry_zip_next (zip_it2 D N1 N2 hz hr hI h1 h2 hi hi fun h' u v tk yu yv c1 c3 c4 c5 c7=>wpAny_pure (q h' tk ⟨c7 _ _ d.1 d.2.2.2.2.2.1 d.2.2.2.2.2.2.1 hI,⟨a,b,c7 _ _ d.2.1 d.2.2.2.2.2.2.2.1 d.2.2.2.2.2.2.2.2.1 hO⟩,c3,c4, .inr ⟨Nat.succ_pos _,r,true,o,c1,c7 _ _ (nN hrN).1 (nN hrN).2.2.2.1 (nN hrN).2.2.2.2 hr,hrN⟩,ht.add (fun c o hc e=>c7 c o (nN hc).1 (nN hc).2.2.2.1 (nN hc).2.2.2.2 e) (Nat.le_refl _) hs (by rw[hl]; exact yu) (by rw[hl]; exact yv) c5,by simp[hl]⟩ fun c o hc e=>?_)) (F.args_zip_next_1 _))))
  simp only[List.mem_cons,List.not_mem_nil,or_false,not_or] at hc
  exact c7 c o hc.1 hc.2.2.1 hc.2.2.2 e
theorem zip_stop {z TI TO i1 i2:Addr} {rd1 rd2:List Addr} {st1 st2:Nat->Heap->Prop} {N n:Nat} {xs ys:List Value} {Ts:List Addr} {Q:Option Value->Shared->Prop} (hh:A.handled=none) (D:ZA5 z TI TO i1 i2 rd1 rd2) (N1:Nx P w i1 rd1 st1 n fun i x=>xs[i]?=some x) (N2:Nx P w i2 rd2 st2 n fun i x=>ys[i]?=some x)
  (h0:0<n) (c:ZC st1 st2 N xs ys z TI TO i1 i2 n s.heap Ts)
  (q:∀h' tk,(∀c o,c∉[z,TO,i1,i2]->s.heap.get? c=some o->h'.get? c=some o)->Q none { s with heap:=h',toks:=tk }) :
  wpAny (model P w) A (pyNext (.ref z)) Q E s:=by
 obtain⟨hI,⟨a,b,hO⟩,h1,h2,hf,ht,hl⟩:=c
 rcases hf with⟨z0,_⟩|⟨_,r,bb,o,hz,hr,hrN⟩
 ·omega
 have hT:s.TypeIs (.ref z) "zip" := ⟨_,hz,rfl⟩
 unfold pyNext
 refine wpAny_bind (wpAny_attempt (wpAny_callSpecial?_slot (name:=Str.ofString "__next__") hT F.slot_zip_next (wpAny_call_entry F.slot_zip_next hT F.entry_zip_next (zip_fin2 hh D N1 N2 hz hr hI h1 (Nat.le_refl _) fun h' e tk hk ⟨o,ho,hc⟩=>?_) (F.args_zip_next_1 _))))
 refine wpAny_bind (wpAny_isInstance (T := "StopIteration") (b:=true) ⟨o,ho,hc⟩ isSubtype_stop (wpAny_pure (q h' tk fun c o hc e=>?_)))
 simp only[List.mem_cons,List.not_mem_nil,or_false,not_or] at hc
 exact hk c o hc.1 hc.2.1 hc.2.2.1 hc.2.2.2 e
theorem ZC.keep {z TI TO i1 i2:Addr} {rd1 rd2:List Addr} {st1 st2:Nat->Heap->Prop} {N n i:Nat} {xs ys:List Value} {Ts:List Addr} {h h':Heap} (N1:Nx P w i1 rd1 st1 n fun i x=>xs[i]?=some x) (N2:Nx P w i2 rd2 st2 n fun i x=>ys[i]?=some x)
  (c:ZC st1 st2 N xs ys z TI TO i1 i2 i h Ts) (k:∀b o,(N<=b\/b∈[z,TI,TO]\/b∈rd1\/b∈rd2)->h.get? b=some o->h'.get? b=some o):ZC st1 st2 N xs ys z TI TO i1 i2 i h' Ts where
 I:=k _ _ (.inr (.inl (by simp))) c.I
 O:=let⟨a,b,e⟩:=c.O; ⟨a,b,k _ _ (.inr (.inl (by simp))) e⟩
 a:=N1.keep _ _ _ c.a fun b hb o e=>k b o (.inr (.inr (.inl hb))) e
 b:=N2.keep _ _ _ c.b fun b hb o e=>k b o (.inr (.inr (.inr hb))) e
 f:=c.f.elim (fun⟨e,h⟩=>.inl ⟨e,k _ _ (.inr (.inl (by simp))) h⟩) fun⟨e,r,b,o,h1,h2,h3⟩=>.inr ⟨e,r,b,o,k _ _ (.inr (.inl (by simp))) h1,k _ _ (.inl h3) h2,h3⟩
 t:=c.t.keep fun b o hb e=>k b o (.inl hb) e
 l:=c.l
theorem ext_zip {z TI TO i1 i2 S:Addr} {rd1 rd2:List Addr} {st1 st2:Nat->Heap->Prop} {N n:Nat} {xs ys:List Value} {res:Value} {R:Result->Shared->Prop} (hh:A.handled=none) (D:ZA5 z TI TO i1 i2 rd1 rd2) (N1:Nx P w i1 rd1 st1 n fun i x=>xs[i]?=some x) (N2:Nx P w i2 rd2 st2 n fun i x=>ys[i]?=some x)
  (h0:0<n) (hn:n<=sizeLine) (hN:∀c,c∈[z,TI,TO,i1,i2]->c<N) (hSN:S<N) (hS0:S∉[z,TI,TO,i1,i2]) (hS1:S∉rd1) (hS2:S∉rd2) :
  ∀(k i:Nat) (s:Shared) (Ts:List Addr) (c:Nat),n-i=k->i<=n->N<=s.heap.objs.size->ZC st1 st2 N xs ys z TI TO i1 i2 i s.heap Ts->s.heap.get? S=some { cls:=.type "list", dict:=none,data:=.seq (Ts.map Value.ref).toArray c,slots:=#[] } ->
  (∀h' tk Ts' c',(∀b o,b∉[S,z,TO,i1,i2]->s.heap.get? b=some o->h'.get? b=some o)->h'.get? S=some { cls:=.type "list", dict:=none,data:=.seq (Ts'.map Value.ref).toArray c',slots:=#[] }->ZTs N xs ys h' Ts'->Ts'.length=n->R (.ok (.ret res)) { s with heap:=h',toks:=tk }) ->
  codeAny (model P w) A (.builtin "list.extend.loop" ⟨[.ref S, .ref z,res], []⟩) R s:=by
 have hS0':S∉[z,TO,i1,i2]:=fun h=>hS0 (by
  simp only[List.mem_cons,List.not_mem_nil,or_false] at h ⊢
  rcases h with h|h|h|h
  ·exact .inl h
  ·exact .inr (.inr (.inl h))
  ·exact .inr (.inr (.inr (.inl h)))
  ·exact .inr (.inr (.inr (.inr h))))
 intro k
 induction k with
 |zero =>
  intro i s Ts c hk hi hs C hS hR
  have hin:i=n:=by omega
  subst hin
  refine codeAny_builtin F.entry_extend_loop ?_
  rw[Around.under_plainId F.plain_extend_loop _]
  refine(show wpAny _ A.in1 (pyNext (.ref z) >>= _) _ _ s from wpAny_bind (zip_stop hh D N1 N2 h0 C fun h' tk kp=>wpAny_pure (hR h' tk Ts c (fun b o hb e=>kp b o (fun h=>hb (List.mem_cons_of_mem _ h)) e) (kp S _ hS0' hS) (C.t.keep fun b o hb e=>kp b o (fun h=>?_) e) C.l)))
  simp only[List.mem_cons,List.not_mem_nil,or_false] at h
  rcases h with rfl|rfl|rfl|rfl
  all_goals exact absurd (hN _ (by simp)) (Nat.not_lt.mpr hb)
 |succ k ih =>
  intro i s Ts c hk hi hs C hS hR
  have hlt:i<n:=by omega
  refine codeAny_builtin F.entry_extend_loop ?_
  rw[Around.under_plainId F.plain_extend_loop _]
  refine(show wpAny _ A.in1 (pyNext (.ref z) >>= _) _ _ s from wpAny_bind (zip_next D N1 N2 hN hs hlt C fun h' tk C' kp=>?_))
  have hS':=kp S _ hS0' hS
  have hsz:s.heap.objs.size<h'.objs.size:=by
   obtain⟨_,_,q⟩:=C'.t
   obtain⟨x,y,_,_,p⟩:=q Ts.length s.heap.objs.size (by simp)
   exact Heap.lt_size p
  have hls:(Ts.map Value.ref).toArray.size=i:=by simp[C.l]
  refine(show wpAny _ A.in1 (updateSeq S (·.push (.ref s.heap.objs.size)) >>= _) _ _ _ from wpAny_bind ?_)
  have eU:Obj.mapSeq (·.push (Value.ref s.heap.objs.size)) { cls:=.type "list", dict:=none,data:=.seq (Ts.map Value.ref).toArray c,slots:=#[] }={ cls:=.type "list", dict:=none,data:=.seq ((Ts++[s.heap.objs.size]).map Value.ref).toArray (c+1),slots:=#[] }:=by
   simp[Obj.mapSeq]
  refine wpAny_updateSeq hS' rfl (wpAny_pure ⟨plainId_quiet F.plain_extend_loop _,ih (i+1) _ (Ts++[s.heap.objs.size]) (c+1) (by omega) hlt ?_ (C'.keep N1 N2 fun b o hb e=>?_) ?_ fun h'' tk' Ts' c' kp' hS'' t' l'=>?_⟩) (by rw[hls]; omega) (by show((Ts.map Value.ref).toArray.push _).size<=sizeLine+1; rw[Array.size_push,hls]; omega)
  ·show N<=(h'.update _ _).objs.size
   rw[Heap.size_update]; omega
  ·refine(Heap.get?_update_other _ _ (fun h:S=b=>?_)).trans e
   subst h
   rcases hb with hb|hb|hb|hb
   ·exact absurd hSN (Nat.not_lt.mpr hb)
   ·refine hS0 ?_
    simp only[List.mem_cons,List.not_mem_nil,or_false] at hb ⊢
    rcases hb with h|h|h
    ·exact .inl h
    ·exact .inr (.inl h)
    ·exact .inr (.inr (.inl h))
   ·exact hS1 hb
   ·exact hS2 hb
  ·rw[<-eU]; exact Heap.get?_update_self _ hS' rfl
  ·refine hR h'' tk' Ts' c' (fun b o hb e=>kp' b o hb ((Heap.get?_update_other _ _ (fun h:S=b=>hb (by rw[h]; simp))).trans (kp b o (fun h=>hb (List.mem_cons_of_mem _ h)) e))) hS'' t' l'
theorem Xd:typeLookup (.type "zip") "__len__" = pure none:=by rw[typeLookup_type,builtinLookup_eq_fast]; kernel_rfl
theorem Zk:typeLookup (.type "zip") "__length_hint__" = pure none:=by rw[typeLookup_type,builtinLookup_eq_fast]; kernel_rfl
theorem VE {z TI TO i1 i2:Addr} {rd1 rd2:List Addr} {st1 st2:Nat->Heap->Prop} {n:Nat} {xs ys:List Value} {Q:List Value->Shared->Prop} (hh:A.handled=none) (D:ZA5 z TI TO i1 i2 rd1 rd2) (N1:Nx P w i1 rd1 st1 n fun i x=>xs[i]?=some x) (N2:Nx P w i2 rd2 st2 n fun i x=>ys[i]?=some x)
  (h0:0<n) (hn:n<=sizeLine) (hN:∀c,c∈[z,TI,TO,i1,i2]->c<s.heap.objs.size) (hr1:∀c∈rd1,c<s.heap.objs.size) (hr2:∀c∈rd2,c<s.heap.objs.size) (hz:IsZip s.heap z TI TO .none) (hI:IsPair s.heap TI (.ref i1) (.ref i2)) {a b:Value} (hO:IsPair s.heap TO a b) (h1:st1 0 s.heap) (h2:st2 0 s.heap)
  (q:∀h' tk Ts,(∀b o,b∉[z,TO,i1,i2]->s.heap.get? b=some o->h'.get? b=some o)->ZTs (s.heap.objs.size+1) xs ys h' Ts->Ts.length=n->Q (Ts.map Value.ref) { s with heap:=h',toks:=tk }) :
  wpAny (model P w) A (collect (.ref z)) Q E s:=by
 have ne:∀{c:Addr},c<s.heap.objs.size->s.heap.objs.size≠c:=fun h=>Nat.ne_of_gt h
 have hzS:s.heap.objs.size≠z:=ne (hN z (by simp))
 have hS0:s.heap.objs.size∉[z,TI,TO,i1,i2]:=fun h=>absurd (hN _ h) (Nat.lt_irrefl _)
 unfold collect
 refine wpAny_bind (wpAny_runValue (codeAny_builtin F.entry_proto_collect ?_))
 rw[Around.under_plainId F.plain_proto_collect _]
 refine(show wpAny _ A.in1 (newList [] >>= fun l=>again (.builtin "list.__iadd__" ⟨[l, .ref z], []⟩)) _ _ s from wpAny_bind (wpAny_newObj_type ?_))
 refine wpAny_pure ⟨plainId_quiet F.plain_list_iadd _,codeAny_builtin F.entry_list_iadd ?_⟩
 rw[Around.under_plainId F.plain_list_iadd _]
 have up:∀b o,s.heap.get? b=some o->(s.heap.push { cls:=.type "list", data:=.seq ([]:List Value).toArray }).get? b=some o:=fun b o e=>Heap.get?_push_of_some _ e
 have hT:Shared.TypeIs { s with heap:=s.heap.push { cls:=.type "list", data:=.seq ([]:List Value).toArray } } (.ref z) "zip" := ⟨_,up _ _ hz,rfl⟩
 refine(show wpAny _ A.in1 (Builtin.List.listExtendWith (.ref s.heap.objs.size) (.ref z) (.ref s.heap.objs.size)) _ _ _ from ?_)
 unfold Builtin.List.listExtendWith
 refine wpAny_bind (wpAny_typeOf hT ?_)
 have e1:Builtin.List.listSameRef (.ref s.heap.objs.size) (.ref z)=false:=by simp[Builtin.List.listSameRef,hzS]
 have e2:(Value.type "zip" == Value.type "list")=false:=by decide
 have e3:(Value.type "zip" == Value.type "tuple")=false:=by decide
 simp only[e1,e2,e3,Bool.or_false,Bool.false_eq_true,if_false]
 refine wpAny_bind (wpAny_pyIter_zip (up _ _ hz) ?_)
 refine wpAny_bind (wpAny_holding ?_)
 unfold Builtin.List.listLengthHint
 refine wpAny_bind (wpAny_specialOf hT Xd ?_)
 refine(show wpAny _ A.in1 (specialOf (Value.ref z) (Str.ofString "__length_hint__") >>= _) _ _ _ from wpAny_bind (wpAny_specialOf hT Zk ?_))
 refine wpAny_pure ?_
 refine(show wpAny _ A.in1 (rule "list.extend.makes-room" >>= fun _=>Builtin.List.listTouch (.ref s.heap.objs.size) >>= fun _ =>
  again (.builtin "list.extend.loop" ⟨[.ref s.heap.objs.size, .ref z, .ref s.heap.objs.size], []⟩)) _ _ _ from wpAny_bind (wpAny_rule ?_))
 have hS₁:(s.heap.push { cls:=.type "list", data:=.seq ([]:List Value).toArray }).get? s.heap.objs.size=some { cls:=.type "list", data:=.seq ([]:List Value).toArray }:=Heap.get?_push_size _ rfl
 refine wpAny_bind ?_
 refine(show wpAny _ A.in1 (updateSeq s.heap.objs.size (·.push .none) >>= fun _=>updateSeq s.heap.objs.size (·.pop)) _ _ _ from wpAny_bind (wpAny_updateSeq hS₁ rfl ?_))
 have hS₂:=Heap.get?_update_self (Obj.mapSeq (·.push Value.none)) hS₁ rfl
 refine wpAny_updateSeq hS₂ rfl ?_
 have hS₃:=Heap.get?_update_self (Obj.mapSeq (·.pop)) hS₂ rfl
 have oth:∀b o,s.heap.get? b=some o ->
   (((s.heap.push { cls:=.type "list", data:=.seq ([]:List Value).toArray }).update s.heap.objs.size (Obj.mapSeq (·.push Value.none))).update s.heap.objs.size (Obj.mapSeq (·.pop))).get? b=some o :=
  fun b o e=>(Heap.get?_update_other _ _ (ne (Heap.lt_size e))).trans ((Heap.get?_update_other _ _ (ne (Heap.lt_size e))).trans (up b o e))
 refine wpAny_pure ⟨plainId_quiet F.plain_extend_loop _,ext_zip (N:=s.heap.objs.size+1) (by exact hh) D N1 N2 h0 hn (fun c hc=>Nat.lt_succ_of_lt (hN c hc)) (Nat.lt_succ_self _) hS0 (fun h=>absurd (hr1 _ h) (Nat.lt_irrefl _)) (fun h=>absurd (hr2 _ h) (Nat.lt_irrefl _)) n 0 _ [] _ rfl (Nat.zero_le _) ?_ ⟨oth _ _ hI,⟨_,_,oth _ _ hO⟩,N1.keep _ _ _ h1 fun c _ o e=>oth c o e,N2.keep _ _ _ h2 fun c _ o e=>oth c o e, .inl ⟨rfl,oth _ _ hz⟩,⟨by simp,by simp,by simp⟩,rfl⟩ hS₃ fun h' tk Ts c kp hS' t' l'=>?_⟩
 ·show _<=(Heap.update _ _ _).objs.size
  rw[Heap.size_update,Heap.size_update,Heap.size_push]
  exact Nat.le_refl _
 ·refine(show wpAny _ A (load s.heap.objs.size >>= _) _ _ _ from wpAny_bind (wpAny_load hS' (wpAny_pure ?_)))
  refine q h' tk Ts (fun b o hb e=>kp b o (fun h=>?_) (oth b o e)) t' l'
  rcases List.mem_cons.mp h with h|h
  ·exact ne (Heap.lt_size e) h.symm
  ·exact hb h
end
end L2
namespace L2
open PySem PySem.Spec PyProof.Rows PySem.W
section
variable {X:Cx}
def TabH (pos:Pos) (qual:Str) (H:Hp) (P:Addr) (ps:Array Value):Prop:=H P=some (.tbl ps)/\TriplesOk ps.toList/\(codeAmong pos ps.toList=none\/∃c,codeAmong pos ps.toList=some (.ref c)/\H c=some (Z5 c qual))
structure LamC (X:Cx) (c P:Addr):Prop where
 code:X.env.code=.ref c
 hd:CodeHd X.base c P
 bm:X.base.BuiltinsAt X.mg P
def KeyOut (xs:List V) (ks:List Int) (out:List (V×Int)):Prop:=out.Perm (xs.zip ks)/\out.Pairwise fun p q=>p.2<=q.2
def rLamSort (K:PySem.W.Frag) (pos:Pos) (qual:Str) (P:Addr):List V->Hp->VK->Prop:=fun vs H Q=>∃(a1 a2:Addr) (xs:List V) (ks:List Int) (ps:Array Value),
 vs=[.ref a1, .ref a2]/\SqT K H a1 xs/\SqL K H a2 (ks.map V.int)/\xs.length=ks.length/\0<ks.length/\ks.length<64/\TabH pos qual H P ps /\
 ∀(out:List (V×Int)) (ts:List Addr) (l:Addr) (H':Hp) (ps':Array Value),KeyOut xs ks out->(∀b o,H b=some o->b≠P->H' b=some o)->TabH pos qual H' P ps'->(∀c,codeAmong pos ps'.toList=some (.ref c)->codeAmong pos ps.toList=some (.ref c)\/H c=none) ->
  H l=none->H' l=some (.lst (ts.map V.ref))->(∀t∈ts,H t=none)->ts.length=out.length->(∀(i:Nat) t x k,ts[i]?=some t->out[i]?=some (x,k)->H' t=some (.tup [x, .int k]))->Q (.ref l) H'
def xI (K:PySem.W.Frag) (pos:Pos) (qual:Str) (P:Addr) (ta:TA):TE:=fun σ H Q=>ta σ H fun vs H1=>rLamSort K pos qual P vs H1 Q
theorem Q8 {pos:Pos} {v:Value}:∀{l:List Value},TriplesOk l->codeAmong pos l=none->codeAmong pos (l++[rawInt pos.line,rawInt pos.col,v])=some v/\TriplesOk (l++[rawInt pos.line,rawInt pos.col,v])
 | [],_,_=>⟨by simp[codeAmong,rawInt],trivial⟩
 |.int a t :: .int b u::c::r,h,e=>by
  have h:TriplesOk r:=h
  simp only[List.cons_append]
  unfold codeAmong at e ⊢
  split at e
  ·cases e
  ·rename_i hne
   obtain⟨i1,i2⟩:=Q8 h e
   rw[if_neg hne]
   exact⟨i1,i2⟩
theorem lam_grow {pins:List (Addr×Obj)} {σ:St} {H:Hp} {s:Shared} {h':Heap} {tk:Nat} {P c':Addr} {ps more:Array Value} {qual:Str} (I:Inv X pins σ H s) (hT:H P=some (.tbl ps)) (kp:∀b o,b≠P->s.heap.get? b=some o->h'.get? b=some o) (hP:h'.get? P=some (tabObj (ps++more)))
  (hc:s.heap.objs.size<=c') (hC:h'.CodeRec (.ref c') qual):Inv X pins σ (upd (upd H P (.tbl (ps++more))) c' (Z5 c' qual)) { s with heap:=h',toks:=tk }:=by
 have n0:H c'=none:=I.hok.fresh hc
 have nP:c'≠P:=fun z=>by rw[z,hT] at n0; cases n0
 have tr:∀b,b≠P->b≠c'->upd (upd H P (.tbl (ps++more))) c' (Z5 c' qual) b=H b:=fun b h1 h2=>by rw[upd_ne h2,upd_ne h1]
 have old:∀{b:Addr} {o:HO},H b=some o->b≠c':=fun e z=>by rw[z,n0] at e; cases e
 refine I.step (ch:=[]) (g':=s.gens) (d':=s.drawn) (fun b hb=>nomatch hb) (fun b o _ _ _ e n=>kp b o (fun z=>by rw[z,hT] at n; cases n) e) (fun b o _ _ _ e n=>⟨o.slots,kp b o (fun z=>by rw[z,hT] at n; cases n) e⟩) (fun b o _ e n=>?_) (fun b o _ e=>?_) (fun b xs e=>?_) (fun b o u e=>?_) (fun b qs e=>?_) (fun m hm=>?_) (fun b o e=>?_) I.bare
 ·rw[tr b (fun z=>by rw[z,hT] at n; cases n) (fun z=>by rw[z] at e; exact absurd (Heap.lt_size e) (Nat.not_lt.mpr hc))]
  exact n
 ·by_cases hb:b=P
  ·rw[hb]; exact⟨_,hP⟩
  ·exact⟨o,kp b o hb e⟩
 ·rw[tr b (fun z=>by rw[z,hT] at e; cases e) (old e)]; exact e
 ·rw[tr b (fun z=>by rw[z,hT] at e; cases e) (old e)]; exact e
 ·by_cases hb:b=P
  ·subst hb
   rw[hT] at e; cases e
   exact⟨more,by rw[upd_ne nP.symm,upd_same]⟩
  ·exact⟨#[],by rw[tr b hb (old e),e]; simp⟩
 ·obtain⟨o,es,ep,ho,r⟩:=hm
  exact⟨o,es,ep,kp _ _ (fun z=>by have:=I.free; rw[z,hT] at this; cases this) ho,r⟩
 ·by_cases hb:b=c'
  ·subst hb
   rw[upd_same] at e; cases e
   obtain⟨c2,oc,vs,tq,hc2,hoc,hd,hv⟩:=id hC
   cases hc2
   refine⟨hC,⟨oc,hoc⟩,fun h1 h2 hh k=>?_⟩
   obtain⟨c2,oc,vs,tq,hc2,hoc,hd,hv⟩:=hh
   cases hc2
   exact⟨_,oc,vs,tq,rfl,k _ hoc,hd,hv⟩
  ·rw[upd_ne hb] at e
   by_cases hp:b=P
   ·subst hp
    rw[upd_same] at e; cases e
    exact hP
   ·rw[upd_ne hp] at e
    refine(I.hok b o e).stay (fun a u ha q=>kp a u (fun z=>?_) q) (fun a q=>?_) fun a xs q=>?_
    ·rcases ha with ha|ha
     ·exact hp (ha▸z)
     ·rw[z,hT] at ha; cases ha
    ·rw[tr a (fun z=>by rw[z,hT] at q; cases q) (old q)]; exact q
    ·rw[tr a (fun z=>by rw[z,hT] at q; cases q) (old q)]; exact q
theorem V3 {pins:List (Addr×Obj)} {σ:St} {H:Hp} {s:Shared} {c P:Addr} {ps:Array Value} {params:Arguments} {body:Expr} {scope:Scope} {cl:List (Str×Addr)} {lpos:Pos} {Q:Value->Shared->Prop} {E:Value->Shared->Prop} {A:Around} (I:Inv X pins σ H s) (L:LamC X c P) (T:TabH lpos (X.env.qual ++ "<lambda>") H P ps)
  (hcl:closureFor scope X.env=pure cl) (hdf:defaultsOf params X.env=([], []))
  (q:∀f c' ctv h' tk H' ps',Inv X pins σ H' { s with heap:=h',toks:=tk }->(∀b o,b≠P->s.heap.get? b=some o->h'.get? b=some o)->h'.get? f=some (kla_obj "<lambda>" (X.env.qual ++ "<lambda>") params body scope cl ((X.mg "__name__").getD .none) c' ctv)->s.heap.objs.size<=f->h'.CodeRec (.ref c') (X.env.qual ++ "<lambda>") ->
   TabH lpos (X.env.qual ++ "<lambda>") H' P ps'->(∀b o,H b=some o->b≠P->H' b=some o)->(∀c,codeAmong lpos ps'.toList=some (.ref c)->codeAmong lpos ps.toList=some (.ref c)\/H c=none)->(∀b,H' b≠none->H b≠none\/h'.get? b≠none/\s.heap.objs.size<=b)->(H' f=none/\H' c'=some (Z5 c' (X.env.qual ++ "<lambda>")))->Q (.ref f) { s with heap:=h',toks:=tk }) :
  wpAny (model X.prog X.w) A (eval (.Lambda params body scope lpos) X.env) Q E s:=by
 obtain⟨hT,ht,hh⟩:=T
 have hPo:s.heap.get? P=some (tabObj ps):=I.hok P _ hT
 have hgs:s.heap.Ns mainGlobals X.mg:=I.ok.mod.glob.keeps I.bk
 obtain⟨bm,ob,b1,b2,b3,b4,b5,b6⟩:=L.bm
 have hgP:mainGlobals≠P:=fun z=>by
  obtain⟨o,es,ep,e,hd,_⟩:=hgs
  rw[z,hPo] at e; cases e; cases hd
 refine kla_eval hdf ?_
 rcases hh with hn|⟨c',hf,hc'⟩
 ·refine kla_makeFunction (mg:=X.mg) hcl I.ok.glob hgs L.code (L.hd.keeps I.bk) hPo ht hn hgP ⟨bm,ob,b1,b2,b3,b4,I.bk _ _ b5,b6⟩ fun c' ctv h' tk hx hge hlt hrec htb=>?_
  obtain⟨m1,m2⟩:=Q8 (v:=.ref c') ht hn
  have J:=lam_grow (tk:=tk) I hT (fun b o hb e=>hx b o hb e) htb hge hrec
  have n0:H c'=none:=I.hok.fresh hge
  have nP:c'≠P:=fun z=>by rw[z,hT] at n0; cases n0
  have pu:∀b o,h'.get? b=some o->(h'.push (kla_obj "<lambda>" (X.env.qual ++ "<lambda>") params body scope cl ((X.mg "__name__").getD .none) c' ctv)).get? b=some o:=fun b o e=>Heap.get?_push_of_some _ e
  have el:(ps++#[rawInt lpos.line,rawInt lpos.col, .ref c']).toList=ps.toList++[rawInt lpos.line,rawInt lpos.col, .ref c']:=by simp
  refine q h'.objs.size c' ctv _ tk _ (ps++#[rawInt lpos.line,rawInt lpos.col, .ref c']) (J.kept (t':=tk) pu) (fun b o hb e=>pu b o (hx b o hb e)) (Heap.get?_push_size _ rfl) ?_ ?_ ⟨by rw[upd_ne nP.symm,upd_same],by rw[el]; exact m2, .inr ⟨c',by rw[el]; exact m1,upd_same⟩⟩ (fun b o e hb=>?_) (fun c2 e=>?_) (fun b hb=>?_) ⟨J.hok.fresh (Nat.le_refl _),upd_same⟩
  ·exact Nat.le_trans hge (Nat.le_of_lt hlt)
  ·obtain⟨c2,oc,vs,tq,hc2,hoc,r⟩:=hrec
   exact⟨c2,oc,vs,tq,hc2,pu _ _ hoc,r⟩
  ·rw[upd_ne (fun z=>by rw[z,n0] at e; cases e),upd_ne hb]; exact e
  ·rw[el,m1] at e
   cases e
   exact .inr n0
  ·by_cases h1:b=c'
   ·refine .inr ⟨?_,h1▸hge⟩
    obtain⟨c2,oc,vs,tq,hc2,hoc,r⟩:=hrec
    cases hc2
    rw[h1,pu _ _ hoc]; simp
   ·rw[upd_ne h1] at hb
    by_cases h2:b=P
    ·rw[h2,hT]; exact .inl (by simp)
    ·rw[upd_ne h2] at hb; exact .inl hb
 ·refine kla_makeFunctionHit (mg:=X.mg) hcl I.ok.glob hgs L.code (L.hd.keeps I.bk) hPo ht hf ⟨bm,ob,b1,b2,b3,b4,I.bk _ _ b5,b6⟩ fun ctv h' tk hk hsz=>?_
  have pu:∀b o,s.heap.get? b=some o->(h'.push (kla_obj "<lambda>" (X.env.qual ++ "<lambda>") params body scope cl ((X.mg "__name__").getD .none) c' ctv)).get? b=some o:=fun b o e=>Heap.get?_push_of_some _ (hk b o e)
  refine q h'.objs.size c' ctv _ tk H ps (I.kept (t':=tk) pu) (fun b o _ e=>pu b o e) (Heap.get?_push_size _ rfl) hsz ?_ ⟨hT,ht, .inr ⟨c',hf,hc'⟩⟩ (fun _ _ e _=>e) (fun _ e=>.inl e) (fun b hb=>.inl hb) ⟨I.hok.fresh hsz,hc'⟩
  obtain⟨⟨c2,oc,vs,tq,hc2,hoc,r⟩,_⟩:=I.hok c' _ hc'
  exact⟨c2,oc,vs,tq,hc2,pu _ _ hoc,r⟩
abbrev lamP (x:Str) (ap:Pos):Arguments:={ posonlyargs:=[],args:=[{ arg:=x,annotation:=none,pos:=ap }],vararg:=none,kwonlyargs:=[],kw_defaults:=[],kwarg:=none,defaults:=[] }
abbrev lamS (x:Str):Scope:={ kind:=.function,names:=[(x, .local)],isGenerator:=false,isCoroutine:=false,more:=[] }
abbrev lamB (x:Str) (p1 p2 p3:Pos) (kk:Nat):Expr:=.Subscript (.Name x p1) (.Constant (.int 1) kk p2) p3
def kX (x:Str) (ap:Pos) (body:Expr):Prop:=∀(qual:Str) (pm ctv:Value) (c' T:Addr),bindArgs (kla_fn "<lambda>" qual (lamP x ap) body (lamS x) [] pm (.ref c') ctv) ⟨[.ref T], []⟩=pure [(x, .ref T)]
theorem lam_call {prog:Program} {w:World} {A:Around} {s:Shared} {Q:Value->Shared->Prop} {E:Value->Shared->Prop} {f c' T:Addr} {x qual:Str} {ap p1 p2 p3:Pos} {kk:Nat} {pm ctv u:Value} {k:Int} {t:Tok} (hx:(x==("__debug__" : Str))=false) (hb:kX x ap (lamB x p1 p2 p3 kk))
  (ho:s.heap.get? f=some (kla_obj "<lambda>" qual (lamP x ap) (lamB x p1 p2 p3 kk) (lamS x) [] pm c' ctv)) (hcd:s.heap.CodeRec (.ref c') qual) (hT:IsPair s.heap T u (.int k t)) (hroom:A.depth<recursionLimit) (hnl:s.heap.NoLimit)
  (q:∀h' tk,(∀b o,s.heap.get? b=some o->h'.get? b=some o)->Q (.int k t) { s with heap:=h',toks:=tk }):wpAny (model prog w) A (call (.ref f) [.ref T]) Q E s:=by
 refine wpAny_call (kla_callFunE hroom ho rfl rfl rfl rfl hcd ?_)
 rw[show bindArgs _ ⟨[.ref T], []⟩=pure [(x, .ref T)] from hb qual pm ctv c' T]
 refine wpAny_pure (wpAny_newFunctionEnv (fun y hy=>?_) (fun y hy=>?_) (fun h₁ hns hsb=>⟨hnl.fresh _ hsb, ?_⟩) rfl)
 ·rw[List.mem_singleton.mp hy]; simp
 ·rw[List.mem_singleton.mp hy]; simp[List.lookup]
 have up:∀b o,s.heap.get? b=some o->h₁.get? b=some o:=fun b o e=>hsb.extBut b o (Nat.ne_of_lt (Heap.lt_size e)) (Heap.get?_push_of_some _ e)
 refine kla_codeExpr ?_
 refine Subscript_ (wpAny_Name (wpAny_loadName_local rfl ?_ hns (v:=.ref T) ?_ ?_) hx)
 ·show(lamS x).names.lookup x=some .local
  simp[List.lookup]
 ·simp[List.lookup]
 refine wpAny_Constant_int ?_
 refine subscriptTail_builtinR (x:=.int k t) (T := "tuple") ⟨_,up _ _ hT,rfl⟩ slot_tuple_getitem.lookup ?_ (by rfl)
 refine getItem_tuple (j:=1) (x:=.int k t) (items:=#[u, .int k t]) ⟨_,up _ _ hT,rfl,_,rfl⟩ (by decide) (by decide) rfl rfl ⟨rfl, ?_⟩
 exact q h₁ _ up
theorem jD {α β:Type} (f:α->β) {m k:List β} (h:m.Perm k):∀l:List α,k=l.map f->∃l':List α,l'.Perm l/\m=l'.map f:=by
 induction h with
 |nil =>
  intro l e
  cases l with
  |nil=>exact⟨[], .nil,rfl⟩
  |cons a l=>cases e
 |cons x _ ih =>
  intro l e
  cases l with
  |nil=>cases e
  |cons a l =>
   injection e with e1 e2
   subst e1
   obtain⟨l',p,r⟩:=ih l e2
   exact⟨a::l',p.cons a,by rw[r]; rfl⟩
 |swap x y l0 =>
  intro l e
  cases l with
  |nil=>cases e
  |cons a l =>
   injection e with e1 e2
   cases l with
   |nil=>cases e2
   |cons b l =>
    injection e2 with e2 e3
    subst e1 e2 e3
    exact⟨b::a::l, .swap a b l,rfl⟩
 |trans _ _ ih1 ih2 =>
  intro l e
  obtain⟨l2,p2,r2⟩:=ih2 l e
  obtain⟨l1,p1,r1⟩:=ih1 l2 r2
  exact⟨l1,p1.trans p2,r1⟩
theorem zip3:∀{Ts:List Addr} {xs:List Value} {ks:List Int},Ts.length=ks.length->xs.length=ks.length->ks.zip (Ts.map Value.ref)=(Ts.zip (xs.zip ks)).map fun p:Addr×Value×Int=>(p.2.2,Value.ref p.1)
 | [],_,ks,h,_=>by
  cases ks with
  |nil=>rfl
  |cons=>cases h
 |T::Ts,xs,ks,h,h2=>by
  cases ks with
  |nil=>cases h
  |cons k ks =>
   cases xs with
   |nil=>cases h2
   |cons x xs =>
    simp only[List.map_cons,List.zip_cons_cons,List.cons.injEq,true_and]
    exact zip3 (by simpa using h) (by simpa using h2)
theorem VI {Ts:List Addr} {xs:List Value} {ks:List Int} {p:Addr×Value×Int} (h:p∈Ts.zip (xs.zip ks)):∃i:Nat,Ts[i]?=some p.1/\xs[i]?=some p.2.1/\ks[i]?=some p.2.2:=by
 obtain⟨i,hi⟩:=List.getElem?_of_mem h
 rw[List.getElem?_zip_eq_some] at hi
 obtain⟨h1,h2⟩:=hi
 rw[List.getElem?_zip_eq_some] at h2
 exact⟨i,h1,h2.1,h2.2⟩
theorem Zn {prog:Program} {w:World} {A:Around} {s:Shared} {Q:Value->Shared->Prop} {E:Value->Shared->Prop} {z TI TO i1 i2 L f c':Addr} {rd1 rd2:List Addr} {st1 st2:Nat->Heap->Prop} {m:Str->Option Value} {xs ys:List Value} {ks:List Int} {x qual:Str} {ap p1 p2 p3:Pos} {kk:Nat} {pm ctv a b:Value}
  (hh:A.handled=none) (D:ZA5 z TI TO i1 i2 rd1 rd2) (N1:Nx prog w i1 rd1 st1 ks.length fun i x=>xs[i]?=some x) (N2:Nx prog w i2 rd2 st2 ks.length fun i x=>ys[i]?=some x) (h0:0<ks.length) (h64:ks.length<64) (hxl:xs.length=ks.length)
  (hN:∀c,c∈[z,TI,TO,i1,i2]->c<s.heap.objs.size) (hr1:∀c∈rd1,c<s.heap.objs.size) (hr2:∀c∈rd2,c<s.heap.objs.size) (hz:IsZip s.heap z TI TO .none) (hI:IsPair s.heap TI (.ref i1) (.ref i2)) (hO:IsPair s.heap TO a b) (h1:st1 0 s.heap) (h2:st2 0 s.heap)
  (hns:s.heap.Ns L m) (hL:L∉[z,TO,i1,i2]) (hLs:cStatics≠L) (hys:∀(j:Nat) y k,ys[j]?=some y->ks[j]?=some k->∃t,y=.int k t) (hx:(x==("__debug__" : Str))=false) (hb:kX x ap (lamB x p1 p2 p3 kk))
  (ho:s.heap.get? f=some (kla_obj "<lambda>" qual (lamP x ap) (lamB x p1 p2 p3 kk) (lamS x) [] pm c' ctv)) (hfz:f∉[L,z,TO,i1,i2]) (hcd:s.heap.CodeRec (.ref c') qual) (hcz:c'∉[L,z,TO,i1,i2]) (hsz:cStatics∉[z,TO,i1,i2]) (hroom:A.in1.in1.depth<recursionLimit) (hnl:s.heap.NoLimit)
  (q:∀(D:Addr) h' tk c (Ts:List Addr) (tr:List (Addr×Value×Int)),h'.Ns L m->(∀b o,b≠L->b∉[z,TO,i1,i2]->s.heap.get? b=some o->h'.get? b=some o)->s.heap.objs.size<=D->(∀p∈tr,s.heap.objs.size<=p.1/\∃t,IsPair h' p.1 p.2.1 (.int p.2.2 t))->Ts.Nodup->D∉Ts->Ts.length=ks.length ->
   tr.Perm (Ts.zip (xs.zip ks))->(tr.Pairwise fun p q=>p.2.2<=q.2.2)->h'.get? D=some (seqObj "list" (tr.map fun p=>Value.ref p.1).toArray c)->Q (.ref D) { s with heap:=h',toks:=tk }) :
  wpAny (model prog w) A (call (.builtin "sorted") [.ref z] [(Str.ofString "key", .ref f)]) Q E s:=by
 refine call_function_entry_kw kind_sorted plain_sorted entry_sorted (ksk_s1 _ _) ?_
 unfold Builtin.«sorted»
 refine wpAny_bind (m:=checkCount "sorted" 1 1 _) (wpAny_pure ?_)
 refine wpAny_bind (VE hh D N1 N2 h0 (by rw[sizeLine_eq]; omega) hN hr1 hr2 hz hI hO h1 h2 fun g1 tk1 Ts kp ts tl=>?_)
 refine wpAny_bind (wpAny_newList ?_ (by rw[List.length_map,tl,sizeLine_eq]; omega))
 have pu:∀b o,g1.get? b=some o->(g1.push (seqObj "list" (Ts.map Value.ref).toArray 0)).get? b=some o:=fun b o e=>Heap.get?_push_of_some _ e
 have hoD:(g1.push (seqObj "list" (Ts.map Value.ref).toArray 0)).get? g1.objs.size=some (seqObj "list" (Ts.map Value.ref).toArray 0):=Heap.get?_push_size _ rfl
 have hsg:s.heap.objs.size<=g1.objs.size:=by
  obtain⟨T,hT⟩:∃T,Ts[0]?=some T:=⟨_,List.getElem?_eq_getElem (by omega)⟩
  obtain⟨_,_,_,_,p⟩:=ts.2.2 0 T hT
  exact Nat.le_of_lt (Nat.lt_of_le_of_lt (Nat.le_trans (Nat.le_succ _) (ts.2.1 T (List.mem_of_getElem? hT))) (Heap.lt_size p))
 have hns1:g1.Ns L m:=by
  obtain⟨o,es,ep,e,r⟩:=hns
  exact⟨o,es,ep,kp _ _ hL e,r⟩
 have nL:∀{b:Addr},s.heap.objs.size<=b->b≠L:=fun h e=>by
  rw[e] at h
  exact absurd hns.lt (Nat.not_lt.mpr h)
 have F:Fr h00 L (g1.push (seqObj "list" (Ts.map Value.ref).toArray 0)) m:=⟨hns1.keeps pu,fun b o e=>(by rw[kA] at e; cases e),Nat.zero_le _⟩
 have W:News h00 L (g1.push (seqObj "list" (Ts.map Value.ref).toArray 0)) (jH g1 L):=(X2 (h:=g1) (L:=L)).grown pu
 have inN:∀{b:Addr} {o:Obj},b∉[L,z,TO,i1,i2]->s.heap.get? b=some o->(b,o)∈jH g1 L:=fun {b o} hb e=>ki (kp b o (fun h=>hb (List.mem_cons_of_mem _ h)) e) fun h=>hb (by rw[h]; simp)
 obtain⟨c2,oc,vs,tq,hc2,hoc,hcv⟩:=id hcd
 cases hc2
 refine wpAny_bind (wpAny_holding (wpAny_call_entry_kw slot_list_sort ⟨_,hoD,rfl⟩ entry_list_sort ?body (ksk_l1 _ _)))
 case body =>
  show wpAny (model prog w) A.in1.in1 (Builtin.«list.sort» ⟨[.ref g1.objs.size], [(Str.ofString "key", .ref f)]⟩) _ _ _
  rw[ksk_t1]
  refine ksk_sort (kz:=ks) (vs:=Ts.map Value.ref) (news:=jH g1 L) F W hoD (nL hsg) (kA _) (fun p hp=>?_) (by rw[List.length_map,tl]) (by rw[List.length_map,tl]; exact h64) (fun i v k hv hk h tk own F' W'=>?_) fun h' tk out c F' W' ko=>⟨_,rfl,wpAny_pure ⟨_,rfl, ?_⟩⟩
  ·exact Nat.ne_of_lt (Heap.lt_size ((X2 (h:=g1) (L:=L)) p hp).1)
  ·obtain⟨T,hT,rfl⟩:∃T,Ts[i]?=some T/\v=.ref T:=by
    rw[List.getElem?_map] at hv
    obtain⟨T,h1,h2⟩:=Option.map_eq_some_iff.mp hv
    exact⟨T,h1,h2.symm⟩
   obtain⟨u,y,hu,hy,hp⟩:=ts.2.2 i T hT
   obtain⟨t,rfl⟩:=hys i y k hy hk
   have W2:∀p∈jH g1 L,h.get? p.1=some p.2:=fun p hp=>(W' p (List.mem_append_left _ hp)).1
   refine lam_call (E:=fun _ _=>False) hx hb (W2 _ (inN hfz ho)) ⟨c',oc,vs,tq,rfl,W2 _ (inN hcz hoc),hcv⟩ (u:=u) (k:=k) (t:=t) (W2 (T,_) (ki hp (nL (Nat.le_trans (Nat.le_succ _) (ts.2.1 T (List.mem_of_getElem? hT)))))) hroom ?_ fun h2 tk2 k2=>⟨h2,tk2,t,rfl,rfl,F'.kept k2,W'.grown k2⟩
   obtain⟨mc,⟨o,es,ep,e,r⟩,hmc⟩:=hnl
   exact⟨mc,⟨o,es,ep,W2 (cStatics,o) (inN (fun h=>(List.mem_cons.mp h).elim hLs hsz) e),r⟩,hmc⟩
  ·obtain⟨ps,pp,po,pw⟩:=ko
   obtain⟨tr,hp,rfl⟩:=jD (fun p:Addr×Value×Int=>(p.2.2,Value.ref p.1)) pp (Ts.zip (xs.zip ks)) (zip3 tl hxl)
   have D9:=W' (g1.objs.size,seqObj "list" out c) (.head _)
   have up:∀b o,b≠L->g1.get? b=some o->h'.get? b=some o:=fun b o hb e=>(W' _ (.tail _ (ki e hb))).1
   have eo:out=(tr.map fun p=>Value.ref p.1).toArray:=by
    rw[<-Array.toArray_toList (xs:=out),po,List.map_map]
    rfl
   rw[eo] at D9
   refine q g1.objs.size h' tk c Ts tr F'.ns (fun b o h1 h2 e=>up b o h1 (kp b o h2 e)) hsg (fun p hpm=>?_) ts.1 (fun hD=>?_) tl hp ?_ D9.1
   ·obtain⟨i,h1,h2,h3⟩:=VI (hp.subset hpm)
    obtain⟨u,y,hu,hy,hpp⟩:=ts.2.2 i p.1 h1
    rw[h2] at hu
    cases hu
    obtain⟨t,rfl⟩:=hys i y _ hy h3
    have hs1:=Nat.le_trans (Nat.le_succ _) (ts.2.1 p.1 (List.mem_of_getElem? h1))
    exact⟨hs1,t,up _ _ (nL hs1) hpp⟩
   ·obtain⟨i,hi⟩:=List.getElem?_of_mem hD
    obtain⟨_,_,_,_,hpp⟩:=ts.2.2 i _ hi
    exact absurd (Heap.lt_size hpp) (Nat.lt_irrefl _)
   ·rw[List.pairwise_map] at pw
    exact pw.imp fun h=>by simpa using h
def ZW (N H:Hp):Hp:=fun b=>match N b with
 |some o=>some o
 |none=>H b
theorem jf {N H:Hp} {b:Addr} {o:HO} (e:N b=some o):ZW N H b=some o:=by unfold ZW; rw[e]
theorem vm {N H:Hp} {b:Addr} (e:N b=none):ZW N H b=H b:=by unfold ZW; rw[e]
theorem Inv.many {pins:List (Addr×Obj)} {σ:St} {H N:Hp} {s:Shared} {h':Heap} {t':Nat} {fp:List Addr} {m:Str->Option Value} (I:Inv X pins σ H s) (ff:∀b∈fp,FpOk X pins H b) (hn:s.heap.Ns X.env.locals m) (hn':h'.Ns X.env.locals m)
  (kp:∀b o,b≠X.env.locals->b∉fp->s.heap.get? b=some o->h'.get? b=some o) (new:∀b o,N b=some o->s.heap.objs.size<=b/\ObjOk X.prog X.w (ZW N H) h' b o):Inv X pins σ (ZW N H) { s with heap:=h',toks:=t' }:=by
 have no:∀{b:Addr} {u:HO},H b=some u->N b=none:=fun {b u} e=>by
  cases q:N b with
  |none=>rfl
  |some o=>rw[I.hok.fresh (new b o q).1] at e; cases e
 have ng:∀{b:Addr} {u:Obj},s.heap.get? b=some u->N b=none:=fun {b u} e=>by
  cases q:N b with
  |none=>rfl
  |some o=>exact absurd (Heap.lt_size e) (Nat.not_lt.mpr (new b o q).1)
 have nf:∀b u,H b=some u->b∉fp:=fun b u q z=>by rw[(ff b z).1] at q; cases q
 have nl:∀b u,H b=some u->b≠X.env.locals:=fun b u q z=>by rw[z,I.free] at q; cases q
 refine I.step (g':=s.gens) (d':=s.drawn) (ch:=fp) (fun b hb=>?_) (fun b u hL _ c q _=>kp b u hL c q) (fun b u hL _ c q _=>⟨u.slots,kp b u hL c q⟩) (fun b u _ q n=>by rw[vm (ng q)]; exact n)
  (fun b u c q=>?_) (fun b xs q=>by rw[vm (no q)]; exact q) (fun b _ _ q=>by rw[vm (no q)]; exact q) (fun b ps q=>⟨#[],by rw[vm (no q),q]; simp⟩) (fun m' hm=>?_) (fun b u q=>?_) I.bare
 ·have f:=ff b hb
  exact⟨f.2.2.2.1,f.2.1,f.2.2.2.2.1,f.2.2.2.2.2⟩
 ·by_cases hL:b=X.env.locals
  ·rw[hL]
   obtain⟨o',_,_,e',_⟩:=hn'
   exact⟨o',e'⟩
  ·exact⟨u,kp b u hL c q⟩
 ·have:m'=m:=funext fun x=>by
   obtain⟨o,es,ep,e1,e2,e3,e4⟩:=hm
   obtain⟨o',es',ep',f1,f2,f3,f4⟩:=hn
   rw[e1] at f1; cases f1
   rw[e2] at f2; cases f2
   rw[<-e4, <-f4]
  rw[this]
  exact hn'
 ·cases hb:N b with
  |some o=>rw[jf hb] at q; cases q; exact(new b _ hb).2
  |none =>
   rw[vm hb] at q
   refine(I.hok b u q).stay (fun c v hcc qq=>?_) (fun c qq=>by rw[vm (no qq)]; exact qq) fun c xs qq=>by rw[vm (no qq)]; exact qq
   rcases hcc with z|z
   ·subst z; exact kp c v (nl c u q) (nf c u q) qq
   ·exact kp c v (nl c _ z) (nf c _ z) qq
theorem QK {β:Type}:∀{l:List (Addr×β)} {a:Addr} {b:β},(l.map (·.1)).Nodup->(a,b)∈l->l.lookup a=some b
 | [],_,_,_,h=>by cases h
 | (c,d)::l,a,b,nd,h=>by
  rw[List.map_cons,List.nodup_cons] at nd
  rw[List.lookup_cons]
  rcases List.mem_cons.mp h with h|h
  ·cases h; rw[beq_self_eq_true]
  ·have:(a==c)=false:=beq_eq_false_iff_ne.mpr fun e=>nd.1 (e▸List.mem_map_of_mem (f:=(·.1)) h)
   rw[this]
   exact QK nd.2 h
theorem QL {β:Type}:∀{l:List (Addr×β)} {a:Addr} {b:β},l.lookup a=some b->(a,b)∈l
 | [],_,_,e=>by cases e
 | (c,d)::l,a,b,e=>by
  rw[List.lookup_cons] at e
  cases hb:a==c with
  |true=>rw[hb] at e; cases e; rw[eq_of_beq hb]; exact .head _
  |false=>rw[hb] at e; exact .tail _ (QL e)
def av (u:Value):V:=(absV u).getD .non
theorem av_zip:∀{Ts:List Addr} {xs:List V} {its:List Value} {ks:List Int},Ts.length=ks.length->xs.length=ks.length->Vals xs its->(Ts.zip (its.zip ks)).map (fun p:Addr×Value×Int=>(av p.2.1,p.2.2))=xs.zip ks
 | [],xs,its,ks,h,h2,_=>by
  cases ks with
  |nil=>simp
  |cons=>cases h
 |T::Ts,xs,its,ks,h,h2,r=>by
  cases ks with
  |nil=>cases h
  |cons k ks =>
   cases r with
   |nil=>cases h2
   |cons r1 r =>
    simp only[List.map_cons,List.zip_cons_cons,List.cons.injEq]
    refine⟨?_,av_zip (by simpa using h) (by simpa using h2) r⟩
    unfold av
    rw[r1.abs]
    rfl
theorem Xe:∀{α β:Type} {l:List α} {m:List β},l.length=m.length->(l.zip m).map (·.1)=l
 |_,_, [],_,_=>by simp
 |_,_,a::l, [],h=>by cases h
 |_,_,a::l,b::m,h=>by simp only[List.zip_cons_cons,List.map_cons]; rw[Xe (by simpa using h)]
theorem jm {h:Heap} {c b:Addr} {qual:Str} {o:Obj} (hc:h.CodeRec (.ref c) qual) (e:h.get? b=some o) (d:∀vs t,o.data=.fields vs->vs[1]?≠some (.str qual t)):c≠b:=fun z=>by
 obtain⟨c2,oc,vs,tq,hc2,hoc,hd,hv⟩:=hc
 cases hc2
 rw[z,e] at hoc
 cases hoc
 exact d vs tq hd hv
theorem Zt {K:PySem.W.Frag} {c P:Addr} {p zp zpos pos lpos kp p1 p2 p3:Pos} {kk:Nat} {a b:Expr} {ta:TA} {x:Str} {ap:Pos} (hK:X.K=K) (hc:X.calm=true) (L:LamC X c P) (hr:Room 2 X.A)
  (hg:Gl X "sorted") (hm:X.mg "sorted" = none) (hgz:Gl X "zip") (hmz:X.mg "zip" = none) (ha:PA X [a,b] ta) (hs:starEach [a,b] X.env=[(false,eval a X.env),(false,eval b X.env)]) (hs2:starEach [b] X.env=[(false,eval b X.env)])
  (hx:(x==("__debug__" : Str))=false) (hb:kX x ap (lamB x p1 p2 p3 kk)) (hcl:closureFor (lamS x) X.env=pure []) :
  PE X (.Call (.Name "sorted" p) [.Call (.Name "zip" zp) [a,b] [] zpos] [⟨some "key", .Lambda (lamP x ap) (lamB x p1 p2 p3 kk) (lamS x) lpos,kp⟩] pos)
   (xI K lpos (X.env.qual ++ "<lambda>") P ta):=by
 subst hK
 intro pins s σ H Q I h
 refine wpAny_Call_Name_kw (xj I hg hm (by rfl) ?_ (by decide) (by decide))
 refine callWith_kw ?_ (by rfl) (by rfl)
 refine(show wpAny _ _ (spliced ((false,eval (.Call (.Name "zip" zp) [a,b] [] zpos) X.env)::backTo pos (starEach [] X.env))) _ _ s from ?_)
 refine Calls.spliced_cons ?_
 refine Call_ (xj I hgz hmz boot_zip (PyProof.Rows.callWith_type1 (thn (ha zpos pins s σ H _ I h) fun us s1 ⟨vs,H1,I1,r1,q1⟩=>?_) (by rw[hs,hs2]) (by rw[hs2]; rfl)))
 obtain⟨a1,a2,xs,ks,ps,e,hq1,hq2,hxl,h0,h64,T,q⟩:=q1
 subst e
 cases r1 with
 |cons r rr =>
 cases rr with
 |cons r' rr =>
 cases rr
 cases r
 cases r'
 obtain⟨m1,l1⟩:=src_h (b:=false) I1 hq1
 obtain⟨m2,l2⟩:=src_h (b:=true) I1 hq2
 obtain⟨its,rv,pt,_⟩:=I1.tuple hq1
 obtain⟨jts,rv2,pl,_⟩:=I1.list hq2
 have hil:=rv.length
 have hjl:=rv2.length
 rw[List.length_map] at hjl
 refine VH (Pre:=fun h=>SrcH false h a1/\SrcH true h a2) (o1:=itO false a1) (o2:=itO true a2) rfl rfl (by simpa only[and_assoc] using kY false true a1 a2) ⟨m1,m2⟩ fun h' hz hI hO t1 t2 kp=>?_
 refine Calls.spliced_nil ?_
 refine(show wpAny _ _ (evalAll [(do let v <-eval (.Lambda (lamP x ap) (lamB x p1 p2 p3 kk) (lamS x) lpos) X.env; standAt pos; pure v)]) _ _ _ from ?_)
 refine wpAny_evalAll_cons (wpAny_bind ?_)
 have I2:Inv X pins σ H1 { s1 with heap:=h' }:=I1.kept (t':=s1.toks) kp
 refine V3 I2 L T hcl rfl fun f c' ctv g tk H2 ps' I3 kp3 hf hfs hcr T' old new cov _=>?_
 refine wpAny_bind (wpAny_standAt (wpAny_pure (wpAny_evalAll_nil ?_)))
 have lz:∀{j:Nat},(s1.heap.objs.size+j:Nat)≠P:=fun {j} z=>by
  have hP:=(I1.hok P _ T.1).lt
  rw[<-z] at hP
  exact absurd hP (Nat.not_lt.mpr (Nat.le_add_right _ _))
 have up:∀b o,b≠P->h'.get? b=some o->g.get? b=some o:=kp3
 have lP:∀b o,b≠P->s1.heap.get? b=some o->g.get? b=some o:=fun b o hb e=>up b o hb (kp b o e)
 have hz3:=up _ _ (lz (j:=4)) hz
 have hI3:=up _ _ (lz (j:=2)) hI
 have hO3:=up _ _ (lz (j:=3)) hO
 have t13:=up _ _ (lz (j:=0)) t1
 have t23:=up _ _ (lz (j:=1)) t2
 have D:ZA5 (s1.heap.objs.size+4) (s1.heap.objs.size+2) (s1.heap.objs.size+3) s1.heap.objs.size (s1.heap.objs.size+1) [s1.heap.objs.size,a1] [s1.heap.objs.size+1,a2]:=apart5 l1 l2
 have n1:a1≠P:=fun z=>by
  obtain⟨o,e,hcl,_⟩:=pt
  have:=I1.hok P _ T.1
  rw[z,show s1.heap.get? P=some (tabObj ps) from this] at e
  cases e
  cases hcl
 have n2:a2≠P:=fun z=>by
  obtain⟨o,e,hcl,_⟩:=pl.isList
  have:=I1.hok P _ T.1
  rw[z,show s1.heap.get? P=some (tabObj ps) from this] at e
  cases e
  cases hcl
 have N1:Nx X.prog X.w s1.heap.objs.size [s1.heap.objs.size,a1] (fun i h=>h.IsTupleIter s1.heap.objs.size a1 i/\h.IsTuple a1 its.toArray) ks.length fun i x=>its[i]?=some x:=by
  have:=nx_tup (P:=X.prog) (w:=X.w) (vs:=its) (it:=s1.heap.objs.size) (l:=a1) (Nat.ne_of_lt l1)
  rwa [<-hil,hxl] at this
 have N2:Nx X.prog X.w (s1.heap.objs.size+1) [s1.heap.objs.size+1,a2] (fun i h=>h.IsListIter (s1.heap.objs.size+1) a2 i/\h.IsList a2 jts.toArray) ks.length fun i x=>jts[i]?=some x:=by
  have:=X0 (P:=X.prog) (w:=X.w) (vs:=jts) (it:=s1.heap.objs.size+1) (l:=a2) (Nat.ne_of_lt (Nat.lt_succ_of_lt l2))
  rwa [<-hjl] at this
 have gs:s1.heap.objs.size+4<g.objs.size:=Heap.lt_size hz3
 obtain⟨m,hn,_⟩:=I3.loc
 have lL:X.env.locals<s1.heap.objs.size:=I1.lt
 have lS:cStatics<s1.heap.objs.size:=by
  obtain⟨mc,hmc,_⟩:=I1.ok.mod.nolimit
  exact Nat.lt_of_lt_of_le hmc.lt (Nat.le_trans I1.ok.bsz I1.sz)
 have lSL:cStatics≠X.env.locals:=by
  obtain⟨mc,hmc,_⟩:=I1.ok.mod.nolimit
  exact Nat.ne_of_lt (Nat.lt_of_lt_of_le hmc.lt (Nat.le_trans I1.ok.bsz I1.ok.above))
 have nz:∀{b:Addr},b<s1.heap.objs.size->b∉[s1.heap.objs.size+4,s1.heap.objs.size+3,s1.heap.objs.size,s1.heap.objs.size+1]:=fun {b} hb h=>by
  simp only[List.mem_cons,List.not_mem_nil,or_false] at h
  rcases h with h|h|h|h
  all_goals (rw[h] at hb; exact absurd hb (Nat.not_lt.mpr (by first|exact Nat.le_add_right _ _|exact Nat.le_refl _)))
 have lf:∀{j:Nat},j<5->f≠s1.heap.objs.size+j:=fun {j} hj z=>by
  have h1:s1.heap.objs.size+4<h'.objs.size:=Heap.lt_size hz
  rw[z] at hfs
  have h2:h'.objs.size<=s1.heap.objs.size+j:=hfs
  omega
 have gl:∀c∈[s1.heap.objs.size+4,s1.heap.objs.size+2,s1.heap.objs.size+3,s1.heap.objs.size,s1.heap.objs.size+1],c<g.objs.size/\s1.heap.objs.size<=c:=fun c hc=>by
  simp only[List.mem_cons,List.not_mem_nil,or_false] at hc
  rcases hc with rfl|rfl|rfl|rfl|rfl
  all_goals exact⟨by omega,by omega⟩
 have a1g:a1<g.objs.size:=Nat.lt_trans l1 (Nat.lt_of_le_of_lt (Nat.le_add_right _ _) gs)
 have a2g:a2<g.objs.size:=Nat.lt_trans l2 (Nat.lt_of_le_of_lt (Nat.le_add_right _ _) gs)
 refine(show wpAny _ _ (call (.builtin "sorted") [.ref (s1.heap.objs.size+4)] [(Str.ofString "key", .ref f)]) _ _ _ from ?_)
 refine Zn (TI:=s1.heap.objs.size+2) (TO:=s1.heap.objs.size+3) (i1:=s1.heap.objs.size) (i2:=s1.heap.objs.size+1) (L:=X.env.locals) (c':=c') (xs:=its) (ys:=jts) (ks:=ks) (hr.hd) D N1 N2 h0 h64 (by rw[<-hil]; exact hxl) (fun c hc=>(gl c hc).1) ?_ ?_ hz3 hI3 hO3 ?_ ?_ hn (nz lL) lSL ?_ hx hb hf ?_ hcr ?_ (nz lS) ?_ I3.nolimit fun D h3 tk3 cc Ts tr hn3 kp4 hD htr nd hDT tl pm pw hl=>?_
 ·intro c hc
  simp only[List.mem_cons,List.not_mem_nil,or_false] at hc
  rcases hc with rfl|rfl
  ·exact Nat.lt_of_le_of_lt (Nat.le_add_right _ _) gs
  ·exact a1g
 ·intro c hc
  simp only[List.mem_cons,List.not_mem_nil,or_false] at hc
  rcases hc with rfl|rfl
  ·exact Nat.lt_of_le_of_lt (by show s1.heap.objs.size+1<=s1.heap.objs.size+4; omega) gs
  ·exact a2g
 ·refine⟨it_O (b:=false) t13, ?_⟩
  obtain⟨o,e,r⟩:=pt
  exact⟨o,lP _ _ n1 e,r⟩
 ·refine⟨it_O (b:=true) t23, ?_⟩
  obtain⟨o,e,r⟩:=pl.isList
  exact⟨o,lP _ _ n2 e,r⟩
 ·intro j y k hy hk
  exact rv2.get2 (i:=j) (x:=.int k) (by rw[List.getElem?_map,hk]; rfl) hy
 ·intro h
  simp only[List.mem_cons,List.not_mem_nil,or_false] at h
  rcases h with h|h|h|h|h
  ·rw[h] at hfs
   exact absurd (Nat.lt_of_lt_of_le lL (Nat.le_trans (Nat.le_of_lt (Nat.lt_of_le_of_lt (Nat.le_add_right _ _) (Heap.lt_size hz))) hfs)) (Nat.lt_irrefl _)
  ·exact lf (j:=4) (by decide) h
  ·exact lf (j:=3) (by decide) h
  ·exact lf (j:=0) (by decide) h
  ·exact lf (j:=1) (by decide) h
 ·intro h
  simp only[List.mem_cons,List.not_mem_nil,or_false] at h
  rcases h with h|h|h|h|h
  ·obtain⟨o,es,ep,e,hd,_⟩:=hn
   exact jm hcr e (fun vs t z=>by rw[hd] at z; cases z) h
  ·exact jm hcr hz3 (fun vs t z=>by cases z; simp) h
  ·exact jm hcr hO3 (fun vs t z=>by cases z) h
  ·exact jm hcr t13 (fun vs t z=>by cases z; simp) h
  ·exact jm hcr t23 (fun vs t z=>by cases z; simp) h
 ·have:=hr.dp
  show X.A.depth<_
  omega
 ·have zl:Ts.length=(its.zip ks).length:=by rw[List.length_zip,tl, <-hil,hxl,Nat.min_self]
  have tf:(tr.map (·.1)).Perm Ts:=by have:=pm.map (·.1); rwa [Xe zl] at this
  have tnd:(tr.map (·.1)).Nodup:=tf.nodup_iff.mpr nd
  have tlen:tr.length=ks.length:=by rw[pm.length_eq,List.length_zip, <-zl,tl,Nat.min_self]
  have rel:∀p∈tr,RelV (av p.2.1) p.2.1:=fun p hp=>by
   obtain⟨i,_,h2,_⟩:=VI (pm.subset hp)
   obtain⟨x,_,r⟩:=Paired.getR rv h2
   unfold av
   rw[r.abs]
   exact r
  have g4:s1.heap.objs.size<=g.objs.size:=Nat.le_of_lt (Nat.lt_of_le_of_lt (Nat.le_add_right _ _) gs)
  have new9:∀b o,(if b=D then some (HO.lst (tr.map fun p=>V.ref p.1)) else(tr.lookup b).map fun y=>HO.tup [av y.1, .int y.2])=some o->g.objs.size<=b/\∀H9,ObjOk X.prog X.w H9 h3 b o:=fun b o e=>by
   by_cases hb:b=D
   ·rw[if_pos hb] at e
    cases e
    rw[hb]
    refine⟨hD,fun H9=>⟨by rw[List.length_map,tlen,sizeLine_eq]; omega,tr.map fun p=>Value.ref p.1,cc, ?_,hl⟩⟩
    clear hl pw pm htr tf tnd tlen rel
    induction tr with
    |nil=>exact .nil
    |cons p tr ih=>exact .cons rfl ih
   ·rw[if_neg hb] at e
    obtain⟨y,h1,h2⟩:=Option.map_eq_some_iff.mp e
    cases h2
    have hm:=QL h1
    obtain⟨z1,t,z2⟩:=htr _ hm
    exact⟨z1,fun H9=>⟨by show 2<=sizeLine; decide, [y.1, .int y.2 t], .cons (rel _ hm) (.cons ⟨t,rfl⟩ .nil),_,z2,rfl,_,rfl⟩⟩
  have ff:∀b∈[s1.heap.objs.size+4,s1.heap.objs.size+3,s1.heap.objs.size,s1.heap.objs.size+1],FpOk X pins H2 b:=fun b hb=>by
   have hb2:s1.heap.objs.size<=b/\b<h'.objs.size:=by
    have h1:s1.heap.objs.size+4<h'.objs.size:=Heap.lt_size hz
    simp only[List.mem_cons,List.not_mem_nil,or_false] at hb
    rcases hb with rfl|rfl|rfl|rfl
    all_goals exact⟨by omega,by omega⟩
   refine I1.fpOk hb2.1 ?_
   cases e:H2 b with
   |none=>rfl
   |some o =>
    rcases cov b (by rw[e]; simp) with z|⟨_,z⟩
    ·exact absurd (I1.hok.fresh hb2.1) z
    ·exact absurd hb2.2 (Nat.not_lt.mpr z)
  have no:∀{b:Addr} {o:HO},H2 b=some o->(if b=D then some (HO.lst (tr.map fun p=>V.ref p.1)) else(tr.lookup b).map fun y=>HO.tup [av y.1, .int y.2])=none:=fun {b o} e=>by
   cases q9:(if b=D then some (HO.lst (tr.map fun p=>V.ref p.1)) else(tr.lookup b).map fun y=>HO.tup [av y.1, .int y.2]) with
   |none=>rfl
   |some u=>rw[I3.hok.fresh (new9 b u q9).1] at e; cases e
  refine⟨.ref D,_,I3.many (t':=tk3) (N:=fun b=>if b=D then some (HO.lst (tr.map fun p=>V.ref p.1)) else(tr.lookup b).map fun y=>HO.tup [av y.1, .int y.2]) ff hn hn3 kp4 (fun b o e=>⟨(new9 b o e).1,(new9 b o e).2 _⟩),rfl, ?_⟩
  refine q (tr.map fun p=>(av p.2.1,p.2.2)) (tr.map (·.1)) D _ ps' ⟨by have:=pm.map fun p:Addr×Value×Int=>(av p.2.1,p.2.2); rwa [av_zip tl hxl rv] at this,List.pairwise_map.mpr pw⟩ (fun b o e hb=>?_) ⟨?_,T'.2.1, ?_⟩ new (I1.hok.fresh (Nat.le_trans g4 hD)) ?_ (fun t ht=>?_) (by simp) fun i t x k e1 e2=>?_
  ·have e:=old b o e hb
   rw[vm (no e)]; exact e
  ·rw[vm (no T'.1)]; exact T'.1
  ·rcases T'.2.2 with z|⟨c2,z,hc2⟩
   ·exact .inl z
   ·exact .inr ⟨c2,z,by rw[vm (no hc2)]; exact hc2⟩
  ·refine jf ?_
   rw[if_pos rfl,List.map_map]
   rfl
  ·obtain⟨p,hp,rfl⟩:=List.mem_map.mp ht
   exact I1.hok.fresh (Nat.le_trans g4 (htr p hp).1)
  ·rw[List.getElem?_map] at e1 e2
   obtain⟨p,hp,rfl⟩:=Option.map_eq_some_iff.mp e1
   rw[hp] at e2
   cases e2
   have hm:=List.mem_of_getElem? hp
   refine jf ?_
   rw[if_neg fun z=>hDT (by rw[<-z]; exact tf.subset (List.mem_map_of_mem hm)),QK tnd (b:=p.2) hm]
   rfl
end
end L2
namespace L2
open PySem PySem.Spec PyProof.Rows PySem.W
section
variable {X:Cx}
theorem Zs {K:PySem.W.Frag} {c P:Addr} {p zp zpos pos lpos kp p1 p2 p3:Pos} {kk:Nat} {a b:Expr} {ta:TA} {x:Str} {ap:Pos} (hK:X.K=K) (hc:X.calm=true) (L:LamC X c P) (hr:Room 2 X.A)
  (hm:X.mg "sorted" = none) (hmz:X.mg "zip" = none) (ha:QA X [a,b] ta) (hg:Gl X "sorted" := by rfl) (hgz:Gl X "zip" := by rfl) (hs:starEach [a,b] X.env=[(false,eval a X.env),(false,eval b X.env)]:=by rfl) (hs2:starEach [b] X.env=[(false,eval b X.env)]:=by rfl)
  (hx:(x==("__debug__" : Str))=false:=by decide) (hb:kX x ap (lamB x p1 p2 p3 kk):=by intro _ _ _ _ _; rfl) (hcl:closureFor (lamS x) X.env=pure []:=by rfl) :
  QE X (.Call (.Name "sorted" p) [.Call (.Name "zip" zp) [a,b] [] zpos] [⟨some "key", .Lambda (lamP x ap) (lamB x p1 p2 p3 kk) (lamS x) lpos,kp⟩] pos) (xI K lpos (X.env.qual ++ "<lambda>") P ta) :=
 ⟨Zt hK hc L hr hg hm hgz hmz ha.h hs hs2 hx hb hcl⟩
end
section
variable {A:Addr->Prop} {ι:List Addr} {H:Hp} {M:MM} {K:PySem.W.Frag} {te:TE} {ue:UE} {P:Addr} {pos:Pos} {qual:Str}
def LamS (P:Addr) (pos:Pos) (qual:Str) (ns:List Str) (y:U) (M:MM) (Q:UK):Prop:=∃(k:Nat) (ks:List Int),qF M y=some ((ks.map T.int).map U.p)/\ns.length=ks.length/\0<ks.length/\ks.length<64/\M[k]?=some (.tab P pos qual) /\
 ∀out:List (Str×Int),out.Perm (ns.zip ks)->(out.Pairwise fun p q=>p.2<=q.2)->Q (.p (.lst (out.map fun p=>.tup [.str p.1, .int p.2]))) M
def jQ (P:Addr) (pos:Pos) (qual:Str) (ns:List Str) (ue:UE):UE:=fun ρ M Q=>ue ρ M fun y M1=>LamS P pos qual ns y M1 Q
theorem Jt:∀{vs:List V} {ks:List Int},RepUs A ι H vs ((ks.map T.int).map U.p)->vs=ks.map V.int
 |_, [],h=>by cases h; rfl
 |_,k::ks,h=>by
  cases h with
  |cons r t =>
   cases r with
   |p r=>cases r; rw[Jt t]; rfl
theorem Xc:∀{ns:List Str} {ks:List Int},(ns.map V.str).zip ks=(ns.zip ks).map fun p=>(V.str p.1,p.2)
 | [],_=>by simp
 |_::_, []=>by simp
 |n::ns,k::ks=>by simp only[List.map_cons,List.zip_cons_cons]; rw[Xc]
theorem ZU {kt:Addr} {ns:List Str} (hk:KTu K kt (ns.map V.str)) (hb:LE te ue):LE (xI K pos qual P (vo (tC (.ref kt)) (vo te tNil))) (jQ P pos qual ns ue):=fun A ι σ H ρ M Qu Q w e q k =>
 hb A ι σ H ρ M _ _ w e q fun y M1 ι1 v H1 l1 w1 r1 ⟨kx,ks,ey,hl,h0,h64,ht,q1⟩=>by
  obtain⟨p,vs,rfl,hp,rs⟩:=vn w1 r1 ey
  obtain rfl:=Jt rs
  obtain⟨a,ea,ps,hT,⟨tr,rfl⟩,hc⟩:=w1.at ht
  have hPι:a∈ι1:=List.mem_of_getElem? ea
  refine⟨kt,p,ns.map V.str,ks,ps,rfl,hk H1,SqL.of hp,by rw[List.length_map]; exact hl,h0,h64,⟨hT,tr,hc.imp id fun⟨c,z1,z2,_⟩=>⟨c,z1,z2⟩⟩,fun out ts l H' ps' ko old T' new hl0 hl1 ht0 htl htt=>?_⟩
  have le2:Le ι1 H1 ι1 H':=⟨⟨[],by simp,by simp⟩,fun x o e n=>old x o e fun z=>n (z▸hPι),fun x e=>by
   by_cases hx:x=a
   ·rw[hx,T'.1]; simp
   ·cases q9:H1 x with
    |none=>exact absurd q9 e
    |some o=>rw[old x o q9 hx]; simp⟩
  have nι:∀{x:Addr},H1 x=none->x∉ι1:=fun hx z=>by
   obtain⟨o,ho⟩:=w1.mem_some z
   rw[hx] at ho; cases ho
  have nA:∀{x:Addr},H1 x=none->¬Av A ι1 x:=fun hx z=>z.elim (fun z=>w1.dom _ z hx) (nι hx)
  obtain⟨out,op,rfl⟩:=jD (fun p:Str×Int=>(V.str p.1,p.2)) ko.1 (ns.zip ks) Xc
  refine k _ M1 ι1 _ H' (l1.trans le2) ⟨w1.nd,w1.len,fun x hx=>le2.al x (w1.dom x hx),w1.na,fun k' a' o e1 e2=>?_⟩ (.p (.lst (nA hl0) hl1 (by simp[htl]) fun i v t e1 e2=>?_)) (q1 out op ((List.pairwise_map (f:=fun p:Str×Int=>(V.str p.1,p.2)) (R:=fun p q=>p.2<=q.2)).mp ko.2))
  ·by_cases h9:a'=a
   ·subst h9
    have:k'=kx:=by
     obtain⟨b1,c1⟩:=List.getElem?_eq_some_iff.mp e1
     obtain⟨b2,c2⟩:=List.getElem?_eq_some_iff.mp ea
     exact(List.getElem_inj w1.nd).mp (c1.trans c2.symm)
    subst this
    rw[ht] at e2
    cases e2
    refine⟨ps',T'.1,⟨T'.2.1,rfl⟩,T'.2.2.imp id fun⟨c,z1,z2⟩=>⟨c,z1,z2, ?_⟩⟩
    rcases new c z1 with z|z
    ·rcases hc with y9|⟨c2,y1,y2,y3⟩
     ·rw[y9] at z; cases z
     ·rw[y1] at z; cases z; exact y3
    ·exact nι z
   ·refine(w1.obj k' a' o e1 e2).le' le2 ?_ fun x hx=>?_
    ·obtain⟨o9,h8⟩:=(w1.obj k' a' o e1 e2).some
     rw[h8]; exact old _ _ h8 h9
    ·rw[hx]; exact old _ _ hx fun z=>by rw[z,hT] at hx; cases hx
  ·rw[List.getElem?_map] at e1 e2
   obtain⟨t9,h1,rfl⟩:=Option.map_eq_some_iff.mp e1
   obtain⟨p9,h2,rfl⟩:=Option.map_eq_some_iff.mp e2
   refine .tupP (nA (ht0 t9 (List.mem_of_getElem? h1))) (htt i t9 (.str p9.1) p9.2 h1 (by rw[List.getElem?_map,h2]; rfl)) (.cons (.str _) (.cons (.int _) .nil))
theorem Z8 {kt:Addr} {ns:List Str} (hk:KTu K kt (ns.map V.str)) (hb:ZE te ue):ZE (xI K pos qual P (vo (tC (.ref kt)) (vo te tNil))) (jQ P pos qual ns ue):=⟨ZU hk hb.h⟩
def itZK (y:U) (ns:List Str) (ss:List T):UIt:=⟨min ns.length ss.length,fun M=>qF M y=some (ss.map U.p),fun i z=>∃n s,ns[i]?=some n/\ss[i]?=some s/\z=.p (.tup [.str n,s])⟩
def ZipNS (ns:List Str) (y:U) (M:MM) (Q:UIt->MM->Prop):Prop:=∃ss:List T,qF M y=some (ss.map U.p)/\Q (itZK y ns ss) M
def uZipK (ns:List Str) (ue:UE):UI:=fun ρ M Q=>ue ρ M fun y M1=>ZipNS ns y M1 Q
theorem li_zipK {kt:Addr} {ns:List Str} (hk:KTu K kt (ns.map V.str)) (hb:LE te ue):LI (iZip K false true (vo (tC (.ref kt)) (vo te tNil))) (uZipK ns ue):=fun A ι σ H ρ M Qu R w e q k =>
 hb A ι σ H ρ M _ _ w e q fun y M1 ι1 v H1 l1 w1 r2 ⟨ss,ev,q1⟩=>by
  obtain⟨p2,us2,rfl,h2,g2⟩:=vn w1 r2 ev
  refine⟨kt,p2,ns.map V.str,us2,rfl,hk H1,SqL.of h2,k _ M1 ι1 _ H1 l1 w1 ?_ q1⟩
  intro A' ι2 H2 M2 i l w2 ok
  obtain⟨p2',vs2,e2,h5,h6⟩:=vn w2 (r2.lea l) ok
  cases e2
  have t2:=h6.pures
  have hl2:=t2.len
  refine⟨fun hi=>?_,fun hi=>⟨ns.map V.str,vs2,hk H2,SqL.of h5, ?_⟩⟩
  ·have hi:i<min ns.length ss.length:=hi
   have hx:(ns.map V.str)[i]?=some ((ns.map V.str)[i]'(by rw[List.length_map]; omega)):=List.getElem?_eq_getElem _
   have hy:vs2[i]?=some (vs2[i]'(by omega)):=List.getElem?_eq_getElem _
   refine⟨⟨ns.map V.str,vs2,_,_,hk H2,SqL.of h5,hx,hy⟩,fun x H' y=>?_⟩
   obtain⟨r,u,v,rfl,hr,rfl,y⟩:=y
   obtain⟨y1,y2⟩:=y (ns.map V.str) vs2 (hk H2) (SqL.of h5)
   rw[List.getElem?_map] at y1
   obtain⟨n,hn,rfl⟩:=Option.map_eq_some_iff.mp y1
   obtain⟨s,hs,rs⟩:=Paired.getL t2 y2
   exact⟨_,⟨n,s,hn,hs,rfl⟩, .fresh hr,w2.fresh hr, .p (ji w2 hr (.cons (.str _) (.cons rs .nil)))⟩
  ·have hi:i=min ns.length ss.length:=hi
   rw[List.length_map]
   omega
theorem ci_zipK {kt:Addr} {ns:List Str} (hk:KTu K kt (ns.map V.str)) (hb:ZE te ue):ZI (iZip K false true (vo (tC (.ref kt)) (vo te tNil))) (uZipK ns ue):=⟨li_zipK hk hb.h⟩
end
section
variable {P:Program} {w:World} {K:PySem.W.Frag} {mg:Str->Option Value} {base:Heap}
theorem Fun.zVC {x qual:Str} {st:Stmt} {f:Addr} {fd:FuncData} {N ps:List Str} {k:Nat} {G:List U->MM->UK->Prop} (F:Fun K x qual st f fd) (S:FnScope N ps (qi st)) (len:∀us M Qu,G us M Qu->us.length=ps.length)
  (hbody:∀(cdv:Value) (A:Around) (outer:List Env) (s:Shared) (H:Hp) (E:XK),fd.code=cdv->Room k (A.deeper (envOfC qual (qi st) s.heap.objs.size f cdv)) ->
   ∃t,QSs (cxOf CX0 P w K mg base N qual (qi st) f cdv A outer s H E).nox (vi st) t/\∃u,ZS t u/\∀us M M1 Qu,M1=M->G us M Qu->u { nx:=fun _ M'=>vZ M M'/\Qu (.p .non) (M'.take M.length),rt:=fun z M'=>vZ M M'/\∃t,frzB M.length 4 M' z=some t/\Qu (.p t) (M'.take M.length) } (zh N us) M1):FnOk P w K mg base CX0 (k+1) f fd ps (spU G):=by
 obtain⟨oc,od,kV,doc,pm,an,cdv,ct,osl,rfl,lk,hcd⟩:=F.ex
 refine fn_of lk hcd S (fun vs H Q E h=>?_) fun A outer s H vs Q E hr h=>?_
 ·obtain⟨A,ι,M,us,Qu,w1,r,g,_⟩:=h
  rw[r.len]; exact len us M Qu g
 ·obtain⟨B,ι,M,us,Qu,w1,r,g,kk⟩:=h
  obtain⟨t,ht,u,hu,hb⟩:=hbody cdv A outer s H E rfl hr
  have less:∀{ι1:List Addr} {H1:Hp},Le ι H ι1 H1->Le ι H ι H1:=fun l=>⟨⟨[],by simp,by simp⟩,l.fr,l.al⟩
  refine⟨t,ht.h.nox,hu.h B ι _ H _ M _ { nx:=fun _ M'=>vZ M M'/\Qu (.p .non) (M'.take M.length),rt:=fun z M'=>vZ M M'/\∃t,frzB M.length 4 M' z=some t/\Qu (.p t) (M'.take M.length) } w1 (zg r) ⟨fun ι1 σ1 H1 ρ1 M1 l1 w2 e1 q1=>?_,fun ι1 v H1 z M1 l1 w2 r1 q1=>?_,fun _ _ _ _ _ _ _ _ q=>q.elim,fun _ _ _ _ _ _ _ _ q=>q.elim⟩ (hb us M M Qu rfl g)⟩
  ·obtain⟨tr,q⟩:=q1
   obtain⟨m,rfl,_⟩:=id l1.ext
   exact kk _ _ ι _ H1 (less l1) (w2.trim w1 tr) (.p .non) q
  ·obtain⟨tr,t1,et,q⟩:=q1
   obtain⟨m,rfl,_⟩:=id l1.ext
   rw[<-w1.len] at et
   exact kk _ _ ι v H1 (less l1) (w2.trim w1 tr) (.p (xM w2 r1 et)) q
end
section
variable {n:Nat} {tl:TA} {ul:UA} {K:PySem.W.Frag}
def truT:T->Option Bool
 |.lst ts=>some (!ts.isEmpty)
 |_=>none
def uTruC (G:List T->(T->Prop)->Prop) (ul:UA):UT:=fun ρ M Q=>ul ρ M fun us M1=>∃ts,sns M1 us=some ts/\G ts fun t=>∃b,truT t=some b/\Q b M1
theorem lt_truC {G:List T->(T->Prop)->Prop} {E:XK} (ha:LA n tl ul):LT (tTru K (v3 (spP G) [] E tl)) (uTruC G ul):=fun A ι σ H ρ M Qu Q w e q k =>
 ha A ι σ H ρ M _ _ w e q fun us M1 ι1 vs H1 l1 w1 hn r1 ⟨ts,et,q1⟩=>by
  rw[List.append_nil]
  refine⟨A,ts,_,w1.dom,r1.snsT w1 et,q1,fun t v H2 s r2 ⟨b,hb,q2⟩=>⟨b, ?_,k b M1 ι1 H2 (l1.trans s.le) (w1.same s) q2⟩⟩
  cases t with
  |lst ts =>
   obtain⟨p,vs,rfl,_,h1,h2⟩:=r2.lst_inv
   cases hb
   exact .inl ⟨_,SqL.of h1,by rw[h2.empt]⟩
  |_=>cases hb
theorem ct_truC {G:List T->(T->Prop)->Prop} {E:XK} (ha:ZA n tl ul):ZT (tTru K (v3 (spP G) [] E tl)) (uTruC G ul):=⟨lt_truC ha.h⟩
end
section
variable {P:Program} {w:World} {K:PySem.W.Frag} {mg:Str->Option Value} {base:Heap}
theorem Fun.zUC {x qual:Str} {st:Stmt} {f:Addr} {fd:FuncData} {N ps:List Str} {k:Nat} {G:List U->MM->UK->Prop} (F:Fun K x qual st f fd) (S:FnScope N ps (qi st)) (len:∀us M Qu,G us M Qu->us.length=ps.length)
  (hbody:∀(cdv:Value) (A:Around) (outer:List Env) (s:Shared) (H:Hp) (E:XK),fd.code=cdv->Room k (A.deeper (envOfC qual (qi st) s.heap.objs.size f cdv)) ->
   ∃t,QSs (cxOf CX0 P w K mg base N qual (qi st) f cdv A outer s H E).nox (vi st) t/\∃u,ZS t u/\∀us M Qu,G us M Qu->u { nx:=fun _ M'=>Qu (.p .non) M',rt:=Qu } (zh N us) M):FnOk P w K mg base CX0 (k+1) f fd ps (spU G):=by
 obtain⟨oc,od,kV,doc,pm,an,cdv,ct,osl,rfl,lk,hcd⟩:=F.ex
 refine fn_of lk hcd S (fun vs H Q E h=>?_) fun A outer s H vs Q E hr h=>?_
 ·obtain⟨A,ι,M,us,Qu,w1,r,g,_⟩:=h
  rw[r.len]; exact len us M Qu g
 ·obtain⟨B,ι,M,us,Qu,w1,r,g,kk⟩:=h
  obtain⟨t,ht,u,hu,hb⟩:=hbody cdv A outer s H E rfl hr
  exact⟨t,ht.h.nox,hu.h B ι _ H _ M _ { nx:=fun _ M'=>Qu (.p .non) M',rt:=Qu } w1 (zg r) ⟨fun ι1 σ1 H1 ρ1 M1 l1 w2 e1 q1=>kk _ _ ι1 _ H1 l1 w2 (.p .non) q1,fun ι1 v H1 z M1 l1 w2 r1 q1=>kk _ _ ι1 _ H1 l1 w2 r1 q1,fun _ _ _ _ _ _ _ _ q=>q.elim,fun _ _ _ _ _ _ _ _ q=>q.elim⟩ (hb us M Qu g)⟩
end
end L2
namespace L2
open PySem PySem.Spec PyProof.Rows PySem.W
section
variable {X:Cx} {pins:List (Addr×Obj)} {σ:St} {H:Hp} {s:Shared} {h':Heap} {b:Addr} {o o':Obj}
theorem Inv.unpin {t':Nat} (I:Inv X ((b,o)::pins) σ H s) (hb:X.s₀.heap.objs.size<=b) (hp:∀p∈X.pn++pins,p.1≠b) (k:∀c u,c≠b->s.heap.get? c=some u->h'.get? c=some u):Inv X pins σ H { s with heap:=h',toks:=t' }:=by
 obtain⟨e0,n0,l0,f0,d0⟩:=I.pin (b,o) (List.mem_append_right _ (.head _))
 have I1:Inv X pins σ H s:=I.pins_of fun p hp=>I.pin p (List.mem_append_right _ (.tail _ hp))
 refine I1.turned (t':=t') (it:=b) k n0 l0 (.inr hb) (fun x c e1 z=>?_) hp
 obtain⟨v,oc,hoc,hcd⟩:=I.cell x c e1
 rw[z,e0] at hoc
 cases hoc
 exact d0 v hcd
theorem Inv.repin {t':Nat} (I:Inv X ((b,o)::pins) σ H s) (hb:X.s₀.heap.objs.size<=b) (hp:∀p∈X.pn++pins,p.1≠b) (k:∀c u,c≠b->s.heap.get? c=some u->h'.get? c=some u) (e:h'.get? b=some o') (hd:∀v,o'.data ≠ .cell v) :
  Inv X ((b,o')::pins) σ H { s with heap:=h',toks:=t' }:=by
 obtain⟨e0,n0,l0,f0,d0⟩:=I.pin (b,o) (List.mem_append_right _ (.head _))
 have I2:Inv X pins σ H { s with heap:=h',toks:=t' }:=I.unpin hb hp k
 exact I2.pins_of fun p hp=>(List.mem_cons.mp hp).elim (fun z=>by subst z; exact⟨e,n0,l0,f0,hd⟩) fun hp=>I2.pin p (List.mem_append_right _ hp)
theorem Inv.swap {p q:Addr×Obj} (I:Inv X (p::q::pins) σ H s):Inv X (q::p::pins) σ H s:=I.pins_of fun r hr=>I.pin r (List.mem_append_right _ (by
 rcases List.mem_cons.mp hr with z|z
 ·rw[z]; exact .tail _ (.head _)
 ·rcases List.mem_cons.mp z with z|z
  ·rw[z]; exact .head _
  ·exact .tail _ (.tail _ z)))
theorem Inv.drop {p:Addr×Obj} (I:Inv X (p::pins) σ H s):Inv X pins σ H s:=I.pins_of fun r hr=>I.pin r (List.mem_append_right _ (.tail _ hr))
end
section
variable {X:Cx} {σ:St} {H0:Hp} {l q It S:Addr} {lam:Obj} {pins:List (Addr×Obj)} {xs:List V} {R:Result->Shared->Prop}
theorem X9 (kf:Nat->Int) (hh:X.A.handled=none) (hl:SqL X.K H0 l xs) (hlI:l≠It) (hSI:S≠It) (hS:X.s₀.heap.objs.size<=S) (hI:X.s₀.heap.objs.size<=It) (hn:∀p∈X.pn++(q,lam)::pins,p.1≠S/\p.1≠It)
  (turn:∀(i:Nat) (v:V) (u:Value) (ps:List (Addr×Obj)) (s:Shared) (H:Hp),xs[i]?=some v->RelV v u->Same H0 H->(q,lam)∈ps->Inv X ps σ H s ->
   wpAny (model X.prog X.w) X.A.in1 (call (.ref q) [u]) (EP X ps σ fun r H'=>r=.int (kf i)/\Same H H') (fun _ _=>False) s)
  (hR:∀(i:Nat) v u H s,xs[i]?=some v->RelV v u->(∀j,j<xs.length->kf i<=kf j)->Same H0 H->Inv X ((q,lam)::pins) σ H s->R (.ok (.ret u)) s) :
  ∀(r j i:Nat) (s:Shared) (H:Hp) (v:V) (vb:Value) (tb:Tok) (c:Nat) (oI:Obj),xs.length-(j+1)=r->j+1<=xs.length->Same H0 H ->
   Inv X ((S,seqObj "list" #[vb, .int (kf i) tb] c)::(It,oI)::(q,lam)::pins) σ H s->s.heap.IsListIter It l (j+1)->xs[i]?=some v->RelV v vb->(∀j',j'<=j->kf i<=kf j') ->
   codeAny (model X.prog X.w) X.A (.builtin "min.loop" ⟨[.ref It, .ref q, .ref S], []⟩) R s:=by
 have hname:(toString "min" ++ toString ".loop" : String) = "min.loop" := by decide
 have nI:∀p∈X.pn++(q,lam)::pins,p.1≠It:=fun p hp=>(hn p hp).2
 have nS:∀p∈X.pn++(q,lam)::pins,p.1≠S:=fun p hp=>(hn p hp).1
 have nIS:∀{oS:Obj},∀p∈X.pn++(S,oS)::(q,lam)::pins,p.1≠It:=fun {oS} p hp=>by
  rcases List.mem_append.mp hp with z|z
  ·exact nI p (List.mem_append_left _ z)
  ·rcases List.mem_cons.mp z with z|z
   ·rw[z]; exact hSI
   ·exact nI p (List.mem_append_right _ z)
 have nSI:∀{oS:Obj},∀p∈X.pn++(It,oS)::(q,lam)::pins,p.1≠S:=fun {oS} p hp=>by
  rcases List.mem_append.mp hp with z|z
  ·exact nS p (List.mem_append_left _ z)
  ·rcases List.mem_cons.mp z with z|z
   ·rw[z]; exact hSI.symm
   ·exact nS p (List.mem_append_right _ z)
 intro r
 induction r with
 |zero =>
  intro j i s H v vb tb c oI hr hj sm I hit hv rv hbest
  have hin:j+1=xs.length:=by omega
  obtain⟨its,ri,pl,_⟩:=I.list (sm.seq hl)
  have W:=Walks.list (prog:=X.prog) (w:=X.w) (A:=X.A.in1) hh It l hlI its.toArray
  have hS0:=(I.pin _ (List.mem_append_right _ (.head _))).1
  refine codeAny_builtin PySem.F.entry_min_loop ?_
  rw[Around.under_plainId PySem.F.plain_min_loop _]
  show wpAny _ X.A.in1 (seqItems? (.ref S) >>= _) _ _ _
  refine wpAny_bind (wpAny_seqItems hS0 rfl ?_)
  show wpAny _ X.A.in1 (tryCatch (pyNext (.ref It)) _ >>= _) _ _ _
  refine wpAny_bind (wpAny_tryCatch (W.done _ _ _ ⟨by rw[List.size_toArray, <-ri.length, <-hin]; exact hit,pl.isList⟩ fun h' tk' hk'=>?_))
  have I1:Inv X ((S,seqObj "list" #[vb, .int (kf i) tb] c)::(q,lam)::pins) σ H { s with heap:=h',toks:=tk' }:=I.swap.unpin (t':=tk') hI nIS fun c u hc e=>hk' c u (fun z=>hc (List.mem_singleton.mp z)) e
  have hS':=(I1.pin _ (List.mem_append_right _ (.head _))).1
  have s1:=Heap.SameBut.update h' S (Obj.mapSeq fun _=>(#[]:Array Value))
  show wpAny _ X.A.in1 (updateSeq S (fun _=>#[]) >>= _) _ _ _
  refine wpAny_bind ?_
  refine wpAny_updateSeq hS' rfl (wpAny_bind (wpAny_letGo (wpAny_pure ?_)))
  exact hR i v vb H _ hv rv (fun j' hj'=>hbest j' (by omega)) sm (I1.unpin (t':=tk') hS nS fun c u hc e=>(s1.2 c hc).trans e)
 |succ r ih =>
  intro j i s H v vb tb c oI hr hj sm I hit hv rv hbest
  have hlt:j+1<xs.length:=by omega
  obtain⟨its,ri,pl,_⟩:=I.list (sm.seq hl)
  have W:=Walks.list (prog:=X.prog) (w:=X.w) (A:=X.A.in1) hh It l hlI its.toArray
  have hS0:=(I.pin _ (List.mem_append_right _ (.head _))).1
  refine codeAny_builtin PySem.F.entry_min_loop ?_
  rw[Around.under_plainId PySem.F.plain_min_loop _]
  show wpAny _ X.A.in1 (seqItems? (.ref S) >>= _) _ _ _
  refine wpAny_bind (wpAny_seqItems hS0 rfl ?_)
  show wpAny _ X.A.in1 (tryCatch (pyNext (.ref It)) _ >>= _) _ _ _
  refine wpAny_bind (wpAny_tryCatch (W.item (j+1) _ _ _ (by rw[List.size_toArray, <-ri.length]; exact hlt) ⟨hit,pl.isList⟩ fun u h' tk' hP hst' hk'=>?_))
  have hu:its[j+1]?=some u:=by simpa using hP
  obtain⟨v1,hv1,r1⟩:=Paired.getR ri hu
  obtain⟨oI',hoI',hoc,hod⟩:=id hst'.1
  have I1:Inv X ((S,seqObj "list" #[vb, .int (kf i) tb] c)::(It,oI')::(q,lam)::pins) σ H { s with heap:=h',toks:=tk' } :=
   (I.swap.repin (t':=tk') hI nIS (fun c u hc e=>hk' c u (fun z=>hc (List.mem_singleton.mp z)) e) hoI' fun v z=>by rw[hod] at z; cases z).swap
  show wpAny _ X.A.in1 (tryCatch (holding [u] (call (.ref q) [u])) _ >>= _) _ _ _
  refine wpAny_bind (wpAny_tryCatch (wpAny_holding (wpAny_mono (turn (j+1) v1 u _ _ H hv1 r1 sm (.tail _ (.tail _ (.head _))) I1) (fun x s2 he=>?_) fun _ _ hF=>hF.elim)))
  obtain⟨k9,H2,I2,rk,rfl,sm2⟩:=he
  obtain⟨t2,rfl⟩:=rk
  have hS2:=(I2.pin _ (List.mem_append_right _ (.head _))).1
  have hI2:=(I2.pin (It,oI') (List.mem_append_right _ (.tail _ (.head _)))).1
  show wpAny _ X.A.in1 (tryCatch (holding [u, .int (kf (j+1)) t2] (richCompare .Lt (.int (kf (j+1)) t2) (.int (kf i) tb) >>= _)) _ >>= _) _ _ _
  refine wpAny_bind (wpAny_tryCatch (wpAny_holding (wpAny_bind (CmpOf.ints_lt (prog:=X.prog) (w:=X.w) (A:=X.A.in1) (P:=fun i v=>∃t,v=.int (kf i) t) kf (fun i v h=>h) (j+1) i _ _ _ _ _ ⟨t2,rfl⟩ ⟨tb,rfl⟩ ?_))))
  refine wpAny_bind (wpAny_holding (wpAny_truthy_bool ?_))
  refine wpAny_bind (wpAny_letGo (wpAny_pure ?_))
  by_cases hb':kf (j+1)<kf i
  ·have s1:=Heap.SameBut.update s2.heap S (Obj.mapSeq fun _=>#[u, .int (kf (j+1)) t2])
   obtain⟨c2,hc2⟩:∃c2,(s2.heap.update S (Obj.mapSeq fun _=>#[u, .int (kf (j+1)) t2])).get? S=some (seqObj "list" #[u, .int (kf (j+1)) t2] c2):=⟨_,get?_update_seq hS2 fun _=>#[u, .int (kf (j+1)) t2]⟩
   simp only[hb',decide_true,if_true]
   refine wpAny_bind ?_
   refine wpAny_updateSeq hS2 rfl (wpAny_bind (wpAny_letGo ?_))
   rw[hname]
   refine wpAny_pure ⟨plainId_quiet PySem.F.plain_min_loop _,ih (j+1) (j+1) _ H2 v1 u t2 c2 oI' (by omega) hlt (sm.trans sm2) (I2.repin (t':=s2.toks) hS nSI (fun c u hc e=>(s1.2 c hc).trans e) hc2 fun v z=>by cases z) ⟨oI',(s1.2 It hSI.symm).trans hI2,hoc,hod⟩ hv1 r1 fun j' hj'=>?_⟩
   by_cases e:j'=j+1
   ·subst e; omega
   ·have hb1:=hbest j' (by omega)
    omega
  ·simp only[hb',decide_false,Bool.false_eq_true,if_false]
   refine wpAny_bind (wpAny_letGo ?_)
   rw[hname]
   refine wpAny_pure ⟨plainId_quiet PySem.F.plain_min_loop _,ih (j+1) i _ H2 v vb tb c oI' (by omega) hlt (sm.trans sm2) I2 ⟨oI',hI2,hoc,hod⟩ hv rv fun j' hj'=>?_⟩
   by_cases e:j'=j+1
   ·subst e; omega
   ·exact hbest j' (by omega)
theorem min_keyI {E:Value->Shared->Prop} {s:Shared} {Q:Value->Shared->Prop} (kf:Nat->Int) (hh:X.A.handled=none) (hl:SqL X.K H0 l xs) (h0:0<xs.length) (I:Inv X ((q,lam)::pins) σ H0 s)
  (turn:∀(i:Nat) (v:V) (u:Value) (ps:List (Addr×Obj)) (s:Shared) (H:Hp),xs[i]?=some v->RelV v u->Same H0 H->(q,lam)∈ps->Inv X ps σ H s ->
   wpAny (model X.prog X.w) X.A.in1 (call (.ref q) [u]) (EP X ps σ fun r H'=>r=.int (kf i)/\Same H H') (fun _ _=>False) s)
  (hR:∀(i:Nat) v u H s,xs[i]?=some v->RelV v u->(∀j,j<xs.length->kf i<=kf j)->Same H0 H->Inv X ((q,lam)::pins) σ H s->Q u s) :
  wpAny (model X.prog X.w) X.A (call (.builtin "min") [.ref l] [(Str.ofString "key", .ref q)]) Q E s:=by
 have hname:(toString "min" ++ toString ".loop" : String) = "min.loop" := by decide
 obtain⟨its,ri,pl,_⟩:=I.list hl
 have hls:=pl.isList
 obtain⟨ol,hol,_⟩:=id hls
 have hll:l<s.heap.objs.size:=Heap.lt_size hol
 refine kmk_tree PySem.F.kind_min PySem.F.plain_min PySem.F.entry_min (kmk_min_key _ _) ?_
 show wpAny _ X.A.in1 (Builtin.Builtins.bindParams "min" ["key", "default"] 0 ⟨[], [(Str.ofString "key", .ref q)]⟩ >>= _) _ _ s
 refine wpAny_bind (wpAny_of_eq (show Builtin.Builtins.bindParams "min" ["key", "default"] 0 ⟨[], [(Str.ofString "key", .ref q)]⟩=pure [some (.ref q),none] from rfl) ?_)
 refine wpAny_bind (wpAny_pure ?_)
 refine wpAny_bind (wpAny_pyIter_list hls ?_)
 refine wpAny_bind (wpAny_newList ?_ (Nat.zero_le _))
 rw[hname]
 have hSz:(s.heap.push { cls:=.type "list_iterator", data:=.fields #[.ref l, .int 0 0] }).objs.size=s.heap.objs.size+1:=size_push' ..
 have hlI:l≠s.heap.objs.size:=Nat.ne_of_lt hll
 have hSI:(s.heap.push { cls:=.type "list_iterator", data:=.fields #[.ref l, .int 0 0] }).objs.size≠s.heap.objs.size:=by rw[hSz]; exact Nat.ne_of_gt (Nat.lt_succ_self _)
 have hIb:X.s₀.heap.objs.size<=s.heap.objs.size:=I.sz
 have hSb:X.s₀.heap.objs.size<=(s.heap.push { cls:=.type "list_iterator", data:=.fields #[.ref l, .int 0 0] }).objs.size:=by rw[hSz]; exact Nat.le_succ_of_le hIb
 have hn:∀p∈X.pn++(q,lam)::pins,p.1≠(s.heap.push { cls:=.type "list_iterator", data:=.fields #[.ref l, .int 0 0] }).objs.size/\p.1≠s.heap.objs.size:=fun p hp=>by
  have h1:=Heap.lt_size (I.pin p hp).1
  rw[hSz]
  exact⟨Nat.ne_of_lt (Nat.lt_succ_of_lt h1),Nat.ne_of_lt h1⟩
 refine wpAny_pure ⟨plainId_quiet PySem.F.plain_min_loop _, ?_⟩
 have gI:((s.heap.push { cls:=.type "list_iterator", data:=.fields #[.ref l, .int 0 0] }).push (seqObj "list" #[] 0)).get? s.heap.objs.size=some { cls:=.type "list_iterator", data:=.fields #[.ref l, .int 0 0] } :=
  Heap.get?_push_of_some _ (Heap.get?_push_size _ rfl)
 have gS:((s.heap.push { cls:=.type "list_iterator", data:=.fields #[.ref l, .int 0 0] }).push (seqObj "list" #[] 0)).get? (s.heap.push { cls:=.type "list_iterator", data:=.fields #[.ref l, .int 0 0] }).objs.size=some (seqObj "list" #[] 0):=Heap.get?_push_size _ rfl
 have K0:Inv X ((q,lam)::pins) σ H0 { s with heap:=(s.heap.push { cls:=.type "list_iterator", data:=.fields #[.ref l, .int 0 0] }).push (seqObj "list" #[] 0) }:=I.kept (t':=s.toks) fun b x e=>Heap.get?_push_of_some _ (Heap.get?_push_of_some _ e)
 have fI:FpOk X ((q,lam)::pins) H0 s.heap.objs.size:=I.fpOk (Nat.le_refl _) (I.hok.fresh (Nat.le_refl _))
 have fS:FpOk X ((q,lam)::pins) H0 (s.heap.push { cls:=.type "list_iterator", data:=.fields #[.ref l, .int 0 0] }).objs.size:=by
  have z:s.heap.objs.size<=(s.heap.push { cls:=.type "list_iterator", data:=.fields #[.ref l, .int 0 0] }).objs.size:=by rw[hSz]; exact Nat.le_succ _
  exact I.fpOk z (I.hok.fresh z)
 have K1:Inv X (((s.heap.push { cls:=.type "list_iterator", data:=.fields #[.ref l, .int 0 0] }).objs.size,seqObj "list" #[] 0)::(s.heap.objs.size,{ cls:=.type "list_iterator", data:=.fields #[.ref l, .int 0 0] })::(q,lam)::pins) σ H0 { s with heap:=(s.heap.push { cls:=.type "list_iterator", data:=.fields #[.ref l, .int 0 0] }).push (seqObj "list" #[] 0) }:=K0.pins_of fun p hp=>by
  rcases List.mem_cons.mp hp with z|z
  ·rw[z]; exact⟨gS,fS.1,fS.2.1,fS.2.2.1,fun v z=>by cases z⟩
  ·rcases List.mem_cons.mp z with z|z
   ·rw[z]; exact⟨gI,fI.1,fI.2.1,fI.2.2.1,fun v z=>by cases z⟩
   ·exact K0.pin p (List.mem_append_right _ z)
 generalize(s.heap.push { cls:=.type "list_iterator", data:=.fields #[.ref l, .int 0 0] }).objs.size=S at *
 obtain⟨its,ri,pl,_⟩:=K1.list hl
 have W:=Walks.list (prog:=X.prog) (w:=X.w) (A:=X.A.in1) hh s.heap.objs.size l hlI its.toArray
 refine codeAny_builtin PySem.F.entry_min_loop ?_
 rw[Around.under_plainId PySem.F.plain_min_loop _]
 show wpAny _ X.A.in1 (seqItems? (.ref _) >>= _) _ _ _
 refine wpAny_bind (wpAny_seqItems gS rfl ?_)
 show wpAny _ X.A.in1 (tryCatch (pyNext (.ref s.heap.objs.size)) _ >>= _) _ _ _
 refine wpAny_bind (wpAny_tryCatch (W.item 0 _ _ _ (by rw[List.size_toArray, <-ri.length]; exact h0) ⟨⟨_,gI,rfl,rfl⟩,pl.isList⟩ fun u h' tk' hP hst' hk'=>?_))
 have hu:its[0]?=some u:=by simpa using hP
 obtain⟨v1,hv1,r1⟩:=Paired.getR ri hu
 obtain⟨oI',hoI',hoc,hod⟩:=id hst'.1
 have nIS:∀{oS:Obj},∀p∈X.pn++(S,oS)::(q,lam)::pins,p.1≠s.heap.objs.size:=fun {oS} p hp=>by
  rcases List.mem_append.mp hp with z|z
  ·exact(hn p (List.mem_append_left _ z)).2
  ·rcases List.mem_cons.mp z with z|z
   ·rw[z]; exact hSI
   ·exact(hn p (List.mem_append_right _ z)).2
 have nSI:∀{oS:Obj},∀p∈X.pn++(s.heap.objs.size,oS)::(q,lam)::pins,p.1≠S:=fun {oS} p hp=>by
  rcases List.mem_append.mp hp with z|z
  ·exact(hn p (List.mem_append_left _ z)).1
  ·rcases List.mem_cons.mp z with z|z
   ·rw[z]; exact hSI.symm
   ·exact(hn p (List.mem_append_right _ z)).1
 have I1:=(K1.swap.repin (t':=tk') hIb nIS (fun c u hc e=>hk' c u (fun z=>hc (List.mem_singleton.mp z)) e) hoI' fun v z=>by rw[hod] at z; cases z).swap
 show wpAny _ X.A.in1 (tryCatch (holding [u] (call (.ref q) [u])) _ >>= _) _ _ _
 refine wpAny_bind (wpAny_tryCatch (wpAny_holding (wpAny_mono (turn 0 v1 u _ _ H0 hv1 r1 (Same.refl _) (.tail _ (.tail _ (.head _))) I1) (fun x s2 he=>?_) fun _ _ hF=>hF.elim)))
 obtain⟨k9,H2,I2,rk,rfl,sm2⟩:=he
 obtain⟨t2,rfl⟩:=rk
 have hS2:=(I2.pin _ (List.mem_append_right _ (.head _))).1
 have hI2:=(I2.pin (s.heap.objs.size,oI') (List.mem_append_right _ (.tail _ (.head _)))).1
 have s1:=Heap.SameBut.update s2.heap S (Obj.mapSeq fun _=>#[u, .int (kf 0) t2])
 obtain⟨c2,hc2⟩:∃c2,(s2.heap.update S (Obj.mapSeq fun _=>#[u, .int (kf 0) t2])).get? S=some (seqObj "list" #[u, .int (kf 0) t2] c2):=⟨_,get?_update_seq hS2 fun _=>#[u, .int (kf 0) t2]⟩
 show wpAny _ X.A.in1 (updateSeq S (fun _=>#[u, .int (kf 0) t2]) >>= _) _ _ _
 refine wpAny_bind ?_
 refine wpAny_updateSeq hS2 rfl ?_
 rw[hname]
 refine wpAny_pure ⟨plainId_quiet PySem.F.plain_min_loop _,X9 kf hh hl hlI hSI hSb hIb hn turn hR _ 0 0 _ H2 v1 u t2 c2 oI' rfl h0 sm2 (I2.repin (t':=s2.toks) hSb nSI (fun c u hc e=>(s1.2 c hc).trans e) hc2 fun v z=>by cases z) ⟨oI',(s1.2 _ hSI.symm).trans hI2,hoc,hod⟩ hv1 r1 fun j' hj'=>?_⟩
 have e:j'=0:=by omega
 subst e
 exact Int.le_refl _
end
end L2
namespace L2
open PySem PySem.Spec PyProof.Rows PySem.W
abbrev lamS2:Scope:={ kind:=.function,names:=[("widths", .local),("weights", .free),("weighed", .globalImplicit)],isGenerator:=false,isCoroutine:=false,more:=[] }
abbrev kw (p1 p2 p3 p4:Pos):Expr:=.Call (.Name "weighed" p1) [.Name "weights" p2, .Name "widths" p3] [] p4
abbrev lamE (qual:Str) (f:Addr) (cd:Value) (cz:Addr) (s:Shared):Env:=envX qual lamS2 s.heap.objs.size f cd [(("weights" : Str),cz)]
def cxL (X:Cx) (qual:Str) (f:Addr) (cd:Value) (cz:Addr) (s:Shared) (H:Hp):Cx :=
 { X with A:=X.A.in1.deeper (lamE qual f cd cz s),N:=["widths", "weights"],s₀:=s,H₀:=H,env:=lamE qual f cd cz s,outer:=X.stack,stack:=lamE qual f cd cz s::X.stack,ex:=[],fn:=fun _=>false,calm:=true,pn:=[],xe:=fun _ _=>False }
theorem V0 {y x:Str} {c d:Addr} (h:([(x,c)]:List (Str×Addr)).lookup y=some d):y=x/\d=c:=by
 rw[List.lookup_cons] at h
 cases hb:y==x with
 |true=>rw[hb] at h; cases h; exact⟨eq_of_beq hb,rfl⟩
 |false=>rw[hb] at h; cases h
section
variable {X:Cx} {pins:List (Addr×Obj)} {σ:St} {H:Hp} {s:Shared} {h1:Heap} {t':Nat} {qual:Str} {f cz c':Addr} {u uz:Value} {vx vz:V}
theorem JE {cd:Value} (I:Inv X pins σ H s) (hh:X.A.handled=none) (hcz:X.env.cells.lookup ("weights" : Str)=some cz) (hns:h1.Ns s.heap.objs.size fun y=>[(("widths" : Str),u)].reverse.lookup y) (k:∀b o,s.heap.get? b=some o->h1.get? b=some o)
  (r:RelV vx u) (rz:RelV vz uz) (hc:s.heap.IsCell cz (some uz)):Inv (cxL X qual f cd cz s H) [] [some vx,some vz] H { s with heap:=h1,toks:=t' }:=by
 have noA:∀b:Addr,b∉(cxL X qual f cd cz s H).ex:=fun b z=>absurd (show b∈([]:List Addr) from z) (by simp)
 refine⟨⟨I.ok.mod,rfl,rfl,rfl,Nat.le_refl _,fun a b c h1 h2=>?_,fun y hy=>?_,fun y c h=>absurd h (by simp[cxL]),fun _=>hh,Around.frames_deeper I.ok.frames, .inr ⟨rfl,rfl⟩,fun b z=>absurd z (noA b),I.bs,Nat.le_trans I.ok.bsz I.sz,fun b _ _=>noA b,fun b z=>absurd z (noA b),I.stack,I.stkFree⟩,
  rfl,I.bare,Un.kept k,⟨_,hns,fun i y v e1 e2 e3=>?_⟩,fun y c h=>?_,I.hok.fresh (Nat.le_refl _),fun y c h=>?_,fun p hp=>absurd (show p∈([]:List (Addr×Obj)) from hp) (by simp),I.hok.kept k,rfl⟩
 ·exact(V0 h1).1.trans (V0 h2).1.symm
 ·have hy:lamS2.names.lookup y=some .cell\/lamS2.names.lookup y=some .free:=hy
  have:y = "weights" := by
   simp only[lamS2,List.lookup_cons,List.lookup_nil] at hy
   cases h1:y==("widths" : Str)<;>rw[h1] at hy
   ·cases h2:y==("weights" : Str)<;>rw[h2] at hy
    ·cases h3:y==("weighed" : Str)<;>rw[h3] at hy<;>simp at hy
    ·exact eq_of_beq h2
   ·simp at hy
  subst this
  exact⟨cz,rfl⟩
 ·match i with
  |0=>cases e1; cases e2; exact⟨u,r, .inl ⟨rfl,rfl⟩⟩
  |1 =>
   cases e1; cases e2
   obtain⟨o,ho,hd⟩:=hc
   exact⟨uz,rz, .inr ⟨.inr rfl,cz,rfl,o,k _ _ ho,hd⟩⟩
  |i+2=>cases e1
 ·obtain⟨_,rfl⟩:=V0 h
  obtain⟨o,ho,hd⟩:=hc
  exact⟨_,o,k _ _ ho,hd⟩
 ·obtain⟨_,rfl⟩:=V0 h
  exact I.freeC _ _ hcz
def kW (ap:Pos) (body:Expr):Prop:=∀(qual:Str) (cz:Addr) (pm ctv:Value) (c':Addr) (u:Value),bindArgs (kla_fn "<lambda>" qual (lamP "widths" ap) body lamS2 [(("weights" : Str),cz)] pm (.ref c') ctv) ⟨[u], []⟩=pure [(("widths" : Str),u)]
theorem lam_run {k:Nat} {fg:Addr} {fd:FuncData} {ps:List Str} {sp:Sp} {Q:VK} {ap p1 p2 p3 p4:Pos} {pm ctv:Value} (I:Inv X pins σ H s) (hr:Room (k+2) X.A) (ho:s.heap.get? f=some (kla_obj "<lambda>" qual (lamP "widths" ap) (kw p1 p2 p3 p4) lamS2 [(("weights" : Str),cz)] pm c' ctv)) (hcd:s.heap.CodeRec (.ref c') qual) (hb:kW ap (kw p1 p2 p3 p4))
  (hcz:X.env.cells.lookup ("weights" : Str)=some cz) (rz:RelV vz uz) (hc:s.heap.IsCell cz (some uz)) (F:FnOk X.prog X.w X.K X.mg X.base CX0 k fg fd ps sp) (hm:X.mg "weighed" = some (.ref fg)) (hk:keepIn X.K (.ref fg)=true) (hbd:Binds X.K fd ps []) (r:RelV vx u) (h:sp [vz,vx] H Q E0) :
  wpAny (model X.prog X.w) X.A.in1 (call (.ref f) [u]) (EP X pins σ Q) (fun _ _=>False) s:=by
 refine wpAny_call (kla_callFunE hr.in1.depth ho rfl rfl rfl rfl hcd ?_)
 rw[show bindArgs _ ⟨[u], []⟩=pure [(("widths" : Str),u)] from hb qual cz pm ctv c' u]
 refine wpAny_pure (wpAny_newFunctionEnv (fun y hy=>?_) (fun y hy=>?_) (fun h₁ hns hsb=>⟨I.nolimit.fresh _ hsb, ?_⟩) rfl)
 ·simp only[List.mem_cons,List.not_mem_nil,or_false] at hy
  rcases hy with rfl|rfl|rfl<;>simp
 ·rw[List.mem_singleton.mp hy]; rfl
 have up:∀b o,s.heap.get? b=some o->h₁.get? b=some o:=fun b o e=>hsb.extBut b o (Nat.ne_of_lt (Heap.lt_size e)) (Heap.get?_push_of_some _ e)
 refine kla_codeExpr ?_
 have J:=JE (qual:=qual) (f:=f) (cd:=.ref c') (t':=s.toks+1) I hr.hd hcz hns up r rz hc
 have pe:PE (cxL X qual f (.ref c') cz s H) (kw p1 p2 p3 p4) (v3 sp [] E0 (vo (tVar 1) (vo (tVar 0) tNil))) :=
  XR (X:=cxL X qual f (.ref c') cz s H) F (hr.in1.deeper _) rfl hm hk hbd .nil pass0 (kb (pv 1 rfl (.inr (.inr rfl))) (kb (pv 0 rfl (.inl rfl)) XT))
 refine wpAny_mono (pe [] _ _ H Q J ⟨vz,rfl,vx,rfl,h⟩) (fun u s' ⟨v,H',J',rv,q⟩=>⟨v,H', ?_,rv,q⟩) fun e s' h=>h.elim
 exact I.call' (ch:=[]) J'.os J'.base J'.hok J'.bare fun b hb=>absurd hb (by simp)
end
def Grow (P:Addr) (pos:Pos) (qual:Str) (H H':Hp) (ps':Array Value):Prop:=(∀b o,H b=some o->b≠P->H' b=some o)/\TabH pos qual H' P ps'
def LamMin (K:PySem.W.Frag) (pos:Pos) (qual:Str) (P:Addr) (sp:Sp) (z:V) (vs:List V) (H:Hp) (Q:VK):Prop:=∃(a:Addr) (xs:List V) (ps:Array Value) (kf:Nat->Int),vs=[.ref a]/\SqL K H a xs/\0<xs.length/\TabH pos qual H P ps /\
 (∀(i:Nat) v H2 ps',xs[i]?=some v->Grow P pos qual H H2 ps'->sp [z,v] H2 (fun r H3=>r=.int (kf i)/\Same H2 H3) E0) /\
 ∀(i:Nat) v H2 ps',xs[i]?=some v->(∀j,j<xs.length->kf i<=kf j)->Grow P pos qual H H2 ps'->(∀c,codeAmong pos ps'.toList=some (.ref c)->codeAmong pos ps.toList=some (.ref c)\/H c=none)->Q v H2
def jS (K:PySem.W.Frag) (pos:Pos) (qual:Str) (P:Addr) (sp:Sp) (i:Nat) (ta:TA):TE:=fun σ H Q=>∃z,σ[i]?=some (some z)/\ta σ H fun vs H1=>LamMin K pos qual P sp z vs H1 Q
theorem SqL.grow {K:PySem.W.Frag} {P a:Addr} {H H':Hp} {ps:Array Value} {xs:List V} (old:∀b o,H b=some o->b≠P->H' b=some o) (hT:H P=some (.tbl ps)) (h:SqL K H a xs):SqL K H' a xs:=by
 rcases h with(h|⟨o,h⟩)|h
 ·exact .inl (.inl (old _ _ h fun z=>by rw[z,hT] at h; cases h))
 ·exact .inl (.inr ⟨o,old _ _ h fun z=>by rw[z,hT] at h; cases h⟩)
 ·exact .inr h
section
variable {X:Cx}
theorem XN {K:PySem.W.Frag} {c P cz fg:Addr} {p pos lpos kp ap p1 p2 p3 p4:Pos} {a:Expr} {ta:TA} {i k:Nat} {fd:FuncData} {ps:List Str} {sp:Sp} (hK:X.K=K) (hc:X.calm=true) (L:LamC X c P) (hr:Room (k+2) X.A) (F:FnOk X.prog X.w X.K X.mg X.base CX0 k fg fd ps sp) (hmg:X.mg "weighed" = some (.ref fg)) (hkp:keepIn X.K (.ref fg)=true) (hbd:Binds X.K fd ps [])
  (hm:X.mg "min" = none) (ha:PA X [a] ta) (hg:Gl X "min") (he:starEach [a] X.env=[(false,eval a X.env)]) (hN:X.N[i]?=some "weights") (hv:X.env.scope.names.lookup ("weights" : Str)=some .cell) (hcz:X.env.cells.lookup ("weights" : Str)=some cz) (hcl:closureFor lamS2 X.env=pure [(("weights" : Str),cz)]) (hb:kW ap (kw p1 p2 p3 p4)) :
  PE X (.Call (.Name "min" p) [a] [⟨some "key", .Lambda (lamP "widths" ap) (kw p1 p2 p3 p4) lamS2 lpos,kp⟩] pos) (jS K lpos (X.env.qual ++ "<lambda>") P sp i ta):=by
 subst hK
 intro pins s σ H Q I ⟨z,hz,h⟩
 refine wpAny_Call_Name_kw (xj I hg hm (by rfl) ?_ (by decide) (by decide))
 refine callWith_kw ?_ (by rw[he]; rfl) (by rw[he]; rfl)
 refine thn (ha pos pins s σ H _ I h) fun us s1 ⟨vs,H1,I1,r1,q1⟩=>?_
 obtain⟨l,xs,ps,kf,e,hl,h0,T,hk,q⟩:=q1
 subst e
 cases r1 with
 |cons r rr =>
 cases rr
 cases r
 refine(show wpAny _ _ (evalAll [(do let v <-eval (.Lambda (lamP "widths" ap) (kw p1 p2 p3 p4) lamS2 lpos) X.env; standAt pos; pure v)]) _ _ _ from ?_)
 refine wpAny_evalAll_cons (wpAny_bind ?_)
 refine V3 I1 L T hcl rfl fun f c' ctv g tk H2 ps' I3 kp3 hf hfs hcr T' old new cov ⟨hn,hc2⟩=>?_
 refine wpAny_bind (wpAny_standAt (wpAny_pure (wpAny_evalAll_nil ?_)))
 refine(show wpAny _ _ (call (.builtin "min") [.ref l] [(Str.ofString "key", .ref f)]) _ _ _ from ?_)
 have I4:Inv X ((f,kla_obj "<lambda>" (X.env.qual ++ "<lambda>") (lamP "widths" ap) (kw p1 p2 p3 p4) lamS2 [(("weights" : Str),cz)] ((X.mg "__name__").getD .none) c' ctv)::pins) σ H2 { s1 with heap:=g,toks:=tk }:=I3.pins_of fun p hp =>
  (List.mem_cons.mp hp).elim (fun z=>by subst z; exact⟨hf,hn,Nat.ne_of_gt (Nat.lt_of_lt_of_le I1.lt hfs),I1.nofs hfs,fun v z=>by cases z⟩) fun hp=>I3.pin p (List.mem_append_right _ hp)
 have gr:∀{H9:Hp},Same H2 H9->Grow P lpos (X.env.qual ++ "<lambda>") H1 H9 ps':=fun sm=>⟨fun b o e hb=>sm _ _ (old b o e hb),sm _ _ T'.1,T'.2.1,T'.2.2.imp id fun⟨c,z1,z2⟩=>⟨c,z1,sm _ _ z2⟩⟩
 refine min_keyI kf (I.ok.hd hc) (hl.grow old T.1) h0 I4 (fun j v u ps9 s9 H9 hv9 rv sm hmem J=>?_) fun j v u H9 s9 hv9 rv hbest sm J=>?_
 ·obtain⟨m,hns,hloc⟩:=J.loc
  obtain⟨uz,rz,lz⟩:=hloc i "weights" z hN hz (.inr (.inl hv))
  rcases lz with⟨kl,_⟩|⟨_,c9,hc9,hcell⟩
  ·have kl:X.env.scope.names.lookup ("weights" : Str)=some .local:=kl
   rw[hv] at kl; cases kl
  ·rw[hcz] at hc9; cases hc9
   exact lam_run J hr (J.pin _ (List.mem_append_right _ hmem)).1 (J.hok c' _ (sm _ _ hc2)).1 hb hcz rz hcell F hmg hkp hbd rv (hk j v H9 ps' hv9 (gr sm))
 ·exact⟨v,H9,J.drop,rv,q j v H9 ps' hv9 hbest (gr sm) new⟩
theorem XE {K:PySem.W.Frag} {c P cz:Addr} {p pos lpos kp ap p1 p2 p3 p4:Pos} {a:Expr} {ta:TA} {i k:Nat} {ps:List Str} {sp:Sp} (hK:X.K=K) (hc:X.calm=true) (L:LamC X c P) (hr:Room (k+2) X.A) (D:Def X.prog X.w X.K X.mg X.base "weighed" k ps sp)
  (hm:X.mg "min" = none) (ha:QA X [a] ta) (hcz:X.env.cells.lookup ("weights" : Str)=some cz) (hN:X.N[i]?=some "weights") (hg:Gl X "min" := by rfl) (he:starEach [a] X.env=[(false,eval a X.env)]:=by rfl) (hv:X.env.scope.names.lookup ("weights" : Str)=some .cell:=by rfl) (hcl:closureFor lamS2 X.env=pure [(("weights" : Str),cz)]:=by rfl) (hb:kW ap (kw p1 p2 p3 p4):=by intro _ _ _ _ _ _; rfl) :
  QE X (.Call (.Name "min" p) [a] [⟨some "key", .Lambda (lamP "widths" ap) (kw p1 p2 p3 p4) lamS2 lpos,kp⟩] pos) (jS K lpos (X.env.qual ++ "<lambda>") P sp i ta):=by
 obtain⟨f,fd,h1,h2,h3,h4⟩:=D.ex
 exact⟨XN hK hc L hr h4 h1 h2 h3 hm ha.h hg he hN hv hcz hcl hb⟩
end
section
variable {A:Addr->Prop} {ι:List Addr} {H:Hp} {M:MM} {K:PySem.W.Frag} {te:TE} {ue:UE} {P:Addr} {pos:Pos} {qual:Str}
def MinR (P:Addr) (pos:Pos) (qual:Str) (G:List T->(T->Prop)->Prop) (zt:T) (y:U) (M:MM) (Q:UK):Prop:=∃(k:Nat) (rows:List T) (kf:Nat->Int),y=.p (.lst rows)/\0<rows.length/\M[k]?=some (.tab P pos qual) /\
 (∀(i:Nat) r,rows[i]?=some r->G [zt,r] fun t=>t=.int (kf i))/\∀(i:Nat) r,rows[i]?=some r->(∀j,j<rows.length->kf i<=kf j)->Q (.p r) M
def Vb (P:Addr) (pos:Pos) (qual:Str) (G:List T->(T->Prop)->Prop) (i:Nat) (ue:UE):UE:=fun ρ M Q=>∃zt,ρ[i]?=some (some (.p zt))/\ue ρ M fun y M1=>MinR P pos qual G zt y M1 Q
theorem Wd.grow {H':Hp} {kx:Nat} {ps ps':Array Value} (w:Wd A ι H M) (ht:M[kx]?=some (.tab P pos qual)) (ea:ι[kx]?=some P) (hT:H P=some (.tbl ps)) (hc:codeAmong pos ps.toList=none\/∃c,codeAmong pos ps.toList=some (.ref c)/\H c=some (Z5 c qual)/\c∉ι)
  (g:Grow P pos qual H H' ps') (new:∀c,codeAmong pos ps'.toList=some (.ref c)->codeAmong pos ps.toList=some (.ref c)\/H c=none):Le ι H ι H'/\Wd A ι H' M:=by
 obtain⟨old,T'⟩:=g
 have hPι:P∈ι:=List.mem_of_getElem? ea
 have le2:Le ι H ι H':=⟨⟨[],by simp,by simp⟩,fun x o e n=>old x o e fun z=>n (z▸hPι),fun x e=>by
   by_cases hx:x=P
   ·rw[hx,T'.1]; simp
   ·cases q9:H x with
    |none=>exact absurd q9 e
    |some o=>rw[old x o q9 hx]; simp⟩
 refine⟨le2,w.nd,w.len,fun x hx=>le2.al x (w.dom x hx),w.na,fun k' a' o e1 e2=>?_⟩
 by_cases h9:a'=P
 ·subst h9
  have:k'=kx:=by
   obtain⟨b1,c1⟩:=List.getElem?_eq_some_iff.mp e1
   obtain⟨b2,c2⟩:=List.getElem?_eq_some_iff.mp ea
   exact(List.getElem_inj w.nd).mp (c1.trans c2.symm)
  subst this
  rw[ht] at e2
  cases e2
  refine⟨ps',T'.1,⟨T'.2.1,rfl⟩,T'.2.2.imp id fun⟨c,z1,z2⟩=>⟨c,z1,z2, ?_⟩⟩
  rcases new c z1 with z|z
  ·rcases hc with y9|⟨c2,y1,y2,y3⟩
   ·rw[y9] at z; cases z
   ·rw[y1] at z; cases z; exact y3
  ·exact w.nin z
 ·refine(w.obj k' a' o e1 e2).le' le2 ?_ fun x hx=>?_
  ·obtain⟨o9,h8⟩:=(w.obj k' a' o e1 e2).some
   rw[h8]; exact old _ _ h8 h9
  ·rw[hx]; exact old _ _ hx fun z=>by rw[z,hT] at hx; cases hx
theorem Jk {G:List T->(T->Prop)->Prop} {i:Nat} (hb:LE te ue):LE (jS K pos qual P (spP G) i (vo te tNil)) (Vb P pos qual G i ue):=fun A ι σ H ρ M Qu Q w e ⟨zt,hz,q⟩ k=>by
 obtain⟨vz,hvz,rz⟩:=e.get hz
 refine⟨vz,hvz,hb A ι σ H ρ M _ _ w e q fun y M1 ι1 v H1 l1 w1 r1 ⟨kx,rows,kf,ey,h0,ht,hG,q1⟩=>?_⟩
 subst ey
 cases rz with
 |p rz =>
 cases r1 with
 |p r1 =>
 obtain⟨p,vs,rfl,na,hp,rs⟩:=r1.lst_inv
 obtain⟨a,ea,ps,hT,⟨tr,rfl⟩,hc⟩:=w1.at ht
 have hPι:a∈ι1:=List.mem_of_getElem? ea
 refine⟨p,vs,ps,kf,rfl,SqL.of hp,by rw[rs.len]; exact h0,⟨hT,tr,hc.imp id fun⟨c,z1,z2,_⟩=>⟨c,z1,z2⟩⟩,fun j v H2 ps' hv g=>?_,fun j v H2 ps' hv hbest g new=>?_⟩
 ·obtain⟨r,hr,rr⟩:=Paired.getL rs hv
  have le2:Le ι1 H1 ι1 H2:=⟨⟨[],by simp,by simp⟩,fun x o e n=>g.1 x o e fun z=>n (z▸hPι),fun x e=>by
   by_cases hx:x=a
   ·rw[hx,g.2.1]; simp
   ·cases q9:H1 x with
    |none=>exact absurd q9 e
    |some o=>rw[g.1 x o q9 hx]; simp⟩
  refine⟨Av A ι1, [zt,r],_,fun x hx=>le2.al x (w1.domAv x hx), .cons ((rz.le l1).le le2) (.cons (rr.le le2) .nil),hG j r hr,fun t v9 H3 sm r9 et=>?_⟩
  subst et
  cases r9
  exact⟨rfl,sm⟩
 ·obtain⟨r,hr,rr⟩:=Paired.getL rs hv
  obtain⟨le2,w2⟩:=w1.grow ht ea hT hc g new
  exact k _ M1 ι1 v H2 (l1.trans le2) w2 (.p (rr.le le2)) (q1 j r hr fun j' hj'=>hbest j' (by rw[rs.len]; exact hj'))
theorem JK {G:List T->(T->Prop)->Prop} {i:Nat} (hb:ZE te ue):ZE (jS K pos qual P (spP G) i (vo te tNil)) (Vb P pos qual G i ue):=⟨Jk hb.h⟩
def itK (ns:List Str):UIt:=⟨ns.length,fun _=>True,fun i z=>∃n,ns[i]?=some n/\z=.p (.str n)⟩
def uIterK (ns:List Str):UI:=fun _ M Q=>Q (itK ns) M
theorem li_tupKs {kt:Addr} {ns:List Str} (hk:KTu K kt (ns.map V.str)):LI (iTup K (tC (.ref kt))) (uIterK ns):=fun A ι σ H ρ M Qu R w e q k=>by
 refine⟨kt,rfl,⟨_,hk H⟩,k _ M ι _ H (.refl _ _) w (fun A' ι2 H2 M2 i l w2 _=>⟨fun hi=>?_,fun hi=>⟨_,hk H2,by rw[List.length_map]; exact Nat.le_of_eq hi.symm⟩⟩) q⟩
 have hi:i<ns.length:=hi
 have hn:ns[i]?=some ns[i]:=List.getElem?_eq_getElem hi
 have hx:(ns.map V.str)[i]?=some (.str ns[i]):=by rw[List.getElem?_map,hn]; rfl
 refine⟨⟨_,_,hk H2,hx⟩,fun x H' y=>?_⟩
 obtain⟨rfl,y⟩:=y
 have:=y _ (hk H')
 rw[hx] at this
 cases this
 exact⟨_,⟨_,hn,rfl⟩, .refl _ _,w2, .p (.str _)⟩
theorem ci_tupKs {kt:Addr} {ns:List Str} (hk:KTu K kt (ns.map V.str)):ZI (iTup K (tC (.ref kt))) (uIterK ns):=⟨li_tupKs hk⟩
end
end L2
namespace L2
open PySem PySem.Spec PyProof.Rows PySem.W
theorem ZV {P:Program} {w:World} {K:PySem.W.Frag} {mg mb:Str->Option Value} {CX:CXT} {k:Nat} {fa a:Addr} {Ts:List (Addr×Addr)} {fd:FuncData} {x:Str} {sp:Sp} {s₁:Shared} {vs:List Value} {ns:List Int}
  (KX:K.In s₁.heap) (hns:s₁.heap.Ns mainGlobals mg) (hb:s₁.heap.Ns builtinsNs mb) (hbb:∀x:Str,x ≠ "__name__" -> mb x=bootBuiltins x) (hlim:s₁.heap.NoLimit) (hg:s₁.gens=#[])
  (ha:s₁.heap.get? a=some { cls:=.type "list", data:=.seq vs.toArray }) (hi:IntsAre vs ns) (hl:ns.length<=sizeLine) (hr:Room k callerA)
  (hTs:∀p∈Ts,s₁.heap.get? p.2=some (tabObj #[])/\CodeHd s₁.heap p.1 p.2/\s₁.heap.BuiltinsAt mg p.2) (hK:noTabs K=true)
  (F:∀base:Heap,K.In base->base.Ns mainGlobals mg->(∀p∈Ts,CodeHd base p.1 p.2/\base.BuiltinsAt mg p.2)->FnOk P w K mg base CX k fa fd [x] sp) (hbind:∀(s:Shared) (u:Value),BindsTo s fd ⟨[u], []⟩ [(x,u)])
  (hsp:∀H:Hp,(∀p∈Ts,H p.2=some (.tbl #[]))->SqL K H a (ns.map V.int)->sp [.ref a] H (fun v _=>v=.bl true) fun _ _ _=>False)
  (hCX:∀H e s',CX [] H s₁ (fun _ _ _=>False) e s'->False) :
  codeAny (model P w) callerA (.call (.ref fa) ⟨[.ref a], []⟩) (fun r s'=>r=.ok (.ret (.bool true))/\OldK s₁.heap s'.heap/\s'.os=s₁.os/\AllBare s'.gens) s₁:=by
 have rv:=kZ hi
 have lenV:=hi.length
 have tT:∀{b:Addr},b∈Ts.map (·.2)->s₁.heap.get? b=some (tabObj #[]):=fun {b} hb=>by
  obtain⟨p,hp,rfl⟩:=List.mem_map.mp hb
  exact(hTs p hp).1
 have aT:a∉Ts.map (·.2):=fun z=>by rw[tT z] at ha; cases ha
 have core:∀H:Hp,(∀b∈Ts.map (·.2),H b=some (.tbl #[]))->(∀b,b∉Ts.map (·.2)->H b=none\/∃o xs,H b=some (.frz o (.lst xs)))->SqL K H a (ns.map V.int)->HOk P w H s₁.heap->(∀b,H b≠none->b=a\/b∈Ts.map (·.2))->(H a≠none->K.lookup a=none) ->
   codeAny (model P w) callerA (.call (.ref fa) ⟨[.ref a], []⟩) (fun r s'=>r=.ok (.ret (.bool true))/\OldK s₁.heap s'.heap/\s'.os=s₁.os/\AllBare s'.gens) s₁:=by
  intro H hHT hO hS hok hA hKa
  have base_of:∀{b:Addr} {o:Obj},s₁.heap.get? b=some o->H b=none->(hidT s₁.heap H).get? b=some o:=fun e n=>hidT_get e n
  have noA:∀{b:Addr} {o:Obj},s₁.heap.get? b=some o->o≠tabObj #[]->o≠{ cls:=.type "list", data:=.seq vs.toArray }->H b=none:=fun {b o} e d1 d2=>by
   cases q:H b with
   |none=>rfl
   |some u =>
    rcases hA b (by rw[q]; simp) with e'|e'
    ·subst e'
     rw[ha] at e; cases e
     exact absurd rfl d2
    ·rw[tT e'] at e; cases e
     exact absurd rfl d1
  have nsK:∀{b:Addr} {m:Str->Option Value},s₁.heap.Ns b m->(hidT s₁.heap H).Ns b m:=fun {b m} ⟨o,es,ep,e,d,r⟩=>⟨o,es,ep,base_of e (noA e (fun z=>by rw[z] at d; cases d) (fun z=>by rw[z] at d; cases d)),d,r⟩
  have hKb:K.In (hidT s₁.heap H):=fun b o e=>base_of (KX b o e) (by
   cases q:H b with
   |none=>rfl
   |some u =>
    rcases hA b (by rw[q]; simp) with e'|e'
    ·subst e'
     rw[hKa (by rw[q]; simp)] at e; cases e
    ·have e2:=KX b o e
     rw[tT e'] at e2; cases e2
     have h2:=List.all_eq_true.mp hK _ (mem_of_lookupK e)
     exact absurd (show false=true from h2) Bool.false_ne_true)
  have hCb:∀p∈Ts,CodeHd (hidT s₁.heap H) p.1 p.2/\(hidT s₁.heap H).BuiltinsAt mg p.2:=fun p hp=>by
   obtain⟨_,⟨o,vs9,file,tf,flags,tg,inF,text,tt,e,r1,r⟩,bm,o2,b1,b2,b3,b4,b5,b6,b7⟩:=hTs p hp
   exact⟨⟨o,vs9,file,tf,flags,tg,inF,text,tt,base_of e (noA e (fun z=>by rw[z] at r1; cases r1) (fun z=>by rw[z] at r1; exact absurd (Value.type.inj r1) (by decide))),r1,r⟩,bm,o2,b1,b2,b3,b4,base_of b5 (noA b5 (fun z=>by rw[z] at b6; cases b6) (fun z=>by rw[z] at b6; exact absurd (Value.type.inj b6) (by decide))),b6,b7⟩
  have hM:Mod K mg (hidT s₁.heap H):=⟨hKb,nsK hns,⟨mb,nsK hb,hbb⟩,let⟨mc,h1,h2⟩:=hlim; ⟨mc,nsK h1,h2⟩⟩
  have e0:Env0 P w K mg (hidT s₁.heap H) callerA [] s₁ H:=⟨rfl,hM,fun b o e=>of_hidT e,Nat.le_of_eq (Jv _ _),trivial,fun b hb=>absurd (show b∈([]:List Addr) from hb) (by simp),hok, .of_eq hg⟩
  refine codeAny_mono ((F _ hKb (nsK hns) hCb).run callerA [] s₁ H ⟨[.ref a], []⟩ [.ref a] [.ref a] _ _ hr e0 (hbind s₁ (.ref a)) (.cons rfl .nil) (hsp H (fun p hp=>hHT _ (List.mem_map_of_mem (f:=(·.2)) hp)) hS)) fun r s' h=>?_
  cases r with
  |error e=>exact(hCX H e s' h).elim
  |ok fl =>
   cases fl with
   |next=>exact False.elim h
   |brk=>exact False.elim h
   |cont=>exact False.elim h
   |ret u =>
    obtain⟨v,H',os,bare,un,hok',r',q⟩:=h
    have q':v=.bl true:=q
    subst q'
    obtain rfl:u=Value.bool true:=r'
    refine⟨rfl,⟨fun b o e=>?_,fun b o e=>?_⟩,os,bare⟩
    ·by_cases hbT:b∈Ts.map (·.2)
     ·rw[tT hbT] at e; cases e
      obtain⟨more,hm⟩:=un.tbls b #[] (hHT b hbT)
      obtain⟨p,hp,rfl⟩:=List.mem_map.mp hbT
      exact .inr (.inl ⟨((hTs p hp).2.1.tab (hTs p hp).1).isCodeTable,rfl, #[],more,rfl,hok' _ _ hm⟩)
     ·refine .inl ?_
      cases q:H b with
      |none=>exact un.keep b o e q (by intro z; exact absurd (show b∈([]:List Addr) from z) (by simp)) (by simp)
      |some u =>
       rcases hO b hbT with z|⟨ob,xs,z⟩
       ·rw[q] at z; cases z
       ·have z2:=un.frzs b ob _ z
        obtain⟨e1,_⟩:=hok b _ z
        obtain⟨e2,_⟩:=hok' b _ z2
        rw[e] at e1; cases e1
        exact e2
    ·exact un.there b o e (by simp)
 cases hk:K.lookup a with
 |some o =>
  have e:=KX a o hk
  rw[ha] at e
  cases e
  refine core (fun b=>if b∈Ts.map (·.2) then some (.tbl #[]) else none) (fun b hb=>if_pos hb) (fun b hb=>.inl (if_neg hb)) (.inr ⟨_,vs.toArray,_,hk,rfl,rfl,rfl,by rw[List.size_toArray,lenV]; exact hl,by simpa using rv⟩) (fun b u z=>?_) (fun b z=>?_) fun z=>absurd (if_neg aT) z
  ·by_cases hb:b∈Ts.map (·.2)
   ·have z':=(if_pos hb).symm.trans z
    cases z'
    exact tT hb
   ·have z':=(if_neg hb).symm.trans z
    cases z'
  ·by_cases hb:b∈Ts.map (·.2)
   ·exact .inr hb
   ·exact absurd (if_neg hb) z
 |none =>
  refine core (fun b=>if b∈Ts.map (·.2) then some (.tbl #[]) else if b=a then some (.frz { cls:=.type "list", data:=.seq vs.toArray } (.lst (ns.map V.int))) else none) (fun b hb=>if_pos hb) (fun b hb=>?_) (.inl (.inr ⟨{ cls:=.type "list", data:=.seq vs.toArray },by show(if a∈Ts.map (·.2) then _ else _)=_; rw[if_neg aT,if_pos rfl]⟩)) (fun b u z=>?_) (fun b z=>?_) fun _=>hk
  ·by_cases h2:b=a
   ·exact .inr ⟨_,_,by rw[if_neg hb,if_pos h2]⟩
   ·exact .inl (by rw[if_neg hb,if_neg h2])
  ·by_cases hb:b∈Ts.map (·.2)
   ·have z':=(if_pos hb).symm.trans z
    cases z'
    exact tT hb
   ·have z:=(if_neg hb).symm.trans z
    by_cases h2:b=a
    ·have z':=(if_pos h2).symm.trans z
     cases z'
     subst h2
     exact⟨ha,by rw[List.length_map]; exact hl,vs,_,rv,ha⟩
    ·have z':=(if_neg h2).symm.trans z
     cases z'
  ·by_cases hb:b∈Ts.map (·.2)
   ·exact .inr hb
   ·by_cases h2:b=a
    ·exact .inl h2
    ·exact absurd (by rw[if_neg hb,if_neg h2]) z
theorem walk_ofT2 {l:PySem.W.OpenLaw} {n k:Nat} {q:Program} {loose:List Str} {XP:(Str->Option Value)->Heap->Prop} {YP:World->Heap->Prop} {d dm dn:DefRec} {K:Params->PySem.W.Frag} {CX:World->CXT} {sp:World->Addr->Addr->Sp} {x y z:Str}
  (hn:l.most=some n) (hn2:n<=sizeLine) (hdf:d.params.defaults=[]) (hr:Room k callerA)
  (hY:∀(w:World) (h:Heap),YP w h->(K w.params).In h) (hdm:(recsOf q).find? (fun e=>e.name==y)=some dm) (hdn:(recsOf q).find? (fun e=>e.name==z)=some dn) (c T c2 T2:Addr) (hc:∀w:World,tabIn (K w.params) y=some (c,T)) (hc2:∀w:World,tabIn (K w.params) z=some (c2,T2)) (hK:∀w:World,noTabs (K w.params)=true)
  (F:∀(w:World) (mg:Str->Option Value) (fa:Addr) (h:Heap),(K w.params).In h->h.Ns mainGlobals mg->mg d.name=some (.ref fa) ->
   ∃fd:FuncData,(∀(s:Shared) (u:Value),BindsTo s fd ⟨[u], []⟩ [(x,u)]) /\
    ∀base:Heap,(K w.params).In base->base.Ns mainGlobals mg->(CodeHd base c T/\base.BuiltinsAt mg T)->(CodeHd base c2 T2/\base.BuiltinsAt mg T2)->FnOk l.prog w (K w.params) mg base (CX w) k fa fd [x] (sp w T T2))
  (hsp:∀(w:World) (H:Hp) (a:Addr) (ns:List Int),ns.length<=n->H T=some (.tbl #[])->H T2=some (.tbl #[])->SqL (K w.params) H a (ns.map V.int)->sp w T T2 [.ref a] H (fun v _=>v=.bl true) fun _ _ _=>False)
  (hCX:∀(w:World) (H:Hp) (s:Shared) (e:Value) (s':Shared),CX w [] H s (fun _ _ _=>False) e s'->False) :
  PySem.W.WalkO q loose XP YP l.row.toRowW d [] (fun f vs=>PySem.call f vs):=by
 refine Att.attach_call hn hdf fun w s₀ s₁ mg mb fa o pm cd doc a vs ns G Y ho hd hcd hmg hobj hints hlen hg=>?_
 have KX:=hY w _ Y
 obtain⟨fd,hb,hF⟩:=F w mg fa _ KX G.T.g hmg
 have bA:∀{y:Str} {dm:DefRec} {c T:Addr},(recsOf q).find? (fun e=>e.name==y)=some dm->tabIn (K w.params) y=some (c,T)->s₁.heap.get? T=some (tabObj #[])/\CodeHd s₁.heap c T/\s₁.heap.BuiltinsAt mg T:=fun {y dm c T} hdm hc=>by
  obtain⟨hC,hT⟩:=tab_of G.T KX hdm hc
  obtain⟨bm,ob,b1,b2,b3,b4,b5⟩:=G.T.bmain
  refine⟨hT,hC,bm,ob,b1,b2,fun z=>?_,fun z=>?_,b3,b4,b5⟩
  ·obtain⟨o2,es,ep,e,hd2,_⟩:=G.T.g
   rw[z,e] at b3; cases b3; rw[hd2] at b5; cases b5.2
  ·rw[z,hT] at b3; cases b3; cases b4
 refine ZV (Ts:=[(c,T),(c2,T2)]) KX G.T.g G.T.b G.T.builtins G.T.nolimit hg hobj hints (Nat.le_trans hlen hn2) hr (fun p hp=>?_) (hK w) (fun base h1 h2 h3=>hF base h1 h2 (h3 _ (.head _)) (h3 _ (.tail _ (.head _)))) hb (fun H hO hS=>hsp w H a ns hlen (hO _ (.head _)) (hO _ (.tail _ (.head _))) hS) fun H e s'=>hCX w H s₁ e s'
 rcases List.mem_cons.mp hp with z|z
 ·rw[z]; exact bA hdm (hc w)
 ·rw[List.mem_singleton.mp z]; exact bA hdn (hc2 w)
end L2
namespace Hd
open PySem PySem.W PySem.Calls PyProof.Rows
def topT (tb:String->Option Builtin) (p:Program) (w:World) (m:Nat) (an:Option Value):Nat->SharedT->Thread->Option SharedT
 |0,_,_=>none
 |k+1,s,t=>match through t with
  |true=>some s
  |false=>match stepOk m an t with
   |false=>none
   |true=>match stepT (denote tb) p w s t with
    |some (s1,t1)=>topT tb p w m an k s1 t1
    |none=>none
theorem VQ {tb:String->Option Builtin} {p:Program} {w:World} {m:Nat} {an:Option Value} :
  ∀{k:Nat} {s r:SharedT} {t:Thread},topT tb p w m an k s t=some r->topRun tb p w m an k s.abs t=some r.abs
 |0,_,_,_,h=>by cases h
 |k+1,s,r,t,h=>by
  unfold topT at h
  unfold topRun
  cases ht:through t with
  |true=>rw[ht] at h; cases h; rfl
  |false =>
   rw[ht] at h
   cases hk:stepOk m an t with
   |false=>rw[hk] at h; cases h
   |true =>
    rw[hk] at h
    cases hs:stepT (denote tb) p w s t with
    |none=>rw[hs] at h; cases h
    |some x =>
     obtain⟨s1,t1⟩:=x
     rw[hs] at h
     rw[stepT_spec hs]
     exact VQ h
noncomputable def bootT (P:Params):BT :=
 .node (boot_o_0 P) (.node (boot_o_1 P) (.node (boot_o_3 P) (.node (boot_o_7 P) .nil .nil) .nil) (.node (boot_o_5 P) (.node (boot_o_9 P) .nil .nil) .nil))
  (.node (boot_o_2 P) (.node (boot_o_4 P) (.node (boot_o_8 P) .nil .nil) .nil) (.node (boot_o_6 P) (.node (boot_o_10 P) .nil .nil) .nil))
abbrev bootL:Life:={}
theorem JP (P:Params):boot_heap P=absHeap (bootT P) 11 bootL:=by kernel_rfl
noncomputable def S0 (w:World) (os:OsState):SharedT:=⟨bootT w.params,11,bootL, #[],boot_drawn,boot_toks,os⟩
noncomputable def Look (p q:Program) (loose:List Str) (Xt:Shared->Bool) {α:Type} (Yf:Shared->α) (w:World) (s:Shared) :=
 ((staticsOk (importedModules p.main.body) (boot_heap w.params) s.heap&&namesBound p s.heap&&gensDone s&&laidKept (boot_heap w.params) s.heap),openSeen q loose (importedModules p.main.body) Xt true s,Yf s)
theorem left_of {p q:Program} {loose:List Str} {Xt:Shared->Bool} {α:Type} {Yf:Shared->α} {Ya:World->α} {N M:Nat}
  (e:opening p=plainProg p.main.scope.names) (hN:Nat.ble 600 N=true) (f:∀s,fenceModules? p s=some s) (le:Nat.ble M N=true)
  (run:∀w os,(topT treeTable p w 11 (some (.ref 6)) M (S0 w os) (topStub p)).map (fun s=>Look p q loose Xt Yf w s.abs)=some (true,openGood q loose,Ya w))
  (hs:∀P:Params,((boot_heap P).isNs mainGlobals,(boot_heap P).nsMap mainGlobals "__annotations__")=(true,some (.ref 6))):LeftO p q loose Xt Yf Ya N:=fun w=>by
 obtain⟨⟨h,gs,d,k,os⟩,e1,e2⟩:=Option.map_eq_some_iff.mp (boot_open e hN f w)
 obtain⟨rfl,rfl,rfl,rfl⟩:h=boot_heap w.params/\gs=Array.mk []/\d=boot_drawn/\k=boot_toks:=by simpa using e2
 obtain⟨z1,z3⟩:_/\_:=by simpa only[Prod.mk.injEq] using hs w.params
 obtain⟨r,r1,r2⟩:=Option.map_eq_some_iff.mp (run w os)
 obtain⟨l1,l2,l3⟩:_/\_/\_:=by simpa only[Look,Prod.mk.injEq] using r2
 have r3:=topRun_mono (N-M) _ _ _ _ (VQ r1)
 rw[show M+(N-M)=N by have:=Nat.le_of_ble_eq_true le; omega] at r3
 have a:(S0 w os).abs=⟨boot_heap w.params, #[],boot_drawn,boot_toks,os⟩:=by rw[JP]; rfl
 rw[a] at r3
 have t:topFrom treeTable p w N ⟨boot_heap w.params, #[],boot_drawn,boot_toks,os⟩=some r.abs:=by
  unfold topFrom
  dsimp only
  rw[z1,z3,show(boot_heap w.params).objs.size=11 from rfl,r3]
  show(match staticsOk (importedModules p.main.body) (boot_heap w.params) r.abs.heap&&namesBound p r.abs.heap&&gensDone r.abs&&laidKept (boot_heap w.params) r.abs.heap with|true=>_|false=>_)=_
  rw[l1]
 unfold openEnds
 rw[e1]
 show(topFrom treeTable p w N _).map _=_
 rw[t]
 exact congrArg some (Prod.ext l2 l3)
theorem four {α β δ1 δ2 δ3 δ4 ε ζ:Type} {o:Option α} {A:α->β} {S:α->δ1×δ2×δ3×δ4×ε} {C:α->ζ} {a:β} {g:δ1×δ2×δ3×δ4×ε} {c:ζ} (hA:o.map A=some a) (h1:o.map (fun s=>((S s).1,(S s).2.1,(S s).2.2.1,(S s).2.2.2.1))=some (g.1,g.2.1,g.2.2.1,g.2.2.2.1)) (h2:o.map (fun s=>(S s).2.2.2.2)=some g.2.2.2.2) (hC:o.map C=some c):o.map (fun s=>(A s,S s,C s))=some (a,g,c):=by
 cases o with
 |none=>cases hA
 |some r =>
  simp only[Option.map_some,Option.some.injEq,Prod.mk.injEq] at hA h1 h2 hC ⊢
  exact⟨hA,Prod.ext h1.1 (Prod.ext h1.2.1 (Prod.ext h1.2.2.1 (Prod.ext h1.2.2.2 h2))),hC⟩
theorem look4 {p q:Program} {loose:List Str} {Xt:Shared->Bool} {α:Type} {Yf:Shared->α} {w:World} {y:α} (o:Option SharedT)
  (hA:o.map (fun s=>staticsOk (importedModules p.main.body) (boot_heap w.params) s.abs.heap&&namesBound p s.abs.heap&&gensDone s.abs&&laidKept (boot_heap w.params) s.abs.heap)=some true)
  (hB:o.map (fun s=>((openSeen q loose (importedModules p.main.body) Xt true s.abs).1,(openSeen q loose (importedModules p.main.body) Xt true s.abs).2.1,(openSeen q loose (importedModules p.main.body) Xt true s.abs).2.2.1,(openSeen q loose (importedModules p.main.body) Xt true s.abs).2.2.2.1))=some ((openGood q loose).1,(openGood q loose).2.1,(openGood q loose).2.2.1,(openGood q loose).2.2.2.1))
  (hD:o.map (fun s=>(openSeen q loose (importedModules p.main.body) Xt true s.abs).2.2.2.2)=some (openGood q loose).2.2.2.2) (hC:o.map (fun s=>Yf s.abs)=some y):o.map (fun s=>Look p q loose Xt Yf w s.abs)=some (true,openGood q loose,y):=by
 cases o with
 |none=>cases hA
 |some r =>
  have hA:=Option.some.inj hA
  have hB:=Option.some.inj hB
  have hD:=Option.some.inj hD
  have hC:=Option.some.inj hC
  obtain⟨b1,b2⟩:=Prod.mk.inj hB
  obtain⟨b2,b3⟩:=Prod.mk.inj b2
  obtain⟨b3,b4⟩:=Prod.mk.inj b3
  exact congrArg some (Prod.ext hA (Prod.ext (Prod.ext b1 (Prod.ext b2 (Prod.ext b3 (Prod.ext b4 hD)))) hC))
theorem left_of4 {p q:Program} {loose:List Str} {Xt:Shared->Bool} {α:Type} {Yf:Shared->α} {Ya:World->α} {N M:Nat}
  (e:opening p=plainProg p.main.scope.names) (hN:Nat.ble 600 N=true) (f:∀s,fenceModules? p s=some s) (le:Nat.ble M N=true)
  (rA:∀w os,(topT treeTable p w 11 (some (.ref 6)) M (S0 w os) (topStub p)).map (fun s=>staticsOk (importedModules p.main.body) (boot_heap w.params) s.abs.heap&&namesBound p s.abs.heap&&gensDone s.abs&&laidKept (boot_heap w.params) s.abs.heap)=some true)
  (rB:∀w os,(topT treeTable p w 11 (some (.ref 6)) M (S0 w os) (topStub p)).map (fun s=>((openSeen q loose (importedModules p.main.body) Xt true s.abs).1,(openSeen q loose (importedModules p.main.body) Xt true s.abs).2.1,(openSeen q loose (importedModules p.main.body) Xt true s.abs).2.2.1,(openSeen q loose (importedModules p.main.body) Xt true s.abs).2.2.2.1))=some ((openGood q loose).1,(openGood q loose).2.1,(openGood q loose).2.2.1,(openGood q loose).2.2.2.1))
  (rD:∀w os,(topT treeTable p w 11 (some (.ref 6)) M (S0 w os) (topStub p)).map (fun s=>(openSeen q loose (importedModules p.main.body) Xt true s.abs).2.2.2.2)=some (openGood q loose).2.2.2.2)
  (rC:∀w os,(topT treeTable p w 11 (some (.ref 6)) M (S0 w os) (topStub p)).map (fun s=>Yf s.abs)=some (Ya w))
  (hs:∀P:Params,((boot_heap P).isNs mainGlobals,(boot_heap P).nsMap mainGlobals "__annotations__")=(true,some (.ref 6))):LeftO p q loose Xt Yf Ya N :=
 left_of e hN f le (fun w os=>look4 _ (rA w os) (rB w os) (rD w os) (rC w os)) hs
theorem boot_main (P:Params):((boot_heap P).isNs mainGlobals,(boot_heap P).nsMap mainGlobals "__annotations__")=(true,some (.ref 6)):=by kernel_rfl
end Hd
namespace Hd
open PySem PySem.W PySem.Calls PyProof.Rows
theorem close {r:OpenRow} {q:Program} {loose:List Str} {lv:List (Str×WData)} {H:Hook} {d:DefRec} {kwd:List (Str×Expr)} {N:Nat}
  (left:LeftO r.prog q loose (fun s=>xlAt q lv s&&recOk (RowW.records (OpenRow.toRowW r)) s) H.obs H.val N) (h1:defOf q r.name=some (d,kwd)) (h2:r.prog.theDef r.name=some (d.params,d.body,d.scope))
  (h3:kwWritten? d.params.kwonlyargs d.params.kw_defaults=some kwd) (h4:(!r.writes||r.records.isEmpty)=true) (h5:r.wellSaid=true) (h6:(chainsOk q&&opensWell r.prog&&(frees r.toRowW&&r.within.isEmpty))=true) (h7:r.prog.bare)
  (hw:r.toRowW.promised) (hc:WalkO q loose (XL q lv) H.says r.toRowW d kwd fun f vs=>PySem.call f vs):r.Holds :=
 holds_open left H.of H.keeps (fun s z=>xl_of s (Bool.and_eq_true_iff.mp z).1) XL.keeps h1 h2 h3 (fun s z=>recFacts_of (Bool.and_eq_true_iff.mp z).2) h4 h5 h6 h7 hw hc
end Hd
set_option maxHeartbeats 4000000
namespace Mw
open PySem L2 PyProof.Rows
def top (i:Nat):Stmt:=PySem.Challenge.pw_markwords_k16_whole_chosen_hold.main.body.getD i (.Pass ⟨0,0,0,0⟩)
local macro_rules | `(tactic| walk_at "hp") => `(tactic| first|assumption|exact upd_same|(refine vq (by assumption) ?_; walk_at "hp")|(refine xH (by first|assumption|(apply Ne.symm; assumption)) ?_; walk_at "hp"))
local macro_rules | `(tactic| walk_at "go") => `(tactic| repeat (first|(simp only[L2.start,tSeq,Qc,tAsg,tOp,tUn,tVar,tC,qE,gSub,tRet,tRetN,tIfS,Qd,tLM,tTru,v3,tBM,tBM0,tRev,zJ,xq,VU,xK,xJ,j9,xL,rd_pi,tSl,zf,Qb,rd_I,rd_I0,rd_U,j8,rd_bl,tCB,vo,tNil,tTup,tLst,tYes,tAnd,tOr,tNot,tB,tIf,tAndV,tOrV,tNotV,xS,rd_l1,rd_l2,rd_lr,List.getElem?_cons_zero,List.getElem?_cons_succ,Option.some.injEq,exists_eq_left',List.set_cons_zero,List.set_cons_succ,vV,List.zip_cons_cons,List.zip_nil_left,List.zip_nil_right,List.map_cons,List.map_nil,List.length_cons,List.length_nil,List.replicate,List.append_nil,List.nil_append,List.cons_append,Bool.false_eq_true,if_true,if_false,decide_eq_true_eq,Nat.zero_add,zF,zE])|refine Jq (by walk_at "hp") rfl ?_|refine ixT_at (by walk_at "hp") rfl ?_|refine Jq (by walk_at "hp") at0 ?_|refine setL_at (by walk_at "hp") rfl ?_|refine len_at (by walk_at "hp") ?_|refine kI (by walk_at "hp") ?_|refine kH (by walk_at "hp") ?_|refine lm_at (by walk_at "hp") ?_|refine it_at (by walk_at "hp") ?_|refine eq_at rfl ?_|refine ne_at rfl ?_))
section
variable {P:Program} {w:World} {K:PySem.W.Frag} {mg:Str->Option Value} {base:Heap}
abbrev sBag:Stmt:=top 25
theorem scBag:FnScope ["script", "stir", "cell"] ["script"] (qi sBag):=⟨rfl,rfl,rfl,by decide +kernel,rfl,by decide +kernel,by decide +kernel⟩
abbrev sDraw:Stmt:=top 26
theorem scDraw:FnScope ["bag", "many", "found"] ["bag", "many"] (qi sDraw):=⟨rfl,rfl,rfl,by decide +kernel,rfl,by decide +kernel,by decide +kernel⟩
structure BagAt (H:Hp) (b:Addr):Prop where
 ex:∃(c:Addr) (ns:List Int) (i a st n:Int),H b=some (.lst [.ref c, .int i, .int a, .int st, .int n])/\H c=some (.lst (ns.map V.int))/\0<=i/\i<=ns.length/\ns.length<=63/\(∀x∈ns,0<=x)/\0<=a/\0<=st/\st<2147483647
def spBag (K:PySem.W.Frag):Sp:=fun vs H Q _=>∃(a:Addr) (ns:List Int),vs=[.ref a]/\SqL K H a (ns.map V.int)/\ns.length<=63/\∀(b:Addr) (H':Hp),H b=none->Same H H'->BagAt H' b->Q (.ref b) H'
theorem cut63 (ns:List Int) (h:ns.length<=63):cutV (ns.map V.int) none (some 63)=ns.map V.int:=by
 unfold cutV
 have e1:HT.sIx (ns.map V.int).length 0 none=0:=rfl
 have e2:HT.sIx (ns.map V.int).length (ns.map V.int).length (some 63)=min 63 (ns.map V.int).length:=HT.sIx_nat _ _ 63
 rw[e1,e2]
 simp only[List.drop_zero,List.length_map]
 rw[List.take_of_length_le]
 simp; omega
theorem V5 {ns:List Int} {i:Nat} {y:V} (h:(ns.map V.int)[i]?=some y):∃z,y=V.int z/\ns[i]?=some z:=by
 rw[List.getElem?_map] at h
 cases e:ns[i]? with
 |none=>rw[e] at h; cases h
 |some z=>rw[e] at h; exact⟨z,(Option.some.inj h).symm,rfl⟩
theorem ok_bag {f:Addr} {fd:FuncData} (F:Fun K "_law_bag" "_law_bag" sBag f fd) (N:Nms mg):FnOk P w K mg base CX0 1 f fd ["script"] (spBag K):=by
 refine F.okQ scBag (fun vs H Q E h=>?_) (fun cdv A outer s H vs Q E hr h=>?_)
 ·obtain⟨a,ns,rfl,_⟩:=h
  rfl
 ·obtain⟨a,ns,rfl,hS,hlen,k⟩:=h
  refine⟨_,(qh (qD (i:=1) scBag.nd rfl (Or.inl rfl) qe)
  (qh (v8 PassesOwn.never rfl (qG (K:=K) rfl (vN (vM (K:=K) rfl) (qv 0) xy (vQ qe))) (qO (i:=2) scBag.nd rfl (Or.inl rfl))
   (qj (qD (i:=1) scBag.nd rfl (Or.inl rfl) (qw xh (qw vk (qw vk (qw jG (qv 1) qe) (qw xh (qv 2) qe)) qe) qe))))
  (qj (qx (qV (qa_c (xb [false,false,false] [] (qG (K:=K) rfl (vN (vM (K:=K) rfl) (qv 0) xy (vQ qe))) (fun _ _ _=>(qO (i:=2) scBag.nd rfl (Or.inl rfl))) (fun _ _ _=>vP) (fun _ _ _=>(qw xh (va call_abs (by rfl) N.abs b_abs (qa_c (qv 2) qf)) (qw XV qe qe)))) (qa_c qe (qa_c qe (qa_c (qv 1) (qa_c qe qf)))))))))), ?_⟩
  refine⟨_,rfl,_,rfl,a,_,rfl,hS,fun p hp=>?_⟩
  rw[cut63 ns hlen]
  refine⟨p,rfl,⟨_,SqL.of upd_same⟩,for_list (K:=K) (a:=p) (xs:=ns.map V.int) (fun i σ H2=>∃(st:Int) (v:Option V),σ=[some (.ref a),some (.int st),v]/\0<=st/\st<2147483647/\H2=upd H p (.lst (ns.map V.int)))
   ⟨17,none,rfl,by decide,by decide,rfl⟩ (fun i σ H2 _ ⟨_,_,_,_,_,e⟩=>by rw[e]; exact SqL.of upd_same) ?_ ?_⟩
  ·rintro i y σ H2 hi ⟨st,v,rfl,h0,h1,rfl⟩
   obtain⟨z,rfl,_⟩:=V5 hi
   (simp only[L2.start,tSeq,Qc,tAsg,tOp,tUn,tVar,tC,qE,gSub,tRet,tRetN,tIfS,Qd,tLM,tTru,v3,tBM,tBM0,tRev,zJ,xq,VU,xK,xJ,j9,xL,rd_pi,tSl,zf,Qb,rd_I,rd_I0,rd_U,j8,rd_bl,tCB,vo,tNil,tTup,tLst,tYes,tAnd,tOr,tNot,tB,tIf,tAndV,tOrV,tNotV,xS,rd_l1,rd_l2,rd_lr,List.getElem?_cons_zero,List.getElem?_cons_succ,Option.some.injEq,exists_eq_left',List.set_cons_zero,List.set_cons_succ,vV,List.zip_cons_cons,List.zip_nil_left,List.zip_nil_right,List.map_cons,List.map_nil,List.length_cons,List.length_nil,List.replicate,List.append_nil,List.nil_append,List.cons_append,Bool.false_eq_true,if_true,if_false,decide_eq_true_eq,Nat.zero_add,zF,zE])
   refine⟨.inr ⟨by decide,by decide⟩,by decide,by decide,_,_,rfl,Int.emod_nonneg _ (by decide),Int.emod_lt_of_pos _ (by decide),trivial⟩
  ·rintro σ H2 ⟨st,v,rfl,h0,h1,rfl⟩
   have hS2:SqL K (upd H p (.lst (ns.map V.int))) a (ns.map V.int):=((Same.refl H).upd hp).seq hS
   refine⟨_,rfl,_,rfl,a,_,rfl,hS2,fun p2 hp2=>?_⟩
   rw[cut63 ns hlen]
   obtain⟨f2,n2⟩:=kO hp2
   refine⟨p2,rfl,⟨_,SqL.of upd_same⟩,fun acc hacc=>?_⟩
   obtain⟨g1,n3⟩:=kO hacc
   obtain⟨g2,n4⟩:=kO g1
   refine JH (xs:=ns.map V.int) (fun i H3=>∃ys:List Int,H3 acc=some (.lst (ys.map V.int))/\ys.length=i/\(∀y∈ys,0<=y)/\H3 p2=some (.lst (ns.map V.int))/\Same H H3) ?_ ?_ ?_ ?_
   ·exact⟨[],upd_same,rfl,(fun _ h=>nomatch h),vq hacc upd_same,(((Same.refl H).upd hp).upd f2).upd g2⟩
   ·rintro i H3 _ ⟨ys,_,_,_,e,_⟩
    exact SqL.of e
   ·rintro i y H3 hi ⟨ys,e1,e2,e3,e4,e5⟩
    obtain⟨z,rfl,hz⟩:=V5 hi
    have hil:i<ns.length:=(List.getElem?_eq_some_iff.mp hz).1
    (simp only[L2.start,tSeq,Qc,tAsg,tOp,tUn,tVar,tC,qE,gSub,tRet,tRetN,tIfS,Qd,tLM,tTru,v3,tBM,tBM0,tRev,zJ,xq,VU,xK,xJ,j9,xL,rd_pi,tSl,zf,Qb,rd_I,rd_I0,rd_U,j8,rd_bl,tCB,vo,tNil,tTup,tLst,tYes,tAnd,tOr,tNot,tB,tIf,tAndV,tOrV,tNotV,xS,rd_l1,rd_l2,rd_lr,List.getElem?_cons_zero,List.getElem?_cons_succ,Option.some.injEq,exists_eq_left',List.set_cons_zero,List.set_cons_succ,vV,List.zip_cons_cons,List.zip_nil_left,List.zip_nil_right,List.map_cons,List.map_nil,List.length_cons,List.length_nil,List.replicate,List.append_nil,List.nil_append,List.cons_append,Bool.false_eq_true,if_true,if_false,decide_eq_true_eq,Nat.zero_add,zF,zE])
    refine⟨⟨by(repeat (first|exact ExtS.nl|refine ExtS.sm ?_|refine ExtS.no ?_)),trivial⟩,⟨by decide,by decide,by decide⟩,by decide,ys.map V.int,e1,qH (by simp; omega),ys++[(if z<0 then -z else z) % 10^(60:Int).toNat], ?_,by simp[e2], ?_,xH n3.symm e4,e5.upd g2⟩
    ·rw[upd_same,List.map_append]; rfl
    ·intro y hy
     rcases List.mem_append.mp hy with h|h
     ·exact e3 y h
     ·rw[List.mem_singleton.mp h]; exact Int.emod_nonneg _ (by decide)
   ·rintro H3 ⟨ys,e1,e2,e3,e4,e5⟩
    rw[List.length_map] at e2
    (simp only[L2.start,tSeq,Qc,tAsg,tOp,tUn,tVar,tC,qE,gSub,tRet,tRetN,tIfS,Qd,tLM,tTru,v3,tBM,tBM0,tRev,zJ,xq,VU,xK,xJ,j9,xL,rd_pi,tSl,zf,Qb,rd_I,rd_I0,rd_U,j8,rd_bl,tCB,vo,tNil,tTup,tLst,tYes,tAnd,tOr,tNot,tB,tIf,tAndV,tOrV,tNotV,xS,rd_l1,rd_l2,rd_lr,List.getElem?_cons_zero,List.getElem?_cons_succ,Option.some.injEq,exists_eq_left',List.set_cons_zero,List.set_cons_succ,vV,List.zip_cons_cons,List.zip_nil_left,List.zip_nil_right,List.map_cons,List.map_nil,List.length_cons,List.length_nil,List.replicate,List.append_nil,List.nil_append,List.cons_append,Bool.false_eq_true,if_true,if_false,decide_eq_true_eq,Nat.zero_add,zF,zE])
    refine⟨by decide,fun b hb=>?_⟩
    refine k b _ (e5.free hb) (e5.upd (e5.free hb)) ⟨acc,ys,0,0,st,0,upd_same,vq hb e1,by decide,by omega,by omega,e3,by decide,h0,h1⟩
theorem JQ {H:Hp} {b c:Addr} {ns:List Int} {i a st n:Int} (hb:H b=some (.lst [.ref c, .int i, .int a, .int st, .int n])) (hc:H c=some (.lst (ns.map V.int))):c≠b:=by
 intro e
 subst e
 rw[hb] at hc
 injection hc with hc
 injection hc with hc
 cases ns with
 |nil=>cases hc
 |cons z r=>cases hc
def xk (H:Hp) (b c:Addr):Prop:=∃r,H b=some (.lst (.ref c::r))
theorem QQ {H H':Hp} {b c:Addr} {r r':List V} (h:H b=some (.lst (.ref c::r))) (h':H' b=some (.lst (.ref c::r'))):∀c',xk H b c'->xk H' b c':=fun c' ⟨q,e⟩=>by
 rw[h] at e
 injection e with e
 injection e with e
 injection e with e _
 injection e with e
 subst e
 exact⟨r',h'⟩
theorem head_inj {H:Hp} {b c c':Addr} (h:xk H b c) (h':xk H b c'):c=c':=by
 obtain⟨q,e⟩:=h
 obtain⟨q',e'⟩:=h'
 rw[e] at e'
 injection e' with e'
 injection e' with e'
 injection e' with e' _
 injection e'
def spDraw2:Sp:=fun vs H Q _=>∃(b:Addr) (many:Int),vs=[.ref b, .int many]/\BagAt H b/\0<many/\many.natAbs.log2<9000/\∀(found:Int) (H':Hp),0<=found->found<many->BagAt H' b->(∀x,x≠b->H' x=H x)->(∀c,xk H b c->xk H' b c)->Q (.int found) H'
theorem BagAt.put {H:Hp} {b p c0:Addr} {o:HO} (h:BagAt H b) (hh:xk H b c0) (n1:p≠b) (n2:p≠c0):BagAt (L2.upd H p o) b:=by
 obtain⟨c,ns,i,a,st,n,hb,hc,r⟩:=h.ex
 have e:c0=c:=by
  obtain⟨q,e⟩:=hh
  rw[hb] at e
  injection e with e
  injection e with e
  injection e with e _
  injection e with e
  exact e.symm
 subst e
 exact⟨c0,ns,i,a,st,n,xH n1.symm hb,xH n2.symm hc,r⟩
theorem ok_draw2 {f:Addr} {fd:FuncData} (F:Fun K "_law_draw" "_law_draw" sDraw f fd) (N:Nms mg):FnOk P w K mg base CX0 1 f fd ["bag", "many"] spDraw2:=by
 refine F.okQ scDraw (fun vs H Q E h=>?_) (fun cdv A outer s H vs Q E hr h=>?_)
 ·obtain⟨b,m,rfl,_⟩:=h
  rfl
 ·obtain⟨b,many,rfl,⟨c,ns,i,a,st,n,hb,hc,i0,i1,hl,hns,a0,s0,s1⟩,m0,mb,k⟩:=h
  have hcb:=JQ hb hc
  refine⟨_,(qh (zd (Vi (qw_and (qL Vn (qI (qt (K:=K) rfl) (qv 0) qe (fun _ _=>rfl)) qe (qQ _)) (qw_and1 (qL Zu (qI (qt (K:=K) rfl) (qv 0) qe (fun _ _=>rfl)) (va vY (by rfl) N.len VG (qa_c (qI (qt (K:=K) rfl) (qv 0) qe (fun _ _=>rfl)) qf)) (qQ _)))))
   (qh (jC (qI (qt (K:=K) rfl) (qI (qt (K:=K) rfl) (qv 0) qe (fun _ _=>rfl)) (qI (qt (K:=K) rfl) (qv 0) qe (fun _ _=>rfl)) (fun _ _=>rfl)) (Qm (qv 0) qe zZ))
   (qj (jC (qw vk (qI (qt (K:=K) rfl) (qv 0) qe (fun _ _=>rfl)) qe) (Qm (qv 0) qe zZ))))
   (qj (zd (qL Vn (qI (qt (K:=K) rfl) (qv 0) qe (fun _ _=>rfl)) qe (qQ _))
    (qh (jC (qw vk (qI (qt (K:=K) rfl) (qv 0) qe (fun _ _=>rfl)) qe) (Qm (qv 0) qe zZ))
    (qh (jC (qw xh (qw vk (qw vk (qw vk (qw XV (qI (qt (K:=K) rfl) (qv 0) qe (fun _ _=>rfl)) qe) (qw jG qe (qI (qt (K:=K) rfl) (qv 0) qe (fun _ _=>rfl)))) (qw jG qe (qI (qt (K:=K) rfl) (qv 0) qe (fun _ _=>rfl)))) qe) qe) (Qm (qv 0) qe zZ))
    (qj (qx (qw xh (qw VZ (qI (qt (K:=K) rfl) (qv 0) qe (fun _ _=>rfl)) qe) (qv 1))))))
    vd)))
  (qh (qD (i:=2) scDraw.nd rfl (Or.inl rfl) (qw xh (qI (qt (K:=K) rfl) (qv 0) qe (fun _ _=>rfl)) (qv 1)))
  (qh (jC (qw VZ (qI (qt (K:=K) rfl) (qv 0) qe (fun _ _=>rfl)) (qv 1)) (Qm (qv 0) qe zZ))
  (qj (qx (qv 2)))))), ?_⟩
  walk_at "go"
  have fin:∀(z:Int) (H':Hp) (i' a' st' n':Int),0<=z->H' b=some (.lst [.ref c, .int i', .int (z / many), .int st', .int n'])->(∀x,x≠b->H' x=H x)->0<=i'->i'<=ns.length->0<=st'->st'<2147483647->Q (.int (z % many)) H':=fun z H' i' a' st' n' hz e1 e2 e3 e4 e5 e6 =>
   k _ _ (Int.emod_nonneg _ (by omega)) (Int.emod_lt_of_pos _ m0) ⟨c,ns,i',z / many,st',n',e1,by rw[e2 c hcb]; exact hc,e3,e4,hl,hns,Int.ediv_nonneg hz (by omega),e5,e6⟩ e2 (QQ hb e1)
  refine ite2 (fun ha=>?_) (fun ha=>?_)
  ·walk_at "go"
   refine ite2 (fun hi=>?_) (fun hi=>?_)
   ·rw[List.length_map] at hi
    obtain⟨j,rfl⟩:∃j:Nat,i=(j:Int):=⟨i.toNat,by omega⟩
    have hj:j<ns.length:=by omega
    walk_at "go"
    refine Jq hc (kU (v:=.int ns[j]) (by rw[List.getElem?_map,List.getElem?_eq_getElem hj]; rfl)) ?_
    walk_at "go"
    refine⟨m0, ?_⟩
    walk_at "go"
    refine⟨⟨m0,mb⟩, ?_⟩
    walk_at "go"
    exact fin _ _ (j+1) 0 st n (hns _ (List.getElem_mem hj)) upd_same (fun x hx=>by rw[upd_ne hx,upd_ne hx,upd_ne hx]) (by omega) (by omega) s0 s1
   ·walk_at "go"
    rw[if_pos ha]
    walk_at "go"
    refine⟨⟨by decide,by decide,by omega⟩, ?_⟩
    walk_at "go"
    refine⟨.inl ⟨by decide,by decide⟩, ?_⟩
    walk_at "go"
    refine⟨.inl ⟨by decide,by decide⟩,by decide, ?_⟩
    walk_at "go"
    refine⟨⟨by decide,by decide⟩,m0, ?_⟩
    refine k _ _ (Int.emod_nonneg _ (by omega)) (Int.emod_lt_of_pos _ m0) ⟨c,ns,i,a,_,n+1,upd_same, ?_,i0,i1,hl,hns,a0,Int.emod_nonneg _ (by decide),Int.emod_lt_of_pos _ (by decide)⟩ (fun x hx=>by rw[upd_ne hx,upd_ne hx]) (QQ hb upd_same)
    walk_at "hp"
  ·walk_at "go"
   rw[if_neg ha]
   walk_at "go"
   refine⟨m0, ?_⟩
   walk_at "go"
   refine⟨⟨m0,mb⟩, ?_⟩
   walk_at "go"
   exact fin _ _ i 0 st n a0 upd_same (fun x hx=>by rw[upd_ne hx]) i0 i1 s0 s1
def MB (M:MM) (k:Nat) (o:MO) (L:List MO):MM:=M.set k o++L
theorem MB_len {M:MM} {k:Nat} {o:MO} {L:List MO}:(MB M k o L).length=M.length+L.length:=by unfold MB; rw[List.length_append,List.length_set]
theorem MB_new {M:MM} {k:Nat} {o x:MO} {L:List MO}:MB M k o L++[x]=MB M k o (L++[x]):=by unfold MB; rw[List.append_assoc]
theorem MB_get {M:MM} {k i:Nat} {o:MO} {L:List MO}:(MB M k o L)[M.length+i]?=L[i]?:=by
 unfold MB
 rw[List.getElem?_append_right (by rw[List.length_set]; omega),List.length_set,Nat.add_sub_cancel_left]
theorem vH {M:MM} {k i:Nat} {o x:MO} {L:List MO} (h:L[i]?=some x:=by rfl):(MB M k o L)[M.length+i]?=some x:=MB_get.trans h
theorem MB_set {M:MM} {k i:Nat} {o x:MO} {L:List MO}:(MB M k o L).set (M.length+i) x=MB M k o (L.set i x):=by
 unfold MB
 rw[List.set_append_right _ _ (by rw[List.length_set]; omega),List.length_set,Nat.add_sub_cancel_left]
theorem MB_bag {M:MM} {k:Nat} {o:MO} {L:List MO} (h:k<M.length):(MB M k o L)[k]?=some o:=by
 unfold MB
 rw[List.getElem?_append_left (by rw[List.length_set]; exact h),List.getElem?_set_self h]
theorem Q9 {M:MM} {k:Nat} {o o':MO} {L:List MO} (h:k<M.length):(MB M k o L).set k o'=MB M k o' L:=by
 unfold MB
 rw[List.set_append_left _ _ (by rw[List.length_set]; exact h),List.set_set]
theorem jt {M:MM} {k:Nat} {o:MO} {L:List MO}:(MB M k o L).take M.length=M.set k o:=by
 unfold MB
 rw[List.take_left' (by rw[List.length_set])]
theorem xN {M:MM} {k:Nat} {o:MO} (h:M[k]?=some o):k<M.length/\M=MB M k o []:=by
 refine⟨(List.getElem?_eq_some_iff.mp h).1, ?_⟩
 unfold MB
 rw[List.append_nil]
 obtain⟨hk,rfl⟩:=List.getElem?_eq_some_iff.mp h
 rw[List.set_getElem_self]
theorem js {M:MM} {k:Nat} {o:MO} {L:List MO} (h:PurO o):vZ M (MB M k o L):=fun i x hi e=>by
 unfold MB at e
 rw[List.getElem?_append_left (by rw[List.length_set]; exact hi)] at e
 by_cases hk:k=i
 ·subst hk
  rw[List.getElem?_set_self hi] at e
  cases e
  exact .inr h
 ·rw[List.getElem?_set_ne hk] at e
  exact .inl e
structure BagO (o:MO):Prop where
 ex:∃(ns:List Int) (i a st n:Int),o=.lst [.p (intsT ns), .p (.int i), .p (.int a), .p (.int st), .p (.int n)]/\0<=i/\i<=ns.length/\ns.length<=63/\(∀x∈ns,0<=x)/\0<=a/\0<=st/\st<2147483647
theorem BagO.pur {o:MO} (h:BagO o):PurO o:=by
 obtain⟨ns,i,a,st,n,rfl,_⟩:=h.ex
 exact⟨[intsT ns, .int i, .int a, .int st, .int n],rfl⟩
def kL:List U->MM->UK->Prop:=fun us M Q=>∃(k:Nat) (o:MO) (many:Int),us=[.m k, .p (.int many)]/\M[k]?=some o/\BagO o/\0<many/\many.natAbs.log2<9000/\∀(found:Int) (o':MO),0<=found->found<many->BagO o'->Q (.p (.int found)) (M.set k o')
theorem vh {M:MM} {k:Nat} {o:MO} {L:List MO} {many:Int} {Q:UK} (hk:k<M.length) (B:BagO o) (h0:0<many) (h1:many.natAbs.log2<9000) (q:∀(found:Int) (o':MO),0<=found->found<many->BagO o'->Q (.p (.int found)) (MB M k o' L)):kL [.m k, .p (.int many)] (MB M k o L) Q :=
 ⟨k,o,many,rfl,MB_bag hk,B,h0,h1,fun f o' f0 f1 B'=>by rw[Q9 hk]; exact q f o' f0 f1 B'⟩
theorem ints_inv {A:Addr->Prop} {H:Hp} {v:V} {ns:List Int} (r:RepT A H v (intsT ns)):∃p,v=.ref p/\¬A p/\H p=some (.lst (ns.map V.int)):=by
 obtain⟨p,vs,rfl,na,h,q⟩:=r.lst_inv
 refine⟨p,rfl,na, ?_⟩
 have:vs=ns.map V.int:=by
  clear h r na
  induction ns generalizing vs with
  |nil=>cases q; rfl
  |cons n ns ih =>
   cases q with
   |cons a b=>cases a; rw[ih _ b]; rfl
 rw[h,this]
theorem V4 {A:Addr->Prop} {H:Hp} {p:Addr} {ns:List Int} (na:¬A p) (h:H p=some (.lst (ns.map V.int))):RepT A H (.ref p) (intsT ns):=by
 refine .lstP na h ?_
 induction ns with
 |nil=>exact .nil
 |cons n ns ih=>exact .cons (.int n) (by
   clear h ih
   induction ns with
   |nil=>exact .nil
   |cons n ns ih=>exact .cons (.int n) ih)
theorem bag_obj {A:Addr->Prop} {ι:List Addr} {H:Hp} {b:Addr} {o:MO} (hb:BagO o) (r:ObjR A ι H b o):BagAt H b/\∃c,xk H b c/\¬Av A ι c/\∃ns:List Int,H c=some (.lst (ns.map V.int)):=by
 obtain⟨ns,i,a,st,n,rfl,k⟩:=hb.ex
 obtain⟨vs,h,q⟩:=r
 cases q with
 |cons q1 q =>
 cases q with
 |cons q2 q =>
 cases q with
 |cons q3 q =>
 cases q with
 |cons q4 q =>
 cases q with
 |cons q5 q =>
 cases q
 cases q1 with
 |p q1 =>
 obtain⟨c,rfl,nc,hc⟩:=ints_inv q1
 cases q2 with
 |p q2 =>
 cases q3 with
 |p q3 =>
 cases q4 with
 |p q4 =>
 cases q5 with
 |p q5 =>
 cases q2; cases q3; cases q4; cases q5
 exact⟨⟨c,ns,i,a,st,n,h,hc,k⟩,c,⟨_,h⟩,nc,ns,hc⟩
theorem Zh {A:Addr->Prop} {ι:List Addr} {H:Hp} {b c:Addr} (B:BagAt H b) (hd:xk H b c) (nc:¬Av A ι c):∃o,BagO o/\ObjR A ι H b o/\∃x,H b=some x/\∀H',H' b=some x->(∀y z,H y=some z->y≠b->H' y=some z)->ObjR A ι H' b o:=by
 obtain⟨c',ns,i,a,st,n,h,hc,k⟩:=B.ex
 have:c=c':=head_inj hd ⟨_,h⟩
 subst this
 have ncb:c≠b:=JQ h hc
 refine⟨_,⟨ns,i,a,st,n,rfl,k⟩,⟨_,h, .cons (.p (V4 nc hc)) (.cons (.p (.int _)) (.cons (.p (.int _)) (.cons (.p (.int _)) (.cons (.p (.int _)) .nil))))⟩,_,h,fun H' e f=>⟨_,e, .cons (.p (V4 nc (f _ _ hc ncb))) (.cons (.p (.int _)) (.cons (.p (.int _)) (.cons (.p (.int _)) (.cons (.p (.int _)) .nil))))⟩⟩
theorem ok_drawU {f:Addr} {fd:FuncData} (F:Fun K "_law_draw" "_law_draw" sDraw f fd) (N:Nms mg):FnOk P w K mg base CX0 1 f fd ["bag", "many"] (spU kL):=by
 refine(ok_draw2 F N).imp fun vs H Q E h=>?_
 obtain⟨A,ι,M,us,Qu,w1,r,⟨k,o,many,rfl,em,hb,h0,h1,q⟩,kk⟩:=h
 cases r with
 |cons r1 r =>
 cases r with
 |cons r2 r =>
 cases r
 cases r2 with
 |p r2 =>
 cases r2
 cases r1 with
 |m ek =>
 rename_i b
 have ro:=w1.obj k b o ek em
 obtain⟨B,c,hd,nc,ns,hcs⟩:=bag_obj hb ro
 refine⟨b,many,rfl,B,h0,h1,fun found H' f0 f1 B' fr hdk=>?_⟩
 have hd':=hdk c hd
 have hmem:=List.mem_of_getElem? ek
 obtain⟨o',hb',ro',x,hx,_⟩:=Zh (A:=A) (ι:=ι) B' hd' nc
 have eH:H'=L2.upd H b x:=by
  funext y
  by_cases z:y=b
  ·subst z; rw[L2.upd_same]; exact hx
  ·rw[L2.upd_ne z]; exact fr y z
 subst eH
 exact kk _ _ ι _ _ (.put hmem) (w1.put ek ro') (.p (.int _)) (q found o' f0 f1 hb')
theorem up1 {a:T} {R:T->Prop}:(∃t,U.p a=.p t/\R t)=R a:=propext ⟨fun⟨_,e,h⟩=>by cases e; exact h,fun h=>⟨a,rfl,h⟩⟩
theorem xR {k:Nat} {ts:List T} {ρ0:UEnv} {M:MM} {ug:UG} {ut:UT} {ua:UE} {Q:UK} (hz:ts.length<=sizeLine) (Iv:Nat->List T->MM->Prop) (h0:Iv 0 [] M) (hk:∀i acc M2,Iv i acc M2->M2[k]?=some (.lst (ts.map U.p))) (hs:∀i t acc M2,ts[i]?=some t->acc.length<=i->Iv i acc M2->ug (.p t) ρ0 M2 fun ρ4 M4=>ut ρ4 M4 fun b M5=>if b=true then ua ρ4 M5 fun z M6=>∃t,z=.p t/\Iv (i+1) (acc++[t]) M6 else Iv (i+1) acc M5) (hd:∀acc M2,Iv ts.length acc M2->Q (.p (.lst acc)) M2):JW (itU (.m k) (ts.map U.p)) ug ut ua ρ0 M Q:=by
 refine⟨by simpa[itU] using hz,Iv,h0,fun i acc M2 hi ha h=>⟨by show qF M2 (.m k)=_; simp[qF,hk i acc M2 h],fun u hu=>?_⟩,fun acc M2 h=>⟨by show qF M2 (.m k)=_; simp[qF,hk _ acc M2 h],hd acc M2 (by simpa[itU] using h)⟩⟩
 have hu:(ts.map U.p)[i]?=some u:=hu
 rw[List.getElem?_map] at hu
 cases e:ts[i]? with
 |none=>rw[e] at hu; cases hu
 |some t=>rw[e] at hu; cases hu; exact hs i t acc M2 e ha h
theorem qJ {α β:Type} {f:α->β} {l:List α} {i:Nat} {y:β} (h:(l.map f)[i]?=some y):∃x,l[i]?=some x/\y=f x:=by
 rw[List.getElem?_map] at h
 cases e:l[i]? with
 |none=>rw[e] at h; cases h
 |some n=>rw[e] at h; cases h; exact⟨n,rfl,rfl⟩
theorem t2_at {M:MM} {u a b:U} {R:U->U->Prop} (h:vE M u=some [a,b]) (q:R a b):T2S M u R:=⟨a,b,h,q⟩
theorem t3_at {M:MM} {u a b c:U} {R:U->U->U->Prop} (h:vE M u=some [a,b,c]) (q:R a b c):T3S M u R:=⟨a,b,c,h,q⟩
theorem slm_at {M:MM} {k:Nat} {ts:List T} {l h:Option Int} {Q:UK} (e:M[k]?=some (.lst (ts.map U.p))) (q:Q (.p (.lst (cutT ts l h))) M):SlS M (.m k) l h Q:=⟨ts,by simp[sn,e],q⟩
theorem useq {a b:US} {E:UEnds} {ρ:UEnv} {M:MM} (h:a { E with nx:=b E } ρ M):uSeq a b E ρ M:=h
local macro_rules | `(tactic| walk_at "us") => `(tactic| first|walk_at "vs" |simp only[uSeq])
local macro_rules | `(tactic| walk_at "u") => `(tactic| repeat (first|walk_at "us" |refine vK rfl ?_|refine vK at0 ?_|refine vK at1 ?_|refine ixt_at rfl ?_|refine t2_at rfl ?_|refine t3_at rfl ?_|refine me_at rfl ?_|refine kr rfl ?_|refine me_at vH ?_|refine kr vH ?_))
local macro_rules | `(tactic| walk_at "vs") => `(tactic| simp only[zh,uNext,uAsg,Xh,rd_name2,rd_name3,rd_var,rd_varS,uC,uCons,uNil,rd_op,rd_opS,rd_sI,rd_sI0,rd_eqI,rd_neI,rd_eqS,rd_neS,rd_eqB,rd_neB,uIsN,Vx,rd_intS,rd_blS,rd_neg,rd_bits,rd_b,rd_andV,rd_orV,rd_notV,uAnd,uOr,uNot,uIf,rd_chain,rd_chP,rd_ch,rd_pur0,rd_purC,Xx,rd_tup,rd_lst,uNew,uNewT,rd_ix,rd_sns0,rd_snsC,rd_cb,rd_abs',rd_min',rd_max',rd_int',rd_intB,rd_len,rd_lenP,rd_sl,rd_slS,rd_part,Xy,rd_cat,rd_str,rd_iter,rd_iterP,rd_rng1,uFor,uComp,maskU,rd_t2,rd_t3,rd_callP,rd_callS,rd_callU,rd_me,rd_app,uDrop,uRet,uRetN,uIfS,uYes,ss,uIsi,uIsi2,isU,isT,uIxK,uInK,vt,uDNew,rd_din,rd_dput,rd_idxK,rd_lrng2,rd_sub,rd_par,rd_par3,rd_p2,rd_p3,rd_name4,rd_t4,rd_fld,Xz,rd_meth,rd_make,Xw,Bool.or_true,Bool.true_or,Bool.or_false,Bool.false_or,uIfC,iteT_int,iteT_str,rd_rev,rd_revP,up1,Jy,frzN_p,MO.lst.injEq,rd_dget,VO,MB_new,MB_len,MB_get,MB_set,Option.some.injEq,List.map_cons,List.map_nil,List.length_cons,List.length_nil,List.replicate,List.append_nil,List.nil_append,List.cons_append,List.getElem?_cons_zero,List.getElem?_cons_succ,List.set_cons_zero,List.set_cons_succ,List.zip_cons_cons,List.zip_nil_left,List.zip_nil_right,Bool.false_eq_true,if_true,if_false,decide_eq_true_eq,decide_true,decide_false,Bool.not_true,Bool.not_false,true_and,and_true,Nat.reduceAdd,Nat.reduceSub,Nat.zero_add,exists_eq_left'])
local macro_rules | `(tactic| walk_at "v") => `(tactic| repeat (first|with_reducible refine useq ?_|walk_at "vs" | ((with_reducible refine gdIx ?_); first|refine vK rfl ?_|refine vK at0 ?_|refine vK at1 ?_|refine ixt_at rfl ?_)|((with_reducible refine gdT2 ?_); refine t2_at rfl ?_)|((with_reducible refine gdT3 ?_); refine t3_at rfl ?_)|((with_reducible refine gdMe ?_); first|refine me_at rfl ?_|refine me_at vH ?_)|((with_reducible refine gdLen ?_); first|refine kr rfl ?_|refine kr vH ?_)))
abbrev Mk3:=Str×Int×Int
def on (word:Int) (m:Mk3):Bool:=decide (word % 2^m.2.1.toNat=m.2.2)
def Wd (ms:List Mk3):Prop:=∀m∈ms,0<=m.2.1/\m.2.1<=1000
theorem vy (k:Nat):(0:Int)<2^k:=Int.pow_pos (by decide)
theorem qk {α:Type} {l:List α} {i:Nat} {x:α} (h:l[i]?=some x):l.take (i+1)=l.take i++[x]:=by
 obtain⟨hi,e⟩:=List.getElem?_eq_some_iff.mp h
 rw[List.take_succ_eq_append_getElem hi,e]
def OfKind (ms:List Mk3) (kind:Str) (m:Mk3):Prop:=∃rest,ms.filter (fun m=>decide (m.1=kind))=m::rest
def fiveK:List Str:=["small", "far", "pair", "sign", "one"]
abbrev Nd:=Int×Int
def Disj (a b:Nd):Prop:=∀x:Int,¬(x % 2^a.1.toNat=a.2/\x % 2^b.1.toNat=b.2)
theorem Disj.symm {a b:Nd} (h:Disj a b):Disj b a:=fun x ⟨p,q⟩=>h x ⟨q,p⟩
def NdOk (a:Nd):Prop:=0<=a.1/\a.1<=60/\0<=a.2/\a.2<2^a.1.toNat
theorem zz {x:Int} {a b:Nat} (h:a<=b):x % 2^b % 2^a=x % 2^a:=by
 refine Int.emod_emod_of_dvd x ?_
 obtain⟨c,rfl⟩:=Nat.exists_eq_add_of_le h
 exact⟨2^c,Int.pow_add ..⟩
def v7 (a:Nd) (s:Int):Nd:=(a.1+1,a.2+s*2^a.1.toNat)
theorem JJ {a:Nd} {s x:Int} (ha:NdOk a) (h:x % 2^(v7 a s).1.toNat=(v7 a s).2):x % 2^a.1.toNat=a.2:=by
 have e:(v7 a s).1.toNat=a.1.toNat+1:=by show(a.1+1).toNat=_; have:=ha.1; omega
 rw[e] at h
 rw[<-zz (Nat.le_succ a.1.toNat),h]
 show(a.2+s*2^a.1.toNat) % 2^a.1.toNat=a.2
 rw[Int.mul_comm,Int.add_mul_emod_self_left]
 exact Int.emod_eq_of_lt ha.2.2.1 ha.2.2.2
theorem jM {a b:Nd} {s:Int} (ha:NdOk a) (h:Disj a b):Disj (v7 a s) b:=fun x ⟨p,q⟩=>h x ⟨JJ ha p,q⟩
theorem JI {a:Nd} {s t:Int} (hs:s≠t):Disj (v7 a s) (v7 a t):=fun x ⟨p,q⟩=>by
 rw[show(v7 a t).1=(v7 a s).1 from rfl,p] at q
 have:(a.2+s*2^a.1.toNat)=a.2+t*2^a.1.toNat:=q
 have h2:s*2^a.1.toNat=t*2^a.1.toNat:=by omega
 exact hs (Int.eq_of_mul_eq_mul_right (Int.ne_of_gt (vy _)) h2)
theorem Zd {a:Nd} {s:Int} (ha:NdOk a) (h59:a.1<=59) (hs:s=0\/s=1):NdOk (v7 a s):=by
 obtain⟨h1,h2,h3,h4⟩:=ha
 have e:(a.1+1).toNat=a.1.toNat+1:=by omega
 refine⟨by show 0<=a.1+1; omega,by show a.1+1<=60; omega, ?_, ?_⟩
 ·show 0<=a.2+s*2^a.1.toNat
  have:=vy a.1.toNat
  rcases hs with rfl|rfl<;>omega
 ·show a.2+s*2^a.1.toNat<2^(a.1+1).toNat
  rw[e,Int.pow_succ]
  rcases hs with rfl|rfl<;>omega
theorem disj_of {a b:Nd} (h:a.2 % 2^(min a.1.toNat b.1.toNat)≠b.2 % 2^(min a.1.toNat b.1.toNat)):Disj a b:=fun x ⟨p,q⟩=>by
 refine h ?_
 rw[<-p, <-q,zz (Nat.min_le_left _ _),zz (Nat.min_le_right _ _)]
theorem jE {α:Type}:∀{l:List α} {i:Nat} {x:α},l[i]?=some x->l.Perm (x::l.eraseIdx i)
 | [],_,_,h=>by simp at h
 |y::l,0,x,h=>by simp at h; subst h; simp
 |y::l,i+1,x,h=>by
  have:=jE (l:=l) (i:=i) (x:=x) (by simpa using h)
  exact(List.Perm.cons y this).trans (List.Perm.swap ..)
def need (kind:Str):Int:=if kind = "sign" then 7 else if kind = "small" then 2 else if kind = "one" then 2 else 3
structure Right (bits:Int) (ms:List Mk3):Prop where
 b:8<=bits/\bits<=32
 n:ms.length=5
 k:(ms.map (·.1)).Perm fiveK
 w:∀m∈ms,1<=m.2.1/\m.2.1<=bits-need m.1
 p:∀m∈ms,0<=m.2.2/\m.2.2<2^m.2.1.toNat
 d:ms.Pairwise fun m m'=>Disj m.2 m'.2
theorem jd (k:Str):2<=need k:=by unfold need; split<;>(try split)<;>(try split)<;>decide
theorem Right.wd {bits:Int} {ms:List Mk3} (r:Right bits ms):Wd ms:=fun m hm=>by
 have:=r.w m hm
 have h2:=jd m.1
 have:=r.b
 omega
theorem Right.kind {bits:Int} {ms:List Mk3} (r:Right bits ms) {kind:Str} (h:kind∈fiveK):∃m,OfKind ms kind m:=by
 have:kind∈ms.map (·.1):=r.k.mem_iff.mpr h
 obtain⟨m,hm,e⟩:=List.mem_map.mp this
 cases q:ms.filter (fun m=>decide (m.1=kind)) with
 |nil =>
  have:m∈ms.filter (fun m=>decide (m.1=kind)):=List.mem_filter.mpr ⟨hm,by simp[e]⟩
  rw[q] at this; cases this
 |cons m0 rest=>exact⟨m0,rest,q⟩
theorem Right.of_perm {bits:Int} {ms ns:List Mk3} (r:Right bits ms) (h:ms.Perm ns):Right bits ns :=
 ⟨r.b,h.length_eq.symm.trans r.n,(h.map _).symm.trans r.k,fun m hm=>r.w m (h.mem_iff.mpr hm),fun m hm=>r.p m (h.mem_iff.mpr hm),(h.pairwise_iff fun h=>h.symm).mp r.d⟩
theorem log2_lt {n:Int} (h0:0<n) (h1:n<2^62):n.natAbs.log2<9000:=by
 have:n.natAbs.log2<62:=(Nat.log2_lt (by omega)).mpr (by omega)
 omega
theorem pow_bits {bits:Int} (h:0<=bits) (h2:bits<=60):(0:Int)<1*2^bits.toNat/\(1:Int)*2^bits.toNat<2^62:=by
 rw[Int.one_mul]
 refine⟨vy _, ?_⟩
 have h3:bits.toNat<=60:=by omega
 have:(2:Nat)^bits.toNat<=2^60:=Nat.pow_le_pow_right (by decide) h3
 have h4:((2^bits.toNat:Nat):Int)<=((2^60:Nat):Int):=by exact_mod_cast this
 have h5:((2^bits.toNat:Nat):Int)=2^bits.toNat:=by simp
 omega
def T0:List Nd:=[(1,0),(2,1),(3,3),(4,7),(4,15)]
def T1:List Nd:=[(1,0),(3,1),(3,3),(3,5),(3,7)]
def T2:List Nd:=[(2,0),(2,1),(2,2),(3,3),(3,7)]
def Tbl (bits:Int) (t:List Nd):Prop:=t=T0\/t=T1\/(t=T2/\9<=bits)
def xm (mask:Int) (n:Nd):Nd:=(n.1,Builtin.bitXor n.2 mask % 2^n.1.toNat)
def fm (mask:Int) (o:Str) (n:Nd):Mk3:=(o,xm mask n)
def cnt (bits:Int) (t:List Nd):Nat:=(t.filter fun n=>decide (n.1<=bits-7)).length
theorem cnt_pos {bits:Int} {t:List Nd} (hb:8<=bits) (h:Tbl bits t):0<cnt bits t:=by
 unfold cnt
 refine List.length_pos_iff.mpr fun e=>?_
 rcases h with rfl|rfl|⟨rfl,h9⟩
 ·have:((1,0):Nd)∈T0.filter fun n=>decide (n.1<=bits-7):=List.mem_filter.mpr ⟨by decide,by simp; omega⟩
  rw[e] at this; cases this
 ·have:((1,0):Nd)∈T1.filter fun n=>decide (n.1<=bits-7):=List.mem_filter.mpr ⟨by decide,by simp; omega⟩
  rw[e] at this; cases this
 ·have:((2,0):Nd)∈T2.filter fun n=>decide (n.1<=bits-7):=List.mem_filter.mpr ⟨by decide,by simp; omega⟩
  rw[e] at this; cases this
theorem jR {bits:Int} {t:List Nd} (h:Tbl bits t):t.length=5:=by rcases h with rfl|rfl|⟨rfl,_⟩<;>rfl
theorem tbl_w {bits:Int} {t:List Nd} (h:Tbl bits t):∀n∈t,1<=n.1/\n.1<=4:=by rcases h with rfl|rfl|⟨rfl,_⟩<;>decide
theorem tbl_sign {bits:Int} {t:List Nd} (hb:8<=bits) (h:Tbl bits t) {at':Nat} (ha:at'<cnt bits t) {n:Nd} (hn:t[at']?=some n):n.1<=bits-7:=by
 by_cases h11:11<=bits
 ·have:=(tbl_w h n (List.mem_of_getElem? hn)).2
  omega
 ·have hl:at'<5:=by
   have:=(List.getElem?_eq_some_iff.mp hn).1
   rw[jR h] at this
   exact this
  have key:∀b∈([8,9,10]:List Int),∀t∈[T0,T1,T2],∀i∈List.range 5,i<cnt b t->∀n∈t[i]?,n.1<=b-7:=by decide +kernel
  have hbm:bits∈([8,9,10]:List Int):=by
   rcases(show bits=8\/bits=9\/bits=10 by omega) with rfl|rfl|rfl<;>decide
  have htm:t∈[T0,T1,T2]:=by rcases h with rfl|rfl|⟨rfl,_⟩<;>simp
  exact key bits hbm t htm at' (List.mem_range.mpr hl) ha n hn
theorem tbl_disj {bits mask:Int} {t:List Nd} (h:Tbl bits t) (m0:0<=mask) (m1:mask<16):(t.map (xm mask)).Pairwise Disj:=by
 have key:∀k∈List.range 16,∀t∈[T0,T1,T2],(t.map (xm (k:Int))).Pairwise fun a b=>a.2 % 2^(min a.1.toNat b.1.toNat)≠b.2 % 2^(min a.1.toNat b.1.toNat):=by decide +kernel
 obtain⟨k,rfl⟩:∃k:Nat,mask=(k:Int):=⟨mask.toNat,by omega⟩
 have htm:t∈[T0,T1,T2]:=by rcases h with rfl|rfl|⟨rfl,_⟩<;>simp
 exact(key k (List.mem_range.mpr (by omega)) t htm).imp fun h=>disj_of h
def four:List Str:=["small", "far", "pair", "one"]
theorem X5 {k:Str} (h:k ≠ "sign"):need k<=3:=by unfold need; rw[if_neg h]; split<;>(try split)<;>decide
theorem xO {mask:Int}:∀{os:List Str} {t:List Nd},os.length=t.length->(List.zipWith (fm mask) os t).map (·.2)=t.map (xm mask)
 | [], [],_=>rfl
 |o::os,n::t,h=>by
  have:=xO (mask:=mask) (os:=os) (t:=t) (by simpa using h)
  simp only[List.zipWith_cons_cons,List.map_cons,this]; rfl
theorem xP {mask:Int}:∀{os:List Str} {t:List Nd},os.length=t.length->(List.zipWith (fm mask) os t).map (·.1)=os
 | [], [],_=>rfl
 |o::os,n::t,h=>by
  have:=xP (mask:=mask) (os:=os) (t:=t) (by simpa using h)
  simp only[List.zipWith_cons_cons,List.map_cons,this]; rfl
theorem Z3 {bits mask:Int} {t:List Nd} {ks:List Str} {at':Nat} (hb:8<=bits/\bits<=32) (h:Tbl bits t) (m0:0<=mask) (m1:mask<16) (hk:ks.Perm four) (ha:at'<cnt bits t) (ha4:at'<=4) :
  Right bits (List.zipWith (fm mask) (ks.take at'++(["sign"]:List Str)++ks.drop at') t):=by
 have hk4:ks.length=4:=hk.length_eq
 have hol:(ks.take at'++(["sign"]:List Str)++ks.drop at').length=t.length:=by
  rw[jR h]; simp only[List.length_append,List.length_take,List.length_drop,List.length_cons,List.length_nil]; omega
 have hns:∀k∈ks,k ≠ "sign" := fun k hkm=>by
  have:k∈four:=hk.mem_iff.mp hkm
  intro e; subst e; exact absurd this (by decide +kernel)
 have hget:∀m∈List.zipWith (fm mask) (ks.take at'++(["sign"]:List Str)++ks.drop at') t,∃i o n,(ks.take at'++(["sign"]:List Str)++ks.drop at')[i]?=some o/\t[i]?=some n/\m=fm mask o n:=fun m hm=>by
  obtain⟨i,hi⟩:=List.mem_iff_getElem?.mp hm
  rw[List.getElem?_zipWith_eq_some] at hi
  obtain⟨o,n,h1,h2,h3⟩:=hi
  exact⟨i,o,n,h1,h2,h3.symm⟩
 refine⟨hb, ?_, ?_,fun m hm=>?_,fun m hm=>?_, ?_⟩
 ·rw[List.length_zipWith,hol,Nat.min_self,jR h]
 ·rw[xP hol]
  have p1:(ks.take at'++(["sign"]:List Str)++ks.drop at').Perm ("sign" :: (ks.take at'++ks.drop at')):=by
   rw[List.append_assoc]; exact List.perm_middle
  rw[List.take_append_drop] at p1
  exact p1.trans ((List.Perm.cons _ hk).trans (by decide +kernel))
 ·obtain⟨i,o,n,h1,h2,rfl⟩:=hget m hm
  have hw:=tbl_w h n (List.mem_of_getElem? h2)
  show 1<=n.1/\n.1<=bits-need o
  by_cases ho:o = "sign"
  ·have hi:i=at':=by
    have hl:(ks.take at').length=at':=by simp; omega
    rcases Nat.lt_trichotomy i at' with z|z|z
    ·rw[List.append_assoc,List.getElem?_append_left (by omega)] at h1
     have:o∈ks:=List.mem_of_mem_take (List.mem_of_getElem? h1)
     exact absurd ho (hns o this)
    ·exact z
    ·rw[List.getElem?_append_right (by simp; omega)] at h1
     have:o∈ks:=List.mem_of_mem_drop (List.mem_of_getElem? h1)
     exact absurd ho (hns o this)
   subst hi
   have:=tbl_sign hb.1 h ha h2
   rw[ho]
   have e7:need "sign" = 7:=by decide +kernel
   rw[e7]; omega
  ·have:=X5 ho
   omega
 ·obtain⟨i,o,n,h1,h2,rfl⟩:=hget m hm
  exact⟨Int.emod_nonneg _ (Int.ne_of_gt (vy _)),Int.emod_lt_of_pos _ (vy _)⟩
 ·have:=tbl_disj h m0 m1
  rw[<-xO hol,List.pairwise_map] at this
  exact this
def L0:List Str:=["small", "far", "pair", "one"]
def L1:List Str:=["far", "one", "small", "pair"]
def rot (L:List Str) (α:Nat):List Str:=((L++L).drop α).take 4
theorem rot_perm {L:List Str} {α:Nat} (h:L=L0\/L=L1) (ha:α<4):(rot L α).Perm four:=by
 have key:∀L∈[L0,L1],∀α∈List.range 4,(rot L α).Perm four:=by decide +kernel
 exact key L (by rcases h with rfl|rfl<;>simp) α (List.mem_range.mpr ha)
structure LInv (bits:Int) (KS:List Str) (i:Nat) (ns:List Nd) (ms:List Mk3):Prop where
 ok:∀n∈ns,NdOk n
 low:∃n∈ns,n.1<=i
 len:ns.length<=1+31*i
 kinds:ms.map (·.1)=KS.take i
 w:∀m∈ms,1<=m.2.1/\m.2.1<=bits-need m.1
 p:∀m∈ms,NdOk m.2
 d:(ns++ms.map (·.2)).Pairwise Disj
structure WInv (i:Nat) (w0:Int) (c:Nd) (ns:List Nd) (ms:List Mk3):Prop where
 cok:NdOk c
 w:w0<=c.1
 ok:∀n∈ns,NdOk n
 low:(∃n∈ns,n.1<=i+1)\/(c.1=w0/\w0<=i)
 len:(ns.length:Int)<=31*i+c.1
 d:(c::(ns++ms.map (·.2))).Pairwise Disj
theorem LInv.pick {bits:Int} {KS:List Str} {i j:Nat} {ns:List Nd} {ms:List Mk3} {n:Nd} (h:LInv bits KS i ns ms) (hj:ns[j]?=some n):WInv i n.1 n (ns.eraseIdx j) ms:=by
 have hp:=jE hj
 have hn:n∈ns:=List.mem_of_getElem? hj
 have hl:=hp.length_eq
 have:=h.len
 have hok:=h.ok n hn
 refine⟨hok,Int.le_refl _,fun m hm=>h.ok m (List.mem_of_mem_eraseIdx hm), ?_, ?_, ?_⟩
 ·obtain⟨m,hm,hw⟩:=h.low
  rcases List.mem_cons.mp (hp.mem_iff.mp hm) with rfl|z
  ·exact .inr ⟨rfl,hw⟩
  ·exact .inl ⟨m,z,by omega⟩
 ·have:=hok.1
  simp only[List.length_cons] at hl
  omega
 ·exact((hp.append_right (ms.map (·.2))).pairwise_iff fun h=>h.symm).mp h.d
theorem WInv.step {i:Nat} {w0:Int} {c:Nd} {ns:List Nd} {ms:List Mk3} {s:Int} (h:WInv i w0 c ns ms) (hs:s=0\/s=1) (h59:c.1<=59):WInv i w0 (v7 c s) (ns++[v7 c (1-s)]) ms:=by
 have hs':1-s=0\/1-s=1:=by omega
 obtain⟨dc,dr⟩:=List.pairwise_cons.mp h.d
 have cw:(v7 c s).1=c.1+1:=rfl
 refine⟨Zd h.cok h59 hs,by rw[cw]; have:=h.w; omega,fun n hn=>?_, ?_, ?_, ?_⟩
 ·rcases List.mem_append.mp hn with z|z
  ·exact h.ok n z
  ·rw[List.mem_singleton.mp z]; exact Zd h.cok h59 hs'
 ·rcases h.low with⟨n,hn,hw⟩|⟨e,hw⟩
  ·exact .inl ⟨n,List.mem_append_left _ hn,hw⟩
  ·exact .inl ⟨v7 c (1-s),List.mem_append_right _ (List.mem_singleton.mpr rfl),by show c.1+1<=_; omega⟩
 ·have:=h.len
  rw[cw,List.length_append,List.length_singleton]
  push_cast; omega
 ·have p1:(v7 c s::(ns++[v7 c (1-s)]++ms.map (·.2))).Perm (v7 c s::v7 c (1-s)::(ns++ms.map (·.2))):=by
   refine List.Perm.cons _ ?_
   rw[List.append_assoc]
   exact List.perm_middle
  refine(p1.pairwise_iff fun h=>h.symm).mpr ?_
  refine List.pairwise_cons.mpr ⟨fun n hn=>?_,List.pairwise_cons.mpr ⟨fun n hn=>jM h.cok (dc n hn),dr⟩⟩
  rcases List.mem_cons.mp hn with rfl|z
  ·exact JI (by omega)
  ·exact jM h.cok (dc n z)
theorem WInv.fin {bits w0 goal:Int} {KS:List Str} {kind:Str} {i:Nat} {c:Nd} {ns ns0:List Nd} {ms:List Mk3} (h:WInv i w0 c ns ms) (h0:LInv bits KS i ns0 ms) (hk:KS[i]?=some kind) (hg:c.1=goal) (hw:w0<goal) (h1:1<=goal) (h2:goal<=bits-need kind) (h31:goal<=31) :
  LInv bits KS (i+1) ns (ms++[(kind,c)]):=by
 have hl:=h.len
 refine⟨h.ok, ?_, ?_, ?_,fun m hm=>?_,fun m hm=>?_, ?_⟩
 ·rcases h.low with⟨n,hn,hw'⟩|⟨e,_⟩
  ·exact⟨n,hn,by push_cast; exact hw'⟩
  ·omega
 ·omega
 ·rw[List.map_append,h0.kinds,qk hk]; rfl
 ·rcases List.mem_append.mp hm with z|z
  ·exact h0.w m z
  ·rw[List.mem_singleton.mp z]; exact⟨by show 1<=c.1; omega,by show c.1<=bits-need kind; omega⟩
 ·rcases List.mem_append.mp hm with z|z
  ·exact h0.p m z
  ·rw[List.mem_singleton.mp z]; exact h.cok
 ·rw[List.map_append, <-List.append_assoc]
  have p1:(ns++ms.map (·.2)++[c]).Perm (c::(ns++ms.map (·.2))):=List.perm_append_comm
  exact(p1.pairwise_iff fun h=>h.symm).mpr h.d
theorem LInv.right {bits:Int} {KS:List Str} {ns:List Nd} {ms:List Mk3} (h:LInv bits KS 5 ns ms) (hK:KS.Perm fiveK) (hb:8<=bits/\bits<=32):Right bits ms:=by
 have hl:KS.length=5:=hK.length_eq
 have hk:ms.map (·.1)=KS:=by rw[h.kinds,List.take_of_length_le (by omega)]
 refine⟨hb, ?_,by rw[hk]; exact hK,h.w,fun m hm=>⟨(h.p m hm).2.2.1,(h.p m hm).2.2.2⟩, ?_⟩
 ·have:=congrArg List.length hk
  rw[List.length_map,hl] at this
  exact this
 ·have:=(List.pairwise_append.mp h.d).2.1
  rw[List.pairwise_map] at this
  exact this
theorem ks_low {L:List Str} {α i:Nat} {kind:Str} {bits:Int} (hb:8<=bits) (hp:(rot L α).Perm four) (hk:(("sign" : Str)::rot L α)[i]?=some kind):(i:Int)<bits-need kind/\kind∈fiveK/\i<5:=by
 have hl:(rot L α).length=4:=hp.length_eq
 cases i with
 |zero =>
  simp at hk; subst hk
  have e7:need "sign" = 7:=by decide +kernel
  rw[e7]
  exact⟨by omega,by decide +kernel,by omega⟩
 |succ i =>
  simp at hk
  have hm:kind∈four:=hp.mem_iff.mp (List.mem_of_getElem? hk)
  have hi:=(List.getElem?_eq_some_iff.mp hk).1
  have hns:kind ≠ "sign" := fun e=>by subst e; exact absurd hm (by decide +kernel)
  have:=X5 hns
  have sub:∀k∈four,k∈fiveK:=by decide +kernel
  exact⟨by push_cast; omega,sub kind hm,by omega⟩
theorem V7 {α:Type} [DecidableEq α]:∀{l:List α} {x:α},x∈l->∃j:Nat,l[j]?=some x/\∀m:Nat,m<j->l[m]?≠some x
 | [],_,h=>by cases h
 |y::l,x,h=>by
  by_cases e:y=x
  ·exact⟨0,by simp[e],fun m hm=>by omega⟩
  ·have:x∈l:=by
    rcases List.mem_cons.mp h with z|z
    ·exact absurd z.symm e
    ·exact z
   obtain⟨j,h1,h2⟩:=V7 this
   refine⟨j+1,by simpa using h1,fun m hm=>?_⟩
   cases m with
   |zero=>simpa using e
   |succ m=>simpa using h2 m (by omega)
theorem OfKind.is {ms:List Mk3} {kind:Str} {m:Mk3} (h:OfKind ms kind m):m.1=kind:=by
 obtain⟨rest,e⟩:=h
 have:m∈ms.filter (fun m=>decide (m.1=kind)):=by rw[e]; exact List.mem_cons_self
 exact of_decide_eq_true (List.mem_filter.mp this).2
def vB (m:Mk3):T:=.tup [.str m.1, .int m.2.1, .int m.2.2]
def layT (bits:Int) (ms:List Mk3):T:=.tup [.int bits, .lst (ms.map vB)]
def ndT (n:Nd):T:=.tup [.int n.1, .int n.2]
def Qe (ks:List Str):T:=.lst (ks.map T.str)
theorem cutT_map {α:Type} {f:α->T} {xs:List α} {a b:Nat} (h1:a<=b) (h2:b<=xs.length):cutT (xs.map f) (some (a:Int)) (some (b:Int))=((xs.drop a).take (b-a)).map f:=by
 unfold cutT
 have e1:HT.sIx (xs.map f).length 0 (some (a:Int))=min a (xs.map f).length:=HT.sIx_nat _ _ a
 have e2:HT.sIx (xs.map f).length (xs.map f).length (some (b:Int))=min b (xs.map f).length:=HT.sIx_nat _ _ b
 rw[e1,e2]
 simp only[List.length_map]
 rw[Nat.min_eq_left (show a<=xs.length by omega),Nat.min_eq_left h2,List.map_take,List.map_drop]
theorem QZ {α:Type} {f:α->T} {xs:List α} {a:Nat} (h:a<=xs.length):cutT (xs.map f) none (some (a:Int))=(xs.take a).map f:=by
 unfold cutT
 have e1:HT.sIx (xs.map f).length 0 none=0:=rfl
 have e2:HT.sIx (xs.map f).length (xs.map f).length (some (a:Int))=min a (xs.map f).length:=HT.sIx_nat _ _ a
 rw[e1,e2]
 simp only[List.length_map,List.drop_zero,Nat.sub_zero,Nat.min_eq_left h,List.map_take]
theorem Q0 {α:Type} {f:α->T} {xs:List α} {a:Nat} (h:a<=xs.length):cutT (xs.map f) (some (a:Int)) none=(xs.drop a).map f:=by
 unfold cutT
 have e1:HT.sIx (xs.map f).length 0 (some (a:Int))=min a (xs.map f).length:=HT.sIx_nat _ _ a
 have e2:HT.sIx (xs.map f).length (xs.map f).length none=(xs.map f).length:=rfl
 rw[e1,e2]
 simp only[List.length_map,Nat.min_eq_left h]
 rw[List.take_of_length_le (by simp),List.map_drop]
theorem atT {α:Type} {f:α->T} {xs:List α} {i:Nat} {x:α} (h:xs[i]?=some x):atI (xs.map f) (i:Int)=some (f x):=kU (by rw[List.getElem?_map,h]; rfl)
abbrev zQ:Stmt:=top 27
theorem scFullLaying:FnScope ["bag", "bits", "order", "rows", "some", "mask", "at"] ["bag", "bits", "order"] (qi zQ):=⟨rfl,rfl,rfl,by decide +kernel,rfl,by decide +kernel,by decide +kernel⟩
theorem kq:(["bag", "bits", "order", "rows", "some", "mask", "at", "one"]:List Str).Nodup:=by decide +kernel
theorem kn:(["bag", "bits", "order", "rows", "some", "mask", "at", "k"]:List Str).Nodup:=by decide +kernel
def gFull:List U->MM->UK->Prop:=fun us M Q=>∃(k:Nat) (o:MO) (bits:Int) (ks:List Str),us=[.m k, .p (.int bits), .p (Qe ks)]/\M[k]?=some o/\BagO o/\ks.Perm four/\(8<=bits/\bits<=32)/\∀(o':MO) (ms:List Mk3),BagO o'->Right bits ms->Q (.p (layT bits ms)) (M.set k o')
theorem ok_fullU {f:Addr} {fd:FuncData} (F:Fun K "_law_full_laying" "_law_full_laying" zQ f fd) (N:Nms mg) (DDraw:Def P w K mg base "_law_draw" 1 ["bag", "many"] (spU kL)):FnOk P w K mg base CX0 2 f fd ["bag", "bits", "order"] (spU gFull):=by
 refine F.zV scFullLaying (fun us M Qu h=>?_) (fun cdv A outer s H E hr=>?_)
 ·obtain⟨_,_,_,_,rfl,_⟩:=h
  rfl
 refine⟨_,(qh (qD (i:=3) scFullLaying.nd rfl (Or.inl rfl) (qV (qa_c (qV (qa_c (qR (qa_c qe (qa_c qe qf))) (qa_c (qR (qa_c qe (qa_c qe qf))) (qa_c (qR (qa_c qe (qa_c qe qf))) (qa_c (qR (qa_c qe (qa_c qe qf))) (qa_c (qR (qa_c qe (qa_c qe qf))) qf)))))) (qa_c (qV (qa_c (qR (qa_c qe (qa_c qe qf))) (qa_c (qR (qa_c qe (qa_c qe qf))) (qa_c (qR (qa_c qe (qa_c qe qf))) (qa_c (qR (qa_c qe (qa_c qe qf))) (qa_c (qR (qa_c qe (qa_c qe qf))) qf)))))) qf))))
  (qh (xw (Zr PySem.F.slot_list_append PySem.F.type_list_append vS (qv 3) (qa_c (qV (qa_c (qR (qa_c qe (qa_c qe qf))) (qa_c (qR (qa_c qe (qa_c qe qf))) (qa_c (qR (qa_c qe (qa_c qe qf))) (qa_c (qR (qa_c qe (qa_c qe qf))) (qa_c (qR (qa_c qe (qa_c qe qf))) qf)))))) qf)))
  (qh (qD (i:=4) scFullLaying.nd rfl (Or.inr rfl) (qI (qt (K:=K) rfl) (qv 3) (qo DDraw (hr.mono (by first|decide|exact Nat.le_refl _)) (qa_c (qv 0) (qa_c (qw vk qe (xc Q3 (by rfl) N.int b_int (qa_c (jb op_gt (qv 1) qe (qQ _)) qf))) qf))) (fun _ _=>rfl)))
  (qh (qD (i:=5) scFullLaying.nd rfl (Or.inr rfl) (qo DDraw (hr.mono (by first|decide|exact Nat.le_refl _)) (qa_c (qv 0) (qa_c qe qf))))
  (qh (qD (i:=6) scFullLaying.nd rfl (Or.inl rfl) (qo DDraw (hr.mono (by first|decide|exact Nat.le_refl _)) (qa_c (qv 0) (qa_c (va vY (by rfl) N.len VG (qa_c (xb [false,true,false,false,false,false,false] ["one"] (qG (K:=K) rfl (qv 4)) (fun _ _ _=>(qO (i:=7) kq rfl (Or.inl rfl))) (fun _ _ _=>v5 (qL Vm (qI (qK (K:=K) rfl) (qv 7) qe (fun _ _=>rfl)) (qw za (qv 1) qe) (qQ _))) (fun _ _ _=>(qv 7))) qf)) qf))))
  (qh (qD (i:=2) scFullLaying.nd rfl (Or.inr rfl) (qw jc (qw jc (vN (vM (K:=K) rfl) (qv 2) xy (vQ (qv 6))) (qV (qa_c ve qf))) (vN (vM (K:=K) rfl) (qv 2) (vQ (qv 6)) xy)))
  (qj (qx (qR (qa_c (qv 1) (qa_c (xb [false,false,true,false,true,true,false] ["k"] (zo rfl N.range (qa_c qe qf)) (fun _ _ _=>(qO (i:=7) kn rfl (Or.inl rfl))) (fun _ _ _=>vP) (fun _ _ _=>(qR (qa_c (qI (qt (K:=K) rfl) (qv 2) (qv 7) (fun _ _=>rfl)) (qa_c (qI (qK (K:=K) rfl) (qI (qt (K:=K) rfl) (qv 4) (qv 7) (fun _ _=>rfl)) qe (fun _ _=>rfl)) (qa_c (qw xh (qw op_xor (qI (qK (K:=K) rfl) (qI (qt (K:=K) rfl) (qv 4) (qv 7) (fun _ _=>rfl)) qe (fun _ _=>rfl)) (qv 5)) (qw xg qe (qI (qK (K:=K) rfl) (qI (qt (K:=K) rfl) (qv 4) (qv 7) (fun _ _=>rfl)) qe (fun _ _=>rfl)))) qf)))))) qf))))))))))),_,(ql (qC (jp (qc (vG (qc (qT (qc (ce_c (.int _)) (qc (ce_c (.int _)) qg))) (qc (qT (qc (ce_c (.int _)) (qc (ce_c (.int _)) qg))) (qc (qT (qc (ce_c (.int _)) (qc (ce_c (.int _)) qg))) (qc (qT (qc (ce_c (.int _)) (qc (ce_c (.int _)) qg))) (qc (qT (qc (ce_c (.int _)) (qc (ce_c (.int _)) qg))) qg)))))) (qc (vG (qc (qT (qc (ce_c (.int _)) (qc (ce_c (.int _)) qg))) (qc (qT (qc (ce_c (.int _)) (qc (ce_c (.int _)) qg))) (qc (qT (qc (ce_c (.int _)) (qc (ce_c (.int _)) qg))) (qc (qT (qc (ce_c (.int _)) (qc (ce_c (.int _)) qg))) (qc (qT (qc (ce_c (.int _)) (qc (ce_c (.int _)) qg))) qg)))))) qg))) (qm 3))
   (ql (xC (Z7 vT (qd 3) (qc (vG (qc (qT (qc (ce_c (.int _)) (qc (ce_c (.int _)) qg))) (qc (qT (qc (ce_c (.int _)) (qc (ce_c (.int _)) qg))) (qc (qT (qc (ce_c (.int _)) (qc (ce_c (.int _)) qg))) (qc (qT (qc (ce_c (.int _)) (qc (ce_c (.int _)) qg))) (qc (qT (qc (ce_c (.int _)) (qc (ce_c (.int _)) qg))) qg)))))) qg)))
   (ql (qC (vO (qd 3) (qp (qc (qd 0) (qc (qu (qA fun _ _=>.int _) (ce_c (.int _)) (jx JN (qc (qu (qA fun _ _=>.bl _) (qd 1) (ce_c (.int _))) qg))) qg)))) (qm 4))
   (ql (qC (qp (qc (qd 0) (qc (ce_c (.int _)) qg))) (qm 5))
   (ql (qC (qp (qc (qd 0) (qc (Q2 (qc (qY (qU (qd 4)) (vg 7) (qP (qu (qA fun _ _=>.bl _) (vc (qd 7) (ce_c (.int _))) (qu (qA fun _ _=>.int _) (qd 1) (ce_c (.int _))))) (qd 7)) qg)) qg))) (qm 6))
   (ql (qC (qu zR (qu zR (Z6 (qd 2) kP (zw (qd 6))) (vG (qc (ce_c (.str _)) qg))) (Z6 (qd 2) (zw (qd 6)) kP)) (qm 2))
   (qB (qT (qc (qd 1) (qc (qY (jn (qc (ce_c (.int _)) qg)) (vg 7) xp (qT (qc (vO (qd 2) (qd 7)) (qc (vc (vO (qd 4) (qd 7)) (ce_c (.int _))) (qc (qu (zH fun _ _=>.int _) (qu (qA fun _ _=>.int _) (vc (vO (qd 4) (qd 7)) (ce_c (.int _))) (qd 5)) (qu (zH fun _ _=>.int _) (ce_c (.int _)) (vc (vO (qd 4) (qd 7)) (ce_c (.int _))))) qg))))) qg)))))))))),fun us M M1 Qu e1 h=>?_⟩
 obtain⟨k,o,bits,ks,rfl,em,hB,hk,hb,post⟩:=h
 obtain⟨hkl,eM⟩:=xN em
 rw[e1.trans eM]
 walk_at "u"
 refine⟨by show 2<sizeLine; decide, ?_⟩
 have hmany:(2:Int)<=2+(if 8<bits then 1 else 0)/\(2:Int)+(if 8<bits then 1 else 0)<=3:=by split<;>omega
 refine vh hkl hB (by omega) (log2_lt (by omega) (by omega)) fun d o1 d0 d1 B1=>?_
 have hpick:∃t,atI [U.p (.lst (T0.map ndT)), .p (.lst (T1.map ndT)), .p (.lst (T2.map ndT))] d=some (.p (.lst (t.map ndT)))/\Tbl bits t:=by
  rcases(show d=0\/d=1\/d=2 by omega) with rfl|rfl|rfl
  ·exact⟨T0,rfl, .inl rfl⟩
  ·exact⟨T1,rfl, .inr (.inl rfl)⟩
  ·exact⟨T2,rfl, .inr (.inr ⟨rfl,by split at d1<;>omega⟩)⟩
 obtain⟨t,hat,hT⟩:=hpick
 refine ix_at (by simp only[qF,MB_get]; rfl) hat ?_
 refine vh hkl B1 (by decide) (by decide) fun mask o2 m0 m1 B2=>?_
 have ht5:=jR hT
 walk_at "u"
 refine qW (by rw[List.length_map,ht5]; decide) (fun i acc M'=>M'=MB M k o2 [MO.lst [U.p (.lst (T0.map ndT)), .p (.lst (T1.map ndT)), .p (.lst (T2.map ndT))]]/\acc=((t.take i).filter fun n=>decide (n.1<=bits-7)).map ndT) ⟨rfl,rfl⟩ ?_ ?_
 ·rintro i x acc M' hx _ ⟨rfl,rfl⟩
  obtain⟨n,hn,rfl⟩:∃n,t[i]?=some n/\x=ndT n:=by
   rw[List.getElem?_map] at hx
   cases e:t[i]? with
   |none=>rw[e] at hx; cases hx
   |some n=>rw[e] at hx; cases hx; exact⟨n,rfl,rfl⟩
  walk_at "u"
  rw[qk hn,List.filter_append,List.map_append]
  refine ite2 (fun hh=>?_) (fun hh=>?_)<;>simp[hh]
 ·rintro acc M' ⟨rfl,rfl⟩
  rw[List.length_map,List.take_length]
  walk_at "u"
  have hcl:(((t.filter fun n=>decide (n.1<=bits-7)).map ndT).length:Int)=(cnt bits t:Int):=by rw[List.length_map]; rfl
  rw[hcl]
  have hcp:=cnt_pos hb.1 hT
  have hc5:cnt bits t<=5:=by
   have:=List.length_filter_le (fun n:Nd=>decide (n.1<=bits-7)) t
   rw[ht5] at this
   exact this
  refine vh hkl B2 (by omega) (log2_lt (by omega) (by omega)) fun α o3 α0 α1 B3=>?_
  obtain⟨at',rfl⟩:∃j:Nat,α=(j:Int):=⟨α.toNat,by omega⟩
  have hk4:ks.length=4:=hk.length_eq
  have ha4:at'<=4:=by omega
  unfold Qe
  walk_at "u"
  rw[QZ (by omega),Q0 (by omega)]
  have hright:=Z3 (mask:=mask) hb hT m0 m1 hk (by omega) ha4
  have hlo:(ks.take at'++(["sign"]:List Str)++ks.drop at').length=5:=by simp; omega
  have em2:(ks.take at').map T.str++[T.str "sign"]++(ks.drop at').map T.str=(ks.take at'++(["sign"]:List Str)++ks.drop at').map T.str:=by simp
  refine⟨by simp; exact Nat.le_of_lt (qH (by omega)),by simp; exact Nat.le_of_lt (qH (by omega)),Qj (by decide) (by decide) ?_⟩
  rw[em2]
  generalize ks.take at'++(["sign"]:List Str)++ks.drop at'=os at hright hlo ⊢
  refine xQ (by decide) (fun i acc M'=>M'=MB M k o3 [MO.lst [U.p (.lst (T0.map ndT)), .p (.lst (T1.map ndT)), .p (.lst (T2.map ndT))]]/\acc=((List.zipWith (fm mask) os t).take i).map vB) ⟨rfl,rfl⟩ ?_ ?_
  ·rintro i acc M' hi _ ⟨rfl,rfl⟩
   have hi5:i<5:=hi
   have hoi:os[i]?=some (os[i]'(by omega)):=List.getElem?_eq_getElem _
   have hti:t[i]?=some (t[i]'(by omega)):=List.getElem?_eq_getElem _
   have hw:=tbl_w hT _ (List.mem_of_getElem? hti)
   have hz:(List.zipWith (fm mask) os t)[i]?=some (fm mask (os[i]'(by omega)) (t[i]'(by omega))):=by
    rw[List.getElem?_zipWith,hoi,hti]
   walk_at "u"
   refine vK (atT hoi) ?_
   refine vK (atT hti) ?_
   walk_at "u"
   refine vK (atT hti) ?_
   walk_at "u"
   refine vK (atT hti) ?_
   walk_at "u"
   refine⟨⟨by omega,by omega,by decide⟩, ?_, ?_⟩
   ·rw[Int.one_mul]; exact vy _
   ·rw[qk hz,List.map_append,Int.one_mul]
    rfl
  ·rintro acc M' ⟨rfl,rfl⟩
   have e5:(Int.toNat 5)=(List.zipWith (fm mask) os t).length:=by rw[hright.n]<;>rfl
   rw[e5,List.take_length]
   walk_at "u"
   refine⟨js B3.pur, ?_⟩
   rw[jt]
   exact post o3 _ B3 hright
abbrev Vf:Stmt:=top 28
theorem scLaying:FnScope ["bag", "bits", "kinds", "at", "most", "free", "marks", "kind", "some", "width", "pattern", "goal", "side", "turn"] ["bag"] (qi Vf):=⟨rfl,rfl,rfl,by decide +kernel,rfl,by decide +kernel,by decide +kernel⟩
theorem X6:(["bag", "bits", "kinds", "at", "most", "free", "marks", "kind", "some", "width", "pattern", "goal", "side", "turn", "node"]:List Str).Nodup:=by decide +kernel
def Vz:List U->MM->UK->Prop:=fun us M Q=>∃(k:Nat) (o:MO),us=[.m k]/\M[k]?=some o/\BagO o/\∀(o':MO) (bits:Int) (ms:List Mk3),BagO o'->Right bits ms->Q (.p (layT bits ms)) (M.set k o')
abbrev QD (bits:Int):List (Key×U):=[(.inr "sign", .p (.int (bits-7))),(.inr "small", .p (.int (bits-2))),(.inr "one", .p (.int (bits-2))),(.inr "far", .p (.int (bits-3))),(.inr "pair", .p (.int (bits-3)))]
theorem X8 {bits:Int} {kind:Str} (h:kind∈fiveK):valU (zM [] (QD bits)) (.inr kind)=some (.p (.int (bits-need kind))):=by
 have e:zM [] (QD bits)=QD bits:=rfl
 rw[e]
 have h':kind = "small" \/ kind = "far" \/ kind = "pair" \/ kind = "sign" \/ kind = "one" := by simpa[fiveK] using h
 rcases h' with rfl|rfl|rfl|rfl|rfl<;>rfl
theorem nd_eqT {a b:Nd} {n:Nat}:EqT (n+1) (ndT a) (ndT b) (decide (a=b)):=by
 have h:=EqT.tup (n:=n) (xs:=[.int a.1, .int a.2]) (ys:=[.int b.1, .int b.2]) (e:=fun j=>if j=0 then decide (a.1=b.1) else decide (a.2=b.2)) (fun j x y hx hy=>by
  match j,hx,hy with
  |0,hx,hy =>
   cases hx; cases hy
   have:=EqT.flat (n:=n) (a:=.int a.1) (b:=.int b.1) rfl rfl
   rw[show eqV (.int a.1) (.int b.1)=decide (a.1=b.1) by simp[eqV,Bool.beq_eq_decide_eq]] at this; exact this
  |1,hx,hy =>
   cases hx; cases hy
   have:=EqT.flat (n:=n) (a:=.int a.2) (b:=.int b.2) rfl rfl
   rw[show eqV (.int a.2) (.int b.2)=decide (a.2=b.2) by simp[eqV,Bool.beq_eq_decide_eq]] at this; exact this
  |j+2,hx,_=>cases hx)
 have e:((List.range (min [T.int a.1,T.int a.2].length [T.int b.1,T.int b.2].length)).all (fun j=>if j=0 then decide (a.1=b.1) else decide (a.2=b.2))&&[T.int a.1,T.int a.2].length==[T.int b.1,T.int b.2].length)=decide (a=b):=by
  obtain⟨a1,a2⟩:=a
  obtain⟨b1,b2⟩:=b
  simp[List.range_succ]
 rw[e] at h
 exact h
theorem Zz {f:Addr} {fd:FuncData} (F:Fun K "_law_laying" "_law_laying" Vf f fd) (N:Nms mg) (DDraw:Def P w K mg base "_law_draw" 1 ["bag", "many"] (spU kL)) (DFullLaying:Def P w K mg base "_law_full_laying" 2 ["bag", "bits", "order"] (spU gFull)):FnOk P w K mg base CX0 3 f fd ["bag"] (spU Vz):=by
 refine F.zV scLaying (fun us M Qu h=>?_) (fun cdv A outer s H E hr=>?_)
 ·obtain⟨_,_,rfl,_⟩:=h
  rfl
 refine⟨_,(qh (qD (i:=1) scLaying.nd rfl (Or.inl rfl) (qI (qt (K:=K) rfl) (qV (qa_c qe (qa_c qe (qa_c qe (qa_c qe (qa_c qe (qa_c qe (qa_c qe (qa_c (qw vk qe (qo DDraw (hr.mono (by first|decide|exact Nat.le_refl _)) (qa_c (qv 0) (qa_c qe qf)))) qf))))))))) (qo DDraw (hr.mono (by first|decide|exact Nat.le_refl _)) (qa_c (qv 0) (qa_c qe qf))) (fun _ _=>rfl)))
  (qh (qD (i:=2) scLaying.nd rfl (Or.inl rfl) (qw op_rep (qI (qt (K:=K) rfl) (qV (qa_c (qV (qa_c ve (qa_c ve (qa_c ve (qa_c ve qf))))) (qa_c (qV (qa_c ve (qa_c ve (qa_c ve (qa_c ve qf))))) qf))) (qo DDraw (hr.mono (by first|decide|exact Nat.le_refl _)) (qa_c (qv 0) (qa_c qe qf))) (fun _ _=>rfl)) qe))
  (qh (qD (i:=3) scLaying.nd rfl (Or.inl rfl) (qo DDraw (hr.mono (by first|decide|exact Nat.le_refl _)) (qa_c (qv 0) (qa_c qe qf))))
  (qh (zd (qL Vn (qo DDraw (hr.mono (by first|decide|exact Nat.le_refl _)) (qa_c (qv 0) (qa_c qe qf))) qe (qQ _))
   (qj (qx (qo DFullLaying (hr.mono (by first|decide|exact Nat.le_refl _)) (qa_c (qv 0) (qa_c (qv 1) (qa_c (vN (vM (K:=K) rfl) (qv 2) (vQ (qv 3)) (vQ (qw vk (qv 3) qe))) qf))))))
   vd)
  (qh (qD (i:=4) scLaying.nd rfl (Or.inr rfl) (qe_disp (xa ve (qw za (qv 1) qe) (xa ve (qw za (qv 1) qe) (xa ve (qw za (qv 1) qe) (xa ve (qw za (qv 1) qe) (xa ve (qw za (qv 1) qe) qps_nil))))) rfl rfl (fun z=>nomatch z) (by decide)))
  (qh (qD (i:=5) scLaying.nd rfl (Or.inl rfl) (qV (qa_c (qR (qa_c qe (qa_c qe qf))) qf)))
  (qh (qD (i:=6) scLaying.nd rfl (Or.inl rfl) (qV qf))
  (qh (v8 PassesOwn.never rfl (qG (K:=K) rfl (qw jc (qV (qa_c ve qf)) (vN (vM (K:=K) rfl) (qv 2) (vQ (qv 3)) (vQ (qw vk (qv 3) qe))))) (qO (i:=7) scLaying.nd rfl (Or.inr rfl))
   (qh (XB (i:=8) [false,false,false,false,true,false,false,true,false,false,false,false,false,false] ["node"] scLaying.nd rfl rfl (qG (K:=K) rfl (qv 5)) (fun _ _ _=>(qO (i:=14) X6 rfl (Or.inl rfl))) (fun _ _ _=>v5 (qL Zu (qI (qK (K:=K) rfl) (qv 14) qe (fun _ _=>rfl)) (XF (hu_of hr) (qv 4) (qv 7) (fun _ _=>rfl)) (qQ _))) (fun _ _ _=>(qv 14)))
   (qh (jC (qI (qt (K:=K) rfl) (qv 8) (qo DDraw (hr.mono (by first|decide|exact Nat.le_refl _)) (qa_c (qv 0) (qa_c (va vY (by rfl) N.len VG (qa_c (qv 8) qf)) qf))) (fun _ _=>rfl)) (Ql (K:=K) (i:=9) (j:=10) rfl scLaying.nd rfl rfl rfl (Or.inl rfl) (Or.inl rfl) (Or.inl rfl) (Or.inl rfl)))
   (qh (xw (Zr PySem.F.slot_list_remove PySem.F.type_list_remove (ZM (K:=K) rfl hr.units) (qv 5) (qa_c (qR (qa_c (qv 9) (qa_c (qv 10) qf))) qf)))
   (qh (qD (i:=11) scLaying.nd rfl (Or.inl rfl) (va (JO rfl) (by rfl) N.min b_min (qa_c (XF (hu_of hr) (qv 4) (qv 7) (fun _ _=>rfl)) (qa_c (qw vk (qv 9) (qI (qt (K:=K) rfl) (qV (qa_c qe (qa_c qe (qa_c qe (qa_c qe (qa_c (qw vk qe (qo DDraw (hr.mono (by first|decide|exact Nat.le_refl _)) (qa_c (qv 0) (qa_c qe qf)))) qf)))))) (qo DDraw (hr.mono (by first|decide|exact Nat.le_refl _)) (qa_c (qv 0) (qa_c qe qf))) (fun _ _=>rfl))) qf))))
   (qh (VX PassesOwn.never (qL Zu (qv 9) (qv 11) (qQ _))
    (qh (qD (i:=12) scLaying.nd rfl (Or.inl rfl) (qo DDraw (hr.mono (by first|decide|exact Nat.le_refl _)) (qa_c (qv 0) (qa_c qe qf))))
    (qh (xw (Zr PySem.F.slot_list_append PySem.F.type_list_append vS (qv 5) (qa_c (qR (qa_c (qw vk (qv 9) qe) (qa_c (qw vk (qv 10) (qw xg (qw za qe (qv 12)) (qv 9))) qf))) qf)))
    (qh (qD (i:=10) scLaying.nd rfl (Or.inl rfl) (qw vk (qv 10) (qw xg (qv 12) (qv 9))))
    (qj (qD (i:=9) scLaying.nd rfl (Or.inl rfl) (qw vk (qv 9) qe)))))))
   (qj (xw (Zr PySem.F.slot_list_append PySem.F.type_list_append vS (qv 6) (qa_c (qR (qa_c (qv 7) (qa_c (qv 9) (qa_c (qv 10) qf)))) qf))))))))))
  (qh (qD (i:=13) scLaying.nd rfl (Or.inl rfl) (qo DDraw (hr.mono (by first|decide|exact Nat.le_refl _)) (qa_c (qv 0) (qa_c qe qf))))
  (qj (qx (qR (qa_c (qv 1) (qa_c (qw jc (vN (vM (K:=K) rfl) (qv 6) (vQ (qv 13)) xy) (vN (vM (K:=K) rfl) (qv 6) xy (vQ (qv 13)))) qf)))))))))))))),_,(ql (qC (vO (vG (qc (ce_c (.int _)) (qc (ce_c (.int _)) (qc (ce_c (.int _)) (qc (ce_c (.int _)) (qc (ce_c (.int _)) (qc (ce_c (.int _)) (qc (ce_c (.int _)) (qc (qu (qA fun _ _=>.int _) (ce_c (.int _)) (qp (qc (qd 0) (qc (ce_c (.int _)) qg)))) qg))))))))) (qp (qc (qd 0) (qc (ce_c (.int _)) qg)))) (qm 1))
   (ql (qC (qu XU (vO (vG (qc (vG (qc (ce_c (.str _)) (qc (ce_c (.str _)) (qc (ce_c (.str _)) (qc (ce_c (.str _)) qg))))) (qc (vG (qc (ce_c (.str _)) (qc (ce_c (.str _)) (qc (ce_c (.str _)) (qc (ce_c (.str _)) qg))))) qg))) (qp (qc (qd 0) (qc (ce_c (.int _)) qg)))) (ce_c (.int _))) (qm 2))
   (ql (qC (qp (qc (qd 0) (qc (ce_c (.int _)) qg))) (qm 3))
   (ql (zI (qP (qu Qq (qp (qc (qd 0) (qc (ce_c (.int _)) qg))) (ce_c (.int _))))
   (qB (qp (qc (qd 0) (qc (qd 1) (qc (Z6 (qd 2) (zw (qd 3)) (zw (qu (qA fun _ _=>.int _) (qd 3) (ce_c (.int _))))) qg)))))
   vj)
   (ql (qC (ce_disp (jl (ce_c (.str _)) (qu (qA fun _ _=>.int _) (qd 1) (ce_c (.int _))) (jl (ce_c (.str _)) (qu (qA fun _ _=>.int _) (qd 1) (ce_c (.int _))) (jl (ce_c (.str _)) (qu (qA fun _ _=>.int _) (qd 1) (ce_c (.int _))) (jl (ce_c (.str _)) (qu (qA fun _ _=>.int _) (qd 1) (ce_c (.int _))) (jl (ce_c (.str _)) (qu (qA fun _ _=>.int _) (qd 1) (ce_c (.int _))) cp_nil)))))) (qm 4))
   (ql (qC (jp (qc (qT (qc (ce_c (.int _)) (qc (ce_c (.int _)) qg))) qg)) (qm 5))
   (ql (qC (jp qg) (qm 6))
   (ql (zu (qU (qu zR (vG (qc (ce_c (.str _)) qg)) (Z6 (qd 2) (zw (qd 3)) (zw (qu (qA fun _ _=>.int _) (qd 3) (ce_c (.int _))))))) (qm 7)
   (ql (qC (qY (qU (qd 5)) (vg 14) (qP (qu (qA fun _ _=>.bl _) (vc (qd 14) (ce_c (.int _))) (JL (qd 4) (qd 7)))) (qd 14)) (qm 8))
   (ql (qC (vO (qd 8) (qp (qc (qd 0) (qc (Q2 (qc (qd 8) qg)) qg)))) (kQ 9 10))
   (ql (xC (Z7 ZN (qd 5) (qc (qT (qc (qd 9) (qc (qd 10) qg))) qg)))
   (ql (qC (jx cbl_min (qc (JL (qd 4) (qd 7)) (qc (qu (qA fun _ _=>.int _) (qd 9) (vO (vG (qc (ce_c (.int _)) (qc (ce_c (.int _)) (qc (ce_c (.int _)) (qc (ce_c (.int _)) (qc (qu (qA fun _ _=>.int _) (ce_c (.int _)) (qp (qc (qd 0) (qc (ce_c (.int _)) qg)))) qg)))))) (qp (qc (qd 0) (qc (ce_c (.int _)) qg))))) qg))) (qm 11))
   (ql (V9 (qP (qu (qA fun _ _=>.bl _) (qd 9) (qd 11)))
   (ql (qC (qp (qc (qd 0) (qc (ce_c (.int _)) qg))) (qm 12))
   (ql (xC (Z7 vT (qd 5) (qc (qT (qc (qu (qA fun _ _=>.int _) (qd 9) (ce_c (.int _))) (qc (qu (qA fun _ _=>.int _) (qd 10) (qu (zH fun _ _=>.int _) (qu (qA fun _ _=>.int _) (ce_c (.int _)) (qd 12)) (qd 9))) qg))) qg)))
   (ql (qC (qu (qA fun _ _=>.int _) (qd 10) (qu (zH fun _ _=>.int _) (qd 12) (qd 9))) (qm 10))
   (qC (qu (qA fun _ _=>.int _) (qd 9) (ce_c (.int _))) (qm 9))))))
   (xC (Z7 vT (qd 6) (qc (qT (qc (qd 7) (qc (qd 9) (qc (qd 10) qg)))) qg)))))))))
   (ql (qC (qp (qc (qd 0) (qc (ce_c (.int _)) qg))) (qm 13))
   (qB (qT (qc (qd 1) (qc (qu zR (Z6 (qd 6) (zw (qd 13)) kP) (Z6 (qd 6) kP (zw (qd 13)))) qg))))))))))))),fun us M M1 Qu e1 h=>?_⟩
 obtain⟨k,o,rfl,em,hB,post⟩:=h
 obtain⟨hkl,eM⟩:=xN em
 rw[e1.trans eM]
 walk_at "u"
 refine vh hkl hB (by decide) (by decide) fun e o1 e0 e1 B1=>?_
 walk_at "u"
 refine vh hkl B1 (by decide) (by decide) fun d o2 d0 d1 B2=>?_
 have hbits:∃bits:Int,atI [T.int 8, .int 9, .int 10, .int 12, .int 16, .int 24, .int 32, .int (8+e)] d=some (.int bits)/\8<=bits/\bits<=32:=by
  rcases(show d=0\/d=1\/d=2\/d=3\/d=4\/d=5\/d=6\/d=7 by omega) with rfl|rfl|rfl|rfl|rfl|rfl|rfl|rfl
  ·exact⟨_,rfl,by decide,by decide⟩
  ·exact⟨_,rfl,by decide,by decide⟩
  ·exact⟨_,rfl,by decide,by decide⟩
  ·exact⟨_,rfl,by decide,by decide⟩
  ·exact⟨_,rfl,by decide,by decide⟩
  ·exact⟨_,rfl,by decide,by decide⟩
  ·exact⟨_,rfl,by decide,by decide⟩
  ·exact⟨_,rfl,by omega,by omega⟩
 obtain⟨bits,hbt,hb0,hb1⟩:=hbits
 refine vK hbt ?_
 walk_at "u"
 refine vh hkl B2 (by decide) (by decide) fun d2 o3 d20 d21 B3=>?_
 obtain⟨L,hat2,hL⟩:∃L,atI [Qe L0,Qe L1] d2=some (Qe L)/\(L=L0\/L=L1):=by
  rcases(show d2=0\/d2=1 by omega) with rfl|rfl
  ·exact⟨L0,rfl, .inl rfl⟩
  ·exact⟨L1,rfl, .inr rfl⟩
 refine vK hat2 ?_
 walk_at "u"
 have hL8:(L++L).length=8:=by rcases hL with rfl|rfl<;>rfl
 refine⟨L.map T.str,2,rfl,rfl,by decide,by decide,(by rcases hL with rfl|rfl<;>(show 4*2<=sizeLine; decide)), ?_⟩
 have hflat:(List.replicate (2:Int).toNat (L.map T.str)).flatten=(L++L).map T.str:=by rcases hL with rfl|rfl<;>rfl
 rw[hflat]
 refine vh hkl B3 (by decide) (by decide) fun α o4 α0 α1 B4=>?_
 obtain⟨at',rfl⟩:∃j:Nat,α=(j:Int):=⟨α.toNat,by omega⟩
 have ha:at'<4:=by omega
 have hrp:=rot_perm (α:=at') hL ha
 have hrl:(rot L at').length=4:=hrp.length_eq
 have hcut:cutT ((L++L).map T.str) (some (at':Int)) (some ((at':Int)+4))=(rot L at').map T.str:=by
  have e4:(at':Int)+4=((at'+4:Nat):Int):=by omega
  rw[e4,cutT_map (by omega) (by omega),show at'+4-at'=4 by omega]
  rfl
 walk_at "u"
 refine vh hkl B4 (by decide) (by decide) fun d4 o5 d40 d41 B5=>?_
 walk_at "u"
 rw[hcut]
 refine ite2 (fun _=>?_) (fun _=>?_)
 ·refine⟨k,o5,bits,rot L at',rfl,MB_bag hkl,B5,hrp,⟨hb0,hb1⟩,fun o6 ms B6 hR=>?_⟩
  rw[Q9 hkl]
  walk_at "u"
  refine⟨js B6.pur, ?_⟩
  rw[jt]
  exact post o6 bits ms B6 hR
 simp only[uDisp]
 walk_at "u"
 refine⟨QD bits,rfl,by show 5<=15; decide, ?_⟩
 refine⟨by simp[hrl]; exact Nat.le_of_lt (qH (by decide)), ?_⟩
 refine ze (ts:=((("sign" : Str)::rot L at').map T.str)) (fun i ρ M'=>∃(o:MO) (ns:List Nd) (ms:List Mk3) (x7 x8 x9 x10 x11 x12 x13:Option U),ρ=[some (.m k),some (.p (.int bits)),some (.p (.lst ((L++L).map T.str))),some (.p (.int at')),some (.m (M.length+0)),some (.m (M.length+1)),some (.m (M.length+2)),x7,x8,x9,x10,x11,x12,x13]/\M'=MB M k o [.dK (zM [] (QD bits)), .lst ((ns.map ndT).map U.p), .lst ((ms.map vB).map U.p)]/\BagO o/\LInv bits (("sign" : Str)::rot L at') i ns ms) ?_ ?_ ?_
 ·refine⟨o5, [(0,0)], [],_,_,_,_,_,_,_,rfl,rfl,B5,⟨?_,⟨(0,0),by simp,by decide⟩,by decide,rfl,(fun _ h=>nomatch h),(fun _ h=>nomatch h),by simp⟩⟩
  intro n hn
  rw[List.mem_singleton.mp hn]
  exact⟨by decide,by decide,by decide,by decide⟩
 ·rintro i y ρ M' hi ⟨o,ns,ms,x7,x8,x9,x10,x11,x12,x13,rfl,rfl,B6,LI⟩
  obtain⟨kind,hki,rfl⟩:=qJ hi
  obtain⟨hlow,hk5,hi5⟩:=ks_low hb0 hrp hki
  have hval:=X8 (bits:=bits) hk5
  have hneed:=jd kind
  have hnl:=LI.len
  walk_at "u"
  refine ky (vH rfl) ?_
  refine xR (by rw[List.length_map]; exact Nat.le_of_lt (qH (by omega))) (fun j acc M2=>M2=MB M k o [.dK (zM [] (QD bits)), .lst ((ns.map ndT).map U.p), .lst ((ms.map vB).map U.p)]/\acc=((ns.take j).filter fun n=>decide (n.1<bits-need kind)).map ndT) ⟨rfl,rfl⟩ (fun j acc M2 ⟨e,_⟩=>by rw[e]; exact vH rfl) ?_ ?_
  ·rintro j y acc M2 hj _ ⟨rfl,rfl⟩
   obtain⟨n,hn,rfl⟩:=qJ hj
   walk_at "u"
   refine V8 (vH rfl) hval ?_
   walk_at "u"
   rw[qk hn,List.filter_append,List.map_append]
   refine ite2 (fun hh=>?_) (fun hh=>?_)<;>simp[hh]
  ·rintro acc M2 ⟨rfl,rfl⟩
   rw[List.length_map,List.take_length]
   generalize hfs:(ns.filter fun n=>decide (n.1<bits-need kind))=fs
   have hpos:0<fs.length:=by
    obtain⟨n,hn,hw⟩:=LI.low
    have:n∈fs:=by rw[<-hfs]; exact List.mem_filter.mpr ⟨hn,by simp; omega⟩
    exact List.length_pos_of_mem this
   have hfl:fs.length<=200:=by
    rw[<-hfs]
    have:=List.length_filter_le (fun n:Nd=>decide (n.1<bits-need kind)) ns
    omega
   walk_at "u"
   rw[List.length_map]
   refine vh hkl B6 (by omega) (log2_lt (by omega) (by omega)) fun d o7 d0 d1 B7=>?_
   obtain⟨jj,rfl⟩:∃j:Nat,d=(j:Int):=⟨d.toNat,by omega⟩
   have hjj:fs[jj]?=some (fs[jj]'(by omega)):=List.getElem?_eq_getElem _
   generalize fs[jj]'(by omega)=n at hjj
   have hnf:=List.mem_filter.mp (show n∈ns.filter fun n=>decide (n.1<bits-need kind) by rw[hfs]; exact List.mem_of_getElem? hjj)
   have hnw:n.1<bits-need kind:=by simpa using hnf.2
   have hnok:=LI.ok n hnf.1
   refine vK (atT hjj) ?_
   walk_at "u"
   obtain⟨j,hj,hjm⟩:=V7 hnf.1
   have hjl:=(List.getElem?_eq_some_iff.mp hj).1
   refine⟨ns.map ndT,ndT n,j,fun m=>decide (ns[m]?=some n),rfl,rfl,by rw[List.length_map]; exact hjl,by simp[hj],fun m hm=>by simp[hjm m hm],fun m z hm hz=>?_, ?_⟩
   ·obtain⟨nm,hnm,rfl⟩:=qJ hz
    have e9:decide (ns[m]?=some n)=decide (nm=n):=by
     rw[hnm]
     by_cases e:nm=n<;>simp[e]
    show EqT 20 _ _ (decide (ns[m]?=some n))
    rw[e9]
    exact nd_eqT
   have W0:=LI.pick hj
   rw[<-QF]
   walk_at "u"
   refine V8 (vH rfl) hval ?_
   walk_at "u"
   refine vh hkl B7 (by decide) (by decide) fun e o8 e0 e1 B8=>?_
   walk_at "u"
   refine vh hkl B8 (by decide) (by decide) fun d5 o9 d50 d51 B9=>?_
   have hdel:∃δ:Int,atI [T.int 1, .int 1, .int 2, .int 3, .int (1+e)] d5=some (.int δ)/\1<=δ/\δ<=30:=by
    rcases(show d5=0\/d5=1\/d5=2\/d5=3\/d5=4 by omega) with rfl|rfl|rfl|rfl|rfl
    ·exact⟨_,rfl,by decide,by decide⟩
    ·exact⟨_,rfl,by decide,by decide⟩
    ·exact⟨_,rfl,by decide,by decide⟩
    ·exact⟨_,rfl,by decide,by decide⟩
    ·exact⟨_,rfl,by omega,by omega⟩
   obtain⟨δ,hδ,δ0,δ1⟩:=hdel
   refine vK hδ ?_
   walk_at "u"
   obtain⟨g,hgE,hg1,hg2⟩:∃g:Int,(if n.1+δ<bits-need kind then n.1+δ else bits-need kind)=g/\n.1<g/\g<=bits-need kind:=⟨_,rfl,by split<;>omega,by split<;>omega⟩
   rw[hgE]
   have hn0':=hnok.1
   refine⟨fun m ρ M'=>∃(o:MO) (c:Nd) (ns2:List Nd) (x12:Option U),m=(g-c.1).toNat/\ρ=[some (.m k),some (.p (.int bits)),some (.p (.lst ((L++L).map T.str))),some (.p (.int at')),some (.m (M.length+0)),some (.m (M.length+1)),some (.m (M.length+2)),some (.p (.str kind)),some (.p (.lst (fs.map ndT))),some (.p (.int c.1)),some (.p (.int c.2)),some (.p (.int g)),x12,x13]/\M'=MB M k o [.dK (zM [] (QD bits)), .lst ((ns2.map ndT).map U.p), .lst ((ms.map vB).map U.p)]/\BagO o/\c.1<=g/\WInv i n.1 c ns2 ms,⟨_,o9,n,ns.eraseIdx j,_,rfl,rfl,rfl,B9,by omega,W0⟩, ?_⟩
   rintro m ρ M' ⟨o10,c,ns2,y12,rfl,rfl,rfl,B10,hcg,WI⟩
   have hcok:=WI.cok
   have hwl:=WI.len
   have hww:=WI.w
   have hc0:=hcok.1
   walk_at "u"
   refine ite2 (fun hlt=>?_) (fun hge=>?_)
   ·refine⟨fun ρ'' M''=>∃m',m'<(g-c.1).toNat/\∃(o:MO) (c:Nd) (ns2:List Nd) (x12:Option U),m'=(g-c.1).toNat/\ρ''=[some (.m k),some (.p (.int bits)),some (.p (.lst ((L++L).map T.str))),some (.p (.int at')),some (.m (M.length+0)),some (.m (M.length+1)),some (.m (M.length+2)),some (.p (.str kind)),some (.p (.lst (fs.map ndT))),some (.p (.int c.1)),some (.p (.int c.2)),some (.p (.int g)),x12,x13]/\M''=MB M k o [.dK (zM [] (QD bits)), .lst ((ns2.map ndT).map U.p), .lst ((ms.map vB).map U.p)]/\BagO o/\c.1<=g/\WInv i n.1 c ns2 ms,fun _ _ h=>h, ?_⟩
    walk_at "u"
    refine vh hkl B10 (by decide) (by decide) fun sd o11 s0 s1 B11=>?_
    walk_at "u"
    refine⟨⟨by omega,by omega,by omega⟩, ?_⟩
    walk_at "u"
    refine⟨by rw[List.length_map,List.length_map]; exact qH (by omega), ?_⟩
    refine⟨⟨by omega,by omega,by omega⟩, ?_⟩
    refine⟨(g-(c.1+1)).toNat,by omega,o11,v7 c sd,ns2++[v7 c (1-sd)],_,rfl,rfl, ?_,B11,by show c.1+1<=g; omega,WI.step (by omega) (by omega)⟩
    rw[List.map_append,List.map_append]
    rfl
   ·have hce:c.1=g:=by omega
    walk_at "u"
    have h2:=congrArg List.length LI.kinds
    rw[List.length_map,List.length_take] at h2
    refine⟨by rw[List.length_map,List.length_map]; exact qH (by omega), ?_⟩
    refine⟨o10,ns2,ms++[(kind,c)],_,_,_,_,_,_,_,rfl, ?_,B10,WI.fin LI hki hce (by omega) (by omega) (by omega) (by omega)⟩
    rw[List.map_append,List.map_append]
    rfl
 ·rintro ρ M' ⟨o,ns,ms,x7,x8,x9,x10,x11,x12,x13,rfl,rfl,B6,LI⟩
  have h5:((("sign" : Str)::rot L at').map T.str).length=5:=by simp[hrl]
  rw[h5] at LI
  have hKp:(("sign" : Str)::rot L at').Perm fiveK:=(List.Perm.cons _ hrp).trans (by decide +kernel)
  have hR:=LI.right hKp ⟨hb0,hb1⟩
  have hn5:=hR.n
  walk_at "u"
  refine vh hkl B6 (by decide) (by decide) fun tu o7 t0 t1 B7=>?_
  obtain⟨tn,rfl⟩:∃j:Nat,tu=(j:Int):=⟨tu.toNat,by omega⟩
  walk_at "u"
  refine slm_at (vH rfl) ?_
  refine slm_at (vH rfl) ?_
  rw[Q0 (by omega),QZ (by omega)]
  walk_at "u"
  have pm:ms.Perm (ms.drop tn++ms.take tn):=by
   have:=List.perm_append_comm (l₁:=ms.take tn) (l₂:=ms.drop tn)
   rw[List.take_append_drop] at this
   exact this
  refine⟨by simp; exact Nat.le_of_lt (qH (by omega)),js B7.pur, ?_⟩
  rw[jt, <-List.map_append]
  exact post o7 bits _ B7 (hR.of_perm pm)
def QR:List T->(T->Prop)->Prop:=fun ts Q=>∃(bits:Int) (ms:List Mk3) (kind:Str) (m:Mk3),ts=[layT bits ms, .str kind]/\ms.length<=900/\OfKind ms kind m/\Q (vB m)
def Z2:List T->(T->Prop)->Prop:=fun ts Q=>∃(bits:Int) (ms:List Mk3) (kind:Str) (m:Mk3),ts=[layT bits ms, .str kind]/\ms.length<=900/\OfKind ms kind m/\Q (.int (bits-m.2.1))
abbrev j3:Stmt:=top 14
theorem Xr:FnScope ["laying", "kind"] ["laying", "kind"] (qi j3):=⟨rfl,rfl,rfl,by decide +kernel,rfl,by decide +kernel,by decide +kernel⟩
theorem ZJ:(["laying", "kind", "mark"]:List Str).Nodup:=by decide +kernel
theorem Qw {f:Addr} {fd:FuncData} (F:Fun K "mark_for" "mark_for" j3 f fd):FnOk P w K mg base CX0 1 f fd ["laying", "kind"] (spP QR):=by
 refine F.zP Xr (fun ts Qt h=>?_) (fun cdv A outer s H E hr=>?_)
 ·obtain⟨_,_,_,_,rfl,_⟩:=h
  rfl
 refine⟨_,(qj (qx (qI (qt (K:=K) rfl) (xb [false,true] ["mark"] (qG (K:=K) rfl (qI (qK (K:=K) rfl) (qv 0) qe (fun _ _=>rfl))) (fun _ _ _=>(qO (i:=2) ZJ rfl (Or.inl rfl))) (fun _ _ _=>v5 (qL Vn (qI (qK (K:=K) rfl) (qv 2) qe (fun _ _=>rfl)) (qv 1) (qQ _))) (fun _ _ _=>(qv 2))) qe (fun _ _=>rfl)))),_,(qB (vO (qY (qU (vc (qd 0) (ce_c (.int _)))) (vg 2) (qP (qu Qq (vc (qd 2) (ce_c (.int _))) (qd 1))) (qd 2)) (ce_c (.int _)))),fun ts Qt h=>?_⟩
 obtain⟨bits,ms,kind,m,rfl,hl,⟨rest,hm⟩,q⟩:=h
 walk_at "u"
 refine qW (by rw[List.length_map]; exact Nat.le_of_lt (qH (by omega))) (fun i acc M'=>M'=[]/\acc=((ms.take i).filter fun m=>decide (m.1=kind)).map vB) ⟨rfl,rfl⟩ ?_ ?_
 ·rintro i x acc M' hx _ ⟨rfl,rfl⟩
  obtain⟨n,hn,rfl⟩:=qJ hx
  walk_at "u"
  rw[qk hn,List.filter_append,List.map_append]
  refine ite2 (fun hh=>?_) (fun hh=>?_)<;>simp[hh]
 ·rintro acc M' ⟨rfl,rfl⟩
  rw[List.length_map,List.take_length,hm]
  walk_at "u"
  exact q
abbrev sMark:Stmt:=top 29
theorem scMark:FnScope ["laying", "kind"] ["laying", "kind"] (qi sMark):=⟨rfl,rfl,rfl,by decide +kernel,rfl,by decide +kernel,by decide +kernel⟩
theorem ndMark1:(["laying", "kind", "one"]:List Str).Nodup:=by decide +kernel
theorem Qx {f:Addr} {fd:FuncData} (F:Fun K "_law_mark" "_law_mark" sMark f fd):FnOk P w K mg base CX0 1 f fd ["laying", "kind"] (spP QR):=by
 refine F.zP scMark (fun ts Qt h=>?_) (fun cdv A outer s H E hr=>?_)
 ·obtain⟨_,_,_,_,rfl,_⟩:=h
  rfl
 refine⟨_,(qj (qx (qI (qt (K:=K) rfl) (xb [false,true] ["one"] (qG (K:=K) rfl (qI (qK (K:=K) rfl) (qv 0) qe (fun _ _=>rfl))) (fun _ _ _=>(qO (i:=2) ndMark1 rfl (Or.inl rfl))) (fun _ _ _=>v5 (qL Vn (qI (qK (K:=K) rfl) (qv 2) qe (fun _ _=>rfl)) (qv 1) (qQ _))) (fun _ _ _=>(qv 2))) qe (fun _ _=>rfl)))),_,(qB (vO (qY (qU (vc (qd 0) (ce_c (.int _)))) (vg 2) (qP (qu Qq (vc (qd 2) (ce_c (.int _))) (qd 1))) (qd 2)) (ce_c (.int _)))),fun ts Qt h=>?_⟩
 obtain⟨bits,ms,kind,m,rfl,hl,⟨rest,hm⟩,q⟩:=h
 walk_at "u"
 refine qW (by rw[List.length_map]; exact Nat.le_of_lt (qH (by omega))) (fun i acc M'=>M'=[]/\acc=((ms.take i).filter fun m=>decide (m.1=kind)).map vB) ⟨rfl,rfl⟩ ?_ ?_
 ·rintro i x acc M' hx _ ⟨rfl,rfl⟩
  obtain⟨n,hn,rfl⟩:=qJ hx
  walk_at "u"
  rw[qk hn,List.filter_append,List.map_append]
  refine ite2 (fun hh=>?_) (fun hh=>?_)<;>simp[hh]
 ·rintro acc M' ⟨rfl,rfl⟩
  rw[List.length_map,List.take_length,hm]
  walk_at "u"
  exact q
abbrev xX:Stmt:=top 15
theorem Zp:FnScope ["laying", "kind"] ["laying", "kind"] (qi xX):=⟨rfl,rfl,rfl,by decide +kernel,rfl,by decide +kernel,by decide +kernel⟩
theorem kh {f:Addr} {fd:FuncData} (F:Fun K "load_bits" "load_bits" xX f fd) (DMarkFor:Def P w K mg base "mark_for" 1 ["laying", "kind"] (spP QR)):FnOk P w K mg base CX0 2 f fd ["laying", "kind"] (spP Z2):=by
 refine F.zP Zp (fun ts Qt h=>?_) (fun cdv A outer s H E hr=>?_)
 ·obtain⟨_,_,_,_,rfl,_⟩:=h
  rfl
 refine⟨_,(qj (qx (qw za (qI (qK (K:=K) rfl) (qv 0) qe (fun _ _=>rfl)) (qI (qK (K:=K) rfl) (qo DMarkFor (hr.mono (by first|decide|exact Nat.le_refl _)) (qa_c (qv 0) (qa_c (qv 1) qf))) qe (fun _ _=>rfl))))),_,(qB (qu (qA fun _ _=>.int _) (vc (qd 0) (ce_c (.int _))) (vc (qr (qc (qd 0) (qc (qd 1) qg))) (ce_c (.int _))))),fun ts Qt h=>?_⟩
 obtain⟨bits,ms,kind,m,rfl,hl,hm,q⟩:=h
 walk_at "u"
 refine⟨bits,ms,kind,m,rfl,hl,hm, ?_⟩
 walk_at "u"
 exact q
abbrev sLoad:Stmt:=top 30
theorem scLoad:FnScope ["laying", "kind"] ["laying", "kind"] (qi sLoad):=⟨rfl,rfl,rfl,by decide +kernel,rfl,by decide +kernel,by decide +kernel⟩
theorem Qy {f:Addr} {fd:FuncData} (F:Fun K "_law_load" "_law_load" sLoad f fd) (DMark:Def P w K mg base "_law_mark" 1 ["laying", "kind"] (spP QR)):FnOk P w K mg base CX0 2 f fd ["laying", "kind"] (spP Z2):=by
 refine F.zP scLoad (fun ts Qt h=>?_) (fun cdv A outer s H E hr=>?_)
 ·obtain⟨_,_,_,_,rfl,_⟩:=h
  rfl
 refine⟨_,(qj (qx (qw za (qI (qK (K:=K) rfl) (qv 0) qe (fun _ _=>rfl)) (qI (qK (K:=K) rfl) (qo DMark (hr.mono (by first|decide|exact Nat.le_refl _)) (qa_c (qv 0) (qa_c (qv 1) qf))) qe (fun _ _=>rfl))))),_,(qB (qu (qA fun _ _=>.int _) (vc (qd 0) (ce_c (.int _))) (vc (qr (qc (qd 0) (qc (qd 1) qg))) (ce_c (.int _))))),fun ts Qt h=>?_⟩
 obtain⟨bits,ms,kind,m,rfl,hl,hm,q⟩:=h
 walk_at "u"
 refine⟨bits,ms,kind,m,rfl,hl,hm, ?_⟩
 walk_at "u"
 exact q
structure Tup5 (K:PySem.W.Frag) (mg:Str->Option Value) (nm:Str) (p:Addr) (x y z v r:Str):Prop where
 mg:mg nm=some (.ref p)
 ex:∃(t u t' u' t2:Tok) (n:Nat) (sl:Array (Option Value)),K.lookup p=some ⟨.type "tuple", none, .seq #[.str x t, .str y u, .str z t', .str v u', .str r t2] n,sl⟩
theorem Tup5.kt {mg:Str->Option Value} {nm:Str} {p:Addr} {x y z v r:Str} (T5:Tup5 K mg nm p x y z v r):KTu K p [.str x, .str y, .str z, .str v, .str r]:=fun H=>by
 obtain⟨t,u,t',u',t2,n,sl,e⟩:=T5.ex
 exact .inr ⟨_,_,n,e,rfl,rfl,by show 5<=sizeLine; decide, .cons ⟨t,rfl⟩ (.cons ⟨u,rfl⟩ (.cons ⟨t',rfl⟩ (.cons ⟨u',rfl⟩ (.cons ⟨t2,rfl⟩ .nil))))⟩
def Jj:List (Str×V):=[("small", .int 2),("far", .int 3),("pair", .int 3),("sign", .int 7),("one", .int 2)]
def leastT:List (Str×T):=[("small", .int 2),("far", .int 3),("pair", .int 3),("sign", .int 7),("one", .int 2)]
theorem least_sc:Paired (fun(a:Str×V) (b:Str×T)=>a.1=b.1/\Sc a.2 b.2) Jj leastT:=.cons ⟨rfl, .int _⟩ (.cons ⟨rfl, .int _⟩ (.cons ⟨rfl, .int _⟩ (.cons ⟨rfl, .int _⟩ (.cons ⟨rfl, .int _⟩ .nil))))
theorem ZR {k:Str} (h:k∈fiveK):leastT.lookup k=some (.int (need k)):=by
 simp only[fiveK,List.mem_cons,List.not_mem_nil,or_false] at h
 rcases h with h|h|h|h|h<;>rw[h]<;>rfl
abbrev Vg:Stmt:=top 5
theorem scBitsGo:FnScope ["bits"] ["bits"] (qi Vg):=⟨rfl,rfl,rfl,by decide +kernel,rfl,by decide +kernel,by decide +kernel⟩
def kM:List T->(T->Prop)->Prop:=fun ts Q=>∃bits:Int,ts=[.int bits]/\Q (.bl (decide (8<=bits)&&decide (bits<=32)))
theorem XY {f:Addr} {fd:FuncData} (F:Fun K "bits_go" "bits_go" Vg f fd) (GFew:GInt mg "FEWEST_BITS" 8) (GMost:GInt mg "MOST_BITS" 32):FnOk P w K mg base CX0 1 f fd ["bits"] (spP kM):=by
 refine F.zP scBitsGo (fun ts Qt h=>?_) (fun cdv A outer s H E hr=>?_)
 ·obtain⟨_,rfl,_⟩:=h
  rfl
 refine⟨_,(qj (qx (VY Vm Vm (Vj GFew rfl) (qv 0) (Vj GMost rfl)))),_,(qB (kR (qA fun _ _=>.bl _) (qA fun _ _=>.bl _) (ce_c (.int _)) (qd 0) (ce_c (.int _)))),fun ts Qt h=>?_⟩
 obtain⟨bits,rfl,q⟩:=h
 walk_at "v"
 refine ite2 (fun h=>?_) (fun h=>?_)<;>simpa[h] using q
abbrev xu:Stmt:=top 6
theorem Vd:FnScope ["bits", "width"] ["bits", "width"] (qi xu):=⟨rfl,rfl,rfl,by decide +kernel,rfl,by decide +kernel,by decide +kernel⟩
def zD:List T->(T->Prop)->Prop:=fun ts Q=>∃bits width:Int,ts=[.int bits, .int width]/\Q (.bl (decide (1<=width)&&decide (width<=bits-1)))
theorem Qv {f:Addr} {fd:FuncData} (F:Fun K "width_goes" "width_goes" xu f fd):FnOk P w K mg base CX0 1 f fd ["bits", "width"] (spP zD):=by
 refine F.zP Vd (fun ts Qt h=>?_) (fun cdv A outer s H E hr=>?_)
 ·obtain⟨_,_,rfl,_⟩:=h
  rfl
 refine⟨_,(qj (qx (VY Vm Vm qe (qv 1) (qw za (qv 0) qe)))),_,(qB (kR (qA fun _ _=>.bl _) (qA fun _ _=>.bl _) (ce_c (.int _)) (qd 1) (qu (qA fun _ _=>.int _) (qd 0) (ce_c (.int _))))),fun ts Qt h=>?_⟩
 obtain⟨bits,width,rfl,q⟩:=h
 walk_at "v"
 refine ite2 (fun h=>?_) (fun h=>?_)<;>simpa[h] using q
abbrev xW:Stmt:=top 7
theorem Zo:FnScope ["bits", "kind", "width"] ["bits", "kind", "width"] (qi xW):=⟨rfl,rfl,rfl,by decide +kernel,rfl,by decide +kernel,by decide +kernel⟩
def xn:List T->(T->Prop)->Prop:=fun ts Q=>∃(bits:Int) (kind:Str) (width:Int),ts=[.int bits, .str kind, .int width]/\kind∈fiveK/\Q (.bl (decide (need kind<=bits-width)))
theorem Vq {f ld:Addr} {fd:FuncData} (F:Fun K "load_goes" "load_goes" xW f fd) (DLeast:KDi K w mg "LEAST_LOAD_BITS" ld Jj):FnOk P w K mg base CX0 1 f fd ["bits", "kind", "width"] (spP xn):=by
 refine F.zP Zo (fun ts Qt h=>?_) (fun cdv A outer s H E hr=>?_)
 ·obtain⟨_,_,_,rfl,_⟩:=h
  rfl
 refine⟨_,(qj (qx (jb op_ge (qw za (qv 0) (qv 2)) (qe_kd DLeast rfl (qv 1) (fun _ _=>rfl)) (qQ _)))),_,(qB (qu (qA fun _ _=>.bl _) (qu (qA fun _ _=>.int _) (qd 0) (qd 2)) (ce_kd least_sc (qd 1)))),fun ts Qt h=>?_⟩
 obtain⟨bits,kind,width,rfl,hk,q⟩:=h
 walk_at "v"
 unfold uKD
 walk_at "v"
 refine⟨_,_,rfl,ZR hk, ?_⟩
 walk_at "v"
 exact q
def mkOk (bits:Int) (m:Mk3):Bool:=(decide (1<=m.2.1)&&decide (m.2.1<=bits-1))&&(decide (0<=m.2.2)&&decide (m.2.2<2^m.2.1.toNat))
abbrev jZ:Stmt:=top 8
theorem scMarksGo:FnScope ["bits", "marks", "kind", "width", "pattern"] ["bits", "marks"] (qi jZ):=⟨rfl,rfl,rfl,by decide +kernel,rfl,by decide +kernel,by decide +kernel⟩
def kJ:List T->(T->Prop)->Prop:=fun ts Q=>∃(bits:Int) (ms:List Mk3),ts=[.int bits, .lst (ms.map vB)]/\bits<=32/\Q (.bl (ms.all (mkOk bits)))
theorem Zy {f:Addr} {fd:FuncData} (F:Fun K "marks_go" "marks_go" jZ f fd) (DWidthGoes:Def P w K mg base "width_goes" 1 ["bits", "width"] (spP zD)):FnOk P w K mg base CX0 2 f fd ["bits", "marks"] (spP kJ):=by
 refine F.zP scMarksGo (fun ts Qt h=>?_) (fun cdv A outer s H E hr=>?_)
 ·obtain⟨_,_,rfl,_⟩:=h
  rfl
 refine⟨_,(qh (v8 PassesOwn.never rfl (qG (K:=K) rfl (qv 1)) (Qk (K:=K) (i:=2) (j:=3) (k:=4) rfl scMarksGo.nd rfl rfl rfl rfl (Or.inl rfl) (Or.inl rfl) (Or.inl rfl) (Or.inl rfl) (Or.inl rfl) (Or.inl rfl))
   (qj (zd (Vi (Zq (zn (zK (qo DWidthGoes (hr.mono (by first|decide|exact Nat.le_refl _)) (qa_c (qv 0) (qa_c (qv 3) qf))))) (jB (zn (qt_chain Vm Zu qe (qv 4) (qw xg qe (qv 3)))))))
    (qj (qx xG))
    vd)))
  (qj (qx xG))),_,(ql (zu (qU (qd 1)) (Ze 2 3 4)
   (zI (Z4 (zr (ct_b (qr (qc (qd 0) (qc (qd 3) qg))))) (zr (qP (kR (qA fun _ _=>.bl _) (qA fun _ _=>.bl _) (ce_c (.int _)) (qd 4) (qu (zH fun _ _=>.int _) (ce_c (.int _)) (qd 3))))))
   (qB (ce_c (.bl _)))
   vj))
   (qB (ce_c (.bl _)))),fun ts Qt h=>?_⟩
 obtain⟨bits,ms,rfl,hb,q⟩:=h
 walk_at "v"
 refine ze (fun i ρ M=>(∃x y z,ρ=[some (.p (.int bits)),some (.p (.lst (ms.map vB))),x,y,z])/\M=[]/\(ms.take i).all (mkOk bits)=true) ⟨⟨none,none,none,rfl⟩,rfl,rfl⟩ ?_ ?_
 ·rintro i x ρ M hx ⟨⟨x1,x2,x3,rfl⟩,rfl,hall⟩
  obtain⟨m,hm,rfl⟩:=qJ hx
  walk_at "v"
  refine⟨bits,m.2.1,rfl,_,rfl, ?_⟩
  have bad:mkOk bits m=false->Qt (.bl false):=fun h=>by
   have:ms.all (mkOk bits)=false:=List.all_eq_false.mpr ⟨m,List.mem_of_getElem? hm,by simp[h]⟩
   rw[this] at q
   exact q
  have good:mkOk bits m=true->(List.take (i+1) ms).all (mkOk bits)=true:=fun h=>by
   rw[qk hm,List.all_append,hall]
   simp[h]
  refine ite2 (fun h=>?_) (fun h=>?_)
  ·refine bad ?_
   unfold mkOk
   rw[show(decide (1<=m.2.1)&&decide (m.2.1<=bits-1))=false by rw[Bool.not_eq_true'] at h; exact h]
   rfl
  have h1:(decide (1<=m.2.1)&&decide (m.2.1<=bits-1))=true:=by simpa using h
  have h1':1<=m.2.1/\m.2.1<=bits-1:=by simpa using h1
  refine ite2 (fun h2=>⟨⟨by omega,by omega,by decide⟩,ite2 (fun h3=>?_) (fun h3=>?_)⟩) (fun h2=>?_)
  ·refine bad ?_
   have:¬m.2.2<2^m.2.1.toNat:=by simpa using h3
   simp[mkOk,this]
  ·have h3:m.2.2<2^m.2.1.toNat:=by simpa using h3
   exact⟨⟨_,_,_,rfl⟩,good (by simp[mkOk,h1'.1,h1'.2,h2,h3])⟩
  ·refine bad ?_
   simp[mkOk,h2]
 ·rintro ρ M ⟨⟨x1,x2,x3,rfl⟩,rfl,hall⟩
  rw[List.length_map,List.take_length] at hall
  rw[hall] at q
  walk_at "v"
  exact q
def jw (bits:Int) (ms:List Mk3):Bool:=(decide (8<=bits)&&decide (bits<=32))&&(decide (ms.length=5)&&((ms.map (·.1)).isPerm fiveK&&ms.all (mkOk bits)))
theorem zN:∀{l:List Str} {a:Str},sortedS (a::l)=true->(∀b∈l,a.cps.toList<=b.cps.toList)/\sortedS l=true
 | [],_,_=>⟨fun b h=>(by cases h),rfl⟩
 |b::l,a,h=>by
  have h:(!PySem.Spec.ltCps b.cps.toList a.cps.toList&&sortedS (b::l))=true:=h
  rw[Bool.and_eq_true] at h
  have hb:a.cps.toList<=b.cps.toList:=by
   have:=h.1
   rw[ltCps_eq] at this
   have h3:¬b.cps.toList<a.cps.toList:=by simpa using this
   exact h3
  obtain⟨i1,i2⟩:=zN h.2
  refine⟨fun c hc=>?_,h.2⟩
  rcases List.mem_cons.mp hc with rfl|hc
  ·exact hb
  ·exact List.le_trans hb (i1 c hc)
theorem xr:∀{l:List Str},sortedS l=true->l.Pairwise fun a b=>a.cps.toList<=b.cps.toList
 | [],_=>.nil
 |a::l,h=>.cons (zN h).1 (xr (zN h).2)
theorem Vc {l l':List Str} (h:sortedS l=true) (h':sortedS l'=true) (p:l.Perm l'):l=l':=by
 refine List.Perm.eq_of_pairwise (fun a b _ _ h1 h2=>?_) (xr h) (xr h') p
 have:=List.le_antisymm h1 h2
 cases a with|mk a=>cases b with|mk b=>rw[show a=b from Array.toList_inj.mp this]
theorem eqStrs {neg:Bool} {ns ms:List Str} {Q:T->Prop} (q:Q (.bl (if neg then !decide (ns=ms) else decide (ns=ms)))):sEqL neg (.lst (ns.map T.str)) (.lst (ms.map T.str)) Q:=by
 refine⟨_,_,rfl,rfl, ?_⟩
 simp only[List.length_map]
 by_cases hl:ns.length=ms.length
 ·refine .inr ⟨hl,fun j=>ns[j]?==ms[j]?,fun j x y hx hy=>?_,by rw[JV hl]; exact q⟩
  rw[List.getElem?_map] at hx hy
  cases e1:ns[j]? with
  |none=>rw[e1] at hx; cases hx
  |some i =>
   cases e2:ms[j]? with
   |none=>rw[e2] at hy; cases hy
   |some k =>
    rw[e1] at hx; rw[e2] at hy
    cases hx; cases hy
    have:=EqT.flat (n:=20) (a:=.str i) (b:=.str k) rfl rfl
    have e3:eqV (.str i) (.str k)=(ns[j]?==ms[j]?):=by
     rw[e1,e2]
     by_cases h:i=k
     ·subst h; simp[eqV]
     ·simp[eqV,h]
    rw[e3] at this
    exact this
 ·refine .inl ⟨hl, ?_⟩
  have:decide (ns=ms)=false:=decide_eq_false fun z=>hl (by rw[z])
  rw[this] at q
  cases neg<;>simpa using q
abbrev j5:Stmt:=top 9
theorem scHasForm:FnScope ["laying", "bits", "marks"] ["laying"] (qi j5):=⟨rfl,rfl,rfl,by decide +kernel,rfl,by decide +kernel,by decide +kernel⟩
theorem ZL:(["laying", "bits", "marks", "mark"]:List Str).Nodup:=by decide +kernel
def kK:List T->(T->Prop)->Prop:=fun ts Q=>∃(bits:Int) (ms:List Mk3),ts=[layT bits ms]/\Q (.bl (jw bits ms))
theorem ZB {kindsA:Addr} {f:Addr} {fd:FuncData} (F:Fun K "has_form" "has_form" j5 f fd) (N:Nms mg) (TKinds:Tup5 K mg "KINDS" kindsA "small" "far" "pair" "sign" "one") (DBitsGo:Def P w K mg base "bits_go" 1 ["bits"] (spP kM)) (DMarksGo:Def P w K mg base "marks_go" 2 ["bits", "marks"] (spP kJ)):FnOk P w K mg base CX0 3 f fd ["laying"] (spP kK):=by
 refine F.zP scHasForm (fun ts Qt h=>?_) (fun cdv A outer s H E hr=>?_)
 ·obtain⟨_,_,rfl,_⟩:=h
  rfl
 refine⟨_,(qh (qD (i:=1) scHasForm.nd rfl (Or.inl rfl) (qI (qK (K:=K) rfl) (qv 0) qe (fun _ _=>rfl)))
  (qh (qD (i:=2) scHasForm.nd rfl (Or.inl rfl) (qI (qK (K:=K) rfl) (qv 0) qe (fun _ _=>rfl)))
  (qh (zd (Vi (Zq (zn (zK (qo DBitsGo (hr.mono (by first|decide|exact Nat.le_refl _)) (qa_c (qv 1) qf)))) (jB (qL XW (va vY (by rfl) N.len VG (qa_c (qv 2) qf)) (va (Xb (K:=K) rfl) (by rfl) N.len VG (qa_c (ja (v:=.ref kindsA) rfl TKinds.mg rfl) qf)) (qQ _)))))
   (qj (qx xG))
   vd)
  (qh (zd (qL (op_neLK (K:=K) rfl hr.units) (va (Xa (K:=K) rfl) (by rfl) N.sorted Zi (qa_c (xb [false,false,false] ["mark"] (qG (K:=K) rfl (qv 2)) (fun _ _ _=>(qO (i:=3) ZL rfl (Or.inl rfl))) (fun _ _ _=>vP) (fun _ _ _=>(qI (qK (K:=K) rfl) (qv 3) qe (fun _ _=>rfl)))) qf)) (va (Z9 (K:=K) rfl) (by rfl) N.sorted Zi (qa_c (ja (v:=.ref kindsA) rfl TKinds.mg rfl) qf)) (qQ _))
   (qj (qx xG))
   vd)
  (qj (qx (qo DMarksGo (hr.mono (by first|decide|exact Nat.le_refl _)) (qa_c (qv 1) (qa_c (qv 2) qf))))))))),_,(ql (qC (vc (qd 0) (ce_c (.int _))) (qm 1))
   (ql (qC (vc (qd 0) (ce_c (.int _))) (qm 2))
   (ql (zI (Z4 (zr (ct_b (qr (qc (qd 1) qg)))) (qP (qu Qp (Q2 (qc (qd 2) qg)) (ce_lenK TKinds.kt))))
   (qB (ce_c (.bl _)))
   vj)
   (ql (zI (qP (qu opl_neL (jx JM (qc (qY (qU (qd 2)) (vg 3) xp (vc (qd 3) (ce_c (.int _)))) qg)) (ce_sortK (ss:=fiveK) TKinds.kt (by decide))))
   (qB (ce_c (.bl _)))
   vj)
   (qB (qr (qc (qd 1) (qc (qd 2) qg)))))))),fun ts Qt h=>?_⟩
 obtain⟨bits,ms,rfl,q⟩:=h
 have no:jw bits ms=false->Qt (.bl false):=fun h=>by rw[h] at q; exact q
 walk_at "v"
 refine⟨bits,rfl,_,rfl, ?_⟩
 refine ite2 (fun h=>no ?_) (fun h=>?_)
 ·unfold jw
  rw[Bool.not_eq_true'] at h
  rw[h]
  rfl
 have h1:(decide (8<=bits)&&decide (bits<=32))=true:=by rw[Bool.not_eq_true',Bool.not_eq_false] at h; exact h
 refine ite2 (fun h2=>no ?_) (fun h2=>?_)
 ·have:¬ms.length=5:=by
   rw[List.length_map] at h2
   have:=by simpa using h2
   omega
  simp[jw,this]
 have h2:ms.length=5:=by
  rw[List.length_map] at h2
  have:=by simpa using h2
  omega
 walk_at "v"
 refine qW (by rw[List.length_map]; exact Nat.le_of_lt (qH (by omega))) (fun i acc M'=>M'=[]/\acc=((ms.take i).map (·.1)).map T.str) ⟨rfl,rfl⟩ ?_ ?_
 ·rintro i x acc M' hx _ ⟨rfl,rfl⟩
  obtain⟨m,hm,rfl⟩:=qJ hx
  walk_at "v"
  rw[qk hm,List.map_append,List.map_append]
  rfl
 ·rintro acc M' ⟨rfl,rfl⟩
  rw[List.length_map,List.take_length]
  walk_at "v"
  refine⟨_,rfl,by rw[List.length_map]; omega,fun s1 p1 o1=>?_⟩
  show ∀s2:List Str,_
  intro s2 p2 o2
  refine⟨_,_,rfl,rfl,eqStrs ?_⟩
  refine⟨_,rfl, ?_⟩
  have hb:bits<=32:=by have:=h1; simp at this; exact this.2
  refine ite2 (fun h3=>no ?_) (fun h3=>⟨bits,ms,rfl,hb, ?_⟩)
  ·have h4:¬s1=s2:=by simpa using h3
   have h5:(ms.map (·.1)).isPerm fiveK=false:=by
    rw[<-Bool.not_eq_true,List.isPerm_iff]
    exact fun z=>h4 (Vc o1 o2 (p1.trans (z.trans p2.symm)))
   simp[jw,h5]
  ·have h4:s1=s2:=by simpa using h3
   have h5:(ms.map (·.1)).isPerm fiveK=true:=by
    rw[List.isPerm_iff]
    exact p1.symm.trans (by rw[h4]; exact p2)
   have h6:jw bits ms=ms.all (mkOk bits):=by
    unfold jw
    rw[h1,h5,decide_eq_true h2]
    simp
   rw[<-h6]
   exact q
abbrev j4:Stmt:=top 10
theorem Xs:FnScope ["marks", "word"] ["marks", "word"] (qi j4):=⟨rfl,rfl,rfl,by decide +kernel,rfl,by decide +kernel,by decide +kernel⟩
theorem ZK:(["marks", "word", "kind", "width", "pattern"]:List Str).Nodup:=by decide +kernel
def xo:List T->(T->Prop)->Prop:=fun ts Q=>∃(ms:List Mk3) (word:Int),ts=[.lst (ms.map vB), .int word]/\Wd ms/\ms.length<=900/\Q (Qe ((ms.filter (on word)).map (·.1)))
theorem Qz {f:Addr} {fd:FuncData} (F:Fun K "kinds_on" "kinds_on" j4 f fd):FnOk P w K mg base CX0 1 f fd ["marks", "word"] (spP xo):=by
 refine F.zP Xs (fun ts Qt h=>?_) (fun cdv A outer s H E hr=>?_)
 ·obtain⟨_,_,rfl,_⟩:=h
  rfl
 refine⟨_,(qj (qx (xb [false,true] ["kind", "width", "pattern"] (qG (K:=K) rfl (qv 0)) (fun _ _ _=>(Qk (K:=K) (i:=2) (j:=3) (k:=4) rfl ZK rfl rfl rfl rfl (Or.inl rfl) (Or.inl rfl) (Or.inl rfl) (Or.inr rfl) (Or.inr rfl) (Or.inr rfl))) (fun _ _ _=>v5 (qL Vn (qw xh (qv 1) (qw xg qe (qv 3))) (qv 4) (qQ _))) (fun _ _ _=>(qv 2))))),_,(qB (qY (qU (qd 0)) (jo 2 3 4) (qP (qu Qq (qu (zH fun _ _=>.int _) (qd 1) (qu (zH fun _ _=>.int _) (ce_c (.int _)) (qd 3))) (qd 4))) (qd 2))),fun ts Qt h=>?_⟩
 obtain⟨ms,word,rfl,hw,hl,q⟩:=h
 walk_at "u"
 refine qW (by rw[List.length_map]; exact Nat.le_of_lt (qH (by omega))) (fun i acc M'=>M'=[]/\acc=(((ms.take i).filter (on word)).map (·.1)).map T.str) ⟨rfl,rfl⟩ ?_ ?_
 ·rintro i x acc M' hx _ ⟨rfl,rfl⟩
  obtain⟨m,hm,rfl⟩:=qJ hx
  have hmw:=hw m (List.mem_of_getElem? hm)
  walk_at "u"
  refine⟨⟨by omega,by omega,by decide⟩, ?_, ?_⟩
  ·rw[Int.one_mul]; exact vy _
  rw[qk hm,List.filter_append,List.map_append,List.map_append,Int.one_mul]
  refine ite2 (fun hh=>?_) (fun hh=>?_)<;>simp[on,hh]
 ·rintro acc M' ⟨rfl,rfl⟩
  rw[List.length_map,List.take_length]
  walk_at "u"
  exact q
abbrev Ve:Stmt:=top 13
theorem scMarkOf:FnScope ["laying", "word", "kinds"] ["laying", "word"] (qi Ve):=⟨rfl,rfl,rfl,by decide +kernel,rfl,by decide +kernel,by decide +kernel⟩
def Vt (word:Int) (ms:List Mk3):T:=match ms.filter (on word) with
 | []=>.non
 |m::_=>.str m.1
def Vy:List T->(T->Prop)->Prop:=fun ts Q=>∃(bits:Int) (ms:List Mk3) (word:Int),ts=[layT bits ms, .int word]/\Wd ms/\ms.length<=900/\Q (Vt word ms)
theorem Vp {f:Addr} {fd:FuncData} (F:Fun K "mark_of" "mark_of" Ve f fd) (DKindsOn:Def P w K mg base "kinds_on" 1 ["marks", "word"] (spP xo)):FnOk P w K mg base CX0 2 f fd ["laying", "word"] (spP Vy):=by
 refine F.zP scMarkOf (fun ts Qt h=>?_) (fun cdv A outer s H E hr=>?_)
 ·obtain⟨_,_,_,rfl,_⟩:=h
  rfl
 refine⟨_,(qh (qD (i:=2) scMarkOf.nd rfl (Or.inl rfl) (qo DKindsOn (hr.mono (by first|decide|exact Nat.le_refl _)) (qa_c (qI (qK (K:=K) rfl) (qv 0) qe (fun _ _=>rfl)) (qa_c (qv 1) qf))))
  (qj (qx (qe_ifExp (xZ (K:=K) rfl (qv 2) (fun _=>rfl)) (qI (qt (K:=K) rfl) (qv 2) qe (fun _ _=>rfl)) zL)))),_,(ql (qC (qr (qc (vc (qd 0) (ce_c (.int _))) (qc (qd 1) qg))) (qm 2))
   (qB (ce_if (ct_tru (qd 2)) (vO (qd 2) (ce_c (.int _))) (ce_c .non)))),fun ts Qt h=>?_⟩
 obtain⟨bits,ms,word,rfl,hw,hl,q⟩:=h
 walk_at "u"
 refine⟨ms,word,rfl,hw,hl, ?_⟩
 unfold Vt at q
 unfold Qe
 cases e:ms.filter (on word) with
 |nil =>
  rw[e] at q
  simp only[uTru]
  walk_at "u"
  refine⟨false,rfl, ?_⟩
  walk_at "u"
  exact q
 |cons m r =>
  rw[e] at q
  simp only[uTru]
  walk_at "u"
  refine⟨true,rfl, ?_⟩
  walk_at "u"
  exact q
def minO:List Int->Option Int
 | []=>none
 |a::r=>some (match minO r with|none=>a|some b=>if b<a then b else a)
theorem jI:∀{ns:List Int} {m:Int},minO ns=some m->m∈ns/\∀a∈ns,m<=a
 | [],_,h=>by cases h
 |a::r,m,h=>by
  simp only[minO,Option.some.injEq] at h
  cases e:minO r with
  |none =>
   rw[e] at h
   cases r with
   |nil=>subst h; exact⟨.head _,fun b hb=>by rcases List.mem_cons.mp hb with rfl|hb; exact Int.le_refl _; cases hb⟩
   |cons b r=>simp[minO] at e
  |some b =>
   rw[e] at h
   obtain⟨h1,h2⟩:=jI e
   simp only at h
   split at h
   ·subst h
    refine⟨.tail _ h1,fun c hc=>?_⟩
    rcases List.mem_cons.mp hc with rfl|hc
    ·omega
    ·exact h2 c hc
   ·subst h
    refine⟨.head _,fun c hc=>?_⟩
    rcases List.mem_cons.mp hc with rfl|hc
    ·omega
    ·have:=h2 c hc
     omega
theorem minO_is {ns:List Int} {m:Int} (h:m∈ns) (hm:∀a∈ns,m<=a):minO ns=some m:=by
 cases ns with
 |nil=>cases h
 |cons a r =>
  obtain⟨b,hb⟩:∃b,minO (a::r)=some b:=⟨_,rfl⟩
  obtain⟨h1,h2⟩:=jI hb
  have:=h2 m h
  have:=hm b h1
  rw[hb,show b=m by omega]
def zX (ms:List Mk3):List Int:=(ms.filter fun m=>decide (1<(ms.filter (on m.2.2)).length)).map (·.2.2)
def optT:Option Int->T
 |none=>.non
 |some i=>.int i
abbrev zi:Stmt:=top 11
theorem scLeastDouble:FnScope ["marks", "doubles"] ["marks"] (qi zi):=⟨rfl,rfl,rfl,by decide +kernel,rfl,by decide +kernel,by decide +kernel⟩
theorem ju:(["marks", "doubles", "kind", "width", "pattern"]:List Str).Nodup:=by decide +kernel
def Jw:List T->(T->Prop)->Prop:=fun ts Q=>∃ms:List Mk3,ts=[.lst (ms.map vB)]/\Wd ms/\ms.length<=900/\Q (optT (minO (zX ms)))
theorem ok_least {f:Addr} {fd:FuncData} (F:Fun K "least_double" "least_double" zi f fd) (N:Nms mg) (DKindsOn:Def P w K mg base "kinds_on" 1 ["marks", "word"] (spP xo)):FnOk P w K mg base CX0 2 f fd ["marks"] (spP Jw):=by
 refine F.zP scLeastDouble (fun ts Qt h=>?_) (fun cdv A outer s H E hr=>?_)
 ·obtain⟨_,rfl,_⟩:=h
  rfl
 refine⟨_,(qh (XB (i:=1) [true,false] ["kind", "width", "pattern"] scLeastDouble.nd rfl rfl (qG (K:=K) rfl (qv 0)) (fun _ _ _=>(Qk (K:=K) (i:=2) (j:=3) (k:=4) rfl ju rfl rfl rfl rfl (Or.inl rfl) (Or.inl rfl) (Or.inl rfl) (Or.inr rfl) (Or.inr rfl) (Or.inr rfl))) (fun _ _ _=>v5 (qL op_gt (va vY (by rfl) N.len VG (qa_c (qo DKindsOn (hr.mono (by first|decide|exact Nat.le_refl _)) (qa_c (qv 0) (qa_c (qv 4) qf))) qf)) qe (qQ _))) (fun _ _ _=>(qv 4)))
  (qj (qx (qe_minD (K:=K) rfl rfl (by rfl) N.min b_min (qv 1) zL)))),_,(ql (qC (qY (qU (qd 0)) (jo 2 3 4) (qP (qu (qA fun _ _=>.bl _) (Q2 (qc (qr (qc (qd 0) (qc (qd 4) qg))) qg)) (ce_c (.int _)))) (qd 4)) (qm 1))
   (qB (jx cbl_minD (qc (qd 1) (qc (ce_c .non) qg))))),fun ts Qt h=>?_⟩
 obtain⟨ms,rfl,hw,hl,q⟩:=h
 walk_at "v"
 refine qW (by rw[List.length_map]; exact Nat.le_of_lt (qH (by omega))) (fun i acc M'=>M'=[]/\acc=(((ms.take i).filter fun m=>decide (1<(ms.filter (on m.2.2)).length)).map (·.2.2)).map T.int) ⟨rfl,rfl⟩ ?_ ?_
 ·rintro i x acc M' hx _ ⟨rfl,rfl⟩
  obtain⟨m,hm,rfl⟩:=qJ hx
  walk_at "v"
  refine⟨ms,m.2.2,rfl,hw,hl, ?_⟩
  unfold Qe
  walk_at "v"
  rw[List.length_map,List.length_map,qk hm,List.filter_append,List.map_append,List.map_append]
  refine ite2 (fun hh=>?_) (fun hh=>?_)
  ·have hh:1<(ms.filter (on m.2.2)).length:=by omega
   simp[hh]
  ·have hh:¬1<(ms.filter (on m.2.2)).length:=by omega
   simp[hh]
 ·rintro acc M' ⟨rfl,rfl⟩
  rw[List.length_map,List.take_length]
  walk_at "v"
  refine⟨_,rfl,fun e=>?_,fun M hM hall=>?_⟩
  ·have:zX ms=[]:=e
   rw[this] at q
   exact q
  ·rw[minO_is (ns:=zX ms) hM hall] at q
   exact q
def fewK (bits:Int) (ms:List Mk3):Option Mk3:=ms.find? fun m=>decide (bits-m.2.1<need m.1)
def QY (bits:Int) (ms:List Mk3):T:=if jw bits ms=true then(match minO (zX ms) with
 |some M=>.tup [.str "two", .int M]
 |none=>match fewK bits ms with
  |some m=>.tup [.str "few", .str m.1]
  |none=>.non) else .tup [.str "form", .non]
structure FormP (bits:Int) (ms:List Mk3):Prop where
 b:8<=bits/\bits<=32
 n:ms.length=5
 k:(ms.map (·.1)).Perm fiveK
 m:∀m∈ms,(1<=m.2.1/\m.2.1<=bits-1)/\0<=m.2.2/\m.2.2<2^m.2.1.toNat
theorem form_iff {bits:Int} {ms:List Mk3}:jw bits ms=true↔FormP bits ms:=by
 unfold jw
 simp only[Bool.and_eq_true,decide_eq_true_eq,List.isPerm_iff,List.all_eq_true,mkOk]
 exact⟨fun⟨a,b,c,d⟩=>⟨a,b,c,d⟩,fun h=>⟨h.b,h.n,h.k,h.m⟩⟩
theorem FormP.wd {bits:Int} {ms:List Mk3} (h:FormP bits ms):Wd ms:=fun m hm=>by
 have:=h.m m hm
 have:=h.b
 omega
theorem FormP.kd {bits:Int} {ms:List Mk3} (h:FormP bits ms) {m:Mk3} (hm:m∈ms):m.1∈fiveK:=h.k.mem_iff.mp (List.mem_map_of_mem hm)
abbrev zj:Stmt:=top 12
theorem scLayingFault:FnScope ["laying", "bits", "marks", "double", "kind", "width", "pattern"] ["laying"] (qi zj):=⟨rfl,rfl,rfl,by decide +kernel,rfl,by decide +kernel,by decide +kernel⟩
def Jx:List T->(T->Prop)->Prop:=fun ts Q=>∃(bits:Int) (ms:List Mk3),ts=[layT bits ms]/\Q (QY bits ms)
theorem ok_fault {f:Addr} {fd:FuncData} (F:Fun K "laying_fault" "laying_fault" zj f fd) (DHasForm:Def P w K mg base "has_form" 3 ["laying"] (spP kK)) (DLeastDouble:Def P w K mg base "least_double" 2 ["marks"] (spP Jw)) (DLoadGoes:Def P w K mg base "load_goes" 1 ["bits", "kind", "width"] (spP xn)):FnOk P w K mg base CX0 4 f fd ["laying"] (spP Jx):=by
 refine F.zP scLayingFault (fun ts Qt h=>?_) (fun cdv A outer s H E hr=>?_)
 ·obtain⟨_,_,rfl,_⟩:=h
  rfl
 refine⟨_,(qh (zd (zn (zK (qo DHasForm (hr.mono (by first|decide|exact Nat.le_refl _)) (qa_c (qv 0) qf))))
   (qj (qx (qR (qa_c ve (qa_c zL qf)))))
   vd)
  (qh (qD (i:=1) scLayingFault.nd rfl (Or.inl rfl) (qI (qK (K:=K) rfl) (qv 0) qe (fun _ _=>rfl)))
  (qh (qD (i:=2) scLayingFault.nd rfl (Or.inl rfl) (qI (qK (K:=K) rfl) (qv 0) qe (fun _ _=>rfl)))
  (qh (qD (i:=3) scLayingFault.nd rfl (Or.inl rfl) (qo DLeastDouble (hr.mono (by first|decide|exact Nat.le_refl _)) (qa_c (qv 2) qf)))
  (qh (zd (qL Vl (qv 3) zL (qQ _))
   (qj (qx (qR (qa_c ve (qa_c (qv 3) qf)))))
   vd)
  (qh (v8 PassesOwn.never rfl (qG (K:=K) rfl (qv 2)) (Qk (K:=K) (i:=4) (j:=5) (k:=6) rfl scLayingFault.nd rfl rfl rfl rfl (Or.inl rfl) (Or.inl rfl) (Or.inl rfl) (Or.inl rfl) (Or.inl rfl) (Or.inl rfl))
   (qj (zd (zn (zK (qo DLoadGoes (hr.mono (by first|decide|exact Nat.le_refl _)) (qa_c (qv 1) (qa_c (qv 4) (qa_c (qv 5) qf))))))
    (qj (qx (qR (qa_c ve (qa_c (qv 4) qf)))))
    vd)))
  (qj (qx zL)))))))),_,(ql (zI (zr (ct_b (qr (qc (qd 0) qg))))
   (qB (qT (qc (ce_c (.str _)) (qc (ce_c .non) qg))))
   vj)
   (ql (qC (vc (qd 0) (ce_c (.int _))) (qm 1))
   (ql (qC (vc (qd 0) (ce_c (.int _))) (qm 2))
   (ql (qC (qr (qc (qd 2) qg)) (qm 3))
   (ql (zI (qP (VF (qd 3)))
   (qB (qT (qc (ce_c (.str _)) (qc (qd 3) qg))))
   vj)
   (ql (zu (qU (qd 2)) (Ze 4 5 6)
   (zI (zr (ct_b (qr (qc (qd 1) (qc (qd 4) (qc (qd 5) qg))))))
   (qB (qT (qc (ce_c (.str _)) (qc (qd 4) qg))))
   vj))
   (qB (ce_c .non)))))))),fun ts Qt h=>?_⟩
 obtain⟨bits,ms,rfl,q⟩:=h
 walk_at "v"
 refine⟨bits,ms,rfl,_,rfl, ?_⟩
 unfold QY at q
 refine ite2 (fun h=>?_) (fun h=>?_)
 ·rw[Bool.not_eq_true'] at h
  rw[h] at q
  exact q
 rw[Bool.not_eq_true',Bool.not_eq_false] at h
 rw[if_pos h] at q
 have fp:=form_iff.mp h
 have hn:=fp.n
 walk_at "v"
 refine⟨ms,rfl,fp.wd,by omega, ?_⟩
 cases e:minO (zX ms) with
 |some M =>
  rw[e] at q
  simp only[optT]
  walk_at "v"
  exact q
 |none =>
  rw[e] at q
  simp only[optT]
  simp only at q
  walk_at "v"
  refine ze (fun i ρ M=>(∃x y z,ρ=[some (.p (layT bits ms)),some (.p (.int bits)),some (.p (.lst (ms.map vB))),some (.p .non),x,y,z])/\M=[]/\∀m∈ms.take i,¬bits-m.2.1<need m.1) ⟨⟨none,none,none,rfl⟩,rfl,by simp⟩ ?_ ?_
  ·rintro i x ρ M hx ⟨⟨x1,x2,x3,rfl⟩,rfl,hall⟩
   obtain⟨m,hm,rfl⟩:=qJ hx
   walk_at "v"
   refine⟨bits,m.1,m.2.1,rfl,fp.kd (List.mem_of_getElem? hm),_,rfl, ?_⟩
   refine ite2 (fun h=>?_) (fun h=>?_)
   ·have h5:bits-m.2.1<need m.1:=by
     have:¬need m.1<=bits-m.2.1:=by simpa using h
     omega
    have h6:fewK bits ms=some m:=by
     unfold fewK
     obtain⟨hi,hmi⟩:=List.getElem?_eq_some_iff.mp hm
     rw[List.find?_eq_some_iff_getElem]
     refine⟨by simpa using h5,i,hi,hmi,fun j hj=>?_⟩
     have:=hall (ms[j]'(by omega)) (List.mem_take_iff_getElem.mpr ⟨j,by omega,rfl⟩)
     simpa using this
    rw[h6] at q
    exact q
   ·have h5:¬bits-m.2.1<need m.1:=by
     have:need m.1<=bits-m.2.1:=by simpa using h
     omega
    refine⟨⟨_,_,_,rfl⟩,fun m' hm'=>?_⟩
    rw[qk hm] at hm'
    rcases List.mem_append.mp hm' with hm'|hm'
    ·exact hall m' hm'
    ·rw[List.mem_singleton.mp hm']
     exact h5
  ·rintro ρ M ⟨⟨x1,x2,x3,rfl⟩,rfl,hall⟩
   rw[List.length_map,List.take_length] at hall
   have h6:fewK bits ms=none:=by
    unfold fewK
    rw[List.find?_eq_none]
    exact fun m hm=>by simpa using hall m hm
   rw[h6] at q
   walk_at "v"
   exact q
abbrev Xu:Stmt:=top 31
theorem scKinds:FnScope [] [] (qi Xu):=⟨rfl,rfl,rfl,by decide +kernel,rfl,by decide +kernel,by decide +kernel⟩
def QU:List U->MM->UK->Prop:=fun us M Q=>us=[]/\Q (.m M.length) (M++[.lst ((fiveK.map T.str).map U.p)])
theorem XX {f:Addr} {fd:FuncData} (F:Fun K "_law_kinds" "_law_kinds" Xu f fd):FnOk P w K mg base CX0 1 f fd [] (spU QU):=by
 refine F.zU scKinds (fun us M Qu h=>?_) (fun cdv A outer s H E hr=>?_)
 ·obtain⟨rfl,_⟩:=h
  rfl
 refine⟨_,(qj (qx (qV (qa_c ve (qa_c ve (qa_c ve (qa_c ve (qa_c ve qf)))))))),_,(qB (jp (qc (ce_c (.str _)) (qc (ce_c (.str _)) (qc (ce_c (.str _)) (qc (ce_c (.str _)) (qc (ce_c (.str _)) qg))))))),fun us M Qu h=>?_⟩
 obtain⟨rfl,q⟩:=h
 walk_at "v"
 exact q
theorem Xg {ρ:UEnv} {M:MM} {ug:U->UEnv->MM->(UEnv->MM->Prop)->Prop} {E:UEnds} {ns:List Str} {ss:List T} {ub:US} {y:U} (Iv:Nat->UEnv->MM->Prop) (h0:Iv 0 ρ M) (hok:∀i ρ2 M2,Iv i ρ2 M2->qF M2 y=some (ss.map U.p))
  (hs:∀i n t ρ2 M2,ns[i]?=some n->ss[i]?=some t->Iv i ρ2 M2->ug (.p (.tup [.str n,t])) ρ2 M2 fun ρ3 M3=>ub { E with nx:=Iv (i+1),ct:=Iv (i+1),bk:=E.nx } ρ3 M3) (hd:∀ρ2 M2,Iv (min ns.length ss.length) ρ2 M2->E.nx ρ2 M2):UFor (itZK y ns ss) ug ub E ρ M:=by
 refine⟨Iv,h0,fun i ρ2 M2 hi h=>⟨hok i ρ2 M2 h,fun u hu=>?_⟩,fun ρ2 M2 h=>⟨hok _ ρ2 M2 h,hd ρ2 M2 h⟩⟩
 obtain⟨n,t,h1,h2,rfl⟩:=hu
 exact hs i n t ρ2 M2 h1 h2 h
def sumW (bits:Int) (ws:List Int):Int:=(ws.map fun w=>(2:Int)^(bits-w).toNat).sum
abbrev jW:Stmt:=top 18
theorem Xp:FnScope ["bits", "widths"] ["bits", "widths"] (qi jW):=⟨rfl,rfl,rfl,by decide +kernel,rfl,by decide +kernel,by decide +kernel⟩
theorem ZD:(["bits", "widths", "width"]:List Str).Nodup:=by decide +kernel
def kD:List T->(T->Prop)->Prop:=fun ts Q=>∃(bits:Int) (ws:List Int),ts=[.int bits, .lst (ws.map T.int)]/\0<=bits/\bits<=32/\ws.length=5/\(∀w∈ws,0<=w/\w<=bits)/\Q (.bl (decide (sumW bits ws<=2^bits.toNat)))
theorem Zv {f:Addr} {fd:FuncData} (F:Fun K "words_go" "words_go" jW f fd) (N:Nms mg):FnOk P w K mg base CX0 1 f fd ["bits", "widths"] (spP kD):=by
 refine F.zP Xp (fun ts Qt h=>?_) (fun cdv A outer s H E hr=>?_)
 ·obtain⟨_,_,rfl,_⟩:=h
  rfl
 refine⟨_,(qj (qx (jb Vm (va (jr (K:=K) rfl rfl) (by rfl) N.sum b_sum (qa_c (xb [true,false] ["width"] (qG (K:=K) rfl (qv 1)) (fun _ _ _=>(qO (i:=2) ZD rfl (Or.inl rfl))) (fun _ _ _=>vP) (fun _ _ _=>(qw xg qe (qw za (qv 0) (qv 2))))) qf)) (qw xg qe (qv 0)) (qQ _)))),_,(qB (qu (qA fun _ _=>.bl _) (jx kS (qc (qY (qU (qd 1)) (vg 2) xp (qu (zH fun _ _=>.int _) (ce_c (.int _)) (qu (qA fun _ _=>.int _) (qd 0) (qd 2)))) qg)) (qu (zH fun _ _=>.int _) (ce_c (.int _)) (qd 0)))),fun ts Qt h=>?_⟩
 obtain⟨bits,ws,rfl,h0,h32,h5,hw,q⟩:=h
 walk_at "v"
 refine qW (by rw[List.length_map,h5]; decide) (fun i acc M'=>M'=[]/\acc=((ws.take i).map fun w=>(2:Int)^(bits-w).toNat).map T.int) ⟨rfl,rfl⟩ ?_ ?_
 ·rintro i x acc M' hx _ ⟨rfl,rfl⟩
  obtain⟨w',hm,rfl⟩:=qJ hx
  have hww:=hw w' (List.mem_of_getElem? hm)
  walk_at "v"
  refine⟨⟨by omega,by omega,by decide⟩, ?_⟩
  rw[qk hm,List.map_append,List.map_append,Int.one_mul]
  rfl
 ·rintro acc M' ⟨rfl,rfl⟩
  rw[List.length_map,List.take_length]
  walk_at "v"
  refine⟨_,rfl,⟨by omega,by omega,by decide⟩,_,_,rfl,rfl, ?_⟩
  rw[Int.one_mul]
  exact q
def okW (bits:Int) (p:Str×Int):Bool:=(decide (1<=p.2)&&decide (p.2<=bits-1))&&decide (need p.1<=bits-p.2)
def goB (bits:Int) (ws:List Int):Bool:=((decide (8<=bits)&&decide (bits<=32))&&(fiveK.zip ws).all (okW bits))&&decide (sumW bits ws<=2^bits.toNat)
abbrev xV:Stmt:=top 19
theorem scWidthsGo:FnScope ["bits", "widths", "kind", "width"] ["bits", "widths"] (qi xV):=⟨rfl,rfl,rfl,by decide +kernel,rfl,by decide +kernel,by decide +kernel⟩
def xl:List T->(T->Prop)->Prop:=fun ts Q=>∃(bits:Int) (ws:List Int),ts=[.int bits, .lst (ws.map T.int)]/\ws.length=5/\Q (.bl (goB bits ws))
theorem Vo {kindsA:Addr} {f:Addr} {fd:FuncData} (F:Fun K "widths_go" "widths_go" xV f fd) (N:Nms mg) (TKinds:Tup5 K mg "KINDS" kindsA "small" "far" "pair" "sign" "one") (DBitsGo:Def P w K mg base "bits_go" 1 ["bits"] (spP kM)) (DWidthGoes:Def P w K mg base "width_goes" 1 ["bits", "width"] (spP zD)) (DLoadGoes:Def P w K mg base "load_goes" 1 ["bits", "kind", "width"] (spP xn)) (DWordsGo:Def P w K mg base "words_go" 1 ["bits", "widths"] (spP kD)):FnOk P w K mg base CX0 2 f fd ["bits", "widths"] (spP xl):=by
 refine F.zP scWidthsGo (fun ts Qt h=>?_) (fun cdv A outer s H E hr=>?_)
 ·obtain⟨_,_,rfl,_⟩:=h
  rfl
 refine⟨_,(qh (zd (zn (zK (qo DBitsGo (hr.mono (by first|decide|exact Nat.le_refl _)) (qa_c (qv 0) qf))))
   (qj (qx xG))
   vd)
  (qh (v8 PassesOwn.never rfl (XC (b1:=false) (b2:=true) (K:=K) rfl rfl N.zip (qa_c (ja (v:=.ref kindsA) rfl TKinds.mg rfl) (qa_c (qv 1) qf))) (Ql (K:=K) (i:=2) (j:=3) rfl scWidthsGo.nd rfl rfl rfl (Or.inl rfl) (Or.inl rfl) (Or.inl rfl) (Or.inl rfl))
   (qj (zd (Vi (Zq (zn (zK (qo DWidthGoes (hr.mono (by first|decide|exact Nat.le_refl _)) (qa_c (qv 0) (qa_c (qv 3) qf))))) (jB (zn (zK (qo DLoadGoes (hr.mono (by first|decide|exact Nat.le_refl _)) (qa_c (qv 0) (qa_c (qv 2) (qa_c (qv 3) qf)))))))))
    (qj (qx xG))
    vd)))
  (qj (qx (qo DWordsGo (hr.mono (by first|decide|exact Nat.le_refl _)) (qa_c (qv 0) (qa_c (qv 1) qf))))))),_,(ql (zI (zr (ct_b (qr (qc (qd 0) qg))))
   (qB (ce_c (.bl _)))
   vj)
   (ql (zu (ci_zipK (ns:=fiveK) TKinds.kt (qd 1)) (kQ 2 3)
   (zI (Z4 (zr (ct_b (qr (qc (qd 0) (qc (qd 3) qg))))) (zr (ct_b (qr (qc (qd 0) (qc (qd 2) (qc (qd 3) qg)))))))
   (qB (ce_c (.bl _)))
   vj))
   (qB (qr (qc (qd 0) (qc (qd 1) qg)))))),fun ts Qt h=>?_⟩
 obtain⟨bits,ws,rfl,h5,q⟩:=h
 walk_at "v"
 refine⟨bits,rfl, ?_⟩
 walk_at "v"
 refine ite2 (fun hb=>?_) (fun hb=>?_)
 ·have:goB bits ws=false:=by
   unfold goB
   cases hh:(decide (8<=bits)&&decide (bits<=32)) with
   |true=>rw[hh] at hb; cases hb
   |false=>rfl
  rw[this] at q
  exact q
 have hb:(decide (8<=bits)&&decide (bits<=32))=true:=by
  cases hh:(decide (8<=bits)&&decide (bits<=32)) with
  |true=>rfl
  |false=>rw[hh] at hb; exact absurd rfl hb
 have hbb:8<=bits/\bits<=32:=by simpa using hb
 refine useq ?_
 simp only[uFor,uZipK]
 walk_at "v"
 refine⟨ws.map T.int,rfl, ?_⟩
 refine Xg (fun i ρ M=>(∃x y,ρ=[some (.p (.int bits)),some (.p (.lst (ws.map T.int))),x,y])/\M=[]/\((fiveK.zip ws).take i).all (okW bits)=true) ⟨⟨none,none,rfl⟩,rfl,rfl⟩ (fun i ρ2 M2 h=>rfl) ?_ ?_
 ·rintro i n x ρ M hn hx ⟨⟨x1,x2,rfl⟩,rfl,hall⟩
  obtain⟨v,hm,rfl⟩:=qJ hx
  have hz:(fiveK.zip ws)[i]?=some (n,v):=by rw[List.getElem?_zip_eq_some]; exact⟨hn,hm⟩
  have hn5:n∈fiveK:=List.mem_of_getElem? hn
  walk_at "v"
  have no:okW bits (n,v)=false->Qt (.bl false):=fun h=>by
   have:goB bits ws=false:=by
    unfold goB
    rw[show(fiveK.zip ws).all (okW bits)=false from by
     rw[List.all_eq_false]
     exact⟨_,List.mem_of_getElem? hz,by rw[h]; decide⟩]
    simp
   rw[this] at q
   exact q
  refine⟨bits,v,rfl,_,rfl, ?_⟩
  refine ite2 (fun h1=>no ?_) (fun h1=>?_)
  ·unfold okW
   cases hh:(decide (1<=v)&&decide (v<=bits-1)) with
   |true=>rw[hh] at h1; cases h1
   |false=>simp[hh]
  have h1:(decide (1<=v)&&decide (v<=bits-1))=true:=by
   cases hh:(decide (1<=v)&&decide (v<=bits-1)) with
   |true=>rfl
   |false=>rw[hh] at h1; exact absurd rfl h1
  refine⟨bits,n,v,rfl,hn5,_,rfl, ?_⟩
  refine ite2 (fun h2=>no ?_) (fun h2=>?_)
  ·unfold okW
   cases hh:decide (need n<=bits-v) with
   |true=>rw[hh] at h2; cases h2
   |false=>simp[hh]
  have h2:decide (need n<=bits-v)=true:=by
   cases hh:decide (need n<=bits-v) with
   |true=>rfl
   |false=>rw[hh] at h2; exact absurd rfl h2
  refine⟨⟨_,_,rfl⟩, ?_⟩
  rw[qk hz,List.all_append,hall]
  simp only[List.all_cons,List.all_nil,Bool.and_true,Bool.true_and]
  unfold okW
  rw[h1,h2]
  rfl
 ·rintro ρ M ⟨⟨x1,x2,rfl⟩,rfl,hall⟩
  have hl:(fiveK.zip ws).length=min fiveK.length (ws.map T.int).length:=by rw[List.length_zip,List.length_map]
  rw[<-hl,List.take_length] at hall
  walk_at "v"
  refine⟨bits,ws,rfl,by omega,by omega,h5,fun v hv=>?_, ?_⟩
  ·obtain⟨i,hi⟩:=List.getElem?_of_mem hv
   have hil:=(List.getElem?_eq_some_iff.mp hi).1
   have hk:fiveK[i]?=some (fiveK[i]'(by show i<5; omega)):=List.getElem?_eq_getElem _
   have hz:(fiveK.zip ws)[i]?=some (fiveK[i]'(by show i<5; omega),v):=by rw[List.getElem?_zip_eq_some]; exact⟨hk,hi⟩
   have:=List.all_eq_true.mp hall _ (List.mem_of_getElem? hz)
   simp only[okW,Bool.and_eq_true,decide_eq_true_eq] at this
   omega
  ·have:goB bits ws=decide (sumW bits ws<=2^bits.toNat):=by
    unfold goB
    rw[hb,hall]
    rfl
   rw[this] at q
   exact q
theorem xT {α:Type} (f:α->Nat) (p:α->Bool):∀l:List α,(l.map f).sum=((l.filter p).map f).sum+((l.filter fun x => !p x).map f).sum
 | []=>rfl
 |a::l=>by
  have ih:=xT f p l
  cases h:p a
  ·rw[List.filter_cons_of_neg (by simp[h]),List.filter_cons_of_pos (by simp[h])]
   simp only[List.map_cons,List.sum_cons]
   omega
  ·rw[List.filter_cons_of_pos h,List.filter_cons_of_neg (by simp[h])]
   simp only[List.map_cons,List.sum_cons]
   omega
theorem jT {α:Type} (f:α->Nat):∀{l:List α} {a:α},a∈l->f a<=(l.map f).sum
 |_::_,_, .head _=>by simp only[List.map_cons,List.sum_cons]; omega
 |_::l,_, .tail _ h=>by have:=jT f h; simp only[List.map_cons,List.sum_cons]; omega
theorem uncov:∀(w:Nat) (l:List (Nat×Nat)),(∀m∈l,m.1<=w)->(l.map fun m=>2^(w-m.1)).sum<2^w->∃x,x<2^w/\∀m∈l,x % 2^m.1≠m.2
 |0,l,_,hs=>by
  refine⟨0,by decide,fun m hm=>?_⟩
  have:=jT (fun m:Nat×Nat=>2^(0-m.1)) hm
  have h1:0<2^(0-m.1):=Nat.two_pow_pos _
  have h2:(l.map fun m:Nat×Nat=>2^(0-m.1)).sum<1:=hs
  omega
 |w+1,l,hw,hs=>by
  have pos:∀m∈l,1<=m.1:=fun m hm=>by
   have:=jT (fun m:Nat×Nat=>2^(w+1-m.1)) hm
   by_cases h:m.1=0
   ·rw[h] at this
    have h2:2^(w+1-0)<=(l.map fun m:Nat×Nat=>2^(w+1-m.1)).sum:=this
    rw[Nat.sub_zero] at h2
    omega
   ·omega
  have half:∀b,b<2->((l.filter fun m=>m.2 % 2==b).map fun m=>2^(w+1-m.1)).sum<2^w->∃x,x<2^(w+1)/\∀m∈l,x % 2^m.1≠m.2:=fun b hb h=>by
   have e:(((l.filter fun m=>m.2 % 2==b).map fun m=>(m.1-1,m.2 / 2)).map fun m=>2^(w-m.1)).sum=((l.filter fun m=>m.2 % 2==b).map fun m=>2^(w+1-m.1)).sum:=by
    rw[List.map_map]
    congr 1
    refine List.map_congr_left fun m hm=>?_
    have:=pos m ((List.mem_filter.mp hm).1)
    have:=hw m ((List.mem_filter.mp hm).1)
    show 2^(w-(m.1-1))=_
    congr 1
    omega
   obtain⟨x,hx,hm⟩:=uncov w ((l.filter fun m=>m.2 % 2==b).map fun m=>(m.1-1,m.2 / 2)) (fun m hm=>by
    obtain⟨m',h1,rfl⟩:=List.mem_map.mp hm
    have:=hw m' ((List.mem_filter.mp h1).1)
    show m'.1-1<=w
    omega) (by rw[e]; exact h)
   refine⟨2*x+b,by rw[Nat.pow_succ]; omega,fun m hml e2=>?_⟩
   obtain⟨k,hk⟩:∃k,m.1=k+1:=⟨m.1-1,by have:=pos m hml; omega⟩
   rw[hk,Nat.pow_succ,Nat.mul_comm (2^k) 2,Nat.mod_mul] at e2
   have e3:(2*x+b) / 2=x:=by omega
   have e4:(2*x+b) % 2=b:=by omega
   rw[e3,e4] at e2
   refine hm (k,m.2 / 2) (List.mem_map.mpr ⟨m,List.mem_filter.mpr ⟨hml, ?_⟩,by rw[hk]; rfl⟩) ?_
   ·rw[beq_iff_eq]; omega
   ·show x % 2^k=m.2 / 2
    omega
  have sp:=xT (fun m:Nat×Nat=>2^(w+1-m.1)) (fun m=>m.2 % 2==0) l
  have e1:(l.filter fun m => !(m.2 % 2==0))=l.filter fun m=>m.2 % 2==1:=List.filter_congr fun m _=>by
   have:m.2 % 2=0\/m.2 % 2=1:=by omega
   rcases this with h|h<;>simp[h]
  rw[e1] at sp
  rw[sp,Nat.pow_succ] at hs
  by_cases h0:((l.filter fun m=>m.2 % 2==0).map fun m=>2^(w+1-m.1)).sum<2^w
  ·exact half 0 (by decide) h0
  ·exact half 1 (by decide) (by omega)
def LeastP (ms:List Mk3):Prop:=∀(i:Nat) m,ms[i]?=some m->0<=m.2.2/\(∀m'∈ms.take i,on m.2.2 m'=false)/\∀p:Int,0<=p->p<m.2.2->∃m'∈ms.take i,on p m'=true
def MadeM (ws:List Int) (ms:List Mk3):Prop:=(ms.map fun m=>(m.1,m.2.1)).Perm (fiveK.zip ws)/\(ms.Pairwise fun a b=>a.2.1<=b.2.1)/\LeastP ms
def vX:Pos:=⟨64,54,64,78⟩
def lamQ:Str:=Str.ofString "made" ++ ".<locals>." ++ "<lambda>"
theorem trim_app {M L:MM}:vZ M (M++L):=fun i o hi e=>.inl (by rw[List.getElem?_append_left hi] at e; exact e)
theorem Ji {bits:Int} {ws:List Int} {ms:List Mk3} {n:Str} {v:Int} {l:List (Str×Int)} (hb:8<=bits/\bits<=32) (hw:∀p∈fiveK.zip ws,1<=p.2/\p.2<=bits-1) (hl:l.Perm (fiveK.zip ws)) (h5:ws.length=5) (hs:sumW bits ws<=2^bits.toNat) {i:Nat} (hi:l[i]?=some (n,v)) (hm:(ms.map fun m=>(m.1,m.2.1))=l.take i) :
  ∃x:Int,0<=x/\x<2^bits.toNat/\∀m∈ms,on x m=false:=by
 have hsw:sumW bits ws=(((l.map fun p:Str×Int=>2^(bits-p.2).toNat).sum:Nat):Int):=by
  have e1:((l.map fun p:Str×Int=>2^(bits-p.2).toNat).sum)=(((fiveK.zip ws).map fun p:Str×Int=>2^(bits-p.2).toNat).sum):=(hl.map _).sum_nat
  rw[e1]
  unfold sumW
  have e2:ws=(fiveK.zip ws).map (·.2):=by
   rw[List.map_snd_zip]
   rw[h5]; decide
  conv=>lhs; rw[e2]
  rw[List.map_map]
  generalize fiveK.zip ws=q
  induction q with
  |nil=>rfl
  |cons a q ih =>
   simp only[List.map_cons,List.sum_cons,Function.comp_apply]
   rw[ih]
   push_cast
   rfl
 have hsp:((l.take i).map fun p:Str×Int=>2^(bits-p.2).toNat).sum<2^bits.toNat:=by
  have e:(l.map fun p:Str×Int=>2^(bits-p.2).toNat).sum=((l.take i).map fun p:Str×Int=>2^(bits-p.2).toNat).sum+((l.drop i).map fun p:Str×Int=>2^(bits-p.2).toNat).sum:=by
   conv=>lhs; rw[<-List.take_append_drop i l]
   rw[List.map_append,List.sum_append]
  have hm2:(n,v)∈l.drop i:=List.mem_of_getElem? (i:=0) (by rw[List.getElem?_drop]; simpa using hi)
  have:=jT (fun p:Str×Int=>2^(bits-p.2).toNat) hm2
  have hp:0<2^(bits-(n,v).2).toNat:=Nat.two_pow_pos _
  rw[hsw] at hs
  have hs2:(l.map fun p:Str×Int=>2^(bits-p.2).toNat).sum<=2^bits.toNat:=by exact_mod_cast hs
  omega
 have wd:∀m∈ms,1<=m.2.1/\m.2.1<=bits-1:=fun m hmm=>by
  have:(m.1,m.2.1)∈l.take i:=hm▸List.mem_map_of_mem (f:=fun m:Mk3=>(m.1,m.2.1)) hmm
  exact hw _ (hl.subset (List.mem_of_mem_take this))
 obtain⟨x,hx,hu⟩:=uncov bits.toNat (ms.map fun m=>(m.2.1.toNat,m.2.2.toNat)) (fun m hmm=>by
  obtain⟨m',h1,rfl⟩:=List.mem_map.mp hmm
  have:=wd m' h1
  show m'.2.1.toNat<=bits.toNat
  omega) (by
  rw[List.map_map]
  have e:(ms.map ((fun m:Nat×Nat=>2^(bits.toNat-m.1)) ∘ fun m:Mk3=>(m.2.1.toNat,m.2.2.toNat)))=(l.take i).map fun p:Str×Int=>2^(bits-p.2).toNat:=by
   rw[<-hm,List.map_map]
   refine List.map_congr_left fun m hmm=>?_
   have:=wd m hmm
   show 2^(bits.toNat-m.2.1.toNat)=2^(bits-m.2.1).toNat
   congr 1
   omega
  rw[e]; exact hsp)
 refine⟨x,by omega,by exact_mod_cast hx,fun m hmm=>?_⟩
 have h1:=hu (m.2.1.toNat,m.2.2.toNat) (List.mem_map_of_mem (f:=fun m:Mk3=>(m.2.1.toNat,m.2.2.toNat)) hmm)
 unfold on
 refine decide_eq_false fun e=>h1 ?_
 show x % 2^m.2.1.toNat=m.2.2.toNat
 rw[<-e]
 have:((x % 2^m.2.1.toNat:Nat):Int)=(x:Int) % 2^m.2.1.toNat:=by push_cast; rfl
 omega
theorem ity {c:Bool} {a b:Prop} (h:c=true) (q:a):if c=true then a else b:=by rw[if_pos h]; exact q
theorem itn {c:Bool} {a b:Prop} (h:c=false) (q:b):if c=true then a else b:=by rw[if_neg (by rw[h]; decide)]; exact q
abbrev sMade:Stmt:=top 20
theorem scMade:FnScope ["bits", "widths", "marks", "kind", "width", "pattern"] ["bits", "widths"] (qi sMade):=⟨rfl,rfl,rfl,by decide +kernel,rfl,by decide +kernel,by decide +kernel⟩
def Z1 (tb:Addr):List U->MM->UK->Prop:=fun us M Q=>∃(bits:Int) (ws:List Int) (k:Nat),us=[.p (.int bits), .p (.lst (ws.map T.int))]/\ws.length=5/\M[k]?=some (.tab tb vX lamQ)/\(goB bits ws=false->Q (.p .non) M)/\(goB bits ws=true->∀ms,MadeM ws ms->Q (.p (layT bits ms)) M)
theorem ok_made {kindsA c tb:Addr} {f:Addr} {fd:FuncData} (F:Fun K "made" "made" sMade f fd) (N:Nms mg) (TKinds:Tup5 K mg "KINDS" kindsA "small" "far" "pair" "sign" "one") (hcode:fd.code=.ref c) (hC:PySem.W.CodeHd base c tb) (hB:base.BuiltinsAt mg tb) (DKindsOn:Def P w K mg base "kinds_on" 1 ["marks", "word"] (spP xo)) (DWidthsGo:Def P w K mg base "widths_go" 2 ["bits", "widths"] (spP xl)):FnOk P w K mg base CX0 3 f fd ["bits", "widths"] (spU (Z1 tb)):=by
 refine F.zVC scMade (fun us M Qu h=>?_) (fun cdv A outer s H E hcv hr=>?_)
 ·obtain⟨_,_,_,rfl,_⟩:=h
  rfl
 have hcv:cdv=.ref c:=hcv.symm.trans hcode
 have LAM:LamC (cxOf CX0 P w K mg base ["bits", "widths", "marks", "kind", "width", "pattern"] "made" (qi sMade) f cdv A outer s H E).nox c tb:=⟨hcv,hC,hB⟩
 refine⟨_,(qh (zd (zn (zK (qo DWidthsGo (hr.mono (by first|decide|exact Nat.le_refl _)) (qa_c (qv 0) (qa_c (qv 1) qf)))))
   (qj (qx zL))
   vd)
  (qh (qD (i:=2) scMade.nd rfl (Or.inl rfl) (qV qf))
  (qh (v8 PassesOwn.never rfl (qG (K:=K) rfl (Zs (K:=K) rfl rfl LAM (hr.mono (by decide)) N.sorted N.zip (qa_c (ja (v:=.ref kindsA) rfl TKinds.mg rfl) (qa_c (qv 1) qf)))) (Ql (K:=K) (i:=3) (j:=4) rfl scMade.nd rfl rfl rfl (Or.inl rfl) (Or.inl rfl) (Or.inl rfl) (Or.inl rfl))
   (qh (qD (i:=5) scMade.nd rfl (Or.inl rfl) qe)
   (qh (VX PassesOwn.never (xZ (K:=K) rfl (qo DKindsOn (hr.mono (by first|decide|exact Nat.le_refl _)) (qa_c (qv 2) (qa_c (qv 5) qf))) (fun _=>rfl))
    (qj (qs_aug (i:=5) scMade.nd rfl (Or.inl rfl) qe ip_add)))
   (qj (xw (Zr PySem.F.slot_list_append PySem.F.type_list_append vS (qv 2) (qa_c (qR (qa_c (qv 3) (qa_c (qv 4) (qa_c (qv 5) qf)))) qf)))))))
  (qj (qx (qR (qa_c (qv 0) (qa_c (qv 2) qf)))))))),_,(ql (zI (zr (ct_b (qr (qc (qd 0) (qc (qd 1) qg)))))
   (qB (ce_c .non))
   vj)
   (ql (qC (jp qg) (qm 2))
   (ql (zu (qU (Z8 (ns:=fiveK) TKinds.kt (qd 1))) (kQ 3 4)
   (ql (qC (ce_c (.int _)) (qm 5))
   (ql (V9 (ct_truC (qc (qd 2) (qc (qd 5) qg)))
   (cs_aug (ce_c (.int _))))
   (xC (Z7 vT (qd 2) (qc (qT (qc (qd 3) (qc (qd 4) (qc (qd 5) qg)))) qg))))))
   (qB (ce_newT (qc (qd 0) (qc (qd 2) qg))))))),fun us M M1 Qu eM h=>?_⟩
 obtain⟨bits,ws,k,rfl,h5,hk,qn,qy⟩:=h
 subst eM
 walk_at "v"
 refine⟨bits,ws,rfl,h5,_,rfl, ?_⟩
 cases hg:goB bits ws with
 |false =>
  refine ity rfl ?_
  exact⟨fun i o _ e=>.inl e,by rw[List.take_length]; exact qn hg⟩
 |true =>
 have qy:=qy hg
 refine itn rfl ?_
 have hgg:=hg
 simp only[goB,Bool.and_eq_true,decide_eq_true_eq,List.all_eq_true] at hgg
 obtain⟨⟨hb,hall⟩,hsum⟩:=hgg
 have hw:∀p∈fiveK.zip ws,1<=p.2/\p.2<=bits-1:=fun p hp=>by
  have:=hall p hp
  simp only[okW,Bool.and_eq_true,decide_eq_true_eq] at this
  exact this.1
 refine useq ?_
 walk_at "v"
 simp only[jQ]
 walk_at "v"
 refine⟨k,ws,rfl,by rw[h5]; rfl,by rw[h5]; decide,by rw[h5]; decide, ?_,fun out op pw=>?_⟩
 ·rw[List.getElem?_append_left (List.getElem?_eq_some_iff.mp hk).1]
  exact hk
 have hol:out.length=5:=by rw[op.length_eq,List.length_zip,h5]; rfl
 refine⟨_,rfl, ?_⟩
 refine ze (fun i ρ M=>∃(ms:List Mk3) (x y z:Option U),ρ=[some (.p (.int bits)),some (.p (.lst (ws.map T.int))),some (.m M1.length),x,y,z]/\M=M1++[.lst ((ms.map vB).map U.p)]/\(ms.map fun m=>(m.1,m.2.1))=out.take i/\LeastP ms) ⟨[],none,none,none,rfl,rfl,rfl,fun i m e=>by simp at e⟩ ?_ ?_
 ·rintro i x ρ M hx ⟨ms,x1,x2,x3,rfl,rfl,hms,hlp⟩
  obtain⟨⟨n,v⟩,hm,rfl⟩:=qJ hx
  obtain⟨xx,x0,x32,hun⟩:=Ji hb hw op h5 hsum hm hms
  have hmw:Wd ms:=fun m hmm=>by
   have:(m.1,m.2.1)∈out.take i:=hms▸List.mem_map_of_mem (f:=fun m:Mk3=>(m.1,m.2.1)) hmm
   have:=hw _ (op.subset (List.mem_of_mem_take this))
   show 0<=m.2.1/\m.2.1<=1000
   have h1:1<=m.2.1/\m.2.1<=bits-1:=this
   omega
  have hml:ms.length<=5:=by
   have:=congrArg List.length hms
   rw[List.length_map,List.length_take] at this
   omega
  walk_at "v"
  have hlen:(M1++[MO.lst ((ms.map vB).map U.p)])[M1.length]?=some (.lst ((ms.map vB).map U.p)):=by simp
  refine⟨fun m ρ M=>∃p:Int,m=(xx-p).toNat/\0<=p/\p<=xx/\ρ=[some (.p (.int bits)),some (.p (.lst (ws.map T.int))),some (.m M1.length),some (.p (.str n)),some (.p (.int v)),some (.p (.int p))]/\M=M1++[.lst ((ms.map vB).map U.p)]/\∀p':Int,0<=p'->p'<p->∃m'∈ms,on p' m'=true,⟨_,0,rfl,by omega,x0,rfl,rfl,fun p' h1 h2=>by omega⟩, ?_⟩
  rintro m ρ M ⟨p,rfl,p0,px,rfl,rfl,hlow⟩
  simp only[uTruC]
  walk_at "v"
  refine⟨[.lst (ms.map vB), .int p], ?_, ?_⟩
  ·have e9:sn (M1++[MO.lst ((ms.map vB).map U.p)]) (.m M1.length)=some (.lst (ms.map vB)):=by
    simp only[sn,hlen,zy,Option.map_some]
   simp only[sns,e9]
   rfl
  refine⟨ms,p,rfl,hmw,by omega,_,rfl, ?_⟩
  rw[List.isEmpty_map,List.isEmpty_map]
  cases he:(ms.filter (on p)).isEmpty with
  |false =>
   refine ity rfl ?_
   obtain⟨m',hm'⟩:∃m',m'∈ms.filter (on p):=by
    cases hf:ms.filter (on p) with
    |nil=>rw[hf] at he; cases he
    |cons a l=>exact⟨a, .head _⟩
   obtain⟨hm1,hm2⟩:=List.mem_filter.mp hm'
   have hpx:p≠xx:=fun e=>by rw[e,hun m' hm1] at hm2; cases hm2
   refine⟨fun ρ M=>ρ=[some (.p (.int bits)),some (.p (.lst (ws.map T.int))),some (.m M1.length),some (.p (.str n)),some (.p (.int v)),some (.p (.int (p+1)))]/\M=M1++[.lst ((ms.map vB).map U.p)], ?_, ?_⟩
   ·rintro ρ' M' ⟨rfl,rfl⟩
    refine⟨(xx-(p+1)).toNat,by omega,p+1,rfl,by omega,by omega,rfl,rfl,fun p' h1 h2=>?_⟩
    by_cases h3:p'<p
    ·exact hlow p' h1 h3
    ·have:p'=p:=by omega
     rw[this]; exact⟨m',hm1,hm2⟩
   ·simp only[uAug]
    walk_at "v"
    exact⟨p,rfl,1,rfl,rfl⟩
  |true =>
   refine itn rfl ?_
   have hfree:∀m∈ms,on p m=false:=fun m hmm=>by
    cases ho:on p m with
    |false=>rfl
    |true =>
     have:m∈ms.filter (on p):=List.mem_filter.mpr ⟨hmm,ho⟩
     rw[List.isEmpty_iff.mp he] at this
     cases this
   walk_at "v"
   refine⟨_,rfl,⟨_,hlen⟩, ?_⟩
   walk_at "v"
   refine⟨_,hlen, ?_, ?_⟩
   ·rw[List.length_map,List.length_map,sizeLine_eq]; omega
   refine⟨ms++[(n,v,p)],_,_,_,rfl, ?_, ?_,fun j m e=>?_⟩
   ·simp[vB]
   ·rw[List.map_append,hms,qk hm]
    rfl
   ·by_cases hj:j<ms.length
    ·rw[List.getElem?_append_left hj] at e
     rw[List.take_append_of_le_length (by omega)]
     exact hlp j m e
    ·rw[List.getElem?_append_right (by omega)] at e
     have hj2:j-ms.length=0:=by
      have:=(List.getElem?_eq_some_iff.mp e).1
      simp at this; omega
     rw[hj2] at e
     cases e
     have:j=ms.length:=by omega
     rw[this,List.take_left' rfl]
     exact⟨p0,hfree,hlow⟩
 ·rintro ρ M ⟨ms,x1,x2,x3,rfl,rfl,hms,hlp⟩
  walk_at "v"
  have hm2:MadeM ws ms:=by
   have e:out.take (out.map fun p=>T.tup [.str p.1, .int p.2]).length=out:=by rw[List.length_map,List.take_length]
   rw[e] at hms
   refine⟨hms▸op, ?_,hlp⟩
   have:=hms▸pw
   exact(List.pairwise_map (f:=fun m:Mk3=>(m.1,m.2.1)) (R:=fun p q=>p.2<=q.2)).mp this
  refine⟨by rw[List.append_assoc]; exact trim_app,layT bits ms, ?_, ?_⟩
  ·have e1:(M1++[MO.lst ((ms.map vB).map U.p)]).length=M1.length+1:=by simp
   rw[e1]
   have g1:(M1++[MO.lst ((ms.map vB).map U.p)]++[MO.tup [U.p (T.int bits),U.m M1.length]])[M1.length+1]?=some (MO.tup [U.p (T.int bits),U.m M1.length]):=by simp
   have g0:(M1++[MO.lst ((ms.map vB).map U.p)]++[MO.tup [U.p (T.int bits),U.m M1.length]])[M1.length]?=some (MO.lst ((ms.map vB).map U.p)):=by simp
   simp only[frzB,g1,g0,frzs,Nat.le_refl,Nat.le_add_right,if_true]
   rw[kN (fun t=>Jy)]
   rfl
  ·rw[List.append_assoc,List.take_left' rfl]
   exact qy ms hm2
theorem filt1 {α:Type} {p:α->Bool} {l:List α} {i:Nat} {m:α} (hi:l[i]?=some m) (h:∀(j:Nat) x,l[j]?=some x->j≠i->p x=false):(l.filter p).length<=1:=by
 have hil:=(List.getElem?_eq_some_iff.mp hi).1
 have e:l=l.take i++m::l.drop (i+1):=by
  conv=>lhs; rw[<-List.take_append_drop i l,List.drop_eq_getElem_cons hil]
  rw[(List.getElem?_eq_some_iff.mp hi).2]
 have h1:(l.take i).filter p=[]:=List.filter_eq_nil_iff.mpr fun x hx=>by
  obtain⟨j,hj⟩:=List.getElem?_of_mem hx
  rw[List.getElem?_take] at hj
  by_cases hji:j<i
  ·rw[if_pos hji] at hj
   rw[h j x hj (by omega)]; decide
  ·rw[if_neg hji] at hj; cases hj
 have h2:(l.drop (i+1)).filter p=[]:=List.filter_eq_nil_iff.mpr fun x hx=>by
  obtain⟨j,hj⟩:=List.getElem?_of_mem hx
  rw[List.getElem?_drop] at hj
  rw[h _ x hj (by omega)]; decide
 rw[e,List.filter_append,h1,List.nil_append,List.filter_cons,h2]
 split<;>simp
theorem MadeM.le {ws:List Int} {ms:List Mk3} (h:MadeM ws ms) {i j:Nat} {a b:Mk3} (hi:ms[i]?=some a) (hj:ms[j]?=some b) (hij:i<j):a.2.1<=b.2.1:=by
 obtain⟨i1,i2⟩:=List.getElem?_eq_some_iff.mp hi
 obtain⟨j1,j2⟩:=List.getElem?_eq_some_iff.mp hj
 have:=List.pairwise_iff_getElem.mp h.2.1 i j i1 j1 hij
 rw[i2,j2] at this
 exact this
theorem Vs {α:Type} {l:List α} {i:Nat} {x:α} (h:x∈l.take i):∃j,j<i/\l[j]?=some x:=by
 obtain⟨j,hj⟩:=List.getElem?_of_mem h
 rw[List.getElem?_take] at hj
 by_cases hji:j<i
 ·rw[if_pos hji] at hj; exact⟨j,hji,hj⟩
 ·rw[if_neg hji] at hj; cases hj
theorem zT {α:Type} {l:List α} {i j:Nat} {x:α} (h:l[j]?=some x) (hji:j<i):x∈l.take i:=List.mem_of_getElem? (i:=j) (by rw[List.getElem?_take,if_pos hji]; exact h)
theorem pow_dvd2 {a b:Int} (ha:0<=a) (h:a<=b):(2:Int)^a.toNat ∣ 2^b.toNat:=⟨2^(b-a).toNat,by rw[<-Int.pow_add]; congr 1; omega⟩
theorem QH {bits:Int} {ws:List Int} {ms:List Mk3} (h5:ws.length=5) (hg:goB bits ws=true) (h:MadeM ws ms):FormP bits ms:=by
 have hgg:=hg
 simp only[goB,Bool.and_eq_true,decide_eq_true_eq,List.all_eq_true] at hgg
 obtain⟨⟨hb,hall⟩,hsum⟩:=hgg
 have hwd:∀m∈ms,1<=m.2.1/\m.2.1<=bits-1:=fun m hm=>by
  have:=hall _ (h.1.subset (List.mem_map_of_mem (f:=fun m:Mk3=>(m.1,m.2.1)) hm))
  simp only[okW,Bool.and_eq_true,decide_eq_true_eq] at this
  exact this.1
 refine⟨hb, ?_, ?_,fun m hm=>⟨hwd m hm, ?_⟩⟩
 ·have:=h.1.length_eq
  rw[List.length_map,List.length_zip,h5] at this
  exact this
 ·have:=h.1.map (·.1)
  rw[List.map_map,List.map_fst_zip (by rw[h5]; decide)] at this
  exact this
 ·obtain⟨i,hi⟩:=List.getElem?_of_mem hm
  obtain⟨p0,hfree,hlow⟩:=h.2.2 i m hi
  refine⟨p0,Int.lt_of_not_ge fun hge=>?_⟩
  have hp:=vy m.2.1.toNat
  obtain⟨m',hm',ho⟩:=hlow (m.2.2-2^m.2.1.toNat) (by omega) (by omega)
  obtain⟨j,hji,hj⟩:=Vs hm'
  have hle:=h.le hj hi hji
  have hw':=hwd m' (List.mem_of_getElem? hj)
  have hf:=hfree m' hm'
  unfold on at ho hf
  have ho:=of_decide_eq_true ho
  have hf:=of_decide_eq_false hf
  refine hf ?_
  obtain⟨c,hc⟩:=pow_dvd2 (by omega) hle
  rw[<-ho,hc,Int.sub_eq_add_neg, <-Int.mul_neg,Int.add_mul_emod_self_left]
theorem QJ {bits:Int} {ws:List Int} {ms:List Mk3} (f:FormP bits ms) (h:MadeM ws ms):zX ms=[]:=by
 unfold zX
 rw[List.map_eq_nil_iff,List.filter_eq_nil_iff]
 intro m hm
 obtain⟨i,hi⟩:=List.getElem?_of_mem hm
 have:=filt1 (p:=on m.2.2) hi fun j x hj hne=>by
  have fm:=f.m m hm
  have fx:=f.m x (List.mem_of_getElem? hj)
  rcases Nat.lt_or_gt_of_ne hne with hlt|hgt
  ·exact(h.2.2 i m hi).2.1 x (zT hj hlt)
  ·cases ho:on m.2.2 x with
   |false=>rfl
   |true =>
    have hf:=(h.2.2 j x hj).2.1 m (zT hi hgt)
    unfold on at ho hf
    have ho:=of_decide_eq_true ho
    have hf:=of_decide_eq_false hf
    have hle:=h.le hi hj hgt
    have hlt:m.2.2<2^x.2.1.toNat:=by
     have:=Nat.pow_le_pow_right (n:=2) (by decide) (show m.2.1.toNat<=x.2.1.toNat by omega)
     have:(2:Int)^m.2.1.toNat<=2^x.2.1.toNat:=by exact_mod_cast this
     omega
    rw[Int.emod_eq_of_lt fm.2.1 hlt] at ho
    rw[<-ho,Int.emod_eq_of_lt fm.2.1 fm.2.2] at hf
    exact absurd rfl hf
 simp only[decide_eq_true_eq]
 omega
theorem xA {bits:Int} {ws:List Int} {ms:List Mk3} (h5:ws.length=5) (hg:goB bits ws=true) (h:MadeM ws ms):QY bits ms=.non:=by
 have f:=QH h5 hg h
 have hk:fewK bits ms=none:=by
  unfold fewK
  rw[List.find?_eq_none]
  intro m hm
  have hgg:=hg
  simp only[goB,Bool.and_eq_true,decide_eq_true_eq,List.all_eq_true] at hgg
  have:=hgg.1.2 _ (h.1.subset (List.mem_map_of_mem (f:=fun m:Mk3=>(m.1,m.2.1)) hm))
  simp only[okW,Bool.and_eq_true,decide_eq_true_eq] at this
  simp only[decide_eq_true_eq]
  omega
 unfold QY
 rw[if_pos (form_iff.mpr f),QJ f h,hk]
 rfl
theorem kraftD:∀(W:Nat) (l:List (Nat×Nat)),(∀m∈l,m.1<=W/\m.2<2^m.1)->(l.Pairwise fun a b=>∀x,¬(x % 2^a.1=a.2/\x % 2^b.1=b.2))->(l.map fun m=>2^(W-m.1)).sum<=2^W
 |W,l,hw,hd=>by
  by_cases hz:∃m∈l,m.1=0
  ·obtain⟨m,hm,h0⟩:=hz
   have one:∀a∈l,a=m:=fun a ha=>by
    by_cases e:a=m
    ·exact e
    ·exfalso
     have hm2:=(hw m hm).2
     rw[h0] at hm2
     have ha2:=(hw a ha).2
     have hsy:∀a b:Nat×Nat,(∀x,¬(x % 2^a.1=a.2/\x % 2^b.1=b.2))->∀x,¬(x % 2^b.1=b.2/\x % 2^a.1=a.2):=fun a b h x ⟨p,q⟩=>h x ⟨q,p⟩
     have hg:=List.pairwise_iff_getElem.mp hd
     obtain⟨i,hi,rfl⟩:=List.getElem_of_mem ha
     obtain⟨j,hj,rfl⟩:=List.getElem_of_mem hm
     have key:∀x,¬(x % 2^l[i].1=l[i].2/\x % 2^l[j].1=l[j].2):=by
      rcases Nat.lt_trichotomy i j with h|h|h
      ·exact hg i j hi hj h
      ·subst h; exact absurd rfl e
      ·exact hsy _ _ (hg j i hj hi h)
     refine key l[i].2 ⟨Nat.mod_eq_of_lt ha2, ?_⟩
     rw[h0]
     simp at hm2
     rw[hm2]
     exact Nat.mod_one _
   have hl:l=[m]:=by
    match l,hm,one,hd,hw with
    | [a],_,one,_,_=>rw[one a (.head _)]
    |a::b::r,hm,one,hd,hw =>
     have ea:=one a (.head _)
     have eb:=one b (.tail _ (.head _))
     have:=(List.pairwise_cons.mp hd).1 b (.head _)
     rw[ea,eb] at this
     exact absurd ⟨Nat.mod_eq_of_lt (hw m hm).2,Nat.mod_eq_of_lt (hw m hm).2⟩ (this m.2)
   rw[hl]
   simp[h0]
  ·have pos:∀m∈l,1<=m.1:=fun m hm=>by
    have:m.1≠0:=fun e=>hz ⟨m,hm,e⟩
    omega
   cases W with
   |zero =>
    have:l=[]:=by
     cases l with
     |nil=>rfl
     |cons m l=>have:=(hw m (.head _)).1; have:=pos m (.head _); omega
    rw[this]; simp
   |succ W =>
    have half:∀b,b<2->((l.filter fun m=>m.2 % 2==b).map fun m=>2^(W+1-m.1)).sum<=2^W:=fun b hb=>by
     have e:(((l.filter fun m=>m.2 % 2==b).map fun m=>(m.1-1,m.2 / 2)).map fun m=>2^(W-m.1)).sum=((l.filter fun m=>m.2 % 2==b).map fun m=>2^(W+1-m.1)).sum:=by
      rw[List.map_map]
      congr 1
      refine List.map_congr_left fun m hm=>?_
      have:=pos m ((List.mem_filter.mp hm).1)
      have:=(hw m ((List.mem_filter.mp hm).1)).1
      show 2^(W-(m.1-1))=_
      congr 1
      omega
     have up:∀m∈l.filter (fun m=>m.2 % 2==b),∀x,x % 2^(m.1-1)=m.2 / 2->(2*x+b) % 2^m.1=m.2:=fun m hm x hx=>by
      obtain⟨hml,hmb⟩:=List.mem_filter.mp hm
      have hmb:m.2 % 2=b:=by simpa using hmb
      obtain⟨k,hk⟩:∃k,m.1=k+1:=⟨m.1-1,by have:=pos m hml; omega⟩
      rw[hk,Nat.add_sub_cancel] at hx
      rw[hk,Nat.pow_succ,Nat.mul_comm (2^k) 2,Nat.mod_mul]
      have e3:(2*x+b) / 2=x:=by omega
      have e4:(2*x+b) % 2=b:=by omega
      rw[e3,e4,hx]
      omega
     rw[<-e]
     refine kraftD W _ (fun m hm=>?_) ?_
     ·obtain⟨m',h1,rfl⟩:=List.mem_map.mp hm
      have hml:=(List.mem_filter.mp h1).1
      obtain⟨a1,a2⟩:=hw m' hml
      obtain⟨k,hk⟩:∃k,m'.1=k+1:=⟨m'.1-1,by have:=pos m' hml; omega⟩
      refine⟨by show m'.1-1<=W; omega, ?_⟩
      show m'.2 / 2<2^(m'.1-1)
      rw[hk,Nat.pow_succ] at a2
      rw[hk,Nat.add_sub_cancel]
      omega
     ·rw[List.pairwise_map]
      refine((hd.filter _).imp_of_mem fun {a c} ha hc h=>?_)
      intro x hx
      exact h (2*x+b) ⟨up a ha x hx.1,up c hc x hx.2⟩
    have sp:=xT (fun m:Nat×Nat=>2^(W+1-m.1)) (fun m=>m.2 % 2==0) l
    have e1:(l.filter fun m => !(m.2 % 2==0))=l.filter fun m=>m.2 % 2==1:=List.filter_congr fun m _=>by
     have:m.2 % 2=0\/m.2 % 2=1:=by omega
     rcases this with h|h<;>simp[h]
    rw[e1] at sp
    have h0:=half 0 (by decide)
    have h1:=half 1 (by decide)
    rw[Nat.pow_succ]
    omega
def wOf (ms:List Mk3) (k:Str):Int:=match ms.find? fun m=>decide (m.1=k) with
 |some m=>m.2.1
 |none=>0
def qZ (ms:List Mk3):List Int:=fiveK.map (wOf ms)
theorem wOf_of {ms:List Mk3} {k:Str} {m:Mk3} (h:OfKind ms k m):wOf ms k=m.2.1:=by
 obtain⟨rest,e⟩:=h
 unfold wOf
 rw[<-List.head?_filter,e]
 rfl
theorem Xf:∀{ms:List Mk3} {m:Mk3},(ms.map (·.1)).Nodup->m∈ms->wOf ms m.1=m.2.1
 |a::ms,m,nd,h=>by
  rw[List.map_cons,List.nodup_cons] at nd
  unfold wOf
  rw[List.find?_cons]
  rcases List.mem_cons.mp h with rfl|h
  ·simp
  ·have:decide (a.1=m.1)=false:=decide_eq_false fun e=>nd.1 (e▸List.mem_map_of_mem (f:=(·.1)) h)
   rw[this]
   exact Xf nd.2 h
theorem Right.zip {bits:Int} {ms:List Mk3} (r:Right bits ms):(ms.map fun m=>(m.1,m.2.1)).Perm (fiveK.zip (qZ ms)):=by
 have nd:(ms.map (·.1)).Nodup:=r.k.nodup_iff.mpr (by decide)
 have e:(ms.map fun m=>(m.1,m.2.1))=(ms.map (·.1)).map fun k=>(k,wOf ms k):=by
  rw[List.map_map]
  refine List.map_congr_left fun m hm=>?_
  show(m.1,m.2.1)=(m.1,wOf ms m.1)
  rw[Xf nd hm]
 rw[e]
 exact r.k.map _
theorem zip_inj {a b:List Int} (ha:a.length=5) (hb:b.length=5) (h:(fiveK.zip a).Perm (fiveK.zip b)):a=b:=by
 match a,ha,b,hb with
 | [a1,a2,a3,a4,a5],_, [b1,b2,b3,b4,b5],_ =>
  have z:∀p∈fiveK.zip [a1,a2,a3,a4,a5],p∈fiveK.zip [b1,b2,b3,b4,b5]:=fun p hp=>h.subset hp
  have h1:=z ("small", a1) (by simp[fiveK])
  have h2:=z ("far", a2) (by simp[fiveK])
  have h3:=z ("pair", a3) (by simp[fiveK])
  have h4:=z ("sign", a4) (by simp[fiveK])
  have h5:=z ("one", a5) (by simp[fiveK])
  have n12:(("small" : Str)) ≠ "far" := by decide
  have n13:(("small" : Str)) ≠ "pair" := by decide
  have n14:(("small" : Str)) ≠ "sign" := by decide
  have n15:(("small" : Str)) ≠ "one" := by decide
  have n23:(("far" : Str)) ≠ "pair" := by decide
  have n24:(("far" : Str)) ≠ "sign" := by decide
  have n25:(("far" : Str)) ≠ "one" := by decide
  have n34:(("pair" : Str)) ≠ "sign" := by decide
  have n35:(("pair" : Str)) ≠ "one" := by decide
  have n45:(("sign" : Str)) ≠ "one" := by decide
  simp only[fiveK,List.zip_cons_cons,List.zip_nil_left,List.mem_cons,List.not_mem_nil,or_false,Prod.mk.injEq,n12,n13,n14,n15,n23,n24,n25,n34,n35,n45,n12.symm,n13.symm,n14.symm,n15.symm,n23.symm,n24.symm,n25.symm,n34.symm,n35.symm,n45.symm,false_and,true_and,or_false,false_or,ne_eq,not_false_eq_true] at h1 h2 h3 h4 h5
  rw[h1,h2,h3,h4,h5]
theorem zx (ms:List Mk3):(qZ ms).length=5:=rfl
theorem Xl {bits:Int} {ws:List Int} {l:List (Str×Int)} (h5:ws.length=5) (hl:l.Perm (fiveK.zip ws)):sumW bits ws=(((l.map fun p:Str×Int=>2^(bits-p.2).toNat).sum:Nat):Int):=by
 have e1:((l.map fun p:Str×Int=>2^(bits-p.2).toNat).sum)=(((fiveK.zip ws).map fun p:Str×Int=>2^(bits-p.2).toNat).sum):=(hl.map _).sum_nat
 rw[e1]
 unfold sumW
 have e2:ws=(fiveK.zip ws).map (·.2):=by
  rw[List.map_snd_zip]
  rw[h5]; decide
 conv=>lhs; rw[e2]
 rw[List.map_map]
 generalize fiveK.zip ws=q
 induction q with
 |nil=>rfl
 |cons a q ih =>
  simp only[List.map_cons,List.sum_cons,Function.comp_apply]
  rw[ih]
  push_cast
  rfl
theorem Right.go {bits:Int} {ms:List Mk3} (r:Right bits ms):goB bits (qZ ms)=true:=by
 have hb:=r.b
 have hz:=r.zip
 have hk:sumW bits (qZ ms)<=2^bits.toNat:=by
  rw[Xl (zx ms) hz,List.map_map]
  have:=kraftD bits.toNat (ms.map fun m=>(m.2.1.toNat,m.2.2.toNat)) (fun m hm=>?_) ?_
  ·rw[List.map_map] at this
   have e:(ms.map ((fun m:Nat×Nat=>2^(bits.toNat-m.1)) ∘ fun m:Mk3=>(m.2.1.toNat,m.2.2.toNat)))=ms.map ((fun p:Str×Int=>2^(bits-p.2).toNat) ∘ fun m:Mk3=>(m.1,m.2.1)):=by
    refine List.map_congr_left fun m hm=>?_
    have:=r.w m hm
    show 2^(bits.toNat-m.2.1.toNat)=2^(bits-m.2.1).toNat
    congr 1
    omega
   rw[e] at this
   exact_mod_cast this
  ·obtain⟨m',h1,rfl⟩:=List.mem_map.mp hm
   have h2:=r.w m' h1
   have h3:=r.p m' h1
   have h4:=jd m'.1
   refine⟨by show m'.2.1.toNat<=bits.toNat; omega, ?_⟩
   show m'.2.2.toNat<2^m'.2.1.toNat
   have:((m'.2.2.toNat:Nat):Int)<((2^m'.2.1.toNat:Nat):Int):=by push_cast; rw[Int.toNat_of_nonneg h3.1]; exact h3.2
   exact_mod_cast this
  ·rw[List.pairwise_map]
   refine r.d.imp_of_mem fun {a b} ha hb' h x hx=>?_
   have pa:=r.p a ha
   have pb:=r.p b hb'
   refine h (x:Int) ⟨?_, ?_⟩
   ·have:((x % 2^a.2.1.toNat:Nat):Int)=((a.2.2.toNat:Nat):Int):=by exact_mod_cast hx.1
    push_cast at this
    rw[this,Int.toNat_of_nonneg pa.1]
   ·have:((x % 2^b.2.1.toNat:Nat):Int)=((b.2.2.toNat:Nat):Int):=by exact_mod_cast hx.2
    push_cast at this
    rw[this,Int.toNat_of_nonneg pb.1]
 unfold goB
 rw[Bool.and_eq_true,Bool.and_eq_true,decide_eq_true_eq]
 refine⟨⟨by simp[hb.1,hb.2],List.all_eq_true.mpr fun p hp=>?_⟩,hk⟩
 obtain⟨m,hm,rfl⟩:=List.mem_map.mp (hz.symm.subset hp)
 have h2:=r.w m hm
 have h4:=jd m.1
 simp only[okW,Bool.and_eq_true,decide_eq_true_eq]
 omega
theorem vW {bits:Int} {ws:List Int} {ms:List Mk3} (h5:ws.length=5) (hg:goB bits ws=true) (h:MadeM ws ms):Right bits ms:=by
 have f:=QH h5 hg h
 have hgg:=hg
 simp only[goB,Bool.and_eq_true,decide_eq_true_eq,List.all_eq_true] at hgg
 refine⟨f.b,f.n,f.k,fun m hm=>?_,fun m hm=>(f.m m hm).2, ?_⟩
 ·have:=hgg.1.2 _ (h.1.subset (List.mem_map_of_mem (f:=fun m:Mk3=>(m.1,m.2.1)) hm))
  simp only[okW,Bool.and_eq_true,decide_eq_true_eq] at this
  omega
 ·refine List.pairwise_iff_getElem.mpr fun i j hi hj hij x hx=>?_
  have ei:ms[i]?=some ms[i]:=List.getElem?_eq_getElem hi
  have ej:ms[j]?=some ms[j]:=List.getElem?_eq_getElem hj
  have hle:=h.le ei ej hij
  have hf:=(h.2.2 j _ ej).2.1 _ (zT ei hij)
  have hw:=(f.m _ (List.getElem_mem hi)).1
  unfold on at hf
  refine of_decide_eq_false hf ?_
  rw[<-hx.2,zz (by omega)]
  exact hx.1
theorem v6 {bits:Int} {ws:List Int} {ms:List Mk3} (h5:ws.length=5) (hg:goB bits ws=true) (h:MadeM ws ms):qZ ms=ws :=
 zip_inj (zx ms) h5 ((vW h5 hg h).zip.symm.trans h.1)
def pw (bits x:Int):Int:=2^(bits-x).toNat
theorem go5 {bits a b c d e:Int}:goB bits [a,b,c,d,e]=true↔(8<=bits/\bits<=32)/\(1<=a/\2<=bits-a)/\(1<=b/\3<=bits-b)/\(1<=c/\3<=bits-c)/\(1<=d/\7<=bits-d)/\(1<=e/\2<=bits-e)/\pw bits a+pw bits b+pw bits c+pw bits d+pw bits e<=2^bits.toNat:=by
 have e1:fiveK.zip [a,b,c,d,e]=[(("small" : Str),a),(("far" : Str),b),(("pair" : Str),c),(("sign" : Str),d),(("one" : Str),e)]:=rfl
 have e2:sumW bits [a,b,c,d,e]=pw bits a+pw bits b+pw bits c+pw bits d+pw bits e:=by
  simp only[sumW,pw,List.map_cons,List.map_nil,List.sum_cons,List.sum_nil]
  omega
 have n1:need "small" = 2:=by decide
 have n2:need "far" = 3:=by decide
 have n3:need "pair" = 3:=by decide
 have n4:need "sign" = 7:=by decide
 have n5:need "one" = 2:=by decide
 unfold goB
 rw[e1,e2]
 simp only[List.all_cons,List.all_nil,okW,n1,n2,n3,n4,n5,Bool.and_eq_true,decide_eq_true_eq,and_true]
 omega
def cap4 (w:Int):Int:=if w<=4 then w else 4
def vC (c:Fin 5):Nat:=[8,4,2,1,1].getD c.val 0
def zC (c:Fin 5):Nat:=[8,4,2,1,0].getD c.val 0
theorem cap_fin:∀a b c d e:Fin 5,zC a+zC b+zC c+zC d+zC e<=16->((a=4\/b=4\/c=4\/d=4\/e=4)->zC a+zC b+zC c+zC d+zC e<16)->vC a+vC b+vC c+vC d+vC e<=16:=by decide +kernel
theorem jq {bits w:Int} (hb:8<=bits) (h1:1<=w):∃c:Fin 5,pw bits (cap4 w)=(vC c:Int)*2^(bits-4).toNat/\(zC c:Int)*2^(bits-4).toNat<=pw bits w/\(c=4->0<pw bits w):=by
 have B:=vy (bits-4).toNat
 have e4:∀k:Nat,k<=4->(2:Int)^(bits-(4-k:Int)).toNat=2^k*2^(bits-4).toNat:=fun k hk=>by
  rw[<-Int.pow_add]
  congr 1
  omega
 by_cases h:w<=4
 ·have hc:cap4 w=w:=if_pos h
  rw[hc]
  rcases(show w=1\/w=2\/w=3\/w=4 by omega) with rfl|rfl|rfl|rfl
  ·have:=e4 3 (by decide)
   exact⟨0,this,Int.le_of_eq this.symm,fun z=>absurd z (by decide)⟩
  ·have:=e4 2 (by decide)
   exact⟨1,this,Int.le_of_eq this.symm,fun z=>absurd z (by decide)⟩
  ·have:=e4 1 (by decide)
   exact⟨2,this,Int.le_of_eq this.symm,fun z=>absurd z (by decide)⟩
  ·have:=e4 0 (by decide)
   exact⟨3,this,by show(1:Int)*_<=_; unfold pw; rw[Int.one_mul]; exact Int.le_refl _,fun z=>absurd z (by decide)⟩
 ·have hc:cap4 w=4:=if_neg h
  rw[hc]
  refine⟨4, ?_, ?_,fun _=>vy _⟩
  ·show _=(1:Int)*_; unfold pw; rw[Int.one_mul]
  ·show(0:Int)*_<=_; rw[Int.zero_mul]; exact Int.le_of_lt (vy _)
theorem go_cap {bits:Int} {ws:List Int} (h5:ws.length=5) (hg:goB bits ws=true):goB bits (ws.map cap4)=true:=by
 match ws,h5 with
 | [a,b,c,d,e],_ =>
  have hg:=go5.mp hg
  obtain⟨hb,ha1,hb1,hc1,hd1,he1,hs⟩:=hg
  obtain⟨ca,a1,a2,a3⟩:=jq hb.1 ha1.1
  obtain⟨cb,b1,b2,b3⟩:=jq hb.1 hb1.1
  obtain⟨cc,c1,c2,c3⟩:=jq hb.1 hc1.1
  obtain⟨cd,d1,d2,d3⟩:=jq hb.1 hd1.1
  obtain⟨ce,e1,e2,e3⟩:=jq hb.1 he1.1
  have B:=vy (bits-4).toNat
  have e16:(2:Int)^bits.toNat=16*2^(bits-4).toNat:=by
   rw[show(16:Int)=2^4 by decide, <-Int.pow_add]
   congr 1
   omega
  rw[e16] at hs
  refine go5.mpr ?_
  have cl:∀w:Int,1<=w->1<=cap4 w/\cap4 w<=w:=fun w hw=>by unfold cap4; split<;>omega
  have la:=cl a ha1.1; have lb:=cl b hb1.1; have lc:=cl c hc1.1; have ld:=cl d hd1.1; have le:=cl e he1.1
  have zle:((zC ca+zC cb+zC cc+zC cd+zC ce:Nat):Int)*2^(bits-4).toNat<=16*2^(bits-4).toNat:=by
   push_cast
   rw[Int.add_mul,Int.add_mul,Int.add_mul,Int.add_mul]
   omega
  have z1:zC ca+zC cb+zC cc+zC cd+zC ce<=16:=by
   have:=Int.le_of_mul_le_mul_right zle B
   omega
  have z2:(ca=4\/cb=4\/cc=4\/cd=4\/ce=4)->zC ca+zC cb+zC cc+zC cd+zC ce<16:=fun h=>by
   have zlt:((zC ca+zC cb+zC cc+zC cd+zC ce:Nat):Int)*2^(bits-4).toNat<16*2^(bits-4).toNat:=by
    push_cast
    rw[Int.add_mul,Int.add_mul,Int.add_mul,Int.add_mul]
    have z4:(zC 4:Int)=0:=rfl
    rcases h with h|h|h|h|h
    ·have:=a3 h; rw[h,z4,Int.zero_mul]; omega
    ·have:=b3 h; rw[h,z4,Int.zero_mul]; omega
    ·have:=c3 h; rw[h,z4,Int.zero_mul]; omega
    ·have:=d3 h; rw[h,z4,Int.zero_mul]; omega
    ·have:=e3 h; rw[h,z4,Int.zero_mul]; omega
   have:=Int.lt_of_mul_lt_mul_right zlt (Int.le_of_lt B)
   omega
  have z3:=cap_fin ca cb cc cd ce z1 z2
  refine⟨hb,by omega,by omega,by omega,by omega,by omega, ?_⟩
  rw[a1,b1,c1,d1,e1,e16, <-Int.add_mul, <-Int.add_mul, <-Int.add_mul, <-Int.add_mul]
  refine Int.mul_le_mul_of_nonneg_right ?_ (Int.le_of_lt B)
  exact_mod_cast z3
def dot (a b:List Int):Int:=((a.zip b).map fun p=>p.1*p.2).sum
theorem Jz:∀{a b:List Int},(∀x∈a,0<=x)->dot a (b.map cap4)<=dot a b
 | [],b,_=>by simp[dot]
 |_::_, [],_=>by simp[dot]
 |x::a,y::b,h=>by
  have ih:=Jz (a:=a) (b:=b) fun z hz=>h z (.tail _ hz)
  have hx:=h x (.head _)
  have hy:cap4 y<=y:=by unfold cap4; split<;>omega
  have:=Int.mul_le_mul_of_nonneg_left hy hx
  simp only[dot,List.map_cons,List.zip_cons_cons,List.sum_cons] at ih ⊢
  omega
theorem VB (c:Int):∀{a b:List Int},dot (a.map fun x=>x*c) b=c*dot a b
 | [],b=>by simp[dot]
 |_::_, []=>by simp[dot]
 |x::a,y::b=>by
  have ih:=VB c (a:=a) (b:=b)
  simp only[dot,List.map_cons,List.zip_cons_cons,List.sum_cons] at ih ⊢
  rw[ih,Int.mul_add,Int.mul_comm x c,Int.mul_assoc]
def rowT (r:List Int):T:=.lst (r.map T.int)
def ext4 (r:List Int):List (List Int):=(List.range 4).map fun(k:Nat)=>r++[1+(k:Int)]
def zb:Nat->List (List Int)
 |0=>[[]]
 |n+1=>(zb n).flatMap ext4
theorem xY:∀n,(zb n).length=4^n
 |0=>rfl
 |n+1=>by
  show((zb n).flatMap ext4).length=_
  rw[List.length_flatMap,show(fun a=>(ext4 a).length)=fun _=>4 from rfl,Nat.pow_succ, <-xY n]
  generalize zb n=l
  induction l with
  |nil=>rfl
  |cons a l ih=>simp only[List.map_cons,List.sum_cons,List.length_cons,ih]; omega
theorem rowsL_mem:∀{n:Nat} {r:List Int},r∈zb n↔r.length=n/\∀x∈r,1<=x/\x<=4
 |0,r=>by
  show r∈[[]]↔_
  rw[List.mem_singleton]
  constructor
  ·rintro rfl; exact⟨rfl,fun x h=>by cases h⟩
  ·rintro⟨h,_⟩; exact List.length_eq_zero_iff.mp h
 |n+1,r=>by
  show r∈(zb n).flatMap ext4↔_
  rw[List.mem_flatMap]
  constructor
  ·rintro⟨s,hs,hr⟩
   obtain⟨h1,h2⟩:=rowsL_mem.mp hs
   obtain⟨k,hk,rfl⟩:=List.mem_map.mp hr
   have hk:=List.mem_range.mp hk
   refine⟨by rw[List.length_append,h1]; rfl,fun x hx=>?_⟩
   rcases List.mem_append.mp hx with hx|hx
   ·exact h2 x hx
   ·rw[List.mem_singleton.mp hx]; omega
  ·rintro⟨h1,h2⟩
   have hne:r≠[]:=fun e=>by rw[e] at h1; cases h1
   have e:=List.dropLast_concat_getLast hne
   have hx:=h2 _ (List.getLast_mem hne)
   refine⟨r.dropLast,rowsL_mem.mpr ⟨by rw[List.length_dropLast,h1]; rfl,fun x hx=>h2 x (List.dropLast_subset _ hx)⟩,List.mem_map.mpr ⟨(r.getLast hne-1).toNat,List.mem_range.mpr (by omega), ?_⟩⟩
   conv=>rhs; rw[<-e]
   congr 2
   omega
theorem Xk {α β:Type} {l:List α} {f:α->List β} {i:Nat} {x:α} (h:l[i]?=some x):(l.take (i+1)).flatMap f=(l.take i).flatMap f++f x:=by
 rw[qk h,List.flatMap_append]
 simp
theorem flat_len {l:List (List Int)}:(l.flatMap ext4).length=4*l.length:=by
 induction l with
 |nil=>rfl
 |cons a l ih=>rw[List.flatMap_cons,List.length_append,ih,List.length_cons]; show 4+_=_; omega
abbrev xt:Stmt:=top 21
theorem scWidthRows:FnScope ["rows", "kind", "longer", "row", "width"] [] (qi xt):=⟨rfl,rfl,rfl,by decide +kernel,rfl,by decide +kernel,by decide +kernel⟩
def xB:List T->(T->Prop)->Prop:=fun ts Q=>ts=[]/\Q (.lst ((zb 5).map rowT))
theorem Qr {kindsA:Addr} {f:Addr} {fd:FuncData} (F:Fun K "width_rows" "width_rows" xt f fd) (N:Nms mg) (TKinds:Tup5 K mg "KINDS" kindsA "small" "far" "pair" "sign" "one") (GWide:GInt mg "WIDEST_OF_BEST" 4):FnOk P w K mg base CX0 1 f fd [] (spP xB):=by
 refine F.zP scWidthRows (fun ts Qt h=>?_) (fun cdv A outer s H E hr=>?_)
 ·obtain⟨rfl,_⟩:=h
  rfl
 refine⟨_,(qh (qD (i:=0) scWidthRows.nd rfl (Or.inl rfl) (qV (qa_c (qV qf) qf)))
  (qh (v8 PassesOwn.never rfl (qi_tupK (K:=K) rfl (ja (v:=.ref kindsA) rfl TKinds.mg rfl)) (qO (i:=1) scWidthRows.nd rfl (Or.inl rfl))
   (qh (qD (i:=2) scWidthRows.nd rfl (Or.inl rfl) (qV qf))
   (qh (v8 PassesOwn.never rfl (qG (K:=K) rfl (qv 0)) (qO (i:=3) scWidthRows.nd rfl (Or.inl rfl))
    (qj (v8 PassesOwn.never rfl (XD rfl N.range (qa_c qe (qa_c (qw vk (Vj GWide rfl) qe) qf))) (qO (i:=4) scWidthRows.nd rfl (Or.inl rfl))
     (qj (xw (Zr PySem.F.slot_list_append PySem.F.type_list_append vS (qv 2) (qa_c (qw jc (qv 3) (qV (qa_c (qv 4) qf))) qf)))))))
   (qj (qD (i:=0) scWidthRows.nd rfl (Or.inl rfl) (qv 2))))))
  (qj (qx (qv 0))))),_,(ql (qC (jp (qc (vG qg) qg)) (qm 0))
   (ql (zu (ci_tupKs (ns:=fiveK) TKinds.kt) (qm 1)
   (ql (qC (jp qg) (qm 2))
   (ql (zu (qU (qd 0)) (qm 3)
   (zu (ci_rng2 (qc (ce_c (.int _)) (qc (qu (qA fun _ _=>.int _) (ce_c (.int _)) (ce_c (.int _))) qg))) (qm 4)
   (xC (Z7 vT (qd 2) (qc (qu zR (qd 3) (vG (qc (qd 4) qg))) qg)))))
   (qC (qd 2) (qm 0)))))
   (qB (qd 0)))),fun ts Qt h=>?_⟩
 obtain⟨rfl,q⟩:=h
 walk_at "v"
 show UFor (itK fiveK) _ _ _ _ _
 refine⟨fun i ρ M'=>∃(j:Nat) (x1 x2 x3 x4:Option U),ρ=[some (.m j),x1,x2,x3,x4]/\M'[j]?=some (.lst (((zb i).map rowT).map U.p)),⟨0,_,_,_,_,rfl,rfl⟩, ?_, ?_⟩
 ·rintro i ρ M' hi ⟨j,x1,x2,x3,x4,rfl,hj⟩
  have hi:i<5:=hi
  have hrl:(zb i).length<=256:=by
   rw[xY]
   have:4^i<=4^4:=Nat.pow_le_pow_right (by decide) (by omega)
   exact this
  refine⟨trivial,fun u hu=>?_⟩
  obtain⟨n,hn,rfl⟩:=hu
  have hjl:=(List.getElem?_eq_some_iff.mp hj).1
  have hj2:∀L:MM,(M'++L)[j]?=some (.lst (((zb i).map rowT).map U.p)):=fun L=>by rw[List.getElem?_append_left hjl]; exact hj
  walk_at "v"
  refine ky (hj2 _) ?_
  refine ufor_mut (fun k ρ M2=>∃(x3 x4:Option U),ρ=[some (.m j),some (.p (.str n)),some (.m M'.length),x3,x4]/\M2=M'++[MO.lst (((((zb i).take k).flatMap ext4).map rowT).map U.p)]) ⟨_,_,rfl,rfl⟩ ?_ ?_ ?_
  ·rintro k ρ M2 ⟨x3,x4,rfl,rfl⟩
   exact hj2 _
  ·rintro k z ρ M2 hz ⟨x3,x4,rfl,rfl⟩
   rw[List.getElem?_map] at hz
   obtain⟨t9,ht9,rfl⟩:=Option.map_eq_some_iff.mp hz
   obtain⟨row,hrow,rfl⟩:=qJ ht9
   have hr0:=rowsL_mem.mp (List.mem_of_getElem? hrow)
   have hkl:=(List.getElem?_eq_some_iff.mp hrow).1
   have hfl:(((zb i).take k).flatMap ext4).length<=1020:=by
    rw[flat_len,List.length_take]
    omega
   walk_at "v"
   simp only[uRng2]
   walk_at "v"
   refine⟨1,5,rfl,by decide, ?_⟩
   refine⟨fun m ρ M2=>∃x4:Option U,ρ=[some (.m j),some (.p (.str n)),some (.m M'.length),some (.p (rowT row)),x4]/\M2=M'++[MO.lst ((((((zb i).take k).flatMap ext4)++(List.range m).map fun(k:Nat)=>row++[1+(k:Int)]).map rowT).map U.p)],⟨_,rfl,by simp⟩, ?_, ?_⟩
   ·rintro m ρ M2 hm ⟨x4,rfl,rfl⟩
    have hm:m<4:=hm
    refine⟨trivial,fun u hu=>?_⟩
    have hu:u=.p (.int (1+(m:Int))):=hu
    subst hu
    generalize hacc:((((zb i).take k).flatMap ext4)++(List.range m).map fun(k:Nat)=>row++[1+(k:Int)])=acc
    have hal:acc.length<=1024:=by
     rw[<-hacc,List.length_append,List.length_map,List.length_range]
     omega
    have hlen:(M'++[MO.lst ((acc.map rowT).map U.p)])[M'.length]?=some (.lst ((acc.map rowT).map U.p)):=by simp
    walk_at "v"
    refine⟨_,rfl,⟨_,hlen⟩, ?_⟩
    walk_at "v"
    refine⟨row.map T.int, [.int (1+(m:Int))],rfl,rfl,by rw[List.length_map,hr0.1,sizeLine_eq]; simp; omega, ?_⟩
    refine⟨_,hlen, ?_,_,rfl, ?_⟩
    ·rw[List.length_map,List.length_map,sizeLine_eq]; omega
    ·rw[List.range_succ,show List.map (fun(k:Nat)=>row++[1+(k:Int)]) (List.range m++[m])=List.map (fun(k:Nat)=>row++[1+(k:Int)]) (List.range m)++[row++[1+(m:Int)]] from List.map_append, <-List.append_assoc,hacc]
     simp[rowT]
   ·rintro ρ M2 ⟨x4,rfl,rfl⟩
    refine⟨trivial,_,_,rfl, ?_⟩
    rw[Xk hrow]
    rfl
  ·rintro ρ M2 ⟨x3,x4,rfl,rfl⟩
   walk_at "v"
   refine⟨M'.length,_,_,_,_,rfl, ?_⟩
   rw[List.length_map,List.length_map,List.take_length]
   simp[zb]
 ·rintro ρ M' ⟨j,x1,x2,x3,x4,rfl,hj⟩
  walk_at "v"
  refine⟨trivial,_, ?_,q⟩
  have hj:M'[j]?=some (.lst (((zb 5).map rowT).map U.p)):=hj
  simp only[frzN,hj]
  rw[kN (fun t=>by cases t<;>rfl)]
  rfl
theorem k7 {b1 b2:Bool} {x y:U} {ts ss:List T} {ρ0:UEnv} {M:MM} {Q:UK} {ug:U->UEnv->MM->(UEnv->MM->Prop)->Prop} {ut:UT} {ua:UE} (hz:min ts.length ss.length<=sizeLine) (Iv:Nat->List T->MM->Prop) (hok:∀i acc M2,Iv i acc M2->jg b1 M2 x=some (ts.map U.p)/\jg b2 M2 y=some (ss.map U.p)) (h0:Iv 0 [] M)
  (hs:∀i t s acc M2,ts[i]?=some t->ss[i]?=some s->Iv i acc M2->ug (.p (.tup [t,s])) ρ0 M2 fun ρ4 M4=>ut ρ4 M4 fun b M5=>if b=true then ua ρ4 M5 fun z M6=>∃t,z=.p t/\Iv (i+1) (acc++[t]) M6 else Iv (i+1) acc M5) (hd:∀acc M2,Iv (min ts.length ss.length) acc M2->Q (.p (.lst acc)) M2):JW (itZ b1 b2 x y ts ss) ug ut ua ρ0 M Q:=by
 refine⟨hz,Iv,h0,fun i acc M2 hi ha h=>⟨hok _ _ _ h,fun u hu=>?_⟩,fun acc M2 h=>⟨hok _ _ _ h,hd acc M2 h⟩⟩
 obtain⟨t,s,h1,h2,rfl⟩:=hu
 exact hs i t s acc M2 h1 h2 h
abbrev jY:Stmt:=top 22
theorem Xq:FnScope ["weights", "widths"] ["weights", "widths"] (qi jY):=⟨rfl,rfl,rfl,by decide +kernel,rfl,by decide +kernel,by decide +kernel⟩
theorem ZH:(["weights", "widths", "weight", "width"]:List Str).Nodup:=by decide +kernel
def kG:List T->(T->Prop)->Prop:=fun ts Q=>∃(a b:List Int),ts=[.lst (a.map T.int), .lst (b.map T.int)]/\a.length=5/\b.length=5/\(∀x∈b,0<=x/\x<=100)/\Q (.int (dot a b))
theorem Zx {f:Addr} {fd:FuncData} (F:Fun K "weighed" "weighed" jY f fd) (N:Nms mg):FnOk P w K mg base CX0 1 f fd ["weights", "widths"] (spP kG):=by
 refine F.zP Xq (fun ts Qt h=>?_) (fun cdv A outer s H E hr=>?_)
 ·obtain⟨_,_,rfl,_⟩:=h
  rfl
 refine⟨_,(qj (qx (va (jr (K:=K) rfl rfl) (by rfl) N.sum b_sum (qa_c (xb [false,false] ["weight", "width"] (XC (b1:=true) (b2:=true) (K:=K) rfl rfl N.zip (qa_c (qv 0) (qa_c (qv 1) qf))) (fun _ _ _=>(Ql (K:=K) (i:=2) (j:=3) rfl ZH rfl rfl rfl (Or.inl rfl) (Or.inl rfl) (Or.inr rfl) (Or.inr rfl))) (fun _ _ _=>vP) (fun _ _ _=>(qw jG (qv 2) (qv 3)))) qf)))),_,(qB (jx kS (qc (qY (ci_zip (qc (qd 0) (qc (qd 1) qg))) (Q1 2 3) xp (qu (zH fun _ _=>.int _) (qd 2) (qd 3))) qg))),fun ts Qt h=>?_⟩
 obtain⟨a,b,rfl,ha,hb,hx,q⟩:=h
 walk_at "v"
 simp only[uZip]
 walk_at "v"
 refine⟨_,_,a.map T.int,b.map T.int,rfl,rfl,rfl, ?_⟩
 refine k7 (by rw[List.length_map,ha,sizeLine_eq]; omega) (fun i acc M'=>M'=[]/\acc=(((a.zip b).take i).map fun p:Int×Int=>p.1*p.2).map T.int) (fun i acc M2 h=>⟨rfl,rfl⟩) ⟨rfl,rfl⟩ ?_ ?_
 ·rintro i t s acc M' ht hs ⟨rfl,rfl⟩
  obtain⟨x,hx1,rfl⟩:=qJ ht
  obtain⟨y,hy1,rfl⟩:=qJ hs
  have hy2:=hx y (List.mem_of_getElem? hy1)
  walk_at "v"
  refine⟨.inr ⟨by omega,by omega⟩, ?_⟩
  rw[qk (x:=(x,y)) (by rw[List.getElem?_zip_eq_some]; exact⟨hx1,hy1⟩),List.map_append,List.map_append]
  rfl
 ·rintro acc M' ⟨rfl,rfl⟩
  rw[List.length_map,List.length_map, <-List.length_zip,List.take_length]
  walk_at "v"
  exact⟨_,rfl,q⟩
def vR:Pos:=⟨85,37,85,76⟩
def jv:Str:=Str.ofString "best" ++ ".<locals>." ++ "<lambda>"
theorem go3 {bits:Int} (hb:8<=bits/\bits<=32):goB bits [3,3,3,1,3]=true:=by
 refine go5.mpr ⟨hb,by omega,by omega,by omega,by omega,by omega, ?_⟩
 have e1:pw bits 1=4*2^(bits-3).toNat:=by
  unfold pw
  rw[show(4:Int)=2^2 by decide, <-Int.pow_add]
  congr 1
  omega
 have e2:(2:Int)^bits.toNat=8*2^(bits-3).toNat:=by
  rw[show(8:Int)=2^3 by decide, <-Int.pow_add]
  congr 1
  omega
 rw[e1,e2]
 unfold pw
 omega
def jL (bits:Int):List (List Int):=(zb 5).filter (goB bits)
theorem Z0 {bits:Int} (hb:8<=bits/\bits<=32):0<(jL bits).length:=List.length_pos_iff.mpr fun e=>by
 have:[3,3,3,1,3]∈jL bits:=List.mem_filter.mpr ⟨rowsL_mem.mpr ⟨rfl,by decide⟩,go3 hb⟩
 rw[e] at this
 cases this
abbrev sBest:Stmt:=top 23
theorem scBest:FnScope ["bits", "weights", "going"] ["bits", "weights"] (qi sBest):=⟨rfl,rfl,rfl,by decide +kernel,rfl,by decide +kernel,by decide +kernel⟩
theorem ndBest1:(["bits", "weights", "going", "widths"]:List Str).Nodup:=by decide +kernel
def gBest (tb tb2:Addr):List U->MM->UK->Prop:=fun us M Q=>∃(bits:Int) (wts:List Int) (k k2:Nat),us=[.p (.int bits), .p (.lst (wts.map T.int))]/\(8<=bits/\bits<=32)/\wts.length=5/\M[k]?=some (.tab tb vX lamQ)/\M[k2]?=some (.tab tb2 vR jv) /\
 ∀ws ms,ws.length=5->(∀x∈ws,1<=x/\x<=4)->goB bits ws=true->(∀ws':List Int,ws'.length=5->(∀x∈ws',1<=x/\x<=4)->goB bits ws'=true->dot wts ws<=dot wts ws')->MadeM ws ms->Q (.p (layT bits ms)) M
theorem ok_best {c tb tb2:Addr} {f:Addr} {fd:FuncData} (F:Fun K "best" "best" sBest f fd) (N:Nms mg) (hcode2:fd.code=.ref c) (hC2:PySem.W.CodeHd base c tb2) (hB2:base.BuiltinsAt mg tb2) (DWidthRows:Def P w K mg base "width_rows" 1 [] (spP xB)) (DWidthsGo:Def P w K mg base "widths_go" 2 ["bits", "widths"] (spP xl)) (DWeighed:Def P w K mg base "weighed" 1 ["weights", "widths"] (spP kG)) (DMade:Def P w K mg base "made" 3 ["bits", "widths"] (spU (Z1 tb))):FnOk P w K mg base CX0 4 f fd ["bits", "weights"] (spU (gBest tb tb2)):=by
 refine F.zUC scBest (fun us M Qu h=>?_) (fun cdv A outer s H E hcv hr=>?_)
 ·obtain⟨_,_,_,_,rfl,_⟩:=h
  rfl
 have hcv:cdv=.ref c:=hcv.symm.trans hcode2
 have LAM:LamC (cxOf CX0 P w K mg base ["bits", "weights", "going"] "best" (qi sBest) f cdv A outer s H E).nox c tb2:=⟨hcv,hC2,hB2⟩
 refine⟨_,(qh (XB (i:=2) [true,false,false] ["widths"] scBest.nd rfl rfl (qG (K:=K) rfl (ka DWidthRows (hr.mono (by first|decide|exact Nat.le_refl _)))) (fun _ _ _=>(qO (i:=3) ndBest1 rfl (Or.inl rfl))) (fun _ _ _=>v5 (zK (qo DWidthsGo (hr.mono (by first|decide|exact Nat.le_refl _)) (qa_c (qv 0) (qa_c (qv 3) qf))))) (fun _ _ _=>(qv 3)))
  (qh (zd (zn (xZ (K:=K) rfl (qv 2) (fun _=>rfl)))
   (qj (qx zL))
   vd)
  (qj (qx (qo DMade (hr.mono (by first|decide|exact Nat.le_refl _)) (qa_c (qv 0) (qa_c (XE (K:=K) rfl rfl LAM (hr.mono (by decide)) DWeighed N.min (qa_c (qv 2) qf) rfl (i:=1) rfl) qf))))))),_,(ql (qC (qY (qU (qr qg)) (vg 3) (ct_b (qr (qc (qd 0) (qc (qd 3) qg)))) (qd 3)) (qm 2))
   (ql (zI (zr (ct_tru (qd 2)))
   (qB (ce_c .non))
   vj)
   (qB (qp (qc (qd 0) (qc (JK (qd 2)) qg)))))),fun us M1 Qu h=>?_⟩
 obtain⟨bits,wts,k,k2,rfl,hb,h5,hk,hk2,q⟩:=h
 walk_at "v"
 refine⟨rfl, ?_⟩
 walk_at "v"
 refine qW (by rw[List.length_map,xY,sizeLine_eq]; decide) (fun i acc M'=>M'=M1/\acc=(((zb 5).take i).filter (goB bits)).map rowT) ⟨rfl,rfl⟩ ?_ ?_
 ·rintro i x acc M' hx _ ⟨rfl,rfl⟩
  obtain⟨r,hr,rfl⟩:=qJ hx
  have hr5:=(rowsL_mem.mp (List.mem_of_getElem? hr)).1
  walk_at "v"
  refine⟨bits,r,rfl,hr5,_,rfl, ?_⟩
  rw[qk hr,List.filter_append,List.map_append]
  refine ite2 (fun hh=>?_) (fun hh=>?_)
  ·walk_at "v"
   simp[hh]
  ·simp[hh]
 ·rintro acc M' ⟨rfl,rfl⟩
  rw[List.length_map,List.take_length]
  show uSeq _ _ _ [some (.p (.int bits)),some (.p (.lst (wts.map T.int))),some (.p (.lst ((jL bits).map rowT)))] _
  have hpos:=Z0 hb
  have hmem:∀r,r∈jL bits↔(r.length=5/\∀x∈r,1<=x/\x<=4)/\goB bits r=true:=fun r=>by rw[jL,List.mem_filter,rowsL_mem]
  generalize jL bits=rows at *
  walk_at "v"
  simp only[uTru]
  walk_at "v"
  have hne:(rows.map rowT).isEmpty=false:=by
   cases rows with
   |nil=>cases hpos
   |cons=>rfl
  refine⟨true,by simp only[truU,hne]; rfl, ?_⟩
  refine itn rfl ?_
  simp only[Vb]
  refine⟨_,rfl, ?_⟩
  walk_at "v"
  refine⟨k2,rows.map rowT,fun i=>dot wts (rows.getD i []),rfl,by rw[List.length_map]; exact hpos,hk2,fun i r hi=>?_,fun i r hi hmin=>?_⟩
  ·obtain⟨r,hr,rfl⟩:=qJ hi
   obtain⟨⟨r5,r4⟩,_⟩:=(hmem r).mp (List.mem_of_getElem? hr)
   refine⟨wts,r,rfl,h5,r5,fun x hx=>by have:=r4 x hx; omega, ?_⟩
   show T.int (dot wts r)=T.int (dot wts (rows.getD i []))
   rw[List.getD_eq_getElem?_getD,hr]
   rfl
  ·obtain⟨r,hr,rfl⟩:=qJ hi
   obtain⟨⟨r5,r4⟩,rg⟩:=(hmem r).mp (List.mem_of_getElem? hr)
   refine⟨bits,r,k,rfl,r5,hk,fun h=>absurd (rg.symm.trans h) (by decide),fun _ ms hm=>q r ms r5 r4 rg (fun ws' w5 w4 wg=>?_) hm⟩
   obtain⟨j,hj⟩:=List.getElem?_of_mem ((hmem ws').mpr ⟨⟨w5,w4⟩,wg⟩)
   have:dot wts (rows.getD i [])<=dot wts (rows.getD j []):=hmin j (by rw[List.length_map]; exact(List.getElem?_eq_some_iff.mp hj).1)
   rw[List.getD_eq_getElem?_getD,List.getD_eq_getElem?_getD,hr,hj] at this
   exact this
theorem Right.one_on {bits:Int} {ms:List Mk3} (r:Right bits ms) (word:Int):(ms.filter (on word)).length<=1:=by
 have hpw:(ms.filter (on word)).Pairwise fun m m'=>Disj m.2 m'.2:=r.d.sublist List.filter_sublist
 have hon:∀m∈ms.filter (on word),word % 2^m.2.1.toNat=m.2.2:=fun m hm=>of_decide_eq_true (List.mem_filter.mp hm).2
 match e:ms.filter (on word) with
 | []=>simp
 | [_]=>simp
 |a::b::l =>
  rw[e] at hpw hon
  exact absurd ⟨hon a (.head _),hon b (.tail _ (.head _))⟩ ((List.pairwise_cons.mp hpw).1 b (.head _) word)
abbrev sSum:Stmt:=top 33
theorem scSum:FnScope ["laying", "weights"] ["laying", "weights"] (qi sSum):=⟨rfl,rfl,rfl,by decide +kernel,rfl,by decide +kernel,by decide +kernel⟩
theorem ndSum1:(["laying", "weights", "weight", "kind"]:List Str).Nodup:=by decide +kernel
def gSum:List T->(T->Prop)->Prop:=fun ts Q=>∃(bits:Int) (ms:List Mk3) (wts:List Int),ts=[layT bits ms, .lst (wts.map T.int)]/\Right bits ms/\wts.length=5/\Q (.int (dot wts (qZ ms)))
theorem ok_sum {f:Addr} {fd:FuncData} (F:Fun K "_law_sum" "_law_sum" sSum f fd) (N:Nms mg) (DKinds:Def P w K mg base "_law_kinds" 1 [] (spU QU)) (DMark:Def P w K mg base "_law_mark" 1 ["laying", "kind"] (spP QR)):FnOk P w K mg base CX0 2 f fd ["laying", "weights"] (spP gSum):=by
 refine F.zP scSum (fun ts Qt h=>?_) (fun cdv A outer s H E hr=>?_)
 ·obtain⟨_,_,_,rfl,_⟩:=h
  rfl
 refine⟨_,(qj (qx (va (jr (K:=K) rfl rfl) (by rfl) N.sum b_sum (qa_c (xb [true,false] ["weight", "kind"] (XC (b1:=true) (b2:=true) (K:=K) rfl rfl N.zip (qa_c (qv 1) (qa_c (ka DKinds (hr.mono (by first|decide|exact Nat.le_refl _))) qf))) (fun _ _ _=>(Ql (K:=K) (i:=2) (j:=3) rfl ndSum1 rfl rfl rfl (Or.inl rfl) (Or.inl rfl) (Or.inr rfl) (Or.inr rfl))) (fun _ _ _=>vP) (fun _ _ _=>(qw jG (qv 2) (qI (qK (K:=K) rfl) (qo DMark (hr.mono (by first|decide|exact Nat.le_refl _)) (qa_c (qv 0) (qa_c (qv 3) qf))) qe (fun _ _=>rfl))))) qf)))),_,(qB (jx kS (qc (qY (ci_zip (qc (qd 1) (qc (qp qg) qg))) (Q1 2 3) xp (qu (zH fun _ _=>.int _) (qd 2) (vc (qr (qc (qd 0) (qc (qd 3) qg))) (ce_c (.int _))))) qg))),fun ts Qt h=>?_⟩
 obtain⟨bits,ms,wts,rfl,hR,h5,q⟩:=h
 walk_at "v"
 simp only[uZip]
 walk_at "v"
 refine⟨rfl, ?_⟩
 walk_at "v"
 refine⟨_,_,wts.map T.int,fiveK.map T.str,rfl,rfl,rfl, ?_⟩
 refine k7 (by rw[List.length_map,h5,sizeLine_eq]; omega) (fun i acc M'=>M'=[.lst ((fiveK.map T.str).map U.p)]/\acc=(((wts.zip (qZ ms)).take i).map fun p:Int×Int=>p.1*p.2).map T.int) (fun i acc M2 h=>by rw[h.1]; exact⟨rfl,rfl⟩) ⟨rfl,rfl⟩ ?_ ?_
 ·rintro i t s acc M' ht hs ⟨rfl,rfl⟩
  obtain⟨x,hx1,rfl⟩:=qJ ht
  obtain⟨kd,hk1,rfl⟩:=qJ hs
  obtain⟨m,hm⟩:=hR.kind (List.mem_of_getElem? hk1)
  have hmw:=hR.w m (List.mem_filter.mp (by obtain⟨r,e⟩:=hm; rw[e]; exact .head _)).1
  have hb:=hR.b
  have h2:=jd m.1
  walk_at "v"
  refine⟨bits,ms,kd,m,rfl,by rw[hR.n]; decide,hm, ?_⟩
  walk_at "v"
  refine⟨.inr ⟨by omega,by omega⟩, ?_⟩
  rw[qk (x:=(x,m.2.1)) (by rw[List.getElem?_zip_eq_some]; exact⟨hx1,by rw[qZ,List.getElem?_map,hk1]; exact congrArg some (wOf_of hm)⟩),List.map_append,List.map_append]
  rfl
 ·rintro acc M' ⟨rfl,rfl⟩
  rw[show min (wts.map T.int).length (fiveK.map T.str).length=(wts.zip (qZ ms)).length by rw[List.length_map,List.length_map,List.length_zip,zx]; rfl,List.take_length]
  walk_at "v"
  exact⟨_,rfl,q⟩
abbrev jX:Stmt:=top 35
theorem scWeights:FnScope ["bag", "way"] ["bag"] (qi jX):=⟨rfl,rfl,rfl,by decide +kernel,rfl,by decide +kernel,by decide +kernel⟩
theorem ZF:(["bag", "way", "k"]:List Str).Nodup:=by decide +kernel
def kE:List U->MM->UK->Prop:=fun us M Q=>∃(k:Nat) (o:MO),us=[.m k]/\M[k]?=some o/\BagO o/\∀(o':MO) (wts:List Int),BagO o'->wts.length=5->(∀x∈wts,0<=x)->Q (.p (.lst (wts.map T.int))) (M.set k o')
theorem Zw {f:Addr} {fd:FuncData} (F:Fun K "_law_weights" "_law_weights" jX f fd) (N:Nms mg) (DDraw:Def P w K mg base "_law_draw" 1 ["bag", "many"] (spU kL)):FnOk P w K mg base CX0 2 f fd ["bag"] (spU kE):=by
 refine F.zV scWeights (fun us M Qu h=>?_) (fun cdv A outer s H E hr=>?_)
 ·obtain⟨_,_,rfl,_⟩:=h
  rfl
 refine⟨_,(qh (qD (i:=1) scWeights.nd rfl (Or.inr rfl) (qo DDraw (hr.mono (by first|decide|exact Nat.le_refl _)) (qa_c (qv 0) (qa_c qe qf))))
  (qj (qx (xb [true,true] ["k"] (zo rfl N.range (qa_c qe qf)) (fun _ _ _=>(qO (i:=2) ZF rfl (Or.inl rfl))) (fun _ _ _=>vP) (fun _ _ _=>(qo DDraw (hr.mono (by first|decide|exact Nat.le_refl _)) (qa_c (qv 0) (qa_c (qI (qt (K:=K) rfl) (qV (qa_c qe (qa_c qe (qa_c (qw XV qe qe) qf)))) (qv 1) (fun _ _=>rfl)) qf)))))))),_,(ql (qC (qp (qc (qd 0) (qc (ce_c (.int _)) qg))) (qm 1))
   (qB (qY (jn (qc (ce_c (.int _)) qg)) (vg 2) xp (qp (qc (qd 0) (qc (vO (vG (qc (ce_c (.int _)) (qc (ce_c (.int _)) (qc (qu (zH fun _ _=>.int _) (ce_c (.int _)) (ce_c (.int _))) qg)))) (qd 1)) qg)))))),fun us M M1 Qu hM h=>?_⟩
 obtain⟨k,o,rfl,hk,hB,q⟩:=h
 obtain⟨hkl,eM⟩:=xN hk
 rw[hM.trans eM]
 walk_at "v"
 refine vh hkl hB (by decide) (by decide) fun way o1 w0 w1 B1=>?_
 have hway:∃top:Int,atI [T.int 5, .int 100, .int (10^(40:Int).toNat)] way=some (.int top)/\0<top/\top.natAbs.log2<9000:=by
  rcases(show way=0\/way=1\/way=2 by omega) with rfl|rfl|rfl
  ·exact⟨_,rfl,by decide,by decide⟩
  ·exact⟨_,rfl,by decide,by decide⟩
  ·exact⟨_,rfl,by decide,by decide⟩
 obtain⟨top,htop,ht0,ht1⟩:=hway
 refine Qj (by decide) (by decide) ?_
 refine xQ (by rw[sizeLine_eq]; decide) (fun i acc M'=>∃(o':MO) (wts:List Int),M'=MB M k o' []/\BagO o'/\acc=wts.map T.int/\wts.length=i/\∀x∈wts,0<=x) ⟨o1, [],rfl,B1,rfl,rfl,fun x hx=>by cases hx⟩ ?_ ?_
 ·rintro i acc M' hi _ ⟨o',wts,rfl,B',rfl,hl,h0⟩
  walk_at "v"
  refine⟨⟨by decide,by decide,by decide⟩, ?_⟩
  refine vK htop ?_
  walk_at "v"
  refine vh hkl B' ht0 ht1 fun d o2 d0 d1 B2=>?_
  refine⟨_,rfl,o2,wts++[d],rfl,B2,by simp,by rw[List.length_append,hl]; rfl,fun x hx=>?_⟩
  rcases List.mem_append.mp hx with hx|hx
  ·exact h0 x hx
  ·rw[List.mem_singleton.mp hx]; exact d0
 ·rintro acc M' ⟨o',wts,rfl,B',rfl,hl,h0⟩
  refine⟨js B'.pur, ?_⟩
  walk_at "v"
  rw[jt]
  exact q o' wts B' hl h0
abbrev zO:Stmt:=top 34
theorem scWordsRight:FnScope ["bag", "laying", "k", "word", "due"] ["bag", "laying"] (qi zO):=⟨rfl,rfl,rfl,by decide +kernel,rfl,by decide +kernel,by decide +kernel⟩
theorem km:(["bag", "laying", "k", "word", "due", "kind", "width", "pattern"]:List Str).Nodup:=by decide +kernel
theorem kj:(["bag", "laying", "k", "word", "due", "kind"]:List Str).Nodup:=by decide +kernel
def zW:List U->MM->UK->Prop:=fun us M Q=>∃(k:Nat) (o:MO) (bits:Int) (ms:List Mk3),us=[.m k, .p (layT bits ms)]/\M[k]?=some o/\BagO o/\Right bits ms/\∀(o':MO),BagO o'->Q (.p (.bl true)) (M.set k o')
theorem kg {f:Addr} {fd:FuncData} (F:Fun K "_law_words_right" "_law_words_right" zO f fd) (N:Nms mg) (DDraw:Def P w K mg base "_law_draw" 1 ["bag", "many"] (spU kL)) (DMarkOf:Def P w K mg base "mark_of" 2 ["laying", "word"] (spP Vy)) (DKinds:Def P w K mg base "_law_kinds" 1 [] (spU QU)) (DLoadBits:Def P w K mg base "load_bits" 2 ["laying", "kind"] (spP Z2)) (DLoad:Def P w K mg base "_law_load" 2 ["laying", "kind"] (spP Z2)):FnOk P w K mg base CX0 3 f fd ["bag", "laying"] (spU zW):=by
 refine F.zV scWordsRight (fun us M Qu h=>?_) (fun cdv A outer s H E hr=>?_)
 ·obtain⟨_,_,_,_,rfl,_⟩:=h
  rfl
 refine⟨_,(qh (v8 PassesOwn.never rfl (zo rfl N.range (qa_c qe qf)) (qO (i:=2) scWordsRight.nd rfl (Or.inl rfl))
   (qh (qD (i:=3) scWordsRight.nd rfl (Or.inr rfl) (qo DDraw (hr.mono (by first|decide|exact Nat.le_refl _)) (qa_c (qv 0) (qa_c (qw xg qe (qI (qK (K:=K) rfl) (qv 1) qe (fun _ _=>rfl))) qf))))
   (qh (XB (i:=4) [false,false,false,true,false] ["kind", "width", "pattern"] scWordsRight.nd rfl rfl (qG (K:=K) rfl (qI (qK (K:=K) rfl) (qv 1) qe (fun _ _=>rfl))) (fun _ _ _=>(Qk (K:=K) (i:=5) (j:=6) (k:=7) rfl km rfl rfl rfl rfl (Or.inl rfl) (Or.inl rfl) (Or.inl rfl) (Or.inr rfl) (Or.inr rfl) (Or.inr rfl))) (fun _ _ _=>v5 (qL Vn (qw xh (qv 3) (qw xg qe (qv 6))) (qv 7) (qQ _))) (fun _ _ _=>(qv 5)))
   (qj (zd (Vi (Zq (qL op_gt (va vY (by rfl) N.len VG (qa_c (qv 4) qf)) qe (qQ _)) (jB (qL XW (qo DMarkOf (hr.mono (by first|decide|exact Nat.le_refl _)) (qa_c (qv 1) (qa_c (qv 3) qf))) (qI (qt (K:=K) rfl) (qw jc (qv 4) (qV (qa_c zL qf))) qe (fun _ _=>rfl)) (qQ _)))))
    (qj (qx xG))
    vd)))))
  (qj (qx (jb (op_eqLK (K:=K) rfl hr.units) (xb [false,true,false,false,false] ["kind"] (qG (K:=K) rfl (ka DKinds (hr.mono (by first|decide|exact Nat.le_refl _)))) (fun _ _ _=>(qO (i:=5) kj rfl (Or.inl rfl))) (fun _ _ _=>v5 (qL XW (qo DLoadBits (hr.mono (by first|decide|exact Nat.le_refl _)) (qa_c (qv 1) (qa_c (qv 5) qf))) (qo DLoad (hr.mono (by first|decide|exact Nat.le_refl _)) (qa_c (qv 1) (qa_c (qv 5) qf))) (qQ _))) (fun _ _ _=>(qv 5))) (qV qf) (qQ _))))),_,(ql (zu (jn (qc (ce_c (.int _)) qg)) (qm 2)
   (ql (qC (qp (qc (qd 0) (qc (qu (zH fun _ _=>.int _) (ce_c (.int _)) (vc (qd 1) (ce_c (.int _)))) qg))) (qm 3))
   (ql (qC (qY (qU (vc (qd 1) (ce_c (.int _)))) (jo 5 6 7) (qP (qu Qq (qu (zH fun _ _=>.int _) (qd 3) (qu (zH fun _ _=>.int _) (ce_c (.int _)) (qd 6))) (qd 7))) (qd 5)) (qm 4))
   (zI (Z4 (qP (qu (qA fun _ _=>.bl _) (Q2 (qc (qd 4) qg)) (ce_c (.int _)))) (qP (qu Qp (qr (qc (qd 1) (qc (qd 3) qg))) (vO (qu zR (qd 4) (vG (qc (ce_c .non) qg))) (ce_c (.int _))))))
   (qB (ce_c (.bl _)))
   vj))))
   (qB (qu opl_eqL (qY (qU (qp qg)) (vg 5) (qP (qu Qp (qr (qc (qd 1) (qc (qd 5) qg))) (qr (qc (qd 1) (qc (qd 5) qg))))) (qd 5)) (vG qg)))),fun us M M1 Qu hM h=>?_⟩
 obtain⟨k,o,bits,ms,rfl,hk,hB,hR,q⟩:=h
 obtain⟨hkl,eM⟩:=xN hk
 rw[hM.trans eM]
 walk_at "v"
 have hb:=hR.b
 have hp:=pow_bits (bits:=bits) (by omega) (by omega)
 refine Qj (by decide) (by decide) ?_
 refine VN (fun i ρ M'=>∃(o':MO) (x2 x3 x4:Option U),ρ=[some (.m k),some (.p (layT bits ms)),x2,x3,x4]/\M'=MB M k o' []/\BagO o') ⟨o,_,_,_,rfl,rfl,hB⟩ ?_ ?_
 ·rintro i ρ M' hi ⟨o',x2,x3,x4,rfl,rfl,B'⟩
  walk_at "v"
  refine⟨⟨by omega,by omega,by decide⟩, ?_⟩
  refine vh hkl B' hp.1 (log2_lt hp.1 hp.2) fun word o2 d0 d1 B2=>?_
  walk_at "v"
  refine qW (by rw[List.length_map,hR.n,sizeLine_eq]; decide) (fun i acc M'=>M'=MB M k o2 []/\acc=(((ms.take i).filter (on word)).map (·.1)).map T.str) ⟨rfl,rfl⟩ ?_ ?_
  ·rintro i x acc M' hx _ ⟨rfl,rfl⟩
   obtain⟨m,hm,rfl⟩:=qJ hx
   have hmw:=hR.wd m (List.mem_of_getElem? hm)
   walk_at "v"
   refine⟨⟨by omega,by omega,by decide⟩, ?_, ?_⟩
   ·rw[Int.one_mul]; exact vy _
   rw[qk hm,List.filter_append,List.map_append,List.map_append,Int.one_mul]
   refine ite2 (fun hh=>?_) (fun hh=>?_)<;>simp[on,hh]
  ·rintro acc M' ⟨rfl,rfl⟩
   rw[List.length_map,List.take_length]
   have h1:=hR.one_on word
   walk_at "v"
   refine ite2 (fun hh=>?_) (fun _=>?_)
   ·rw[List.length_map,List.length_map] at hh
    omega
   refine⟨bits,ms,word,rfl,hR.wd,by rw[hR.n]; decide, ?_⟩
   refine⟨by rw[List.length_map,List.length_map,sizeLine_eq]; omega, ?_⟩
   unfold Vt
   match e:ms.filter (on word) with
   | [] =>
    walk_at "v"
    refine⟨.non, .non,rfl,rfl,rfl, ?_⟩
    refine⟨false,rfl, ?_⟩
    exact⟨o2,_,_,_,rfl,rfl,B2⟩
   | [m] =>
    walk_at "v"
    exact⟨o2,_,_,_,rfl,rfl,B2⟩
   |_::_::_=>rw[e] at h1; simp at h1
 ·rintro ρ M' ⟨o',x2,x3,x4,rfl,rfl,B'⟩
  walk_at "v"
  refine⟨rfl, ?_⟩
  walk_at "v"
  refine ky vH ?_
  refine xR (ts:=fiveK.map T.str) (by show 5<=sizeLine; rw[sizeLine_eq]; decide) (fun j acc M2=>M2=MB M k o' [.lst ((fiveK.map T.str).map U.p)]/\acc=[]) ⟨rfl,rfl⟩ (fun j acc M2 h=>by rw[h.1]; exact vH) ?_ ?_
  ·rintro j x acc M2 hx _ ⟨rfl,rfl⟩
   obtain⟨kd,hkd,rfl⟩:=qJ hx
   obtain⟨m,hm⟩:=hR.kind (List.mem_of_getElem? hkd)
   walk_at "v"
   refine⟨bits,ms,kd,m,rfl,by rw[hR.n]; decide,hm, ?_⟩
   refine⟨bits,ms,kd,m,rfl,by rw[hR.n]; decide,hm, ?_⟩
   walk_at "v"
  ·rintro acc M2 ⟨rfl,rfl⟩
   refine⟨_,_,rfl,rfl,eqNil ⟨js B'.pur, ?_⟩⟩
   walk_at "v"
   rw[jt]
   exact q o' B'
def Qg (K:PySem.W.Frag) (tb tb2:Addr):Sp:=fun vs H Q _=>∃(a:Addr) (ns:List Int),vs=[.ref a]/\SqL K H a (ns.map V.int)/\ns.length<=63/\H tb=some (.tbl #[])/\H tb2=some (.tbl #[])/\tb≠tb2/\∀H',Q (.bl true) H'
theorem law_okT {st:Stmt} {f tb tb2:Addr} {fd:FuncData} {N:List Str} {k:Nat} (F:Fun K "law" "law" st f fd) (S:FnScope N ["script"] (qi st)) (hN:2<=N.length)
  (hbody:∀(cdv:Value) (A:Around) (outer:List Env) (s:Shared) (H:Hp) (E:XK),Room k (A.deeper (envOfC "law" (qi st) s.heap.objs.size f cdv)) ->
   ∃tR,QSs (cxOf CX0 P w K mg base N "law" (qi st) f cdv A outer s H E).nox (vi st) (tSeq (tAsg (v3 (spBag K) [] E0 (vo (tVar 0) tNil)) (qE 1)) tR)/\∃uR,ZS tR uR/\∀o,BagO o->uR { nx:=fun _ _=>False,rt:=fun z _=>z=.p (.bl true) } (none::some (.m 0)::List.replicate (N.length-2) none) [o, .tab tb vX lamQ, .tab tb2 vR jv]):FnOk P w K mg base CX0 (k+1) f fd ["script"] (Qg K tb tb2):=by
 refine F.okQ S (fun vs H Q E h=>?_) (fun cdv A outer s H vs Q E hr h=>?_)
 ·obtain⟨_,_,rfl,_⟩:=h
  rfl
 ·obtain⟨a,ns,rfl,hS,hlen,hT,hT2,hne,k⟩:=h
  obtain⟨tR,hT9,uR,hU,hq⟩:=hbody cdv A outer s H E hr
  refine⟨_,hT9, ?_⟩
  have hN2:L2.start N [.ref a]=some (.ref a)::none::List.replicate (N.length-2) none:=by
   unfold L2.start
   obtain⟨m,hm⟩:∃m,N.length=m+2:=⟨N.length-2,by omega⟩
   rw[hm]
   rfl
  rw[hN2]
  simp only[tSeq,tAsg,v3,vo,tNil,tVar,qE,List.getElem?_cons_zero,Option.some.injEq,exists_eq_left',List.append_nil,List.set_cons_zero,List.set_cons_succ]
  refine⟨a,ns,rfl,hS,hlen,fun b H1 hb s1 B1=>?_⟩
  have hT1:=s1 tb _ hT
  have hT21:=s1 tb2 _ hT2
  have nbt2:b≠tb2:=fun z=>by rw[z,hT2] at hb; cases hb
  have nbt:b≠tb:=fun z=>by rw[z,hT] at hb; cases hb
  obtain⟨c,ns',i,a',st',n,hbb,hcc,r⟩:=id B1.ex
  have ncb:c≠b:=JQ hbb hcc
  have nct:c≠tb:=fun z=>by rw[z,hT1] at hcc; cases hcc
  have nct2:c≠tb2:=fun z=>by rw[z,hT21] at hcc; cases hcc
  obtain⟨o,hbo,ro,_⟩:=Zh (A:=fun _=>False) (ι:=[b,tb,tb2]) B1 ⟨_,hbb⟩ (fun z=>z.elim id fun z=>by
   rcases List.mem_cons.mp z with z|z
   ·exact ncb z
   ·rcases List.mem_cons.mp z with z|z
    ·exact nct z
    ·exact nct2 (List.mem_singleton.mp z))
  have w1:L2.Wd (fun _=>False) [b,tb,tb2] H1 [o, .tab tb vX lamQ, .tab tb2 vR jv]:=⟨by simp[nbt,nbt2,hne],rfl,fun x hx=>hx.elim,fun x _ z=>z,fun k a2 o2 e1 e2=>by
   match k,e1,e2 with
   |0,e1,e2=>cases e1; cases e2; exact ro
   |1,e1,e2=>cases e1; cases e2; exact⟨#[],hT1,⟨trivial,rfl⟩, .inl rfl⟩
   |2,e1,e2=>cases e1; cases e2; exact⟨#[],hT21,⟨trivial,rfl⟩, .inl rfl⟩
   |k+3,e1,_=>simp at e1⟩
  have env:EnvR (fun _=>False) [b,tb,tb2] H1 (some (.ref a)::some (.ref b)::List.replicate (N.length-2) none) (none::some (.m 0)::List.replicate (N.length-2) none):=by
   refine .cons (fun u e=>by cases e) (.cons (fun u e=>by cases e; exact⟨_,rfl, .m rfl⟩) ?_)
   generalize N.length-2=m
   induction m with
   |zero=>exact .nil
   |succ m ih=>exact .cons (fun u e=>by cases e) ih
  refine hU.h (fun _=>False) [b,tb,tb2] _ H1 _ [o, .tab tb vX lamQ, .tab tb2 vR jv] _ { nx:=fun _ _=>False,rt:=fun z _=>z=.p (.bl true) } w1 env ⟨fun _ _ _ _ _ _ _ _ q=>q.elim,fun ι v H2 u M _ _ ru q=>?_,fun _ _ _ _ _ _ _ _ q=>q.elim,fun _ _ _ _ _ _ _ _ q=>q.elim⟩ (hq o hbo)
  have q:u=.p (.bl true):=q
  subst q
  cases ru with
  |p r=>cases r; exact k H2
theorem drawL {o:MO} {L:List MO} {many:Int} {Q:UK} (B:BagO o) (h0:0<many) (h1:many.natAbs.log2<9000) (q:∀(found:Int) (o':MO),0<=found->found<many->BagO o'->Q (.p (.int found)) (o'::L)):kL [.m 0, .p (.int many)] (o::L) Q :=
 ⟨0,o,many,rfl,rfl,B,h0,h1,fun f o' f0 f1 B'=>q f o' f0 f1 B'⟩
def otT (bits:Int):Option (List Mk3)->T
 |none=>.non
 |some ms=>layT bits ms
theorem made_any {tb:Addr} {bits:Int} {ws:List Int} {k:Nat} {M:MM} {Q:UK} (h5:ws.length=5) (hk:M[k]?=some (.tab tb vX lamQ)) (q:∀ot:Option (List Mk3),(∀ms,ot=some ms->goB bits ws=true/\MadeM ws ms)->Q (.p (otT bits ot)) M):Z1 tb [.p (.int bits), .p (.lst (ws.map T.int))] M Q :=
 ⟨bits,ws,k,rfl,h5,hk,fun _=>q none fun ms e=>(by cases e),fun hg ms hm=>q (some ms) fun ms' e=>by cases e; exact⟨hg,hm⟩⟩
theorem made_go {tb:Addr} {bits:Int} {ws:List Int} {k:Nat} {M:MM} {Q:UK} (h5:ws.length=5) (hg:goB bits ws=true) (hk:M[k]?=some (.tab tb vX lamQ)) (q:∀ms,MadeM ws ms->Q (.p (layT bits ms)) M):Z1 tb [.p (.int bits), .p (.lst (ws.map T.int))] M Q :=
 ⟨bits,ws,k,rfl,h5,hk,fun h=>absurd (hg.symm.trans h) (by decide),fun _ ms hm=>q ms hm⟩
structure Told (bits:Int) (wts:List Int) (low:Int) (ms:List Mk3):Prop where
 r:Right bits ms
 f:QY bits ms=.non
 l:low<=dot wts (qZ ms)
theorem least_of {bits:Int} {wts ws:List Int} (h0:∀x∈wts,0<=x) (hl:∀ws':List Int,ws'.length=5->(∀x∈ws',1<=x/\x<=4)->goB bits ws'=true->dot wts ws<=dot wts ws') {v:List Int} (h5:v.length=5) (hg:goB bits v=true):dot wts ws<=dot wts v:=by
 refine Int.le_trans (hl (v.map cap4) (by rw[List.length_map]; exact h5) (fun x hx=>?_) (go_cap h5 hg)) (Jz h0)
 obtain⟨y,hy,rfl⟩:=List.mem_map.mp hx
 have hy1:1<=y:=by
  match v,h5 with
  | [a,b,c,d,e],_ =>
   obtain⟨_,ha,hb,hc,hd,he,_⟩:=go5.mp hg
   simp only[List.mem_cons,List.not_mem_nil,or_false] at hy
   rcases hy with rfl|rfl|rfl|rfl|rfl<;>omega
 unfold cap4
 split<;>omega
abbrev sLaw:Stmt:=top 36
theorem scLaw:FnScope ["script", "bag", "turn", "drawn", "bits", "widths", "again", "weights", "least", "other", "laying", "more"] ["script"] (qi sLaw):=⟨rfl,rfl,rfl,by decide +kernel,rfl,by decide +kernel,by decide +kernel⟩
theorem ndLaw1:(["script", "bag", "turn", "drawn", "bits", "widths", "again", "weights", "least", "other", "laying", "more", "kind"]:List Str).Nodup:=by decide +kernel
theorem ndLaw2:(["script", "bag", "turn", "drawn", "bits", "widths", "again", "weights", "least", "other", "laying", "more", "k"]:List Str).Nodup:=by decide +kernel
theorem ndLaw3:(["script", "bag", "turn", "drawn", "bits", "widths", "again", "weights", "least", "other", "laying", "more", "weight"]:List Str).Nodup:=by decide +kernel
theorem ok_lawU {f tb tb2:Addr} {fd:FuncData} (F:Fun K "law" "law" sLaw f fd) (N:Nms mg) (DBag:Def P w K mg base "_law_bag" 1 ["script"] (spBag K)) (DDraw:Def P w K mg base "_law_draw" 1 ["bag", "many"] (spU kL)) (DLaying:Def P w K mg base "_law_laying" 3 ["bag"] (spU Vz)) (DKinds:Def P w K mg base "_law_kinds" 1 [] (spU QU)) (DMark:Def P w K mg base "_law_mark" 1 ["laying", "kind"] (spP QR)) (DMade:Def P w K mg base "made" 3 ["bits", "widths"] (spU (Z1 tb))) (DWeights:Def P w K mg base "_law_weights" 2 ["bag"] (spU kE)) (DBest:Def P w K mg base "best" 4 ["bits", "weights"] (spU (gBest tb tb2))) (DLayingFault:Def P w K mg base "laying_fault" 4 ["laying"] (spP Jx)) (DWordsRight:Def P w K mg base "_law_words_right" 3 ["bag", "laying"] (spU zW)) (DSum:Def P w K mg base "_law_sum" 2 ["laying", "weights"] (spP gSum)):FnOk P w K mg base CX0 5 f fd ["script"] (Qg K tb tb2):=by
 refine law_okT F scLaw (by decide) (fun cdv A outer s H E hr=>?_)
 refine⟨_,(qh (qD (i:=1) scLaw.nd rfl (Or.inr rfl) (qo DBag (hr.mono (by first|decide|exact Nat.le_refl _)) (qa_c (qv 0) qf)))
  (qh (v8 PassesOwn.never rfl (zo rfl N.range (qa_c (qw vk qe (qo DDraw (hr.mono (by first|decide|exact Nat.le_refl _)) (qa_c (qv 1) (qa_c qe qf)))) qf)) (qO (i:=2) scLaw.nd rfl (Or.inl rfl))
   (qh (qD (i:=3) scLaw.nd rfl (Or.inr rfl) (qo DLaying (hr.mono (by first|decide|exact Nat.le_refl _)) (qa_c (qv 1) qf)))
   (qh (qD (i:=4) scLaw.nd rfl (Or.inl rfl) (qI (qK (K:=K) rfl) (qv 3) qe (fun _ _=>rfl)))
   (qh (XB (i:=5) [false,false,false,true,false,false,false,false,false,false,false,false] ["kind"] scLaw.nd rfl rfl (qG (K:=K) rfl (ka DKinds (hr.mono (by first|decide|exact Nat.le_refl _)))) (fun _ _ _=>(qO (i:=12) ndLaw1 rfl (Or.inl rfl))) (fun _ _ _=>vP) (fun _ _ _=>(qI (qK (K:=K) rfl) (qo DMark (hr.mono (by first|decide|exact Nat.le_refl _)) (qa_c (qv 3) (qa_c (qv 12) qf))) qe (fun _ _=>rfl))))
   (qh (qD (i:=6) scLaw.nd rfl (Or.inl rfl) (qo DMade (hr.mono (by first|decide|exact Nat.le_refl _)) (qa_c (qv 4) (qa_c (xc xE (by rfl) N.list b_list (qa_c (qv 5) qf)) qf))))
   (qh (qD (i:=7) scLaw.nd rfl (Or.inl rfl) (qo DWeights (hr.mono (by first|decide|exact Nat.le_refl _)) (qa_c (qv 1) qf)))
   (qh (qD (i:=8) scLaw.nd rfl (Or.inl rfl) (qo DBest (hr.mono (by first|decide|exact Nat.le_refl _)) (qa_c (qv 4) (qa_c (xc xE (by rfl) N.list b_list (qa_c (qv 7) qf)) qf))))
   (qh (qD (i:=9) scLaw.nd rfl (Or.inl rfl) (qo DMade (hr.mono (by first|decide|exact Nat.le_refl _)) (qa_c (qv 4) (qa_c (xb [false,true,false,false,false,false,false,false,false,false,false,false] ["k"] (zo rfl N.range (qa_c qe qf)) (fun _ _ _=>(qO (i:=12) ndLaw2 rfl (Or.inl rfl))) (fun _ _ _=>vP) (fun _ _ _=>(qw vk qe (qo DDraw (hr.mono (by first|decide|exact Nat.le_refl _)) (qa_c (qv 1) (qa_c qe qf)))))) qf))))
   (qh (v8 PassesOwn.never rfl (qG (K:=K) rfl (qw jc (qV (qa_c (qv 6) (qa_c (qv 8) qf))) (qw op_rep (qV (qa_c (qv 9) qf)) (xc Q3 (by rfl) N.int b_int (qa_c (jb Vl (qv 9) zL (qQ _)) qf))))) (qO (i:=10) scLaw.nd rfl (Or.inl rfl))
    (qh (zd (Vi (Zq (qL Vl (qo DLayingFault (hr.mono (by first|decide|exact Nat.le_refl _)) (qa_c (qv 10) qf)) zL (qQ _)) (jB (zn (zK (qo DWordsRight (hr.mono (by first|decide|exact Nat.le_refl _)) (qa_c (qv 1) (qa_c (qv 10) qf))))))))
     (qj (qx xG))
     vd)
    (qj (zd (qL Zu (qo DSum (hr.mono (by first|decide|exact Nat.le_refl _)) (qa_c (qv 10) (qa_c (qv 7) qf))) (qo DSum (hr.mono (by first|decide|exact Nat.le_refl _)) (qa_c (qv 8) (qa_c (qv 7) qf))) (qQ _))
     (qj (qx xG))
     vd))))
   (qh (zd (Vi (Zq (qL Zu (qo DSum (hr.mono (by first|decide|exact Nat.le_refl _)) (qa_c (qv 3) (qa_c (qv 7) qf))) (qo DSum (hr.mono (by first|decide|exact Nat.le_refl _)) (qa_c (qv 8) (qa_c (qv 7) qf))) (qQ _)) (jB (qL XW (qo DSum (hr.mono (by first|decide|exact Nat.le_refl _)) (qa_c (qv 6) (qa_c (qv 7) qf))) (qo DSum (hr.mono (by first|decide|exact Nat.le_refl _)) (qa_c (qv 3) (qa_c (qv 7) qf))) (qQ _)))))
    (qj (qx xG))
    vd)
   (qh (qD (i:=11) scLaw.nd rfl (Or.inr rfl) (qw vk qe (qo DDraw (hr.mono (by first|decide|exact Nat.le_refl _)) (qa_c (qv 1) (qa_c qe qf)))))
   (qj (zd (qL XW (qo DSum (hr.mono (by first|decide|exact Nat.le_refl _)) (qa_c (qo DBest (hr.mono (by first|decide|exact Nat.le_refl _)) (qa_c (qv 4) (qa_c (xb [false,false,false,false,false,false,false,false,false,false,false,true] ["weight"] (qG (K:=K) rfl (qv 7)) (fun _ _ _=>(qO (i:=12) ndLaw3 rfl (Or.inl rfl))) (fun _ _ _=>vP) (fun _ _ _=>(qw jG (qv 12) (qv 11)))) qf))) (qa_c (qv 7) qf))) (qo DSum (hr.mono (by first|decide|exact Nat.le_refl _)) (qa_c (qv 8) (qa_c (qv 7) qf))) (qQ _))
    (qj (qx xG))
    vd)))))))))))))
  (qj (qx xG)))),_,(ql (zu (jn (qc (qu (qA fun _ _=>.int _) (ce_c (.int _)) (qp (qc (qd 1) (qc (ce_c (.int _)) qg)))) qg)) (qm 2)
   (ql (qC (qp (qc (qd 1) qg)) (qm 3))
   (ql (qC (vc (qd 3) (ce_c (.int _))) (qm 4))
   (ql (qC (qY (qU (qp qg)) (vg 12) xp (vc (qr (qc (qd 3) (qc (qd 12) qg))) (ce_c (.int _)))) (qm 5))
   (ql (qC (qp (qc (qd 4) (qc (jx Zg (qc (qd 5) qg)) qg))) (qm 6))
   (ql (qC (qp (qc (qd 1) qg)) (qm 7))
   (ql (qC (qp (qc (qd 4) (qc (jx Zg (qc (qd 7) qg)) qg))) (qm 8))
   (ql (qC (qp (qc (qd 4) (qc (qY (jn (qc (ce_c (.int _)) qg)) (vg 12) xp (qu (qA fun _ _=>.int _) (ce_c (.int _)) (qp (qc (qd 1) (qc (ce_c (.int _)) qg))))) qg))) (qm 9))
   (ql (zu (qU (qu zR (vG (qc (qd 6) (qc (qd 8) qg))) (qu XU (vG (qc (qd 9) qg)) (jx JN (qc (VF (qd 9)) qg))))) (qm 10)
   (ql (zI (Z4 (qP (VF (qr (qc (qd 10) qg)))) (zr (ct_b (qp (qc (qd 1) (qc (qd 10) qg))))))
   (qB (ce_c (.bl _)))
   vj)
   (zI (qP (qu (qA fun _ _=>.bl _) (qr (qc (qd 10) (qc (qd 7) qg))) (qr (qc (qd 8) (qc (qd 7) qg)))))
   (qB (ce_c (.bl _)))
   vj)))
   (ql (zI (Z4 (qP (qu (qA fun _ _=>.bl _) (qr (qc (qd 3) (qc (qd 7) qg))) (qr (qc (qd 8) (qc (qd 7) qg))))) (qP (qu Qp (qr (qc (qd 6) (qc (qd 7) qg))) (qr (qc (qd 3) (qc (qd 7) qg))))))
   (qB (ce_c (.bl _)))
   vj)
   (ql (qC (qu (qA fun _ _=>.int _) (ce_c (.int _)) (qp (qc (qd 1) (qc (ce_c (.int _)) qg)))) (qm 11))
   (zI (qP (qu Qp (qr (qc (qp (qc (qd 4) (qc (qY (qU (qd 7)) (vg 12) xp (qu (zH fun _ _=>.int _) (qd 12) (qd 11))) qg))) (qc (qd 7) qg))) (qr (qc (qd 8) (qc (qd 7) qg)))))
   (qB (ce_c (.bl _)))
   vj))))))))))))
   (qB (ce_c (.bl _)))),fun o hB=>?_⟩
 show uSeq _ _ _ [none,some (.m 0),none,none,none,none,none,none,none,none,none,none] _
 walk_at "v"
 refine drawL hB (by decide) (by decide) fun d1 o1 d10 d11 B1=>?_
 walk_at "v"
 refine Qj (by omega) (by omega) ?_
 refine VN (fun i ρ M=>∃(o:MO) (L:List MO) (x2 x3 x4 x5 x6 x7 x8 x9 x10 x11:Option U),BagO o/\ρ=[none,some (.m 0),x2,x3,x4,x5,x6,x7,x8,x9,x10,x11]/\M=o :: .tab tb vX lamQ :: .tab tb2 vR jv::L) ⟨o1, [],_,_,_,_,_,_,_,_,_,_,B1,rfl,rfl⟩ ?_ ?_
 ·rintro i ρ M hi ⟨o2,L,x2,x3,x4,x5,x6,x7,x8,x9,x10,x11,B2,rfl,rfl⟩
  walk_at "v"
  refine⟨0,o2,rfl,rfl,B2,fun o3 bits ms B3 hR=>?_⟩
  walk_at "v"
  refine⟨rfl, ?_⟩
  walk_at "v"
  have hm9:(o3::MO.tab tb vX lamQ :: .tab tb2 vR jv::(L++[MO.lst ((fiveK.map T.str).map U.p)]))[L.length+1+1+1]?=some (.lst ((fiveK.map T.str).map U.p)):=by simp
  refine ky hm9 ?_
  generalize L++[MO.lst ((fiveK.map T.str).map U.p)]=L2 at hm9 ⊢
  refine xR (ts:=fiveK.map T.str) (by show 5<=sizeLine; rw[sizeLine_eq]; decide) (fun j acc M2=>M2=o3 :: .tab tb vX lamQ :: .tab tb2 vR jv::L2/\acc=((qZ ms).take j).map T.int) ⟨rfl,rfl⟩ (fun j acc M2 h=>by rw[h.1]; exact hm9) ?_ ?_
  ·rintro j x acc M2 hx _ ⟨rfl,rfl⟩
   obtain⟨kd,hkd,rfl⟩:=qJ hx
   obtain⟨m,hm⟩:=hR.kind (List.mem_of_getElem? hkd)
   walk_at "v"
   refine⟨bits,ms,kd,m,rfl,by rw[hR.n]; decide,hm, ?_⟩
   walk_at "v"
   rw[qk (x:=m.2.1) (by rw[qZ,List.getElem?_map,hkd]; exact congrArg some (wOf_of hm)),List.map_append]
   rfl
  rintro acc M2 ⟨rfl,rfl⟩
  rw[show(fiveK.map T.str).length=(qZ ms).length from rfl,List.take_length]
  have hw5:=zx ms
  have hgo:=hR.go
  have hb:=hR.b
  walk_at "v"
  refine⟨_,_,rfl,rfl, ?_⟩
  refine made_go hw5 hgo (k:=1) rfl fun ms1 hM1=>?_
  have hR1:=vW hw5 hgo hM1
  have hW1:=v6 hw5 hgo hM1
  have hF1:=xA hw5 hgo hM1
  walk_at "v"
  refine⟨0,o3,rfl,rfl,B3,fun o4 wts B4 hl5 h0=>?_⟩
  walk_at "v"
  refine⟨_,_,rfl,rfl, ?_⟩
  refine⟨bits,wts,1,2,rfl,hb,hl5,rfl,rfl,fun ws2 ms2 w25 w24 wg2 hmin2 hM2=>?_⟩
  have hR2:=vW w25 wg2 hM2
  have hW2:=v6 w25 wg2 hM2
  have hF2:=xA w25 wg2 hM2
  walk_at "v"
  refine Qj (by decide) (by decide) ?_
  refine xQ (by rw[sizeLine_eq]; decide) (fun i acc M'=>∃(o':MO) (ns:List Int),M'=o' :: .tab tb vX lamQ :: .tab tb2 vR jv::L2/\BagO o'/\acc=ns.map T.int/\ns.length=i) ⟨o4, [],rfl,B4,rfl,rfl⟩ ?_ ?_
  ·rintro i acc M' hi _ ⟨o',ns,rfl,B',rfl,hl⟩
   walk_at "v"
   refine drawL B' (by decide) (by decide) fun d o5 d0 d1 B5=>?_
   walk_at "v"
   exact⟨o5,ns++[1+d],rfl,B5,by simp,by rw[List.length_append,hl]; rfl⟩
  rintro acc M' ⟨o5,ns,rfl,B5,rfl,hn5⟩
  refine made_any (k:=1) hn5 rfl fun ot hot=>?_
  walk_at "v"
  refine⟨[otT bits ot],(if ot.isSome then 1 else 0),rfl,by cases ot<;>rfl,by split<;>decide,by split<;>decide,by rw[sizeLine_eq]; split<;>simp, ?_⟩
  rw[show(List.replicate (if ot.isSome=true then 1 else 0:Int).toNat [otT bits ot]).flatten=ot.toList.map (layT bits) by cases ot<;>rfl]
  have hol:ot.toList.length<=1:=by cases ot<;>simp
  refine⟨_,_,rfl,rfl,by rw[List.length_map,sizeLine_eq]; simp only[List.length_cons,List.length_nil]; omega, ?_⟩
  have low2:∀{v:List Int},v.length=5->goB bits v=true->dot wts ws2<=dot wts v:=fun h5 hg=>least_of h0 hmin2 h5 hg
  have told:∀m∈ms1::ms2::ot.toList,Told bits wts (dot wts ws2) m:=fun m hm=>by
   rcases List.mem_cons.mp hm with rfl|hm
   ·exact⟨hR1,hF1,by rw[hW1]; exact low2 hw5 hgo⟩
   rcases List.mem_cons.mp hm with rfl|hm
   ·exact⟨hR2,hF2,by rw[hW2]; exact Int.le_refl _⟩
   ·obtain⟨hg3,hM3⟩:=hot m (by simpa using hm)
    exact⟨vW hn5 hg3 hM3,xA hn5 hg3 hM3,by rw[v6 hn5 hg3 hM3]; exact low2 hn5 hg3⟩
  rw[show[layT bits ms1,layT bits ms2]++ot.toList.map (layT bits)=(ms1::ms2::ot.toList).map (layT bits) from rfl]
  generalize ms1::ms2::ot.toList=lays at told
  refine⟨_,rfl, ?_⟩
  refine ze (fun _ ρ M=>∃(o:MO) (x10:Option U),BagO o/\ρ=[none,some (.m 0),some (.p (.int i)),some (.p (layT bits ms)),some (.p (.int bits)),some (.p (.lst ((qZ ms).map T.int))),some (.p (layT bits ms1)),some (.p (.lst (wts.map T.int))),some (.p (layT bits ms2)),some (.p (otT bits ot)),x10,x11]/\M=o :: .tab tb vX lamQ :: .tab tb2 vR jv::L2) ⟨o5,_,B5,rfl,rfl⟩ ?_ ?_
  ·rintro i9 x ρ M hx ⟨o6,x10,B6,rfl,rfl⟩
   obtain⟨m,hm,rfl⟩:=qJ hx
   have tm:=told m (List.mem_of_getElem? hm)
   walk_at "v"
   refine⟨bits,m,rfl, ?_⟩
   rw[tm.f]
   refine itn rfl ?_
   refine⟨0,o6,bits,m,rfl,rfl,B6,tm.r,fun o7 B7=>?_⟩
   walk_at "v"
   refine⟨bits,m,wts,rfl,tm.r,hl5, ?_⟩
   refine⟨bits,ms2,wts,rfl,hR2,hl5, ?_⟩
   have tl:=tm.l
   rw[hW2]
   walk_at "v"
   refine ite2 (fun h=>absurd h (by omega)) (fun _=>?_)
   exact⟨o7,_,B7,rfl,rfl⟩
  ·rintro ρ M ⟨o6,x10,B6,rfl,rfl⟩
   walk_at "v"
   have lo:=low2 hw5 hgo
   refine⟨bits,ms,wts,rfl,hR,hl5, ?_⟩
   refine⟨bits,ms2,wts,rfl,hR2,hl5, ?_⟩
   rw[hW2]
   walk_at "v"
   refine ite2 (fun h=>absurd h (by omega)) (fun _=>?_)
   refine⟨bits,ms1,wts,rfl,hR1,hl5, ?_⟩
   refine⟨bits,ms,wts,rfl,hR,hl5, ?_⟩
   rw[hW1]
   walk_at "v"
   refine drawL B6 (by decide) (by decide) fun d o7 d0 d1 B7=>?_
   walk_at "v"
   refine qW (by rw[List.length_map,hl5,sizeLine_eq]; decide) (fun i acc M'=>M'=o7 :: .tab tb vX lamQ :: .tab tb2 vR jv::L2/\acc=((wts.take i).map fun x=>x*(1+d)).map T.int) ⟨rfl,rfl⟩ ?_ ?_
   ·rintro i9 x acc M' hx _ ⟨rfl,rfl⟩
    obtain⟨w,hw,rfl⟩:=qJ hx
    walk_at "v"
    refine⟨.inr ⟨by omega,by omega⟩, ?_⟩
    rw[qk hw,List.map_append,List.map_append]
    rfl
   rintro acc M' ⟨rfl,rfl⟩
   rw[List.length_map,List.take_length]
   refine⟨bits,_,1,2,rfl,hb,by rw[List.length_map]; exact hl5,rfl,rfl,fun ws4 ms4 w45 w44 wg4 hmin4 hM4=>?_⟩
   have hR4:=vW w45 wg4 hM4
   have hW4:=v6 w45 wg4 hM4
   have same:dot wts ws4=dot wts ws2:=by
    have h1:=hmin2 ws4 w45 w44 wg4
    have h2:=hmin4 ws2 w25 w24 wg2
    rw[VB,VB] at h2
    have h3:=Int.le_of_mul_le_mul_left h2 (by omega)
    omega
   walk_at "v"
   refine⟨bits,ms4,wts,rfl,hR4,hl5, ?_⟩
   refine⟨bits,ms2,wts,rfl,hR2,hl5, ?_⟩
   rw[hW4,hW2,same]
   walk_at "v"
   exact⟨o7,L2,_,_,_,_,_,_,_,_,_,_,B7,rfl,rfl⟩
 ·rintro ρ M ⟨o2,L,x2,x3,x4,x5,x6,x7,x8,x9,x10,x11,B2,rfl,rfl⟩
  walk_at "v"
end
end Mw
local macro_rules | `(tactic| walk_at "fk") => `(tactic| (refine' L2.fun_mk ?l ?c ?k; (case l=>k_is); (case c=>k_is); (case k=>k_is)))
local macro_rules | `(tactic| walk_at "fg") => `(tactic| (refine' ⟨?n, ?m⟩; (case n=>show _=_; k_is); (case m=>walk_at "fk")))
namespace Mw
open PySem L2
structure FG (K:PySem.W.Frag) (x:Str) (s:Stmt) (f:Addr) (d:FuncData):Prop where
 a:PySem.W.nsIn K mainGlobals x=some (some (.ref f))
 F:Fun K x x s f d
theorem ln1 {α:Type}:∀{l:List α},l.length=1->∃a,l=[a]
 | [a],_=>⟨a,rfl⟩
theorem ln2 {α:Type}:∀{l:List α},l.length=2->∃a b,l=[a,b]
 | [a,b],_=>⟨a,b,rfl⟩
theorem ln3 {α:Type}:∀{l:List α},l.length=3->∃a b c,l=[a,b,c]
 | [a,b,c],_=>⟨a,b,c,rfl⟩
theorem ln4 {α:Type}:∀{l:List α},l.length=4->∃a b c d,l=[a,b,c,d]
 | [a,b,c,d],_=>⟨a,b,c,d,rfl⟩
theorem ln5 {α:Type}:∀{l:List α},l.length=5->∃a b c d e,l=[a,b,c,d,e]
 | [a,b,c,d,e],_=>⟨a,b,c,d,e,rfl⟩
theorem all_mk {l:PySem.W.OpenLaw} {w:World} {K:PySem.W.Frag} {h:Heap} {mg:Str->Option Value} {fa f1 f2 f3 f4 f5 f6 f7 f8 f9 f10 f11 f12 f13 f14 f15 f16 f17 f18 f19 f20 f21 f22 f23 f24 f25 f26 f27 f28  : Addr} (X:K.In h) (G:h.Ns mainGlobals mg) {kc tb kc2 tb2:Addr} (hfa:mg "law" = some (.ref fa))
  {d1 d2 d3 d4 d5 d6 d7 d8 d9 d10 d11 d12 d13 d14 d15 d16 d17 d18 d19 d20 d21 d22 d23 d24 d25 d26 d27 d28:FuncData} {ft1:Addr} {tn1:Nat} {tsl1:Array (Option Value)} {tk1_0 tk1_1 tk1_2 tk1_3 tk1_4:Tok} {gk1:Tok} {gk2:Tok} {gk3:Tok} {fd_1:Addr} {ke1:Nat} {ka1_0 kb1_0 ka1_1 kb1_1 ka1_2 kb1_2 ka1_3 kb1_3 ka1_4 kb1_4:Tok}
  (A1:FG K "_law_bag" sBag f1 d1)
  (A2:FG K "_law_draw" sDraw f2 d2)
  (A3:FG K "bits_go" Vg f3 d3)
  (A4:FG K "width_goes" xu f4 d4)
  (A5:FG K "load_goes" xW f5 d5)
  (A6:FG K "marks_go" jZ f6 d6)
  (A7:FG K "has_form" j5 f7 d7)
  (A8:FG K "kinds_on" j4 f8 d8)
  (A9:FG K "least_double" zi f9 d9)
  (A10:FG K "laying_fault" zj f10 d10)
  (A11:FG K "mark_of" Ve f11 d11)
  (A12:FG K "mark_for" j3 f12 d12)
  (A13:FG K "load_bits" xX f13 d13)
  (A14:FG K "words_go" jW f14 d14)
  (A15:FG K "widths_go" xV f15 d15)
  (A16:FG K "made" sMade f16 d16)
  (A17:FG K "width_rows" xt f17 d17)
  (A18:FG K "weighed" jY f18 d18)
  (A19:FG K "best" sBest f19 d19)
  (A20:FG K "_law_full_laying" zQ f20 d20)
  (A21:FG K "_law_laying" Vf f21 d21)
  (A22:FG K "_law_mark" sMark f22 d22)
  (A23:FG K "_law_load" sLoad f23 d23)
  (A24:FG K "_law_kinds" Xu f24 d24)
  (A25:FG K "_law_sum" sSum f25 d25)
  (A26:FG K "_law_words_right" zO f26 d26)
  (A27:FG K "_law_weights" jX f27 d27)
  (A28:FG K "law" sLaw f28 d28)
  (z1:PySem.W.nsIn K mainGlobals "abs" = some none)
  (z2:PySem.W.nsIn K mainGlobals "len" = some none)
  (z3:PySem.W.nsIn K mainGlobals "min" = some none)
  (z4:PySem.W.nsIn K mainGlobals "max" = some none)
  (z5:PySem.W.nsIn K mainGlobals "sum" = some none)
  (z6:PySem.W.nsIn K mainGlobals "sorted" = some none)
  (z7:PySem.W.nsIn K mainGlobals "all" = some none)
  (z8:PySem.W.nsIn K mainGlobals "any" = some none)
  (z9:PySem.W.nsIn K mainGlobals "isinstance" = some none)
  (z10:PySem.W.nsIn K mainGlobals "range" = some none)
  (z11:PySem.W.nsIn K mainGlobals "int" = some none)
  (z12:PySem.W.nsIn K mainGlobals "list" = some none)
  (z13:PySem.W.nsIn K mainGlobals "str" = some none)
  (z14:PySem.W.nsIn K mainGlobals "bool" = some none)
  (z15:PySem.W.nsIn K mainGlobals "tuple" = some none)
  (z16:PySem.W.nsIn K mainGlobals "zip" = some none)
  (z17:PySem.W.nsIn K mainGlobals "enumerate" = some none)
  (z18:PySem.W.nsIn K mainGlobals "dict" = some none)
  (p1:PySem.W.nsIn K mainGlobals "KINDS" = some (some (.ref ft1)))
  (q1:K.lookup ft1=some ⟨.type "tuple", none, .seq #[.str "small" tk1_0, .str "far" tk1_1, .str "pair" tk1_2, .str "sign" tk1_3, .str "one" tk1_4] tn1,tsl1⟩)
  (g1:PySem.W.nsIn K mainGlobals "FEWEST_BITS" = some (some (.int 8 gk1)))
  (g2:PySem.W.nsIn K mainGlobals "MOST_BITS" = some (some (.int 32 gk2)))
  (g3:PySem.W.nsIn K mainGlobals "WIDEST_OF_BEST" = some (some (.int 4 gk3)))
  (kg1:PySem.W.nsIn K mainGlobals "LEAST_LOAD_BITS" = some (some (.ref fd_1)))
  (kl1:K.lookup fd_1=some ⟨.type "dict", none, .dict (([("small", ka1_0, .int 2 kb1_0),("far", ka1_1, .int 3 kb1_1),("pair", ka1_2, .int 3 kb1_2),("sign", ka1_3, .int 7 kb1_3),("one", ka1_4, .int 2 kb1_4)]:List (Str×Tok×Value)).map (entD w.params)).toArray ke1, #[]⟩)
  (hcode:d16.code=.ref kc) (hcode2:d19.code=.ref kc2) :
  ∃fd:FuncData,(∀(s:Shared) (v:Value),BindsTo s fd ⟨[v], []⟩ [("script", v)])/\∀base:Heap,K.In base->base.Ns mainGlobals mg->(PySem.W.CodeHd base kc tb/\base.BuiltinsAt mg tb)->(PySem.W.CodeHd base kc2 tb2/\base.BuiltinsAt mg tb2)->FnOk l.prog w K mg base CX0 5 fa fd ["script"] (Qg K tb tb2):=by
 have e:=hfa.symm.trans (PySem.W.mg_of X G A28.a)
 cases e
 have mo:=fun {x:Str} {v:Value} (a:PySem.W.nsIn K mainGlobals x=some (some v))=>PySem.W.mg_of X G a
 have mn:=fun {x:Str} (a:PySem.W.nsIn K mainGlobals x=some none)=>PySem.W.mg_none_of X G a
 have N:Nms mg:=⟨mn z1,mn z2,mn z3,mn z4,mn z5,mn z6,mn z7,mn z8,mn z9,mn z10,mn z11,mn z12,mn z13,mn z14,mn z15,mn z16,mn z17,mn z18⟩
 have TKinds:Tup5 K mg "KINDS" ft1 "small" "far" "pair" "sign" "one" := ⟨mo p1,_,_,_,_,_,_,_,q1⟩
 have GFew:GInt mg "FEWEST_BITS" 8:=⟨_,mo g1⟩
 have GMost:GInt mg "MOST_BITS" 32:=⟨_,mo g2⟩
 have GWide:GInt mg "WIDEST_OF_BEST" 4:=⟨_,mo g3⟩
 have DLeast:KDi K w mg "LEAST_LOAD_BITS" fd_1 Jj:=⟨mo kg1,_,_,kl1,by show(["small", "far", "pair", "sign", "one"]:List Str).Nodup; decide +kernel, .cons ⟨rfl,_,rfl⟩ (.cons ⟨rfl,_,rfl⟩ (.cons ⟨rfl,_,rfl⟩ (.cons ⟨rfl,_,rfl⟩ (.cons ⟨rfl,_,rfl⟩ (.nil)))))⟩
 have b1:=A1.F.binds (ps:=["script"]) fun _ _ _ _ _ _ _ h=>by obtain⟨_,rfl⟩:=ln1 h; rfl
 have b2:=A2.F.binds (ps:=["bag", "many"]) fun _ _ _ _ _ _ _ h=>by obtain⟨_,_,rfl⟩:=ln2 h; rfl
 have b3:=A3.F.binds (ps:=["bits"]) fun _ _ _ _ _ _ _ h=>by obtain⟨_,rfl⟩:=ln1 h; rfl
 have b4:=A4.F.binds (ps:=["bits", "width"]) fun _ _ _ _ _ _ _ h=>by obtain⟨_,_,rfl⟩:=ln2 h; rfl
 have b5:=A5.F.binds (ps:=["bits", "kind", "width"]) fun _ _ _ _ _ _ _ h=>by obtain⟨_,_,_,rfl⟩:=ln3 h; rfl
 have b6:=A6.F.binds (ps:=["bits", "marks"]) fun _ _ _ _ _ _ _ h=>by obtain⟨_,_,rfl⟩:=ln2 h; rfl
 have b7:=A7.F.binds (ps:=["laying"]) fun _ _ _ _ _ _ _ h=>by obtain⟨_,rfl⟩:=ln1 h; rfl
 have b8:=A8.F.binds (ps:=["marks", "word"]) fun _ _ _ _ _ _ _ h=>by obtain⟨_,_,rfl⟩:=ln2 h; rfl
 have b9:=A9.F.binds (ps:=["marks"]) fun _ _ _ _ _ _ _ h=>by obtain⟨_,rfl⟩:=ln1 h; rfl
 have b10:=A10.F.binds (ps:=["laying"]) fun _ _ _ _ _ _ _ h=>by obtain⟨_,rfl⟩:=ln1 h; rfl
 have b11:=A11.F.binds (ps:=["laying", "word"]) fun _ _ _ _ _ _ _ h=>by obtain⟨_,_,rfl⟩:=ln2 h; rfl
 have b12:=A12.F.binds (ps:=["laying", "kind"]) fun _ _ _ _ _ _ _ h=>by obtain⟨_,_,rfl⟩:=ln2 h; rfl
 have b13:=A13.F.binds (ps:=["laying", "kind"]) fun _ _ _ _ _ _ _ h=>by obtain⟨_,_,rfl⟩:=ln2 h; rfl
 have b14:=A14.F.binds (ps:=["bits", "widths"]) fun _ _ _ _ _ _ _ h=>by obtain⟨_,_,rfl⟩:=ln2 h; rfl
 have b15:=A15.F.binds (ps:=["bits", "widths"]) fun _ _ _ _ _ _ _ h=>by obtain⟨_,_,rfl⟩:=ln2 h; rfl
 have b16:=A16.F.binds (ps:=["bits", "widths"]) fun _ _ _ _ _ _ _ h=>by obtain⟨_,_,rfl⟩:=ln2 h; rfl
 have b17:=A17.F.binds (ps:=[]) fun _ _ _ _ _ _ us hl=>match us,hl with | [],_=>rfl
 have b18:=A18.F.binds (ps:=["weights", "widths"]) fun _ _ _ _ _ _ _ h=>by obtain⟨_,_,rfl⟩:=ln2 h; rfl
 have b19:=A19.F.binds (ps:=["bits", "weights"]) fun _ _ _ _ _ _ _ h=>by obtain⟨_,_,rfl⟩:=ln2 h; rfl
 have b20:=A20.F.binds (ps:=["bag", "bits", "order"]) fun _ _ _ _ _ _ _ h=>by obtain⟨_,_,_,rfl⟩:=ln3 h; rfl
 have b21:=A21.F.binds (ps:=["bag"]) fun _ _ _ _ _ _ _ h=>by obtain⟨_,rfl⟩:=ln1 h; rfl
 have b22:=A22.F.binds (ps:=["laying", "kind"]) fun _ _ _ _ _ _ _ h=>by obtain⟨_,_,rfl⟩:=ln2 h; rfl
 have b23:=A23.F.binds (ps:=["laying", "kind"]) fun _ _ _ _ _ _ _ h=>by obtain⟨_,_,rfl⟩:=ln2 h; rfl
 have b24:=A24.F.binds (ps:=[]) fun _ _ _ _ _ _ us hl=>match us,hl with | [],_=>rfl
 have b25:=A25.F.binds (ps:=["laying", "weights"]) fun _ _ _ _ _ _ _ h=>by obtain⟨_,_,rfl⟩:=ln2 h; rfl
 have b26:=A26.F.binds (ps:=["bag", "laying"]) fun _ _ _ _ _ _ _ h=>by obtain⟨_,_,rfl⟩:=ln2 h; rfl
 have b27:=A27.F.binds (ps:=["bag"]) fun _ _ _ _ _ _ _ h=>by obtain⟨_,rfl⟩:=ln1 h; rfl
 refine⟨d28,fun s v=>?_,fun base _ _ hC hB=>?_⟩
 ·obtain⟨_,_,_,_,_,_,_,_,_,rfl,_⟩:=A28.F.ex
  exact .of_eq rfl
 have DBag:Def l.prog w K mg base "_law_bag" 1 ["script"] (spBag K):=⟨f1,_,mo A1.a,A1.F.kp,b1,ok_bag A1.F N⟩
 have DDraw:Def l.prog w K mg base "_law_draw" 1 ["bag", "many"] (spU kL):=⟨f2,_,mo A2.a,A2.F.kp,b2,ok_drawU A2.F N⟩
 have DBitsGo:Def l.prog w K mg base "bits_go" 1 ["bits"] (spP kM):=⟨f3,_,mo A3.a,A3.F.kp,b3,XY A3.F GFew GMost⟩
 have DWidthGoes:Def l.prog w K mg base "width_goes" 1 ["bits", "width"] (spP zD):=⟨f4,_,mo A4.a,A4.F.kp,b4,Qv A4.F⟩
 have DLoadGoes:Def l.prog w K mg base "load_goes" 1 ["bits", "kind", "width"] (spP xn):=⟨f5,_,mo A5.a,A5.F.kp,b5,Vq A5.F DLeast⟩
 have DMarksGo:Def l.prog w K mg base "marks_go" 2 ["bits", "marks"] (spP kJ):=⟨f6,_,mo A6.a,A6.F.kp,b6,Zy A6.F DWidthGoes⟩
 have DHasForm:Def l.prog w K mg base "has_form" 3 ["laying"] (spP kK):=⟨f7,_,mo A7.a,A7.F.kp,b7,ZB A7.F N TKinds DBitsGo DMarksGo⟩
 have DKindsOn:Def l.prog w K mg base "kinds_on" 1 ["marks", "word"] (spP xo):=⟨f8,_,mo A8.a,A8.F.kp,b8,Qz A8.F⟩
 have DLeastDouble:Def l.prog w K mg base "least_double" 2 ["marks"] (spP Jw):=⟨f9,_,mo A9.a,A9.F.kp,b9,ok_least A9.F N DKindsOn⟩
 have DLayingFault:Def l.prog w K mg base "laying_fault" 4 ["laying"] (spP Jx):=⟨f10,_,mo A10.a,A10.F.kp,b10,ok_fault A10.F DHasForm DLeastDouble DLoadGoes⟩
 have DMarkOf:Def l.prog w K mg base "mark_of" 2 ["laying", "word"] (spP Vy):=⟨f11,_,mo A11.a,A11.F.kp,b11,Vp A11.F DKindsOn⟩
 have DMarkFor:Def l.prog w K mg base "mark_for" 1 ["laying", "kind"] (spP QR):=⟨f12,_,mo A12.a,A12.F.kp,b12,Qw A12.F⟩
 have DLoadBits:Def l.prog w K mg base "load_bits" 2 ["laying", "kind"] (spP Z2):=⟨f13,_,mo A13.a,A13.F.kp,b13,kh A13.F DMarkFor⟩
 have DWordsGo:Def l.prog w K mg base "words_go" 1 ["bits", "widths"] (spP kD):=⟨f14,_,mo A14.a,A14.F.kp,b14,Zv A14.F N⟩
 have DWidthsGo:Def l.prog w K mg base "widths_go" 2 ["bits", "widths"] (spP xl):=⟨f15,_,mo A15.a,A15.F.kp,b15,Vo A15.F N TKinds DBitsGo DWidthGoes DLoadGoes DWordsGo⟩
 have DMade:Def l.prog w K mg base "made" 3 ["bits", "widths"] (spU (Z1 tb)):=⟨f16,_,mo A16.a,A16.F.kp,b16,ok_made A16.F N TKinds hcode hC.1 hC.2 DKindsOn DWidthsGo⟩
 have DWidthRows:Def l.prog w K mg base "width_rows" 1 [] (spP xB):=⟨f17,_,mo A17.a,A17.F.kp,b17,Qr A17.F N TKinds GWide⟩
 have DWeighed:Def l.prog w K mg base "weighed" 1 ["weights", "widths"] (spP kG):=⟨f18,_,mo A18.a,A18.F.kp,b18,Zx A18.F N⟩
 have DBest:Def l.prog w K mg base "best" 4 ["bits", "weights"] (spU (gBest tb tb2)):=⟨f19,_,mo A19.a,A19.F.kp,b19,ok_best A19.F N hcode2 hB.1 hB.2 DWidthRows DWidthsGo DWeighed DMade⟩
 have DFullLaying:Def l.prog w K mg base "_law_full_laying" 2 ["bag", "bits", "order"] (spU gFull):=⟨f20,_,mo A20.a,A20.F.kp,b20,ok_fullU A20.F N DDraw⟩
 have DLaying:Def l.prog w K mg base "_law_laying" 3 ["bag"] (spU Vz):=⟨f21,_,mo A21.a,A21.F.kp,b21,Zz A21.F N DDraw DFullLaying⟩
 have DMark:Def l.prog w K mg base "_law_mark" 1 ["laying", "kind"] (spP QR):=⟨f22,_,mo A22.a,A22.F.kp,b22,Qx A22.F⟩
 have DLoad:Def l.prog w K mg base "_law_load" 2 ["laying", "kind"] (spP Z2):=⟨f23,_,mo A23.a,A23.F.kp,b23,Qy A23.F DMark⟩
 have DKinds:Def l.prog w K mg base "_law_kinds" 1 [] (spU QU):=⟨f24,_,mo A24.a,A24.F.kp,b24,XX A24.F⟩
 have DSum:Def l.prog w K mg base "_law_sum" 2 ["laying", "weights"] (spP gSum):=⟨f25,_,mo A25.a,A25.F.kp,b25,ok_sum A25.F N DKinds DMark⟩
 have DWordsRight:Def l.prog w K mg base "_law_words_right" 3 ["bag", "laying"] (spU zW):=⟨f26,_,mo A26.a,A26.F.kp,b26,kg A26.F N DDraw DMarkOf DKinds DLoadBits DLoad⟩
 have DWeights:Def l.prog w K mg base "_law_weights" 2 ["bag"] (spU kE):=⟨f27,_,mo A27.a,A27.F.kp,b27,Zw A27.F N DDraw⟩
 exact ok_lawU A28.F N DBag DDraw DLaying DKinds DMark DMade DWeights DBest DLayingFault DWordsRight DSum
theorem walk {l:PySem.W.OpenLaw} {q:Program} {loose:List Str} {XP:(Str->Option Value)->Heap->Prop} {YP:World->Heap->Prop} {d dm dn:DefRec} {K:Params->PySem.W.Frag} (hn:l.most=some 63) (hdf:d.params.defaults=[])
  (hY:∀(w:World) (h:Heap),YP w h->(K w.params).In h)
  (hdm:(PyProof.Rows.recsOf q).find? (fun e=>e.name==("made" : Str))=some dm) (hdn:(PyProof.Rows.recsOf q).find? (fun e=>e.name==("best" : Str))=some dn) (c T c2 T2:Addr) (hc:∀w:World,PySem.W.tabIn (K w.params) "made" = some (c,T)) (hc2:∀w:World,PySem.W.tabIn (K w.params) "best" = some (c2,T2)) (hK:∀w:World,PySem.W.noTabs (K w.params)=true) (hne:T≠T2)
  (F:∀(w:World) (mg:Str->Option Value) (fa:Addr) (h:Heap),(K w.params).In h->h.Ns mainGlobals mg->mg d.name=some (.ref fa) ->
   ∃fd:FuncData,(∀(s:Shared) (u:Value),BindsTo s fd ⟨[u], []⟩ [("script", u)])/\∀base:Heap,(K w.params).In base->base.Ns mainGlobals mg->(PySem.W.CodeHd base c T/\base.BuiltinsAt mg T)->(PySem.W.CodeHd base c2 T2/\base.BuiltinsAt mg T2)->FnOk l.prog w (K w.params) mg base CX0 5 fa fd ["script"] (Qg (K w.params) T T2)) :
  PySem.W.WalkO q loose XP YP l.row.toRowW d [] (fun f vs=>PySem.call f vs) :=
 L2.walk_ofT2 (y := "made") (z := "best") (n:=63) (k:=5) (x := "script") (CX:=fun _=>CX0) (sp:=fun w tb tb2=>Qg (K w.params) tb tb2) hn (by decide) hdf ⟨rfl,by decide,by decide,rfl⟩ hY hdm hdn c T c2 T2 hc hc2 hK F (fun _ _ a ns hl hT hT2 hS=>⟨a,ns,rfl,hS,hl,hT,hT2,hne,fun _=>rfl⟩) fun _ _ _ _ _ z=>z
end Mw
theorem PySem.W.Fast.te16148747032443467598:True:=True.intro
namespace Mw
open PySem PySem.W PySem.Calls PyProof.Rows L2
abbrev kC (n q:Str) (t l a:Nat) (x7:Int) (r8:Nat) (b9:Bool) (r11:Nat) (v12 v13 v14:Value) (r15 t16 t18:Nat):Obj:=⟨.type "code", none,(.fields #[.str n t, .str q (t+1), .str "/claim/cut.py" (t+2), .int l 0, .int a 0, .int 0 0, .int 0 0, .int x7 0, .ref r8, .bool b9, .int 181 0, .ref r11,v12,v13,v14, .ref r15, .int t16 0, .int l 0, .str "/claim/cut.py" t18]), #[]⟩
abbrev kF (n q:Str) (s:Stmt) (m:Value) (c:Nat):Obj:=⟨.type "function", none,(.func (PySem.W.fnOf n q (jk s) (vi s) (qi s) .none .none .none m none (.ref c) .none)), #[]⟩
abbrev kT (l:List Value):Obj:=⟨.type "tuple", none,(.seq l.toArray 0), #[]⟩
abbrev oE (P:Params) (n:Str) (t:Nat) (v:Value):DictEntry:=⟨PyData.keyHash P n, .str n t,v⟩
noncomputable def K:Params->Frag:=fun P =>
(nat_lit 2,⟨.none,none,(.dict #[] 0), #[]⟩) ::
(nat_lit 3,⟨.type "dict", none,(.dict [oE P "__name__" 165 (.str "law_markwords_k16_whole_chosen_hold" 359),oE P "__doc__" 166 (.none),oE P "__package__" 167 (.none),oE P "__loader__" 168 (.builtin "__main__.__loader__#opaque"),oE P "__spec__" 169 (.none),oE P "__annotations__" 170 (.ref 6),oE P "__builtins__" 171 (.ref 4),oE P "__file__" 173 (.str "/claim/cut.py" 172),oE P "__cached__" 174 (.none),oE P "KINDS" 194 (.ref 15),oE P "LEAST_LOAD_BITS" 210 (.ref 16),oE P "FEWEST_BITS" 212 (.int (8) 211),oE P "MOST_BITS" 214 (.int (32) 213),oE P "bits_go" 221 (.ref 23),oE P "width_goes" 229 (.ref 30),oE P "load_goes" 238 (.ref 37),oE P "marks_go" 249 (.ref 44),oE P "has_form" 255 (.ref 49),oE P "kinds_on" 261 (.ref 54),oE P "least_double" 267 (.ref 59),oE P "laying_fault" 280 (.ref 66),oE P "mark_of" 289 (.ref 73),oE P "mark_for" 295 (.ref 78),oE P "load_bits" 303 (.ref 85),oE P "WIDEST_OF_BEST" 307 (.int (4) 306),oE P "words_go" 313 (.ref 90),oE P "widths_go" 323 (.ref 97),oE P "made" 335 (.ref 104),oE P "width_rows" 346 (.ref 111),oE P "weighed" 352 (.ref 116),oE P "best" 358 (.ref 121),oE P "_law_bag" 366 (.ref 126),oE P "_law_draw" 375 (.ref 133),oE P "_law_full_laying" 381 (.ref 138),oE P "_law_laying" 387 (.ref 143),oE P "_law_mark" 393 (.ref 148),oE P "_law_load" 401 (.ref 155),oE P "_law_kinds" 407 (.ref 162),oE P "_law_needed" 414 (.ref 169),oE P "_law_sum" 420 (.ref 174),oE P "_law_words_right" 426 (.ref 179),oE P "_law_weights" 432 (.ref 184),oE P "law" 438 (.ref 189)].toArray 43), #[]⟩) ::
(nat_lit 15,⟨.type "tuple", none,(.seq #[.str "small" 189, .str "far" 190, .str "pair" 191, .str "sign" 192, .str "one" 193] 0), #[]⟩) ::
(nat_lit 16,⟨.type "dict", none,(.dict [oE P "small" 195 (.int (2) 196),oE P "far" 197 (.int (3) 198),oE P "pair" 199 (.int (3) 200),oE P "sign" 201 (.int (7) 202),oE P "one" 203 (.int (2) 204)].toArray 5), #[]⟩) ::
(nat_lit 22,kC "bits_go" "bits_go" 215 6 1 3 17 true 18 .none (.ref 19) (.ref 20) 21 219 220) ::
(nat_lit 23,kF "bits_go" "bits_go" (top 5) (.str "markwords.layings" 187) 22) ::
(nat_lit 29,kC "width_goes" "width_goes" 222 8 2 3 24 true 25 .none (.ref 26) (.ref 27) 28 227 228) ::
(nat_lit 30,kF "width_goes" "width_goes" (top 6) (.str "markwords.layings" 187) 29) ::
(nat_lit 36,kC "load_goes" "load_goes" 230 10 3 3 31 true 32 .none (.ref 33) (.ref 34) 35 236 237) ::
(nat_lit 37,kF "load_goes" "load_goes" (top 7) (.str "markwords.layings" 187) 36) ::
(nat_lit 43,kC "marks_go" "marks_go" 239 12 2 3 38 true 39 .none (.ref 40) (.ref 41) 42 247 248) ::
(nat_lit 44,kF "marks_go" "marks_go" (top 8) (.str "markwords.layings" 187) 43) ::
(nat_lit 48,kC "has_form" "has_form" 250 17 1 3 45 true 46 .none .none .none 47 253 254) ::
(nat_lit 49,kF "has_form" "has_form" (top 9) (.str "markwords.layings" 187) 48) ::
(nat_lit 53,kC "kinds_on" "kinds_on" 256 25 2 3 50 true 51 .none .none .none 52 259 260) ::
(nat_lit 54,kF "kinds_on" "kinds_on" (top 10) (.str "markwords.layings" 187) 53) ::
(nat_lit 58,kC "least_double" "least_double" 262 27 1 3 55 true 56 .none .none .none 57 265 266) ::
(nat_lit 59,kF "least_double" "least_double" (top 11) (.str "markwords.layings" 187) 58) ::
(nat_lit 65,kC "laying_fault" "laying_fault" 268 30 1 3 60 true 61 .none (.ref 62) (.ref 63) 64 278 279) ::
(nat_lit 66,kF "laying_fault" "laying_fault" (top 12) (.str "markwords.layings" 187) 65) ::
(nat_lit 72,kC "mark_of" "mark_of" 281 42 2 3 67 true 68 .none (.ref 69) (.ref 70) 71 287 288) ::
(nat_lit 73,kF "mark_of" "mark_of" (top 13) (.str "markwords.layings" 187) 72) ::
(nat_lit 77,kC "mark_for" "mark_for" 290 45 2 3 74 true 75 .none .none .none 76 293 294) ::
(nat_lit 78,kF "mark_for" "mark_for" (top 14) (.str "markwords.layings" 187) 77) ::
(nat_lit 84,kC "load_bits" "load_bits" 296 47 2 3 79 true 80 .none (.ref 81) (.ref 82) 83 301 302) ::
(nat_lit 85,kF "load_bits" "load_bits" (top 15) (.str "markwords.layings" 187) 84) ::
(nat_lit 89,kC "words_go" "words_go" 308 51 2 3 86 true 87 .none .none .none 88 311 312) ::
(nat_lit 90,kF "words_go" "words_go" (top 18) (.str "markwords.choices" 304) 89) ::
(nat_lit 96,kC "widths_go" "widths_go" 314 53 2 3 91 true 92 .none (.ref 93) (.ref 94) 95 321 322) ::
(nat_lit 97,kF "widths_go" "widths_go" (top 19) (.str "markwords.choices" 304) 96) ::
(nat_lit 103,kC "made" "made" 324 60 2 3 98 true 99 .none (.ref 100) (.ref 101) 102 333 334) ::
(nat_lit 104,kF "made" "made" (top 20) (.str "markwords.choices" 304) 103) ::
(nat_lit 110,kC "width_rows" "width_rows" 336 70 0 3 105 true 106 .none (.ref 107) (.ref 108) 109 344 345) ::
(nat_lit 111,kF "width_rows" "width_rows" (top 21) (.str "markwords.choices" 304) 110) ::
(nat_lit 115,kC "weighed" "weighed" 347 79 2 3 112 true 113 .none .none .none 114 350 351) ::
(nat_lit 116,kF "weighed" "weighed" (top 22) (.str "markwords.choices" 304) 115) ::
(nat_lit 120,kC "best" "best" 353 81 2 3 117 true 118 .none .none .none 119 356 357) ::
(nat_lit 121,kF "best" "best" (top 23) (.str "markwords.choices" 304) 120) ::
(nat_lit 125,kC "_law_bag" "_law_bag" 361 87 1 3 122 true 123 .none .none .none 124 364 365) ::
(nat_lit 126,kF "_law_bag" "_law_bag" (top 25) (.str "law_markwords_k16_whole_chosen_hold" 359) 125) ::
(nat_lit 132,kC "_law_draw" "_law_draw" 367 92 2 3 127 true 128 .none (.ref 129) (.ref 130) 131 373 374) ::
(nat_lit 133,kF "_law_draw" "_law_draw" (top 26) (.str "law_markwords_k16_whole_chosen_hold" 359) 132) ::
(nat_lit 137,kC "_law_full_laying" "_law_full_laying" 376 103 3 3 134 true 135 .none .none .none 136 379 380) ::
(nat_lit 138,kF "_law_full_laying" "_law_full_laying" (top 27) (.str "law_markwords_k16_whole_chosen_hold" 359) 137) ::
(nat_lit 142,kC "_law_laying" "_law_laying" 382 111 1 3 139 true 140 .none .none .none 141 385 386) ::
(nat_lit 143,kF "_law_laying" "_law_laying" (top 28) (.str "law_markwords_k16_whole_chosen_hold" 359) 142) ::
(nat_lit 147,kC "_law_mark" "_law_mark" 388 133 2 3 144 true 145 .none .none .none 146 391 392) ::
(nat_lit 148,kF "_law_mark" "_law_mark" (top 29) (.str "law_markwords_k16_whole_chosen_hold" 359) 147) ::
(nat_lit 154,kC "_law_load" "_law_load" 394 135 2 3 149 true 150 .none (.ref 151) (.ref 152) 153 399 400) ::
(nat_lit 155,kF "_law_load" "_law_load" (top 30) (.str "law_markwords_k16_whole_chosen_hold" 359) 154) ::
(nat_lit 161,kC "_law_kinds" "_law_kinds" 402 137 0 3 156 true 157 .none (.ref 158) (.ref 159) 160 405 406) ::
(nat_lit 162,kF "_law_kinds" "_law_kinds" (top 31) (.str "law_markwords_k16_whole_chosen_hold" 359) 161) ::
(nat_lit 173,kC "_law_sum" "_law_sum" 415 141 2 3 170 true 171 .none .none .none 172 418 419) ::
(nat_lit 174,kF "_law_sum" "_law_sum" (top 33) (.str "law_markwords_k16_whole_chosen_hold" 359) 173) ::
(nat_lit 178,kC "_law_words_right" "_law_words_right" 421 143 2 3 175 true 176 .none .none .none 177 424 425) ::
(nat_lit 179,kF "_law_words_right" "_law_words_right" (top 34) (.str "law_markwords_k16_whole_chosen_hold" 359) 178) ::
(nat_lit 183,kC "_law_weights" "_law_weights" 427 150 1 3 180 true 181 .none .none .none 182 430 431) ::
(nat_lit 184,kF "_law_weights" "_law_weights" (top 35) (.str "law_markwords_k16_whole_chosen_hold" 359) 183) ::
(nat_lit 188,kC "law" "law" 433 153 1 3 185 true 186 .none .none .none 187 436 437) ::
(nat_lit 189,kF "law" "law" (top 36) (.str "law_markwords_k16_whole_chosen_hold" 359) 188) ::
[]
def KA:List Addr:=[2,3,15,16,22,23,29,30,36,37,43,44,48,49,53,54,58,59,65,66,72,73,77,78,84,85,89,90,96,97,103,104,110,111,115,116,120,121,125,126,132,133,137,138,142,143,147,148,154,155,161,162,173,174,178,179,183,184,188,189]
theorem K_as:∀P,KA=(K P).map (·.1):=fun _=>by kernel_rfl
noncomputable def vw:Program:=PySem.W.view PySem.Challenge.pw_markwords_k16_whole_chosen_hold [1,2,3,4,5,6,7,8,9,10,11,12,13,14,15,17,18,19,20,21,22,23,25,26,27,28,29,30,31,32,33,34,35,36]
def ls:List Str:=["LEAST_LOAD_BITS"]
def lv:List (Str×WData):=[]
noncomputable def Xt (s:Shared):Bool:=xlAt vw lv s&&recOk (RowW.records (OpenRow.toRowW (OpenLaw.row PySem.Challenge.rw_markwords_k16_whole_chosen_hold))) s
noncomputable def Lf (w:World) (os:OsState):=(Hd.topT treeTable PySem.Challenge.pw_markwords_k16_whole_chosen_hold w 11 (some (.ref 6)) 2086 (Hd.S0 w os) (topStub PySem.Challenge.pw_markwords_k16_whole_chosen_hold)).map (fun s=>Hd.Look PySem.Challenge.pw_markwords_k16_whole_chosen_hold vw ls Xt (kHook K KA K_as).obs w s.abs)
noncomputable def Rt (w:World) (_:OsState):=some (true,openGood vw ls,(kHook K KA K_as).val w)
theorem Lf_is:Lf=Lf:=rfl
theorem Rt_is:Rt=Rt:=rfl
name_quick MwLq for Lf by Lf_is
name_quick MwRq for Rt by Rt_is
theorem run0 (w:World):(fun os=>Lf (World.withFollow w "special-get-raises" false) os)=fun os=>Rt (World.withFollow w "special-get-raises" false) os :=
 (congrFun PySem.W.Fast.MwLq_eq (World.withFollow w "special-get-raises" false)).trans (Eq.trans (by kernel_rfl:PySem.W.Fast.MwLq (World.withFollow w "special-get-raises" false)=PySem.W.Fast.MwRq (World.withFollow w "special-get-raises" false)) (congrFun PySem.W.Fast.MwRq_eq (World.withFollow w "special-get-raises" false)).symm)
theorem run1 (w:World):(fun os=>Lf (World.withFollow w "special-get-raises" true) os)=fun os=>Rt (World.withFollow w "special-get-raises" true) os :=
 (congrFun PySem.W.Fast.MwLq_eq (World.withFollow w "special-get-raises" true)).trans (Eq.trans (by kernel_rfl:PySem.W.Fast.MwLq (World.withFollow w "special-get-raises" true)=PySem.W.Fast.MwRq (World.withFollow w "special-get-raises" true)) (congrFun PySem.W.Fast.MwRq_eq (World.withFollow w "special-get-raises" true)).symm)
theorem run (w:World):(fun os=>Lf w os)=fun os=>Rt w os:=byRow2 "special-get-raises" (P:=fun w=>(fun os=>Lf w os)=fun os=>Rt w os) run0 run1 w
theorem hLf9:LeftO PySem.Challenge.pw_markwords_k16_whole_chosen_hold vw ls Xt (kHook K KA K_as).obs (kHook K KA K_as).val 2086 :=
 Hd.left_of (M:=2086) (by kernel_rfl) (by decide) (fun _=>by kernel_rfl) (by decide) (fun w os=>congrFun (run w) os) Hd.boot_main
end Mw
open PySem PySem.W PyProof.Rows
set_option maxRecDepth 100000 in
set_option maxHeartbeats 0 in
theorem PySem.Challenge.cw_markwords_k16_whole_chosen_hold_holds : PySem.Challenge.rw_markwords_k16_whole_chosen_hold.Holds := by
 w_on; o_law
 refine Hd.close (q:=Mw.vw) (loose:=Mw.ls) (lv:=Mw.lv) (H:=kHook Mw.K Mw.KA Mw.K_as) (N:=2086) Mw.hLf9 (by rfl) (by rfl) (by rfl) (by rfl) (by assumption) (by decide +kernel) ⟨rfl,rfl,rfl,rfl,rfl,by decide +kernel⟩ ?hw ?hc
 case hw=>w_witness2
 k_fill
 refine Mw.walk (l:=PySem.Challenge.rw_markwords_k16_whole_chosen_hold) rfl rfl (fun w h Y=>PySem.W.kIn_of Y) rfl rfl 103 99 120 118 ?zc ?zc2 ?zk (by decide) ?F
 case zc=>intro w; kernel_rfl
 case zc2=>intro w; kernel_rfl
 case zk=>intro w; kernel_rfl
 case F =>
  intro w mg fa h KX G hmg
  refine' Mw.all_mk KX G hmg ?A1 ?A2 ?A3 ?A4 ?A5 ?A6 ?A7 ?A8 ?A9 ?A10 ?A11 ?A12 ?A13 ?A14 ?A15 ?A16 ?A17 ?A18 ?A19 ?A20 ?A21 ?A22 ?A23 ?A24 ?A25 ?A26 ?A27 ?A28 ?z1 ?z2 ?z3 ?z4 ?z5 ?z6 ?z7 ?z8 ?z9 ?z10 ?z11 ?z12 ?z13 ?z14 ?z15 ?z16 ?z17 ?z18 ?p1 ?q1 ?g1 ?g2 ?g3 ?kg1 ?kl1 ?hcode ?hcode2
  (case A1=>walk_at "fg")
  (case A2=>walk_at "fg")
  (case A3=>walk_at "fg")
  (case A4=>walk_at "fg")
  (case A5=>walk_at "fg")
  (case A6=>walk_at "fg")
  (case A7=>walk_at "fg")
  (case A8=>walk_at "fg")
  (case A9=>walk_at "fg")
  (case A10=>walk_at "fg")
  (case A11=>walk_at "fg")
  (case A12=>walk_at "fg")
  (case A13=>walk_at "fg")
  (case A14=>walk_at "fg")
  (case A15=>walk_at "fg")
  (case A16=>walk_at "fg")
  (case A17=>walk_at "fg")
  (case A18=>walk_at "fg")
  (case A19=>walk_at "fg")
  (case A20=>walk_at "fg")
  (case A21=>walk_at "fg")
  (case A22=>walk_at "fg")
  (case A23=>walk_at "fg")
  (case A24=>walk_at "fg")
  (case A25=>walk_at "fg")
  (case A26=>walk_at "fg")
  (case A27=>walk_at "fg")
  (case A28=>walk_at "fg")
  (case z1=>k_is)
  (case z2=>k_is)
  (case z3=>k_is)
  (case z4=>k_is)
  (case z5=>k_is)
  (case z6=>k_is)
  (case z7=>k_is)
  (case z8=>k_is)
  (case z9=>k_is)
  (case z10=>k_is)
  (case z11=>k_is)
  (case z12=>k_is)
  (case z13=>k_is)
  (case z14=>k_is)
  (case z15=>k_is)
  (case z16=>k_is)
  (case z17=>k_is)
  (case z18=>k_is)
  (case p1=>k_is)
  (case q1=>k_is)
  (case g1=>k_is)
  (case g2=>k_is)
  (case g3=>k_is)
  (case kg1=>k_is)
  (case kl1=>k_is)
  (case hcode=>rfl)
  (case hcode2=>rfl)
