import PyProof.Rows.All
import Wide.All
import OpenK.AllK
import Wide.FinOn
import Lean
import PyProof.EqAt
import PyProof.EqKinds
import PyProof.TupleCall
import PyProof.NeKinds
import PyProof.RulesTry
import PyProof.ExcArgsOwn
import PyProof.InstStoreFacts
import PyProof.ExcInit
import PyProof.ExcClass3
import KE.KTryMore
import PyProof.NsDelKeeps
import PyProof.RulesAs
import PyProof.InstEq
import PyProof.Rows.EqMixed
import PyProof.FactsAll.tuple_1
import KE.KIsNot
import KE.KIsAll
import KE.KIntText
import PyProof.EnumMake
import PyProof.StrWalks
import PyProof.ReprRoads
import PyProof.ZipIter
import PyProof.Draws
import KE.KDictList
import PyProof.StrCaseBound
import PyProof.StrCalls6
import PyProof.Rows.StrStrike
import PyProof.Rows.SortStr
import PyProof.Rows.SortWalk
import PyProof.Rows.MinMaxN
import PyProof.Rows.SumAny
import KE.KSortTup
import PyProof.MinMaxWalk
import PyProof.WalkInts
import PyProof.Rows.CallKwBuiltin
import KE.KMinBuiltin
import PyProof.Rows.Range3
import PyProof.MaxThree
import KE.KSortKey
import KE.KLam
import PyProof.AttrMissHeap
import PyProof.DictCompW
import PyProof.Rows.SetFrom
import KE.KDictOf
import PySem.Challenge.RW_markwords_k14_layings_made
set_option Elab.async false
set_option linter.all false
set_option maxRecDepth 100000
set_option maxHeartbeats 8000000
namespace L2
open PySem PySem.Spec PyProof.Rows
section
variable {prog:Program} {w:World} {A:Around} {E:Value->Shared->Prop} {s:Shared}
theorem Qr {Q:Int->Shared->Prop} (h:Q 4238894112 { s with toks:=s.toks+1 }):wpAny (model prog w) A (pyHash .none) Q E s:=by
 unfold pyHash
 have hv:[Value.none].any Value.onHeap=false:=rfl
 refine wpAny_bind ?_
 rw[cRoomFor,if_neg (by rw[hv]; exact Bool.false_ne_true)]
 refine wpAny_pure ?_
 refine wpAny_bind (wpAny_specialOf (typeIs_none s) F.slot_NoneType_hash.lookup ?_)
 show wpAny _ _ (if(some (Value.builtin "NoneType.__hash__")==some Value.none)=true then _ else _) Q E s
 rw[if_neg (by rw[beq_builtin_none]; exact Bool.false_ne_true)]
 refine wpAny_bind (wpAny_specialOf (typeIs_none s) F.slot_NoneType_hash.lookup ?_)
 show wpAny _ _ (callSpecialIfBoundUnlessNone? .none "__hash__" _ >>= _) Q E s
 refine wpAny_bind (wpAny_callSpecialIfBoundUnlessNone?_slot (typeIs_none s) F.slot_NoneType_hash
  (wpAny_call_entry F.slot_NoneType_hash (typeIs_none s) F.entry_NoneType_hash
   (show wpAny _ _ (do ret (<-mkInt 4238894112)) _ _ s from wpAny_ret_mkInt ?_) (F.args_NoneType_hash_1 _)))
 show wpAny _ _ (if(decide (-(2:Int)^63<=4238894112)&&decide ((4238894112:Int)<2^63))=true then _ else _) Q E _
 rw[if_pos (by decide)]
 exact wpAny_pure h
end
inductive Key where
 |inl (i:Int)|inr (x:Str)|non
 deriving DecidableEq
def QM:Key->Value->Bool
 |.inl k,v=>Value.isInt k v
 |.inr x,v=>Value.isStrOf x v
 |.non, .none=>true
 |.non,_=>false
def keyH (w:World):Key->Int
 |.inl k=>hashInt k
 |.inr x=>hashStr w x
 |.non=>4238894112
theorem qJ:∀{k:Key} {v:Value},QM k v=true->(∃i t,k=Key.inl i/\v=Value.int i t)\/(∃x t,k=Key.inr x/\v=Value.str x t)\/(k=Key.non/\v=Value.none)
 |.inl i,v,h=>by
  obtain⟨t,e⟩:=Value.isInt_shape (k:=i) (v:=v) h
  exact .inl ⟨i,t,rfl,e⟩
 |.inr x,v,h=>by
  obtain⟨t,e⟩:=Value.isStrOf_shape (x:=x) (v:=v) h
  exact .inr (.inl ⟨x,t,rfl,e⟩)
 |.non,v,h=>by
  cases v<;>first|exact .inr (.inr ⟨rfl,rfl⟩)|exact absurd h (by simp[QM])
theorem XJ (i:Int) (t:Tok):QM (.inl i) (.int i t)=true:=by simp[QM,Value.isInt]
theorem XI (x:Str) (t:Tok):QM (.inr x) (.str x t)=true:=by simp[QM,Value.isStrOf]
theorem key_ll (a b:Int):decide ((Key.inl a:Key)=Key.inl b)=(a==b):=by
 by_cases e:a=b
 ·subst e; simp
 ·have h:¬(Key.inl a:Key)=Key.inl b:=fun q=>e (Key.inl.inj q)
  rw[decide_eq_false h]
  exact(beq_eq_false_iff_ne.mpr e).symm
theorem key_rr (a b:Str):decide ((Key.inr a:Key)=Key.inr b)=decide (a=b):=by
 by_cases e:a=b
 ·subst e; simp
 ·have h:¬(Key.inr a:Key)=Key.inr b:=fun q=>e (Key.inr.inj q)
  rw[decide_eq_false h,decide_eq_false e]
theorem key_lr (a:Int) (b:Str):decide ((Key.inl a:Key)=Key.inr b)=false:=decide_eq_false (fun q=>nomatch q)
theorem key_rl (a:Str) (b:Int):decide ((Key.inr a:Key)=Key.inl b)=false:=decide_eq_false (fun q=>nomatch q)
def qO (prog:Program) (w:World):PySem.KeyKind prog w Key where
 is:=QM
 hash:=keyH w
 inj:=fun v a b ha hb=>by
  rcases qJ ha with⟨i,t,rfl,rfl⟩|⟨x,t,rfl,rfl⟩|⟨rfl,rfl⟩
  ·rcases qJ hb with⟨j,u,rfl,e⟩|⟨y,u,rfl,e⟩|⟨rfl,e⟩
   ·injection e with e1 _; rw[e1]
   ·exact nomatch e
   ·exact nomatch e
  ·rcases qJ hb with⟨j,u,rfl,e⟩|⟨y,u,rfl,e⟩|⟨rfl,e⟩
   ·exact nomatch e
   ·injection e with e1 _; rw[e1]
   ·exact nomatch e
  ·rcases qJ hb with⟨j,u,rfl,e⟩|⟨y,u,rfl,e⟩|⟨rfl,e⟩
   ·exact nomatch e
   ·exact nomatch e
   ·rfl
 byValue:=fun k v h=>by
  rcases qJ h with⟨i,t,rfl,rfl⟩|⟨x,t,rfl,rfl⟩|⟨rfl,rfl⟩<;>rfl
 pyHash:=fun hv h=>by
  rcases qJ hv with⟨i,t,rfl,rfl⟩|⟨x,t,rfl,rfl⟩|⟨rfl,rfl⟩
  ·exact wpAny_pyHash_int h
  ·exact wpAny_pyHash_str h
  ·exact Qr h
 eqBool:=fun hu hv h=>by
  rcases qJ hu with⟨i,t,rfl,rfl⟩|⟨x,t,rfl,rfl⟩|⟨rfl,rfl⟩
  ·rcases qJ hv with⟨j,u,rfl,rfl⟩|⟨y,u,rfl,rfl⟩|⟨rfl,rfl⟩
   ·rw[key_ll] at h; exact wpAny_eqBool_int h
   ·rw[key_lr] at h; exact SeqAt.EqAt.int_str i t y u _ _ _ _ h
   ·exact SeqAt.EqAt.int_none i t _ _ _ _ h
  ·rcases qJ hv with⟨j,u,rfl,rfl⟩|⟨y,u,rfl,rfl⟩|⟨rfl,rfl⟩
   ·rw[key_rl] at h; exact SeqAt.EqAt.str_int x t j u _ _ _ _ h
   ·rw[key_rr] at h; exact wpAny_eqBool_str h
   ·exact SeqAt.EqAt.str_none x t _ _ _ _ h
  ·rcases qJ hv with⟨j,u,rfl,rfl⟩|⟨y,u,rfl,rfl⟩|⟨rfl,rfl⟩
   ·exact SeqAt.EqAt.none_int j u _ _ _ _ h
   ·exact SeqAt.EqAt.none_str y u _ _ _ _ h
   ·exact SeqAt.EqAt.same .none _ _ _ _ h
 «strs»:=fun k x t v h=>by
  rcases qJ h with⟨i,u,rfl,e⟩|⟨y,u,rfl,e⟩|⟨rfl,e⟩
  ·exact nomatch e
  ·injection e with e1 _
   subst e1
   cases v<;>rfl
  ·exact nomatch e
theorem QH (prog:Program) (w:World) (i:Int) (t:Tok):(qO prog w).is (.inl i) (.int i t)=true:=XJ i t
theorem zo (prog:Program) (w:World) (x:Str) (t:Tok):(qO prog w).is (.inr x) (.str x t)=true:=XI x t
inductive V where
 |non|bl (b:Bool)|int (i:Int)|str (x:Str)|byt (b:Array UInt8)|flt (b:UInt64)|ref (a:Addr)|ty (n:String)
 deriving DecidableEq
def RelV:V->Value->Prop
 |.non,u=>u=Value.none
 |.bl b,u=>u=Value.bool b
 |.int i,u=>∃t,u=Value.int i t
 |.str x,u=>∃t,u=Value.str x t
 |.byt b,u=>∃t,u=Value.bytes b t
 |.flt b,u=>∃t,u=Value.float b t
 |.ref a,u=>u=Value.ref a
 |.ty n,u=>u=Value.type n
abbrev Vals:List V->List Value->Prop:=Paired RelV
theorem Vals.length {xs:List V} {us:List Value} (r:Vals xs us):xs.length=us.length:=Paired.length r
theorem Vals.get:∀{xs:List V} {us:List Value} {i:Nat} {x:V},Vals xs us->xs[i]?=some x->∃u,us[i]?=some u/\RelV x u
 |_,_,_,_, .nil,e=>by simp at e
 |_,_,0,_, .cons r _,e=>by simp at e; subst e; exact⟨_,rfl,r⟩
 |_,_,i+1,x, .cons _ t,e=>by
  obtain⟨u,h1,h2⟩:=Vals.get (i:=i) (x:=x) t (by simpa using e)
  exact⟨u,by simpa using h1,h2⟩
theorem Vals.set {x:V} {u:Value} (r:RelV x u):∀{xs:List V} {us:List Value} (i:Nat),Vals xs us->Vals (xs.set i x) (us.set i u)
 |_,_,_, .nil=>.nil
 |_,_,0, .cons _ t=>.cons r t
 |_,_,i+1, .cons q t=>.cons q (Vals.set r i t)
theorem Vals.append:∀{xs ys:List V} {us ws:List Value},Vals xs us->Vals ys ws->Vals (xs++ys) (us++ws)
 |_,_,_,_, .nil,s=>s
 |_,_,_,_, .cons r t,s=>.cons r (Vals.append t s)
theorem Vals.take:∀{xs:List V} {us:List Value} (n:Nat),Vals xs us->Vals (xs.take n) (us.take n)
 |_,_,0,_=>.nil
 |_,_,_+1, .nil=>.nil
 |_,_,n+1, .cons r t=>.cons r (Vals.take n t)
theorem Vals.drop:∀{xs:List V} {us:List Value} (n:Nat),Vals xs us->Vals (xs.drop n) (us.drop n)
 |_,_,0,r=>r
 |_,_,_+1, .nil=>.nil
 |_,_,n+1, .cons _ t=>Vals.drop n t
def RelO:Option V->Option Value->Prop
 |some v,some u=>RelV v u
 |none,none=>True
 |_,_=>False
def KV {κ:Type}:List (κ×V)->List (κ×Value)->Prop:=Paired fun(p:κ×V) (q:κ×Value)=>p.1=q.1/\RelV p.2 q.2
def kV:Key->V
 |.inl i=>.int i
 |.inr x=>.str x
 |.non=>.non
inductive HO where
  |lst (xs:List V)
  |tup (xs:List V)
  |dK (kvs:List (Key×V))|dT (kvs:List (List Key×V))
  |set (S:Int->Bool) (n:Nat)
  |ins (C dx:Addr) (fs:List (Str×V))
  |own (x:Addr)
  |xd (fs:List (Str×V))
  |met (f x:Addr)
  |rng (lo hi:Int)
  |frz (o:Obj) (u:HO)
  |tbl (ps:Array Value)
  |ext (φ:Heap->Prop)
abbrev Hp:=Addr->Option HO
def upd (H:Hp) (a:Addr) (o:HO):Hp:=fun b=>if b=a then some o else H b
theorem upd_same {H:Hp} {a:Addr} {o:HO}:upd H a o a=some o:=by unfold upd; rw[if_pos rfl]
theorem upd_ne {H:Hp} {a b:Addr} {o:HO} (h:b≠a):upd H a o b=H b:=by unfold upd; rw[if_neg h]
theorem ne_of {H:Hp} {a b:Addr} {o u:HO} (h:H a=some o) (h':H b=some u) (d:o≠u):a≠b:=by
 intro e; subst e; rw[h] at h'; exact d (Option.some.inj h')
theorem qY {H:Hp} {a b:Addr} {o:HO} (h:H a=some o) (h':H b=none):a≠b:=by
 intro e; subst e; rw[h] at h'; cases h'
section
variable (P:Program) (w:World)
def ObjOk (H:Hp) (h:Heap) (a:Addr):HO->Prop
 |.lst xs=>xs.length<=sizeLine/\∃(its:List Value) (n:Nat),Vals xs its/\h.get? a=some { cls:=.type "list", data:=.seq its.toArray n }
 |.tup xs=>xs.length<=sizeLine/\∃its:List Value,Vals xs its/\IsTup h a its.toArray
 |.dK kvs=>kvs.length<=sizeLine/\(a==sysModules)=false/\∃vs,KV kvs vs/\h.DictOf (qO P w) a vs
 |.dT kvs=>kvs.length<=sizeLine/\(a==sysModules)=false/\∃xs:List (List Key×Addr×Value),
   Paired (fun(p:List Key×V) (q:List Key×Addr×Value)=>p.1=q.1/\H q.2.1=some (.tup (p.1.map kV))/\RelV p.2 q.2.2) kvs xs /\
   ∃o es ep,h.get? a=some o/\o.ExactDict/\o.data=.dict es ep/\es.toList=xs.map (entryOfKey (tupleKind (qO P w)))/\(xs.map (·.1)).Nodup
 |.set S n=>h.SetOf (intKind P w) a S n
 |.ins C dx fs=>H dx=some (.own a)/\fs.length<=1000/\dx≠a/\h.get? a=some (PySem.W.instObj C dx) /\
   ∃mA,h.Ns1 dx mA/\(∀f,RelO (fs.lookup f) (mA f))/\PySem.Within mA (fs.map (·.1))
 |.own _=>∃o,h.get? a=some o
 |.xd fs=>∃mA,h.Ns1 a mA/\∀f,RelO (fs.lookup f) (mA f)
 |.rng lo hi=>∃t u v,h.get? a=some { cls:=.type "range", data:=.fields #[.int lo t, .int hi u, .int 1 v] }
 |.frz o u=>h.get? a=some o/\ObjOk H h a u
 |.tbl ps=>h.get? a=some { cls:=.none,data:=.fields ps }
 |.met f x=>h.get? a=some (PySem.W.methodObj (.ref f) (.ref x))
 |.ext φ=>φ h/\(∃o,h.get? a=some o)/\∀h1 h2:Heap,φ h1->(∀o,h1.get? a=some o->h2.get? a=some o)->φ h2
def HOk (H:Hp) (h:Heap):Prop:=∀a o,H a=some o->ObjOk P w H h a o
end
section
variable {P:Program} {w:World} {H H':Hp} {h h':Heap} {a:Addr} {o:HO}
theorem ObjOk.lt (x:ObjOk P w H h a o):a<h.objs.size:=by
 cases o with
 |lst xs=>obtain⟨_,_,_,_,e⟩:=x; exact Heap.lt_size e
 |tup xs=>obtain⟨_,_,_,p⟩:=x; exact p.lt
 |dK kvs=>obtain⟨_,_,_,_,o,_,_,e,_⟩:=x; exact Heap.lt_size e
 |dT kvs=>obtain⟨_,_,_,_,o,_,_,e,_⟩:=x; exact Heap.lt_size e
 |set S n=>obtain⟨o,_,_,_,e,_⟩:=x; exact Heap.lt_size e
 |ins C dx fs=>obtain⟨_,_,_,e,_⟩:=x; exact Heap.lt_size e
 |own y=>obtain⟨_,e⟩:=x; exact Heap.lt_size e
 |xd fs=>obtain⟨_,⟨_,_,_,e,_⟩,_⟩:=x; exact Heap.lt_size e
 |rng lo hi=>obtain⟨_,_,_,e⟩:=x; exact Heap.lt_size e
 |frz ob u=>obtain⟨e,_⟩:=x; exact Heap.lt_size e
 |tbl ps=>exact Heap.lt_size (show h.get? a=some _ from x)
 |met f y=>exact Heap.lt_size (show h.get? a=some _ from x)
 |ext φ=>obtain⟨_,⟨_,e⟩,_⟩:=x; exact Heap.lt_size e
theorem Paired.mapP {α β:Type} {F G:α->β->Prop}:∀{l₁:List α} {l₂:List β},Paired F l₁ l₂->(∀a b,F a b->G a b)->Paired G l₁ l₂
 |_,_, .nil,_=>.nil
 |_,_, .cons r t,f=>.cons (f _ _ r) (Paired.mapP t f)
theorem ObjOk.stay (x:ObjOk P w H h a o) (k:∀b u,(b=a\/H b=some (.own a))->h.get? b=some u->h'.get? b=some u)
  (ho:∀b,H b=some (.own a)->H' b=some (.own a)) (ht:∀b xs,H b=some (.tup xs)->H' b=some (.tup xs)):ObjOk P w H' h' a o:=by
 induction o with
 |lst xs=>obtain⟨z,its,n,r,e⟩:=x; exact⟨z,its,n,r,k _ _ (.inl rfl) e⟩
 |tup xs=>obtain⟨z,its,r,ob,e,c⟩:=x; exact⟨z,its,r,ob,k _ _ (.inl rfl) e,c⟩
 |dK kvs=>obtain⟨z,y,vs,r,ob,es,ep,e,c⟩:=x; exact⟨z,y,vs,r,ob,es,ep,k _ _ (.inl rfl) e,c⟩
 |dT kvs =>
  obtain⟨z,y,xs,r,ob,es,ep,e,c⟩:=x
  exact⟨z,y,xs,Paired.mapP r fun p q z=>⟨z.1,ht _ _ z.2.1,z.2.2⟩,ob,es,ep,k _ _ (.inl rfl) e,c⟩
 |set S n=>obtain⟨ob,es,ep,t,e,c⟩:=x; exact⟨ob,es,ep,t,k _ _ (.inl rfl) e,c⟩
 |ins C dx fs =>
  obtain⟨d,z,ne,e,mA,⟨od,es,ep,e2,c⟩,r⟩:=x
  exact⟨ho _ d,z,ne,k _ _ (.inl rfl) e,mA,⟨od,es,ep,k _ _ (.inr d) e2,c⟩,r⟩
 |own y=>obtain⟨ob,e⟩:=x; exact⟨ob,k _ _ (.inl rfl) e⟩
 |xd fs=>obtain⟨mA,⟨od,es,ep,e,c⟩,r⟩:=x; exact⟨mA,⟨od,es,ep,k _ _ (.inl rfl) e,c⟩,r⟩
 |rng lo hi=>obtain⟨t,u,v,e⟩:=x; exact⟨t,u,v,k _ _ (.inl rfl) e⟩
 |frz ob u ih=>obtain⟨e,q⟩:=x; exact⟨k _ _ (.inl rfl) e,ih q⟩
 |tbl ps =>
  have e:h.get? a=some { cls:=.none,data:=.fields ps }:=x
  show h'.get? a=some { cls:=.none,data:=.fields ps }
  exact k a _ (.inl rfl) e
 |met f y =>
  have e:h.get? a=some (PySem.W.methodObj (.ref f) (.ref y)):=x
  show h'.get? a=some (PySem.W.methodObj (.ref f) (.ref y))
  exact k a _ (.inl rfl) e
 |ext φ=>obtain⟨p,⟨o,e⟩,st⟩:=x; exact⟨st _ _ p fun o q=>k _ _ (.inl rfl) q,⟨o,k _ _ (.inl rfl) e⟩,st⟩
theorem HOk.lt (x:HOk P w H h) (e:H a=some o):a<h.objs.size:=(x a o e).lt
theorem HOk.fresh (x:HOk P w H h) (e:h.objs.size<=a):H a=none:=by
 cases q:H a with
 |none=>rfl
 |some u=>exact absurd (Nat.lt_of_lt_of_le (x.lt q) e) (Nat.lt_irrefl _)
theorem HOk.kept (x:HOk P w H h) (k:∀b u,h.get? b=some u->h'.get? b=some u):HOk P w H h':=fun a o e =>
 (x a o e).stay (fun b u _ q=>k b u q) (fun _ q=>q) fun _ _ q=>q
theorem HOk.laid (x:HOk P w H h) (k:∀b u,h.get? b=some u->h'.get? b=some u) (hp:h.objs.size<=a) (new:ObjOk P w (upd H a o) h' a o):HOk P w (upd H a o) h':=fun b u e=>by
 have hn:=x.fresh hp
 by_cases hb:b=a
 ·subst hb; rw[upd_same] at e; cases e; exact new
 ·rw[upd_ne hb] at e
  exact(x b u e).stay (fun c v _ q=>k c v q) (fun c q=>by rw[upd_ne (qY q hn)]; exact q) fun c xs q=>by rw[upd_ne (qY q hn)]; exact q
end
def Rd (H:Hp) (a:Addr) (u:HO):Prop:=H a=some u\/∃o,H a=some (.frz o u)
theorem Rd.ok {P:Program} {w:World} {H:Hp} {h:Heap} {a:Addr} {u:HO} (r:Rd H a u) (x:HOk P w H h):ObjOk P w H h a u:=by
 rcases r with r|⟨o,r⟩
 ·exact x a u r
 ·obtain⟨_,q⟩:=x a _ r
  exact q
def Mut:Option HO->Prop
 |some (.lst _)=>True
 |some (.dK _)=>True
 |some (.dT _)=>True
 |some (.set _ _)=>True
 |some (.ins _ _ _)=>True
 |some (.ext _)=>True
 |_=>False
section
variable {P:Program} {w:World} {H:Hp} {h h':Heap} {x e:Addr} {o':HO}
theorem HOk.write (ok:HOk P w H h) (mu:Mut (H x)) (he:e=x\/H e=some (.own x)) (k:∀b u,b≠e->h.get? b=some u->h'.get? b=some u) (heo:∃u,h'.get? e=some u)
  (new:ObjOk P w (upd H x o') h' x o'):HOk P w (upd H x o') h':=fun b u q=>by
 have nown:∀c y,H c=some (.own y)->c≠x:=fun c y r z=>by subst z; rw[r] at mu; exact mu
 have ntup:∀c xs,H c=some (.tup xs)->c≠x:=fun c xs r z=>by subst z; rw[r] at mu; exact mu
 by_cases hb:b=x
 ·subst hb; rw[upd_same] at q; cases q; exact new
 ·rw[upd_ne hb] at q
  by_cases hbe:b=e
  ·have q':H b=some (.own x):=by
    rcases he with z|z
    ·exact absurd (hbe.trans z) hb
    ·rw[hbe]; exact z
   rw[q] at q'; cases q'
   obtain⟨v,hv⟩:=heo
   exact⟨v,by rw[hbe]; exact hv⟩
  ·refine(ok b u q).stay (fun c v hc r=>k c v ?_ r) (fun c r=>by rw[upd_ne (nown c b r)]; exact r) fun c xs r=>by rw[upd_ne (ntup c xs r)]; exact r
   rcases hc with rfl|hc
   ·exact hbe
   ·rintro rfl
    rcases he with z|z
    ·exact nown c b hc z
    ·rw[hc] at z; cases z; exact hb rfl
end
structure Un (fs ex:List Addr) (H H':Hp) (h h':Heap):Prop where
 keep:∀b o,h.get? b=some o->H b=none->b∉fs->b∉ex->h'.get? b=some o
 slot:∀b o,h.get? b=some o->H b=none->b∈fs->b∉ex->∃sl,h'.get? b=some { o with slots:=sl }
 free:∀b o,h.get? b=some o->H b=none->b∉ex->H' b=none
 there:∀b o,h.get? b=some o->b∉ex->∃o',h'.get? b=some o'
 tups:∀b xs,H b=some (.tup xs)->H' b=some (.tup xs)
 frzs:∀b o u,H b=some (.frz o u)->H' b=some (.frz o u)
 tbls:∀b ps,H b=some (.tbl ps)->∃more,H' b=some (.tbl (ps++more))
section
variable {fs ex:List Addr} {H H1 H2:Hp} {h h1 h2 h':Heap} {a x e:Addr} {o:HO}
theorem Un.any (u:Un fs ex H H1 h h1) {b:Addr} {ob:Obj} (q:h.get? b=some ob) (n:H b=none) (hx:b∉ex):∃sl,h1.get? b=some { ob with slots:=sl }:=by
 by_cases hb:b∈fs
 ·exact u.slot b ob q n hb hx
 ·exact⟨ob.slots,u.keep b ob q n hb hx⟩
theorem Un.trans (a:Un fs ex H H1 h h1) (b:Un fs ex H1 H2 h1 h2):Un fs ex H H2 h h2 where
 keep:=fun c ob q n hc hx=>b.keep c ob (a.keep c ob q n hc hx) (a.free c ob q n hx) hc hx
 slot:=fun c ob q n hc hx=>by
  obtain⟨sl,e1⟩:=a.slot c ob q n hc hx
  obtain⟨sl',e2⟩:=b.slot c _ e1 (a.free c ob q n hx) hc hx
  exact⟨sl',e2⟩
 free:=fun c ob q n hx=>by
  obtain⟨o',e1⟩:=a.there c ob q hx
  exact b.free c o' e1 (a.free c ob q n hx) hx
 there:=fun c ob q hx=>by
  obtain⟨o',e1⟩:=a.there c ob q hx
  exact b.there c o' e1 hx
 tups:=fun c xs q=>b.tups c xs (a.tups c xs q)
 frzs:=fun c ob xs q=>b.frzs c ob xs (a.frzs c ob xs q)
 tbls:=fun c ps q=>by
  obtain⟨m1,e1⟩:=a.tbls c ps q
  obtain⟨m2,e2⟩:=b.tbls c _ e1
  exact⟨m1++m2,by rw[e2,Array.append_assoc]⟩
theorem Un.kept (k:∀b u,h.get? b=some u->h'.get? b=some u):Un fs ex H H h h' :=
 ⟨fun b ob q _ _ _=>k b ob q,fun b ob q _ _ _=>⟨ob.slots,k b ob q⟩,fun _ _ _ n _=>n,fun b ob q _=>⟨ob,k b ob q⟩,fun _ _ q=>q,fun _ _ _ q=>q,fun _ ps q=>⟨#[],by rw[q]; simp⟩⟩
theorem Un.refl:Un fs ex H H h h:=Un.kept fun _ _ q=>q
theorem Un.laid (k:∀b u,h.get? b=some u->h'.get? b=some u) (hp:h.objs.size<=a) (hn:H a=none):Un fs ex H (upd H a o) h h' where
 keep:=fun b u q _ _ _=>k b u q
 slot:=fun b u q _ _ _=>⟨u.slots,k b u q⟩
 free:=fun b u q n _=>by rw[upd_ne (Nat.ne_of_lt (Nat.lt_of_lt_of_le (Heap.lt_size q) hp))]; exact n
 there:=fun b u q _=>⟨u,k b u q⟩
 tups:=fun b xs q=>by rw[upd_ne (qY q hn)]; exact q
 frzs:=fun b u xs q=>by rw[upd_ne (qY q hn)]; exact q
 tbls:=fun b ps q=>⟨#[],by rw[upd_ne (qY q hn),q]; simp⟩
theorem Un.write (mu:Mut (H x)) (he:e=x\/H e=some (.own x)) (k:∀b u,b≠e->h.get? b=some u->h'.get? b=some u) (heo:∃u,h'.get? e=some u):Un fs ex H (upd H x o) h h':=by
 have hx:∀b,H b=none->b≠x:=fun b n z=>by subst z; rw[n] at mu; exact mu
 have hb:∀b,H b=none->b≠e:=fun b n z=>by
  subst z
  rcases he with r|r
  ·exact hx b n r
  ·rw[n] at r; cases r
 have hm:∀b u,H b=some u->¬Mut (some u)->b≠x:=fun b u q nm z=>by subst z; rw[q] at mu; exact nm mu
 refine⟨fun b u q n _ _=>k b u (hb b n) q,fun b u q n _ _=>⟨u.slots,k b u (hb b n) q⟩,fun b u q n _=>by rw[upd_ne (hx b n)]; exact n,fun b u q _=>?_,
  fun b xs q=>by rw[upd_ne (hm b _ q fun z=>z)]; exact q,fun b u xs q=>by rw[upd_ne (hm b _ q fun z=>z)]; exact q,fun b ps q=>⟨#[],by rw[upd_ne (hm b _ q fun z=>z),q]; simp⟩⟩
 by_cases hbe:b=e
 ·subst hbe; exact heo
 ·exact⟨u,k b u hbe q⟩
end
def trk (h:Heap) (H:Hp):List Addr:=(List.range h.objs.size).filter fun a=>(H a).isSome
def hidT (h:Heap) (H:Hp):Heap:=PySem.W.hideAll h (trk h H)
theorem XY (h:Heap) (H:Hp):(hidT h H).objs.size=h.objs.size:=PySem.W.hideAll_size _ _
theorem hidT_get {h:Heap} {H:Hp} {b:Addr} {o:Obj} (e:h.get? b=some o) (n:H b=none):(hidT h H).get? b=some o :=
 PySem.W.hideAll_get _ e fun hm=>by
  have q:(H b).isSome=true:=(List.mem_filter.mp hm).2
  rw[n] at q; simp at q
theorem of_hidT {h:Heap} {H:Hp} {b:Addr} {o:Obj} (e:(hidT h H).get? b=some o):h.get? b=some o/\H b=none:=by
 have e':h.get? b=some o:=PySem.W.of_hideAll (trk h H) e
 refine⟨e', ?_⟩
 cases q:H b with
 |none=>rfl
 |some x =>
  have hm:b∈trk h H:=List.mem_filter.mpr ⟨List.mem_range.mpr (Heap.lt_size e'),by simp[q]⟩
  have z:(hidT h H).get? b=none:=PySem.W.hideAll_none (trk h H) hm
  rw[z] at e; cases e
structure Mod (K:PySem.W.Frag) (mg:Str->Option Value) (base:Heap):Prop where
 kin:K.In base
 glob:base.Ns mainGlobals mg
 blt:∃mb,base.Ns builtinsNs mb/\∀x:Str,x ≠ "__name__" -> mb x=bootBuiltins x
 nolimit:base.NoLimit
structure Cx where
 prog:Program
 w:World
 K:PySem.W.Frag
 mg:Str->Option Value
 base:Heap
 A:Around
 N:List Str
 s₀:Shared
 H₀:Hp
 env:Env
 outer:List Env
 stack:List Env
 ex:List Addr
 fn:Str->Bool
 calm:Bool
 pn:List (Addr×Obj)
 xe:Value->Shared->Prop
def frs (l:List Env):List Addr:=l.filterMap (·.frame)
abbrev Cx.fs (X:Cx):List Addr:=frs X.outer
def Vis (sc:Scope) (x:Str):Prop:=sc.names.lookup x=some .local\/sc.names.lookup x=some .cell\/sc.names.lookup x=some .free
def Loc (sc:Scope) (x:Str):Prop:=sc.names.lookup x=some .local\/sc.names.lookup x=some .cell
def Look (env:Env) (h:Heap) (m:Str->Option Value) (x:Str) (u:Value):Prop :=
 (env.kindOf x=some .local/\m x=some u)\/((env.kindOf x=some .cell\/env.kindOf x=some .free)/\∃c,env.cells.lookup x=some c/\h.IsCell c (some u))
structure Cx.Ok (X:Cx):Prop where
 mod:Mod X.K X.mg X.base
 kind:X.env.scope.kind=.function
 glob:X.env.globals=mainGlobals
 blt:X.env.builtins=builtinsNs
 above:X.s₀.heap.objs.size<=X.env.locals
 inj:∀x y c,X.env.cells.lookup x=some c->X.env.cells.lookup y=some c->x=y
 has:∀x,(X.env.kindOf x=some .cell\/X.env.kindOf x=some .free)->∃c,X.env.cells.lookup x=some c
 cab:∀x c,X.fn x=true->X.env.cells.lookup x=some c->X.s₀.heap.objs.size<=c
 hd:X.calm=true->X.A.handled=none
 frames:X.A.frames=some X.stack
 stk:X.stack=X.outer\/(X.stack=X.env::X.outer/\X.env.frame=some X.env.locals)
 exf:∀b∈X.ex,b≠X.env.locals/\∀x c,X.env.cells.lookup x=some c->c≠b
 bs:∀b o,X.base.get? b=some o->X.s₀.heap.get? b=some o/\X.H₀ b=none
 bsz:X.base.objs.size<=X.s₀.heap.objs.size
 noex:∀b o,X.base.get? b=some o->b∉X.ex
 exfs:∀b∈X.ex,b∉X.fs
 funs:X.s₀.heap.FunFrames X.base X.outer
 frf:∀b∈X.fs,X.H₀ b=none
structure Inv (X:Cx) (pins:List (Addr×Obj)) (σ:List (Option V)) (H:Hp) (s:Shared):Prop where
 ok:X.Ok
 os:s.os=X.s₀.os
 bare:AllBare s.gens
 base:Un X.fs X.ex X.H₀ H X.s₀.heap s.heap
 loc:∃m,s.heap.Ns X.env.locals m/\∀(i:Nat) (x:Str) (v:V),X.N[i]?=some x->σ[i]?=some (some v)->Vis X.env.scope x->∃u,RelV v u/\Look X.env s.heap m x u
 cell:∀x c,X.env.cells.lookup x=some c->∃v,s.heap.IsCell c v
 free:H X.env.locals=none
 freeC:∀x c,X.env.cells.lookup x=some c->H c=none
 pin:∀p∈X.pn++pins,s.heap.get? p.1=some p.2/\H p.1=none/\p.1≠X.env.locals/\p.1∉X.fs/\∀v,p.2.data ≠ .cell v
 hok:HOk X.prog X.w H s.heap
 len:σ.length=X.N.length
section
variable {X:Cx} {pins:List (Addr×Obj)} {σ:List (Option V)} {H H':Hp} {s:Shared} {h':Heap}
theorem Cx.Ok.nofr (ok:X.Ok) {b:Addr} {o:Obj} (e:X.base.get? b=some o):b∉X.fs:=fun hb=>by
 have:=(ok.funs.mem hb).1
 rw[e] at this; cases this
theorem Inv.bs (I:Inv X pins σ H s):∀b o,X.base.get? b=some o->s.heap.get? b=some o/\H b=none:=fun b o e =>
 ⟨I.base.keep b o (I.ok.bs b o e).1 (I.ok.bs b o e).2 (I.ok.nofr e) (I.ok.noex b o e),I.base.free b o (I.ok.bs b o e).1 (I.ok.bs b o e).2 (I.ok.noex b o e)⟩
theorem Inv.bk (I:Inv X pins σ H s):∀b o,X.base.get? b=some o->s.heap.get? b=some o:=fun b o e=>(I.bs b o e).1
theorem Inv.mod (I:Inv X pins σ H s):Mod X.K X.mg X.base:=I.ok.mod
theorem Inv.kIn (I:Inv X pins σ H s):X.K.In s.heap:=I.ok.mod.kin.keeps I.bk
theorem Inv.nolimit (I:Inv X pins σ H s):s.heap.NoLimit:=I.ok.mod.nolimit.keeps I.bk
theorem Inv.fr (I:Inv X pins σ H s):∃m,Fr X.base X.env.locals s.heap m :=
 let⟨m,hn,_⟩:=I.loc
 ⟨m,hn,I.bk,Nat.le_trans I.ok.bsz I.ok.above⟩
theorem Inv.lt (I:Inv X pins σ H s):X.env.locals<s.heap.objs.size:=let⟨_,hn,_⟩:=I.loc; hn.lt
theorem Inv.sz (I:Inv X pins σ H s):X.s₀.heap.objs.size<=s.heap.objs.size:=Nat.le_trans I.ok.above (Nat.le_of_lt I.lt)
theorem Inv.nofs (I:Inv X pins σ H s) {a:Addr} (h:s.heap.objs.size<=a):a∉X.fs:=fun hb=>by
 obtain⟨_,o,ho,_⟩:=I.ok.funs.mem hb
 exact absurd (Nat.lt_of_lt_of_le (Heap.lt_size ho) (Nat.le_trans I.sz h)) (Nat.lt_irrefl _)
theorem Inv.cne (I:Inv X pins σ H s):∀x c,X.env.cells.lookup x=some c->c≠X.env.locals:=fun x c e z=>by
 obtain⟨v,o,ho,hd⟩:=I.cell x c e
 obtain⟨m,⟨o',es,ep,ho',hd',_⟩,_⟩:=I.loc
 rw[z,ho'] at ho; cases ho; rw[hd'] at hd; cases hd
theorem Inv.funs (I:Inv X pins σ H s):s.heap.FunFrames X.base X.outer:=by
 have all:∀(l:List Env),(∀b∈frs l,b∈X.fs)->X.s₀.heap.FunFrames X.base l->s.heap.FunFrames X.base l:=by
  intro l
  induction l with
  |nil=>intro _ _; trivial
  |cons env r ih =>
   intro hs hl
   obtain⟨hk,⟨L,o,hf,hn,ho,hd⟩,hr⟩:=hl
   have hL:L∈X.fs:=hs L (by unfold frs; rw[List.filterMap_cons,hf]; exact List.mem_cons_self)
   obtain⟨sl,e⟩:=I.base.slot L o ho (I.ok.frf L hL) hL fun z=>I.ok.exfs L z hL
   exact⟨hk,⟨L,_,hf,hn,e,hd⟩,ih (fun b hb=>hs b (by unfold frs; rw[List.filterMap_cons,hf]; exact List.mem_cons_of_mem _ hb)) hr⟩
 exact all X.outer (fun _ hb=>hb) I.ok.funs
theorem Inv.stack (I:Inv X pins σ H s):s.heap.FunFrames X.base X.stack:=by
 rcases I.ok.stk with e|⟨e,hf⟩
 ·rw[e]; exact I.funs
 ·rw[e]
  obtain⟨m,hn,_⟩:=I.loc
  refine .cons (by rw[I.ok.kind]; decide) hf hn ?_ I.funs
  exact Heap.get?_none_of_le (Nat.le_trans I.ok.bsz I.ok.above)
theorem Inv.stkSub (I:Inv X pins σ H s):∀b∈frs X.stack,b∈X.env.locals::X.fs:=fun b hb=>by
 rcases I.ok.stk with e|⟨e,hf⟩
 ·rw[e] at hb; exact List.mem_cons_of_mem _ hb
 ·rw[e] at hb
  unfold frs at hb
  rw[List.filterMap_cons,hf] at hb
  exact hb
theorem Inv.stkFree (I:Inv X pins σ H s):∀b∈frs X.stack,H b=none:=fun b hb=>by
 rcases List.mem_cons.mp (I.stkSub b hb) with e|hb
 ·rw[e]; exact I.free
 ·obtain⟨_,o,ho,_⟩:=I.ok.funs.mem hb
  exact I.base.free b o ho (I.ok.frf b hb) fun z=>I.ok.exfs b z hb
theorem Inv.step {g':Array GenState} {t':Nat} {d':Drawn} {ch:List Addr} (I:Inv X pins σ H s)
  (hch:∀b∈ch,(b∈X.ex\/X.s₀.heap.objs.size<=b)/\b≠X.env.locals/\(∀x c,X.env.cells.lookup x=some c->c≠b)/\∀p∈X.pn++pins,p.1≠b)
  (keep:∀b o,b≠X.env.locals->b∉X.fs->b∉ch->s.heap.get? b=some o->H b=none->h'.get? b=some o)
  (slot:∀b o,b≠X.env.locals->b∈X.fs->b∉ch->s.heap.get? b=some o->H b=none->∃sl,h'.get? b=some { o with slots:=sl }) (free:∀b o,b∉ch->s.heap.get? b=some o->H b=none->H' b=none)
  (there:∀b o,b∉ch->s.heap.get? b=some o->∃o',h'.get? b=some o')
  (tups:∀b xs,H b=some (.tup xs)->H' b=some (.tup xs)) (frzs:∀b o u,H b=some (.frz o u)->H' b=some (.frz o u)) (tbls:∀b ps,H b=some (.tbl ps)->∃more,H' b=some (.tbl (ps++more)))
  (ns:∀m,s.heap.Ns X.env.locals m->h'.Ns X.env.locals m) (hok:HOk X.prog X.w H' h') (hg:AllBare g') :
  Inv X pins σ H' { s with heap:=h',gens:=g',drawn:=d',toks:=t' }:=by
 have neL:∀b o,X.s₀.heap.get? b=some o->b≠X.env.locals:=fun b o e=>Nat.ne_of_lt (Nat.lt_of_lt_of_le (Heap.lt_size e) I.ok.above)
 have neC:∀b o,X.s₀.heap.get? b=some o->b∉X.ex->b∉ch:=fun b o e hx hb=>by
  rcases(hch b hb).1 with z|z
  ·exact hx z
  ·exact absurd (Nat.lt_of_lt_of_le (Heap.lt_size e) z) (Nat.lt_irrefl _)
 have cellK:∀x c,X.env.cells.lookup x=some c->∀v,s.heap.IsCell c v->h'.IsCell c v:=fun x c e v ⟨o,ho,hd⟩=>by
  have nch:c∉ch:=fun z=>(hch c z).2.2.1 x c e rfl
  by_cases hc:c∈X.fs
  ·obtain⟨sl,q⟩:=slot c o (I.cne x c e) hc nch ho (I.freeC x c e)
   exact⟨_,q,hd⟩
  ·exact⟨o,keep c o (I.cne x c e) hc nch ho (I.freeC x c e),hd⟩
 refine⟨I.ok,I.os,hg,⟨fun b o e n hb hx=>?_,fun b o e n hb hx=>?_,fun b o e n hx=>?_,fun b o e hx=>?_,fun b xs e=>tups b xs (I.base.tups b xs e),fun b o xs e=>frzs b o xs (I.base.frzs b o xs e),fun b ps e=>?_⟩, ?_,fun x c e=>?_, ?_,fun x c e=>?_,fun p hp=>?_,hok,I.len⟩
 ·exact keep b o (neL b o e) hb (neC b o e hx) (I.base.keep b o e n hb hx) (I.base.free b o e n hx)
 ·obtain⟨sl,e1⟩:=I.base.slot b o e n hb hx
  obtain⟨sl',e2⟩:=slot b _ (neL b o e) hb (neC b o e hx) e1 (I.base.free b o e n hx)
  exact⟨sl',e2⟩
 ·obtain⟨o',e1⟩:=I.base.there b o e hx
  exact free b o' (neC b o e hx) e1 (I.base.free b o e n hx)
 ·obtain⟨o',e1⟩:=I.base.there b o e hx
  exact there b o' (neC b o e hx) e1
 ·obtain⟨m1,e1⟩:=I.base.tbls b ps e
  obtain⟨m2,e2⟩:=tbls b _ e1
  exact⟨m1++m2,by rw[e2,Array.append_assoc]⟩
 ·obtain⟨m,hn,hl⟩:=I.loc
  refine⟨m,ns m hn,fun i x v e1 e2 e3=>?_⟩
  obtain⟨u,r,l⟩:=hl i x v e1 e2 e3
  refine⟨u,r, ?_⟩
  rcases l with l|⟨k,c,e,z⟩
  ·exact .inl l
  ·exact .inr ⟨k,c,e,cellK x c e _ z⟩
 ·obtain⟨v,z⟩:=I.cell x c e
  exact⟨v,cellK x c e v z⟩
 ·obtain⟨m,⟨o,_,_,ho,_⟩,_⟩:=I.loc
  exact free _ o (fun z=>(hch _ z).2.1 rfl) ho I.free
 ·obtain⟨v,o,ho,hd⟩:=I.cell x c e
  exact free c o (fun z=>(hch c z).2.2.1 x c e rfl) ho (I.freeC x c e)
 ·obtain⟨e,n,ne,nf,d⟩:=I.pin p hp
  have nch:p.1∉ch:=fun z=>(hch p.1 z).2.2.2 p hp rfl
  exact⟨keep p.1 p.2 ne nf nch e n,free p.1 p.2 nch e n,ne,nf,d⟩
theorem Inv.un {t':Nat} (I:Inv X pins σ H s) (u:Un X.fs [] H H' s.heap h') (hok:HOk X.prog X.w H' h'):Inv X pins σ H' { s with heap:=h',toks:=t' }:=by
 obtain⟨m,⟨o,es,ep,ho,r⟩,_⟩:=id I.loc
 obtain⟨sl,hL⟩:=u.any ho I.free (by simp)
 exact I.step (g':=s.gens) (d':=s.drawn) (ch:=[]) (fun _ z=>nomatch z) (fun b o _ hb _ e n=>u.keep b o e n hb (by simp)) (fun b o _ hb _ e n=>u.slot b o e n hb (by simp)) (fun b o _ e n=>u.free b o e n (by simp)) (fun b o _ e=>u.there b o e (by simp)) u.tups u.frzs u.tbls (fun m' hm=>by
  obtain⟨o',es',ep',ho',r'⟩:=hm
  rw[ho] at ho'; cases ho'
  exact⟨_,es',ep',hL,r'⟩) hok I.bare
theorem Inv.call {g':Array GenState} {t':Nat} {d':Drawn} {ch:List Addr} (I:Inv X pins σ H s) (u:Un (frs X.stack) ch H H' s.heap h') (hok:HOk X.prog X.w H' h') (hg:AllBare g')
  (hch:∀b∈ch,(b∈X.ex\/X.s₀.heap.objs.size<=b)/\b≠X.env.locals/\(∀x c,X.env.cells.lookup x=some c->c≠b)/\∀p∈X.pn++pins,p.1≠b) :
  Inv X pins σ H' { s with heap:=h',gens:=g',drawn:=d',toks:=t' }:=by
 obtain⟨m,⟨o,es,ep,ho,r⟩,_⟩:=id I.loc
 obtain⟨sl,hL⟩:=u.any ho I.free fun z=>(hch _ z).2.1 rfl
 exact I.step (ch:=ch) hch (fun b o hL hb hc e n=>u.keep b o e n (fun z=>(List.mem_cons.mp (I.stkSub b z)).elim hL hb) hc) (fun b o _ _ hc e n=>u.any e n hc) (fun b o hc e n=>u.free b o e n hc) (fun b o hc e=>u.there b o e hc) u.tups u.frzs u.tbls (fun m' hm=>by
  obtain⟨o',es',ep',ho',r'⟩:=hm
  rw[ho] at ho'; cases ho'
  exact⟨_,es',ep',hL,r'⟩) hok hg
theorem Inv.turned {t':Nat} {it:Addr} (I:Inv X pins σ H s) (k:∀b o,b≠it->s.heap.get? b=some o->h'.get? b=some o) (hn:H it=none) (hL:it≠X.env.locals)
  (h1:it∈X.ex\/X.s₀.heap.objs.size<=it) (h2:∀x c,X.env.cells.lookup x=some c->c≠it) (h3:∀p∈X.pn++pins,p.1≠it):Inv X pins σ H { s with heap:=h',toks:=t' }:=by
 have nit:∀b u,H b=some u->b≠it:=fun b u e z=>by rw[z,hn] at e; cases e
 refine I.step (g':=s.gens) (d':=s.drawn) (ch:=[it]) (fun b hb=>?_) (fun b o _ _ hc e _=>k b o (fun z=>hc (by simp[z])) e) (fun b o _ _ hc e _=>⟨o.slots,k b o (fun z=>hc (by simp[z])) e⟩) (fun _ _ _ _ n=>n)
  (fun b o hc e=>⟨o,k b o (fun z=>hc (by simp[z])) e⟩) (fun _ _ e=>e) (fun _ _ _ e=>e) (fun b ps e=>⟨#[],by rw[e]; simp⟩) (fun m hm=>?_) (fun b u e=>?_) I.bare
 ·have e:b=it:=by simpa using hb
  subst e
  exact⟨h1,hL,h2,h3⟩
 ·obtain⟨o,es,ep,ho,r⟩:=hm
  exact⟨o,es,ep,k _ o (Ne.symm hL) ho,r⟩
 ·refine(I.hok b u e).stay (fun c v hc q=>k c v ?_ q) (fun _ q=>q) fun _ _ q=>q
  rcases hc with z|z
  ·rw[z]; exact nit b u e
  ·exact nit c _ z
theorem Inv.tok (I:Inv X pins σ H s) (t:Nat):Inv X pins σ H { s with toks:=t }:=I.un (h':=s.heap) (t':=t) Un.refl I.hok
theorem Inv.kept {t':Nat} (I:Inv X pins σ H s) (k:∀b u,s.heap.get? b=some u->h'.get? b=some u):Inv X pins σ H { s with heap:=h',toks:=t' }:=I.un (Un.kept k) (I.hok.kept k)
theorem Inv.laid {a:Addr} {o:HO} {t':Nat} (I:Inv X pins σ H s) (k:∀b u,s.heap.get? b=some u->h'.get? b=some u) (hp:s.heap.objs.size<=a) (new:ObjOk X.prog X.w (upd H a o) h' a o) :
  Inv X pins σ (upd H a o) { s with heap:=h',toks:=t' }:=I.un (Un.laid k hp (I.hok.fresh hp)) (I.hok.laid k hp new)
theorem Inv.write {x e:Addr} {o:HO} {t':Nat} (I:Inv X pins σ H s) (mu:Mut (H x)) (he:e=x\/H e=some (.own x)) (k:∀b u,b≠e->s.heap.get? b=some u->h'.get? b=some u) (heo:∃u,h'.get? e=some u)
  (new:ObjOk X.prog X.w (upd H x o) h' x o):Inv X pins σ (upd H x o) { s with heap:=h',toks:=t' }:=I.un (Un.write mu he k heo) (I.hok.write mu he k heo new)
theorem Inv.weak {σ':List (Option V)} (I:Inv X pins σ H s) (hl:σ'.length=σ.length) (w:∀(i:Nat) v,σ'[i]?=some (some v)->σ[i]?=some (some v)):Inv X pins σ' H s :=
 ⟨I.ok,I.os,I.bare,I.base,let⟨m,hn,hl'⟩:=I.loc; ⟨m,hn,fun i x v e1 e2 e3=>hl' i x v e1 (w i v e2) e3⟩,I.cell,I.free,I.freeC,I.pin,I.hok,hl.trans I.len⟩
theorem Inv.pins_of {pins':List (Addr×Obj)} (I:Inv X pins σ H s) (h:∀p∈pins',s.heap.get? p.1=some p.2/\H p.1=none/\p.1≠X.env.locals/\p.1∉X.fs/\∀v,p.2.data ≠ .cell v):Inv X pins' σ H s :=
 ⟨I.ok,I.os,I.bare,I.base,I.loc,I.cell,I.free,I.freeC,fun p hp=>(List.mem_append.mp hp).elim (fun z=>I.pin p (List.mem_append_left _ z)) (h p),I.hok,I.len⟩
theorem Vo {N:List Str} (hN:N.Nodup) {i j:Nat} {x:Str} (a:N[i]?=some x) (b:N[j]?=some x):i=j:=by
 obtain⟨h1,e1⟩:=List.getElem?_eq_some_iff.mp a
 obtain⟨h2,e2⟩:=List.getElem?_eq_some_iff.mp b
 exact(List.getElem_inj hN).mp (e1.trans e2.symm)
theorem kb {M:Model} {A:Around} {E:Value->Shared->Prop} {i:Nat} {x:Str} {v:V} {u:Value} {Q:Unit->Shared->Prop} (I:Inv X pins σ H s) (hN:X.N.Nodup) (hi:X.N[i]?=some x) (hx:Loc X.env.scope x) (r:RelV v u)
  (h:∀s',Inv X pins (σ.set i (some v)) H s'->(∃a,Heap.SameBut a s.heap s'.heap/\(a=X.env.locals\/X.env.cells.lookup x=some a))->Q () s') (hf:X.fn x=true\/X.env.scope.names.lookup x=some .local:=by first|exact .inl rfl|exact .inr rfl|assumption):wpAny M A (storeName X.env x u) Q E s:=by
 obtain⟨m,hn,hl⟩:=id I.loc
 have hcls:(X.env.scope.kind == .class||(X.env.scope.kind == .module&&X.env.locals != X.env.globals))=false:=by rw[I.ok.kind]; rfl
 have hiσ:i<σ.length:=by rw[I.len]; exact(List.getElem?_eq_some_iff.mp hi).1
 have cne:=I.cne
 have tracked:∀{a:Addr} {h':Heap},(∃o,s.heap.get? a=some o/\H a=none)->Heap.SameBut a s.heap h'->HOk X.prog X.w H h':=fun {a h'} ha hs b ob e=>by
  obtain⟨_,_,hfree⟩:=ha
  refine(I.hok b ob e).stay (fun c w' hc q=>(hs.2 c ?_).trans q) (fun _ q=>q) fun _ _ q=>q
  rintro rfl
  rcases hc with rfl|hc
  ·rw[hfree] at e; cases e
  ·rw[hfree] at hc; cases hc
 rcases hx with hk|hk
 ·refine wpAny_storeName_local hk hn (fun h' hn' hs=>?_) hcls
  obtain⟨oL,_,_,hoL,_⟩:=id hn
  refine h _ ⟨I.ok,I.os,I.bare,⟨fun b o e n hb hx=>?_,fun b o e n hb hx=>?_,I.base.free,fun b o e hx=>?_,I.base.tups,I.base.frzs,I.base.tbls⟩,⟨_,hn',fun j y v' e1 e2 e3=>?_⟩,fun y c e=>?_,I.free,I.freeC,fun p hp=>?_,tracked ⟨oL,hoL,I.free⟩ hs,by simpa using I.len⟩ ⟨_,hs, .inl rfl⟩
  ·exact(hs.2 b (Nat.ne_of_lt (Nat.lt_of_lt_of_le (Heap.lt_size e) I.ok.above))).trans (I.base.keep b o e n hb hx)
  ·obtain⟨sl,e1⟩:=I.base.slot b o e n hb hx
   exact⟨sl,(hs.2 b (Nat.ne_of_lt (Nat.lt_of_lt_of_le (Heap.lt_size e) I.ok.above))).trans e1⟩
  ·obtain⟨o',e1⟩:=I.base.there b o e hx
   exact⟨o',(hs.2 b (Nat.ne_of_lt (Nat.lt_of_lt_of_le (Heap.lt_size e) I.ok.above))).trans e1⟩
  ·by_cases hj:j=i
   ·subst hj
    rw[hi] at e1; cases e1
    rw[List.getElem?_set_self hiσ] at e2
    cases e2
    exact⟨u,r, .inl ⟨hk,by simp⟩⟩
   ·rw[List.getElem?_set_ne (Ne.symm hj)] at e2
    obtain⟨u',r',q⟩:=hl j y v' e1 e2 e3
    refine⟨u',r', ?_⟩
    rcases q with⟨k,e⟩|⟨k,c,e,z⟩
    ·refine .inl ⟨k, ?_⟩
     have:y≠x:=fun e=>hj (Vo hN e1 (e▸hi))
     simp[this,e]
    ·exact .inr ⟨k,c,e,z.sameBut hs (cne y c e)⟩
  ·obtain⟨w',z⟩:=I.cell y c e
   exact⟨w',z.sameBut hs (cne y c e)⟩
  ·obtain⟨e,n,ne,nf,d⟩:=I.pin p hp
   exact⟨(hs.2 p.1 ne).trans e,n,ne,nf,d⟩
 ·have hfn:X.fn x=true:=by
   rcases hf with z|z
   ·exact z
   ·rw[z] at hk; cases hk
  obtain⟨c,hc⟩:=I.ok.has x (.inl hk)
  obtain⟨w',z⟩:=I.cell x c hc
  refine wpAny_storeName_cell I.ok.kind hk hc z (fun h' hc' hs=>?_)
  obtain⟨oc,hoc,hocd⟩:=id z
  refine h { s with heap:=h' } ⟨I.ok,I.os,I.bare,⟨fun b o e n hb hx=>?_,fun b o e n hb hx=>?_,I.base.free,fun b o e hx=>?_,I.base.tups,I.base.frzs,I.base.tbls⟩,⟨m,hn.sameBut hs (Ne.symm (cne x c hc)),fun j y v' e1 e2 e3=>?_⟩,fun y c' e=>?_,I.free,I.freeC,fun p hp=>?_,tracked ⟨oc,hoc,I.freeC x c hc⟩ hs,by simpa using I.len⟩ ⟨c,hs, .inr hc⟩
  ·exact(hs.2 b (Nat.ne_of_lt (Nat.lt_of_lt_of_le (Heap.lt_size e) (I.ok.cab x c hfn hc)))).trans (I.base.keep b o e n hb hx)
  ·obtain⟨sl,e1⟩:=I.base.slot b o e n hb hx
   exact⟨sl,(hs.2 b (Nat.ne_of_lt (Nat.lt_of_lt_of_le (Heap.lt_size e) (I.ok.cab x c hfn hc)))).trans e1⟩
  ·obtain⟨o',e1⟩:=I.base.there b o e hx
   exact⟨o',(hs.2 b (Nat.ne_of_lt (Nat.lt_of_lt_of_le (Heap.lt_size e) (I.ok.cab x c hfn hc)))).trans e1⟩
  ·by_cases hj:j=i
   ·subst hj
    rw[hi] at e1; cases e1
    rw[List.getElem?_set_self hiσ] at e2
    cases e2
    exact⟨u,r, .inr ⟨.inl hk,c,hc,hc'⟩⟩
   ·rw[List.getElem?_set_ne (Ne.symm hj)] at e2
    obtain⟨u',r',q⟩:=hl j y v' e1 e2 e3
    refine⟨u',r', ?_⟩
    rcases q with q|⟨k,c',e,z'⟩
    ·exact .inl q
    ·refine .inr ⟨k,c',e,z'.sameBut hs ?_⟩
     rintro rfl
     exact hj (Vo hN e1 (I.ok.inj _ _ _ e hc▸hi))
  ·by_cases hcc:c'=c
   ·subst hcc; exact⟨_,hc'⟩
   ·obtain⟨w2,z2⟩:=I.cell y c' e
    exact⟨w2,z2.sameBut hs hcc⟩
  ·obtain⟨e,n,ne,nf,d⟩:=I.pin p hp
   refine⟨(hs.2 p.1 ?_).trans e,n,ne,nf,d⟩
   intro q
   rw[q,hoc] at e
   have q':oc=p.2:=Option.some.inj e
   exact d w' (by rw[<-q']; exact hocd)
theorem jr {M:Model} {A:Around} {E:Value->Shared->Prop} {i:Nat} {x:Str} {v:V} {u:Value} {Q:Unit->Shared->Prop} (I:Inv X pins σ H s) (hN:X.N.Nodup) (hi:X.N[i]?=some x) (hx:Loc X.env.scope x) (r:RelV v u)
  (h:∀s',Inv X pins (σ.set i (some v)) H s'->Q () s') (hf:X.fn x=true\/X.env.scope.names.lookup x=some .local:=by first|exact .inl rfl|exact .inr rfl|assumption):wpAny M A (storeName X.env x u) Q E s :=
 kb I hN hi hx r (fun s' I' _=>h s' I') hf
theorem Inv.call' {s':Shared} {ch:List Addr} (I:Inv X pins σ H s) (ho:s'.os=s.os) (u:Un (frs X.stack) ch H H' s.heap s'.heap) (hok:HOk X.prog X.w H' s'.heap) (hg:AllBare s'.gens)
  (hch:∀b∈ch,(b∈X.ex\/X.s₀.heap.objs.size<=b)/\b≠X.env.locals/\(∀x c,X.env.cells.lookup x=some c->c≠b)/\∀p∈X.pn++pins,p.1≠b):Inv X pins σ H' s':=by
 obtain⟨h',g',d',t',o'⟩:=s'
 have e:o'=s.os:=ho
 subst e
 exact I.call (g':=g') (t':=t') (d':=d') u hok hg hch
end
abbrev XK:=Value->Option Addr->Hp->Prop
abbrev St:=List (Option V)
abbrev VK:=V->Hp->Prop
abbrev TE:=St->Hp->VK->Prop
abbrev TT:=St->Hp->(Bool->Hp->Prop)->Prop
abbrev TA:=St->Hp->(List V->Hp->Prop)->Prop
structure Ends where
 nx:St->Hp->Prop
 rt:VK
 bk:St->Hp->Prop:=fun _ _=>False
 ct:St->Hp->Prop:=fun _ _=>False
abbrev TS:=Ends->St->Hp->Prop
def EP (X:Cx) (pins:List (Addr×Obj)) (σ:St) (Q:VK) (u:Value) (s':Shared):Prop:=∃v H',Inv X pins σ H' s'/\RelV v u/\Q v H'
def TP (X:Cx) (pins:List (Addr×Obj)) (σ:St) (Q:Bool->Hp->Prop) (b:Bool) (s':Shared):Prop:=∃H',Inv X pins σ H' s'/\Q b H'
def AP (X:Cx) (pins:List (Addr×Obj)) (σ:St) (Q:List V->Hp->Prop) (us:List Value) (s':Shared):Prop:=∃vs H',Inv X pins σ H' s'/\Vals vs us/\Q vs H'
def SP (X:Cx) (pins:List (Addr×Obj)) (D:Ends) (f:Flow) (s':Shared):Prop :=
 match f with
 |.next=>∃σ' H',Inv X pins σ' H' s'/\D.nx σ' H'
 |.brk=>∃σ' H',Inv X pins σ' H' s'/\D.bk σ' H'
 |.cont=>∃σ' H',Inv X pins σ' H' s'/\D.ct σ' H'
 |.ret u=>∃v σ' H',Inv X pins σ' H' s'/\RelV v u/\D.rt v H'
def PE (X:Cx) (e:Expr) (t:TE):Prop :=
 ∀(pins:List (Addr×Obj)) (s:Shared) (σ:St) (H:Hp) (Q:VK),Inv X pins σ H s->t σ H Q->wpAny (model X.prog X.w) X.A (eval e X.env) (EP X pins σ Q) X.xe s
def PT (X:Cx) (e:Expr) (t:TT):Prop :=
 ∀(pins:List (Addr×Obj)) (s:Shared) (σ:St) (H:Hp) (Q:Bool->Hp->Prop),Inv X pins σ H s->t σ H Q->wpAny (model X.prog X.w) X.A (isTrue e X.env (eval e X.env)) (TP X pins σ Q) X.xe s
def PW (X:Cx) (e:Expr) (t:TT):Prop :=
 ∀(whole:Sem Value) (pins:List (Addr×Obj)) (s:Shared) (σ:St) (H:Hp) (Q:Bool->Hp->Prop),Inv X pins σ H s->t σ H Q->wpAny (model X.prog X.w) X.A (isTrue e X.env whole) (TP X pins σ Q) X.xe s
theorem PW.pt {X:Cx} {e:Expr} {t:TT} (h:PW X e t):PT X e t:=h _
def PA (X:Cx) (es:List Expr) (t:TA):Prop :=
 ∀(pos:Pos) (pins:List (Addr×Obj)) (s:Shared) (σ:St) (H:Hp) (Q:List V->Hp->Prop),Inv X pins σ H s->t σ H Q->wpAny (model X.prog X.w) X.A (spliced (backTo pos (starEach es X.env))) (AP X pins σ Q) X.xe s
def PS (X:Cx) (st:Stmt) (t:TS):Prop :=
 ∀(pins:List (Addr×Obj)) (s:Shared) (σ:St) (H:Hp) (D:Ends),Inv X pins σ H s->t D σ H->wpAny (model X.prog X.w) X.A (exec st X.env) (SP X pins D) X.xe s
def PSs (X:Cx) (st:List Stmt) (t:TS):Prop :=
 ∀(pins:List (Addr×Obj)) (s:Shared) (σ:St) (H:Hp) (D:Ends),Inv X pins σ H s->t D σ H->wpAny (model X.prog X.w) X.A (execs st X.env) (SP X pins D) X.xe s
theorem thn {α:Type} {t:Sem α} {Q Q':α->Shared->Prop} {M:Model} {A:Around} {E:Value->Shared->Prop} {s:Shared} (h:wpAny M A t Q E s) (hQ:∀a s,Q a s->Q' a s):wpAny M A t Q' E s:=wpAny_mono h hQ fun _ _ x=>x
section
variable {X:Cx}
theorem bin {a b:Expr} {ta tb:TE} (ha:PE X a ta) (hb:PE X b tb) {pins:List (Addr×Obj)} {s:Shared} {σ:St} {H:Hp} {R:V->V->Hp->Prop} (I:Inv X pins σ H s) (h:ta σ H fun x H1=>tb σ H1 fun y H2=>R x y H2)
  {α:Type} {Q:α->Shared->Prop} {f:Value->Value->Sem α}
  (hf:∀v u s2 x y H2,Inv X pins σ H2 s2->RelV x v->RelV y u->R x y H2->wpAny (model X.prog X.w) X.A (f v u) Q X.xe s2) :
  wpAny (model X.prog X.w) X.A (eval a X.env) (fun v s₁=>wpAny (model X.prog X.w) X.A (eval b X.env) (fun u s₂=>wpAny (model X.prog X.w) X.A (f v u) Q X.xe s₂) X.xe s₁) X.xe s:=by
 refine thn (ha pins s σ H _ I h) fun v s1 ⟨x,H1,I1,r1,q1⟩=>?_
 refine thn (hb pins s1 σ H1 _ I1 q1) fun u s2 ⟨y,H2,I2,r2,q2⟩=>?_
 exact hf v u s2 x y H2 I2 r1 r2 q2
def tVar (i:Nat):TE:=fun σ H Q=>∃v,σ[i]?=some (some v)/\Q v H
def tC (v:V):TE:=fun _ H Q=>Q v H
theorem pe_var {i:Nat} {x:Str} {pos:Pos} (hN:X.N[i]?=some x) (hv:Vis X.env.scope x) (hd:(x==("__debug__" : Str))=false:=by decide) (hcd:(x==("__classdict__" : Str))=false:=by decide):PE X (.Name x pos) (tVar i):=by
 intro pins s σ H Q I h
 obtain⟨v,e,h⟩:=h
 obtain⟨m,hn,hl⟩:=I.loc
 obtain⟨u,r,l⟩:=hl i x v hN e hv
 have fin:EP X pins σ Q u s:=⟨v,H,I,r,h⟩
 rcases l with⟨hk,hm⟩|⟨hk,c,hc,hcell⟩
 ·exact wpAny_Name (wpAny_loadName_local I.ok.kind hk hn hm fin) hd
 ·rcases hk with hk|hk
  ·exact wpAny_Name (wpAny_loadName_cell I.ok.kind hk hc hcell fin) hd
  ·exact wpAny_Name (wpAny_loadName_free I.ok.kind hk hc hcell fin hcd) hd
theorem pe_int {i j pos}:PE X (.Constant (.int i) j pos) (tC (.int i)):=fun _ _ _ H _ I h=>wpAny_Constant_int ⟨.int i,H,I.tok _,⟨_,rfl⟩,h⟩
theorem pe_bl {b j pos}:PE X (.Constant (.bool b) j pos) (tC (.bl b)):=fun _ _ _ H _ I h=>Constant_bool ⟨.bl b,H,I,rfl,h⟩
theorem pe_non {j pos}:PE X (.Constant .none j pos) (tC .non):=fun _ _ _ H _ I h=>Constant_none ⟨.non,H,I,rfl,h⟩
theorem pe_str {x j pos}:PE X (.Constant (.str x) j pos) (tC (.str x)):=fun _ _ _ H _ I h=>Calls.Constant_str ⟨.str x,H,I.tok _,⟨_,rfl⟩,h⟩
def Gl (X:Cx) (x:Str):Prop:=X.env.kindOf x=some .globalImplicit
theorem jF {E:Value->Shared->Prop} {pins:List (Addr×Obj)} {s:Shared} {σ:St} {H:Hp} {x:Str} {u:Value} {pos:Pos} {Q:Value->Shared->Prop} (I:Inv X pins σ H s) (hg:Gl X x) (hm:X.mg x=some u) (h:Q u s)
  (hd:(x==("__debug__" : Str))=false:=by decide):wpAny (model X.prog X.w) X.A (eval (.Name x pos) X.env) Q E s :=
 Calls.Name_function_global I.ok.kind hg (Calls.loadGlobal_global (by rw[I.ok.glob]; exact I.mod.glob.keeps I.bk) hm h) hd
theorem zW {E:Value->Shared->Prop} {pins:List (Addr×Obj)} {s:Shared} {σ:St} {H:Hp} {x:Str} {u:Value} {pos:Pos} {Q:Value->Shared->Prop} (I:Inv X pins σ H s) (hg:Gl X x) (hm:X.mg x=none) (hv:bootBuiltins x=some u) (h:Q u s)
  (hn:x ≠ "__name__" := by decide) (hd:(x==("__debug__" : Str))=false:=by decide):wpAny (model X.prog X.w) X.A (eval (.Name x pos) X.env) Q E s:=by
 obtain⟨mb,h1,h2⟩:=I.mod.blt
 exact Calls.Name_function_global I.ok.kind hg (Calls.loadGlobal_builtin (by rw[I.ok.glob]; exact I.mod.glob.keeps I.bk) hm (by rw[I.ok.blt]; exact h1.keeps I.bk) ((h2 x hn).trans hv) h) hd
theorem Z5 {x:Str} {v:V} {u:Value} {pos:Pos} (hg:Gl X x) (hm:X.mg x=some u) (r:RelV v u) (hd:(x==("__debug__" : Str))=false:=by decide):PE X (.Name x pos) (tC v) :=
 fun _ _ _ H _ I h=>jF I hg hm ⟨v,H,I,r,h⟩ hd
theorem pe_bltn {x:Str} {v:V} {u:Value} {pos:Pos} (hg:Gl X x) (hm:X.mg x=none) (hv:bootBuiltins x=some u) (r:RelV v u) (hn:x ≠ "__name__" := by decide) (hd:(x==("__debug__" : Str))=false:=by decide):PE X (.Name x pos) (tC v) :=
 fun _ _ _ H _ I h=>zW I hg hm hv ⟨v,H,I,r,h⟩ hn hd
variable {a b:Expr} {ta tb:TE} {pos:Pos}
def PC (X:Cx) (op:CmpOp) (a b:Expr) (t:TE):Prop :=
 ∀(pins:List (Addr×Obj)) (s:Shared) (σ:St) (H:Hp) (Q:VK),Inv X pins σ H s->t σ H Q ->
  wpAny (model X.prog X.w) X.A (eval a X.env) (fun v s₁=>wpAny (model X.prog X.w) X.A (eval b X.env) (fun u s₂=>wpAny (model X.prog X.w) X.A (compareOp op v u) (EP X pins σ Q) X.xe s₂) X.xe s₁) X.xe s
def tB (t:TE):TT:=fun σ H Q=>t σ H fun x H1=>∃c,x=.bl c/\Q c H1
theorem pt_cmp {op:CmpOp} {t:TE} (h:PC X op a b t) (h1:behindInMarks op b=false:=by first|exact nobehind _ (by decide) (by decide)|rfl):PT X (.Compare a [op] [b] pos) (tB t):=by
 intro pins s σ H Q I hw
 refine wpAny_isTrue_Compare1 (thn (h pins s σ H _ I hw) fun v s1 h1=>thn h1 fun u s2 h2=>thn h2 fun c s3 ⟨x,H1,I1,r1,q1⟩=>?_) h1
 obtain⟨d,rfl,q⟩:=q1
 cases r1
 exact wpAny_truthy_bool ⟨H1,I1,q⟩
theorem pt_val {e:Expr} {t:TE} (h:PE X e t) (he:∀whole,isTrue e X.env whole=(do let v <-whole; standAt e.pos; holding [v] (truthy v)):=by intro _; rfl):PT X e (tB t):=by
 intro pins s σ H Q I hw
 refine isTrue_plain (thn (h pins s σ H _ I hw) fun v s1 ⟨x,H1,I1,r1,q1⟩=>?_) (he _)
 obtain⟨d,rfl,q⟩:=q1
 cases r1
 exact wpAny_truthy_bool ⟨H1,I1,q⟩
variable {tA tB':TT} {rest:List Expr}
def tAnd (t u:TT):TT:=fun σ H Q=>t σ H fun c H1=>if c=true then u σ H1 Q else Q false H1
def tOr (t u:TT):TT:=fun σ H Q=>t σ H fun c H1=>if c=true then Q true H1 else u σ H1 Q
def tNot (t:TT):TT:=fun σ H Q=>t σ H fun c H1=>Q (!c) H1
theorem pw_and1 (ha:PT X a tA):PW X (.BoolOp .And [a] pos) tA:=by
 intro wh pins s σ H Q I h
 refine isTrue_and (thn (ha pins s σ H Q I h) fun c s1 e=>?_)
 cases c with
 |true=>exact isTrue_and_nil e
 |false=>exact e
theorem pw_or1 (ha:PT X a tA):PW X (.BoolOp .Or [a] pos) tA:=by
 intro wh pins s σ H Q I h
 refine isTrue_or (thn (ha pins s σ H Q I h) fun c s1 e=>?_)
 cases c with
 |false=>exact isTrue_or_nil e
 |true=>exact e
theorem pw_and (ha:PT X a tA) (hb:PW X (.BoolOp .And (b::rest) pos) tB'):PW X (.BoolOp .And (a::b::rest) pos) (tAnd tA tB'):=by
 intro wh pins s σ H Q I h
 refine isTrue_and (thn (ha pins s σ H _ I h) fun c s1 ⟨H1,I1,q1⟩=>?_)
 cases c with
 |true=>exact hb wh pins s1 σ H1 Q I1 q1
 |false=>exact⟨H1,I1,q1⟩
theorem pw_or (ha:PT X a tA) (hb:PW X (.BoolOp .Or (b::rest) pos) tB'):PW X (.BoolOp .Or (a::b::rest) pos) (tOr tA tB'):=by
 intro wh pins s σ H Q I h
 refine isTrue_or (thn (ha pins s σ H _ I h) fun c s1 ⟨H1,I1,q1⟩=>?_)
 cases c with
 |true=>exact⟨H1,I1,q1⟩
 |false=>exact hb wh pins s1 σ H1 Q I1 q1
theorem pt_not (ha:PT X a tA):PT X (.UnaryOp .Not a pos) (tNot tA):=by
 intro pins s σ H Q I h
 exact isTrue_not (ha pins s σ H (fun c H1=>Q (!c) H1) I h)
def j8 (ta tb:TE):TE:=fun σ H Q=>ta σ H fun x H1=>∃c,x=.bl c/\if c=true then tb σ H1 Q else Q (.bl false) H1
def tOrV (ta tb:TE):TE:=fun σ H Q=>ta σ H fun x H1=>∃c,x=.bl c/\if c=true then Q (.bl true) H1 else tb σ H1 Q
def j5 (ta:TE):TE:=fun σ H Q=>ta σ H fun x H1=>∃c,x=.bl c/\Q (.bl (!c)) H1
theorem pe_one {op} {t:TE} (h:PE X a t):PE X (.BoolOp op [a] pos) t:=fun pins s σ H Q I hw=>BoolOp_one (h pins s σ H Q I hw)
theorem pe_and (ha:PE X a ta) (hb:PE X (.BoolOp .And (b::rest) pos) tb):PE X (.BoolOp .And (a::b::rest) pos) (j8 ta tb):=by
 intro pins s σ H Q I h
 refine BoolOp_and (thn (ha pins s σ H _ I h) fun v s1 ⟨x,H1,I1,r1,q1⟩=>?_)
 obtain⟨c,rfl,q1⟩:=q1
 cases r1
 refine wpAny_truthy_bool ?_
 cases c with
 |true=>exact hb pins s1 σ H1 Q I1 q1
 |false=>exact⟨.bl false,H1,I1,rfl,q1⟩
theorem pe_not (ha:PE X a ta):PE X (.UnaryOp .Not a pos) (j5 ta):=by
 intro pins s σ H Q I h
 refine UnaryOp_ (thn (ha pins s σ H _ I h) fun v s1 ⟨x,H1,I1,r1,q1⟩=>?_)
 obtain⟨c,rfl,q1⟩:=q1
 cases r1
 exact not_of (wpAny_truthy_bool ⟨.bl (!c),H1,I1,rfl,q1⟩)
def tIf (t:TT) (ta tb:TE):TE:=fun σ H Q=>t σ H fun c H1=>if c=true then ta σ H1 Q else tb σ H1 Q
theorem pe_ifExp {c:Expr} (hc:PT X c tA) (ha:PE X a ta) (hb:PE X b tb):PE X (.IfExp c a b pos) (tIf tA ta tb):=by
 intro pins s σ H Q I h
 refine wpAny_IfExp (thn (hc pins s σ H _ I h) fun d s1 ⟨H1,I1,q1⟩=>?_)
 cases d with
 |true=>exact ha pins s1 σ H1 Q I1 q1
 |false=>exact hb pins s1 σ H1 Q I1 q1
end
def SqL (K:PySem.W.Frag) (H:Hp) (a:Addr) (xs:List V):Prop :=
 Rd H a (.lst xs) \/
  ∃(o:Obj) (its:Array Value) (n:Nat),K.lookup a=some o/\o.cls=.type "list" /\ o.dict=none/\o.data=.seq its n/\its.size<=sizeLine/\Vals xs its.toList
def SqT (K:PySem.W.Frag) (H:Hp) (a:Addr) (xs:List V):Prop :=
 Rd H a (.tup xs) \/
  ∃(o:Obj) (its:Array Value) (n:Nat),K.lookup a=some o/\o.cls=.type "tuple" /\ o.data=.seq its n/\its.size<=sizeLine/\Vals xs its.toList
def absV:Value->Option V
 |.none=>some .non
 |.bool b=>some (.bl b)
 |.int i _=>some (.int i)
 |.str x _=>some (.str x)
 |.bytes b _=>some (.byt b)
 |.float b _=>some (.flt b)
 |.ref a=>some (.ref a)
 |.type n=>some (.ty n)
 |_=>none
theorem RelV.abs {x:V} {u:Value} (r:RelV x u):absV u=some x:=by
 cases x with
 |non=>cases r; rfl
 |bl _=>cases r; rfl
 |int _=>obtain⟨t,rfl⟩:=r; rfl
 |str _=>obtain⟨t,rfl⟩:=r; rfl
 |byt _=>obtain⟨t,rfl⟩:=r; rfl
 |flt _=>obtain⟨t,rfl⟩:=r; rfl
 |ref _=>cases r; rfl
 |ty _=>cases r; rfl
theorem RelV.inj {x y:V} {u:Value} (r:RelV x u) (q:RelV y u):x=y:=Option.some.inj (r.abs.symm.trans q.abs)
theorem Vals.inj:∀{xs ys:List V} {us:List Value},Vals xs us->Vals ys us->xs=ys
 |_,_,_, .nil, .nil=>rfl
 |_,_,_, .cons r t, .cons r' t'=>by rw[r.inj r',Vals.inj t t']
section
variable {X:Cx} {pins:List (Addr×Obj)} {σ:St} {H:Hp} {s:Shared} {a:Addr} {xs ys:List V}
theorem SqL.of {K:PySem.W.Frag} (h:H a=some (.lst xs)):SqL K H a xs:=.inl (.inl h)
theorem SqT.of {K:PySem.W.Frag} (h:H a=some (.tup xs)):SqT K H a xs:=.inl (.inl h)
theorem Inv.list (I:Inv X pins σ H s) (h:SqL X.K H a xs):∃its:List Value,Vals xs its/\PlainL s.heap a its.toArray/\xs.length<=sizeLine:=by
 rcases h with h|⟨o,its,n,hk,hc,hd,hs,hz,r⟩
 ·obtain⟨z,its,n,r,e⟩:=h.ok I.hok
  exact⟨its,r,⟨_,n,e,rfl,rfl,rfl⟩,z⟩
 ·refine⟨its.toList,r,⟨o,n,I.kIn a o hk,hc,hd,by simpa using hs⟩, ?_⟩
  have e:=r.length
  simp only[Array.length_toList] at e
  omega
theorem Inv.tuple (I:Inv X pins σ H s) (h:SqT X.K H a xs):∃its:List Value,Vals xs its/\IsTup s.heap a its.toArray/\xs.length<=sizeLine:=by
 rcases h with h|⟨o,its,n,hk,hc,hs,hz,r⟩
 ·obtain⟨z,its,r,p⟩:=h.ok I.hok
  exact⟨its,r,p,z⟩
 ·refine⟨its.toList,r,⟨o,I.kIn a o hk,hc,n,by simpa using hs⟩, ?_⟩
  have e:=r.length
  simp only[Array.length_toList] at e
  omega
theorem Inv.list_inj (I:Inv X pins σ H s) (h:SqL X.K H a xs) (h':SqL X.K H a ys):xs=ys:=by
 obtain⟨its,r,⟨o,n,e,_,_,d⟩,_⟩:=I.list h
 obtain⟨its',r',⟨o',n',e',_,_,d'⟩,_⟩:=I.list h'
 rw[e] at e'; cases e'
 rw[d] at d'
 injection d' with d1 _
 have:its=its':=by simpa using congrArg Array.toList d1
 subst this
 exact r.inj r'
theorem Inv.tuple_inj (I:Inv X pins σ H s) (h:SqT X.K H a xs) (h':SqT X.K H a ys):xs=ys:=by
 obtain⟨its,r,⟨o,e,_,n,d⟩,_⟩:=I.tuple h
 obtain⟨its',r',⟨o',e',_,n',d'⟩,_⟩:=I.tuple h'
 rw[e] at e'; cases e'
 rw[d] at d'
 injection d' with d1 _
 have:its=its':=by simpa using congrArg Array.toList d1
 subst this
 exact r.inj r'
end
abbrev Cx.wish (X:Cx) (E:Value->Shared->Prop):Cx:={ X with xe:=E }
abbrev Cx.nox (X:Cx):Cx:=X.wish fun _ _=>False
theorem Cx.Ok.wish {X:Cx} (ok:X.Ok) (E:Value->Shared->Prop):(X.wish E).Ok :=
 ⟨ok.mod,ok.kind,ok.glob,ok.blt,ok.above,ok.inj,ok.has,ok.cab,ok.hd,ok.frames,ok.stk,ok.exf,ok.bs,ok.bsz,ok.noex,ok.exfs,ok.funs,ok.frf⟩
theorem Cx.Ok.unwish {X:Cx} {E:Value->Shared->Prop} (ok:(X.wish E).Ok):X.Ok :=
 ⟨ok.mod,ok.kind,ok.glob,ok.blt,ok.above,ok.inj,ok.has,ok.cab,ok.hd,ok.frames,ok.stk,ok.exf,ok.bs,ok.bsz,ok.noex,ok.exfs,ok.funs,ok.frf⟩
section
variable {X:Cx} {pins:List (Addr×Obj)} {σ:St} {H:Hp} {s:Shared} {E:Value->Shared->Prop}
theorem Inv.wish (I:Inv X pins σ H s) (E:Value->Shared->Prop):Inv (X.wish E) pins σ H s:=⟨I.ok.wish E,I.os,I.bare,I.base,I.loc,I.cell,I.free,I.freeC,I.pin,I.hok,I.len⟩
theorem Inv.unwish (I:Inv (X.wish E) pins σ H s):Inv X pins σ H s:=⟨I.ok.unwish,I.os,I.bare,I.base,I.loc,I.cell,I.free,I.freeC,I.pin,I.hok,I.len⟩
theorem SP.unwish {D:Ends} {f:Flow} {s':Shared} (h:SP (X.wish E) pins D f s'):SP X pins D f s':=by
 cases f with
 |next=>obtain⟨σ',H',I,q⟩:=h; exact⟨σ',H',I.unwish,q⟩
 |brk=>obtain⟨σ',H',I,q⟩:=h; exact⟨σ',H',I.unwish,q⟩
 |cont=>obtain⟨σ',H',I,q⟩:=h; exact⟨σ',H',I.unwish,q⟩
 |ret u=>obtain⟨v,σ',H',I,r,q⟩:=h; exact⟨v,σ',H',I.unwish,r,q⟩
theorem PSs.nox {st:List Stmt} {t:TS} (h:PSs X.nox st t):PSs X st t:=fun pins s σ H D I hw =>
 wpAny_mono (h pins s σ H D (I.wish _) hw) (fun _ _ q=>q.unwish) fun _ _ z=>False.elim z
end
section
variable {X:Cx} {st:Stmt} {rest:List Stmt} {t u:TS} {e:Expr} {te:TE} {pos:Pos}
def j6:TS:=fun D σ H=>D.nx σ H
def tSeq (t u:TS):TS:=fun D σ H=>t { D with nx:=u D } σ H
theorem pss_nil:PSs X [] j6:=fun _ _ σ H _ I h=>wpAny_execs_nil ⟨σ,H,I,h⟩
theorem pss_cons (h1:PS X st t) (h2:PSs X rest u):PSs X (st::rest) (tSeq t u):=by
 intro pins s σ H D I h
 refine wpAny_execs_cons (thn (h1 pins s σ H { D with nx:=u D } I h) fun f s1 q=>?_)
 cases f with
 |next =>
  obtain⟨σ',H',I',q⟩:=q
  exact h2 pins s1 σ' H' D I' q
 |ret v=>exact q
 |brk=>exact q
 |cont=>exact q
theorem pss_one (h1:PS X st t):PSs X [st] t:=by
 intro pins s σ H D I h
 refine wpAny_execs_cons (thn (h1 pins s σ H D I h) fun f s1 q=>?_)
 cases f with
 |next=>exact wpAny_execs_nil q
 |ret v=>exact q
 |brk=>exact q
 |cont=>exact q
theorem Inv.quiet {pins:List (Addr×Obj)} {σ:St} {H:Hp} {s:Shared} (I:Inv X pins σ H s):interactive X.env=false:=by simp[interactive,I.ok.kind]
def j7 (te:TE):TS:=fun D σ H=>te σ H fun _ H1=>D.nx σ H1
theorem ps_expr (he:PE X e te) (hs:swapsWith e none pos.line X.env=pure false:=by rfl):PS X (.Expr e pos) (j7 te):=by
 intro pins s σ H D I h
 exact wpAny_Expr_any (thn (he pins s σ H _ I h) fun v s1 ⟨x,H1,I1,r1,q1⟩=>⟨σ,H1,I1,q1⟩) I.quiet hs
def tRet (te:TE):TS:=fun D σ H=>te σ H D.rt
theorem ps_ret (he:PE X e te):PS X (.Return (some e) pos) (tRet te):=by
 intro pins s σ H D I h
 exact wpAny_Return_some (thn (he pins s σ H _ I h) fun v s1 ⟨x,H1,I1,r1,q1⟩=>⟨x,σ,H1,I1,r1,q1⟩)
def tRetN:TS:=fun D _ H=>D.rt .non H
def tIfS (c:TT) (t u:TS):TS:=fun D σ H=>c σ H fun b H1=>if b=true then t D σ H1 else u D σ H1
theorem ps_if {c:Expr} {a b:List Stmt} {tc:TT} (hc:PT X c tc) (ha:PSs X a t) (hb:PSs X b u):PS X (.If c a b pos) (tIfS tc t u):=by
 intro pins s σ H D I h
 refine wpAny_If (thn (hc pins s σ H _ I h) fun d s1 ⟨H1,I1,q1⟩=>?_)
 cases d with
 |true=>exact ha pins s1 σ H1 D I1 q1
 |false=>exact hb pins s1 σ H1 D I1 q1
end
abbrev TG:=V->St->Hp->(St->Hp->Prop)->Prop
abbrev TGs:=List V->St->Hp->(St->Hp->Prop)->Prop
def PG (X:Cx) (target:Expr) (t:TG):Prop :=
 ∀(pins:List (Addr×Obj)) (s:Shared) (σ:St) (H:Hp) (v:V) (u:Value) (Q:St->Hp->Prop),Inv X pins σ H s->RelV v u->t v σ H Q ->
  wpAny (model X.prog X.w) X.A (assign target X.env u) (fun _ s'=>∃σ' H',Inv X pins σ' H' s'/\Q σ' H') X.xe s
def PGs (X:Cx) (ts:List Expr) (t:TGs):Prop :=
 ∀(pins:List (Addr×Obj)) (s:Shared) (σ:St) (H:Hp) (vs:List V) (us:List Value) (Q:St->Hp->Prop),Inv X pins σ H s->Vals vs us->t vs σ H Q ->
  wpAny (model X.prog X.w) X.A (assignInOrder ((assignEach ts X.env).map (·.2)) us) (fun _ s'=>∃σ' H',Inv X pins σ' H' s'/\Q σ' H') X.xe s
abbrev TSet:=V->V->V->Hp->(Hp->Prop)->Prop
def PSet (X:Cx) (t:TSet):Prop :=
 ∀(pins:List (Addr×Obj)) (s:Shared) (σ:St) (H:Hp) (o i v:V) (ov iv u:Value) (Q:Hp->Prop),Inv X pins σ H s->RelV o ov->RelV i iv->RelV v u->t o i v H Q ->
  wpAny (model X.prog X.w) X.A (setItem ov iv u) (fun _ s'=>∃H',Inv X pins σ H' s'/\Q H') X.xe s
abbrev TIp:=V->V->Hp->VK->Prop
def PIp (X:Cx) (op:Operator) (t:TIp):Prop :=
 ∀(pins:List (Addr×Obj)) (s:Shared) (σ:St) (H:Hp) (x y:V) (v u:Value) (Q:VK),Inv X pins σ H s->RelV x v->RelV y u->t x y H Q ->
  wpAny (model X.prog X.w) X.A (inplaceOp op v u) (EP X pins σ Q) X.xe s
section
variable {X:Cx} {pos:Pos}
def qt (i:Nat):TG:=fun v σ H Q=>Q (σ.set i (some v)) H
theorem zK {i:Nat} {x:Str} (hN:X.N.Nodup) (hi:X.N[i]?=some x) (hx:Loc X.env.scope x) (hf:X.fn x=true\/X.env.scope.names.lookup x=some .local:=by first|exact .inl rfl|exact .inr rfl|assumption):PG X (.Name x pos) (qt i):=by
 intro pins s σ H v u Q I r h
 exact wpAny_assign_Name (jr I hN hi hx r (fun s' I'=>⟨_,H,I',h⟩) hf)
def gNil:TGs:=fun vs σ H Q=>vs=[]/\Q σ H
def qS (t:TG) (u:TGs):TGs:=fun vs σ H Q=>∃v r,vs=v::r/\t v σ H fun σ' H'=>u r σ' H' Q
theorem Z4:PGs X [] gNil:=by
 intro pins s σ H vs us Q I r h
 obtain⟨e,h⟩:=h
 subst e
 cases r
 exact assignInOrder_nil ⟨σ,H,I,h⟩
theorem zx {e:Expr} {es:List Expr} {t:TG} {u:TGs} (h1:PG X e t) (h2:PGs X es u)
  (hs:(assignEach (e::es) X.env).map (·.2)=assign e X.env::(assignEach es X.env).map (·.2):=by rfl):PGs X (e::es) (qS t u):=by
 intro pins s σ H vs us Q I r h
 obtain⟨v,vr,e1,h⟩:=h
 subst e1
 cases r with
 |cons r rr =>
  rw[hs]
  refine assignInOrder_cons (thn (h1 pins s σ H _ _ _ I r h) fun _ s1 ⟨σ1,H1,I1,q1⟩=>?_)
  exact h2 pins s1 σ1 H1 _ _ Q I1 rr q1
def gTup (K:PySem.W.Frag) (n:Nat) (t:TGs):TG:=fun v σ H Q=>∃a xs,v=.ref a/\SqT K H a xs/\xs.length=n/\t xs σ H Q
theorem pg_tup {es:List Expr} {k:Nat} {t:TGs} {n:Nat} (hc:X.calm=true) (h:PGs X es t)
  (hn:(assignEach es X.env).length=n:=by rfl) (hst:(assignEach es X.env).findIdx? (·.1)=none:=by rfl):PG X (.Tuple es k pos) (gTup X.K n t):=by
 intro pins s σ H v u Q I r hw
 obtain⟨a,xs,e1,hq,hl,hw⟩:=hw
 subst e1
 cases r
 obtain⟨its,rv,ht,hz⟩:=I.tuple hq
 refine assign_Tuple_tuple (I.ok.hd hc) ht (by simp[hn, <-hl,rv.length]) hst fun h' hx=>?_
 have I1:Inv X pins σ H { s with heap:=h' }:=I.kept (t':=s.toks) fun b o e=>hx b o (Nat.ne_of_lt (Heap.lt_size e)) e
 exact h pins _ σ H xs _ Q I1 (by simpa using rv) hw
def gSub (to ti:TE) (t:TSet):TG:=fun v σ H Q=>to σ H fun o H1=>ti σ H1 fun i H2=>t o i v H2 fun H3=>Q σ H3
theorem pg_sub {o i:Expr} {to ti:TE} {t:TSet} (ho:PE X o to) (hi:PE X i ti) (hs:PSet X t)
  (ha:∀v,assign (.Subscript o i pos) X.env v=(do
   let ov <-holding [v] (eval o X.env)
   let iv <-holding [v,ov] (eval i X.env)
   standAt pos
   holding [v,ov,iv] (setItem ov iv v)
   release [v,ov,iv] []):=by intro _; rfl):PG X (.Subscript o i pos) (gSub to ti t):=by
 intro pins s σ H v u Q I r h
 rw[ha]
 refine wpAny_bind (wpAny_holding (thn (ho pins s σ H _ I h) fun ov s1 ⟨x,H1,I1,r1,q1⟩=>?_))
 refine wpAny_bind (wpAny_holding (thn (hi pins s1 σ H1 _ I1 q1) fun iv s2 ⟨y,H2,I2,r2,q2⟩=>?_))
 refine wpAny_bind (wpAny_standAt (wpAny_bind (wpAny_holding (thn (hs pins s2 σ H2 x y v ov iv u _ I2 r1 r2 r q2) fun _ s3 ⟨H3,I3,q3⟩=>?_))))
 exact wpAny_release ⟨σ,H3,I3,q3⟩
def tAsg (te:TE) (g:TG):TS:=fun D σ H=>te σ H fun x H1=>g x σ H1 D.nx
theorem ps_asg {tg e:Expr} {te:TE} {g:TG} (he:PE X e te) (hg:PG X tg g) (hs:swapsWithSole [tg] e pos.line X.env=pure false:=by rfl) (hw:swappedStores [tg] e X.env=pure none:=by rfl)
  (h1:(assignEach [tg] X.env).map (·.2)=[assign tg X.env]:=by rfl):PS X (.Assign [tg] e pos) (tAsg te g):=by
 intro pins s σ H D I h
 refine wpAny_Assign_stores (thn (he pins s σ H _ I h) fun v s1 ⟨x,H1,I1,r1,q1⟩=>?_) hs hw
 rw[h1]
 exact thn (hg pins s1 σ H1 x v _ I1 r1 q1) fun _ s2 q=>q
theorem ps_set {i:Nat} {x:Str} {e:Expr} {te:TE} {pos':Pos} (hN:X.N.Nodup) (hi:X.N[i]?=some x) (hx:Loc X.env.scope x) (he:PE X e te) (hs:swapsWith e (some (.Name x pos')) pos.line X.env=pure false:=by rfl) (hf:X.fn x=true\/X.env.scope.names.lookup x=some .local:=by first|exact .inl rfl|exact .inr rfl|assumption) :
  PS X (.Assign [.Name x pos'] e pos) (tAsg te (qt i)):=by
 intro pins s σ H D I h
 refine wpAny_Assign_Name (thn (he pins s σ H _ I h) fun v s1 ⟨y,H1,I1,r1,q1⟩=>?_) hs
 exact jr I1 hN hi hx r1 (fun s2 I2=>⟨_,H1,I2,q1⟩) hf
def tAug (i:Nat) (te:TE) (ti:TIp):TS:=fun D σ H=>∃x,σ[i]?=some (some x)/\te σ H fun y H1=>ti x y H1 fun z H2=>D.nx (σ.set i (some z)) H2
theorem ps_aug {i:Nat} {x:Str} {e:Expr} {te:TE} {op:Operator} {ti:TIp} {pos':Pos} (hN:X.N.Nodup) (hi:X.N[i]?=some x) (hx:Loc X.env.scope x) (he:PE X e te) (ho:PIp X op ti) (hf:X.fn x=true\/X.env.scope.names.lookup x=some .local:=by first|exact .inl rfl|exact .inr rfl|assumption) :
  PS X (.AugAssign (.Name x pos') op e pos) (tAug i te ti):=by
 intro pins s σ H D I h
 obtain⟨v,e1,h⟩:=h
 obtain⟨m,hn,hl⟩:=I.loc
 have vis:Vis X.env.scope x:=by rcases hx with k|k; exact .inl k; exact .inr (.inl k)
 obtain⟨u,r,l⟩:=hl i x v hi e1 vis
 refine wpAny_AugAssign_Name ?_
 have go:wpAny (model X.prog X.w) X.A (eval e X.env) (fun w s₂=>wpAny (model X.prog X.w) X.A (inplaceOp op u w) (fun r s₃=>wpAny (model X.prog X.w) X.A (storeName X.env x r) (fun _=>SP X pins D .next) X.xe s₃) X.xe s₂) X.xe s:=by
  refine thn (he pins s σ H _ I h) fun w s1 ⟨y,H1,I1,r1,q1⟩=>?_
  refine thn (ho pins s1 σ H1 v y u w _ I1 r r1 q1) fun z s2 ⟨zv,H2,I2,r2,q2⟩=>?_
  exact jr I2 hN hi hx r2 (fun s3 I3=>⟨_,H2,I3,q2⟩) hf
 rcases l with⟨hk,hm⟩|⟨hk,c,hc,hcell⟩
 ·exact wpAny_loadName_local I.ok.kind hk hn hm go
 ·rcases hk with hk|hk
  ·exact wpAny_loadName_cell I.ok.kind hk hc hcell go
  ·rcases hx with k|k
   ·have:X.env.scope.names.lookup x=some .free:=hk
    rw[k] at this; cases this
   ·have:X.env.scope.names.lookup x=some .free:=hk
    rw[k] at this; cases this
def ipI (f:Int->Int->Int):TIp:=fun x y H Q=>∃i j,x=.int i/\y=.int j/\Q (.int (f i j)) H
theorem ip_add:PIp X .Add (ipI fun i j=>i+j):=by
 intro pins s σ H x y v u Q I r1 r2 h
 obtain⟨i,j,e1,e2,q⟩:=h
 subst e1; subst e2
 obtain⟨t,rfl⟩:=r1
 obtain⟨t',rfl⟩:=r2
 exact iadd_int ⟨.int _,H,I.tok _,⟨_,rfl⟩,q⟩
end
section
variable {X:Cx} {pos:Pos}
def Va (c:TT) (tb:TS):TS:=fun D σ H=>∃W:Nat->St->Hp->Prop,(∃m,W m σ H)/\∀m σ H,W m σ H ->
 c σ H fun b H1=>if b=true then ∃N:St->Hp->Prop,(∀σ' H',N σ' H'->∃m',m'<m/\W m' σ' H')/\tb { D with nx:=N,ct:=N,bk:=D.nx } σ H1 else D.nx σ H1
theorem ps_while {c:Expr} {body:List Stmt} {tc:TT} {tb:TS} (hp:PassesOwn (model X.prog X.w) X.A X.env X.xe) (hc:PT X c tc) (hb:PSs X body tb):PS X (.While c body [] pos) (Va tc tb):=by
 intro pins s σ H D I h
 obtain⟨W,⟨m0,w0⟩,turn⟩:=h
 refine wpAny_While (codeAny_whileLoop (fun n s'=>∃σ' H',Inv X pins σ' H' s'/\W n σ' H') ?_ m0 ⟨σ,H,I,w0⟩)
 rintro n s1 ⟨σ1,H1,I1,w1⟩
 refine wpAny_passesOwn hp (thn (hc pins s1 σ1 H1 _ I1 (turn n σ1 H1 w1)) fun b s2 ⟨H2,I2,q2⟩=>?_)
 cases b with
 |true =>
  obtain⟨N,hN,q2⟩:=q2
  rw[if_pos rfl]
  refine wpAny_passesOwn hp (thn (hb pins s2 σ1 H2 _ I2 q2) fun f s3 q3=>?_)
  cases f with
  |next =>
   obtain⟨σ3,H3,I3,n3⟩:=q3
   obtain⟨m',hm,w3⟩:=hN σ3 H3 n3
   exact⟨m',hm,σ3,H3,I3,w3⟩
  |cont =>
   obtain⟨σ3,H3,I3,n3⟩:=q3
   obtain⟨m',hm,w3⟩:=hN σ3 H3 n3
   exact⟨m',hm,σ3,H3,I3,w3⟩
  |brk=>exact q3
  |ret v=>exact q3
 |false =>
  rw[if_neg Bool.false_ne_true]
  exact wpAny_execs_nil ⟨σ1,H2,I2,q2⟩
end
structure It where
 go:Nat->Hp->Prop
 yld:Nat->Hp->V->Hp->Prop
 stop:Nat->Hp->Prop
def FpOk (X:Cx) (pins:List (Addr×Obj)) (H:Hp) (b:Addr):Prop :=
 H b=none/\b≠X.env.locals/\b∉X.fs/\(b∈X.ex\/X.s₀.heap.objs.size<=b)/\(∀x c,X.env.cells.lookup x=some c->c≠b)/\∀p∈X.pn++pins,p.1≠b
theorem Inv.fpOk {X:Cx} {pins:List (Addr×Obj)} {σ:St} {H H':Hp} {s:Shared} {b:Addr} (I:Inv X pins σ H s) (hb:s.heap.objs.size<=b) (hn:H' b=none):FpOk X pins H' b:=by
 refine⟨hn,Nat.ne_of_gt (Nat.lt_of_lt_of_le I.lt hb),I.nofs hb, .inr (Nat.le_trans I.sz hb),fun x c e z=>?_,fun p hp z=>?_⟩
 ·obtain⟨v,q⟩:=I.cell x c e
  exact absurd (Nat.lt_of_lt_of_le q.lt (by rw[z]; exact hb)) (Nat.lt_irrefl _)
 ·exact absurd (Nat.lt_of_lt_of_le (Heap.lt_size (I.pin p hp).1) (by rw[z]; exact hb)) (Nat.lt_irrefl _)
structure Turn (P:Program) (w:World) (K:PySem.W.Frag) (tg:Expr) (J:It) (fp:List Addr) (it:Addr) (tn:Nat->Heap->Prop):Prop where
 mem:it∈fp
 obj:∀i h,tn i h->∀b∈fp,∃o,h.get? b=some o/\∀v,o.data ≠ .cell v
 keep:∀i h h',tn i h->(∀b∈fp,∀o,h.get? b=some o->h'.get? b=some o)->tn i h'
 item:∀(X:Cx),X.prog=P->X.w=w->X.K=K->X.calm=true->∀(i:Nat) (pins:List (Addr×Obj)) (s:Shared) (σ:St) (H:Hp) (E:Value->Shared->Prop),Inv X pins σ H s->(∀b∈fp,FpOk X pins H b)->tn i s.heap->J.go i H ->
  wpAny (model P w) X.A (pyNext (.ref it)) (fun r s1=>∃u,r=some u /\
   wpAny (model P w) X.A (letOwnedTupleGo tg (.ref it) u) (fun _ s2=>∃x H',Inv X pins σ H' s2/\RelV x u/\J.yld i H x H'/\tn (i+1) s2.heap/\∀b∈fp,H' b=none) E s1) E s
 done:∀(X:Cx),X.prog=P->X.w=w->X.K=K->X.calm=true->∀(i:Nat) (pins:List (Addr×Obj)) (s:Shared) (σ:St) (H:Hp) (E:Value->Shared->Prop),Inv X pins σ H s->(∀b∈fp,FpOk X pins H b)->tn i s.heap->J.stop i H ->
  wpAny (model P w) X.A (pyNext (.ref it)) (fun r s1=>r=none/\Inv X pins σ H s1) E s
 self:∀(A:Around) (i:Nat) (s:Shared) (Q:Value->Shared->Prop) (E:Value->Shared->Prop),tn i s.heap->Q (.ref it) s->wpAny (model P w) A (pyIter (.ref it)) Q E s
abbrev TI:=St->Hp->(It->Hp->Prop)->Prop
def PIE (X:Cx) (pins:List (Addr×Obj)) (σ:St) (tg:Expr) (R:It->Hp->Prop) (itv:Value) (s2:Shared):Prop :=
 ∃(it:Addr) (fp:List Addr) (tn:Nat->Heap->Prop) (J:It) (H':Hp),itv=.ref it/\Inv X pins σ H' s2/\Turn X.prog X.w X.K tg J fp it tn/\tn 0 s2.heap/\(∀b∈fp,FpOk X pins H' b)/\R J H'
def PI (X:Cx) (tg iter:Expr) (wi:TI):Prop :=
 ∀(pins:List (Addr×Obj)) (s:Shared) (σ:St) (H:Hp) (R:It->Hp->Prop),Inv X pins σ H s->wi σ H R ->
  wpAny (model X.prog X.w) X.A (eval iter X.env) (fun v s1=>wpAny (model X.prog X.w) X.A (pyIter v) (PIE X pins σ tg R) X.xe s1) X.xe s
theorem go_of {M:Model} {A:Around} {E:Value->Shared->Prop} {s:Shared} {tg:Expr} {it:Addr} {u:Value} {o:Obj} {n:String} {vs:Array Value} {Q:Unit->Shared->Prop} (ho:s.heap.get? it=some o) (hc:o.cls=.type n) (hd:o.data=.fields vs)
  (hn:["enumerate", "zip", "dict_itemiterator", "dict_reverseitemiterator", "odict_iterator", "itertools.zip_longest", "itertools.pairwise"].contains n=false) (hQ:Q () s):wpAny M A (letOwnedTupleGo tg (.ref it) u) Q E s:=by
 unfold letOwnedTupleGo
 cases tg<;>first
  |exact wpAny_pure hQ
  | (cases u<;>first
    |exact wpAny_pure hQ
    | (refine wpAny_bind (wpAny_load ho ?_)
       rw[hc,hd]
       show wpAny M A (if(["enumerate", "zip", "dict_itemiterator", "dict_reverseitemiterator", "odict_iterator", "itertools.zip_longest", "itertools.pairwise"].contains n&&vs[0]?==some (rawInt _))=true then _ else _) Q E s
       rw[if_neg (by intro h; rw[hn,Bool.false_and] at h; cases h)]
       exact wpAny_pure hQ))
def Itl (K:PySem.W.Frag) (a:Addr):It :=
 ⟨fun i H=>∃xs x,SqL K H a xs/\xs[i]?=some x,fun i H x H'=>H'=H/\∀xs,SqL K H a xs->xs[i]?=some x,fun i H=>∃xs,SqL K H a xs/\xs.length<=i⟩
def Itr (lo:Int) (n:Nat):It:=⟨fun i _=>i<n,fun i H x H'=>H'=H/\x=.int (lo+i),fun i _=>n<=i⟩
theorem Zr {P:Program} {w:World} {K:PySem.W.Frag} {tg:Expr} (a it:Addr):Turn P w K tg (Itl K a) [it] it (fun i h=>h.IsListIter it a i) where
 mem:=by simp
 obj:=fun i h st b hb=>by
  have e:b=it:=by simpa using hb
  subst e
  obtain⟨o,e,c,d⟩:=st
  exact⟨o,e,fun v z=>by rw[d] at z; cases z⟩
 keep:=fun i h h' st k=>st.at fun o e=>k it (by simp) o e
 item:=by
  intro X hP hw hK hc i pins s σ H E I hf st hg
  subst hP hw hK
  obtain⟨xs,x,hq,hx⟩:=hg
  obtain⟨its,rv,p,hz⟩:=I.list hq
  obtain⟨u,hu,ru⟩:=rv.get hx
  obtain⟨f0,f1,f2,f3,f4,f5⟩:=hf it (by simp)
  refine wpAny_pyNext_list_item st p.isList (x:=u) (by simpa using hu) fun h' st' sb=>?_
  have I1:Inv X pins σ H { s with heap:=h' }:=I.turned (t':=s.toks) (fun b o hb e=>(sb.2 b hb).trans e) f0 f1 f3 f4 f5
  obtain⟨o,e,c,d⟩:=id st'
  exact⟨u,rfl,go_of (s:={ s with heap:=h' }) e c d (by decide) ⟨x,H,I1,ru,⟨rfl,fun ys hy=>by rw[I.list_inj hy hq]; exact hx⟩,st',fun b hb=>(hf b hb).1⟩⟩
 done:=by
  intro X hP hw hK hc i pins s σ H E I hf st hg
  subst hP hw hK
  obtain⟨xs,hq,hx⟩:=hg
  obtain⟨its,rv,p,hz⟩:=I.list hq
  obtain⟨f0,f1,f2,f3,f4,f5⟩:=hf it (by simp)
  have hl:=rv.length
  exact wpAny_pyNext_list_end (I.ok.hd hc) st p.isList (by simp; omega) fun h' eb=>⟨rfl,I.turned (t':=s.toks) (fun b o hb e=>eb b o hb e) f0 f1 f3 f4 f5⟩
 self:=fun _ _ _ _ _ st h=>wpAny_pyIter_listiter st h
theorem VM {P:Program} {w:World} {K:PySem.W.Frag} {tg:Expr} (it:Addr) (lo:Int) (n:Nat):Turn P w K tg (Itr lo n) [it] it (fun i h=>IsRangeIter h it (lo+(i:Nat)*1) ((n:Int)-(i:Nat)) 1) where
 mem:=by simp
 obj:=fun i h st b hb=>by
  have e:b=it:=by simpa using hb
  subst e
  exact⟨_,st,fun v z=>by
   have z':Data.fields _=Data.cell v:=z
   cases z'⟩
 keep:=fun i h h' st k=>k it (by simp) _ st
 item:=by
  intro X hP hw hK hc i pins s σ H E I hf st hg
  subst hP hw hK
  obtain⟨f0,f1,f2,f3,f4,f5⟩:=hf it (by simp)
  have W:=Walks.range (prog:=X.prog) (w:=X.w) (I.ok.hd hc) it lo 1 n
  refine W.item i s _ _ hg st fun v h' tk hv st' kk=>?_
  obtain⟨t,rfl⟩:=hv
  have I1:Inv X pins σ H { s with heap:=h',toks:=tk }:=I.turned (fun b o hb e=>kk b o (by simpa using hb) e) f0 f1 f3 f4 f5
  refine⟨_,rfl,go_of (s:={ s with heap:=h',toks:=tk }) (n := "range_iterator") st' rfl rfl (by decide) ⟨.int (lo+i),H,I1,⟨t, ?_⟩,⟨rfl,rfl⟩,st',fun b hb=>(hf b hb).1⟩⟩
  rw[Int.mul_one]
 done:=by
  intro X hP hw hK hc i pins s σ H E I hf st hg
  subst hP hw hK
  obtain⟨f0,f1,f2,f3,f4,f5⟩:=hf it (by simp)
  exact wpAny_pyNext_range_end (I.ok.hd hc) st (by have:n<=i:=hg; omega) fun h' eb=>⟨rfl,I.turned (t':=s.toks) (fun b o hb e=>eb b o hb e) f0 f1 f3 f4 f5⟩
 self:=fun _ _ _ _ _ st h=>wpAny_pyIter_rangeiter st h
section
variable {X:Cx} {tg:Expr}
def V9 (K:PySem.W.Frag) (tl:TE):TI:=fun σ H R=>tl σ H fun x H1=>∃a,x=.ref a/\(∃xs,SqL K H1 a xs)/\R (Itl K a) H1
theorem pi_list {l:Expr} {tl:TE} (hl:PE X l tl):PI X tg l (V9 X.K tl):=by
 intro pins s σ H R I h
 refine thn (hl pins s σ H _ I h) fun v s1 ⟨x,H1,I1,r1,q1⟩=>?_
 obtain⟨a,e,⟨xs,hq⟩,q⟩:=q1
 subst e
 cases r1
 obtain⟨its,rv,p,hz⟩:=I1.list hq
 refine wpAny_pyIter_list p.isList ?_
 refine⟨s1.heap.objs.size, [s1.heap.objs.size],_,_,H1,rfl,I1.kept (t':=s1.toks) fun b o e=>Heap.get?_push_of_some _ e,Zr a _,⟨_,Heap.get?_push_size _ rfl,rfl,rfl⟩,fun b hb=>?_,q⟩
 have e:b=s1.heap.objs.size:=by simpa using hb
 subst e
 exact I1.fpOk (Nat.le_refl _) (I1.hok.fresh (Nat.le_refl _))
theorem range_it {pins:List (Addr×Obj)} {σ:St} {H:Hp} {s:Shared} {R:It->Hp->Prop} {E:Value->Shared->Prop} {lo hi:Int} {t u v:Tok} {tk:Nat} (I:Inv X pins σ H s) (h1 : -(2^62)<=lo) (h2:lo<2^62) (h3 : -(2^62)<=hi) (h4:hi<2^62)
  (q:R (Itr lo (hi-lo).toNat) H):wpAny (model X.prog X.w) X.A (pyIter (.ref s.heap.objs.size)) (PIE X pins σ tg R) E { s with heap:=s.heap.push { cls:=.type "range", data:=.fields #[.int lo t, .int hi u, .int 1 v] },toks:=tk }:=by
 refine wpAny_pyIter_range (IsRange.new ..) (small_one h1 h2 h3 h4) ?_
 have I1:Inv X pins σ H { s with heap:=s.heap.push { cls:=.type "range", data:=.fields #[.int lo t, .int hi u, .int 1 v] },toks:=tk }:=I.kept fun b o e=>Heap.get?_push_of_some _ e
 refine⟨(s.heap.push { cls:=.type "range", data:=.fields #[.int lo t, .int hi u, .int 1 v] }).objs.size, [(s.heap.push { cls:=.type "range", data:=.fields #[.int lo t, .int hi u, .int 1 v] }).objs.size],_,_,H,rfl,
  I1.kept (t':=tk) fun b o e=>Heap.get?_push_of_some _ e,VM _ lo (hi-lo).toNat, ?_,fun b hb=>?_,q⟩
 ·have e1:lo+((0:Nat):Int)*1=lo:=by simp
  have e2:(((hi-lo).toNat:Nat):Int)-((0:Nat):Int)=Builtin.Range.rangeSize lo hi 1:=by rw[rangeSize_one]; split<;>omega
  show IsRangeIter _ _ (lo+((0:Nat):Int)*1) ((((hi-lo).toNat:Nat):Int)-((0:Nat):Int)) 1
  rw[e1,e2]
  exact Heap.get?_push_size _ rfl
 ·have e:b=(s.heap.push { cls:=.type "range", data:=.fields #[.int lo t, .int hi u, .int 1 v] }).objs.size:=by simpa using hb
  subst e
  exact I1.fpOk (Nat.le_refl _) (I1.hok.fresh (Nat.le_refl _))
def XW (ta:TA):TI:=fun σ H R=>ta σ H fun vs H1=>∃j:Int,vs=[.int j] /\ -(2^62)<=j/\j<2^62/\R (Itr 0 j.toNat) H1
theorem Z3 {a:Expr} {ta:TA} {p pos:Pos} (hg:Gl X "range") (hm:X.mg "range" = none) (ha:PA X [a] ta) (hs:starEach [a] X.env=[(false,eval a X.env)]:=by rfl):PI X tg (.Call (.Name "range" p) [a] [] pos) (XW ta):=by
 intro pins s σ H R I h
 refine Call_ (zW I hg hm boot_range (PyProof.Rows.callWith_type1 (thn (ha pos pins s σ H _ I h) fun us s1 ⟨vs,H1,I1,r1,q1⟩=>?_) hs rfl))
 obtain⟨j,e,q1,q2,q⟩:=q1
 subst e
 cases r1 with
 |cons r rr =>
  cases rr
  obtain⟨t,rfl⟩:=r
  exact call_range_1 (range_it I1 (by omega) (by omega) q1 q2 (by simpa using q))
def tFor (wi:TI) (g:TG) (tb:TS):TS:=fun D σ H=>wi σ H fun J H1=>∃W:Nat->Nat->St->Hp->Prop,(∃m,W 0 m σ H1)/\∀i m σ H,W i m σ H ->
 (J.stop i H/\D.nx σ H)\/(J.go i H/\∃N:St->Hp->Prop,(∀σ' H',N σ' H'->∃m',m'<m/\W (i+1) m' σ' H')/\∀x H',J.yld i H x H'->g x σ H' fun σ2 H2=>tb { D with nx:=N,ct:=N,bk:=D.nx } σ2 H2)
def km (fp:List Addr) (h:Heap):List (Addr×Obj):=fp.filterMap fun b=>(h.get? b).map fun o=>(b,o)
theorem ze {fp:List Addr} {h:Heap} {b:Addr} {o:Obj} (hb:b∈fp) (e:h.get? b=some o):(b,o)∈km fp h:=List.mem_filterMap.mpr ⟨b,hb,by rw[e]; rfl⟩
theorem Xj {fp:List Addr} {h:Heap} {p:Addr×Obj} (hp:p∈km fp h):p.1∈fp/\h.get? p.1=some p.2:=by
 obtain⟨b,hb,e⟩:=List.mem_filterMap.mp hp
 cases q:h.get? b with
 |none=>rw[q] at e; cases e
 |some o =>
  rw[q] at e
  have e':(b,o)=p:=Option.some.inj e
  subst e'
  exact⟨hb,q⟩
theorem Inv.pinned {pins:List (Addr×Obj)} {σ:St} {H:Hp} {s:Shared} {fp:List Addr} (I:Inv X pins σ H s) (hf:∀b∈fp,FpOk X pins H b) (ho:∀b∈fp,∃o,s.heap.get? b=some o/\∀v,o.data ≠ .cell v):Inv X (pins++km fp s.heap) σ H s :=
 I.pins_of fun p hp=>(List.mem_append.mp hp).elim (fun z=>I.pin p (List.mem_append_right _ z)) fun z=>by
  obtain⟨hb,e⟩:=Xj z
  obtain⟨f0,f1,f2,_⟩:=hf p.1 hb
  obtain⟨o,e',d⟩:=ho p.1 hb
  rw[e] at e'; cases e'
  exact⟨e,f0,f1,f2,d⟩
theorem Inv.unpinned {pins pl:List (Addr×Obj)} {σ:St} {H:Hp} {s:Shared} (I:Inv X (pins++pl) σ H s):Inv X pins σ H s:=I.pins_of fun p hp=>I.pin p (List.mem_append_right _ (List.mem_append_left _ hp))
theorem ps_for {iter:Expr} {body:List Stmt} {wi:TI} {g:TG} {tb:TS} {pos:Pos} (hp:PassesOwn (model X.prog X.w) X.A X.env X.xe) (hc:X.calm=true) (hi:PI X tg iter wi) (hg:PG X tg g) (hb:PSs X body tb)
  (hs:∀x,foldedSetIterable iter X.env x=pure x:=by intro _; rfl):PS X (.For tg iter body [] pos) (tFor wi g tb):=by
 intro pins s σ H D I h
 refine wpAny_For (thn (hi pins s σ H _ I h) fun v s1 h1=>thn h1 fun itv s2 h2=>?_) hs
 obtain⟨it,fp,tn,J,H2,e,I2,T,st2,f2,W,⟨m0,w0⟩,turn⟩:=h2
 subst e
 -- what stays true of the iterator's objects through the loop
 have stat:∀{H':Hp},(∀b∈fp,H' b=none)->∀b∈fp,FpOk X pins H' b:=fun hn b hb=>⟨hn b hb,(f2 b hb).2⟩
 refine codeAny_forLoop_any (fun n s'=>∃i σ' H',Inv X pins σ' H' s'/\tn i s'.heap/\(∀b∈fp,H' b=none)/\W i n σ' H') ?_ m0 ⟨0,σ,H2,I2,st2,fun b hb=>(f2 b hb).1,w0⟩
 rintro n s3 ⟨i,σ3,H3,I3,st3,fr3,w3⟩
 rcases turn i n σ3 H3 w3 with⟨stop,qn⟩|⟨go,N,hN,step⟩
 ·refine wpAny_passesOwn hp (thn (T.done X rfl rfl rfl hc i pins s3 σ3 H3 X.xe I3 (stat fr3) st3 stop) fun r s4 ⟨hr,I4⟩=>?_)
  subst hr
  exact wpAny_execs_nil ⟨σ3,H3,I4,qn⟩
 ·refine wpAny_passesOwn hp (thn (T.item X rfl rfl rfl hc i pins s3 σ3 H3 X.xe I3 (stat fr3) st3 go) fun r s4 ⟨u,hr,h4⟩=>?_)
  subst hr
  refine wpAny_passesOwn hp (thn h4 fun _ s5 ⟨x,H5,I5,r5,y5,st5,fr5⟩=>?_)
  have I5':=I5.pinned (stat fr5) (T.obj _ _ st5)
  refine wpAny_passesOwn hp (thn (hg _ s5 σ3 H5 x u _ I5' r5 (step x H5 y5)) fun _ s6 ⟨σ6,H6,I6,q6⟩=>?_)
  refine wpAny_passesOwn hp (thn (hb _ s6 σ6 H6 _ I6 q6) fun f s7 q7=>?_)
  have again:∀{σ7:St} {H7:Hp},Inv X (pins++km fp s5.heap) σ7 H7 s7->N σ7 H7->∃m,m<n/\∃i σ' H',Inv X pins σ' H' s7/\tn i s7.heap/\(∀b∈fp,H' b=none)/\W i m σ' H':=fun {σ7 H7} I7 n7=>by
   obtain⟨m',hm,w7⟩:=hN σ7 H7 n7
   refine⟨m',hm,i+1,σ7,H7,I7.unpinned,T.keep _ _ _ st5 fun b hb o e=>(I7.pin (b,o) (List.mem_append_right _ (List.mem_append_right _ (ze hb e)))).1,fun b hb=>?_,w7⟩
   obtain⟨o,e,d⟩:=T.obj _ _ st5 b hb
   exact(I7.pin (b,o) (List.mem_append_right _ (List.mem_append_right _ (ze hb e)))).2.1
  cases f with
  |next=>obtain⟨σ7,H7,I7,n7⟩:=q7; exact again I7 n7
  |cont=>obtain⟨σ7,H7,I7,n7⟩:=q7; exact again I7 n7
  |brk=>obtain⟨σ7,H7,I7,q7⟩:=q7; exact⟨σ7,H7,I7.unpinned,q7⟩
  |ret v=>obtain⟨x7,σ7,H7,I7,r7,q7⟩:=q7; exact⟨x7,σ7,H7,I7.unpinned,r7,q7⟩
end
theorem for_list {K:PySem.W.Frag} {a:Addr} {xs:List V} {g:TG} {tb:TS} {D:Ends} {σ:St} {H:Hp} (Pv:Nat->St->Hp->Prop) (h0:Pv 0 σ H) (hl:∀i σ H,i<=xs.length->Pv i σ H->SqL K H a xs)
  (hs:∀i x σ H,xs[i]?=some x->Pv i σ H->g x σ H fun σ2 H2=>tb { D with nx:=Pv (i+1),ct:=Pv (i+1),bk:=D.nx } σ2 H2) (hd:∀σ H,Pv xs.length σ H->D.nx σ H) :
  ∃W:Nat->Nat->St->Hp->Prop,(∃m,W 0 m σ H)/\∀i m σ H,W i m σ H ->
   ((Itl K a).stop i H/\D.nx σ H)\/((Itl K a).go i H/\∃N:St->Hp->Prop,(∀σ' H',N σ' H'->∃m',m'<m/\W (i+1) m' σ' H')/\∀x H',(Itl K a).yld i H x H'->g x σ H' fun σ2 H2=>tb { D with nx:=N,ct:=N,bk:=D.nx } σ2 H2):=by
 refine⟨fun i m σ H=>m=xs.length-i/\i<=xs.length/\Pv i σ H,⟨xs.length,by simp,Nat.zero_le _,h0⟩, ?_⟩
 rintro i m σ H ⟨rfl,hi,p⟩
 have q:=hl i σ H hi p
 by_cases hlt:i<xs.length
 ·refine .inr ⟨⟨xs,xs[i],q,by simp[hlt]⟩,Pv (i+1),fun σ' H' p'=>⟨xs.length-(i+1),by omega,rfl,hlt,p'⟩,fun x H' y=>?_⟩
  obtain⟨e,y⟩:=y
  subst e
  exact hs i x σ _ (y xs q) p
 ·have e:i=xs.length:=by omega
  subst e
  exact .inl ⟨⟨xs,q,Nat.le_refl _⟩,hd σ H p⟩
abbrev R2:=V->V->Hp->VK->Prop
def OpR (X:Cx) (f:Value->Value->Sem Value) (r:R2):Prop :=
 ∀(pins:List (Addr×Obj)) (s:Shared) (σ:St) (H:Hp) (x y:V) (v u:Value) (Q:VK),Inv X pins σ H s->RelV x v->RelV y u->r x y H Q ->
  wpAny (model X.prog X.w) X.A (f v u) (EP X pins σ Q) X.xe s
def UnR (X:Cx) (f:Value->Sem Value) (r:V->Hp->VK->Prop):Prop :=
 ∀(pins:List (Addr×Obj)) (s:Shared) (σ:St) (H:Hp) (x:V) (v:Value) (Q:VK),Inv X pins σ H s->RelV x v->r x H Q ->
  wpAny (model X.prog X.w) X.A (f v) (EP X pins σ Q) X.xe s
def vP (X:Cx) (f:Value) (r:List V->Hp->VK->Prop):Prop :=
 ∀(pins:List (Addr×Obj)) (s:Shared) (σ:St) (H:Hp) (xs:List V) (us:List Value) (Q:VK),Inv X pins σ H s->Vals xs us->r xs H Q ->
  wpAny (model X.prog X.w) X.A (call f us) (EP X pins σ Q) X.xe s
def TruR (X:Cx) (r:V->Hp->(Bool->Hp->Prop)->Prop):Prop :=
 ∀(pins:List (Addr×Obj)) (s:Shared) (σ:St) (H:Hp) (x:V) (v:Value) (Q:Bool->Hp->Prop),Inv X pins σ H s->RelV x v->r x H Q ->
  wpAny (model X.prog X.w) X.A (truthy v) (TP X pins σ Q) X.xe s
def tOp (r:R2) (ta tb:TE):TE:=fun σ H Q=>ta σ H fun x H1=>tb σ H1 fun y H2=>r x y H2 Q
def tUn (r:V->Hp->VK->Prop) (ta:TE):TE:=fun σ H Q=>ta σ H fun x H1=>r x H1 Q
def rI (C:Int->Int->Prop) (g:Int->Int->V):R2:=fun x y H Q=>∃i j,x=.int i/\y=.int j/\C i j/\Q (g i j) H
def rI0 (g:Int->Int->V):R2:=fun x y H Q=>∃i j,x=.int i/\y=.int j/\Q (g i j) H
def rU (g:Int->V):V->Hp->VK->Prop:=fun x H Q=>∃i,x=.int i/\Q (g i) H
section
variable {X:Cx} {a b:Expr} {ta tb:TE} {pos:Pos}
theorem binT (ha:PE X a ta) (hb:PE X b tb) {pins:List (Addr×Obj)} {s:Shared} {σ:St} {H:Hp} {R:V->V->Hp->Prop} (I:Inv X pins σ H s)
  (h:ta σ H fun x H1=>tb σ H1 fun y H2=>R x y H2) {Q:Value->Shared->Prop} {f:Value->Value->Sem Value}
  (hf:∀v u s2 x y H2,Inv X pins σ H2 s2->RelV x v->RelV y u->R x y H2->wpAny (model X.prog X.w) X.A (f v u) Q X.xe s2) :
  wpAny (model X.prog X.w) X.A (eval a X.env) (fun v s₁=>wpAny (model X.prog X.w) X.A (eval b X.env) (fun u s₂=>wpAny (model X.prog X.w) X.A (f v u) Q X.xe s₂) X.xe s₁) X.xe s:=by
 refine thn (ha pins s σ H _ I h) fun v s1 ⟨x,H1,I1,r1,q1⟩=>?_
 refine thn (hb pins s1 σ H1 _ I1 q1) fun u s2 ⟨y,H2,I2,r2,q2⟩=>?_
 exact hf v u s2 x y H2 I2 r1 r2 q2
theorem pe_op {op:Operator} {r:R2} (ho:OpR X (binaryOp op) r) (ha:PE X a ta) (hb:PE X b tb):PE X (.BinOp a op b pos) (tOp r ta tb):=by
 intro pins s σ H Q I h
 exact wpAny_BinOp (binT ha hb I h fun v u s2 x y H2 I2 rx ry q=>ho pins s2 σ H2 x y v u Q I2 rx ry q)
theorem pe_un {op:UnaryOp} {r:V->Hp->VK->Prop} (ho:UnR X (unaryOp op) r) (ha:PE X a ta):PE X (.UnaryOp op a pos) (tUn r ta):=by
 intro pins s σ H Q I h
 exact UnaryOp_ (thn (ha pins s σ H _ I h) fun v s1 ⟨x,H1,I1,r1,q1⟩=>ho pins s1 σ H1 x v Q I1 r1 q1)
theorem opI {f:Value->Value->Sem Value} {C:Int->Int->Prop} {g:Int->Int->Int}
  (rule:∀(i j:Int) (t u:Tok) (s:Shared) (Q:Value->Shared->Prop) (E:Value->Shared->Prop),C i j->Q (.int (g i j) s.toks) { s with toks:=s.toks+1 }->wpAny (model X.prog X.w) X.A (f (.int i t) (.int j u)) Q E s) :
  OpR X f (rI C fun i j=>.int (g i j)):=by
 intro pins s σ H x y v u Q I rx ry h
 obtain⟨i,j,rfl,rfl,hc,q⟩:=h
 obtain⟨t,rfl⟩:=rx
 obtain⟨t',rfl⟩:=ry
 exact rule i j t t' s _ _ hc ⟨.int (g i j),H,I.tok _,⟨_,rfl⟩,q⟩
theorem opI0 {f:Value->Value->Sem Value} {g:Int->Int->Int}
  (rule:∀(i j:Int) (t u:Tok) (s:Shared) (Q:Value->Shared->Prop) (E:Value->Shared->Prop),Q (.int (g i j) s.toks) { s with toks:=s.toks+1 }->wpAny (model X.prog X.w) X.A (f (.int i t) (.int j u)) Q E s) :
  OpR X f (rI0 fun i j=>.int (g i j)):=by
 intro pins s σ H x y v u Q I rx ry h
 obtain⟨i,j,rfl,rfl,q⟩:=h
 obtain⟨t,rfl⟩:=rx
 obtain⟨t',rfl⟩:=ry
 exact rule i j t t' s _ _ ⟨.int (g i j),H,I.tok _,⟨_,rfl⟩,q⟩
theorem opB0 {f:Value->Value->Sem Value} {g:Int->Int->Bool}
  (rule:∀(i j:Int) (t u:Tok) (s:Shared) (Q:Value->Shared->Prop) (E:Value->Shared->Prop),Q (.bool (g i j)) s->wpAny (model X.prog X.w) X.A (f (.int i t) (.int j u)) Q E s) :
  OpR X f (rI0 fun i j=>.bl (g i j)):=by
 intro pins s σ H x y v u Q I rx ry h
 obtain⟨i,j,rfl,rfl,q⟩:=h
 obtain⟨t,rfl⟩:=rx
 obtain⟨t',rfl⟩:=ry
 exact rule i j t t' s _ _ ⟨.bl (g i j),H,I,rfl,q⟩
def CPow (i j:Int):Prop:=0<=j/\j<=1000000/\i.natAbs<2^64
def CMul (i j:Int):Prop:=(-(2^64)<i/\i<2^64)\/(-(2^64)<j/\j<2^64)
theorem CMul.ok {i j:Int} (h:CMul i j):IntMulOk i j:=by
 rcases h with⟨h1,h2⟩|⟨h1,h2⟩
 ·exact .of_left (intBits_le_64 h1 h2)
 ·exact .of_right (intBits_le_64 h1 h2)
theorem vB:OpR X (binaryOp .Add) (rI0 fun i j=>.int (i+j)):=opI0 fun _ _ _ _ _ _ _ q=>add_int q
theorem zT:OpR X (binaryOp .Sub) (rI0 fun i j=>.int (i-j)):=opI0 fun _ _ _ _ _ _ _ q=>sub_int q
theorem Xb:OpR X (binaryOp .Mult) (rI CMul fun i j=>.int (i*j)):=opI fun _ _ _ _ _ _ _ hc q=>mul_int q hc.ok
theorem zV:OpR X (binaryOp .Mod) (rI (fun _ j=>0<j) fun i j=>.int (i % j)):=opI fun i j _ _ _ _ _ hc q=>by
 have h1:(0:Int)<j:=hc
 exact mod_int' (by omega) (by rw[Int.fmod_eq_emod_of_nonneg i (by omega)]; exact q)
theorem op_pow:OpR X (binaryOp .Pow) (rI CPow fun i j=>.int (i^j.toNat)):=opI fun _ _ _ _ _ _ _ hc q=>pow_int_small hc.1 hc.2.1 hc.2.2 q
theorem ja:OpR X (binaryOp .LShift) (rI CPow fun i j=>.int (i*2^j.toNat)):=opI fun _ _ _ _ _ _ _ hc q=>lshift_int_small hc.1 hc.2.1 hc.2.2 q
theorem unI {f:Value->Sem Value} {g:Int->Int}
  (rule:∀(i:Int) (t:Tok) (s:Shared) (Q:Value->Shared->Prop) (E:Value->Shared->Prop),Q (.int (g i) s.toks) { s with toks:=s.toks+1 }->wpAny (model X.prog X.w) X.A (f (.int i t)) Q E s) :
  UnR X f (rU fun i=>.int (g i)):=by
 intro pins s σ H x v Q I rx h
 obtain⟨i,rfl,q⟩:=h
 obtain⟨t,rfl⟩:=rx
 exact rule i t s _ _ ⟨.int (g i),H,I.tok _,⟨_,rfl⟩,q⟩
theorem un_neg:UnR X (unaryOp .USub) (rU fun i=>.int (-i)):=unI fun _ _ _ _ _ q=>neg_int q
end
def scal:V->V->Bool
 |.non, .non=>true | .non, .int _=>true | .int _, .non=>true | .non, .bl _=>true | .bl _, .non=>true | .non, .str _=>true | .str _, .non=>true
 |.int _, .int _=>true | .bl _, .bl _=>true | .str _, .str _=>true | .byt _, .byt _=>true
 |.int _, .str _=>true | .str _, .int _=>true | .bl _, .str _=>true | .str _, .bl _=>true
 |_,_=>false
def rEq:R2:=fun x y H Q=>scal x y=true/\Q (.bl (decide (x=y))) H
def rNe:R2:=fun x y H Q=>scal x y=true/\Q (.bl (!decide (x=y))) H
theorem X5 {i j:Int}:decide (V.int i=V.int j)=(i==j):=by
 rw[Bool.eq_iff_iff]
 simp
theorem dec_bl {i j:Bool}:decide (V.bl i=V.bl j)=(i==j):=by
 rw[Bool.eq_iff_iff]
 simp
theorem X4 {i j:Str}:decide (V.str i=V.str j)=(i==j):=by
 rw[Bool.eq_iff_iff]
 simp
theorem X6 {i j:Array UInt8}:decide (V.byt i=V.byt j)=(i.toList==j.toList):=by
 rw[Bool.eq_iff_iff]
 cases i
 cases j
 simp
section
variable {X:Cx} {a b c:Expr} {ta tb tc:TE} {pos:Pos}
theorem qE {pins:List (Addr×Obj)} {σ:St} {H:Hp} {s:Shared} {Q:VK} {k k':Bool} (I:Inv X pins σ H s) (q:Q (.bl k) H) (e:k=k'):EP X pins σ Q (.bool k') s:=by
 subst e
 exact⟨.bl k,H,I,rfl,q⟩
theorem Qz:OpR X (compareOp .Eq) rEq:=by
 intro pins s σ H x y v u Q I rx ry h
 obtain⟨hs,q⟩:=h
 cases x with
 |non =>
  cases rx
  cases y with
  |non=>cases ry; exact PySem.EqNone.eq_none_none (qE I q (by simp))
  |bl j=>cases ry; exact PySem.EqNone.eq_none_bool (qE I q (by simp))
  |int j=>obtain⟨t',rfl⟩:=ry; exact PySem.EqNone.eq_none_int (qE I q (by simp))
  |str j=>obtain⟨t',rfl⟩:=ry; exact PySem.EqNone.eq_none_str (qE I q (by simp))
  |_=>exact absurd (show false=true from hs) Bool.false_ne_true
 |bl i =>
  cases rx
  cases y with
  |non=>cases ry; exact PySem.EqNone.eq_bool_none (qE I q (by simp))
  |bl j=>cases ry; exact eq_bool (qE I q dec_bl)
  |str j=>obtain⟨t',rfl⟩:=ry; exact PySem.EqMixed.eq_bool_str (qE I q (by simp))
  |_=>exact absurd (show false=true from hs) Bool.false_ne_true
 |int i =>
  obtain⟨t,rfl⟩:=rx
  cases y with
  |non=>cases ry; exact PySem.EqNone.eq_int_none (qE I q (by simp))
  |int j=>obtain⟨t',rfl⟩:=ry; exact eq_int (qE I q X5)
  |str j=>obtain⟨t',rfl⟩:=ry; exact PySem.EqMixed.eq_int_str (qE I q (by simp))
  |_=>exact absurd (show false=true from hs) Bool.false_ne_true
 |str i =>
  obtain⟨t,rfl⟩:=rx
  cases y with
  |non=>cases ry; exact PySem.EqNone.eq_str_none (qE I q (by simp))
  |bl j=>cases ry; exact PySem.EqMixed.eq_str_bool (qE I q (by simp))
  |int j=>obtain⟨t',rfl⟩:=ry; exact PySem.EqMixed.eq_str_int (qE I q (by simp))
  |str j=>obtain⟨t',rfl⟩:=ry; exact eq_str (qE I q X4)
  |_=>exact absurd (show false=true from hs) Bool.false_ne_true
 |byt i =>
  obtain⟨t,rfl⟩:=rx
  cases y with
  |byt j=>obtain⟨t',rfl⟩:=ry; exact PySem.W.eq_bytes (qE I q X6)
  |_=>exact absurd (show false=true from hs) Bool.false_ne_true
 |_=>cases y<;>exact absurd (show false=true from hs) Bool.false_ne_true
theorem op_ne:OpR X (compareOp .NotEq) rNe:=by
 intro pins s σ H x y v u Q I rx ry h
 obtain⟨hs,q⟩:=h
 cases x with
 |non =>
  cases rx
  cases y with
  |non=>cases ry; exact PySem.EqNone.ne_none_none (qE I q (by simp))
  |bl j=>cases ry; exact PySem.EqNone.ne_none_bool (qE I q (by simp))
  |int j=>obtain⟨t',rfl⟩:=ry; exact PySem.EqNone.ne_none_int (qE I q (by simp))
  |str j=>obtain⟨t',rfl⟩:=ry; exact PySem.EqNone.ne_none_str (qE I q (by simp))
  |_=>exact absurd (show false=true from hs) Bool.false_ne_true
 |bl i =>
  cases rx
  cases y with
  |non=>cases ry; exact PySem.EqNone.ne_bool_none (qE I q (by simp))
  |bl j=>cases ry; exact ne_bool (qE I q (congrArg not dec_bl))
  |str j=>obtain⟨t',rfl⟩:=ry; exact PySem.EqMixed.ne_bool_str (qE I q (by simp))
  |_=>exact absurd (show false=true from hs) Bool.false_ne_true
 |int i =>
  obtain⟨t,rfl⟩:=rx
  cases y with
  |non=>cases ry; exact PySem.EqNone.ne_int_none (qE I q (by simp))
  |int j=>obtain⟨t',rfl⟩:=ry; exact ne_int (qE I q (congrArg not X5))
  |str j=>obtain⟨t',rfl⟩:=ry; exact PySem.EqMixed.ne_int_str (qE I q (by simp))
  |_=>exact absurd (show false=true from hs) Bool.false_ne_true
 |str i =>
  obtain⟨t,rfl⟩:=rx
  cases y with
  |non=>cases ry; exact PySem.EqNone.ne_str_none (qE I q (by simp))
  |bl j=>cases ry; exact PySem.EqMixed.ne_str_bool (qE I q (by simp))
  |int j=>obtain⟨t',rfl⟩:=ry; exact PySem.EqMixed.ne_str_int (qE I q (by simp))
  |str j=>obtain⟨t',rfl⟩:=ry; exact ne_str (qE I q (congrArg not X4))
  |_=>exact absurd (show false=true from hs) Bool.false_ne_true
 |byt i =>
  obtain⟨t,rfl⟩:=rx
  cases y with
  |byt j=>obtain⟨t',rfl⟩:=ry; exact PySem.W.ne_bytes (qE I q (congrArg not X6))
  |_=>exact absurd (show false=true from hs) Bool.false_ne_true
 |_=>cases y<;>exact absurd (show false=true from hs) Bool.false_ne_true
theorem Qx:OpR X (compareOp .Lt) (rI0 fun i j=>.bl (decide (i<j))):=opB0 fun _ _ _ _ _ _ _ q=>lt_int q
theorem VU:OpR X (compareOp .LtE) (rI0 fun i j=>.bl (decide (i<=j))):=opB0 fun _ _ _ _ _ _ _ q=>le_int q
theorem op_gt:OpR X (compareOp .Gt) (rI0 fun i j=>.bl (decide (j<i))):=opB0 fun _ _ _ _ _ _ _ q=>gt_int q
theorem op_ge:OpR X (compareOp .GtE) (rI0 fun i j=>.bl (decide (j<=i))):=opB0 fun _ _ _ _ _ _ _ q=>ge_int q
theorem op_isN:OpR X (compareOp .Is) (fun x y H Q=>y=.non/\Q (.bl (decide (x=.non))) H):=by
 intro pins s σ H x y v u Q I rx ry h
 obtain⟨rfl,q⟩:=h
 cases ry
 refine is_none_gen (qE I q ?_)
 cases x<;>first
  | (cases rx; rfl)
  | (obtain⟨t,rfl⟩:=rx; rfl)
theorem Z9:OpR X (compareOp .IsNot) (fun x y H Q=>y=.non/\Q (.bl (!decide (x=.non))) H):=by
 intro pins s σ H x y v u Q I rx ry h
 obtain⟨rfl,q⟩:=h
 cases ry
 refine isnot_none_gen (qE I q ?_)
 cases x<;>first
  | (cases rx; rfl)
  | (obtain⟨t,rfl⟩:=rx; rfl)
theorem qx (b:Expr) {op:CmpOp} (h:op ≠ .In:=by decide) (h2:op ≠ .NotIn:=by decide):behindInMarks op b=false:=by
 have e1:(op==CmpOp.In)=false:=by cases op<;>first|rfl|exact absurd rfl h
 have e2:(op==CmpOp.NotIn)=false:=by cases op<;>first|rfl|exact absurd rfl h2
 cases b<;>simp[behindInMarks,e1,e2]
theorem pe_cmpR {op:CmpOp} {r:R2} (ho:OpR X (compareOp op) r) (ha:PE X a ta) (hb:PE X b tb) (hm:behindInMarks op b=false):PE X (.Compare a [op] [b] pos) (tOp r ta tb):=by
 intro pins s σ H Q I h
 exact wpAny_Compare1 (binT ha hb I h fun v u s2 x y H2 I2 rx ry q=>ho pins s2 σ H2 x y v u Q I2 rx ry q) hm
def jp (t:TE):TT:=fun σ H Q=>t σ H fun x H'=>∃k,x=.bl k/\Q k H'
theorem pt_cmpR {op:CmpOp} {r:R2} (ho:OpR X (compareOp op) r) (ha:PE X a ta) (hb:PE X b tb) (hm:behindInMarks op b=false):PT X (.Compare a [op] [b] pos) (jp (tOp r ta tb)):=by
 intro pins s σ H Q I h
 refine wpAny_isTrue_Compare1 (thn (ha pins s σ H _ I h) fun v s1 ⟨x,H1,I1,r1,q1⟩=>thn (hb pins s1 σ H1 _ I1 q1) fun u s2 ⟨y,H2,I2,r2,q2⟩ =>
  thn (ho pins s2 σ H2 x y v u _ I2 r1 r2 q2) fun c s3 ⟨z,H3,I3,r3,k,e,q3⟩=>?_) hm
 subst e
 cases r3
 exact wpAny_truthy_bool ⟨H3,I3,q3⟩
def zR (r r':R2) (ta tb tc:TE):TE:=fun σ H Q=>ta σ H fun x H1=>tb σ H1 fun y H2=>r x y H2 fun z H3=>∃k,z=.bl k /\
 (if k=true then tc σ H3 fun w' H4=>r' y w' H4 Q else Q (.bl false) H3)
theorem pe_chain {op op':CmpOp} {r r':R2} (ho:OpR X (compareOp op) r) (ho':OpR X (compareOp op') r') (ha:PE X a ta) (hb:PE X b tb) (hc:PE X c tc)
  (hm:lastMarks [op,op'] [b,c]=false:=by with_unfolding_all rfl):PE X (.Compare a [op,op'] [b,c] pos) (zR r r' ta tb tc):=by
 intro pins s σ H Q I h
 refine Compare_chain (thn (ha pins s σ H _ I h) fun v s1 ⟨x,H1,I1,r1,q1⟩=>chain_link (thn (hb pins s1 σ H1 _ I1 q1) fun u s2 ⟨y,H2,I2,r2,q2⟩ =>
  thn (ho pins s2 σ H2 x y v u _ I2 r1 r2 q2) fun d s3 ⟨z,H3,I3,r3,k,e,q3⟩=>?_)) hm
 subst e
 cases r3
 refine wpAny_truthy_bool ?_
 cases k with
 |false=>exact ite_ff ⟨.bl false,H3,I3,rfl,q3⟩
 |true=>exact ite_tt (chain_last (thn (hc pins s3 σ H3 _ I3 q3) fun w' s4 ⟨z',H4,I4,r4,q4⟩=>ho' pins s4 σ H4 y z' u w' Q I4 r2 r4 q4))
def TruV (K:PySem.W.Frag) (x:V) (H:Hp) (k:Bool):Prop :=
 match x with
 |.non=>k=false
 |.bl b=>k=b
 |.int i=>k=(i != 0)
 |.str y=>y.length<=sizeLine/\k=((y.length:Int) != 0)
 |.byt y=>y.size<=sizeLine/\k=((y.size:Int) != 0)
 |.ref p=>(∃xs,SqL K H p xs/\k = !xs.isEmpty)\/(∃xs,SqT K H p xs/\k = !xs.isEmpty)\/∃kvs,H p=some (.dK kvs)/\k = !kvs.isEmpty
 |_=>False
theorem V8 {κ:Type} {kvs:List (κ×V)} {vs:List (κ×Value)} (r:KV kvs vs):(!vs.isEmpty) = !kvs.isEmpty:=by
 cases r<;>rfl
theorem jd {xs:List V} {its:List Value} (r:Vals xs its):(!its.toArray.isEmpty) = !xs.isEmpty:=by
 cases r<;>simp
theorem kL:(sizeLine:Nat)<2^63:=by rw[sizeLine_eq]; decide
theorem tru_ok:TruR X (fun x H Q=>∃k,TruV X.K x H k/\Q k H):=by
 intro pins s σ H x v Q I rx h
 obtain⟨k,e,q⟩:=h
 have hl:=kL
 have hs:sizeLine=16777216:=sizeLine_eq
 cases x with
 |non =>
  cases rx
  have e':k=false:=e
  subst e'
  exact truthy_none ⟨H,I,q⟩
 |bl b =>
  cases rx
  have e':k=b:=e
  subst e'
  exact wpAny_truthy_bool ⟨H,I,q⟩
 |int i =>
  obtain⟨t,rfl⟩:=rx
  have e':k=(i != 0):=e
  subst e'
  exact PySem.P.truthy_int ⟨H,I,q⟩
 |str y =>
  obtain⟨t,rfl⟩:=rx
  obtain⟨hy,e'⟩:y.length<=sizeLine/\k=((y.length:Int) != 0):=e
  subst e'
  exact PySem.P.truthy_str (by omega) ⟨H,I.tok _,q⟩
 |byt y =>
  obtain⟨t,rfl⟩:=rx
  obtain⟨hy,e'⟩:y.size<=sizeLine/\k=((y.size:Int) != 0):=e
  subst e'
  exact PySem.W.truthy_bytes (by omega) ⟨H,I.tok _,q⟩
 |ref p =>
  cases rx
  have e':(∃xs,SqL X.K H p xs/\k = !xs.isEmpty)\/(∃xs,SqT X.K H p xs/\k = !xs.isEmpty)\/∃kvs,H p=some (.dK kvs)/\k = !kvs.isEmpty:=e
  rcases e' with⟨xs,hx,e'⟩|⟨xs,hx,e'⟩|⟨kvs,hx,e'⟩
  ·subst e'
   obtain⟨its,r,pl,hz⟩:=I.list hx
   have hlen:=r.length
   exact wpAny_truthy_list pl.isList (by simp only[List.size_toArray]; omega) ⟨H,I.tok _,by rw[jd r]; exact q⟩
  ·subst e'
   obtain⟨its,r,pl,hz⟩:=I.tuple hx
   have hlen:=r.length
   exact truthy_tuple pl (by simp only[List.size_toArray]; omega) ⟨H,I.tok _,by rw[jd r]; exact q⟩
  ·subst e'
   obtain⟨hz,hS,vs,r,m⟩:kvs.length<=sizeLine/\(p==sysModules)=false/\∃vs,KV kvs vs/\s.heap.DictOf (qO X.prog X.w) p vs:=I.hok p _ hx
   have hlen:kvs.length=vs.length:=Paired.length r
   exact wpAny_truthy_dict hS m (by omega) ⟨H,I.tok _,by rw[V8 r]; exact q⟩
 |_=>exact(show False from e).elim
theorem pt_truth (ha:PE X a ta) (he:∀whole,isTrue a X.env whole=(do let v <-whole; standAt a.pos; holding [v] (truthy v))) :
  PT X a (fun σ H Q=>ta σ H fun x H'=>∃k,TruV X.K x H' k/\Q k H'):=by
 intro pins s σ H Q I h
 exact isTrue_plain (thn (ha pins s σ H _ I h) fun v s1 ⟨x,H1,I1,r1,q1⟩=>tru_ok pins s1 σ H1 x v Q I1 r1 q1) (he _)
theorem jj {x:V} {us:List Value} (r:Vals [x] us):∃u,us=[u]/\RelV x u:=by
 cases r with
 |cons r1 r2=>cases r2; exact⟨_,rfl,r1⟩
theorem vals2 {x y:V} {us:List Value} (r:Vals [x,y] us):∃u w',us=[u,w']/\RelV x u/\RelV y w':=by
 cases r with
 |cons r1 r2 =>
  cases r2 with
  |cons r3 r4=>cases r4; exact⟨_,_,rfl,r1,r3⟩
theorem call_abs:vP X (.builtin "abs") (fun xs H Q=>∃i,xs=[.int i]/\Q (.int (if i<0 then -i else i)) H):=by
 intro pins s σ H xs us Q I r h
 obtain⟨i,rfl,q⟩:=h
 obtain⟨u,rfl,t,rfl⟩:=jj r
 exact call_abs_int fun u tk=>⟨.int (if i<0 then -i else i),H,I.tok _,⟨_,rfl⟩,q⟩
theorem Jn (hc:X.calm=true):vP X (.builtin "max") (fun xs H Q=>∃i j,xs=[.int i, .int j]/\Q (.int (if j>i then j else i)) H):=by
 intro pins s σ H xs us Q I r h
 obtain⟨i,j,rfl,q⟩:=h
 obtain⟨u,w',rfl,⟨t,rfl⟩,⟨t',rfl⟩⟩:=vals2 r
 refine max_two_ints (I.ok.hd hc) fun h' tk k=>⟨_,H,I.kept k, ?_,q⟩
 by_cases hj:j>i
 ·rw[if_pos hj,if_pos hj]; exact⟨_,rfl⟩
 ·rw[if_neg hj,if_neg hj]; exact⟨_,rfl⟩
theorem Jm (hc:X.calm=true):vP X (.builtin "min") (fun xs H Q=>∃i j,xs=[.int i, .int j]/\Q (.int (if j<i then j else i)) H):=by
 intro pins s σ H xs us Q I r h
 obtain⟨i,j,rfl,q⟩:=h
 obtain⟨u,w',rfl,⟨t,rfl⟩,⟨t',rfl⟩⟩:=vals2 r
 refine min_two_ints (I.ok.hd hc) fun h' tk k=>⟨_,H,I.kept k, ?_,q⟩
 by_cases hj:j<i
 ·rw[if_pos hj,if_pos hj]; exact⟨_,rfl⟩
 ·rw[if_neg hj,if_neg hj]; exact⟨_,rfl⟩
end
structure ObjM (h:Heap) (x dx C:Addr) (mA:Str->Option Value):Prop where
 obj:h.get? x=some (PySem.W.instObj C dx)
 ns:h.Ns1 dx mA
 ne:dx≠x
theorem XA {h:Heap} {dx:Addr} {mA:Str->Option Value} (n:h.Ns1 dx mA):∃od,h.get? dx=some od/\∀name,PySem.W.lookIn name od=some (mA name):=by
 obtain⟨o,es,ep,ho,hd,hk,_,hm⟩:=n
 refine⟨o,ho,fun name=>?_⟩
 have e:=hm name
 unfold nsFind findBy at e
 rw[<-Array.find?_toList] at e
 unfold PySem.W.lookIn
 rw[hd]
 dsimp only
 split
 ·rename_i y q
  rw[q] at e
  exact congrArg some e
 ·rename_i q
  rw[q] at e
  have a:es.toList.any (·.refKey)=false:=by
   rw[List.any_eq_false]
   intro y hy
   obtain⟨z,t,hkey⟩:=hk y (Array.mem_toList_iff.mp hy)
   simp[DictEntry.refKey,hkey]
  have a':¬es.toList.any (·.refKey)=true:=by rw[a]; exact Bool.false_ne_true
  rw[if_neg a']
  exact congrArg some e
theorem ObjM.look {h:Heap} {x dx C:Addr} {mA:Str->Option Value} (I:ObjM h x dx C mA):∃od,PySem.W.InstAt h x (PySem.W.instObj C dx) C (some od)/\∀name,PySem.W.lookIn name od=some (mA name) :=
 let⟨od,ho,hl⟩:=XA I.ns
 ⟨od,⟨I.obj,rfl,rfl,ho⟩,hl⟩
theorem RelO.some_of {v:V} {o:Option Value} (r:RelO (some v) o):∃u,o=some u/\RelV v u:=by
 cases o with
 |none=>exact(show False from r).elim
 |some u=>exact⟨u,rfl,r⟩
section
variable {P:Program} {w:World} {H:Hp} {h:Heap} {a C dx:Addr} {fs:List (Str×V)}
theorem ins_get (hok:HOk P w H h) (e:H a=some (.ins C dx fs)):∃mA,ObjM h a dx C mA/\(∀f,RelO (fs.lookup f) (mA f))/\PySem.Within mA (fs.map (·.1))/\fs.length<=1000/\H dx=some (.own a):=by
 obtain⟨d,z,ne,ob,mA,n,r,q⟩:=(show ObjOk P w H h a (.ins C dx fs) from hok a _ e)
 exact⟨mA,⟨ob,n,ne⟩,r,q,z,d⟩
end
structure Cls (K:PySem.W.Frag) (C:Addr):Prop where
 pg:PySem.W.plainGet K C Str.empty=true
 hd:PySem.W.hasDictIn K C=true
 po:PySem.W.plainOver K C=true
 sa:PySem.W.findIn K (.ref C) "__setattr__" = some (some (.builtin "object.__setattr__"))
theorem Cls.get {K:PySem.W.Frag} {C:Addr} (c:Cls K C) (f:Str):PySem.W.plainGet K C f=true:=c.pg
def NoAttr (K:PySem.W.Frag) (C:Addr) (f:Str):Prop:=PySem.W.findIn K (.ref C) f=some none
section
variable {X:Cx} {pins:List (Addr×Obj)} {σ:St} {H:Hp} {s:Shared} {a C:Addr}
theorem Inv.made (I:Inv X pins σ H s):Inv X pins σ (upd (upd H s.heap.objs.size (.own (s.heap.objs.size+1))) (s.heap.objs.size+1) (.ins C s.heap.objs.size []))
  { s with heap:=(s.heap.push PySem.W.emptyDict).push (PySem.W.instObj C s.heap.objs.size) }:=by
 have e1:(s.heap.push PySem.W.emptyDict).get? s.heap.objs.size=some PySem.W.emptyDict:=Heap.get?_push_size s.heap rfl
 have e2:((s.heap.push PySem.W.emptyDict).push (PySem.W.instObj C s.heap.objs.size)).get? (s.heap.objs.size+1)=some (PySem.W.instObj C s.heap.objs.size):=by
  have:=Heap.get?_push_size (s.heap.push PySem.W.emptyDict) (o:=PySem.W.instObj C s.heap.objs.size) rfl
  rwa [Heap.size_push] at this
 have e3:(s.heap.push PySem.W.emptyDict).Ns s.heap.objs.size (fun _=>none):=⟨PySem.W.emptyDict, #[],_,e1,rfl,(fun e he=>absurd he (by simp)),fun _=>rfl⟩
 have I1:=I.laid (a:=s.heap.objs.size) (o:=.own (s.heap.objs.size+1)) (h':=s.heap.push PySem.W.emptyDict) (t':=s.toks) (fun b u q=>Heap.get?_push_of_some _ q) (Nat.le_refl _) ⟨_,e1⟩
 refine I1.laid (a:=s.heap.objs.size+1) (o:=.ins C s.heap.objs.size []) (t':=s.toks) (fun b u q=>Heap.get?_push_of_some _ q) (Nat.le_of_eq (Heap.size_push _ _)) ?_
 have ne:s.heap.objs.size≠s.heap.objs.size+1:=Nat.ne_of_lt (Nat.lt_succ_self _)
 refine⟨by rw[upd_ne ne,upd_same],Nat.zero_le _,ne,e2,fun _=>none,(Heap.Ns1.of_empty e3).at fun o q=>Heap.get?_push_of_some _ q,fun _=>True.intro,fun y hy=>absurd rfl hy⟩
end
section
variable {X:Cx} {pins:List (Addr×Obj)} {σ:St} {H:Hp} {s:Shared} {A:Around} {E:Value->Shared->Prop} {Q:Value->Shared->Prop} {c:Value} {b:Bool}
inductive TyOf (K:PySem.W.Frag) (H:Hp):V->Value->Prop where
 |non:TyOf K H .non (.type "NoneType")
 |bl (x:Bool):TyOf K H (.bl x) (.type "bool")
 |int (i:Int):TyOf K H (.int i) (.type "int")
 |str (x:Str):TyOf K H (.str x) (.type "str")
 |flt (x:UInt64):TyOf K H (.flt x) (.type "float")
 |lst {a:Addr} {xs:List V} (e:H a=some (.lst xs)):TyOf K H (.ref a) (.type "list")
 |frz {a:Addr} {o:Obj} {xs:List V} (e:H a=some (.frz o (.lst xs))):TyOf K H (.ref a) (.type "list")
 |tup {a:Addr} {xs:List V} (e:H a=some (.tup xs)):TyOf K H (.ref a) (.type "tuple")
 |dK {a:Addr} {kvs:List (Key×V)} (e:H a=some (.dK kvs)):TyOf K H (.ref a) (.type "dict")
 |dT {a:Addr} {kvs:List (List Key×V)} (e:H a=some (.dT kvs)):TyOf K H (.ref a) (.type "dict")
 |ins {a C dx:Addr} {fs:List (Str×V)} (e:H a=some (.ins C dx fs)) (cl:Cls K C) (ha:PySem.W.findIn K (.ref C) "__class__" = some (some (.builtin "object.__class__")))
   (hn:PySem.W.specialIn K (.builtin "object.__class__") "__get__" = some (some (.builtin "getset_descriptor.__get__"))) (htk:PySem.W.takesIn K (.builtin "object.__class__")=some true)
   (hm:PySem.W.mroIn K C (.type "object")=some true):TyOf K H (.ref a) (.ref C)
theorem XS {x:V} {u t:Value} (I:Inv X pins σ H s) (rx:RelV x u) (ty:TyOf X.K H x t) (e:PySem.W.kitOne X.K t c=some b) (h:∀tk,Q (.bool b) { s with toks:=tk }) :
  wpAny (model X.prog X.w) A (call (.builtin "isinstance") [u,c]) Q E s:=by
 cases ty with
 |non=>cases(show u=Value.none from rx); exact PySem.W.kia_one PySem.W.kitx_none I.kIn True.intro e (fun z=>nomatch z) h
 |bl y=>cases(show u=Value.bool y from rx); exact PySem.W.kia_one PySem.W.kitx_bool I.kIn True.intro e (fun z=>nomatch z) h
 |int i=>obtain⟨t,q⟩:=(show ∃t,u=Value.int i t from rx); cases q; exact PySem.W.kia_one PySem.W.kitx_int I.kIn True.intro e (fun z=>nomatch z) h
 |str y=>obtain⟨t,q⟩:=(show ∃t,u=Value.str y t from rx); cases q; exact PySem.W.kia_one PySem.W.kitx_str I.kIn True.intro e (fun z=>nomatch z) h
 |flt y=>obtain⟨t,q⟩:=(show ∃t,u=Value.float y t from rx); cases q; exact PySem.W.kia_one PySem.W.kitx_float I.kIn True.intro e (fun z=>nomatch z) h
 | @lst a xs ea =>
  cases(show u=Value.ref a from rx)
  obtain⟨_,_,n,_,h1⟩:=(show ObjOk X.prog X.w H s.heap a (.lst xs) from I.hok a _ ea)
  exact PySem.W.kia_one PySem.W.kitx_list I.kIn ⟨_,h1,rfl⟩ e (fun z=>nomatch z) h
 | @frz a ob xs ea =>
  cases(show u=Value.ref a from rx)
  obtain⟨_,_,_,n,_,h1⟩:=(show ObjOk X.prog X.w H s.heap a (.frz ob (.lst xs)) from I.hok a _ ea)
  exact PySem.W.kia_one PySem.W.kitx_list I.kIn ⟨_,h1,rfl⟩ e (fun z=>nomatch z) h
 | @tup a xs ea =>
  cases(show u=Value.ref a from rx)
  obtain⟨_,_,_,p⟩:=(show ObjOk X.prog X.w H s.heap a (.tup xs) from I.hok a _ ea)
  obtain⟨o,h1,h2,_⟩:=p
  exact PySem.W.kia_one PySem.W.kitx_tuple I.kIn ⟨o,h1,h2⟩ e (fun z=>nomatch z) h
 | @dK a kvs ea =>
  cases(show u=Value.ref a from rx)
  obtain⟨_,_,vs,_,p⟩:=(show ObjOk X.prog X.w H s.heap a (.dK kvs) from I.hok a _ ea)
  obtain⟨o,es,ep,h1,h2,_⟩:=p
  exact PySem.W.kia_one PySem.W.kitx_dict I.kIn ⟨o,h1,h2.1⟩ e (fun z=>nomatch z) h
 | @dT a kvs ea =>
  cases(show u=Value.ref a from rx)
  obtain⟨_,_,xs,_,o,es,ep,h1,h2,_⟩:=(show ObjOk X.prog X.w H s.heap a (.dT kvs) from I.hok a _ ea)
  exact PySem.W.kia_one PySem.W.kitx_dict I.kIn ⟨o,h1,h2.1⟩ e (fun z=>nomatch z) h
 | @ins a C dx fs ea cl ha hn htk hm =>
  cases(show u=Value.ref a from rx)
  obtain⟨mA,O,_⟩:=ins_get I.hok ea
  obtain⟨od,J,_⟩:=O.look
  exact PySem.W.kia_one (PySem.W.kitx_own (cl.get _) cl.hd ha hn htk hm) I.kIn J e (fun z=>nomatch z) h
end
structure Room (k:Nat) (A:Around):Prop where
 hd:A.handled=none
 dp:A.depth+3*k+5<recursionLimit
 un:A.units+16*k+200<cLine
 gd:A.guards=some []
theorem Room.mono {j k:Nat} {A:Around} (r:Room k A) (h:j<=k):Room j A:=⟨r.hd,by have:=r.dp; omega,by have:=r.un; omega,r.gd⟩
theorem Room.deeper {k:Nat} {A:Around} (r:Room (k+1) A) (env:Env):Room k (A.deeper env) :=
 ⟨r.hd,by have:=r.dp; show A.depth+1+3*k+5<_; omega,by have:=r.un; show A.units+3+16*k+200<_; omega,r.gd⟩
theorem Room.depth {k:Nat} {A:Around} (r:Room k A):A.depth<recursionLimit:=by have:=r.dp; omega
theorem Room.units {k:Nat} {A:Around} (r:Room k A):A.units+64<cLine:=by have:=r.un; omega
def tNil:TA:=fun _ H Q=>Q [] H
def vm (ta:TE) (tr:TA):TA:=fun σ H Q=>ta σ H fun x H1=>tr σ H1 fun xs H2=>Q (x::xs) H2
section
variable {X:Cx} {e:Expr} {es:List Expr} {te:TE} {t:TA} {pos:Pos}
theorem pa_nil:PA X [] tNil:=fun _ _ _ _ H Q I h=>Calls.spliced_nil ⟨[],H,I, .nil,h⟩
theorem pa_cons (ha:PE X e te) (hr:PA X es t) (hs:starEach (e::es) X.env=(false,eval e X.env)::starEach es X.env:=by rfl):PA X (e::es) (vm te t):=by
 intro pos pins s σ H Q I h
 rw[hs]
 show wpAny _ _ (spliced ((false,eval e X.env)::backTo pos (starEach es X.env))) _ _ s
 refine Calls.spliced_cons (thn (ha pins s σ H _ I h) fun u s1 ⟨x,H1,I1,r1,q1⟩=>?_)
 exact thn (hr pos pins s1 σ H1 _ I1 q1) fun us s2 ⟨xs,H2,I2,r2,q2⟩=>⟨x::xs,H2,I2, .cons r1 r2,q2⟩
def tTup (t:TA):TE:=fun σ H Q=>t σ H fun xs H1=>xs.length<=sizeLine/\∀p,H1 p=none->Q (.ref p) (upd H1 p (.tup xs))
def tLst (t:TA):TE:=fun σ H Q=>t σ H fun xs H1=>xs.length<=sizeLine/\∀p,H1 p=none->Q (.ref p) (upd H1 p (.lst xs))
theorem pe_tup {x1} (h:PA X es t):PE X (.Tuple es x1 pos) (tTup t):=by
 intro pins s σ H Q I hq
 refine wpAny_Tuple_spliced (thn (h pos pins s σ H _ I hq) fun us s1 ⟨xs,H1,I1,r,z,q⟩=>⟨by rw[<-r.length]; exact z, ?_⟩)
 have hf:H1 s1.heap.objs.size=none:=I1.hok.fresh (Nat.le_refl _)
 refine⟨.ref s1.heap.objs.size,upd H1 s1.heap.objs.size (.tup xs),I1.laid (t':=s1.toks) (fun b u e=>Heap.get?_push_of_some _ e) (Nat.le_refl _) ?_,rfl,q _ hf⟩
 exact⟨z,us,r,⟨_,Heap.get?_push_size _ rfl,rfl,_,rfl⟩⟩
theorem pe_lst (h:PA X es t):PE X (.List es pos) (tLst t):=by
 intro pins s σ H Q I hq
 refine wpAny_List_spliced (thn (h pos pins s σ H _ I hq) fun us s1 ⟨xs,H1,I1,r,z,q⟩=>⟨by rw[<-r.length]; exact z, ?_⟩)
 have hf:H1 s1.heap.objs.size=none:=I1.hok.fresh (Nat.le_refl _)
 refine⟨.ref s1.heap.objs.size,upd H1 s1.heap.objs.size (.lst xs),I1.laid (t':=s1.toks) (fun b u e=>Heap.get?_push_of_some _ e) (Nat.le_refl _) ?_,rfl,q _ hf⟩
 exact⟨z,us,0,r,Heap.get?_push_size _ rfl⟩
end
abbrev Sp:=List V->Hp->VK->XK->Prop
abbrev CXT:=List Env->Hp->Shared->XK->Value->Shared->Prop
structure Env0 (P:Program) (w:World) (K:PySem.W.Frag) (mg:Str->Option Value) (base:Heap) (A:Around) (outer:List Env) (s:Shared) (H:Hp):Prop where
 frames:A.frames=some outer
 mod:Mod K mg base
 bs:∀b o,base.get? b=some o->s.heap.get? b=some o/\H b=none
 bsz:base.objs.size<=s.heap.objs.size
 funs:s.heap.FunFrames base outer
 frf:∀b∈frs outer,H b=none
 hok:HOk P w H s.heap
 bare:AllBare s.gens
def CE (outer:List Env) (P:Program) (w:World) (H:Hp) (s:Shared) (Q:VK) (u:Value) (s':Shared):Prop :=
 ∃v H',s'.os=s.os/\AllBare s'.gens/\Un (frs outer) [] H H' s.heap s'.heap/\HOk P w H' s'.heap/\RelV v u/\Q v H'
def CR (CX:CXT) (outer:List Env) (P:Program) (w:World) (H:Hp) (s:Shared) (Q:VK) (E:XK) (r:Result) (s':Shared):Prop :=
 match r with
 |.ok (.ret u)=>CE outer P w H s Q u s'
 |.ok _=>False
 |.error e=>CX outer H s E e s'
structure FnOk (P:Program) (w:World) (K:PySem.W.Frag) (mg:Str->Option Value) (base:Heap) (CX:CXT) (k:Nat) (f:Addr) (fd:FuncData) (ps:List Str) (sp:Sp):Prop where
 len:∀vs H Q E,sp vs H Q E->vs.length=ps.length
 run:∀(A:Around) (outer:List Env) (s:Shared) (H:Hp) (args:Args) (us:List Value) (vs:List V) (Q:VK) (E:XK),Room k A->Env0 P w K mg base A outer s H->BindsTo s fd args (ps.zip us)->Vals vs us->sp vs H Q E ->
  codeAny (model P w) A (.call (.ref f) args) (CR CX outer P w H s Q E) s
theorem FnOk.imp {P:Program} {w:World} {K:PySem.W.Frag} {mg:Str->Option Value} {base:Heap} {CX:CXT} {k:Nat} {f:Addr} {fd:FuncData} {ps:List Str} {sp sp':Sp} (F:FnOk P w K mg base CX k f fd ps sp)
  (h:∀vs H Q E,sp' vs H Q E->sp vs H Q E):FnOk P w K mg base CX k f fd ps sp' :=
 ⟨fun vs H Q E q=>F.len vs H Q E (h _ _ _ _ q),fun A outer s H args us vs Q E hr he hb hv hs=>F.run A outer s H args us vs Q E hr he hb hv (h _ _ _ _ hs)⟩
section
variable {X:Cx} {pins:List (Addr×Obj)} {σ:St} {H:Hp} {s s':Shared}
theorem Inv.env0 (I:Inv X pins σ H s):Env0 X.prog X.w X.K X.mg X.base X.A X.stack s H :=
 ⟨I.ok.frames,I.ok.mod,I.bs,Nat.le_trans I.ok.bsz I.sz,I.stack,I.stkFree,I.hok,I.bare⟩
theorem Inv.after {Q:VK} {u:Value} (I:Inv X pins σ H s) (h:CE X.stack X.prog X.w H s Q u s'):EP X pins σ Q u s':=by
 obtain⟨v,H',os,bare,un,hok,r,q⟩:=h
 obtain⟨hh,g,d,t,os'⟩:=s'
 obtain rfl:os'=s.os:=os
 exact⟨v,H',I.call (h':=hh) (g':=g) (d':=d) (t':=t) (ch:=[]) un hok bare (fun b z=>absurd z (by simp)),r,q⟩
end
def vK (sp:Sp) (dvs:List V) (E:XK) (t:TA):TE:=fun σ H Q=>t σ H fun vs H1=>sp (vs++dvs) H1 Q E
def Binds (K:PySem.W.Frag) (fd:FuncData) (ps:List Str) (ds:List Value):Prop :=
 ∀(s:Shared) (us:List Value),K.In s.heap->(us++ds).length=ps.length->BindsTo s fd ⟨us, []⟩ (ps.zip (us++ds))
theorem Binds.all {K:PySem.W.Frag} {fd:FuncData} {ps:List Str} (h:∀us:List Value,us.length=ps.length->bindArgs fd ⟨us, []⟩=pure (ps.zip us)):Binds K fd ps []:=fun s us _ hl=>by
 rw[List.append_nil] at hl ⊢
 exact .of_eq (h us hl)
def VH (CX:CXT) (X:Cx) (E:XK):Prop:=∀(pins:List (Addr×Obj)) (σ:St) (H:Hp) (s:Shared) (e:Value) (s':Shared),Inv X pins σ H s->CX X.stack H s E e s'->X.xe e s'
section
variable {X:Cx} {CX:CXT} {k:Nat} {f:Addr} {fd:FuncData} {ps:List Str} {sp:Sp} {dvs:List V} {ds:List Value} {E:XK} {x:Str} {p pos:Pos} {e:Expr} {es:List Expr} {t:TA}
theorem run_fn {pins:List (Addr×Obj)} {σ:St} {H:Hp} {s:Shared} {Q:VK} {us:List Value} {vs:List V} (F:FnOk X.prog X.w X.K X.mg X.base CX k f fd ps sp) (hr:Room k X.A) (hb:Binds X.K fd ps ds) (hd:Vals dvs ds) (hx:VH CX X E)
  (I:Inv X pins σ H s) (r:Vals vs us) (h:sp (vs++dvs) H Q E):wpAny (model X.prog X.w) X.A (call (.ref f) us) (EP X pins σ Q) X.xe s:=by
 have r2:Vals (vs++dvs) (us++ds):=r.append hd
 have hl:(us++ds).length=ps.length:=by rw[<-r2.length]; exact F.len _ _ _ _ h
 refine wpAny_call (codeAny_mono (F.run X.A X.stack s H ⟨us, []⟩ (us++ds) (vs++dvs) Q E hr I.env0 (hb s us I.kIn hl) r2 h) fun r s' hq=>?_)
 cases r with
 |error e=>exact hx pins σ H s e s' I hq
 |ok fl =>
  cases fl with
  |ret u=>exact I.after hq
  |next=>exact False.elim hq
  |brk=>exact False.elim hq
  |cont=>exact False.elim hq
theorem pe_call (F:FnOk X.prog X.w X.K X.mg X.base CX k f fd ps sp) (hr:Room k X.A) (hg:Gl X x) (hm:X.mg x=some (.ref f)) (hk:PySem.W.keepIn X.K (.ref f)=true) (hb:Binds X.K fd ps ds) (hd:Vals dvs ds) (hx:VH CX X E)
  (ha:PA X (e::es) t) (hdb:(x==("__debug__" : Str))=false:=by decide) (he:starEach (e::es) X.env=(false,eval e X.env)::starEach es X.env:=by rfl) (hpl:(backTo pos (starEach es X.env)).any (·.1)=false:=by rfl) :
  PE X (.Call (.Name x p) (e::es) [] pos) (vK sp dvs E t):=by
 intro pins s σ H Q I h
 refine wpAny_Call_Name_kw (jF I hg hm ?_ hdb)
 refine PySem.W.callWith_K (h₀:=X.base) I.ok.mod.kin hk (thn (ha pos pins s σ H _ I h) fun us s1 ⟨vs,H1,I1,r,q⟩=>⟨I1.kIn, ?_⟩) he hpl
 exact run_fn F hr hb hd hx I1 r q
theorem pe_call0 (F:FnOk X.prog X.w X.K X.mg X.base CX k f fd ps sp) (hr:Room k X.A) (hg:Gl X x) (hm:X.mg x=some (.ref f)) (hk:PySem.W.keepIn X.K (.ref f)=true) (hb:Binds X.K fd ps ds) (hd:Vals dvs ds) (hx:VH CX X E)
  (hdb:(x==("__debug__" : Str))=false:=by decide):PE X (.Call (.Name x p) [] [] pos) (vK sp dvs E tNil):=by
 intro pins s σ H Q I h
 refine wpAny_Call_Name_kw (jF I hg hm ?_ hdb)
 exact PySem.W.callWith_K0 I.kIn hk (run_fn (us:=[]) F hr hb hd hx I .nil h)
end
structure FnScope (N P:List Str) (sc:Scope):Prop where
 kind:sc.kind=.function
 co:sc.isCoroutine=false
 gen:sc.isGenerator=false
 nd:N.Nodup
 pre:N.take P.length=P
 par:∀x∈P,sc.names.lookup x=some .local\/sc.names.lookup x=some .cell
 nofree:∀y∈sc.names,y.2 ≠ .free
theorem kZ {kindOf:Str->Option NameKind} {x:Str}:∀{binds:List (Str×Value)} {m:Str->Option Value},(∀v,(x,v)∉binds)->bindL kindOf binds m x=m x
 | [],_,_=>rfl
 | (n,v)::r,m,h=>by
  unfold bindL
  rw[kZ fun w hw=>h w (List.mem_cons_of_mem _ hw)]
  split
  ·have:x≠n:=by rintro rfl; exact h v List.mem_cons_self
   simp[this]
  ·rfl
theorem k8 {kindOf:Str->Option NameKind} {x:Str}:∀{binds:List (Str×Value)} {m:Str->Option Value},(∀v,(x,v)∉binds)->bindC kindOf binds m x=m x
 | [],_,_=>rfl
 | (n,v)::r,m,h=>by
  unfold bindC
  rw[k8 fun w hw=>h w (List.mem_cons_of_mem _ hw)]
  split
  ·rfl
  ·have:x≠n:=by rintro rfl; exact h v List.mem_cons_self
   simp[this]
theorem k7 {kindOf:Str->Option NameKind} {x:Str} {v:Value}:∀{P:List Str} {vs:List Value} {i:Nat} {m:Str->Option Value},P.Nodup->P[i]?=some x->vs[i]?=some v->kindOf x=some .local ->
  bindL kindOf (P.zip vs) m x=some v
 | [],_,_,_,_,h,_,_=>by simp at h
 |_::_, [],_,_,_,_,h,_=>by simp at h
 |p::P,w::vs,0,m,nd,h1,h2,hk=>by
  simp at h1 h2; subst h1; subst h2
  show bindL kindOf ((p,w)::P.zip vs) m p=_
  unfold bindL
  rw[kZ fun v hv=>(List.nodup_cons.mp nd).1 (List.of_mem_zip hv).1,if_pos hk]
  simp
 |p::P,w::vs,i+1,m,nd,h1,h2,hk=>by
  show bindL kindOf ((p,w)::P.zip vs) m x=_
  unfold bindL
  exact k7 (i:=i) (List.nodup_cons.mp nd).2 (by simpa using h1) (by simpa using h2) hk
theorem Qa {kindOf:Str->Option NameKind} {x:Str} {v:Value}:∀{P:List Str} {vs:List Value} {i:Nat} {m:Str->Option Value},P.Nodup->P[i]?=some x->vs[i]?=some v->kindOf x≠some .local ->
  bindC kindOf (P.zip vs) m x=some v
 | [],_,_,_,_,h,_,_=>by simp at h
 |_::_, [],_,_,_,_,h,_=>by simp at h
 |p::P,w::vs,0,m,nd,h1,h2,hk=>by
  simp at h1 h2; subst h1; subst h2
  show bindC kindOf ((p,w)::P.zip vs) m p=_
  unfold bindC
  rw[k8 fun v hv=>(List.nodup_cons.mp nd).1 (List.of_mem_zip hv).1,if_neg hk]
  simp
 |p::P,w::vs,i+1,m,nd,h1,h2,hk=>by
  show bindC kindOf ((p,w)::P.zip vs) m x=_
  unfold bindC
  exact Qa (i:=i) (List.nodup_cons.mp nd).2 (by simpa using h1) (by simpa using h2) hk
def start (N:List Str) (vs:List V):St:=vs.map some++List.replicate (N.length-vs.length) none
def cxOf (CX:CXT) (P:Program) (w:World) (K:PySem.W.Frag) (mg:Str->Option Value) (base:Heap) (N:List Str) (qual:Str) (scope:Scope) (f:Addr) (cd:Value) (A:Around) (outer:List Env) (s:Shared) (H:Hp) (E:XK):Cx where
 prog:=P
 w:=w
 K:=K
 mg:=mg
 base:=base
 A:=A.deeper (envOfC qual scope s.heap.objs.size f cd)
 N:=N
 s₀:=s
 H₀:=H
 env:=envOfC qual scope s.heap.objs.size f cd
 outer:=outer
 stack:=envOfC qual scope s.heap.objs.size f cd::outer
 ex:=[]
 calm:=true
 fn:=fun _=>true
 pn:=[]
 xe:=fun e s'=>wpAny (model P w) (A.deeper (envOfC qual scope s.heap.objs.size f cd)) (leaving (envOfC qual scope s.heap.objs.size f cd) e) (fun _ s''=>CX outer H s E e s'') (fun e' s''=>CX outer H s E e' s'') s'
theorem VB {sc:Scope} {n:Nat} {x:Str} (h:sc.names.lookup x=some .cell):∃c,(cellsFrom n sc.names []).lookup x=some c:=by
 have q:=PySem.W.cellsFrom_some sc.names n [] (.inl h)
 exact Option.isSome_iff_exists.mp q
theorem XT {CX:CXT} {P:Program} {w:World} {K:PySem.W.Frag} {mg:Str->Option Value} {base:Heap} {N ps:List Str} {qual:Str} {scope:Scope} {f:Addr} {cd:Value} {A:Around} {outer:List Env} {s s1:Shared} {H:Hp} {E:XK} {us:List Value} {vs:List V}
  (S:FnScope N ps scope) (hd:A.handled=none) (e0:Env0 P w K mg base A outer s H) (hl:vs.length=ps.length) (r:Vals vs us)
  (x:InCallC s s.heap.objs.size (bindL (envOfC qual scope s.heap.objs.size f cd).kindOf (ps.zip us) fun _=>none) (cellsFrom (s.heap.objs.size+1) scope.names []) (bindC (envOfC qual scope s.heap.objs.size f cd).kindOf (ps.zip us) fun _=>none) s1) :
  Inv (cxOf CX P w K mg base N qual scope f cd A outer s H E) [] (start N vs) H s1:=by
 have hpl:ps.length<=N.length:=by have:=congrArg List.length S.pre; rw[List.length_take] at this; omega
 obtain⟨h1,tk,rfl,hk⟩:=x.done
 have noA:∀b:Addr,b∉(cxOf CX P w K mg base N qual scope f cd A outer s H E).ex:=fun b z=>absurd (show b∈([]:List Addr) from z) (by simp)
 refine⟨⟨e0.mod,S.kind,rfl,rfl,Nat.le_refl _,fun y z c h1 h2=>?_,fun y hy=>?_,fun y c _ h=>?_,fun _=>hd,Around.frames_deeper e0.frames, .inr ⟨rfl,rfl⟩,fun b z=>absurd z (noA b),e0.bs,e0.bsz,fun b _ _=>noA b,fun b z=>absurd z (noA b),e0.funs,e0.frf⟩,
  rfl,e0.bare,Un.kept hk,⟨_,x.toInCall.ns,fun i y v h1 h2 h3=>?_⟩,fun y c h=>⟨_,x.cell y c h⟩,e0.hok.fresh (Nat.le_refl _),fun y c h=>?_,fun p hp=>absurd (show p∈([]:List (Addr×Obj)) from hp) (by simp),e0.hok.kept hk, ?_⟩
 ·exact name_of_addr x.apart (PySem.mem_of_lookup h1) (PySem.mem_of_lookup h2)
 ·have hy:scope.names.lookup y=some .cell\/scope.names.lookup y=some .free:=hy
  rcases hy with hy|hy
  ·exact VB hy
  ·exact absurd rfl (S.nofree _ (PySem.mem_of_lookup hy))
 ·exact Nat.le_of_lt (x.above y c (PySem.mem_of_lookup h))
 ·have hi:i<vs.length:=by
   unfold start at h2
   by_cases hi:i<vs.length
   ·exact hi
   ·rw[List.getElem?_append_right (by simpa using hi)] at h2
    rw[List.getElem?_replicate] at h2
    split at h2<;>cases h2
  have ha:vs[i]?=some v:=by
   unfold start at h2
   rw[List.getElem?_append_left (by simpa using hi),List.getElem?_map] at h2
   cases e:vs[i]? with
   |none=>rw[e] at h2; cases h2
   |some a=>rw[e] at h2; cases h2; rfl
  obtain⟨u,hu,rv⟩:=r.get ha
  have hp:ps[i]?=some y:=by
   rw[<-S.pre,List.getElem?_take_of_lt (by omega)]; exact h1
  have ndP:ps.Nodup:=by rw[<-S.pre]; exact S.nd.sublist (List.take_sublist _ _)
  refine⟨u,rv, ?_⟩
  rcases S.par y (List.mem_of_getElem? hp) with k|k
  ·exact .inl ⟨k,k7 ndP hp hu k⟩
  ·obtain⟨c,e⟩:=VB (n:=s.heap.objs.size+1) k
   refine .inr ⟨.inl k,c,e, ?_⟩
   have q:=x.cell y c e
   rw[Qa ndP hp hu (by show scope.names.lookup y≠_; rw[k]; decide)] at q
   exact q
 ·exact e0.hok.fresh (Nat.le_of_lt (x.above y c (PySem.mem_of_lookup h)))
 ·unfold start
  show _=N.length
  rw[List.length_append,List.length_map,List.length_replicate]
  omega
theorem fn_of {CX:CXT} {P:Program} {w:World} {K:PySem.W.Frag} {mg:Str->Option Value} {base:Heap} {k:Nat} {f:Addr} {name qual:Str} {params:Arguments} {body:List Stmt} {scope:Scope} {dV kV doc pm cdv ct oc:Value} {an od:Option Addr}
  {osl:Array (Option Value)} {N ps:List Str} {sp:Sp} (lk:K.lookup f=some ⟨oc,od, .func (PySem.W.fnOf name qual params body scope dV kV doc pm an cdv ct),osl⟩) (hcd:PySem.W.codeIn K cdv qual=true) (S:FnScope N ps scope)
  (len:∀vs H Q E,sp vs H Q E->vs.length=ps.length)
  (hbody:∀(A:Around) (outer:List Env) (s:Shared) (H:Hp) (vs:List V) (Q:VK) (E:XK),Room k (A.deeper (envOfC qual scope s.heap.objs.size f cdv))->sp vs H Q E ->
   ∃t,PSs (cxOf CX P w K mg base N qual scope f cdv A outer s H E) body t/\t { nx:=fun _ H'=>Q .non H',rt:=Q } (start N vs) H) :
  FnOk P w K mg base CX (k+1) f (PySem.W.fnOf name qual params body scope dV kV doc pm an cdv ct) ps sp:=by
 refine⟨len,fun A outer s H args us vs Q E hr e0 hb r hsp=>?_⟩
 have hl:=len _ _ _ _ hsp
 have KX:K.In s.heap:=e0.mod.kin.keeps fun b o e=>(e0.bs b o e).1
 have lim:s.heap.NoLimit:=e0.mod.nolimit.keeps fun b o e=>(e0.bs b o e).1
 have hkind:∀y∈ps.zip us,scope.names.lookup y.1=some .local\/(scope.names.lookup y.1=some .cell/\((cellsFrom (s.heap.objs.size+1) scope.names []).lookup y.1).isSome=true):=fun⟨n,v⟩ hy=>by
  rcases S.par n (List.of_mem_zip hy).1 with q|q
  ·exact .inl q
  ·exact .inr ⟨q,PySem.W.cellsFrom_some _ _ _ (.inl q)⟩
 refine codeAny_call_function hr.depth (KX _ _ lk) rfl S.co S.gen rfl (PySem.W.codeRec_of KX hcd) (hb _ _ _ _ ?_)
 refine wpAny_newFunctionEnv_cells S.kind hkind fun env he s1 x=>?_
 subst he
 refine⟨lim.keeps x.toInCall.keep,codeAny_func ?_⟩
 obtain⟨t,ht,hq⟩:=hbody A outer s H vs Q E (hr.deeper _) hsp
 have I:Inv (cxOf CX P w K mg base N qual scope f cdv A outer s H E) [] (start N vs) H s1:=XT S hr.hd e0 hl r x
 refine wpAny_mono (ht [] s1 (start N vs) H _ I hq) (fun fl s' hs=>?_) fun e s' hs=>hs
 have fin:∀{σ':St} {H':Hp} {v:V} {u:Value},Inv (cxOf CX P w K mg base N qual scope f cdv A outer s H E) [] σ' H' s'->RelV v u->Q v H'->CE outer P w H s Q u s' :=
  fun {σ' H' v u} J rv q=>⟨v,H',J.os,J.bare,J.base,J.hok,rv,q⟩
 cases fl with
 |ret u =>
  obtain⟨v,σ',H',J,rv,q⟩:=hs
  exact fin J rv q
 |next =>
  obtain⟨σ',H',J,q⟩:=hs
  exact fin (v:=V.non) (u:=Value.none) J rfl q
 |brk =>
  obtain⟨_,_,_,q⟩:=hs
  exact False.elim q
 |cont =>
  obtain⟨_,_,_,q⟩:=hs
  exact False.elim q
section
variable {X:Cx} {x:Str} {p pos:Pos} {e:Expr} {es:List Expr} {t:TA} {id T:String} {r:List V->Hp->VK->Prop}
def tCB (r:List V->Hp->VK->Prop) (t:TA):TE:=fun σ H Q=>t σ H fun vs H1=>r vs H1 Q
theorem pe_callB (hc:vP X (.builtin id) r) (hg:Gl X x) (hm:X.mg x=none) (hv:bootBuiltins x=some (.builtin id)) (ha:PA X (e::es) t) (hn:x ≠ "__name__" := by decide) (hdb:(x==("__debug__" : Str))=false:=by decide)
  (he:starEach (e::es) X.env=(false,eval e X.env)::starEach es X.env:=by rfl) (hpl:(backTo pos (starEach es X.env)).any (·.1)=false:=by rfl):PE X (.Call (.Name x p) (e::es) [] pos) (tCB r t):=by
 intro pins s σ H Q I h
 refine wpAny_Call_Name_kw (zW I hg hm hv ?_ hn hdb)
 exact PyProof.Rows.callWith_builtin1 (thn (ha pos pins s σ H _ I h) fun us s1 ⟨vs,H1,I1,r1,q1⟩=>hc pins s1 σ H1 vs us Q I1 r1 q1) he hpl
theorem Z6 (hc:vP X (.type T) r) (hg:Gl X x) (hm:X.mg x=none) (hv:bootBuiltins x=some (.type T)) (ha:PA X (e::es) t) (hn:x ≠ "__name__" := by decide) (hdb:(x==("__debug__" : Str))=false:=by decide)
  (he:starEach (e::es) X.env=(false,eval e X.env)::starEach es X.env:=by rfl) (hpl:(backTo pos (starEach es X.env)).any (·.1)=false:=by rfl):PE X (.Call (.Name x p) (e::es) [] pos) (tCB r t):=by
 intro pins s σ H Q I h
 refine wpAny_Call_Name_kw (zW I hg hm hv ?_ hn hdb)
 exact PyProof.Rows.callWith_type1 (thn (ha pos pins s σ H _ I h) fun us s1 ⟨vs,H1,I1,r1,q1⟩=>hc pins s1 σ H1 vs us Q I1 r1 q1) he hpl
end
end L2
namespace HT
open PySem PyProof.Rows
section
variable {prog:Program} {w:World} {A:Around} {E:Value->Shared->Prop} {s:Shared}
def sIx (n d:Nat):Option Int->Nat
 |none=>d
 |some v=>if v<0 then(v+(n:Int)).toNat else min v.toNat n
theorem sIx_nat (n d k:Nat):sIx n d (some (k:Int))=min k n:=by
 show(if(k:Int)<0 then((k:Int)+(n:Int)).toNat else min (k:Int).toNat n)=min k n
 rw[if_neg (by omega),Int.toNat_natCast]
theorem sIx_le (n d:Nat) (hd:d<=n) (o:Option Int):sIx n d o<=n:=by
 cases o with
 |none=>exact hd
 |some v =>
  show(if v<0 then(v+(n:Int)).toNat else min v.toNat n)<=n
  by_cases hv:v<0
  ·rw[if_pos hv]; omega
  ·rw[if_neg hv]; exact Nat.min_le_right _ _
theorem Jd (v:Int) (n d:Nat):(if v<0 then max (v+(n:Int)) 0 else min v (n:Int))=((sIx n d (some v):Nat):Int):=by
 show(if v<0 then max (v+(n:Int)) 0 else min v (n:Int))=(((if v<0 then(v+(n:Int)).toNat else min v.toNat n):Nat):Int)
 by_cases hv:v<0
 ·simp only[if_pos hv]; omega
 ·simp only[if_neg hv]; omega
theorem Zh (lo hi:Option Int) (n:Nat):Builtin.Slice.sliceAdjust lo hi 1 (n:Int)=(((sIx n 0 lo:Nat):Int),((sIx n n hi:Nat):Int)):=by
 have h1:¬((1:Int)<0):=by omega
 unfold Builtin.Slice.sliceAdjust
 simp only[h1,if_false]
 refine Prod.ext ?_ ?_
 ·cases lo with
  |none=>rfl
  |some v=>exact Jd v n 0
 ·cases hi with
  |none=>rfl
  |some v=>exact Jd v n n
theorem VS (i j:Nat):Builtin.Slice.slicePlaces (i:Int) (j:Int) 1=j-i:=by
 unfold Builtin.Slice.slicePlaces
 have h1:(1:Int)>0:=by omega
 simp only[h1,if_true,Int.ediv_one]
 split<;>omega
theorem xV {v:Value} {o:Option Int} {Q:Option Int->Shared->Prop} (p:IsPart v o) (h:Q o s):wpAny (model prog w) A (Builtin.Slice.slicePartIndex v) Q E s:=by
 cases p with
 |none=>exact slicePart_none h
 |int i t=>exact slicePart_int h
theorem xa {sl:Addr} {vl vu:Value} {lo hi:Option Int} {n:Nat} {Q:Int×Int×Nat->Shared->Prop} (hs:s.heap.IsSliceOf sl vl vu .none) (pl:IsPart vl lo) (pu:IsPart vu hi)
  (h:Q (((sIx n 0 lo:Nat):Int),1,sIx n n hi-sIx n 0 lo) s):wpAny (model prog w) A (Builtin.Slice.sliceApplied (.ref sl) (pure (n:Int))) Q E s:=by
 obtain⟨os,hos,hcs,hds⟩:=id hs
 unfold Builtin.Slice.sliceApplied Builtin.Slice.sliceFields
 refine wpAny_bind (wpAny_bind (wpAny_field hos hds (x:=vl) rfl (wpAny_bind (wpAny_field hos hds (x:=vu) rfl (wpAny_bind (wpAny_field hos hds (x:=.none) rfl (wpAny_pure ?_)))))))
 refine wpAny_bind (slicePart_none ?_)
 show wpAny _ _ (if((1:Int)==0)=true then _ else _) _ _ s
 rw[if_neg (by decide)]
 refine wpAny_bind (xV pl (wpAny_bind (xV pu (wpAny_bind (wpAny_pure ?_)))))
 show wpAny _ _ (match Builtin.Slice.sliceAdjust lo hi 1 (n:Int) with|(lo,hi)=>pure (lo,(1:Int),Builtin.Slice.slicePlaces lo hi 1)) _ _ s
 rw[Zh lo hi n]
 show wpAny _ _ (pure (((sIx n 0 lo:Nat):Int),(1:Int),Builtin.Slice.slicePlaces ((sIx n 0 lo:Nat):Int) ((sIx n n hi:Nat):Int) 1)) _ _ s
 rw[VS]
 exact wpAny_pure h
theorem pick_gen (xs:Array Value) (i k:Nat):((List.range k).filterMap fun(m:Nat)=>xs[((i:Int)+(m:Int)*1).toNat]?).toArray=((xs.toList.drop i).take k).toArray:=by
 have e:(fun(m:Nat)=>xs[((i:Int)+(m:Int)*1).toNat]?)=fun m=>xs[i+m]?:=by
  funext m
  have:((i:Int)+(m:Int)*1).toNat=i+m:=by omega
  rw[this]
 rw[e]
 have:=pick_run xs i k
 rw[List.filterMap_map] at this
 have e2:((fun x=>xs[x]?) ∘ fun x=>i+x)=fun m=>xs[i+m]?:=rfl
 rw[e2] at this
 rw[this]
theorem getItem_tuple_cut {t sl:Addr} {items:Array Value} {vl vu:Value} {lo hi:Option Int} {Q:Value->Shared->Prop} (ht:IsTup s.heap t items) (hs:s.heap.IsSliceOf sl vl vu .none) (pl:IsPart vl lo) (pu:IsPart vu hi)
  (hw:¬(sIx items.size 0 lo=0/\sIx items.size items.size hi=items.size))
  (h:Q (.ref s.heap.objs.size) { s with heap:=s.heap.push { cls:=.type "tuple", data:=.seq ((items.toList.drop (sIx items.size 0 lo)).take (sIx items.size items.size hi-sIx items.size 0 lo)).toArray } })
  (hsz:items.size<=sizeLine):wpAny (model prog w) A (getItem (.ref t) (.ref sl)) Q E s:=by
 have htake:sizeOk (.seq ((items.toList.drop (sIx items.size 0 lo)).take (sIx items.size items.size hi-sIx items.size 0 lo)).toArray):=by
  show((items.toList.drop (sIx items.size 0 lo)).take (sIx items.size items.size hi-sIx items.size 0 lo)).toArray.size<=sizeLine
  rw[List.size_toArray,List.length_take,List.length_drop,Array.length_toList]
  omega
 have hj:sIx items.size items.size hi<=items.size:=sIx_le _ _ (Nat.le_refl _) hi
 obtain⟨os,hos,hcs,hds⟩:=id hs
 have hTs:s.TypeIs (.ref sl) "slice" := ⟨os,hos,hcs⟩
 unfold getItem
 try with_reducible refine wpAny_holding ?_
 first|refine wpAny_bind (wpAny_pure ?_)|skip
 refine wpAny_bind (wpAny_sequenceKey ht.typeIs (by decide) ?_)
 refine wpAny_bind (wpAny_callSpecial?_slot (name:=Str.ofString "__getitem__") ht.typeIs PyProof.Rows.slot_tuple_getitem
  (wpAny_call_entry PyProof.Rows.slot_tuple_getitem ht.typeIs entry_tuple_getitem ?_ (args_tuple_getitem _ _)))
 show wpAny _ _ (Builtin.Tuple.tupleItemsOf (.ref t) >>= _) _ _ s
 refine wpAny_bind (tupleItemsOf_ ht ?_)
 refine wpAny_bind (wpAny_typeOf hTs ?_)
 rw[if_pos (by decide)]
 refine wpAny_bind (xa hs pl pu ?_)
 have hno:¬((((sIx items.size 0 lo:Nat):Int)==0&&(1:Int)==1&&(sIx items.size items.size hi-sIx items.size 0 lo)==items.size)=true):=by
  intro q
  rw[Bool.and_eq_true,Bool.and_eq_true] at q
  have q1:((sIx items.size 0 lo:Nat):Int)=0:=eq_of_beq q.1.1
  have q2:sIx items.size items.size hi-sIx items.size 0 lo=items.size:=eq_of_beq q.2
  exact hw ⟨by omega,by omega⟩
 show wpAny _ _ (if(((sIx items.size 0 lo:Nat):Int)==0&&(1:Int)==1&&(sIx items.size items.size hi-sIx items.size 0 lo)==items.size)=true then _ else _) _ _ s
 rw[if_neg hno,pick_gen]
 first
  |exact wpAny_bind (m:=Builtin.Tuple.tupleExact _) (wpAny_newObj_type (wpAny_pure ⟨_,rfl,wpAny_pure h⟩) htake)
  |exact wpAny_bind (m:=Builtin.Tuple.tupleExact _) (wpAny_newObj_type (wpAny_bind (wpAny_pure (wpAny_pure ⟨_,rfl,wpAny_pure h⟩))) htake)
  |exact wpAny_bind (wpAny_bind (m:=Builtin.Tuple.tupleExact _) (wpAny_newObj_type (wpAny_pure (wpAny_pure ⟨_,rfl,wpAny_pure h⟩)) htake))
  |exact wpAny_bind (wpAny_bind (m:=Builtin.Tuple.tupleExact _) (wpAny_newObj_type (wpAny_pure ⟨_,rfl,wpAny_pure h⟩) htake))
end
end HT
namespace L2
open PySem PySem.Spec PyProof.Rows
abbrev TO:=St->Hp->(Option Int->Hp->Prop)->Prop
def PO (X:Cx) (e:Option Expr) (t:TO):Prop :=
 ∀(pins:List (Addr×Obj)) (s:Shared) (σ:St) (H:Hp) (Q:Option Int->Hp->Prop),Inv X pins σ H s->t σ H Q ->
  wpAny (model X.prog X.w) X.A (evalPart e X.env) (fun u s'=>∃o H',Inv X pins σ H' s'/\IsPart u o/\Q o H') X.xe s
def vR:TO:=fun _ H Q=>Q none H
def j4 (t:TE):TO:=fun σ H Q=>t σ H fun x H1=>∃i,x=.int i/\Q (some i) H1
theorem je {ns:List Int}:∀{us:List Value},Vals (ns.map V.int) us->IntsAre us ns:=by
 induction ns with
 |nil=>intro us r; rw[List.map_nil] at r; cases r; exact .nil
 |cons n ns ih =>
  intro us r
  rw[List.map_cons] at r
  cases r with
  |cons r1 r2 =>
   obtain⟨t,e⟩:=r1
   subst e
   exact .cons n t (ih r2)
section
variable {X:Cx} {e:Expr} {te:TE} {lo hi:Option Expr} {tl th:TO} {pos p2:Pos}
theorem po_none:PO X none vR:=by
 intro pins s σ H Q I h
 rw[evalPart_none]
 exact wpAny_pure ⟨none,H,I, .none,h⟩
theorem po_some (h:PE X e te):PO X (some e) (j4 te):=by
 intro pins s σ H Q I hw
 rw[evalPart_some]
 refine thn (h pins s σ H _ I hw) fun u s1 ⟨x,H1,I1,r1,q1⟩=>?_
 obtain⟨i,rfl,q⟩:=q1
 obtain⟨t,rfl⟩:=r1
 exact⟨some i,H1,I1, .int i t,q⟩
def SlR (X:Cx) (r:V->Option Int->Option Int->Hp->VK->Prop):Prop :=
 ∀(pins:List (Addr×Obj)) (s:Shared) (σ:St) (H:Hp) (x:V) (v vl vu:Value) (lo hi:Option Int) (sl:Addr) (Q:VK),Inv X pins σ H s->RelV x v->s.heap.IsSliceOf sl vl vu .none->IsPart vl lo->IsPart vu hi->r x lo hi H Q ->
  ∃T id,typeLookup (.type T) "__getitem__" = pure (some (.builtin id))/\s.TypeIs v T/\wpAny (model X.prog X.w) X.A (getItem v (.ref sl)) (EP X pins σ Q) X.xe s
def tSl (r:V->Option Int->Option Int->Hp->VK->Prop) (te:TE) (tl th:TO):TE:=fun σ H Q=>te σ H fun x H1=>tl σ H1 fun l H2=>th σ H2 fun u H3=>r x l u H3 Q
theorem pe_slice {r:V->Option Int->Option Int->Hp->VK->Prop} (hr:SlR X r) (he:PE X e te) (hl:PO X lo tl) (hu:PO X hi th):PE X (.Subscript e (.Slice lo hi none p2) pos) (tSl r te tl th):=by
 intro pins s σ H Q I h
 refine Subscript_ (thn (he pins s σ H _ I h) fun v s1 ⟨x,H1,I1,r1,q1⟩=>?_)
 refine wpAny_Slice (thn (hl pins s1 σ H1 _ I1 q1) fun vl s2 ⟨l,H2,I2,pl,q2⟩=>thn (hu pins s2 σ H2 _ I2 q2) fun vu s3 ⟨u,H3,I3,pu,q3⟩=>?_)
 rw[evalPart_none]
 refine wpAny_pure ?_
 have I4:Inv X pins σ H3 { s3 with heap:=s3.heap.push { cls:=.type "slice", data:=.fields #[vl,vu, .none] } }:=I3.kept (t':=s3.toks) fun b ob q=>Heap.get?_push_of_some _ q
 obtain⟨T,id,hT,ht,hg⟩:=hr pins { s3 with heap:=s3.heap.push { cls:=.type "slice", data:=.fields #[vl,vu, .none] } } σ H3 x v vl vu l u s3.heap.objs.size Q I4 r1 (Heap.IsSliceOf.new ..) pl pu q3
 show wpAny (model X.prog X.w) X.A (subscriptTail e (.Slice lo hi none p2) v (.ref s3.heap.objs.size)) (EP X pins σ Q) X.xe { s3 with heap:=s3.heap.push { cls:=.type "slice", data:=.fields #[vl,vu, .none] } }
 exact tail_any (ops:=[.ref s3.heap.objs.size,v]) ht hT hg (by with_unfolding_all rfl)
def cutV (xs:List V) (lo hi:Option Int):List V:=(xs.drop (HT.sIx xs.length 0 lo)).take (HT.sIx xs.length xs.length hi-HT.sIx xs.length 0 lo)
theorem xM (xs:List V) (lo hi:Option Int):(cutV xs lo hi).length<=xs.length:=by
 unfold cutV
 rw[List.length_take,List.length_drop]
 omega
def rSlT (K:PySem.W.Frag):V->Option Int->Option Int->Hp->VK->Prop:=fun x lo hi H Q=>∃a xs,x=.ref a/\SqT K H a xs /\
 ¬(HT.sIx xs.length 0 lo=0/\HT.sIx xs.length xs.length hi=xs.length)/\∀p,H p=none->Q (.ref p) (upd H p (.tup (cutV xs lo hi)))
theorem sl_tup:SlR X (rSlT X.K):=by
 intro pins s σ H x v vl vu lo hi sl Q I rx hs pl pu h
 obtain⟨a,xs,rfl,hx,hw,q⟩:=h
 cases rx
 obtain⟨its,r,ht,hz⟩:=I.tuple hx
 have hlen:its.toArray.size=xs.length:=by rw[List.size_toArray]; exact r.length.symm
 refine⟨"tuple", _,PyProof.Rows.slot_tuple_getitem.lookup,ht.typeIs, ?_⟩
 refine HT.getItem_tuple_cut ht hs pl pu (by rw[hlen]; exact hw) ?_ (by rw[hlen]; exact hz)
 rw[hlen]
 refine⟨.ref s.heap.objs.size,_,I.laid (t':=s.toks) (o:=.tup (cutV xs lo hi)) (fun b ob q=>Heap.get?_push_of_some _ q) (Nat.le_refl _) ?_,rfl,q _ (I.hok.fresh (Nat.le_refl _))⟩
 exact⟨Nat.le_trans (xM xs lo hi) hz,_,(r.drop (HT.sIx xs.length 0 lo)).take (HT.sIx xs.length xs.length hi-HT.sIx xs.length 0 lo),IsTup.new _ _⟩
end
def ixN (n:Nat) (i:Int):Option Nat:=if 0<=i then(if i<n then some i.toNat else none) else if -(n:Int)<=i then some (i+n).toNat else none
def atI {α:Type} (xs:List α) (i:Int):Option α:=(ixN xs.length i).bind fun j=>xs[j]?
theorem XO {n:Nat} {i:Int} {j:Nat} (h:ixN n i=some j):seqIndex? i n=some j/\j<n /\ -(n:Int)<=i/\i<n:=by
 unfold ixN at h
 by_cases h0:0<=i
 ·rw[if_pos h0] at h
  by_cases h1:i<n
  ·rw[if_pos h1] at h
   have e:i.toNat=j:=Option.some.inj h
   exact⟨by rw[seqIndex_of h0 h1,e],by omega,by omega,h1⟩
  ·rw[if_neg h1] at h; cases h
 ·rw[if_neg h0] at h
  by_cases h1 : -(n:Int)<=i
  ·rw[if_pos h1] at h
   have e:(i+n).toNat=j:=Option.some.inj h
   exact⟨by rw[seqIndex_neg (by omega) h1,e],by omega,h1,by omega⟩
  ·rw[if_neg h1] at h; cases h
theorem Jt {α:Type} {xs:List α} {i:Int} {v:α} (h:atI xs i=some v):∃j,seqIndex? i xs.length=some j/\xs[j]?=some v/\j<xs.length /\ -(xs.length:Int)<=i/\i<xs.length:=by
 unfold atI at h
 cases e:ixN xs.length i with
 |none=>rw[e] at h; cases h
 |some j =>
  rw[e] at h
  obtain⟨h1,h2,h3,h4⟩:=XO e
  exact⟨j,h1,h,h2,h3,h4⟩
theorem v7 {α:Type} {xs:List α} {j:Nat} {v:α} (h:xs[j]?=some v):atI xs (j:Int)=some v:=by
 have hj:j<xs.length:=(List.getElem?_eq_some_iff.mp h).1
 have e:ixN xs.length (j:Int)=some j:=by
  unfold ixN
  rw[if_pos (by omega),if_pos (by omega)]; simp
 unfold atI; rw[e]; exact h
def Jv (b:Expr):Prop:=∀o i,subscripted b false o i=operate [o,i] (getItem o i)
def IxR (X:Cx) (r:R2):Prop :=
 ∀(value slice:Expr) (pins:List (Addr×Obj)) (s:Shared) (σ:St) (H:Hp) (x y:V) (v u:Value) (Q:VK),Inv X pins σ H s->RelV x v->RelV y u->r x y H Q ->
  subscripted slice false v u=operate [v,u] (getItem v u)->wpAny (model X.prog X.w) X.A (subscriptTail value slice v u) (EP X pins σ Q) X.xe s
def MtR (X:Cx) (id:String) (r:V->List V->Hp->VK->Prop):Prop :=
 ∀(pins:List (Addr×Obj)) (s:Shared) (σ:St) (H:Hp) (x:V) (xs:List V) (v:Value) (us:List Value) (Q:VK),Inv X pins σ H s->RelV x v->Vals xs us->r x xs H Q ->
  wpAny (model X.prog X.w) X.A (call (.builtin id) (v::us)) (EP X pins σ Q) X.xe s
section
variable {X:Cx} {a b:Expr} {ta tb:TE} {pos:Pos}
theorem pe_ix {r:R2} (hr:IxR X r) (ha:PE X a ta) (hb:PE X b tb) (hs:Jv b):PE X (.Subscript a b pos) (tOp r ta tb):=by
 intro pins s σ H Q I h
 exact Subscript_ (binT ha hb I h fun v u s2 x y H2 I2 rx ry q=>hr a b pins s2 σ H2 x y v u Q I2 rx ry q (hs _ _))
def rIxL (K:PySem.W.Frag):R2:=fun x y H Q=>∃p xs i v,x=.ref p/\y=.int i/\SqL K H p xs/\atI xs i=some v/\Q v H
def rIxT (K:PySem.W.Frag):R2:=fun x y H Q=>∃p xs i v,x=.ref p/\y=.int i/\SqT K H p xs/\atI xs i=some v/\Q v H
theorem ix_list:IxR X (rIxL X.K):=by
 intro value slice pins s σ H x y v u Q I rx ry h hs
 obtain⟨p,xs,i,z,rfl,rfl,hq,he,q⟩:=h
 cases rx
 obtain⟨t,rfl⟩:=ry
 obtain⟨its,r,pl,hz⟩:=I.list hq
 obtain⟨j,h1,h2,h3,h4,h5⟩:=Jt he
 obtain⟨w,ew,rw'⟩:=r.get h2
 have hl:=r.length
 have hn:=kL
 have fin:EP X pins σ Q w s:=⟨z,H,I,rw',q⟩
 by_cases h0:0<=i
 ·have hj:i.toNat=j:=by
   rw[seqIndex_of h0 h5] at h1
   exact Option.some.inj h1
  exact item_listR pl.isList h0 (by omega) (by rw[hj]; simpa using ew) fin hs
 ·have hj:(i+(its.toArray.size:Int)).toNat=j:=by
   rw[seqIndex_neg (by omega) h4] at h1
   rw[List.size_toArray, <-hl]
   exact Option.some.inj h1
  exact subscriptTail_builtinR (x:=w) pl.isList.typeIs slot_list_getitem.lookup
   (wpAny_getItem_list_neg (Q:=fun r s'=>r=w/\EP X pins σ Q r s') pl.isList (by omega) (by rw[List.size_toArray]<;>omega) (by omega) (by rw[hj]; simpa using ew) ⟨rfl,fin⟩) hs
theorem ix_tup:IxR X (rIxT X.K):=by
 intro value slice pins s σ H x y v u Q I rx ry h hs
 obtain⟨p,xs,i,z,rfl,rfl,hq,he,q⟩:=h
 cases rx
 obtain⟨t,rfl⟩:=ry
 obtain⟨its,r,pl,hz⟩:=I.tuple hq
 obtain⟨j,h1,h2,h3,h4,h5⟩:=Jt he
 obtain⟨w,ew,rw'⟩:=r.get h2
 have hl:=r.length
 have hn:=kL
 have fin:EP X pins σ Q w s:=⟨z,H,I,rw',q⟩
 exact subscriptTail_builtinR (x:=w) pl.typeIs slot_tuple_getitem.lookup
  (getItem_tuple (j:=j) (Q:=fun r s'=>r=w/\EP X pins σ Q r s') pl (by omega) (by omega) (by rw[List.size_toArray, <-hl]; exact h1) (by simpa using ew) ⟨rfl,fin⟩) hs
theorem V3 (its:List Value) (n j:Nat) (u:Value):Obj.mapSeq (·.setIfInBounds j u) { cls:=.type "list", data:=.seq its.toArray n }={ cls:=.type "list", data:=.seq (its.set j u).toArray n }:=by
 simp[Obj.mapSeq]
theorem Inv.lst {pins:List (Addr×Obj)} {σ:St} {H:Hp} {s:Shared} {p:Addr} {xs:List V} (I:Inv X pins σ H s) (h:H p=some (.lst xs)) :
  ∃(its:List Value) (n:Nat),Vals xs its/\s.heap.get? p=some { cls:=.type "list", data:=.seq its.toArray n }/\xs.length<=sizeLine:=by
 obtain⟨z,its,n,r,e⟩:=I.hok p _ h
 exact⟨its,n,r,e,z⟩
theorem Inv.lstUpd {pins:List (Addr×Obj)} {σ:St} {H:Hp} {s:Shared} {p:Addr} {xs ys:List V} {its its':List Value} {n n':Nat} {f:Obj->Obj} (I:Inv X pins σ H s) (h:H p=some (.lst xs))
  (ho:s.heap.get? p=some { cls:=.type "list", data:=.seq its.toArray n }) (hf:f { cls:=.type "list", data:=.seq its.toArray n }={ cls:=.type "list", data:=.seq its'.toArray n' }) (r:Vals ys its') (hz:ys.length<=sizeLine) (t:Nat) :
  Inv X pins σ (upd H p (.lst ys)) { s with heap:=s.heap.update p f,toks:=t }:=by
 have e:(s.heap.update p f).get? p=some { cls:=.type "list", data:=.seq its'.toArray n' }:=by
  rw[Heap.get?_update_self f ho (by rw[hf]<;>rfl),hf]
 refine I.write (x:=p) (e:=p) (by rw[h]; trivial) (.inl rfl) (fun b u hb q=>(Heap.get?_update_other _ _ (Ne.symm hb)).trans q) ⟨_,e⟩ ?_
 exact⟨hz,its',n',r,e⟩
def rSetL:V->V->V->Hp->(Hp->Prop)->Prop:=fun o i v H Q=>∃p xs k j,o=.ref p/\i=.int k/\H p=some (.lst xs)/\ixN xs.length k=some j/\Q (upd H p (.lst (xs.set j v)))
theorem za:PSet X rSetL:=by
 intro pins s σ H o i v ov iv u Q I ro ri rv h
 obtain⟨p,xs,k,j,rfl,rfl,hp,hj,q⟩:=h
 cases ro
 obtain⟨t,rfl⟩:=ri
 obtain⟨its,n,r,ho,hz⟩:=I.lst hp
 obtain⟨h1,h2,h3,h4⟩:=XO hj
 have hl:=r.length
 have hn:=kL
 have I':Inv X pins σ (upd H p (.lst (xs.set j v))) { s with heap:=s.heap.update p (Obj.mapSeq (·.setIfInBounds j u)) } :=
  I.lstUpd hp ho (V3 its n j u) (r.set rv j) (by rw[List.length_set]; exact hz) s.toks
 by_cases h0:0<=k
 ·have hk:k.toNat=j:=by
   rw[seqIndex_of h0 h4] at h1
   exact Option.some.inj h1
  exact PySem.W.ki_setAt ho h0 (by omega) (by rw[List.size_toArray, <-hl]; exact h4) (by rw[hk]; exact⟨_,I',q⟩)
 ·have hk:(k+(its.toArray.size:Int)).toNat=j:=by
   rw[seqIndex_neg (by omega) h3] at h1
   rw[List.size_toArray, <-hl]
   exact Option.some.inj h1
  exact PySem.W.ki_setBack ho (by omega) (by rw[List.size_toArray, <-hl]; exact h3) (by omega) (by rw[hk]; exact⟨_,I',q⟩)
theorem kg (lo hi:Option Int) (n:Nat):(sliceBounds lo hi none n).1=((HT.sIx n 0 lo:Nat):Int)/\(sliceBounds lo hi none n).2.1=((HT.sIx n n hi:Nat):Int)/\(sliceBounds lo hi none n).2.2=1:=by
 refine⟨?_, ?_,rfl⟩
 ·cases lo with
  |none=>simp[sliceBounds,HT.sIx]
  |some i =>
   simp only[sliceBounds,HT.sIx,Option.getD_none,show(1:Int)>0 by decide,if_true]
   by_cases h:i<0
   ·simp only[h,if_true]<;>omega
   ·simp only[h,if_false]<;>omega
 ·cases hi with
  |none=>simp[sliceBounds,HT.sIx]
  |some i =>
   simp only[sliceBounds,HT.sIx,Option.getD_none,show(1:Int)>0 by decide,if_true]
   by_cases h:i<0
   ·simp only[h,if_true]<;>omega
   ·simp only[h,if_false]<;>omega
theorem js (its:List Value) (lo hi:Option Int):slicePick its.toArray lo hi none=((its.drop (HT.sIx its.length 0 lo)).take (HT.sIx its.length its.length hi-HT.sIx its.length 0 lo)).toArray:=by
 obtain⟨h1,h2,h3⟩:=kg lo hi its.toArray.size
 unfold slicePick
 rw[h1,h2,h3]
 simp only[sliceRange_one,pick_run,List.size_toArray]<;>rfl
def rSlL (K:PySem.W.Frag):V->Option Int->Option Int->Hp->VK->Prop:=fun x lo hi H Q=>∃a xs,x=.ref a/\SqL K H a xs/\∀p,H p=none->Q (.ref p) (upd H p (.lst (cutV xs lo hi)))
theorem sl_list:SlR X (rSlL X.K):=by
 intro pins s σ H x v vl vu lo hi sl Q I rx hs pl pu h
 obtain⟨a,xs,rfl,hx,q⟩:=h
 cases rx
 obtain⟨its,r,ht,hz⟩:=I.list hx
 have hlen:=r.length
 refine⟨"list", _,slot_list_getitem.lookup,ht.isList.typeIs, ?_⟩
 refine wpAny_getItem_list_slice ht.isList hs pl pu .none (by simp) ?_ (by rw[List.size_toArray]<;>omega)
 rw[js, <-hlen]
 refine⟨.ref s.heap.objs.size,_,I.laid (t':=s.toks) (o:=.lst (cutV xs lo hi)) (fun b ob q=>Heap.get?_push_of_some _ q) (Nat.le_refl _) ?_,rfl,q _ (I.hok.fresh (Nat.le_refl _))⟩
 exact⟨Nat.le_trans (xM xs lo hi) hz,_,0,(r.drop (HT.sIx xs.length 0 lo)).take (HT.sIx xs.length xs.length hi-HT.sIx xs.length 0 lo),Heap.get?_push_size _ rfl⟩
def xc:V->Bool
 |.non=>true
 |.bl _=>true
 |.int _=>true
 |.str _=>true
 |_=>false
def eqV:V->V->Bool
 |.non, .non=>true
 |.bl a, .bl b=>a==b
 |.bl a, .int b=>(if a then 1 else 0)==b
 |.int a, .bl b=>a==(if b then 1 else 0)
 |.int a, .int b=>a==b
 |.str a, .str b=>a==b
 |_,_=>false
theorem eqAt_V {A:Around} {s:Shared} {y x:V} {u v:Value} (ry:RelV y u) (rx:RelV x v) (fy:xc y=true) (fx:xc x=true):SeqAt.EqAt A s u v (eqV y x):=by
 cases y with
 |non =>
  cases ry
  cases x with
  |non=>cases rx; exact SeqAt.EqAt.same _
  |bl b=>cases rx; exact SeqAt.EqAt.none_bool b
  |int b=>obtain⟨t,rfl⟩:=rx; exact SeqAt.EqAt.none_int b t
  |str b=>obtain⟨t,rfl⟩:=rx; exact SeqAt.EqAt.none_str b t
  |_=>exact absurd (show false=true from fx) Bool.false_ne_true
 |bl a =>
  cases ry
  cases x with
  |non=>cases rx; exact SeqAt.EqAt.bool_none a
  |bl b=>cases rx; exact SeqAt.EqAt.bool_bool a b
  |int b=>obtain⟨t,rfl⟩:=rx; exact SeqAt.EqAt.bool_int a b t
  |str b=>obtain⟨t,rfl⟩:=rx; exact SeqAt.EqAt.bool_str a b t
  |_=>exact absurd (show false=true from fx) Bool.false_ne_true
 |int a =>
  obtain⟨t',rfl⟩:=ry
  cases x with
  |non=>cases rx; exact SeqAt.EqAt.int_none a t'
  |bl b=>cases rx; exact SeqAt.EqAt.int_bool a t' b
  |int b=>obtain⟨t,rfl⟩:=rx; exact SeqAt.EqAt.int_int a t' b t
  |str b=>obtain⟨t,rfl⟩:=rx; exact SeqAt.EqAt.int_str a t' b t
  |_=>exact absurd (show false=true from fx) Bool.false_ne_true
 |str a =>
  obtain⟨t',rfl⟩:=ry
  cases x with
  |non=>cases rx; exact SeqAt.EqAt.str_none a t'
  |bl b=>cases rx; exact SeqAt.EqAt.str_bool a t' b
  |int b=>obtain⟨t,rfl⟩:=rx; exact SeqAt.EqAt.str_int a t' b t
  |str b=>obtain⟨t,rfl⟩:=rx; exact SeqAt.EqAt.str_str a t' b t
  |_=>exact absurd (show false=true from fx) Bool.false_ne_true
 |_=>exact absurd (show false=true from fy) Bool.false_ne_true
def eqU (x:V) (u:Value):Bool:=match u with
 |.none=>eqV .non x
 |.bool b=>eqV (.bl b) x
 |.int i _=>eqV (.int i) x
 |.str z _=>eqV (.str z) x
 |_=>false
theorem eqU_of {x y:V} {u:Value} (r:RelV y u) (f:xc y=true):eqU x u=eqV y x:=by
 cases y with
 |non=>cases r; rfl
 |bl b=>cases r; rfl
 |int i=>obtain⟨t,rfl⟩:=r; rfl
 |str z=>obtain⟨t,rfl⟩:=r; rfl
 |_=>exact absurd (show false=true from f) Bool.false_ne_true
theorem Q1 {x:V}:∀{xs:List V} {us:List Value},Vals xs us->xs.all xc=true->us.any (eqU x)=xs.any fun y=>eqV y x
 |_,_, .nil,_=>rfl
 |y::xs,u::us, .cons r t,f=>by
  rw[List.all_cons,Bool.and_eq_true] at f
  rw[List.any_cons,List.any_cons,eqU_of r f.1,Q1 t f.2]
theorem jD {A:Around} {s:Shared} {x:V} {v:Value} (rx:RelV x v) (fx:xc x=true):∀{xs:List V} {us:List Value},Vals xs us->xs.all xc=true->∀u∈us,SeqAt.EqAt A s u v (eqU x u)
 |_,_, .nil,_=>fun u hu=>by cases hu
 |y::xs,u::us, .cons r t,f=>fun u' hu=>by
  rw[List.all_cons,Bool.and_eq_true] at f
  rcases List.mem_cons.mp hu with rfl|hu
  ·rw[eqU_of r f.1]; exact eqAt_V r rx f.1 fx
  ·exact jD rx fx t f.2 u' hu
def inV (x:V) (xs:List V):Bool:=xs.any fun y=>eqV y x
def rIn (K:PySem.W.Frag) (neg:Bool):R2:=fun x y H Q=>∃p xs,y=.ref p/\(SqL K H p xs\/SqT K H p xs)/\xc x=true/\xs.all xc=true/\Q (.bl (if neg then !inV x xs else inV x xs)) H
theorem kA:OpR X (compareOp .NotIn) (rIn X.K true):=by
 intro pins s σ H x y v u Q I rx ry h
 obtain⟨p,xs,rfl,hq,fx,fs,q⟩:=h
 cases ry
 rcases hq with hq|hq
 ·obtain⟨its,r,pl,hz⟩:=I.list hq
  refine SeqAt.notIn_listAt (eqU x) pl.isList (fun w hw=>jD rx fx r fs w (by simpa using hw)) ⟨.bl _,H,I,rfl, ?_⟩
  rw[show its.toArray.any (eqU x)=its.any (eqU x) by simp,Q1 r fs]
  exact q
 ·obtain⟨its,r,pl,hz⟩:=I.tuple hq
  refine SeqAt.notIn_tupleAt (eqU x) pl (fun w hw=>jD rx fx r fs w (by simpa using hw)) ⟨.bl _,H,I,rfl, ?_⟩
  rw[show its.toArray.any (eqU x)=its.any (eqU x) by simp,Q1 r fs]
  exact q
theorem zZ:vP X (.builtin "len") (fun xs H Q=>∃p ys,xs=[.ref p]/\(SqL X.K H p ys\/SqT X.K H p ys)/\Q (.int ys.length) H):=by
 intro pins s σ H xs us Q I r h
 obtain⟨p,ys,rfl,hq,q⟩:=h
 obtain⟨u,rfl,rx⟩:=jj r
 cases rx
 have hn:=kL
 rcases hq with hq|hq
 ·obtain⟨its,r',pl,hz⟩:=I.list hq
  have hlen:=r'.length
  exact Calls.call_len_list pl.isList (by simp only[List.size_toArray]<;>omega) ⟨.int ys.length,H,I.tok _,⟨s.toks+1,by rw[List.size_toArray,hlen]⟩,q⟩
 ·obtain⟨its,r',pl,hz⟩:=I.tuple hq
  have hlen:=r'.length
  exact len_tuple pl (by simp only[List.size_toArray]<;>omega) ⟨.int ys.length,H,I.tok _,⟨s.toks+1,by rw[List.size_toArray,hlen]⟩,q⟩
theorem zY:vP X (.type "list") (fun xs H Q=>∃p ys,xs=[.ref p]/\(SqL X.K H p ys\/SqT X.K H p ys)/\∀l,H l=none->Q (.ref l) (upd H l (.lst ys))):=by
 intro pins s σ H xs us Q I r h
 obtain⟨p,ys,rfl,hq,q⟩:=h
 obtain⟨u,rfl,rx⟩:=jj r
 cases rx
 have fin:∀(its:List Value),Vals ys its->ys.length<=sizeLine->∀(h':Heap) (c':Nat),(∀b o',s.heap.get? b=some o'->h'.get? b=some o') ->
   h'.get? s.heap.objs.size=some { cls:=.type "list", dict:=none,data:=.seq its.toArray c',slots:=#[] }->EP X pins σ Q (.ref s.heap.objs.size) { s with heap:=h' }:=fun its r' hz h' c' kp e =>
  ⟨.ref s.heap.objs.size,_,I.laid (t':=s.toks) kp (Nat.le_refl _) (show ObjOk X.prog X.w _ h' _ (.lst ys) from⟨hz,its,c',r',e⟩),rfl,q _ (I.hok.fresh (Nat.le_refl _))⟩
 rcases hq with hq|hq
 ·obtain⟨its,r',pl,hz⟩:=I.list hq
  have hlen:=r'.length
  obtain⟨o,ho,hc,n,hd⟩:=pl.isList
  exact call_list_seq p (.inl rfl) ho hc hd (fun h' c' kp e=>fin its r' hz h' c' kp e) (by simp only[List.size_toArray]<;>omega)
 ·obtain⟨its,r',pl,hz⟩:=I.tuple hq
  have hlen:=r'.length
  obtain⟨o,ho,hc,n,hd⟩:=pl
  exact call_list_seq p (.inr rfl) ho hc hd (fun h' c' kp e=>fin its r' hz h' c' kp e) (by simp only[List.size_toArray]<;>omega)
def tyV (K:PySem.W.Frag) (T:String) (x:V) (H:Hp):Prop:=match x with
 |.str _=>T = "str"
 |.int _=>T = "int"
 |.ref p=>(T = "list" /\ ∃xs,SqL K H p xs)\/(T = "tuple" /\ ∃o,K.lookup p=some o/\o.cls=.type "tuple" /\ o.dict=none) \/
   (T = "dict" /\ ((∃kvs,H p=some (.dK kvs))\/∃kvs,H p=some (.dT kvs)))\/(T = "set" /\ ∃S n,H p=some (.set S n))
 |_=>False
theorem tyV_is {pins:List (Addr×Obj)} {σ:St} {H:Hp} {s:Shared} {T:String} {x:V} {v:Value} (I:Inv X pins σ H s) (r:RelV x v) (ty:tyV X.K T x H) :
  s.TypeIs v T/\∀a,v=.ref a->∃ob,s.heap.get? a=some ob/\ob.dict=none:=by
 cases x with
 |str z =>
  obtain⟨t,rfl⟩:=r
  cases(show T = "str" from ty)
  exact⟨typeIs_str s z t,fun _ e=>nomatch e⟩
 |int i =>
  obtain⟨t,rfl⟩:=r
  cases(show T = "int" from ty)
  exact⟨typeIs_int s i t,fun _ e=>nomatch e⟩
 |ref p =>
  cases r
  rcases ty with⟨rfl,xs,hq⟩|⟨rfl,o,hk,hc,hd⟩|⟨rfl,hk⟩|⟨rfl,S,n,hk⟩
  ·obtain⟨its,_,pl,_⟩:=I.list hq
   refine⟨pl.isList.typeIs,fun a e=>?_⟩
   cases e
   obtain⟨o,n,e,c,hd,_⟩:=pl
   exact⟨o,e,hd⟩
  ·refine⟨⟨o,I.kIn p o hk,hc⟩,fun a e=>?_⟩
   cases e
   exact⟨o,I.kIn _ o hk,hd⟩
  ·have z:∃o,s.heap.get? p=some o/\o.ExactDict:=by
    rcases hk with⟨kvs,hk⟩|⟨kvs,hk⟩
    ·obtain⟨_,_,_,_,o,_,_,e,ex,_⟩:=I.hok p _ hk
     exact⟨o,e,ex⟩
    ·obtain⟨_,_,_,_,o,_,_,e,ex,_⟩:=I.hok p _ hk
     exact⟨o,e,ex⟩
   obtain⟨o,e,ex⟩:=z
   refine⟨⟨o,e,ex.1⟩,fun a e2=>?_⟩
   cases e2
   exact⟨o,e,ex.2.1⟩
  ·obtain⟨o,_,_,_,e,ex,_⟩:=I.hok p _ hk
   refine⟨⟨o,e,ex.1⟩,fun a e2=>?_⟩
   cases e2
   exact⟨o,e,ex.2.1⟩
 |_=>exact False.elim ty
def tBM0 (K:PySem.W.Frag) (T:String) (r:V->List V->Hp->VK->Prop) (to:TE):TE:=fun σ H Q=>to σ H fun x H1=>tyV K T x H1/\r x [] H1 Q
def tBM (K:PySem.W.Frag) (T:String) (r:V->List V->Hp->VK->Prop) (to:TE) (t:TA):TE:=fun σ H Q=>to σ H fun x H1=>tyV K T x H1/\t σ H1 fun xs H2=>r x xs H2 Q
variable {o:Expr} {to:TE} {name:Str} {apos cpos:Pos} {T id:String} {r:V->List V->Hp->VK->Prop}
theorem pe_bm0 (pa:PlainAttrs T) (slot:Slot T name id) (hty:typeOf (.builtin id)=pure (.type "method_descriptor")) (hm:MtR X id r) (ho:PE X o to)
  (hbase:attributeBase o name X.env (eval o X.env)=eval o X.env:=by rfl) (hline:(apos.endLine==cpos.line)=true:=by rfl):PE X (.Call (.Attribute o name apos) [] [] cpos) (tBM0 X.K T r to):=by
 intro pins s σ H Q I h
 refine wpAny_Call_method0_late hbase hline (thn (ho pins s σ H _ I h) fun v s1 ⟨x,H1,I1,r1,ty,q1⟩=>?_)
 obtain⟨h1,h2⟩:=tyV_is I1 r1 ty
 exact⟨T,id,pa,slot,hty,h1,h2,Calls.callWith_builtin rfl (PySem.evalArgs_none (hm pins s1 σ H1 x [] v [] Q I1 r1 .nil q1))⟩
end
def MtM (X:Cx) (id:String) (r:V->List V->Hp->VK->Prop):Prop :=
 ∀(pins:List (Addr×Obj)) (s:Shared) (σ:St) (H:Hp) (x:V) (xs:List V) (v:Value) (us:List Value) (Q:VK),Inv X pins σ H s->RelV x v->Vals xs us->r x xs H Q ->
  wpAny (model X.prog X.w) X.A (call (.builtin id) (v::us)) (EP X pins σ Q) X.xe s
theorem Vals.one:∀{x:V} {us:List Value},Vals [x] us->∃u,us=[u]/\RelV x u
 |_,_, .cons r .nil=>⟨_,rfl,r⟩
theorem Vals.zero:∀{us:List Value},Vals [] us->us=[]
 |_, .nil=>rfl
theorem Vals.dropLast {xs:List V} {us:List Value} (h:Vals xs us):Vals xs.dropLast us.dropLast:=by
 induction h with
 |nil=>exact .nil
 |cons r t ih =>
  cases t with
  |nil=>exact .nil
  |cons q t'=>exact .cons r ih
theorem Vals.eraseIdx:∀{xs:List V} {us:List Value} (i:Nat),Vals xs us->Vals (xs.eraseIdx i) (us.eraseIdx i)
 |_,_,_, .nil=>.nil
 |_,_,0, .cons _ t=>t
 |_,_,i+1, .cons r t=>.cons r (Vals.eraseIdx i t)
theorem Vals.rep {xs:List V} {us:List Value} (h:Vals xs us):∀k:Nat,Vals (List.replicate k xs).flatten (List.replicate k us).flatten
 |0=>.nil
 |k+1=>by
  rw[List.replicate_succ,List.replicate_succ,List.flatten_cons,List.flatten_cons]
  exact Vals.append h (Vals.rep h k)
theorem Za {α:Type} (l:List α):l.eraseIdx (l.length-1)=l.dropLast:=by
 induction l with
 |nil=>rfl
 |cons a r ih =>
  cases r with
  |nil=>rfl
  |cons b r =>
   have e:(a::b::r).length-1=((b::r).length-1)+1:=by
    have h1:(a::b::r).length=r.length+2:=rfl
    have h2:(b::r).length=r.length+1:=rfl
    omega
   rw[e,List.eraseIdx_cons_succ,ih]
   all_goals rfl
theorem kM {α:Type}:∀(l:List α) (i:Nat),(l.eraseIdx i).length<=l.length
 | [],_=>Nat.le_refl _
 |_::_,0=>Nat.le_succ _
 |_::r,i+1=>Nat.succ_le_succ (kM r i)
theorem kU (its:List Value):∀(k:Nat) (acc:List Value),
  List.foldl (fun x1 x2=>x1++x2) acc.toArray (List.replicate k its.toArray)=(acc++(List.replicate k its).flatten).toArray
 |0,acc=>by simp
 |k+1,acc=>by
  have e:acc.toArray++its.toArray=(acc++its).toArray:=by simp
  have e2:(acc++its)++(List.replicate k its).flatten=acc++(List.replicate (k+1) its).flatten:=by
   rw[List.replicate_succ,List.flatten_cons,List.append_assoc]
  rw[<-e2, <-kU its k (acc++its), <-e,List.replicate_succ,List.foldl_cons]
section
variable {X:Cx} {pins:List (Addr×Obj)} {σ:St} {H:Hp} {s:Shared} {l:Addr} {xs ys:List V}
theorem Inv.lset {its its':List Value} {n:Nat} {f:Array Value->Array Value} {t':Nat} (I:Inv X pins σ H s) (hH:H l=some (.lst xs))
  (e:s.heap.get? l=some { cls:=.type "list", data:=.seq its.toArray n }) (hf:f its.toArray=its'.toArray) (hv:Vals ys its') (hz:ys.length<=sizeLine) :
  Inv X pins σ (upd H l (.lst ys)) { s with heap:=s.heap.update l (Obj.mapSeq f),toks:=t' }:=by
 have q:=PySem.IsL.update e f
 rw[hf] at q
 refine I.write (x:=l) (e:=l) (by rw[hH]; exact trivial) (.inl rfl) (fun b' u hb hu=>(Heap.get?_update_other s.heap (Obj.mapSeq f) (Ne.symm hb)).trans hu) ⟨_,q⟩ ?_
 exact⟨hz,its',_,hv,q⟩
theorem Inv.lnew {its:List Value} {t':Nat} (I:Inv X pins σ H s) (hv:Vals ys its) (hz:ys.length<=sizeLine) :
  Inv X pins σ (upd H s.heap.objs.size (.lst ys)) { s with heap:=s.heap.push { cls:=.type "list", data:=.seq its.toArray },toks:=t' } :=
 I.laid (fun _ _ q=>Heap.get?_push_of_some _ q) (Nat.le_refl _) ⟨hz,its,0,hv,Heap.get?_push_size _ rfl⟩
theorem Inv.fresh (I:Inv X pins σ H s):H s.heap.objs.size=none:=I.hok.fresh (Nat.le_refl _)
theorem Inv.lstM (I:Inv X pins σ H s) (hH:H l=some (.lst xs)):xs.length<=sizeLine/\∃(its:List Value) (n:Nat),Vals xs its/\xs.length=its.length/\s.heap.get? l=some { cls:=.type "list", data:=.seq its.toArray n }:=by
 obtain⟨z,its,n,r,e⟩:=I.hok l _ hH
 exact⟨z,its,n,r,r.length,e⟩
theorem Vn {n:Nat} (h:n<=sizeLine):Builtin.List.listTooLong n=false:=by
 unfold Builtin.List.listTooLong
 exact decide_eq_false (by omega)
end
section
variable {X:Cx}
def ZR:V->List V->Hp->VK->Prop:=fun x vs H Q=>∃l xs y,x=.ref l/\vs=[y]/\H l=some (.lst xs)/\xs.length<sizeLine/\Q .non (upd H l (.lst (xs++[y])))
theorem zy:MtM X "list.append" ZR:=by
 intro pins s σ H x vs v us Q I rx rv h
 obtain⟨l,xs,y,rfl,rfl,hH,hz,q⟩:=h
 cases rx
 obtain⟨u,rfl,ru⟩:=rv.one
 obtain⟨z,its,n,r,hl,e⟩:=I.lstM hH
 refine call_meets F.slot_list_append ⟨_,e,rfl⟩ F.entry_list_append (F.args_list_append_2 _ _) (PySem.list_append l its.toArray n u (by rw[List.size_toArray]; omega)) ⟨e, ?_⟩
 refine⟨.non,_,I.lset (its':=its++[u]) hH e (by simp) (r.append (.cons ru .nil)) ?_,rfl,q⟩
 rw[List.length_append,List.length_singleton]
 omega
def rExtend:V->List V->Hp->VK->Prop:=fun x vs H Q=>∃l b xs zs,x=.ref l/\vs=[.ref b]/\H l=some (.lst xs)/\H b=some (.lst zs)/\xs.length+zs.length<=sizeLine/\Q .non (upd H l (.lst (xs++zs)))
theorem mt_extend:MtM X "list.extend" rExtend:=by
 intro pins s σ H x vs v us Q I rx rv h
 obtain⟨l,b,xs,zs,rfl,rfl,hH,hB,hz,q⟩:=h
 cases rx
 obtain⟨u,rfl,ru⟩:=rv.one
 cases ru
 obtain⟨z,its,n,r,hl,e⟩:=I.lstM hH
 obtain⟨z2,its2,n2,r2,hl2,e2⟩:=I.lstM hB
 have hsz:its.toArray.size+its2.toArray.size<=sizeLine:=by rw[List.size_toArray,List.size_toArray]; omega
 have hlong:¬(!its.toArray.isEmpty&&Builtin.List.listTooLong (its.toArray.size+its2.toArray.size))=true:=by
  rw[Vn hsz,Bool.and_false]
  exact Bool.false_ne_true
 refine call_meets F.slot_list_extend ⟨_,e,rfl⟩ F.entry_list_extend (F.args_list_extend_2 _ _)
  (AutoSeq1.list_extend_list_list_0 l its.toArray n b its2.toArray n2 hlong (by rw[List.size_toArray]; omega) (by omega)) ⟨e,e2, ?_⟩
 refine⟨.non,_,I.lset (its':=its++its2) hH e (by simp) (r.append r2) ?_,rfl,q⟩
 rw[List.length_append]
 omega
def rPop:V->List V->Hp->VK->Prop:=fun x vs H Q=>∃l xs y,x=.ref l/\vs=[]/\H l=some (.lst xs)/\xs[xs.length-1]?=some y/\Q y (upd H l (.lst xs.dropLast))
theorem mt_pop:MtM X "list.pop" rPop:=by
 intro pins s σ H x vs v us Q I rx rv h
 obtain⟨l,xs,y,rfl,rfl,hH,hy,q⟩:=h
 cases rx
 have hus:=rv.zero
 subst hus
 obtain⟨z,its,n,r,hl,e⟩:=I.lstM hH
 obtain⟨u,hu,ru⟩:=r.get hy
 have hy':its.toArray[its.toArray.size-1]?=some u:=by
  show its.toArray[its.length-1]?=some u
  rw[<-Array.getElem?_toList, <-hl]
  exact hu
 refine call_meets F.slot_list_pop ⟨_,e,rfl⟩ F.entry_list_pop (F.args_list_pop_1 _) (MeetsSeq.list_pop_last l its.toArray n u hy' (by rw[List.size_toArray]; omega)) ⟨e, ?_⟩
 refine⟨y,_,I.lset (its':=its.dropLast) hH e ?_ r.dropLast ?_,ru,q⟩
 ·show its.toArray.eraseIdxIfInBounds (its.toArray.size-1)=its.dropLast.toArray
  rw[List.size_toArray,List.eraseIdxIfInBounds_toArray,Za]
 ·rw[List.length_dropLast]
  omega
def rClear:V->List V->Hp->VK->Prop:=fun x vs H Q=>∃l xs,x=.ref l/\vs=[]/\H l=some (.lst xs)/\Q .non (upd H l (.lst []))
theorem mt_clear:MtM X "list.clear" rClear:=by
 intro pins s σ H x vs v us Q I rx rv h
 obtain⟨l,xs,rfl,rfl,hH,q⟩:=h
 cases rx
 have hus:=rv.zero
 subst hus
 obtain⟨z,its,n,r,hl,e⟩:=I.lstM hH
 refine call_meets F.slot_list_clear ⟨_,e,rfl⟩ F.entry_list_clear (F.args_list_clear_1 _) (AutoSeq1.list_clear_list_0 l its.toArray n (by rw[List.size_toArray]; omega)) ⟨e, ?_⟩
 exact⟨.non,_,I.lset (its':=[]) (ys:=[]) hH e rfl .nil (Nat.zero_le _),rfl,q⟩
def rCat:R2:=fun x y H Q=>∃l b xs zs,x=.ref l/\y=.ref b/\H l=some (.lst xs)/\H b=some (.lst zs)/\xs.length+zs.length<=sizeLine/\∀p,H p=none->Q (.ref p) (upd H p (.lst (xs++zs)))
theorem Vm:OpR X (binaryOp .Add) rCat:=by
 intro pins s σ H x y v u Q I rx ry h
 obtain⟨l,b,xs,zs,rfl,rfl,hH,hB,hz,q⟩:=h
 cases rx
 cases ry
 obtain⟨z,its,n,r,hl,e⟩:=I.lstM hH
 obtain⟨z2,its2,n2,r2,hl2,e2⟩:=I.lstM hB
 refine PySem.P.add_list e e2 ?_ (by rw[List.size_toArray,List.size_toArray]; omega)
 have ea:its.toArray++its2.toArray=(its++its2).toArray:=by simp
 rw[ea]
 exact⟨.ref _,_,I.lnew (t':=s.toks) (r.append r2) (by rw[List.length_append]; omega),rfl,q _ I.fresh⟩
def rRep:R2:=fun x y H Q=>∃l k xs,x=.ref l/\y=.int k/\H l=some (.lst xs) /\ -(2^63)<=k/\k<2^63/\xs.length*k.toNat<=sizeLine /\
 ∀p,H p=none->Q (.ref p) (upd H p (.lst (List.replicate k.toNat xs).flatten))
theorem len_rep {α:Type} (xs:List α) (k:Nat):(List.replicate k xs).flatten.length=k*xs.length:=by
 induction k with
 |zero=>simp
 |succ k ih=>rw[List.replicate_succ,List.flatten_cons,List.length_append,ih,Nat.succ_mul,Nat.add_comm]
theorem op_rep:OpR X (binaryOp .Mult) rRep:=by
 intro pins s σ H x y v u Q I rx ry h
 obtain⟨l,k,xs,rfl,rfl,hH,h1,h2,hz,q⟩:=h
 cases rx
 obtain⟨t,rfl⟩:=ry
 obtain⟨z,its,n,r,hl,e⟩:=I.lstM hH
 have hlen:its.toArray.size*k.toNat<=sizeLine:=by rw[List.size_toArray, <-hl]; exact hz
 have hcap:¬its.toArray.size*k.toNat>(2^63-1) / 8:=by
  have:(sizeLine:Nat)<=(2^63-1) / 8:=by decide
  omega
 have hfit:¬(!Builtin.List.listFitsIndex k)=true:=by
  rw[fitsIndex_both h1 h2]
  exact Bool.false_ne_true
 have hlong:¬Builtin.List.listTooLong (its.toArray.size*k.toNat)=true:=by
  rw[Vn hlen]
  exact Bool.false_ne_true
 have hnew:List.foldl (fun x1 x2=>x1++x2) #[] (List.replicate (if its.toArray.isEmpty=true then 0 else k.toNat) its.toArray)=(List.replicate k.toNat its).flatten.toArray:=by
  have f0:∀m:Nat,List.foldl (fun x1 x2=>x1++x2) #[] (List.replicate m its.toArray)=(List.replicate m its).flatten.toArray:=fun m=>by
   have:=kU its m []
   rw[List.nil_append] at this
   exact this
  rw[f0]
  cases its with
  |nil=>simp
  |cons a r'=>rw[if_neg (by simp)]
 refine wpAny_binaryOp_repeat_ref (T := "list") (U := "int") (by decide) ⟨_,e,rfl⟩ (fun s'=>typeIs_int s' k t) noFill_list_mul F.fills_int_mul F.slot_int_rmul repeat_list F.slot_int_index.lookup
  (call_meets F.slot_int_rmul (typeIs_int s k t) F.entry_int_rmul (F.args_int_rmul_2 _ _) (int___rmul___int_list k t l its.toArray n)
   ⟨e,rfl,⟨_,e,rfl⟩,call_meets F.slot_list_mul ⟨_,e,rfl⟩ F.entry_list_mul (F.args_list_mul_2 _ _) (AutoListH.list___mul___list_int_3 l its.toArray n k t hfit hcap hlong) ⟨e, ?_⟩⟩)
 rw[hnew]
 exact⟨.ref _,_,I.lnew (t':=s.toks) (r.rep k.toNat) (by rw[len_rep,Nat.mul_comm]; exact hz),rfl,q _ I.fresh⟩
end
end L2
namespace Att
open PySem PySem.W PySem.Calls PyProof.Rows
theorem xF {P:Params} {h:Heap}:∀(ns:List Int) (vs:List Value),WellAll P h vs (ns.map WData.int)->IntsAre vs ns:=by
 intro ns
 induction ns with
 |nil =>
  intro vs w
  rw[List.map_nil] at w
  cases w
  exact .nil
 |cons n ns ih =>
  intro vs w
  rw[List.map_cons] at w
  cases w with
  |cons a b =>
   cases a
   exact .cons _ _ (ih _ b)
theorem Zy {l:OpenLaw} {n:Nat} (hn:l.most=some n) {P:Params} {h:Heap} {args:List WData} {vals:List Value}
  (hpre:l.row.toRowW.claim.pre args=true) (hwl:WellAll P h vals args) :
  ∃a vs ns,vals=[Value.ref a]/\args=[WData.list (ns.map WData.int)]/\h.get? a=some { cls:=.type "list", data:=.seq vs.toArray }/\IntsAre vs ns/\ns.length<=n:=by
 have hsh:WShape.hasAll [] args [.list .int]=true:=(pre_splitW hpre).1
 have hc:l.pre.holds [] { args:=args }=true:=(pre_splitW hpre).2
 obtain⟨d,r,rfl,h1,h2⟩:=hasAllW_cons hsh
 obtain rfl:=hasAllW_nil h2
 obtain⟨xs,rfl,h3⟩:=hasW_list h1
 obtain⟨ns,rfl⟩:=items_int h3
 have hlen:ns.length<=n:=by
  unfold OpenLaw.pre at hc
  have h4:(WTm.not (.lt (.lit (.int (n:Int))) (.len (.arg 0)))).holds [] { args:=[.list (ns.map .int)] }=true:=by
   have h4:=(holds_andW hc).1
   rw[hn] at h4
   exact h4
  have h5:=condW_of h4 (w_not (w_lt w_lit (w_len_list (w_arg rfl))))
  rw[List.length_map] at h5
  refine Nat.le_of_not_lt fun q=>?_
  have q':(n:Int)<((ns.length:Nat):Int):=by omega
  first
   | (rw[decide_eq_true q'] at h5; exact absurd h5 (by decide))
   | (simp at h5; omega)
 cases hwl with
 |cons w1 w2 =>
  cases w2
  cases w1 with
  |list ho hall=>exact⟨_,_,ns,rfl,rfl,ho,xF ns _ hall,hlen⟩
theorem Z2 (l:OpenLaw) (args:List WData):l.row.toRowW.claim.post args (.bool true) args=true :=
 postW_of (r:=l.row.toRowW) (X:=(true==true))
  (show WShape.has [] (.bool true) .bool=true by first|rfl|decide|simp[WShape.has,WShape.arms,WShape.armsAll])
  (show(WTm.eq .res (.lit (.bool true))).value [] { args:=args,res:=some (.bool true),after:=args }=some (.bool (true==true)) from w_eq_bool (w_res rfl) w_lit) rfl
theorem attach_call {l:OpenLaw} {n:Nat} {q:Program} {loose:List Str} {XP:(Str->Option Value)->Heap->Prop} {YP:World->Heap->Prop} {d:DefRec}
  (hn:l.most=some n) (hdf:d.params.defaults=[])
  (call:∀(w:World) (s₀ s₁:Shared) (mg mb:Str->Option Value) (fa:Addr) (o:Obj) (pm cd doc:Value) (a:Addr) (vs:List Value) (ns:List Int),
   Ground q loose [] XP w s₀ mg mb s₁.heap->YP w s₁.heap ->
   s₁.heap.get? fa=some o->o.data=.func (docDef d.name d.params d.body d.scope pm cd doc)->s₁.heap.CodeRec cd d.name->mg d.name=some (.ref fa) ->
   s₁.heap.get? a=some { cls:=.type "list", data:=.seq vs.toArray }->IntsAre vs ns->ns.length<=n->s₁.gens=#[] ->
   codeAny (model l.prog w) callerA (.call (.ref fa) ⟨[.ref a], []⟩) (fun r s'=>r=.ok (.ret (.bool true))/\OldK s₁.heap s'.heap/\s'.os=s₁.os/\AllBare s'.gens) s₁) :
  WalkO q loose XP YP l.row.toRowW d [] (fun f vs=>PySem.call f vs):=by
 intro w s₀ s₁ mg mb G Y fa o pm cd doc dV kV ho hd hcd hD hmg hg args vals as hpre hlay hrd hwl hlo
 obtain rfl:dV=.none:=Dflts.none hD hdf
 obtain rfl:kV=.none:=Dflts.noKw hD
 obtain⟨a,vs,ns,rfl,rfl,hobj,hints,hlen⟩:=Zy hn hpre hwl
 refine enter_call (codeAny_mono (call w s₀ s₁ mg mb fa o pm cd doc a vs ns G Y ho (fd_plain hd) hcd hmg hobj hints hlen hg) fun r s' hq=>?_)
 obtain⟨rfl,h2,h3,h4⟩:=hq
 exact⟨.inl ⟨.bool true, .bool true, [],rfl,fun _=>rfl, .bool true,Z2 l _,fun _=>⟨List.Pairwise.nil,fun _ hm=>(nomatch hm)⟩⟩,h2,h3,h4⟩
end Att
namespace L2
open PySem PySem.Spec PyProof.Rows
theorem jX:∀{vs:List Value} {ns:List Int},IntsAre vs ns->Vals (ns.map V.int) vs
 |_,_, .nil=>.nil
 |_,_, .cons n t h=>.cons ⟨t,rfl⟩ (jX h)
def inClass (s:Stmt) (j:Nat):Stmt:=match s with
 |.ClassDef _ _ _ body _ _ _ _ _ _ _=>body.getD j (.Pass ⟨0,0,0,0⟩)
 |_=>.Pass ⟨0,0,0,0⟩
def xL (s:Stmt):Arguments:=match s with
 |.FunctionDef _ a _ _ _ _ _ _ _ _=>a
 |_=>{ posonlyargs:=[],args:=[],vararg:=none,kwonlyargs:=[],kw_defaults:=[],kwarg:=none,defaults:=[] }
def ve (s:Stmt):List Stmt:=match s with
 |.FunctionDef _ _ b _ _ _ _ _ _ _=>b
 |_=>[]
def qg (s:Stmt):Scope:=match s with
 |.FunctionDef _ _ _ _ _ _ sc _ _ _=>sc
 |_=>{ kind:=.function,names:=[],isGenerator:=false,isCoroutine:=false }
abbrev CX0:CXT:=fun _ _ _ _ _ _=>False
abbrev E0:XK:=fun _ _ _=>False
theorem pass0 {X:Cx}:VH CX0 X E0:=fun _ _ _ _ _ _ _ h=>h.elim
structure Fun (K:PySem.W.Frag) (x qual:Str) (st:Stmt) (f:Addr) (fd:FuncData):Prop where
 ex:∃(oc:Value) (od:Option Addr) (kV doc pm:Value) (an:Option Addr) (cdv ct:Value) (osl:Array (Option Value)),
  fd=PySem.W.fnOf x qual (xL st) (ve st) (qg st) .none kV doc pm an cdv ct/\K.lookup f=some ⟨oc,od, .func fd,osl⟩/\PySem.W.codeIn K cdv qual=true
 kp:PySem.W.keepIn K (.ref f)=true
section
variable {P:Program} {w:World} {K:PySem.W.Frag} {mg:Str->Option Value} {base:Heap}
theorem Fun.ok {x qual:Str} {st:Stmt} {f:Addr} {fd:FuncData} {N ps:List Str} {k:Nat} {sp:Sp} (F:Fun K x qual st f fd) (S:FnScope N ps (qg st)) (len:∀vs H Q E,sp vs H Q E->vs.length=ps.length)
  (hbody:∀(cdv:Value) (A:Around) (outer:List Env) (s:Shared) (H:Hp) (vs:List V) (Q:VK) (E:XK),Room k (A.deeper (envOfC qual (qg st) s.heap.objs.size f cdv))->sp vs H Q E ->
   ∃t,PSs (cxOf CX0 P w K mg base N qual (qg st) f cdv A outer s H E).nox (ve st) t/\t { nx:=fun _ H'=>Q .non H',rt:=Q } (start N vs) H):FnOk P w K mg base CX0 (k+1) f fd ps sp:=by
 obtain⟨oc,od,kV,doc,pm,an,cdv,ct,osl,rfl,lk,hcd⟩:=F.ex
 refine fn_of lk hcd S len fun A outer s H vs Q E hr hsp=>?_
 obtain⟨t,h,q⟩:=hbody cdv A outer s H vs Q E hr hsp
 exact⟨t,h.nox,q⟩
theorem Fun.binds {x qual:Str} {st:Stmt} {f:Addr} {fd:FuncData} {ps:List Str} (F:Fun K x qual st f fd)
  (h:∀(kV doc pm:Value) (an:Option Addr) (cdv ct:Value) (us:List Value),us.length=ps.length->bindArgs (PySem.W.fnOf x qual (xL st) (ve st) (qg st) .none kV doc pm an cdv ct) ⟨us, []⟩=pure (ps.zip us)):Binds K fd ps []:=by
 obtain⟨oc,od,kV,doc,pm,an,cdv,ct,osl,rfl,lk,hcd⟩:=F.ex
 exact .all (h kV doc pm an cdv ct)
theorem fun_mk {x qual:Str} {st:Stmt} {f:Addr} {oc:Value} {od an:Option Addr} {osl:Array (Option Value)} {kV doc pm cdv ct:Value} (l:K.lookup f=some ⟨oc,od, .func (PySem.W.fnOf x qual (xL st) (ve st) (qg st) .none kV doc pm an cdv ct),osl⟩)
  (c:PySem.W.codeIn K cdv qual=true) (k:PySem.W.keepIn K (.ref f)=true):Fun K x qual st f (PySem.W.fnOf x qual (xL st) (ve st) (qg st) .none kV doc pm an cdv ct):=⟨⟨oc,od,kV,doc,pm,an,cdv,ct,osl,rfl,l,c⟩,k⟩
end
theorem hu_of {A:Around} {k:Nat} (hr:Room k A):A.units+1<cLine:=Nat.lt_of_le_of_lt (Nat.add_le_add_left (by decide:1<=64) _) hr.units
theorem vL {n:Nat} (h:n<=1000):n<sizeLine:=Nat.lt_of_le_of_lt h (by decide)
section
variable {X:Cx}
theorem pv (i:Nat) {x:Str} {pos:Pos} (hN:X.N[i]?=some x:=by rfl) (hv:Vis X.env.scope x:=by first|exact Or.inl rfl|exact Or.inr (Or.inl rfl)|exact Or.inr (Or.inr rfl)) (hd:(x==("__debug__" : Str))=false:=by decide)
  (hcd:(x==("__classdict__" : Str))=false:=by decide):PE X (.Name x pos) (tVar i):=pe_var hN hv hd hcd
end
theorem ite2 {c A B:Prop} [Decidable c] (h1:c->A) (h2:¬c->B):if c then A else B:=by
 by_cases h:c
 ·rw[if_pos h]
  exact h1 h
 ·rw[if_neg h]
  exact h2 h
def Same (H H':Hp):Prop:=∀b o,H b=some o->H' b=some o
theorem Same.refl (H:Hp):Same H H:=fun _ _ h=>h
theorem Same.trans {H H1 H2:Hp} (a:Same H H1) (b:Same H1 H2):Same H H2:=fun c o h=>b c o (a c o h)
theorem Same.free {H H':Hp} (e:Same H H') {l:Addr} (h:H' l=Option.none):H l=Option.none:=by
 cases q:H l with
 |none=>rfl
 |some o =>
  rw[e l o q] at h
  cases h
theorem Same.seq {K:PySem.W.Frag} {H H':Hp} {a:Addr} {xs:List V} (e:Same H H') (h:SqL K H a xs):SqL K H' a xs:=by
 rcases h with(h|⟨o,h⟩)|h
 ·exact .inl (.inl (e _ _ h))
 ·exact .inl (.inr ⟨o,e _ _ h⟩)
 ·exact .inr h
section
variable {κ:Type} [DecidableEq κ]
def valV (kvs:List (κ×V)) (k:κ):Option V:=(kvs.find? fun kv=>decide (kv.1=k)).map (·.2)
def putK (kvs:List (κ×V)) (k:κ) (v:V):List (κ×V) :=
 if(kvs.any fun kv=>decide (kv.1=k))=true then kvs.map (fun kv=>if kv.1=k then(kv.1,v) else kv) else kvs++[(k,v)]
theorem jk {p:κ×V} {r:List (κ×V)} {k:κ} (e:p.1=k):valV (p::r) k=some p.2:=by simp[valV,List.find?_cons,e]
theorem jl {p:κ×V} {r:List (κ×V)} {k:κ} (e:¬p.1=k):valV (p::r) k=valV r k:=by simp[valV,List.find?_cons,e]
theorem Q5 (k:κ):∀kvs:List (κ×V),(kvs.any fun kv=>decide (kv.1=k))=(valV kvs k).isSome
 | []=>rfl
 |p::r=>by
  rw[List.any_cons]
  by_cases e:p.1=k
  ·simp only[jk e,decide_eq_true e,Bool.true_or,Option.isSome_some]
  ·rw[jl e,decide_eq_false e,Bool.false_or]; exact Q5 k r
theorem zq (kvs:List (κ×V)) (k:κ) (v:V):(putK kvs k v).length<=kvs.length+1:=by
 unfold putK
 split
 ·rw[List.length_map]; omega
 ·rw[List.length_append,List.length_cons,List.length_nil]; omega
theorem RelO.isSome_eq {o:Option V} {u:Option Value} (r:RelO o u):o.isSome=u.isSome:=by
 cases o with
 |none=>cases u with
  |none=>rfl
  |some _=>exact(show False from r).elim
 |some _=>cases u with
  |none=>exact(show False from r).elim
  |some _=>rfl
theorem RelO.getD {o:Option V} {u:Option Value} {d:V} {d':Value} (r:RelO o u) (rd:RelV d d'):RelV (o.getD d) (u.getD d'):=by
 cases o with
 |none=>cases u with
  |none=>exact rd
  |some _=>exact(show False from r).elim
 |some _=>cases u with
  |none=>exact(show False from r).elim
  |some _=>exact r
theorem KV.val {kvs:List (κ×V)} {vs:List (κ×Value)} (r:KV kvs vs) (k:κ):RelO (valV kvs k) (valueAt vs k):=by
 unfold KV at r
 induction r with
 |nil=>exact True.intro
 | @cons p q ps qs h t ih =>
  obtain⟨h1,h2⟩:=h
  by_cases e:p.1=k
  ·have e':q.1=k:=h1.symm.trans e
   have b:valueAt (q::qs) k=some q.2:=by simp[valueAt,List.find?_cons,e']
   rw[jk e,b]; exact h2
  ·have e':¬q.1=k:=fun z=>e (h1.trans z)
   have b:valueAt (q::qs) k=valueAt qs k:=by simp[valueAt,List.find?_cons,e']
   rw[jl e,b]; exact ih
theorem KV.any {kvs:List (κ×V)} {vs:List (κ×Value)} (r:KV kvs vs) (k:κ):(kvs.any fun kv=>decide (kv.1=k))=vs.any fun kv=>decide (kv.1=k):=by
 unfold KV at r
 induction r with
 |nil=>rfl
 |cons h t ih=>rw[List.any_cons,List.any_cons,ih,h.1]
theorem KV.repl {kvs:List (κ×V)} {vs:List (κ×Value)} (r:KV kvs vs) (k:κ) {y:V} {u:Value} (ry:RelV y u) :
  KV (kvs.map fun kv=>if kv.1=k then(kv.1,y) else kv) (vs.map fun kv=>if kv.1=k then(kv.1,u) else kv):=by
 unfold KV at r ⊢
 induction r with
 |nil=>exact .nil
 | @cons p q ps qs h t ih =>
  rw[List.map_cons,List.map_cons]
  refine .cons ?_ ih
  obtain⟨h1,h2⟩:=h
  by_cases e:p.1=k
  ·rw[if_pos e,if_pos (h1.symm.trans e)]; exact⟨h1,ry⟩
  ·rw[if_neg e,if_neg (fun z=>e (h1.trans z))]; exact⟨h1,h2⟩
theorem KV.put {kvs:List (κ×V)} {vs:List (κ×Value)} (r:KV kvs vs) (k:κ) {y:V} {u:Value} (ry:RelV y u):KV (putK kvs k y) (stored vs k u):=by
 unfold putK stored
 rw[r.any k]
 by_cases e:(vs.any fun kv=>decide (kv.1=k))=true
 ·rw[if_pos e,if_pos e]; exact r.repl k ry
 ·rw[if_neg e,if_neg e]; exact Paired.snoc r ⟨rfl,ry⟩
theorem KV.length {kvs:List (κ×V)} {vs:List (κ×Value)} (r:KV kvs vs):kvs.length=vs.length:=Paired.length r
end
theorem V6 {P:Program} {w:World} {k:Key} {u:Value} (r:RelV (kV k) u):(qO P w).is k u=true:=by
 cases k with
 |inl i=>obtain⟨t,e⟩:=(show ∃t,u=Value.int i t from r); subst e; exact QH P w i t
 |inr x=>obtain⟨t,e⟩:=(show ∃t,u=Value.str x t from r); subst e; exact zo P w x t
 |non=>cases(show u=Value.none from r); rfl
theorem kO {P:Program} {w:World}:∀{ks:List Key} {us:List Value},Vals (ks.map kV) us->ItemsAre (qO P w) ks us
 | [],_,r=>by rw[List.map_nil] at r; cases r; exact .nil
 |k::ks,_,r=>by
  rw[List.map_cons] at r
  cases r with
  |cons h t=>exact .cons (V6 h) (kO t)
abbrev KT (H:Hp):List (List Key×V)->List (List Key×Addr×Value)->Prop:=Paired fun p q=>p.1=q.1/\H q.2.1=some (.tup (p.1.map kV))/\RelV p.2 q.2.2
theorem KT.val {H:Hp} {kvs:List (List Key×V)} {xs:List (List Key×Addr×Value)} (r:KT H kvs xs) (k:List Key):RelO (valV kvs k) ((atKey xs k).map (·.2)):=by
 induction r with
 |nil=>exact True.intro
 | @cons p q ps qs h t ih =>
  obtain⟨h1,_,h2⟩:=h
  by_cases e:p.1=k
  ·have e':q.1=k:=h1.symm.trans e
   have b:atKey (q::qs) k=some q.2:=by simp[atKey,List.find?_cons,e']
   rw[jk e,b]; exact h2
  ·have e':¬q.1=k:=fun z=>e (h1.trans z)
   have b:atKey (q::qs) k=atKey qs k:=by simp[atKey,List.find?_cons,e']
   rw[jl e,b]; exact ih
theorem KT.repl {H:Hp} {kvs:List (List Key×V)} {xs:List (List Key×Addr×Value)} (r:KT H kvs xs) (k:List Key) {y:V} {u:Value} (ry:RelV y u) :
  KT H (kvs.map fun kv=>if kv.1=k then(kv.1,y) else kv) (xs.map (putAt k u)):=by
 induction r with
 |nil=>exact .nil
 | @cons p q ps qs h t ih =>
  rw[List.map_cons,List.map_cons]
  refine .cons ?_ ih
  obtain⟨h1,h2,h3⟩:=h
  unfold putAt
  by_cases e:p.1=k
  ·rw[if_pos e,if_pos (h1.symm.trans e)]; exact⟨h1,h2,ry⟩
  ·rw[if_neg e,if_neg (fun z=>e (h1.trans z))]; exact⟨h1,h2,h3⟩
theorem KT.put {H:Hp} {kvs:List (List Key×V)} {xs:List (List Key×Addr×Value)} (r:KT H kvs xs) (k:List Key) {b:Addr} {y:V} {u:Value} (hb:H b=some (.tup (k.map kV))) (ry:RelV y u) :
  KT H (putK kvs k y) (storedH xs k b u):=by
 have e:(kvs.any fun kv=>decide (kv.1=k))=(atKey xs k).isSome:=by
  rw[Q5,(r.val k).isSome_eq,Option.isSome_map]
 unfold putK storedH
 rw[e]
 by_cases q:(atKey xs k).isSome=true
 ·rw[if_pos q,if_pos q]; exact r.repl k ry
 ·rw[if_neg q,if_neg q]; exact Paired.snoc r ⟨rfl,hb,ry⟩
theorem KT.keeps {H H':Hp} {kvs:List (List Key×V)} {xs:List (List Key×Addr×Value)} (r:KT H kvs xs) (ht:∀b ys,H b=some (.tup ys)->H' b=some (.tup ys)):KT H' kvs xs :=
 Paired.mapP r fun _ _ z=>⟨z.1,ht _ _ z.2.1,z.2.2⟩
section
variable {P:Program} {w:World} {H:Hp} {h:Heap} {a:Addr}
theorem rd_of {u:HO} (ok:HOk P w H h) (e:Rd H a u):ObjOk P w H h a u:=e.ok ok
theorem dk_rd {kvs:List (Key×V)} (ok:HOk P w H h) (e:Rd H a (.dK kvs)):kvs.length<=sizeLine/\(a==sysModules)=false/\∃vs,KV kvs vs/\h.DictOf (qO P w) a vs :=
 show ObjOk P w H h a (.dK kvs) from rd_of ok e
theorem dk_of {kvs:List (Key×V)} (ok:HOk P w H h) (e:H a=some (.dK kvs)):kvs.length<=sizeLine/\(a==sysModules)=false/\∃vs,KV kvs vs/\h.DictOf (qO P w) a vs:=dk_rd ok (.inl e)
theorem XH {ks:List Key} (ok:HOk P w H h) (e:H a=some (.tup (ks.map kV))):(tupleKind (qO P w)).is h ks a:=by
 obtain⟨_,its,r,o,h1,h2,n,h3⟩:=(show ObjOk P w H h a (.tup (ks.map kV)) from ok a _ e)
 exact⟨o,its.toArray,n,h1,h2,h3,by simpa using kO r⟩
theorem dt_rd {kvs:List (List Key×V)} (ok:HOk P w H h) (e:Rd H a (.dT kvs)):kvs.length<=sizeLine/\(a==sysModules)=false /\
  ∃xs,KT H kvs xs/\h.DictOfH (tupleKind (qO P w)) a xs:=by
 obtain⟨z,y,xs,r,o,es,ep,h1,h2,h3,h4,h5⟩:=(show ObjOk P w H h a (.dT kvs) from rd_of ok e)
 refine⟨z,y,xs,r,o,es,ep,h1,h2,h3,h4,fun x hx=>?_,h5⟩
 have all:∀{l:List (List Key×V)} {m:List (List Key×Addr×Value)},KT H l m->∀x∈m,(tupleKind (qO P w)).is h x.1 x.2.1:=by
  intro l m q
  induction q with
  |nil=>intro x hx; exact nomatch hx
  | @cons p q ps qs hq t ih =>
   intro x hx
   rcases List.mem_cons.mp hx with e|hx
   ·subst e
    exact XH ok (by rw[<-hq.1]; exact hq.2.1)
   ·exact ih x hx
 exact all r x hx
theorem dt_of {kvs:List (List Key×V)} (ok:HOk P w H h) (e:H a=some (.dT kvs)):kvs.length<=sizeLine/\(a==sysModules)=false /\
  ∃xs,KT H kvs xs/\h.DictOfH (tupleKind (qO P w)) a xs:=dt_rd ok (.inl e)
end
def DGet (H:Hp) (a:Addr) (y:V) (r:Option V):Prop :=
 (∃kvs k,Rd H a (.dK kvs)/\y=kV k/\r=valV kvs k)\/∃kvs k b,Rd H a (.dT kvs)/\y=.ref b/\H b=some (.tup (k.map kV))/\r=valV kvs k
def DPut (H:Hp) (a:Addr) (y v:V) (H':Hp):Prop :=
 (∃kvs k,H a=some (.dK kvs)/\y=kV k/\kvs.length<sizeLine/\H'=upd H a (.dK (putK kvs k v))) \/
 ∃kvs k b,H a=some (.dT kvs)/\y=.ref b/\H b=some (.tup (k.map kV))/\kvs.length<sizeLine/\H'=upd H a (.dT (putK kvs k v))
theorem DGet.k {H:Hp} {a:Addr} {kvs:List (Key×V)} {k:Key} (e:H a=some (.dK kvs)):DGet H a (kV k) (valV kvs k):=.inl ⟨kvs,k, .inl e,rfl,rfl⟩
theorem DGet.t {H:Hp} {a b:Addr} {kvs:List (List Key×V)} {k:List Key} (e:H a=some (.dT kvs)) (eb:H b=some (.tup (k.map kV))):DGet H a (.ref b) (valV kvs k):=.inr ⟨kvs,k,b, .inl e,rfl,eb,rfl⟩
theorem DPut.k {H:Hp} {a:Addr} {kvs:List (Key×V)} {k:Key} {v:V} (e:H a=some (.dK kvs)) (hl:kvs.length<sizeLine):DPut H a (kV k) v (upd H a (.dK (putK kvs k v))):=.inl ⟨kvs,k,e,rfl,hl,rfl⟩
theorem DPut.t {H:Hp} {a b:Addr} {kvs:List (List Key×V)} {k:List Key} {v:V} (e:H a=some (.dT kvs)) (eb:H b=some (.tup (k.map kV))) (hl:kvs.length<sizeLine) :
  DPut H a (.ref b) v (upd H a (.dT (putK kvs k v))):=.inr ⟨kvs,k,b,e,rfl,eb,hl,rfl⟩
section
variable {X:Cx} {pins:List (Addr×Obj)} {σ:St} {H:Hp} {s:Shared} {a:Addr} {y v:V} {u r:Value} {o:Option V} {A:Around} {E:Value->Shared->Prop}
theorem Inv.big (I:Inv X pins σ H s):sysModules<s.heap.objs.size:=by
 have h:mainGlobals<s.heap.objs.size:=(I.mod.glob.keeps I.bk).lt
 exact Nat.lt_trans (by decide) h
theorem X8 {Q:Value->Shared->Prop} (hu:A.units+1<cLine) (I:Inv X pins σ H s) (g:DGet H a y (some v)) (ry:RelV y u) (h:∀w' s',Inv X pins σ H s'->RelV v w'->Q w' s') :
  wpAny (model X.prog X.w) A (getItem (.ref a) u) Q E s:=by
 rcases g with⟨kvs,k,e,ey,l⟩|⟨kvs,k,b,e,ey,eb,l⟩
 ·subst ey
  obtain⟨z,hd,vs,rel,dd⟩:=dk_rd I.hok e
  obtain⟨w',hw,rw'⟩:=RelO.some_of (v:=v) (o:=valueAt vs k) (by rw[l]; exact rel.val k)
  exact wpAny_getItem_of (V6 ry) dd.mapOf hw (h w' _ (I.tok _) rw')
 ·subst ey
  cases(show u=Value.ref b from ry)
  obtain⟨z,hd,xs,rel,dd⟩:=dt_rd I.hok e
  obtain⟨w',hw,rw'⟩:=RelO.some_of (v:=v) (o:=(atKey xs k).map (·.2)) (by rw[l]; exact rel.val k)
  obtain⟨p,hp,hp2⟩:=Option.map_eq_some_iff.mp hw
  refine wpAny_getItem_heap (tupleKind_room_in1 hu) (XH I.hok eb) dd hp ?_
  rw[hp2]
  exact h w' _ (I.tok _) rw'
theorem QY {h':Heap} {t':Nat} {ob:HO} (I:Inv X pins σ H s) (mu:Mut (H a)) (hs:Heap.SameBut a s.heap h') (he:∃q,h'.get? a=some q) (new:ObjOk X.prog X.w (upd H a ob) h' a ob) :
  Inv X pins σ (upd H a ob) { s with heap:=h',toks:=t' } :=
 I.write (x:=a) (e:=a) mu (.inl rfl) (fun b q hb z=>(hs.2 b hb).trans z) he new
theorem X3 {P:Program} {w:World} {H':Hp} {h':Heap} {kvs:List (Key×V)} {vs:List (Key×Value)} (z:kvs.length<=sizeLine) (hd:(a==sysModules)=false) (rel:KV kvs vs) (dd:h'.DictOf (qO P w) a vs) :
  ObjOk P w H' h' a (.dK kvs):=⟨z,hd,vs,rel,dd⟩
theorem X7 {H':Hp} {Q:Unit->Shared->Prop} (hu:A.units+1<cLine) (I:Inv X pins σ H s) (g:DPut H a y v H') (ry:RelV y u) (rv:RelV v r) (h:∀s',Inv X pins σ H' s'->Q () s') :
  wpAny (model X.prog X.w) A (setItem (.ref a) u r) Q E s:=by
 rcases g with⟨kvs,k,e,ey,l,eH⟩|⟨kvs,k,b,e,ey,eb,l,eH⟩
 ·subst ey eH
  obtain⟨z,hd,vs,rel,dd⟩:=dk_of I.hok e
  have hz:vs.length<=sizeLine:=by rw[<-rel.length]; exact z
  have hl:(putK kvs k v).length<=sizeLine:=by have:=zq kvs k v; omega
  refine wpAny_setItem_pairs (hsz:=hz) (V6 ry) dd fun h' dd' hs=>h _ ?_
  have he:∃q,h'.get? a=some q:=let⟨q,_,_,hq,_⟩:=dd'; ⟨q,hq⟩
  exact QY I (by rw[e]; exact True.intro) hs he (X3 hl hd (rel.put k rv) dd')
 ·subst ey eH
  cases(show u=Value.ref b from ry)
  obtain⟨z,hd,xs,rel,dd⟩:=dt_of I.hok e
  have hz:xs.length<=sizeLine:=by rw[<-Paired.length rel]; exact z
  have hl:(putK kvs k v).length<=sizeLine:=by have:=zq kvs k v; omega
  refine wpAny_setItem_heap (hsz:=hz) (tupleKind_room_in1 hu) (XH I.hok eb) dd fun h' dd' hs=>h _ ?_
  obtain⟨q,es,ep,hq,h2,h3,h4,_,h5⟩:=dd'
  refine QY I (by rw[e]; exact True.intro) hs ⟨q,hq⟩ ⟨hl,hd,_,(rel.put k eb rv).keeps fun c ys ec=>?_,q,es,ep,hq,h2,h3,h4,h5⟩
  rw[upd_ne (ne_of ec e (fun z=>nomatch z))]
  exact ec
end
def NoSl (i:Expr):Prop:=∀ov iv,subscripted i false ov iv=operate [ov,iv] (getItem ov iv)
theorem Zt {prog:Program} {w:World} {A:Around} {E:Value->Shared->Prop} {s:Shared} {env:Env} {value slice:Expr} {pos:Pos} {T id:String} {Q:Value->Shared->Prop}
  (hl:typeLookup (.type T) "__getitem__" = pure (some (.builtin id))) (hs:NoSl slice)
  (h:wpAny (model prog w) A (eval value env) (fun o s₁=>wpAny (model prog w) A (eval slice env) (fun i s₂=>s₂.TypeIs o T/\wpAny (model prog w) A (getItem o i) Q E s₂) E s₁) E s) :
  wpAny (model prog w) A (eval (.Subscript value slice pos) env) Q E s:=by
 refine Subscript_ (wpAny_mono h (fun o s₁ h₁=>wpAny_mono h₁ (fun i s₂ h₂=>?_) fun _ _ x=>x) fun _ _ x=>x)
 obtain⟨hT,h₂⟩:=h₂
 unfold subscriptTail
 refine wpAny_bind ?_
 rw[getitemInPython_of_ne hT.not_modules]
 refine wpAny_bind (wpAny_specialOf hT hl ?_)
 have fin:wpAny (model prog w) A (subscripted slice false o i) (fun r s₃=>wpAny (model prog w) A (letTemporaryGo value o r >>= fun _=>pure r) Q E s₃) E s₂:=by
  rw[hs o i]
  exact wpAny_operating (wpAny_mono h₂ (fun r s₃ h₃=>wpAny_bind (wpAny_letTemporaryGo (wpAny_pure h₃))) fun _ _ x=>x)
 first
  |exact wpAny_pure (wpAny_bind fin)
  |exact wpAny_bind (wpAny_pure (wpAny_bind fin))
  |exact wpAny_bind fin
theorem QX {X:Cx} {pins:List (Addr×Obj)} {σ:St} {H:Hp} {s:Shared} {a:Addr} {y:V} {o:Option V} (I:Inv X pins σ H s) (g:DGet H a y o):s.TypeIs (.ref a) "dict" := by
 rcases g with⟨kvs,k,e,_,_⟩|⟨kvs,k,b,e,_,_,_⟩
 ·obtain⟨_,_,vs,_,dd⟩:=dk_rd I.hok e
  exact dd.typeIs
 ·obtain⟨_,_,xs,_,dd⟩:=dt_rd I.hok e
  exact dd.typeIs
def tDGet (td ty:TE):TE:=fun σ H Q=>td σ H fun x H1=>ty σ H1 fun y H2=>∃a v,x=.ref a/\DGet H2 a y (some v)/\Q v H2
def sDPut (td ty tv:TE):TS:=fun D σ H=>tv σ H fun v H1=>td σ H1 fun x H2=>ty σ H2 fun y H3=>∃a H4,x=.ref a/\DPut H3 a y v H4/\D.nx σ H4
section
variable {X:Cx} {o i value:Expr} {pos pos':Pos} {td ty tv:TE}
theorem pe_dget (hu:X.A.units+1<cLine) (ho:PE X o td) (hi:PE X i ty) (hs:NoSl i):PE X (.Subscript o i pos) (tDGet td ty):=by
 intro pins s σ H Q I h
 refine Zt PySem.F.slot_dict_getitem.lookup hs (thn (ho pins s σ H _ I h) fun u s1 ⟨x,H1,I1,rx,q1⟩=>thn (hi pins s1 σ H1 _ I1 q1) fun iv s2 ⟨y,H2,I2,ry,a,v,ex,g,q2⟩=>?_)
 subst ex
 obtain rfl:u=Value.ref a:=rx
 exact⟨QX I2 g,X8 hu I2 g ry fun w' s3 I3 rw'=>⟨v,H2,I3,rw',q2⟩⟩
theorem ps_dput (hu:X.A.units+1<cLine) (ho:PE X o td) (hi:PE X i ty) (hv:PE X value tv) (hs:swapsWith value (some (.Subscript o i pos')) pos.line X.env=pure false) :
  PS X (.Assign [.Subscript o i pos'] value pos) (sDPut td ty tv):=by
 intro pins s σ H D I h
 refine wpAny_Assign_Subscript (thn (hv pins s σ H _ I h) fun r s1 ⟨v,H1,I1,rv,q1⟩=>thn (ho pins s1 σ H1 _ I1 q1) fun u s2 ⟨x,H2,I2,rx,q2⟩=>thn (hi pins s2 σ H2 _ I2 q2) fun iv s3 ⟨y,H3,I3,ry,a,H4,ex,g,q3⟩=>?_) hs
 subst ex
 obtain rfl:u=Value.ref a:=rx
 exact X7 hu I3 g ry rv fun s4 I4=>⟨σ,H4,I4,q3⟩
end
theorem Vu {P:Program} {w:World} {H:Hp} (h:Heap) (hb:sysModules<h.objs.size):ObjOk P w H (h.push { cls:=.type "dict", data:=.dict #[] }) h.objs.size (.dK []) :=
 ⟨Nat.zero_le _,beq_eq_false_iff_ne.mpr (Ne.symm (Nat.ne_of_lt hb)), [], .nil,Heap.DictOf.new h⟩
def Vc:TE:=fun _ H Q=>∀p,H p=none->Q (.ref p) (upd H p (.dK []))
section
variable {X:Cx} {pos:Pos}
theorem pe_dnewK:PE X (.Dict [] [] pos) Vc:=fun pins s σ H Q I h =>
 wpAny_Dict_empty ⟨.ref s.heap.objs.size,_,I.laid (a:=s.heap.objs.size) (o:=.dK []) (t':=s.toks) (fun _ _ q=>Heap.get?_push_of_some _ q) (Nat.le_refl _) (Vu s.heap I.big),rfl,h _ (I.hok.fresh (Nat.le_refl _))⟩
end
def Vb:List (TE×TE)->St->Hp->(List (V×V)->Hp->Prop)->Prop
 | [],_,H,Q=>Q [] H
 | (tk,tv)::r,σ,H,Q=>tk σ H fun x H1=>tv σ H1 fun y H2=>Vb r σ H2 fun ps H3=>Q ((x,y)::ps) H3
abbrev VV:List (V×V)->List (Value×Value)->Prop:=Paired fun p q=>RelV p.1 q.1/\RelV p.2 q.2
def PPs (X:Cx) (pos:Pos) (keys:List (Option Expr)) (values:List Expr) (trs:List (TE×TE)):Prop :=
 ∀(pins:List (Addr×Obj)) (s:Shared) (σ:St) (H:Hp) (Q:List (V×V)->Hp->Prop),Inv X pins σ H s->Vb trs σ H Q ->
  wpAny (model X.prog X.w) X.A (evalPairs (pairTrees keys values X.env pos)) (fun vs s'=>∃ps H',Inv X pins σ H' s'/\VV ps vs/\Q ps H') X.xe s
theorem pps_nil {X:Cx} {pos:Pos}:PPs X pos [] [] []:=fun pins s σ H Q I h=>pairTrees_nil_walk ⟨[],H,I, .nil,h⟩
theorem pps_cons {X:Cx} {pos:Pos} {k v:Expr} {ks:List (Option Expr)} {vs:List Expr} {tk tv:TE} {trs:List (TE×TE)} (hk:PE X k tk) (hv:PE X v tv) (hr:PPs X pos ks vs trs) :
  PPs X pos (some k::ks) (v::vs) ((tk,tv)::trs):=fun pins s σ H Q I h =>
 pairTrees_cons_walk (thn (hk pins s σ H _ I h) fun u s1 ⟨x,H1,I1,rx,q1⟩=>thn (hv pins s1 σ H1 _ I1 q1) fun w2 s2 ⟨y,H2,I2,ry,q2⟩ =>
  thn (hr pins s2 σ H2 _ I2 q2) fun ws s3 ⟨ps,H3,I3,rel,q3⟩=>⟨(x,y)::ps,H3,I3, .cons ⟨rx,ry⟩ rel,q3⟩)
def xC (kvs more:List (Key×V)):List (Key×V):=more.foldl (fun acc kv=>putK acc kv.1 kv.2) kvs
theorem KV.merge:∀{more:List (Key×V)} {rs:List (Key×Value)} {kvs:List (Key×V)} {vs:List (Key×Value)},KV more rs->KV kvs vs->KV (xC kvs more) (merged vs rs):=by
 intro more rs kvs vs r
 unfold KV at r
 induction r generalizing kvs vs with
 |nil=>intro q; exact q
 | @cons p q ps qs h t ih =>
  intro r0
  have e:KV (putK kvs p.1 p.2) (stored vs q.1 q.2):=by
   have:=r0.put p.1 h.2
   rw[<-h.1]; exact this
  exact ih e
theorem zz:∀(more kvs:List (Key×V)),(xC kvs more).length<=kvs.length+more.length
 | [],kvs=>by show kvs.length<=kvs.length+0; omega
 |p::r,kvs=>by
  have h1:=zz r (putK kvs p.1 p.2)
  have h2:=zq kvs p.1 p.2
  show(xC (putK kvs p.1 p.2) r).length<=_
  rw[List.length_cons]; omega
theorem jh {P:Program} {w:World}:∀{kvs:List (Key×V)} {ws:List (Value×Value)},VV (kvs.map fun kv=>(kV kv.1,kv.2)) ws->∃rs,Carries (qO P w) ws rs/\KV kvs rs
 | [],_,r=>by rw[List.map_nil] at r; cases r; exact⟨[],True.intro, .nil⟩
 |p::kvs,_,r=>by
  rw[List.map_cons] at r
  cases r with
  | @cons a b as bs h t =>
   obtain⟨rs,c,q⟩:=jh (P:=P) (w:=w) t
   obtain⟨b1,b2⟩:=b
   exact⟨(p.1,b2)::rs,⟨V6 h.1,rfl,c⟩, .cons ⟨rfl,h.2⟩ q⟩
def tDisp (trs:List (TE×TE)):TE:=fun σ H Q=>∀p,H p=none->Vb trs σ (upd H p (.dK [])) fun ps H2=>H2 p=some (.dK [])/\∃kvs:List (Key×V),ps=kvs.map (fun kv=>(kV kv.1,kv.2))/\kvs.length<=15/\Q (.ref p) (upd H2 p (.dK (xC [] kvs)))
theorem pe_disp {X:Cx} {pos:Pos} {keys:List (Option Expr)} {values:List Expr} {trs:List (TE×TE)} (h:PPs X pos keys values trs) (hall:keys.all (·.isSome)=true) (hl:keys.length=values.length) (h0:keys≠[])
  (h15:keys.length<=15):PE X (.Dict keys values pos) (tDisp trs):=by
 intro pins s σ H Q I q
 have hn:=I.hok.fresh (Nat.le_refl s.heap.objs.size)
 have I1:=I.laid (a:=s.heap.objs.size) (o:=.dK []) (h':=s.heap.push { cls:=.type "dict", data:=.dict #[] }) (t':=s.toks) (fun _ _ q=>Heap.get?_push_of_some _ q) (Nat.le_refl _) (Vu s.heap I.big)
 refine wpAny_Dict_walk (knd:=qO X.prog X.w) hall hl h0 h15 (thn (h pins _ σ _ _ I1 (q _ hn)) fun ws s2 ⟨ps,H2,I2,rel,e,kvs,ep,lk,q2⟩=>?_)
 subst ep
 obtain⟨rs,c,rk⟩:=jh (P:=X.prog) (w:=X.w) rel
 obtain⟨z,hd,vs0,r0,dd⟩:=dk_of I2.hok e
 cases r0
 refine⟨rs,c,dd,fun h' dd' hs=>⟨.ref s.heap.objs.size,_, ?_,rfl,q2⟩⟩
 have hz:(xC [] kvs).length<=sizeLine:=by
  have h1:=zz kvs []
  rw[List.length_nil] at h1
  rw[sizeLine_eq]; omega
 have he:∃q,h'.get? s.heap.objs.size=some q:=let⟨q,_,_,hq,_⟩:=dd'; ⟨q,hq⟩
 exact QY I2 (by rw[e]; exact True.intro) hs he (X3 hz hd (rk.merge .nil) dd')
structure M1 (X:Cx) (o:Expr) (m:Str) (apos:Pos) (e:Expr) (cpos:Pos):Prop where
 base:attributeBase o m X.env (eval o X.env)=eval o X.env
 few:((backTo cpos (starEach [e] X.env)).all (fun x => !x.1)&&(backToKw cpos (keywordEach [] X.env)).all (fun x=>x.1.isSome)
  && decide (([e]:List Expr).length+([]:List Keyword).length+(if([]:List Keyword).isEmpty then 0 else 1)<30))=true
 line:(apos.endLine==cpos.line)=true
 trees:backTo cpos (starEach [e] X.env)=[(false,eval e X.env)]
structure M2 (X:Cx) (o:Expr) (m:Str) (apos:Pos) (e f:Expr) (cpos:Pos):Prop where
 base:attributeBase o m X.env (eval o X.env)=eval o X.env
 few:((backTo cpos (starEach [e,f] X.env)).all (fun x => !x.1)&&(backToKw cpos (keywordEach [] X.env)).all (fun x=>x.1.isSome)
  && decide (([e,f]:List Expr).length+([]:List Keyword).length+(if([]:List Keyword).isEmpty then 0 else 1)<30))=true
 line:(apos.endLine==cpos.line)=true
 trees:backTo cpos (starEach [e,f] X.env)=[(false,eval e X.env),(false,eval f X.env)]
def cxC (X:Cx) (scope:Scope) (cl:List (Str×Addr)) (M:List Str) (fp:List Addr) (s:Shared) (H:Hp):Cx :=
 { X with N:=M,s₀:=s,H₀:=H,env:=compEnvC scope cl s.heap.objs.size X.env,outer:=X.stack,stack:=X.stack,ex:=fp,fn:=fun _=>false,pn:=[],xe:=fun _ _=>False }
def vI (bs:List Bool) (n:Nat) (σ:St):St:=(bs.zip σ).map (fun p=>if p.1 then p.2 else none)++List.replicate n none
def ExtS (σ τ:St):Prop:=∀(i:Nat) v,σ[i]?=some (some v)->τ[i]?=some (some v)
theorem ExtS.refl (σ:St):ExtS σ σ:=fun _ _ h=>h
theorem ExtS.trans {a b c:St} (h:ExtS a b) (k:ExtS b c):ExtS a c:=fun i v e=>k i v (h i v e)
theorem ExtS.put {σ τ:St} {i:Nat} {v:V} (h:ExtS σ τ) (e:σ[i]?=some none):ExtS σ (τ.set i (some v)):=fun j w q=>by
 by_cases hj:i=j
 ·subst hj; rw[e] at q; cases q
 ·rw[List.getElem?_set_ne hj]; exact h j w q
def CompW (J:It) (acc:Addr) (g:TG) (tt:TT) (te:TE) (σ0:St) (H1:Hp) (Q:VK):Prop:=∃W:Nat->Nat->Hp->Prop,(∃m,W 0 m (upd H1 acc (.lst []))) /\
 ∀i m H2,W i m H2->(J.stop i H2/\Q (.ref acc) H2)\/(J.go i H2/\∃N:Hp->Prop,(∀H',N H'->∃m',m'<m/\W (i+1) m' H')/\∀x H3,J.yld i H2 x H3->g x σ0 H3 fun σ4 H4=>(ExtS σ0 σ4/\σ4.length=σ0.length)/\tt σ4 H4 fun b H5 =>
  if b=true then te σ4 H5 fun v H6=>∃ys,H6 acc=some (.lst ys)/\ys.length<sizeLine/\N (upd H6 acc (.lst (ys++[v]))) else N H5)
def zn (wi:TI) (bs:List Bool) (n:Nat) (g:TG) (tt:TT) (te:TE):TE:=fun σ H Q=>wi σ H fun J H1=>∀acc,H1 acc=none->CompW J acc g tt te (vI bs n σ) H1 Q
def PTs (X:Cx) (ifs:List Expr) (t:TT):Prop :=
 ∀(pins:List (Addr×Obj)) (s:Shared) (σ:St) (H:Hp) (Q:Bool->Hp->Prop),Inv X pins σ H s->t σ H Q ->
  wpAny (model X.prog X.w) X.A (forIn ifs true fun c r=>if r=true then do let ok <-isTrue c X.env (eval c X.env); pure (ForInStep.yield ok) else pure (ForInStep.yield r)) (TP X pins σ Q) X.xe s
def tYes:TT:=fun _ H Q=>Q true H
theorem pts_nil {X:Cx}:PTs X [] tYes:=fun _ _ _ H _ I h=>wpAny_tests_nil ⟨H,I,h⟩
theorem pts_one {X:Cx} {c:Expr} {t:TT} (h:PT X c t):PTs X [c] t:=fun pins s σ H Q I q=>wpAny_tests_one (h pins s σ H Q I q)
structure CompS (X:Cx) (scope:Scope) (cl:List (Str×Addr)) (bs:List Bool) (ext:List Str):Prop where
 clos:closureFor scope X.env=pure cl
 cell:∀y∈scope.names,y.2 ≠ .cell
 kind:scope.kind=.function
 names:∀y∈scope.names,y.2=.local->scope.names.lookup y.1=some .local
 sub:∀x c,cl.lookup x=some c->X.env.cells.lookup x=some c
 has:∀x,((relabel scope X.env).names.lookup x=some .cell\/(relabel scope X.env).names.lookup x=some .free)->∃c,cl.lookup x=some c
 len:bs.length=X.N.length
 vis:∀(i:Nat) x,X.N[i]?=some x->bs[i]?=some true->Vis (relabel scope X.env) x->(relabel scope X.env).names.lookup x≠some .local/\(X.env.kindOf x=some .cell\/X.env.kindOf x=some .free)/\Vis X.env.scope x
theorem Xw {bs:List Bool} {n:Nat} {σ:St} (h:bs.length=σ.length):(vI bs n σ).length=σ.length+n:=by
 unfold vI; simp[h]
theorem Xx {bs:List Bool} {n:Nat} {σ:St} (h:bs.length=σ.length) {i:Nat} {v:V} (e:(vI bs n σ)[i]?=some (some v)):i<σ.length/\bs[i]?=some true/\σ[i]?=some (some v):=by
 unfold vI at e
 by_cases hi:i<σ.length
 ·rw[List.getElem?_append_left (by simp[h]; exact hi),List.getElem?_map] at e
  have hb:i<bs.length:=by omega
  rw[List.getElem?_eq_getElem (by simp[h]; exact hi)] at e
  simp only[List.getElem_zip,Option.map_some] at e
  split at e
  ·rename_i hb2
   refine⟨hi, ?_, ?_⟩
   ·rw[List.getElem?_eq_getElem hb]; rw[hb2]
   ·rw[List.getElem?_eq_getElem hi]; exact e
  ·cases e
 ·rw[List.getElem?_append_right (by simp[h]; omega),List.getElem?_replicate] at e
  split at e<;>cases e
section
variable {X:Cx} {pins:List (Addr×Obj)} {σ:St} {H:Hp} {s:Shared}
theorem cxC_ok {scope:Scope} {cl:List (Str×Addr)} {bs:List Bool} {ext:List Str} {fp:List Addr} (S:CompS X scope cl bs ext) (I:Inv X pins σ H s) (hf:∀b∈fp,FpOk X pins H b) (hfs:∀b∈fp,b<s.heap.objs.size) :
  (cxC X scope cl (X.N++ext) fp s H).Ok where
 mod:=I.ok.mod
 kind:=S.kind
 glob:=I.ok.glob
 blt:=I.ok.blt
 above:=Nat.le_refl _
 inj:=fun x y c a b=>I.ok.inj x y c (S.sub x c a) (S.sub y c b)
 has:=S.has
 cab:=fun x c h=>nomatch h
 hd:=I.ok.hd
 frames:=I.ok.frames
 stk:=.inl rfl
 exf:=fun b hb=>⟨Nat.ne_of_lt (hfs b hb),fun x c e=>(hf b hb).2.2.2.2.1 x c (S.sub x c e)⟩
 bs:=I.bs
 bsz:=Nat.le_trans I.ok.bsz I.sz
 noex:=fun b o e hb=>by
  rcases(hf b hb).2.2.2.1 with z|z
  ·exact I.ok.noex b o e z
  ·exact absurd (Nat.lt_of_lt_of_le (Nat.lt_of_lt_of_le (Heap.lt_size e) I.ok.bsz) z) (Nat.lt_irrefl _)
 exfs:=fun b hb z=>by
  rcases List.mem_cons.mp (I.stkSub b z) with q|q
  ·exact(hf b hb).2.1 q
  ·exact(hf b hb).2.2.1 q
 funs:=I.stack
 frf:=I.stkFree
theorem X9 {scope:Scope} {cl:List (Str×Addr)} {bs:List Bool} {ext:List Str} {fp:List Addr} {h1:Heap} {t':Nat} (S:CompS X scope cl bs ext) (I:Inv X pins σ H s) (hf:∀b∈fp,FpOk X pins H b) (hfs:∀b∈fp,b<s.heap.objs.size)
  (hn:h1.Ns s.heap.objs.size (fun _=>none)) (k:∀b o,s.heap.get? b=some o->h1.get? b=some o) :
  Inv (cxC X scope cl (X.N++ext) fp s H) [] (vI bs ext.length σ) H { s with heap:=h1,toks:=t' }:=by
 have hl:bs.length=σ.length:=S.len.trans I.len.symm
 have cellk:∀c v,s.heap.IsCell c v->h1.IsCell c v:=fun c v ⟨o,ho,hd⟩=>⟨o,k c o ho,hd⟩
 refine⟨cxC_ok S I hf hfs,rfl,I.bare,Un.kept k,⟨_,hn,fun i x v e1 e2 e3=>?_⟩,fun x c e=>?_,I.hok.fresh (Nat.le_refl _),fun x c e=>I.freeC x c (S.sub x c e),fun p hp=>absurd hp (by simp[cxC]),I.hok.kept k, ?_⟩
 ·obtain⟨hi,hb,hs⟩:=Xx hl e2
  have e1':X.N[i]?=some x:=by
   have e1'':(X.N++ext)[i]?=some x:=e1
   rwa [List.getElem?_append_left (by have:=I.len; omega)] at e1''
  obtain⟨nl,kk,vv⟩:=S.vis i x e1' hb e3
  obtain⟨m,_,hloc⟩:=I.loc
  obtain⟨u,r,l⟩:=hloc i x v e1' hs vv
  refine⟨u,r, .inr ⟨?_, ?_⟩⟩
  ·rcases e3 with z|z|z
   ·exact absurd z nl
   ·exact .inl z
   ·exact .inr z
  ·have hc:=S.has x (by
    rcases e3 with z|z|z
    ·exact absurd z nl
    ·exact .inl z
    ·exact .inr z)
   obtain⟨c,hc⟩:=hc
   rcases l with⟨kl,_⟩|⟨_,c',hc',hcell⟩
   ·rcases kk with z|z<;>(rw[kl] at z; cases z)
   ·rw[S.sub x c hc] at hc'
    cases hc'
    exact⟨c,hc,cellk c _ hcell⟩
 ·obtain⟨v,z⟩:=I.cell x c (S.sub x c e)
  exact⟨v,cellk c v z⟩
 ·rw[Xw hl,I.len]; show _=(X.N++ext).length; simp
theorem Ja {scope:Scope} {cl:List (Str×Addr)} {ext:List Str} {fp:List Addr} {σ':St} {H':Hp} {s':Shared} {h':Heap} {pins':List (Addr×Obj)} (I:Inv X pins σ H s) (hf:∀b∈fp,FpOk X pins H b)
  (J:Inv (cxC X scope cl (X.N++ext) fp s H) pins' σ' H' s') (sb:Heap.SameBut s.heap.objs.size s'.heap h'):Inv X pins σ H' { s' with heap:=h' }:=by
 have B:Un (frs X.stack) fp H H' s.heap s'.heap:=J.base
 have nC:∀b o,s.heap.get? b=some o->b≠s.heap.objs.size:=fun b o e=>Nat.ne_of_lt (Heap.lt_size e)
 refine I.call' (ch:=fp) (s':={ s' with heap:=h' }) J.os ⟨fun b o e n hb hx=>?_,fun b o e n hb hx=>?_,fun b o e n hx=>B.free b o e n hx,fun b o e hx=>?_,B.tups,B.frzs,B.tbls⟩ ?_ J.bare fun b hb=>⟨(hf b hb).2.2.2.1,(hf b hb).2.1,(hf b hb).2.2.2.2.1,(hf b hb).2.2.2.2.2⟩
 ·exact sb.extBut b o (nC b o e) (B.keep b o e n hb hx)
 ·obtain⟨sl,q⟩:=B.slot b o e n hb hx
  exact⟨sl,sb.extBut b _ (nC b o e) q⟩
 ·obtain⟨o',q⟩:=B.there b o e hx
  exact⟨o',sb.extBut b o' (nC b o e) q⟩
 ·intro a o e
  have fr:H' s.heap.objs.size=none:=J.free
  refine(J.hok a o e).stay (fun b u hb q=>sb.extBut b u ?_ q) (fun _ q=>q) fun _ _ q=>q
  rcases hb with z|z
  ·subst z; intro z; rw[z,fr] at e; cases e
  ·intro z2; rw[z2,fr] at z; cases z
end
section
variable {X:Cx} {elt tg iter:Expr} {ifs:List Expr} {scope:Scope} {cl:List (Str×Addr)} {bs:List Bool} {ext:List Str} {pos:Pos} {wi:TI} {g:TG} {tt:TT} {te:TE}
theorem Vy {use:Option (Value->Sem Unit)} {pins:List (Addr×Obj)} {s:Shared} {σ:St} {H:Hp} {Q:VK} {RR:Value->Shared->Prop} (S:CompS X scope cl bs ext) (hc:X.calm=true) (hi:PI X tg iter wi)
  (hg:∀fp s H,PG (cxC X scope cl (X.N++ext) fp s H) tg g) (ht:∀fp s H,PTs (cxC X scope cl (X.N++ext) fp s H) ifs tt) (he:∀fp s H,PE (cxC X scope cl (X.N++ext) fp s H) elt te)
  (hs:∀x,foldedSetIterable iter X.env x=pure x) (I:Inv X pins σ H s) (h:zn wi bs ext.length g tt te σ H Q) (ep:Pos)
  (hend:∀(acc:Addr) (s2:Shared) (H2:Hp) (fp:List Addr) (σ':St) (H':Hp) (s':Shared),Inv X pins σ H2 s2->(∀b∈fp,FpOk X pins H2 b)->Inv (cxC X scope cl (X.N++ext) fp s2 H2) [] σ' H' s'->Q (.ref acc) H' ->
   compPost (model X.prog X.w) X.A X.xe use RR (.ref acc) s2.heap.objs.size (.ok .next) s') :
  wpAny (model X.prog X.w) X.A (comprehension (.ListComp elt [⟨tg,iter,ifs,0⟩] scope pos) scope X.env ep (newList []) false (eval iter X.env) use) RR X.xe s:=by
 refine wpAny_comprehension_free (use:=use) rfl hs S.clos S.kind S.names (thn (hi pins s σ H _ I h) fun v s1 h1=>thn h1 fun itv s2 h2=>?_)
 obtain⟨it,fp,tn,J,H2,e,I2,T,st2,f2,hW⟩:=h2
 subst e
 refine wpAny_newList ?_ (by decide)
 have hn2:H2 s2.heap.objs.size=none:=I2.hok.fresh (Nat.le_refl _)
 obtain⟨W,⟨m0,w0⟩,turn⟩:=hW s2.heap.objs.size hn2
 have I3:=I2.lnew (its:=[]) (ys:=[]) (t':=s2.toks) .nil (Nat.zero_le _)
 generalize hs3:({ s2 with heap:=s2.heap.push { cls:=.type "list", data:=.seq ([]:List Value).toArray },toks:=s2.toks }:Shared)=s3 at I3
 have hsz3:s3.heap.objs.size=s2.heap.objs.size+1:=by rw[<-hs3]; exact Heap.size_push ..
 have k3:∀b o,s2.heap.get? b=some o->s3.heap.get? b=some o:=fun b o e=>by rw[<-hs3]; exact Heap.get?_push_of_some _ e
 have fpo:∀b∈fp,b<s2.heap.objs.size:=fun b hb=>by obtain⟨o,e,_⟩:=T.obj _ _ st2 b hb; exact Heap.lt_size e
 have f3:∀b∈fp,FpOk X pins (upd H2 s2.heap.objs.size (.lst [])) b:=fun b hb=>⟨by rw[upd_ne (Nat.ne_of_lt (fpo b hb))]; exact(f2 b hb).1,(f2 b hb).2⟩
 have fps:∀b∈fp,b<s3.heap.objs.size:=fun b hb=>by rw[hsz3]; exact Nat.lt_succ_of_lt (fpo b hb)
 have st3:tn 0 s3.heap:=T.keep _ _ _ st2 fun b hb o e=>k3 b o e
 refine wpAny_newFunctionEnv S.cell (by intro y hy; simp at hy) (fun h4 hns4 hsb4=>?_) S.kind
 have k4:∀b o,s3.heap.get? b=some o->h4.get? b=some o:=fun b o e=>hsb4.extBut b o (Nat.ne_of_lt (Heap.lt_size e)) (Heap.get?_push_of_some _ e)
 have I4:=X9 (ext:=ext) (t':=s3.toks+([]:List (Str×Value)).length) S I3 f3 fps (h1:=h4) hns4 k4
 have st4:tn 0 h4:=T.keep _ _ _ st3 fun b hb o e=>k4 b o e
 generalize hs4:({ s3 with heap:=h4,toks:=s3.toks+([]:List (Str×Value)).length }:Shared)=s4 at I4 ⊢
 have st4':tn 0 s4.heap:=by rw[<-hs4]; exact st4
 -- the block
 generalize hY:cxC X scope cl (X.N++ext) fp s3 (upd H2 s2.heap.objs.size (.lst []))=Y at I4
 have hYs:∀{H':Hp},(∀b∈fp,H' b=none)->∀b∈fp,FpOk Y [] H' b:=fun hn b hb=>by
  subst hY
  refine⟨hn b hb,Nat.ne_of_lt (fps b hb),fun z=>?_, .inl hb,fun x c e=>(f3 b hb).2.2.2.2.1 x c (S.sub x c e),fun p hp=>absurd hp (by simp[cxC])⟩
  rcases List.mem_cons.mp (I3.stkSub b z) with q|q
  ·exact(f3 b hb).2.1 q
  ·exact(f3 b hb).2.2.1 q
 have hgY:PG Y tg g:=by subst hY; exact hg _ _ _
 have htY:PTs Y ifs tt:=by subst hY; exact ht _ _ _
 have heY:PE Y elt te:=by subst hY; exact he _ _ _
 have hYc:Y.calm=true:=by subst hY; exact hc
 have hYm:Y.prog=X.prog/\Y.w=X.w/\Y.K=X.K/\Y.A=X.A/\Y.env=compEnvC scope cl s3.heap.objs.size X.env/\Y.xe=fun _ _=>False:=by subst hY; exact⟨rfl,rfl,rfl,rfl,rfl,rfl⟩
 obtain⟨e1,e2,e3,e4,e5,e6⟩:=hYm
 have never:∀{α:Type} {t:Sem α} {Q:α->Shared->Prop} {s:Shared} {E:Value->Shared->Prop},wpAny (model Y.prog Y.w) Y.A t Q Y.xe s->wpAny (model X.prog X.w) X.A t Q E s:=fun {α t Q s E} q=>by
  rw[e1,e2,e4,e6] at q
  exact wpAny_mono q (fun _ _ z=>z) fun _ _ z=>z.elim
 have loop:codeAny (model X.prog X.w) X.A (.compLoop (.ListComp elt [⟨tg,iter,ifs,0⟩] scope pos) 0 (.ref it) (.ref s2.heap.objs.size) (compEnvC scope cl s3.heap.objs.size X.env))
   (compPost (model X.prog X.w) X.A X.xe use RR (.ref s2.heap.objs.size) s3.heap.objs.size) s4:=by
  refine codeAny_loop rfl (fun n s'=>∃i H',Inv Y [] (vI bs ext.length σ) H' s'/\tn i s'.heap/\(∀b∈fp,H' b=none)/\W i n H') (fun n s5 hI=>?_) m0 ⟨0,_,I4,st4',fun b hb=>(f3 b hb).1,w0⟩
  obtain⟨i,H5,I5,st5,fr5,w5⟩:=hI
  show wpAny _ X.A ((compTurn (.ListComp elt [⟨tg,iter,ifs,0⟩] scope pos) 0 (.ref it) (.ref s2.heap.objs.size) (compEnvC scope cl s3.heap.objs.size X.env)).onRaise (fun x=>do noteFrame x (compEnvC scope cl s3.heap.objs.size X.env); theTreesLotGoes x)) _ _ s5
  refine wpAny_noted ?_
  rw[compTurn_list]
  rcases turn i n H5 w5 with⟨stop,qn⟩|⟨go,N,hN,step⟩
  ·refine wpAny_bind (wpAny_standAt (wpAny_bind ?_))
   have hd:=T.done Y e1 e2 e3 hYc i [] s5 _ H5 (fun _ _=>False) I5 (hYs fr5) st5 stop
   rw[e4] at hd
   refine wpAny_mono hd (fun r s6 ⟨hr,I6⟩=>?_) fun _ _ z=>z.elim
   subst hr
   subst hY
   exact wpAny_pure (hend s2.heap.objs.size s3 _ fp _ H5 s6 I3 f3 I6 qn)
  ·refine wpAny_bind (wpAny_standAt (wpAny_bind ?_))
   have hd:=T.item Y e1 e2 e3 hYc i [] s5 _ H5 (fun _ _=>False) I5 (hYs fr5) st5 go
   rw[e4] at hd
   refine wpAny_mono hd (fun r s6 ⟨u,hr,h6⟩=>?_) fun _ _ z=>z.elim
   subst hr
   refine wpAny_bind (wpAny_mono h6 (fun _ s7 ⟨x,H7,I7,r7,y7,st7,fr7⟩=>?_) fun _ _ z=>z.elim)
   have I7':=I7.pinned (hYs fr7) (T.obj _ _ st7)
   rw[<-e5]
   refine wpAny_bind (never (thn (hgY _ s7 _ H7 x u _ I7' r7 (step x H7 y7)) fun _ s8 ⟨σ8,H8,I8,⟨hx8,hl8⟩,q8⟩=>?_))
   refine wpAny_bind (never (thn (htY _ s8 σ8 H8 _ I8 q8) fun b s9 ⟨H9,I9,q9⟩=>?_))
   have again:∀{H10:Hp} {s10:Shared} {m':Nat},Inv Y ([]++km fp s7.heap) σ8 H10 s10->m'<n->W (i+1) m' H10->∃m,m<n/\∃i H',Inv Y [] (vI bs ext.length σ) H' s10/\tn i s10.heap/\(∀b∈fp,H' b=none)/\W i m H':=fun {H10 s10 m'} I10 hm w10=>by
    refine⟨m',hm,i+1,H10,(I10.unpinned).weak hl8.symm hx8,T.keep _ _ _ st7 fun b hb o e=>(I10.pin (b,o) (List.mem_append_right _ (List.mem_append_right _ (ze hb e)))).1,fun b hb=>?_,w10⟩
    obtain⟨o,e,d⟩:=T.obj _ _ st7 b hb
    exact(I10.pin (b,o) (List.mem_append_right _ (List.mem_append_right _ (ze hb e)))).2.1
   cases b with
   |false =>
    rw[if_neg Bool.false_ne_true] at q9
    obtain⟨m',hm,w9⟩:=hN _ q9
    exact wpAny_pure ⟨by rw[e5],again I9 hm w9⟩
   |true =>
    rw[if_pos rfl] at q9
    refine wpAny_bind (wpAny_bind (never (thn (heY _ s9 σ8 H9 _ I9 q9) fun xv s10 ⟨y,H10,I10,r10,ys,hys,hz,n10⟩=>?_)))
    obtain⟨m',hm,w10⟩:=hN _ n10
    refine wpAny_bind (never (thn (zy (X:=Y) _ s10 σ8 H10 (.ref s2.heap.objs.size) [y] (.ref s2.heap.objs.size) [xv] (fun _ H=>∃m',m'<n/\W (i+1) m' H) I10 rfl (.cons r10 .nil) ⟨_,ys,y,rfl,rfl,hys,hz,m',hm,w10⟩) fun _ s11 ⟨_,H11,I11,_,m2,hm2,w11⟩=>?_))
    exact wpAny_pure (wpAny_pure ⟨by rw[e5],again I11 hm2 w11⟩)
 exact codeAny_compStart_list loop (T.self X.A 0 s4 _ _ st4' loop)
theorem pe_comp (S:CompS X scope cl bs ext) (hc:X.calm=true) (hi:PI X tg iter wi)
  (hg:∀fp s H,PG (cxC X scope cl (X.N++ext) fp s H) tg g) (ht:∀fp s H,PTs (cxC X scope cl (X.N++ext) fp s H) ifs tt) (he:∀fp s H,PE (cxC X scope cl (X.N++ext) fp s H) elt te)
  (hs:∀x,foldedSetIterable iter X.env x=pure x:=by intro _; rfl):PE X (.ListComp elt [⟨tg,iter,ifs,0⟩] scope pos) (zn wi bs ext.length g tt te):=by
 intro pins s σ H Q I h
 rw[eval_ListComp]
 refine Vy (use:=none) S hc hi hg ht he hs I h _ fun acc s2 H2 fp σ' H' s' I2 f2 J q=>?_
 obtain⟨m,hn,_⟩:=J.loc
 exact⟨m,hn,fun h' sb=>⟨.ref acc,H',Ja I2 f2 J sb,rfl,q⟩⟩
theorem ps_comp {i:Nat} {x:Str} {pos' spos:Pos} (S:CompS X scope cl bs ext) (hc:X.calm=true) (hN:X.N.Nodup) (hix:X.N[i]?=some x) (hx:X.env.scope.names.lookup x=some .local) (hi:PI X tg iter wi)
  (hg:∀fp s H,PG (cxC X scope cl (X.N++ext) fp s H) tg g) (ht:∀fp s H,PTs (cxC X scope cl (X.N++ext) fp s H) ifs tt) (he:∀fp s H,PE (cxC X scope cl (X.N++ext) fp s H) elt te)
  (hsw:swapsWith (.ListComp elt [⟨tg,iter,ifs,0⟩] scope pos) (some (.Name x pos')) spos.line X.env=pure true)
  (hs:∀x,foldedSetIterable iter X.env x=pure x:=by intro _; rfl):PS X (.Assign [.Name x pos'] (.ListComp elt [⟨tg,iter,ifs,0⟩] scope pos) spos) (tAsg (zn wi bs ext.length g tt te) (qt i)):=by
 intro pins s σ H D I h
 rw[exec_Assign_Name_used _ _ _ _ hsw]
 refine wpAny_bind (wpAny_standAt (wpAny_bind ?_))
 show wpAny _ X.A (do let _ <-comprehension (.ListComp elt [⟨tg,iter,ifs,0⟩] scope pos) scope X.env _ (newList []) false (eval iter X.env) (some (assign (.Name x pos') X.env))) _ _ s
 refine wpAny_bind (wpAny_mono (Vy (use:=some (assign (.Name x pos') X.env)) (RR:=fun _ s'=>SP X pins D .next s') S hc hi hg ht he hs I h _ fun acc s2 H2 fp σ' H' s' I2 f2 J q=>?_) (fun _ s' hq=>wpAny_pure (wpAny_pure hq)) fun _ _ e=>e)
 have I5:Inv X pins σ H' s':=by
  have:=Ja (h':=s'.heap) I2 f2 J (.refl ..)
  exact this
 show wpAny _ X.A (assign (.Name x pos') X.env (.ref acc)) _ _ s'
 obtain⟨m,hn,_⟩:=J.loc
 have hCL:s2.heap.objs.size≠X.env.locals:=Nat.ne_of_gt I2.lt
 have nC:∀b o,s2.heap.get? b=some o->b≠s2.heap.objs.size:=fun b o e=>Nat.ne_of_lt (Heap.lt_size e)
 have cC:∀y c,X.env.cells.lookup y=some c->c≠s2.heap.objs.size:=fun y c e=>by
  obtain⟨v,o,ho,_⟩:=I2.cell y c e
  exact nC c o ho
 refine wpAny_assign_Name (kb I5 hN hix (.inl hx) (v:=.ref acc) rfl (fun s6 I6 k6=>?_) (.inr hx))
 obtain⟨a,sb6,ha⟩:=k6
 have haC:a≠s2.heap.objs.size:=by
  rcases ha with z|z
  ·rw[z]; exact hCL.symm
  ·exact cC x a z
 refine⟨m,hn.sameBut sb6 haC.symm,fun h' sb=>?_⟩
 refine⟨_,H',I6.turned (t':=s6.toks) (it:=s2.heap.objs.size) (fun b o hb e=>sb.extBut b o hb e) ?_ hCL (.inr (Nat.le_trans I2.ok.above (Nat.le_of_lt I2.lt))) cC fun p hp=>?_,q⟩
 ·have fr:H' s2.heap.objs.size=none:=J.free
  exact fr
 ·exact nC p.1 p.2 (I2.pin p hp).1
end
theorem Jc {K:PySem.W.Frag} {a acc:Addr} {xs:List V} {g:TG} {tt:TT} {te:TE} {σ0:St} {H1:Hp} {Q:VK} (Pv:Nat->Hp->Prop) (h0:Pv 0 (upd H1 acc (.lst []))) (hl:∀i H,i<=xs.length->Pv i H->SqL K H a xs)
  (hs:∀i x H,xs[i]?=some x->Pv i H->g x σ0 H fun σ4 H4=>(ExtS σ0 σ4/\σ4.length=σ0.length)/\tt σ4 H4 fun b H5 =>
   if b=true then te σ4 H5 fun v H6=>∃ys,H6 acc=some (.lst ys)/\ys.length<sizeLine/\Pv (i+1) (upd H6 acc (.lst (ys++[v]))) else Pv (i+1) H5)
  (hd:∀H,Pv xs.length H->Q (.ref acc) H):CompW (Itl K a) acc g tt te σ0 H1 Q:=by
 refine⟨fun i m H=>m=xs.length-i/\i<=xs.length/\Pv i H,⟨xs.length,by simp,Nat.zero_le _,h0⟩, ?_⟩
 rintro i m H ⟨rfl,hi,p⟩
 have q:=hl i H hi p
 by_cases hlt:i<xs.length
 ·refine .inr ⟨⟨xs,xs[i],q,by simp[hlt]⟩,Pv (i+1),fun H' p'=>⟨xs.length-(i+1),by omega,rfl,hlt,p'⟩,fun x H' y=>?_⟩
  obtain⟨e,y⟩:=y
  subst e
  exact hs i x _ (y xs q) p
 ·have e:i=xs.length:=by omega
  subst e
  exact .inl ⟨⟨xs,q,Nat.le_refl _⟩,hd H p⟩
def clOf (env:Env):List (Str×NameKind)->List (Str×Addr)->List (Str×Addr)
 | [],cs=>cs
 | (n,k)::r,cs=>clOf env r (if(k==NameKind.free)=true then(n,(env.cells.lookup n).getD 0)::cs else cs)
theorem clos_eq {env:Env} (scope:Scope) (h:∀p∈scope.names,p.2=.free->∃c,env.cells.lookup p.1=some c):closureFor scope env=pure (clOf env scope.names []):=by
 unfold closureFor
 generalize([]:List (Str×Addr))=cs0
 generalize scope.names=ns at h
 have key:∀(ns:List (Str×NameKind)) (cs:List (Str×Addr)),(∀p∈ns,p.2=.free->∃c,env.cells.lookup p.1=some c) ->
   (forIn ns cs fun(x:Str×NameKind) (r:List (Str×Addr))=>(match x with|(name,kind)=>if(kind==NameKind.free)=true then do let c <-cellOf env name; pure (ForInStep.yield ((name,c)::r)) else pure (ForInStep.yield r):Sem (ForInStep (List (Str×Addr)))))=pure (clOf env ns cs):=by
  intro ns
  induction ns with
  |nil=>intro cs _; rfl
  |cons p r ih =>
   intro cs hp
   obtain⟨n,k⟩:=p
   rw[List.forIn_cons]
   by_cases hk:(k==NameKind.free)=true
   ·obtain⟨c,hc⟩:=hp (n,k) List.mem_cons_self (by simpa using hk)
    have hcell:cellOf env n=pure c:=by unfold cellOf; rw[hc]
    simp only[hk,if_true,hcell,pure_bind]
    rw[ih _ fun q hq=>hp q (List.mem_cons_of_mem _ hq)]
    have hc':List.lookup n env.cells=some c:=hc
    simp[clOf,hk,hc']
   ·simp only[hk,Bool.false_eq_true,if_false,pure_bind]
    rw[ih _ fun q hq=>hp q (List.mem_cons_of_mem _ hq)]
    simp[clOf,hk]
 have:=key ns cs0 h
 rw[show(do
   let mut cs:=cs0
   for (name,kind) in ns do
    if kind == .free then cs:=(name, <-cellOf env name)::cs
   return cs:Sem (List (Str×Addr)))=(forIn ns cs0 fun(x:Str×NameKind) (r:List (Str×Addr))=>(match x with|(name,kind)=>if(kind==NameKind.free)=true then do let c <-cellOf env name; pure (ForInStep.yield ((name,c)::r)) else pure (ForInStep.yield r):Sem (ForInStep (List (Str×Addr))))) >>= pure from rfl]
 rw[this,pure_bind]
theorem Vz {env:Env}:∀(ns:List (Str×NameKind)) (cs:List (Str×Addr)),(∀p∈ns,p.2=.free->∃c,env.cells.lookup p.1=some c)->(∀x c,cs.lookup x=some c->env.cells.lookup x=some c)->∀x c,(clOf env ns cs).lookup x=some c->env.cells.lookup x=some c
 | [],cs,_,h,x,c,e=>h x c e
 | (n,k)::r,cs,hp,h,x,c,e=>by
  refine Vz r _ (fun q hq=>hp q (List.mem_cons_of_mem _ hq)) (fun y d e'=>?_) x c e
  split at e'
  ·rename_i hk
   obtain⟨c',hc⟩:=hp (n,k) List.mem_cons_self (by simpa using hk)
   rw[List.lookup_cons] at e'
   have hc':List.lookup n env.cells=some c':=hc
   rw[hc'] at e'
   split at e'
   ·rename_i hy
    have hy':y=n:=by simpa using hy
    subst hy'
    rw[<-e']; exact hc'
   ·exact h y d e'
  ·exact h y d e'
theorem VA {env:Env}:∀(ns:List (Str×NameKind)) (cs:List (Str×Addr)) (x:Str),((x,NameKind.free)∈ns\/∃c,cs.lookup x=some c)->∃c,(clOf env ns cs).lookup x=some c
 | [],cs,x,h=>by
  rcases h with h|h
  ·cases h
  ·exact h
 | (n,k)::r,cs,x,h=>by
  refine VA r _ x ?_
  rcases h with h|⟨c,h⟩
  ·rcases List.mem_cons.mp h with h|h
   ·injection h with h1 h2
    subst h1 h2
    right
    exact⟨_,by simp[List.lookup_cons]; rfl⟩
   ·exact .inl h
  ·right
   split
   ·rw[List.lookup_cons]
    split
    ·exact⟨_,rfl⟩
    ·exact⟨c,h⟩
   ·exact⟨c,h⟩
def zO (scope:Scope) (env:Env) (N:List Str) (bs:List Bool):Bool :=
 scope.names.all (fun p=>p.2 != .cell)&&(scope.kind == .function)&&scope.names.all (fun p=>p.2 != .local||scope.names.lookup p.1==some .local)&&(bs.length==N.length)
  && scope.names.all (fun p=>p.2 != .free||(env.kindOf p.1==some .cell||env.kindOf p.1==some .free))&&(N.zip bs).all (fun p => !p.2||scope.names.lookup p.1==some .free)
theorem mem_of_lookup {β:Type} {x:Str} {b:β}:∀{l:List (Str×β)},l.lookup x=some b->(x,b)∈l
 | [],h=>by simp at h
 | (y,c)::r,h=>by
  rw[List.lookup_cons] at h
  split at h
  ·rename_i hy
   have:x=y:=by simpa using hy
   subst this; cases h; exact List.mem_cons_self
  ·exact List.mem_cons_of_mem _ (mem_of_lookup h)
theorem vd {env:Env}:∀{names:List (Str×NameKind)} {x:Str} {k:NameKind},
  (names.map fun(n,k)=>if(k==NameKind.free&&env.scope.kind == .function&&env.kindOf n==some .cell) then(n,NameKind.cell) else(n,k)).lookup x=some k->names.lookup x=some k\/(k=.cell/\names.lookup x=some .free)
 | [],_,_,h=>by simp at h
 | (n,k')::r,x,k,h=>by
  have ih:=@vd env r x k
  have h':List.lookup x ((if(k'==NameKind.free&&env.scope.kind == .function&&env.kindOf n==some .cell)=true then(n,NameKind.cell) else(n,k'))::(r.map fun(n,k)=>if(k==NameKind.free&&env.scope.kind == .function&&env.kindOf n==some .cell) then(n,NameKind.cell) else(n,k)))=some k:=h
  by_cases hc:(k'==NameKind.free&&env.scope.kind == .function&&env.kindOf n==some .cell)=true
  ·rw[if_pos hc,List.lookup_cons] at h'
   rw[List.lookup_cons]
   have hf:k'=.free:=by
    cases k'<;>first|rfl|(exfalso; revert hc; simp)
   split at h'
   ·right
    injection h' with h'
    rw[hf]
    exact⟨h'.symm,rfl⟩
   ·exact ih h'
  ·rw[if_neg hc,List.lookup_cons] at h'
   rw[List.lookup_cons]
   split at h'
   ·exact .inl h'
   ·exact ih h'
theorem CompS.of {X:Cx} {scope:Scope} {bs:List Bool} {ext:List Str} {pins:List (Addr×Obj)} {σ:St} {H:Hp} {s:Shared} (I:Inv X pins σ H s) (h:zO scope X.env X.N bs=true):CompS X scope (clOf X.env scope.names []) bs ext:=by
 unfold zO at h
 simp only[Bool.and_eq_true,List.all_eq_true] at h
 obtain⟨⟨⟨⟨⟨h1,h2⟩,h3⟩,h4⟩,h5⟩,h6⟩:=h
 have hc:∀p∈scope.names,p.2=.free->∃c,X.env.cells.lookup p.1=some c:=fun p hp hf=>by
  have:=h5 p hp
  rw[hf] at this
  refine I.ok.has p.1 ?_
  simpa using this
 have nocell:∀{x:Str},scope.names.lookup x≠some .cell:=fun {x} e=>by
  have:=h1 _ (mem_of_lookup e)
  simp at this
 refine⟨clos_eq scope hc,fun y hy=>by simpa using h1 y hy,by simpa using h2,fun y hy hl=>?_,fun x c e=>Vz scope.names [] hc (fun _ _ z=>by simp at z) x c e,fun x hx=>?_,by simpa using h4,fun i x hN hb hv=>?_⟩
 ·have:=h3 y hy
  rw[hl] at this
  simpa using this
 ·refine VA scope.names [] x (.inl ?_)
  rcases hx with hx|hx
  ·rcases vd hx with z|⟨_,z⟩
   ·exact absurd z nocell
   ·exact mem_of_lookup z
  ·rcases vd hx with z|⟨z,_⟩
   ·exact mem_of_lookup z
   ·cases z
 ·have hz:(x,true)∈X.N.zip bs:=by
   have:(X.N.zip bs)[i]?=some (x,true):=by
    rw[List.getElem?_zip_eq_some]; exact⟨hN,hb⟩
   exact List.mem_of_getElem? this
  have hf:=h6 _ hz
  have hf:scope.names.lookup x=some .free:=by simpa using hf
  have hk:=h5 _ (mem_of_lookup hf)
  have hk:X.env.kindOf x=some .cell\/X.env.kindOf x=some .free:=by simpa using hk
  refine⟨fun z=>?_,hk, ?_⟩
  ·rcases vd z with q|⟨q,_⟩
   ·rw[hf] at q; cases q
   ·cases q
  ·rcases hk with q|q
   ·exact .inr (.inl q)
   ·exact .inr (.inr q)
section
variable {X:Cx} {elt tg iter:Expr} {ifs:List Expr} {scope:Scope} {bs:List Bool} {ext:List Str} {pos:Pos} {wi:TI} {g:TG} {tt:TT} {te:TE}
abbrev cxB (X:Cx) (scope:Scope) (ext:List Str) (fp:List Addr) (s:Shared) (H:Hp):Cx:=cxC X scope (clOf X.env scope.names []) (X.N++ext) fp s H
theorem pe_lc (bs:List Bool) (ext:List Str) (hi:PI X tg iter wi) (hg:∀fp s H,PG (cxB X scope ext fp s H) tg g) (ht:∀fp s H,PTs (cxB X scope ext fp s H) ifs tt) (he:∀fp s H,PE (cxB X scope ext fp s H) elt te)
  (hk:zO scope X.env X.N bs=true:=by rfl) (hc:X.calm=true:=by rfl) (hs:∀x,foldedSetIterable iter X.env x=pure x:=by intro _; rfl) :
  PE X (.ListComp elt [⟨tg,iter,ifs,0⟩] scope pos) (zn wi bs ext.length g tt te):=fun pins s σ H Q I h=>pe_comp (CompS.of I hk) hc hi hg ht he hs pins s σ H Q I h
theorem ps_lc {i:Nat} {x:Str} {pos' spos:Pos} (bs:List Bool) (ext:List Str) (hN:X.N.Nodup) (hix:X.N[i]?=some x) (hx:X.env.scope.names.lookup x=some .local) (hi:PI X tg iter wi) (hg:∀fp s H,PG (cxB X scope ext fp s H) tg g) (ht:∀fp s H,PTs (cxB X scope ext fp s H) ifs tt) (he:∀fp s H,PE (cxB X scope ext fp s H) elt te)
  (hk:zO scope X.env X.N bs=true:=by rfl) (hc:X.calm=true:=by rfl)
  (hsw:swapsWith (.ListComp elt [⟨tg,iter,ifs,0⟩] scope pos) (some (.Name x pos')) spos.line X.env=pure true:=by rfl) (hs:∀x,foldedSetIterable iter X.env x=pure x:=by intro _; rfl) :
  PS X (.Assign [.Name x pos'] (.ListComp elt [⟨tg,iter,ifs,0⟩] scope pos) spos) (tAsg (zn wi bs ext.length g tt te) (qt i)):=fun pins s σ H D I h=>ps_comp (CompS.of I hk) hc hN hix hx hi hg ht he hsw hs pins s σ H D I h
end
def CDivB (i j:Int):Prop:=0<j/\j.natAbs.log2<9000
theorem noPyl {i j:Int} (h:CDivB i j):Builtin.divisionGoesByPylong i j=false:=PyProof.noPylong_of_log2 h.2
theorem Vl {X:Cx}:OpR X (binaryOp .FloorDiv) (rI CDivB fun i j=>.int (i / j)):=opI fun i j _ _ _ _ _ hc q=>by
 refine floordiv_int (by have:=hc.1; omega) ?_ (.inl (noPyl hc))
 rw[Int.fdiv_eq_ediv_of_nonneg _ (by have:=hc.1; omega)]
 exact q
section
variable {σ:St} {H:Hp} {Q:VK}
theorem rd_I {C:Int->Int->Prop} {g:Int->Int->V} {i j:Int}:rI C g (.int i) (.int j) H Q=(C i j/\Q (g i j) H) :=
 propext ⟨fun⟨_,_,e1,e2,h⟩=>by cases e1; cases e2; exact h,fun h=>⟨i,j,rfl,rfl,h⟩⟩
theorem rd_I0 {g:Int->Int->V} {i j:Int}:rI0 g (.int i) (.int j) H Q=Q (g i j) H :=
 propext ⟨fun⟨_,_,e1,e2,h⟩=>by cases e1; cases e2; exact h,fun h=>⟨i,j,rfl,rfl,h⟩⟩
theorem rd_U {g:Int->V} {i:Int}:rU g (.int i) H Q=Q (g i) H :=
 propext ⟨fun⟨_,e1,h⟩=>by cases e1; exact h,fun h=>⟨i,rfl,h⟩⟩
theorem jx {t:TE} {R:Bool->Hp->Prop}:jp t σ H R=t σ H fun x H'=>∃k,x=.bl k/\R k H':=rfl
theorem rd_bl {k:Bool} {R:Bool->Prop}:(∃k',V.bl k=.bl k'/\R k')=R k:=propext ⟨fun⟨_,e,h⟩=>by cases e; exact h,fun h=>⟨k,rfl,h⟩⟩
theorem rd_l1 {i:Int} {R:Int->Prop}:(∃j,([V.int i]:List V)=[V.int j]/\R j)=R i:=propext ⟨fun⟨_,e,h⟩=>by cases e; exact h,fun h=>⟨i,rfl,h⟩⟩
theorem rd_l2 {a b:Int} {R:Int->Int->Prop}:(∃i j,([V.int a,V.int b]:List V)=[V.int i,V.int j]/\R i j)=R a b:=propext ⟨fun⟨_,_,e,h⟩=>by cases e; exact h,fun h=>⟨a,b,rfl,h⟩⟩
theorem rd_lr {a:Addr} {R:Addr->List V->Prop}:(∃p ys,([V.ref a]:List V)=[V.ref p]/\R p ys)=∃ys,R a ys:=propext ⟨fun⟨_,ys,e,h⟩=>by cases e; exact⟨ys,h⟩,fun⟨ys,h⟩=>⟨a,ys,rfl,h⟩⟩
theorem qH {p x:Addr} {o o':HO} (hp:H p=none) (h:H x=some o):upd H p o' x=some o:=by rw[upd_ne (qY h hp)]; exact h
theorem xg {p x:Addr} {o o':HO} (hn:x≠p) (h:H x=some o):upd H p o' x=some o:=by rw[upd_ne hn]; exact h
theorem jP {p x:Addr} {o':HO} (h:upd H p o' x=none):H x=none/\x≠p:=by
 have hx:x≠p:=fun e=>by subst e; rw[upd_same] at h; cases h
 rw[upd_ne hx] at h
 exact⟨h,hx⟩
theorem Same.upd {H1:Hp} {p:Addr} {o:HO} (s:Same H H1) (h:H p=none):Same H (upd H1 p o):=fun b o' e=>by
 rw[upd_ne (qY e h)]; exact s b o' e
theorem ExtS.nl:ExtS [] []:=fun _ _ h=>h
theorem ExtS.no {a b:St} {x:Option V} (h:ExtS a b):ExtS (none::a) (x::b):=fun i v e=>by
 cases i with
 |zero=>simp at e
 |succ i=>simpa using h i v (by simpa using e)
theorem ExtS.sm {a b:St} {x:Option V} (h:ExtS a b):ExtS (x::a) (x::b):=fun i v e=>by
 cases i with
 |zero=>simpa using e
 |succ i=>simpa using h i v (by simpa using e)
theorem XQ {n k:Nat} (h:k<n):ixN n (k:Int)=some k:=by unfold ixN; simp; omega
end
structure Def (P:Program) (w:World) (K:PySem.W.Frag) (mg:Str->Option Value) (base:Heap) (x:Str) (k:Nat) (ps:List Str) (sp:Sp):Prop where
 ex:∃(f:Addr) (fd:FuncData),mg x=some (.ref f)/\PySem.W.keepIn K (.ref f)=true/\Binds K fd ps []/\FnOk P w K mg base CX0 k f fd ps sp
section
variable {X:Cx} {x:Str} {k:Nat} {ps:List Str} {sp:Sp} {p pos:Pos} {e:Expr} {es:List Expr} {t:TA}
theorem pe_def (D:Def X.prog X.w X.K X.mg X.base x k ps sp) (hr:Room k X.A) (ha:PA X (e::es) t) (hg:Gl X x:=by rfl) (hdb:(x==("__debug__" : Str))=false:=by decide) (he:starEach (e::es) X.env=(false,eval e X.env)::starEach es X.env:=by rfl) (hpl:(backTo pos (starEach es X.env)).any (·.1)=false:=by rfl) :
  PE X (.Call (.Name x p) (e::es) [] pos) (vK sp [] E0 t):=by
 obtain⟨f,fd,h1,h2,h3,h4⟩:=D.ex
 exact pe_call h4 hr hg h1 h2 h3 .nil pass0 ha hdb he hpl
theorem pe_def0 (D:Def X.prog X.w X.K X.mg X.base x k ps sp) (hr:Room k X.A) (hg:Gl X x:=by rfl) (hdb:(x==("__debug__" : Str))=false:=by decide):PE X (.Call (.Name x p) [] [] pos) (vK sp [] E0 tNil):=by
 obtain⟨f,fd,h1,h2,h3,h4⟩:=D.ex
 exact pe_call0 h4 hr hg h1 h2 h3 .nil pass0 hdb
end
def rIsi (K:PySem.W.Frag):List V->Hp->VK->Prop:=fun xs H Q=>∃x n t b,xs=[x, .ty n]/\TyOf K H x (.type t)/\PySem.W.kitOne K (.type t) (.type n)=some b/\Q (.bl b) H
theorem call_isi {X:Cx}:vP X (.builtin "isinstance") (rIsi X.K):=by
 intro pins s σ H xs us Q I r h
 obtain⟨x,n,t,b,rfl,ty,e,q⟩:=h
 obtain⟨u,v,rfl,ru,rv⟩:=vals2 r
 obtain rfl:v=Value.type n:=rv
 exact XS I ru ty e fun tk=>⟨.bl b,H,I.tok tk,rfl,q⟩
inductive DE (K:PySem.W.Frag) (H:Hp):Nat->V->V->Bool->Prop
 |flat {n:Nat} {x y:V}:xc x=true->xc y=true->DE K H n x y (eqV x y)
 |same {n:Nat} {a:Addr}:DE K H n (.ref a) (.ref a) true
 |tup {n:Nat} {a b:Addr} {xs ys:List V} {e:Nat->Bool}:a≠b->SqT K H a xs->SqT K H b ys->(∀(j:Nat) x y,xs[j]?=some x->ys[j]?=some y->DE K H n x y (e j))->DE K H (n+1) (.ref a) (.ref b) ((List.range (min xs.length ys.length)).all e&&xs.length==ys.length)
 |lst {n:Nat} {a b:Addr} {xs ys:List V} {e:Nat->Bool}:a≠b->SqL K H a xs->SqL K H b ys->xs.length=ys.length->(∀(j:Nat) x y,xs[j]?=some x->ys[j]?=some y->DE K H n x y (e j))->DE K H (n+1) (.ref a) (.ref b) ((List.range xs.length).all e)
 |lstN {n:Nat} {a b:Addr} {xs ys:List V}:a≠b->SqL K H a xs->SqL K H b ys->xs.length≠ys.length->DE K H (n+1) (.ref a) (.ref b) false
theorem vY {A:Around}:A.in1.units=A.units+1:=rfl
theorem DE.eqAt {X:Cx} {pins:List (Addr×Obj)} {σ:St} {H:Hp} {s:Shared} (I:Inv X pins σ H s) {n:Nat} {x y:V} {b:Bool} (d:DE X.K H n x y b):∀{A:Around} {u v:Value},A.units+n<cLine->RelV x u->RelV y v->SeqAt.EqAt A s u v b:=by
 induction d with
 |flat f g=>intro A u v _ rx ry; exact eqAt_V rx ry f g
 |same =>
  intro A u v _ rx ry
  obtain rfl:u=_:=rx
  obtain rfl:v=_:=ry
  exact SeqAt.EqAt.same _
 | @tup n a b xs ys e ne ha hb _ ih =>
  intro A u v hu rx ry
  obtain rfl:u=Value.ref a:=rx
  obtain rfl:v=Value.ref b:=ry
  obtain⟨its,r1,p1,_⟩:=I.tuple ha
  obtain⟨its2,r2,p2,_⟩:=I.tuple hb
  have:=SeqAt.RcAt.tuples (A:=A) (e:=e) p1 p2 (by omega) fun j h1 h2=>by
   have l1:j<xs.length:=by rw[r1.length]; simpa using h1
   have l2:j<ys.length:=by rw[r2.length]; simpa using h2
   obtain⟨u1,q1,s1⟩:=r1.get (List.getElem?_eq_getElem l1)
   obtain⟨u2,q2,s2⟩:=r2.get (List.getElem?_eq_getElem l2)
   have e1:its.toArray[j]=u1:=by
    have:=List.getElem?_eq_some_iff.mp q1
    obtain⟨_,z⟩:=this
    simpa using z
   have e2:its2.toArray[j]=u2:=by
    have:=List.getElem?_eq_some_iff.mp q2
    obtain⟨_,z⟩:=this
    simpa using z
   rw[e1,e2]
   exact ih j _ _ (List.getElem?_eq_getElem l1) (List.getElem?_eq_getElem l2) (by rw[vY]; omega) s1 s2
  rw[List.size_toArray,List.size_toArray, <-r1.length, <-r2.length] at this
  exact .of_refs ne this
 | @lst n a b xs ys e ne ha hb hl _ ih =>
  intro A u v hu rx ry
  obtain rfl:u=Value.ref a:=rx
  obtain rfl:v=Value.ref b:=ry
  obtain⟨its,r1,p1,_⟩:=I.list ha
  obtain⟨its2,r2,p2,_⟩:=I.list hb
  have:=SeqAt.RcAt.lists (A:=A) (e:=e) p1.isList p2.isList (by simp[<-r1.length, <-r2.length,hl]) (by omega) fun j h1 h2=>by
   have l1:j<xs.length:=by rw[r1.length]; simpa using h1
   have l2:j<ys.length:=by rw[r2.length]; simpa using h2
   obtain⟨u1,q1,s1⟩:=r1.get (List.getElem?_eq_getElem l1)
   obtain⟨u2,q2,s2⟩:=r2.get (List.getElem?_eq_getElem l2)
   have e1:its.toArray[j]=u1:=by
    have:=List.getElem?_eq_some_iff.mp q1
    obtain⟨_,z⟩:=this
    simpa using z
   have e2:its2.toArray[j]=u2:=by
    have:=List.getElem?_eq_some_iff.mp q2
    obtain⟨_,z⟩:=this
    simpa using z
   rw[e1,e2]
   exact ih j _ _ (List.getElem?_eq_getElem l1) (List.getElem?_eq_getElem l2) (by rw[vY]; omega) s1 s2
  rw[List.size_toArray, <-r1.length] at this
  exact .of_refs ne this
 | @lstN n a b xs ys ne ha hb hl =>
  intro A u v hu rx ry
  obtain rfl:u=Value.ref a:=rx
  obtain rfl:v=Value.ref b:=ry
  obtain⟨its,r1,p1,_⟩:=I.list ha
  obtain⟨its2,r2,p2,_⟩:=I.list hb
  exact .of_refs ne (SeqAt.RcAt.lists_lengths p1.isList p2.isList (by simp[<-r1.length, <-r2.length,hl]) (by omega))
end L2
namespace PySem.SeqAt
open AutoSeq1 (wpAny_loadPart')
open MeetsSeq MeetsSeq2 MeetsSeq3 SeqRoads2
theorem jv (l:Addr) (items:Array Value) (n:Nat) (x:Value) (e:Nat->Bool) (j:Nat) (hj:j<items.size) (hit:e j=true) (k:Nat) (hs1:items.size<=sizeLine) :
  ∀i:Nat,j-i=k->i<=j->(∀m (hm:m<items.size),i<=m->m<j->e m=false)->Meets (Builtin.«list.remove.loop» ⟨[.ref l,x,rawInt i], []⟩)
   (fun A R s=>s.heap.get? l=some { cls:=.type "list", dict:=none,data:=.seq items n,slots:=#[] }/\(∀m (hm:m<items.size),m<=j->EqAt A.in1 s items[m] x (e m))/\R (.ok (.ret .none)) { s with heap:=s.heap.update l (Obj.mapSeq fun xs=>xs.eraseIdxIfInBounds j) }):=by
 induction k with
 |zero =>
  intro i hk hij hno prog w A R s h
  obtain⟨hp,g,d,tk,os⟩:=s; obtain⟨hl,he,h⟩:=h
  have hij':i=j:=by omega
  subst hij'
  wp_walk using wpAny_loadPart' hl
  have hi:items[((i:Nat):Int).toNat]?=some items[i]:=by simp[hj]
  rw[hi]
  refine wpAny_bind (he _ hj (Nat.le_refl _) prog w _ _ ?_)
  rw[hit]
  have hz':(items.eraseIdxIfInBounds i).size<=sizeLine+1:=Nat.le_trans (size_erased items _) (Nat.le_succ_of_le hs1)
  wp_walk using(wpAny_updateSeq hl rfl (hz:=hs1) (_hz':=hz')),wpAny_loadPart' hl
  simpa using h
 |succ k ih =>
  intro i hk hij hno prog w A R s h
  obtain⟨hp,g,d,tk,os⟩:=s; obtain⟨hl,he,h⟩:=h
  have hlt:i<items.size:=by omega
  wp_walk using wpAny_loadPart' hl
  have hi:items[((i:Nat):Int).toNat]?=some items[i]:=by simp[hlt]
  have hc:((i:Int)+1)=((i+1:Nat):Int):=by push_cast; rfl
  rw[hi]
  refine wpAny_bind (he _ hlt (by omega) prog w _ _ ?_)
  rw[hno i hlt (Nat.le_refl _) (by omega)]
  wp_walk
  rw[hc]
  exact⟨plainId_quiet plain_remove_loop _,codeAny_builtin entry_remove_loop (by
   rw[Around.under_plainId plain_remove_loop _]
   exact ih (i+1) (by omega) (by omega) (fun m hm h1 h2=>hno m hm (by omega) h2) prog w A R _ ⟨hl,he,h⟩)⟩
theorem list_removeAt (l:Addr) (items:Array Value) (n:Nat) (x:Value) (e:Nat->Bool) (j:Nat) (hj:j<items.size)
  (hit:e j=true) (hno:∀m (hm:m<items.size),m<j->e m=false) (hs1:items.size<=sizeLine:=by size_fits) :
  Meets (Builtin.«list.remove» ⟨[.ref l,x], []⟩)
   (fun A R s=>s.heap.get? l=some { cls:=.type "list", dict:=none,data:=.seq items n,slots:=#[] }/\(∀m (hm:m<items.size),m<=j->EqAt A.in1 s items[m] x (e m))/\R (.ok (.ret .none)) { s with heap:=s.heap.update l (Obj.mapSeq fun xs=>xs.eraseIdxIfInBounds j) }):=by
 intro prog w A R s h
 obtain⟨hp,g,d,tk,os⟩:=s; obtain⟨hl,he,h⟩:=h
 wp_walk using wpAny_loadPart' hl
 exact⟨plainId_quiet plain_remove_loop _,codeAny_builtin entry_remove_loop (by
  rw[Around.under_plainId plain_remove_loop _]
  exact jv l items n x e j hj hit _ hs1 0 rfl (Nat.zero_le _) (fun m hm _ h2=>hno m hm h2) prog w A R _ ⟨hl,he,h⟩)⟩
end PySem.SeqAt
namespace L2
open PySem PySem.Spec PyProof.Rows
def Qo (K:PySem.W.Frag):V->List V->Hp->VK->Prop:=fun x vs H Q=>∃l xs y j,∃e:Nat->Bool,x=.ref l/\vs=[y]/\H l=some (.lst xs)/\j<xs.length/\e j=true/\(∀m,m<j->e m=false)/\(∀(m:Nat) z,m<=j->xs[m]?=some z->DE K H 20 z y (e m))/\Q .non (upd H l (.lst (xs.eraseIdx j)))
theorem Xr {X:Cx} (hu:X.A.units+64<cLine):MtM X "list.remove" (Qo X.K):=by
 intro pins s σ H x vs v us Q I rx rv h
 obtain⟨l,xs,y,j,e,rfl,rfl,hH,hj,hit,hno,he,q⟩:=h
 cases rx
 obtain⟨u,rfl,ru⟩:=rv.one
 obtain⟨z,its,n,r,hl,eo⟩:=I.lstM hH
 refine call_meets F.slot_list_remove ⟨_,eo,rfl⟩ F.entry_list_remove (F.args_list_remove_2 _ _) (SeqAt.list_removeAt l its.toArray n u e j (by simp; omega) hit (fun m _ hm=>hno m hm) (by rw[List.size_toArray]; omega)) ⟨eo,fun m hm hmj=>?_, ?_⟩
 ·have l1:m<xs.length:=by rw[hl]; simpa using hm
  obtain⟨u1,q1,s1⟩:=r.get (List.getElem?_eq_getElem l1)
  have e1:its.toArray[m]=u1:=by
   have:=List.getElem?_eq_some_iff.mp q1
   obtain⟨_,z⟩:=this
   simpa using z
  rw[e1]
  exact(he m _ hmj (List.getElem?_eq_getElem l1)).eqAt I (by rw[vY]; omega) s1 ru
 ·refine⟨.non,_,I.lset (its':=its.eraseIdx j) hH eo (by simp) (r.eraseIdx j) (Nat.le_trans (kM _ _) z),rfl,q⟩
structure Nms (mg:Str->Option Value):Prop where
 abs:mg "abs" = none
 len:mg "len" = none
 min:mg "min" = none
 max:mg "max" = none
 sum:mg "sum" = none
 sorted:mg "sorted" = none
 all:mg "all" = none
 any:mg "any" = none
 isinstance:mg "isinstance" = none
 range:mg "range" = none
 int:mg "int" = none
 list:mg "list" = none
 str:mg "str" = none
 bool:mg "bool" = none
 tuple:mg "tuple" = none
 zip:mg "zip" = none
 enumerate:mg "enumerate" = none
 dict:mg "dict" = none
theorem b_abs:bootBuiltins "abs" = some (.builtin "abs"):=by decide +kernel
theorem b_len:bootBuiltins "len" = some (.builtin "len"):=by decide +kernel
theorem b_min:bootBuiltins "min" = some (.builtin "min"):=by decide +kernel
theorem b_max:bootBuiltins "max" = some (.builtin "max"):=by decide +kernel
theorem b_sum:bootBuiltins "sum" = some (.builtin "sum"):=by decide +kernel
theorem VG:bootBuiltins "sorted" = some (.builtin "sorted"):=by decide +kernel
theorem vq:bootBuiltins "isinstance" = some (.builtin "isinstance"):=by decide +kernel
theorem b_int:bootBuiltins "int" = some (.type "int"):=by decide +kernel
theorem Jr:bootBuiltins "list" = some (.type "list"):=by decide +kernel
theorem b_bool:bootBuiltins "bool" = some (.type "bool"):=by decide +kernel
theorem Jq:bootBuiltins "tuple" = some (.type "tuple"):=by decide +kernel
theorem b_dict:bootBuiltins "dict" = some (.type "dict"):=by decide +kernel
def SameB (b:Addr) (H H':Hp):Prop:=∀x o,H x=some o->x≠b->H' x=some o
theorem SameB.trans {b:Addr} {H H1 H2:Hp} (h:SameB b H H1) (k:SameB b H1 H2):SameB b H H2:=fun x o e n=>k x o (h x o e n) n
theorem SameB.upd {b p:Addr} {H H1:Hp} {o:HO} (s:SameB b H H1) (h:H p=none\/p=b):SameB b H (upd H1 p o):=fun x o' e n=>by
 have:x≠p:=by
  rcases h with h|h
  ·exact qY e h
  ·rw[h]; exact n
 rw[upd_ne this]; exact s x o' e n
def rLenL:List V->Hp->VK->Prop:=fun vs H Q=>∃p ys,vs=[.ref p]/\H p=some (.lst ys)/\Q (.int ys.length) H
theorem xT {X:Cx}:vP X (.builtin "len") rLenL:=by
 intro pins s σ H xs us Q I r h
 obtain⟨p,ys,e,h,q⟩:=h
 exact zZ pins s σ H xs us Q I r ⟨p,ys,e, .inl (SqL.of h),q⟩
section
variable {K:PySem.W.Frag} {H:Hp} {Q:VK} {p:Addr} {xs:List V} {v:V} {i:Int}
theorem XR (h:H p=some (.lst xs)) (e:atI xs i=some v) (q:Q v H):rIxL K (.ref p) (.int i) H Q:=⟨p,xs,i,v,rfl,rfl,SqL.of h,e,q⟩
theorem ixT_at (h:H p=some (.tup xs)) (e:atI xs i=some v) (q:Q v H):rIxT K (.ref p) (.int i) H Q:=⟨p,xs,i,v,rfl,rfl,SqT.of h,e,q⟩
theorem at0 {α:Type} {x:α} {l:List α}:atI (x::l) 0=some x:=v7 (j:=0) rfl
theorem at1 {α:Type} {x y:α} {l:List α}:atI (x::y::l) 1=some y:=v7 (j:=1) rfl
theorem setL_at {j:Nat} {R:Hp->Prop} (h:H p=some (.lst xs)) (e:ixN xs.length i=some j) (q:R (upd H p (.lst (xs.set j v)))):rSetL (.ref p) (.int i) v H R:=⟨p,xs,i,j,rfl,rfl,h,e,q⟩
theorem eq_at {x y:V} (h:scal x y=true) (q:Q (.bl (decide (x=y))) H):rEq x y H Q:=⟨h,q⟩
theorem ne_at {x y:V} (h:scal x y=true) (q:Q (.bl (!decide (x=y))) H):rNe x y H Q:=⟨h,q⟩
theorem len_at (h:H p=some (.lst xs)) (q:Q (.int xs.length) H):rLenL [.ref p] H Q:=⟨p,xs,rfl,h,q⟩
theorem jJ {σ:St} {x y:V} {i j:Nat} {R:St->Hp->Prop} (h:H p=some (.tup [x,y])) (q:R ((σ.set i (some x)).set j (some y)) H):gTup K 2 (qS (qt i) (qS (qt j) gNil)) (.ref p) σ H R :=
 ⟨p,_,rfl,SqT.of h,rfl,_,_,rfl,_,_,rfl,rfl,q⟩
theorem jI {σ:St} {x y z:V} {i j k:Nat} {R:St->Hp->Prop} (h:H p=some (.tup [x,y,z])) (q:R (((σ.set i (some x)).set j (some y)).set k (some z)) H):gTup K 3 (qS (qt i) (qS (qt j) (qS (qt k) gNil))) (.ref p) σ H R :=
 ⟨p,_,rfl,SqT.of h,rfl,_,_,rfl,_,_,rfl,_,_,rfl,rfl,q⟩
theorem zh {i j:Int}:(V.int i=V.int j)=(i=j):=propext ⟨fun h=>by cases h; rfl,fun h=>by rw[h]⟩
theorem zg {i j:Str}:(V.str i=V.str j)=(i=j):=propext ⟨fun h=>by cases h; rfl,fun h=>by rw[h]⟩
end
section
variable {X:Cx} {i j k:Nat} {x y z:Str} {px py pz pos:Pos} {kk:Nat}
theorem pg_t2 (hN:X.N.Nodup) (hc:X.calm=true) (hi:X.N[i]?=some x) (hj:X.N[j]?=some y) (lx:Loc X.env.scope x) (ly:Loc X.env.scope y)
  (fx:X.fn x=true\/X.env.scope.names.lookup x=some .local) (fy:X.fn y=true\/X.env.scope.names.lookup y=some .local) :
  PG X (.Tuple [.Name x px, .Name y py] kk pos) (gTup X.K 2 (qS (qt i) (qS (qt j) gNil))):=pg_tup hc (zx (zK hN hi lx fx) (zx (zK hN hj ly fy) Z4))
theorem pg_t3 (hN:X.N.Nodup) (hc:X.calm=true) (hi:X.N[i]?=some x) (hj:X.N[j]?=some y) (hk:X.N[k]?=some z) (lx:Loc X.env.scope x) (ly:Loc X.env.scope y) (lz:Loc X.env.scope z)
  (fx:X.fn x=true\/X.env.scope.names.lookup x=some .local) (fy:X.fn y=true\/X.env.scope.names.lookup y=some .local) (fz:X.fn z=true\/X.env.scope.names.lookup z=some .local) :
  PG X (.Tuple [.Name x px, .Name y py, .Name z pz] kk pos) (gTup X.K 3 (qS (qt i) (qS (qt j) (qS (qt k) gNil)))):=pg_tup hc (zx (zK hN hi lx fx) (zx (zK hN hj ly fy) (zx (zK hN hk lz fz) Z4)))
end
section
variable {X:Cx} {K:PySem.W.Frag}
theorem qk (h:X.K=K):IxR X (rIxL K):=h▸ix_list
theorem va (h:X.K=K):IxR X (rIxT K):=h▸ix_tup
theorem pi_listK {tg l:Expr} {tl:TE} (h:X.K=K) (hl:PE X l tl):PI X tg l (V9 K tl):=h▸pi_list hl
theorem xi (h:X.K=K):SlR X (rSlL K):=h▸sl_list
theorem Xa (h:X.K=K):OpR X (compareOp .NotIn) (rIn K true):=h▸kA
theorem v6 (h:X.K=K):vP X (.builtin "isinstance") (rIsi K):=h▸call_isi
theorem VZ (h:X.K=K) (hu:X.A.units+64<cLine):MtM X "list.remove" (Qo K):=h▸Xr hu
def tTru (K:PySem.W.Frag) (ta:TE):TT:=fun σ H Q=>ta σ H fun x H'=>∃k,TruV K x H' k/\Q k H'
theorem Z1 {a:Expr} {ta:TE} (h:X.K=K) (ha:PE X a ta) (he:∀whole,isTrue a X.env whole=(do let v <-whole; standAt a.pos; holding [v] (truthy v))):PT X a (tTru K ta):=h▸pt_truth ha he
theorem pg_t2K {i j:Nat} {x y:Str} {px py pos:Pos} {kk:Nat} (h:X.K=K) (hN:X.N.Nodup) (hc:X.calm=true) (hi:X.N[i]?=some x) (hj:X.N[j]?=some y) (lx:Loc X.env.scope x) (ly:Loc X.env.scope y)
  (fx:X.fn x=true\/X.env.scope.names.lookup x=some .local) (fy:X.fn y=true\/X.env.scope.names.lookup y=some .local) :
  PG X (.Tuple [.Name x px, .Name y py] kk pos) (gTup K 2 (qS (qt i) (qS (qt j) gNil))):=h▸pg_t2 hN hc hi hj lx ly fx fy
theorem pg_t3K {i j k:Nat} {x y z:Str} {px py pz pos:Pos} {kk:Nat} (h:X.K=K) (hN:X.N.Nodup) (hc:X.calm=true) (hi:X.N[i]?=some x) (hj:X.N[j]?=some y) (hk:X.N[k]?=some z) (lx:Loc X.env.scope x) (ly:Loc X.env.scope y) (lz:Loc X.env.scope z)
  (fx:X.fn x=true\/X.env.scope.names.lookup x=some .local) (fy:X.fn y=true\/X.env.scope.names.lookup y=some .local) (fz:X.fn z=true\/X.env.scope.names.lookup z=some .local) :
  PG X (.Tuple [.Name x px, .Name y py, .Name z pz] kk pos) (gTup K 3 (qS (qt i) (qS (qt j) (qS (qt k) gNil)))):=h▸pg_t3 hN hc hi hj hk lx ly lz fx fy fz
def LmStep (x:V) (H:Hp) (k:Prop):Prop:=∃p xs,x=.ref p/\H p=some (.lst xs)/\k
theorem lm_at {p:Addr} {xs:List V} {H:Hp} {k:Prop} (h:H p=some (.lst xs)) (q:k):LmStep (.ref p) H k:=⟨p,xs,rfl,h,q⟩
def tLM (r:V->List V->Hp->VK->Prop) (to:TE) (t:TA):TE:=fun σ H Q=>to σ H fun x H1=>LmStep x H1 (t σ H1 fun vs H2=>r x vs H2 Q)
theorem pe_lm {o e:Expr} {es:List Expr} {to:TE} {t:TA} {name:Str} {apos cpos:Pos} {id:String} {r:V->List V->Hp->VK->Prop} (slot:Slot "list" name id) (hty:typeOf (.builtin id)=pure (.type "method_descriptor")) (hm:MtR X id r) (ho:PE X o to) (ha:PA X (e::es) t)
  (hbase:attributeBase o name X.env (eval o X.env)=eval o X.env:=by rfl)
  (hfew:((backTo cpos (starEach (e::es) X.env)).all (fun x => !x.1)&&(backToKw cpos (keywordEach [] X.env)).all (fun x=>x.1.isSome)
   && decide ((e::es).length+([]:List Keyword).length+(if([]:List Keyword).isEmpty then 0 else 1)<30))=true:=by rfl)
  (hline:(apos.endLine==cpos.line)=true:=by rfl) (hs:starEach (e::es) X.env=(false,eval e X.env)::starEach es X.env:=by rfl) (hplain:(backTo cpos (starEach es X.env)).any (·.1)=false:=by rfl) :
  PE X (.Call (.Attribute o name apos) (e::es) [] cpos) (tLM r to t):=by
 intro pins s σ H Q I h
 refine wpAny_Call_method_late hbase hfew hline rfl (thn (ho pins s σ H _ I h) fun v s1 ⟨x,H1,I1,r1,p,xs,ex,hp,q1⟩=>?_)
 subst ex
 obtain⟨h1,h2⟩:=tyV_is (T := "list") I1 r1 (.inl ⟨rfl,xs,SqL.of hp⟩)
 refine⟨"list", id,PySem.F.plainAttrs_list,slot,hty,h1,h2, ?_⟩
 have hA:=ha cpos pins s1 σ H1 _ I1 q1
 rw[hs] at hA ⊢
 refine Calls.callWith_builtin (by show(false||(backTo cpos (starEach es X.env)).any (·.1))=false; rw[hplain]<;>rfl) (Calls.evalArgs_plain ?_)
 exact thn hA fun us s2 ⟨vs,H2,I2,r2,q2⟩=>hm pins s2 σ H2 (.ref p) vs v us Q I2 r1 r2 q2
end
def ForW (J:It) (g:TG) (tb:TS) (D:Ends) (σ:St) (H1:Hp):Prop:=∃W:Nat->Nat->St->Hp->Prop,(∃m,W 0 m σ H1)/\∀i m σ H,W i m σ H ->
 (J.stop i H/\D.nx σ H)\/(J.go i H/\∃N:St->Hp->Prop,(∀σ' H',N σ' H'->∃m',m'<m/\W (i+1) m' σ' H')/\∀x H',J.yld i H x H'->g x σ H' fun σ2 H2=>tb { D with nx:=N,ct:=N,bk:=D.nx } σ2 H2)
theorem Vg {wi:TI} {g:TG} {tb:TS} {D:Ends} {σ:St} {H:Hp}:tFor wi g tb D σ H=wi σ H fun J H1=>ForW J g tb D σ H1:=rfl
def ItStep (K:PySem.W.Frag) (x:V) (H:Hp) (R:It->Hp->Prop):Prop:=∃a,x=.ref a/\(∃xs,SqL K H a xs)/\R (Itl K a) H
theorem xk {K:PySem.W.Frag} {tl:TE} {σ:St} {H:Hp} {R:It->Hp->Prop}:V9 K tl σ H R=tl σ H fun x H1=>ItStep K x H1 R:=rfl
theorem it_at {K:PySem.W.Frag} {p:Addr} {xs:List V} {H:Hp} {R:It->Hp->Prop} (h:H p=some (.lst xs)) (q:R (Itl K p) H):ItStep K (.ref p) H R:=⟨p,rfl,⟨xs,SqL.of h⟩,q⟩
def RgStep (vs:List V) (H:Hp) (R:It->Hp->Prop):Prop:=∃j:Int,vs=[.int j] /\ -(2^62)<=j/\j<2^62/\R (Itr 0 j.toNat) H
theorem xj {ta:TA} {σ:St} {H:Hp} {R:It->Hp->Prop}:XW ta σ H R=ta σ H fun vs H1=>RgStep vs H1 R:=rfl
theorem rd_pi {k:Int} {R:Int->Prop}:(∃i,V.int k=.int i/\R i)=R k:=propext ⟨fun⟨_,e,h⟩=>by cases e; exact h,fun h=>⟨k,rfl,h⟩⟩
def h00:Heap:={}
def vQ (h:Heap) (L:Addr):List (Addr×Obj):=(List.range h.objs.size).filterMap fun a=>if a=L then none else(h.get? a).map fun o=>(a,o)
theorem zB (a:Addr):h00.get? a=none:=Heap.get?_none_of_le (Nat.zero_le _)
theorem vD {h:Heap} {L b:Addr} {o:Obj} (e:h.get? b=some o) (n:b≠L):(b,o)∈vQ h L:=by
 refine List.mem_filterMap.mpr ⟨b,List.mem_range.mpr (Heap.lt_size e), ?_⟩
 rw[if_neg n,e]
 rfl
theorem jB {h:Heap} {L:Addr}:News h00 L h (vQ h L):=fun p hp=>by
 obtain⟨a,_,e⟩:=List.mem_filterMap.mp hp
 by_cases n:a=L
 ·rw[if_pos n] at e; cases e
 ·rw[if_neg n] at e
  cases q:h.get? a with
  |none=>rw[q] at e; cases e
  |some o=>rw[q] at e; cases e; exact⟨q,n,zB _⟩
theorem Inv.ledger {X:Cx} {pins:List (Addr×Obj)} {σ:St} {H:Hp} {s:Shared} (I:Inv X pins σ H s):∃m,Fr h00 X.env.locals s.heap m/\News h00 X.env.locals s.heap (vQ s.heap X.env.locals) /\
  ∀(h':Heap) (tk:Nat),Fr h00 X.env.locals h' m->News h00 X.env.locals h' (vQ s.heap X.env.locals)->Inv X pins σ H { s with heap:=h',toks:=tk }:=by
 obtain⟨m,hn,_⟩:=I.loc
 refine⟨m,⟨hn,fun b o e=>(by rw[zB] at e; cases e),Nat.zero_le _⟩,jB,fun h' tk F W=>?_⟩
 have kp:∀b o,b≠X.env.locals->s.heap.get? b=some o->h'.get? b=some o:=fun b o n e=>(W _ (vD e n)).1
 refine I.step (ch:=[]) (H':=H) (fun b hb=>nomatch hb) (fun b o n _ _ e _=>kp b o n e) (fun b o n _ _ e _=>⟨o.slots,kp b o n e⟩) (fun b o _ _ z=>z) (fun b o _ e=>?_) (fun _ _ z=>z) (fun _ _ _ z=>z) (fun b ps z=>⟨#[],by simpa using z⟩) (fun m' hm'=>?_) (fun a o e=>?_) I.bare
 ·by_cases n:b=X.env.locals
  ·subst n
   obtain⟨o',_,_,e',_⟩:=F.ns
   exact⟨o',e'⟩
  ·exact⟨o,kp b o n e⟩
 ·have:m'=m:=funext fun x=>by
   obtain⟨o,es,ep,e1,e2,e3,e4⟩:=hm'
   obtain⟨o',es',ep',f1,f2,f3,f4⟩:=hn
   rw[e1] at f1; cases f1
   rw[e2] at f2; cases f2
   rw[<-e4, <-f4]
  rw[this]
  exact F.ns
 ·refine(I.hok a o e).stay (fun b u hb q=>kp b u ?_ q) (fun _ q=>q) fun _ _ q=>q
  intro z
  subst z
  have:=I.free
  rcases hb with hb|hb
  ·subst hb; rw[e] at this; cases this
  ·rw[hb] at this; cases this
def rLenA (K:PySem.W.Frag):List V->Hp->VK->Prop:=fun xs H Q=>∃p ys,xs=[.ref p]/\(SqL K H p ys\/SqT K H p ys)/\Q (.int ys.length) H
theorem Zf {X:Cx} {K:PySem.W.Frag} (h:X.K=K):vP X (.builtin "len") (rLenA K):=h▸zZ
structure GInt (mg:Str->Option Value) (nm:Str) (n:Int):Prop where
 ex:∃t,mg nm=some (.int n t)
theorem pe_gint {X:Cx} {x:Str} {n:Int} {pos:Pos} (G:GInt X.mg x n) (hg:Gl X x) (hd:(x==("__debug__" : Str))=false:=by decide):PE X (.Name x pos) (tC (.int n)):=by
 obtain⟨t,e⟩:=G.ex
 exact Z5 hg e ⟨t,rfl⟩ hd
def Bt (n:Nat) (i:Int):Prop:=i.natAbs<2^n
theorem Bt.bits {n:Nat} {i:Int} (h:Bt n i):Builtin.Int.intBits i<=n:=intBits_le_iff.mpr h
theorem Bt.mono {n m:Nat} {i:Int} (h:Bt n i) (hm:n<=m):Bt m i:=Nat.lt_of_lt_of_le h (Nat.pow_le_pow_right (by decide) hm)
theorem Bt.neg {n:Nat} {i:Int} (h:Bt n i):Bt n (-i):=by unfold Bt; rw[Int.natAbs_neg]; exact h
theorem Bt.small {n:Nat} {i:Int} (h0 : -(2^62)<i) (h1:i<2^62) (hn:62<=n):Bt n i:=by
 refine Bt.mono (n:=62) ?_ hn
 unfold Bt
 omega
theorem Bt.sign {n:Nat} {i s:Int} (h:Bt n i) (hs:s=1\/s = -1):Bt n (s*i):=by
 rcases hs with rfl|rfl
 ·rw[Int.one_mul]; exact h
 ·rw[Int.neg_mul,Int.one_mul]; exact h.neg
def Itv (K:PySem.W.Frag) (a:Addr) (n:Nat):It :=
 ⟨fun i H=>i<n/\∃xs,SqL K H a xs/\xs.length=n,fun i H x H'=>H'=H/\∀xs,SqL K H a xs->xs[n-1-i]?=some x,fun i H=>n=i⟩
def RvStep (K:PySem.W.Frag) (vs:List V) (H:Hp) (R:It->Hp->Prop):Prop:=∃a xs,vs=[.ref a]/\SqL K H a xs/\R (Itv K a xs.length) H
def iRev (K:PySem.W.Frag) (ta:TA):TI:=fun σ H R=>ta σ H fun vs H1=>RvStep K vs H1 R
theorem jz {K:PySem.W.Frag} {ta:TA} {σ:St} {H:Hp} {R:It->Hp->Prop}:iRev K ta σ H R=ta σ H fun vs H1=>RvStep K vs H1 R:=rfl
theorem Inv.turned2 {X:Cx} {pins:List (Addr×Obj)} {σ:St} {H:Hp} {s:Shared} {h':Heap} {t':Nat} {e it a:Addr} {o:HO} (I:Inv X pins σ H s) (k:∀b u,b≠e->b≠it->s.heap.get? b=some u->h'.get? b=some u) (fe:FpOk X pins H e) (fi:FpOk X pins H it)
  (hp:s.heap.objs.size<=a) (new:ObjOk X.prog X.w (upd H a o) h' a o):Inv X pins σ (upd H a o) { s with heap:=h',toks:=t' }:=by
 have hn:=I.hok.fresh hp
 have na:∀b u,s.heap.get? b=some u->b≠a:=fun b u q z=>by
  have:=Heap.lt_size q
  subst z
  exact absurd (Nat.lt_of_lt_of_le this hp) (Nat.lt_irrefl _)
 have ne:∀b u,H b=some u->b≠e:=fun b u q z=>by rw[z,fe.1] at q; cases q
 have ni:∀b u,H b=some u->b≠it:=fun b u q z=>by rw[z,fi.1] at q; cases q
 have hc:∀b,b∉[e,it]->b≠e/\b≠it:=fun b hb=>⟨fun z=>hb (by simp[z]),fun z=>hb (by simp[z])⟩
 refine I.step (g':=s.gens) (d':=s.drawn) (ch:=[e,it]) (fun b hb=>?_) (fun b u _ _ c q _=>k b u (hc b c).1 (hc b c).2 q) (fun b u _ _ c q _=>⟨u.slots,k b u (hc b c).1 (hc b c).2 q⟩) (fun b u _ q n=>by rw[upd_ne (na b u q)]; exact n)
  (fun b u c q=>⟨u,k b u (hc b c).1 (hc b c).2 q⟩) (fun b xs q=>qH hn q) (fun b _ _ q=>qH hn q) (fun b ps q=>⟨#[],by rw[qH hn q]; simp⟩) (fun m hm=>?_) (fun b u q=>?_) I.bare
 ·rcases List.mem_cons.mp hb with z|z
  ·subst z
   exact⟨fe.2.2.2.1,fe.2.1,fe.2.2.2.2.1,fe.2.2.2.2.2⟩
  ·have z:b=it:=by simpa using z
   subst z
   exact⟨fi.2.2.2.1,fi.2.1,fi.2.2.2.2.1,fi.2.2.2.2.2⟩
 ·obtain⟨o,es,ep,ho,r⟩:=hm
  exact⟨o,es,ep,k _ o (Ne.symm fe.2.1) (Ne.symm fi.2.1) ho,r⟩
 ·by_cases hb:b=a
  ·subst hb; rw[upd_same] at q; cases q; exact new
  ·rw[upd_ne hb] at q
   refine(I.hok b u q).stay (fun c v hcc qq=>?_) (fun c qq=>qH hn qq) fun c xs qq=>qH hn qq
   rcases hcc with z|z
   ·subst z; exact k c v (ne c u q) (ni c u q) qq
   ·exact k c v (ne c _ z) (ni c _ z) qq
def Ite (K:PySem.W.Frag) (a:Addr):It :=
 ⟨fun i H=>∃xs x,SqL K H a xs/\xs[i]?=some x,fun i H x H'=>∃(p:Addr) (v:V),x=.ref p/\H p=none/\H'=upd H p (.tup [.int i,v])/\∀xs,SqL K H a xs->xs[i]?=some v,fun i H=>∃xs,SqL K H a xs/\xs.length<=i⟩
theorem Zs {P:Program} {w:World} {K:PySem.W.Frag} {elts:List Expr} {kk:_} {pos:Pos} (a e it:Addr):Turn P w K (.Tuple elts kk pos) (Ite K a) [e,it] e (fun i h=>e≠it/\(∃old,IsEnum h e it i old)/\h.IsListIter it a i) where
 mem:=by simp
 obj:=fun i h ⟨ne,⟨old,st⟩,li⟩ b hb=>by
  rcases List.mem_cons.mp hb with z|z
  ·subst z
   exact⟨_,st,fun v z=>by
    have z':Data.fields _=Data.cell v:=z
    cases z'⟩
  ·have z:b=it:=by simpa using z
   subst z
   obtain⟨o,e,c,d⟩:=li
   exact⟨o,e,fun v z=>by rw[d] at z; cases z⟩
 keep:=fun i h h' ⟨ne,⟨old,st⟩,li⟩ k=>⟨ne,⟨old,k e (by simp) _ st⟩,li.at fun o q=>k it (by simp) o q⟩
 item:=by
  intro X hP hw hK hc i pins s σ H E I hf st hg
  subst hP hw hK
  obtain⟨ne,⟨old,st⟩,li⟩:=st
  obtain⟨xs,x,hq,hx⟩:=hg
  obtain⟨its,rv,p,hz⟩:=I.list hq
  obtain⟨u,hu,ru⟩:=rv.get hx
  refine wpAny_pyNext_enum_item st li p.isList (x:=u) (by simpa using hu) ne fun h' eo li' tp sz kp=>⟨_,rfl, ?_⟩
  unfold letOwnedTupleGo
  refine wpAny_bind (wpAny_load eo ?_)
  have hb:((some (rawInt (s.heap.objs.size:Int)):Option Value)==some (rawInt (s.heap.objs.size:Int)))=true:=by simp
  show wpAny _ _ (if(true&&((some (rawInt (s.heap.objs.size:Int)):Option Value)==some (rawInt (s.heap.objs.size:Int))))=true then _ else _) _ _ _
  rw[hb]
  simp only[Bool.and_self,if_true]
  unfold updateField
  wp_walk using wpAny_load eo
  have fe:=hf e (by simp)
  have fi:=hf it (by simp)
  have hne:s.heap.objs.size≠e:=fun z=>by
   have:=Heap.lt_size st
   rw[<-z] at this
   exact absurd this (Nat.lt_irrefl _)
  have hni:s.heap.objs.size≠it:=fun z=>by
   obtain⟨o,q,_⟩:=li
   have:=Heap.lt_size q
   rw[<-z] at this
   exact absurd this (Nat.lt_irrefl _)
  have up:∀b,b≠e->(h'.update e (Obj.mapFields fun x=>x.setIfInBounds 0 Value.none)).get? b=h'.get? b:=fun b hb=>Heap.get?_update_ne _ _ _ _ hb
  have upe:(h'.update e (Obj.mapFields fun x=>x.setIfInBounds 0 Value.none)).get? e=some { cls:=.type "enumerate", data:=.fields #[.none, .bool false, .ref it,rawInt ((i:Int)+1), .none,u] }:=by
   exact Heap.get?_update_self _ eo rfl
  have hfr:=I.hok.fresh (Nat.le_refl s.heap.objs.size)
  have tp2:(h'.update e (Obj.mapFields fun x=>x.setIfInBounds 0 Value.none)).get? s.heap.objs.size=some { cls:=.type "tuple", data:=.seq #[.int (i:Int) s.toks,u] }:=(up _ hne).trans tp
  refine⟨.ref s.heap.objs.size,_,I.turned2 (o:=.tup [.int i,x]) (fun b v h1 h2 q=>(up b h1).trans (kp b v h1 h2 q)) fe fi (Nat.le_refl _) ?_,rfl,⟨_,x,rfl,hfr,rfl,fun ys hy=>by rw[I.list_inj hy hq]; exact hx⟩,⟨ne,⟨u,by exact_mod_cast upe⟩, ?_⟩,fun b hb=>?_⟩
  ·exact⟨by show 2<=sizeLine; decide, [.int i s.toks,u], .cons ⟨_,rfl⟩ (.cons ru .nil),_,tp2,rfl,_,rfl⟩
  ·exact li'.at fun o q=>(up it ne.symm).trans q
  ·have:=(hf b hb).1
   rcases List.mem_cons.mp hb with z|z
   ·subst z; rw[upd_ne hne.symm]; exact this
   ·have z:b=it:=by simpa using z
    subst z; rw[upd_ne hni.symm]; exact this
 done:=by
  intro X hP hw hK hc i pins s σ H E I hf st hg
  subst hP hw hK
  obtain⟨ne,⟨old,st⟩,li⟩:=st
  obtain⟨xs,hq,hx⟩:=hg
  obtain⟨its,rv,p,hz⟩:=I.list hq
  obtain⟨f0,f1,f2,f3,f4,f5⟩:=hf it (by simp)
  have hl:=rv.length
  exact wpAny_pyNext_enum_end (I.ok.hd hc) st li p.isList (by simp; omega) fun h' eb=>⟨rfl,I.turned (t':=s.toks) (fun b o hb e=>eb b o hb e) f0 f1 f3 f4 f5⟩
 self:=fun _ _ _ _ _ st h=>by
  obtain⟨ne,⟨old,st⟩,li⟩:=st
  exact wpAny_pyIter_enum st h
def EnStep (K:PySem.W.Frag) (vs:List V) (H:Hp) (R:It->Hp->Prop):Prop:=∃a xs,vs=[.ref a]/\SqL K H a xs/\R (Ite K a) H
def XX (K:PySem.W.Frag) (ta:TA):TI:=fun σ H R=>ta σ H fun vs H1=>EnStep K vs H1 R
theorem xl {K:PySem.W.Frag} {ta:TA} {σ:St} {H:Hp} {R:It->Hp->Prop}:XX K ta σ H R=ta σ H fun vs H1=>EnStep K vs H1 R:=rfl
theorem pi_enumK {X:Cx} {K:PySem.W.Frag} {elts:List Expr} {kk:_} {tpos:Pos} {a:Expr} {ta:TA} {p pos:Pos} (hK:X.K=K) (hg:Gl X "enumerate") (hm:X.mg "enumerate" = none) (ha:PA X [a] ta) (hs:starEach [a] X.env=[(false,eval a X.env)]:=by rfl):PI X (.Tuple elts kk tpos) (.Call (.Name "enumerate" p) [a] [] pos) (XX K ta):=by
 subst hK
 intro pins s σ H R I h
 refine Call_ (zW I hg hm boot_enumerate (PyProof.Rows.callWith_type1 (thn (ha pos pins s σ H _ I h) fun us s1 ⟨vs,H1,I1,r1,q1⟩=>?_) hs rfl))
 obtain⟨l,xs,e,hq,q⟩:=q1
 subst e
 cases r1 with
 |cons r rr =>
  cases rr
  cases r
  obtain⟨its,rv,pl,hz⟩:=I1.list hq
  refine call_enumerate_list pl.isList fun h' en li sz kp=>wpAny_pyIter_enum en ?_
  have I2:Inv X pins σ H1 { s1 with heap:=h' }:=I1.kept (t':=s1.toks) kp
  refine⟨s1.heap.objs.size+1, [s1.heap.objs.size+1,s1.heap.objs.size],_,_,H1,rfl,I2,Zs l _ _,⟨Nat.succ_ne_self _,⟨_,en⟩,li⟩,fun b hb=>?_,q⟩
  rcases List.mem_cons.mp hb with z|z
  ·subst z
   exact I1.fpOk (Nat.le_succ _) (I1.hok.fresh (Nat.le_succ _))
  ·have z:b=s1.heap.objs.size:=by simpa using z
   subst z
   exact I1.fpOk (Nat.le_refl _) (I1.hok.fresh (Nat.le_refl _))
def rNeL (K:PySem.W.Frag):R2:=fun x y H Q=>∃a b xs ys,x=.ref a/\y=.ref b/\SqL K H a xs/\SqL K H b ys/\((xs.length≠ys.length/\Q (.bl true) H)\/(xs.length=ys.length/\∃e:Nat->Bool,(∀(j:Nat) x y,xs[j]?=some x->ys[j]?=some y->DE K H 20 x y (e j))/\Q (.bl (!(List.range xs.length).all e)) H))
def rEqL (K:PySem.W.Frag):R2:=fun x y H Q=>∃a b xs ys,x=.ref a/\y=.ref b/\SqL K H a xs/\SqL K H b ys/\((xs.length≠ys.length/\Q (.bl false) H)\/(xs.length=ys.length/\∃e:Nat->Bool,(∀(j:Nat) x y,xs[j]?=some x->ys[j]?=some y->DE K H 20 x y (e j))/\Q (.bl ((List.range xs.length).all e)) H))
theorem xB {X:Cx} {K:PySem.W.Frag} (hK:X.K=K) (hu:X.A.units+64<cLine):OpR X (compareOp .NotEq) (rNeL K):=by
 subst hK
 intro pins s σ H x y v u Q I rx ry h
 obtain⟨a,b,xs,ys,rfl,rfl,ha,hb,h⟩:=h
 obtain rfl:v=Value.ref a:=rx
 obtain rfl:u=Value.ref b:=ry
 obtain⟨its,r1,p1,_⟩:=I.list ha
 obtain⟨its2,r2,p2,_⟩:=I.list hb
 rcases h with⟨hl,q⟩|⟨hl,e,he,q⟩
 ·exact EqBoolInt.of_rcne (SeqAt.RcNeAt.lists_lengths (A:=X.A) p1.isList p2.isList (by simp[<-r1.length, <-r2.length,hl]) (by omega)) ⟨.bl _,H,I,rfl,q⟩
 ·refine EqBoolInt.of_rcne (SeqAt.RcNeAt.lists (A:=X.A) (e:=e) p1.isList p2.isList (by simp[<-r1.length, <-r2.length,hl]) (by omega) fun j h1 h2=>?_) ⟨.bl _,H,I,rfl, ?_⟩
  ·have l1:j<xs.length:=by rw[r1.length]; simpa using h1
   have l2:j<ys.length:=by rw[r2.length]; simpa using h2
   obtain⟨u1,q1,s1⟩:=r1.get (List.getElem?_eq_getElem l1)
   obtain⟨u2,q2,s2⟩:=r2.get (List.getElem?_eq_getElem l2)
   have e1:its.toArray[j]=u1:=by
    obtain⟨_,z⟩:=List.getElem?_eq_some_iff.mp q1
    simpa using z
   have e2:its2.toArray[j]=u2:=by
    obtain⟨_,z⟩:=List.getElem?_eq_some_iff.mp q2
    simpa using z
   rw[e1,e2]
   exact(he j _ _ (List.getElem?_eq_getElem l1) (List.getElem?_eq_getElem l2)).eqAt I (by rw[vY]; omega) s1 s2
  ·rw[List.size_toArray, <-r1.length]
   exact q
theorem Qy {X:Cx} {K:PySem.W.Frag} (hK:X.K=K) (hu:X.A.units+64<cLine):OpR X (compareOp .Eq) (rEqL K):=by
 subst hK
 intro pins s σ H x y v u Q I rx ry h
 obtain⟨a,b,xs,ys,rfl,rfl,ha,hb,h⟩:=h
 obtain rfl:v=Value.ref a:=rx
 obtain rfl:u=Value.ref b:=ry
 obtain⟨its,r1,p1,_⟩:=I.list ha
 obtain⟨its2,r2,p2,_⟩:=I.list hb
 rcases h with⟨hl,q⟩|⟨hl,e,he,q⟩
 ·exact EqBoolInt.of_rc (SeqAt.RcAt.lists_lengths (A:=X.A) p1.isList p2.isList (by simp[<-r1.length, <-r2.length,hl]) (by omega)) ⟨.bl _,H,I,rfl,q⟩
 ·refine EqBoolInt.of_rc (SeqAt.RcAt.lists (A:=X.A) (e:=e) p1.isList p2.isList (by simp[<-r1.length, <-r2.length,hl]) (by omega) fun j h1 h2=>?_) ⟨.bl _,H,I,rfl, ?_⟩
  ·have l1:j<xs.length:=by rw[r1.length]; simpa using h1
   have l2:j<ys.length:=by rw[r2.length]; simpa using h2
   obtain⟨u1,q1,s1⟩:=r1.get (List.getElem?_eq_getElem l1)
   obtain⟨u2,q2,s2⟩:=r2.get (List.getElem?_eq_getElem l2)
   have e1:its.toArray[j]=u1:=by
    obtain⟨_,z⟩:=List.getElem?_eq_some_iff.mp q1
    simpa using z
   have e2:its2.toArray[j]=u2:=by
    obtain⟨_,z⟩:=List.getElem?_eq_some_iff.mp q2
    simpa using z
   rw[e1,e2]
   exact(he j _ _ (List.getElem?_eq_getElem l1) (List.getElem?_eq_getElem l2)).eqAt I (by rw[vY]; omega) s1 s2
  ·rw[List.size_toArray, <-r1.length]
   exact q
theorem Ju {α:Type} [DecidableEq α] {ns ms:List α} (hl:ns.length=ms.length):(List.range ns.length).all (fun j=>ns[j]?==ms[j]?)=decide (ns=ms):=by
 rw[Bool.eq_iff_iff,decide_eq_true_iff,List.all_eq_true]
 constructor
 ·intro h
  refine List.ext_getElem? fun j=>?_
  by_cases hj:j<ns.length
  ·exact eq_of_beq (h j (List.mem_range.mpr hj))
  ·rw[List.getElem?_eq_none (by omega),List.getElem?_eq_none (by omega)]
 ·rintro rfl j _
  simp
def ixRev (n:Nat):List Nat:=sliceRange (sliceBounds none none (some (-1)) n).1 (sliceBounds none none (some (-1)) n).2.1 (sliceBounds none none (some (-1)) n).2.2
def pickV (xs:List V):List V:=(ixRev xs.length).filterMap fun i=>xs[i]?
def RevStep (K:PySem.W.Frag) (x:V) (H:Hp) (Q:VK):Prop:=∃a xs,x=.ref a/\SqL K H a xs/\∀r,H r=none->Q (.ref r) (upd H r (.lst (pickV xs)))
def tRev (K:PySem.W.Frag) (te:TE):TE:=fun σ H Q=>te σ H fun x H1=>RevStep K x H1 Q
def Xl:Expr->Bool
 |.Starred _ _=>false
 |_=>true
theorem Zu {e:Expr} {es:List Expr} {env:Env} (h:Xl e=true):starEach (e::es) env=(false,eval e env)::starEach es env:=by
 cases e<;>first|rfl|cases h
theorem pa_c {X:Cx} {e:Expr} {es:List Expr} {te:TE} {t:TA} (ha:PE X e te) (hr:PA X es t) (h:Xl e=true:=by rfl):PA X (e::es) (vm te t):=pa_cons ha hr (Zu h)
structure QE (X:Cx) (e:Expr) (t:TE):Prop where
 h:PE X e t
structure QT (X:Cx) (e:Expr) (t:TT):Prop where
 h:PT X e t
structure QW (X:Cx) (e:Expr) (t:TT):Prop where
 h:PW X e t
structure QA (X:Cx) (e:List Expr) (t:TA):Prop where
 h:PA X e t
structure QS (X:Cx) (e:Stmt) (t:TS):Prop where
 h:PS X e t
structure QSs (X:Cx) (e:List Stmt) (t:TS):Prop where
 h:PSs X e t
structure QG (X:Cx) (e:Expr) (t:TG):Prop where
 h:PG X e t
structure QTs (X:Cx) (e:List Expr) (t:TT):Prop where
 h:PTs X e t
structure QO (X:Cx) (e:Option Expr) (t:TO):Prop where
 h:PO X e t
structure QI (X:Cx) (tg e:Expr) (t:TI):Prop where
 h:PI X tg e t
structure QPs (X:Cx) (pos:Pos) (ks:List (Option Expr)) (vs:List Expr) (t:List (TE×TE)):Prop where
 h:PPs X pos ks vs t
section
variable {X:Cx}
theorem qN  : QSs X [] j6:=⟨pss_nil ⟩
end
section
variable {X:Cx} {st:Stmt} {t:TS}
theorem qh (h1:QS X st t):QSs X [st] t:=⟨pss_one h1.h⟩
end
section
variable {X:Cx} {st:Stmt} {rest:List Stmt} {t u:TS}
theorem qd (h1:QS X st t) (h2:QSs X rest u):QSs X (st::rest) (tSeq t u):=⟨pss_cons h1.h h2.h⟩
end
section
variable {X:Cx} {elt tg iter:Expr} {ifs:List Expr} {scope:Scope} {bs:List Bool} {ext:List Str} {pos:Pos} {wi:TI} {g:TG} {tt:TT} {te:TE}
theorem ZV {i:Nat} {x:Str} {pos' spos:Pos} (bs:List Bool) (ext:List Str) (hN:X.N.Nodup) (hix:X.N[i]?=some x) (hx:X.env.scope.names.lookup x=some .local) (hi:QI X tg iter wi) (hg:∀fp s H,QG (cxB X scope ext fp s H) tg g) (ht:∀fp s H,QTs (cxB X scope ext fp s H) ifs tt) (he:∀fp s H,QE (cxB X scope ext fp s H) elt te) (hk:zO scope X.env X.N bs=true:=by rfl) (hc:X.calm=true:=by rfl) (hsw:swapsWith (.ListComp elt [⟨tg,iter,ifs,0⟩] scope pos) (some (.Name x pos')) spos.line X.env=pure true:=by rfl) (hs:∀x,foldedSetIterable iter X.env x=pure x:=by intro _; rfl):QS X (.Assign [.Name x pos'] (.ListComp elt [⟨tg,iter,ifs,0⟩] scope pos) spos) (tAsg (zn wi bs ext.length g tt te) (qt i)):=⟨ps_lc bs ext hN hix hx hi.h (fun fp s H=>(hg fp s H).h) (fun fp s H=>(ht fp s H).h) (fun fp s H=>(he fp s H).h) hk hc hsw hs⟩
end
section
variable {X:Cx} {pos:Pos}
theorem qR {i:Nat} {x:Str} {e:Expr} {te:TE} {pos':Pos} (hN:X.N.Nodup) (hi:X.N[i]?=some x) (hx:Loc X.env.scope x) (he:QE X e te) (hs:swapsWith e (some (.Name x pos')) pos.line X.env=pure false:=by rfl) (hf:X.fn x=true\/X.env.scope.names.lookup x=some .local:=by first|exact .inl rfl|exact .inr rfl|assumption):QS X (.Assign [.Name x pos'] e pos) (tAsg te (qt i)):=⟨ps_set hN hi hx he.h hs hf⟩
end
section
variable {X:Cx} {pos:Pos}
theorem zu {tg e:Expr} {te:TE} {g:TG} (he:QE X e te) (hg:QG X tg g) (hs:swapsWithSole [tg] e pos.line X.env=pure false:=by rfl) (hw:swappedStores [tg] e X.env=pure none:=by rfl) (h1:(assignEach [tg] X.env).map (·.2)=[assign tg X.env]:=by rfl):QS X (.Assign [tg] e pos) (tAsg te g):=⟨ps_asg he.h hg.h hs hw h1⟩
end
section
variable {X:Cx} {pos:Pos}
theorem qs_aug {i:Nat} {x:Str} {e:Expr} {te:TE} {op:Operator} {ti:TIp} {pos':Pos} (hN:X.N.Nodup) (hi:X.N[i]?=some x) (hx:Loc X.env.scope x) (he:QE X e te) (ho:PIp X op ti) (hf:X.fn x=true\/X.env.scope.names.lookup x=some .local:=by first|exact .inl rfl|exact .inr rfl|assumption):QS X (.AugAssign (.Name x pos') op e pos) (tAug i te ti):=⟨ps_aug hN hi hx he.h ho hf⟩
end
section
variable {X:Cx} {e:Expr} {te:TE} {pos:Pos}
theorem qw (he:QE X e te):QS X (.Return (some e) pos) (tRet te):=⟨ps_ret he.h⟩
end
section
variable {X:Cx} {t u:TS} {pos:Pos}
theorem vF {c:Expr} {a b:List Stmt} {tc:TT} (hc:QT X c tc) (ha:QSs X a t) (hb:QSs X b u):QS X (.If c a b pos) (tIfS tc t u):=⟨ps_if hc.h ha.h hb.h⟩
end
section
variable {X:Cx} {tg:Expr}
theorem zS {iter:Expr} {body:List Stmt} {wi:TI} {g:TG} {tb:TS} {pos:Pos} (hp:PassesOwn (model X.prog X.w) X.A X.env X.xe) (hc:X.calm=true) (hi:QI X tg iter wi) (hg:QG X tg g) (hb:QSs X body tb) (hs:∀x,foldedSetIterable iter X.env x=pure x:=by intro _; rfl):QS X (.For tg iter body [] pos) (tFor wi g tb):=⟨ps_for hp hc hi.h hg.h hb.h hs⟩
end
section
variable {X:Cx} {pos:Pos}
theorem Vh {c:Expr} {body:List Stmt} {tc:TT} {tb:TS} (hp:PassesOwn (model X.prog X.w) X.A X.env X.xe) (hc:QT X c tc) (hb:QSs X body tb):QS X (.While c body [] pos) (Va tc tb):=⟨ps_while hp hc.h hb.h⟩
end
section
variable {X:Cx} {e:Expr} {te:TE} {pos:Pos}
theorem xr (he:QE X e te) (hs:swapsWith e none pos.line X.env=pure false:=by rfl):QS X (.Expr e pos) (j7 te):=⟨ps_expr he.h hs⟩
end
section
variable {X:Cx} {tg:Expr}
theorem vV {a:Expr} {ta:TA} {p pos:Pos} (hg:Gl X "range") (hm:X.mg "range" = none) (ha:QA X [a] ta) (hs:starEach [a] X.env=[(false,eval a X.env)]:=by rfl):QI X tg (.Call (.Name "range" p) [a] [] pos) (XW ta):=⟨Z3 hg hm ha.h hs⟩
end
section
theorem qi_enumK {X:Cx} {K:PySem.W.Frag} {elts:List Expr} {kk:_} {tpos:Pos} {a:Expr} {ta:TA} {p pos:Pos} (hK:X.K=K) (hg:Gl X "enumerate") (hm:X.mg "enumerate" = none) (ha:QA X [a] ta) (hs:starEach [a] X.env=[(false,eval a X.env)]:=by rfl):QI X (.Tuple elts kk tpos) (.Call (.Name "enumerate" p) [a] [] pos) (XX K ta):=⟨pi_enumK hK hg hm ha.h hs⟩
end
section
variable {X:Cx} {K:PySem.W.Frag}
theorem qC {tg l:Expr} {tl:TE} (h:X.K=K) (hl:QE X l tl):QI X tg l (V9 K tl):=⟨pi_listK h hl.h⟩
end
section
variable {X:Cx} {pos:Pos}
theorem qU {i:Nat} {x:Str} (hN:X.N.Nodup) (hi:X.N[i]?=some x) (hx:Loc X.env.scope x) (hf:X.fn x=true\/X.env.scope.names.lookup x=some .local:=by first|exact .inl rfl|exact .inr rfl|assumption):QG X (.Name x pos) (qt i):=⟨zK hN hi hx hf⟩
end
section
variable {X:Cx} {K:PySem.W.Frag}
theorem xt {i j:Nat} {x y:Str} {px py pos:Pos} {kk:Nat} (h:X.K=K) (hN:X.N.Nodup) (hc:X.calm=true) (hi:X.N[i]?=some x) (hj:X.N[j]?=some y) (lx:Loc X.env.scope x) (ly:Loc X.env.scope y) (fx:X.fn x=true\/X.env.scope.names.lookup x=some .local) (fy:X.fn y=true\/X.env.scope.names.lookup y=some .local):QG X (.Tuple [.Name x px, .Name y py] kk pos) (gTup K 2 (qS (qt i) (qS (qt j) gNil))):=⟨pg_t2K h hN hc hi hj lx ly fx fy⟩
end
section
variable {X:Cx} {K:PySem.W.Frag}
theorem Vi {i j k:Nat} {x y z:Str} {px py pz pos:Pos} {kk:Nat} (h:X.K=K) (hN:X.N.Nodup) (hc:X.calm=true) (hi:X.N[i]?=some x) (hj:X.N[j]?=some y) (hk:X.N[k]?=some z) (lx:Loc X.env.scope x) (ly:Loc X.env.scope y) (lz:Loc X.env.scope z) (fx:X.fn x=true\/X.env.scope.names.lookup x=some .local) (fy:X.fn y=true\/X.env.scope.names.lookup y=some .local) (fz:X.fn z=true\/X.env.scope.names.lookup z=some .local):QG X (.Tuple [.Name x px, .Name y py, .Name z pz] kk pos) (gTup K 3 (qS (qt i) (qS (qt j) (qS (qt k) gNil)))):=⟨pg_t3K h hN hc hi hj hk lx ly lz fx fy fz⟩
end
section
variable {X:Cx} {pos:Pos}
theorem xX {o i:Expr} {to ti:TE} {t:TSet} (ho:QE X o to) (hi:QE X i ti) (hs:PSet X t) (ha:∀v,assign (.Subscript o i pos) X.env v=(do
   let ov <-holding [v] (eval o X.env)
   let iv <-holding [v,ov] (eval i X.env)
   standAt pos
   holding [v,ov,iv] (setItem ov iv v)
   release [v,ov,iv] []):=by intro _; rfl):QG X (.Subscript o i pos) (gSub to ti t):=⟨pg_sub ho.h hi.h hs ha⟩
end
section
theorem vz {X:Cx}:QTs X [] tYes:=⟨pts_nil ⟩
end
section
theorem zF {X:Cx} {c:Expr} {t:TT} (h:QT X c t):QTs X [c] t:=⟨pts_one h.h⟩
end
section
theorem qa_c {X:Cx} {e:Expr} {es:List Expr} {te:TE} {t:TA} (ha:QE X e te) (hr:QA X es t) (h:Xl e=true:=by rfl):QA X (e::es) (vm te t):=⟨pa_c ha.h hr.h h⟩
end
section
variable {X:Cx}
theorem qe  : QA X [] tNil:=⟨pa_nil ⟩
end
section
variable {X:Cx} {a b:Expr} {ta tb:TE} {pos:Pos}
theorem qm {op:CmpOp} {r:R2} (ho:OpR X (compareOp op) r) (ha:QE X a ta) (hb:QE X b tb) (hm:behindInMarks op b=false):QT X (.Compare a [op] [b] pos) (jp (tOp r ta tb)):=⟨pt_cmpR ho ha.h hb.h hm⟩
end
section
theorem Qp {X:Cx} {e:Expr} {t:TT} (h:QW X e t):QT X e t:=⟨PW.pt h.h⟩
end
section
variable {X:Cx}
variable {a b:Expr} {pos:Pos}
variable {tA tB':TT} {rest:List Expr}
theorem qw_and (ha:QT X a tA) (hb:QW X (.BoolOp .And (b::rest) pos) tB'):QW X (.BoolOp .And (a::b::rest) pos) (tAnd tA tB'):=⟨pw_and ha.h hb.h⟩
end
section
variable {X:Cx}
variable {a:Expr} {pos:Pos}
variable {tA:TT}
theorem qw_and1 (ha:QT X a tA):QW X (.BoolOp .And [a] pos) tA:=⟨pw_and1 ha.h⟩
end
section
variable {X:Cx}
variable {a b:Expr} {pos:Pos}
variable {tA tB':TT} {rest:List Expr}
theorem xb (ha:QT X a tA) (hb:QW X (.BoolOp .Or (b::rest) pos) tB'):QW X (.BoolOp .Or (a::b::rest) pos) (tOr tA tB'):=⟨pw_or ha.h hb.h⟩
end
section
variable {X:Cx}
variable {a:Expr} {pos:Pos}
variable {tA:TT}
theorem xW (ha:QT X a tA):QW X (.BoolOp .Or [a] pos) tA:=⟨pw_or1 ha.h⟩
end
section
variable {X:Cx}
variable {a:Expr} {pos:Pos}
variable {tA:TT}
theorem vU (ha:QT X a tA):QT X (.UnaryOp .Not a pos) (tNot tA):=⟨pt_not ha.h⟩
end
section
variable {X:Cx}
variable {pos:Pos}
theorem vT {e:Expr} {t:TE} (h:QE X e t) (he:∀whole,isTrue e X.env whole=(do let v <-whole; standAt e.pos; holding [v] (truthy v)):=by intro _; rfl):QT X e (tB t):=⟨pt_val h.h he⟩
end
section
variable {X:Cx} {K:PySem.W.Frag}
theorem ZU {a:Expr} {ta:TE} (h:X.K=K) (ha:QE X a ta) (he:∀whole,isTrue a X.env whole=(do let v <-whole; standAt a.pos; holding [v] (truthy v))):QT X a (tTru K ta):=⟨Z1 h ha.h he⟩
end
section
variable {X:Cx}
theorem xu {j pos}:QE X (.Constant .none j pos) (tC .non):=⟨pe_non ⟩
end
section
variable {X:Cx}
theorem zJ {b j pos}:QE X (.Constant (.bool b) j pos) (tC (.bl b)):=⟨pe_bl ⟩
end
section
variable {X:Cx}
theorem qc {i j pos}:QE X (.Constant (.int i) j pos) (tC (.int i)):=⟨pe_int ⟩
end
section
variable {X:Cx}
theorem vM {x j pos}:QE X (.Constant (.str x) j pos) (tC (.str x)):=⟨pe_str ⟩
end
section
variable {X:Cx}
theorem qv (i:Nat) {x:Str} {pos:Pos} (hN:X.N[i]?=some x:=by rfl) (hv:Vis X.env.scope x:=by first|exact Or.inl rfl|exact Or.inr (Or.inl rfl)|exact Or.inr (Or.inr rfl)) (hd:(x==("__debug__" : Str))=false:=by decide) (hcd:(x==("__classdict__" : Str))=false:=by decide):QE X (.Name x pos) (tVar i):=⟨pv i hN hv hd hcd⟩
end
section
variable {X:Cx} {a:Expr} {ta:TE} {pos:Pos}
theorem qe_un {op:UnaryOp} {r:V->Hp->VK->Prop} (ho:UnR X (unaryOp op) r) (ha:QE X a ta):QE X (.UnaryOp op a pos) (tUn r ta):=⟨pe_un ho ha.h⟩
end
section
variable {X:Cx}
variable {a:Expr} {ta:TE} {pos:Pos}
theorem qe_not (ha:QE X a ta):QE X (.UnaryOp .Not a pos) (j5 ta):=⟨pe_not ha.h⟩
end
section
variable {X:Cx} {a b:Expr} {ta tb:TE} {pos:Pos}
theorem qB {op:Operator} {r:R2} (ho:OpR X (binaryOp op) r) (ha:QE X a ta) (hb:QE X b tb):QE X (.BinOp a op b pos) (tOp r ta tb):=⟨pe_op ho ha.h hb.h⟩
end
section
variable {X:Cx} {a b:Expr} {ta tb:TE} {pos:Pos}
theorem Qq {op:CmpOp} {r:R2} (ho:OpR X (compareOp op) r) (ha:QE X a ta) (hb:QE X b tb) (hm:behindInMarks op b=false):QE X (.Compare a [op] [b] pos) (tOp r ta tb):=⟨pe_cmpR ho ha.h hb.h hm⟩
end
section
variable {X:Cx} {a b c:Expr} {ta tb tc:TE} {pos:Pos}
theorem Vj {op op':CmpOp} {r r':R2} (ho:OpR X (compareOp op) r) (ho':OpR X (compareOp op') r') (ha:QE X a ta) (hb:QE X b tb) (hc:QE X c tc) (hm:lastMarks [op,op'] [b,c]=false:=by with_unfolding_all rfl):QE X (.Compare a [op,op'] [b,c] pos) (zR r r' ta tb tc):=⟨pe_chain ho ho' ha.h hb.h hc.h hm⟩
end
section
variable {X:Cx}
variable {a:Expr} {pos:Pos}
theorem qe_one {op} {t:TE} (h:QE X a t):QE X (.BoolOp op [a] pos) t:=⟨pe_one h.h⟩
end
section
variable {X:Cx}
variable {a b:Expr} {ta tb:TE} {pos:Pos}
variable {rest:List Expr}
theorem qe_and (ha:QE X a ta) (hb:QE X (.BoolOp .And (b::rest) pos) tb):QE X (.BoolOp .And (a::b::rest) pos) (j8 ta tb):=⟨pe_and ha.h hb.h⟩
end
section
variable {X:Cx}
variable {a b:Expr} {ta tb:TE} {pos:Pos}
variable {tA:TT}
theorem qe_ifExp {c:Expr} (hc:QT X c tA) (ha:QE X a ta) (hb:QE X b tb):QE X (.IfExp c a b pos) (tIf tA ta tb):=⟨pe_ifExp hc.h ha.h hb.h⟩
end
section
variable {X:Cx} {es:List Expr} {t:TA} {pos:Pos}
theorem qV (h:QA X es t):QE X (.List es pos) (tLst t):=⟨pe_lst h.h⟩
end
section
variable {X:Cx} {es:List Expr} {t:TA} {pos:Pos}
theorem vW {x1} (h:QA X es t):QE X (.Tuple es x1 pos) (tTup t):=⟨pe_tup h.h⟩
end
section
variable {X:Cx} {e:Expr} {te:TE} {lo hi:Option Expr} {tl th:TO} {pos p2:Pos}
theorem zb {r:V->Option Int->Option Int->Hp->VK->Prop} (hr:SlR X r) (he:QE X e te) (hl:QO X lo tl) (hu:QO X hi th):QE X (.Subscript e (.Slice lo hi none p2) pos) (tSl r te tl th):=⟨pe_slice hr he.h hl.h hu.h⟩
end
section
variable {X:Cx} {e:Expr} {te:TE}
theorem zG (h:QE X e te):QO X (some e) (j4 te):=⟨po_some h.h⟩
end
section
variable {X:Cx}
theorem zH  : QO X none vR:=⟨po_none ⟩
end
section
variable {X:Cx} {a b:Expr} {ta tb:TE} {pos:Pos}
theorem qL {r:R2} (hr:IxR X r) (ha:QE X a ta) (hb:QE X b tb) (hs:Jv b):QE X (.Subscript a b pos) (tOp r ta tb):=⟨pe_ix hr ha.h hb.h hs⟩
end
section
variable {X:Cx} {o i:Expr} {pos:Pos} {td ty:TE}
theorem ZZ (hu:X.A.units+1<cLine) (ho:QE X o td) (hi:QE X i ty) (hs:NoSl i):QE X (.Subscript o i pos) (tDGet td ty):=⟨pe_dget hu ho.h hi.h hs⟩
end
section
variable {X:Cx} {elt tg iter:Expr} {ifs:List Expr} {scope:Scope} {bs:List Bool} {ext:List Str} {pos:Pos} {wi:TI} {g:TG} {tt:TT} {te:TE}
theorem zI (bs:List Bool) (ext:List Str) (hi:QI X tg iter wi) (hg:∀fp s H,QG (cxB X scope ext fp s H) tg g) (ht:∀fp s H,QTs (cxB X scope ext fp s H) ifs tt) (he:∀fp s H,QE (cxB X scope ext fp s H) elt te) (hk:zO scope X.env X.N bs=true:=by rfl) (hc:X.calm=true:=by rfl) (hs:∀x,foldedSetIterable iter X.env x=pure x:=by intro _; rfl):QE X (.ListComp elt [⟨tg,iter,ifs,0⟩] scope pos) (zn wi bs ext.length g tt te):=⟨pe_lc bs ext hi.h (fun fp s H=>(hg fp s H).h) (fun fp s H=>(ht fp s H).h) (fun fp s H=>(he fp s H).h) hk hc hs⟩
end
section
theorem qe_disp {X:Cx} {pos:Pos} {keys:List (Option Expr)} {values:List Expr} {trs:List (TE×TE)} (h:QPs X pos keys values trs) (hall:keys.all (·.isSome)=true) (hl:keys.length=values.length) (h0:keys≠[]) (h15:keys.length<=15):QE X (.Dict keys values pos) (tDisp trs):=⟨pe_disp h.h hall hl h0 h15⟩
end
section
theorem qps_nil {X:Cx} {pos:Pos}:QPs X pos [] [] []:=⟨pps_nil ⟩
end
section
theorem zw {X:Cx} {pos:Pos} {k v:Expr} {ks:List (Option Expr)} {vs:List Expr} {tk tv:TE} {trs:List (TE×TE)} (hk:QE X k tk) (hv:QE X v tv) (hr:QPs X pos ks vs trs):QPs X pos (some k::ks) (v::vs) ((tk,tv)::trs):=⟨pps_cons hk.h hv.h hr.h⟩
end
section
variable {X:Cx} {x:Str} {k:Nat} {ps:List Str} {sp:Sp} {p pos:Pos} {e:Expr} {es:List Expr} {t:TA}
theorem qI (D:Def X.prog X.w X.K X.mg X.base x k ps sp) (hr:Room k X.A) (ha:QA X (e::es) t) (hg:Gl X x:=by rfl) (hdb:(x==("__debug__" : Str))=false:=by decide) (he:starEach (e::es) X.env=(false,eval e X.env)::starEach es X.env:=by rfl) (hpl:(backTo pos (starEach es X.env)).any (·.1)=false:=by rfl):QE X (.Call (.Name x p) (e::es) [] pos) (vK sp [] E0 t):=⟨pe_def D hr ha.h hg hdb he hpl⟩
end
section
variable {X:Cx} {x:Str} {k:Nat} {ps:List Str} {sp:Sp} {p pos:Pos}
theorem jA (D:Def X.prog X.w X.K X.mg X.base x k ps sp) (hr:Room k X.A) (hg:Gl X x:=by rfl) (hdb:(x==("__debug__" : Str))=false:=by decide):QE X (.Call (.Name x p) [] [] pos) (vK sp [] E0 tNil):=⟨pe_def0 D hr hg hdb⟩
end
section
variable {X:Cx} {x:Str} {p pos:Pos} {e:Expr} {es:List Expr} {t:TA} {id:String} {r:List V->Hp->VK->Prop}
theorem qQ (hc:vP X (.builtin id) r) (hg:Gl X x) (hm:X.mg x=none) (hv:bootBuiltins x=some (.builtin id)) (ha:QA X (e::es) t) (hn:x ≠ "__name__" := by decide) (hdb:(x==("__debug__" : Str))=false:=by decide) (he:starEach (e::es) X.env=(false,eval e X.env)::starEach es X.env:=by rfl) (hpl:(backTo pos (starEach es X.env)).any (·.1)=false:=by rfl):QE X (.Call (.Name x p) (e::es) [] pos) (tCB r t):=⟨pe_callB hc hg hm hv ha.h hn hdb he hpl⟩
end
section
variable {X:Cx} {x:Str} {p pos:Pos} {e:Expr} {es:List Expr} {t:TA} {T:String} {r:List V->Hp->VK->Prop}
theorem xw (hc:vP X (.type T) r) (hg:Gl X x) (hm:X.mg x=none) (hv:bootBuiltins x=some (.type T)) (ha:QA X (e::es) t) (hn:x ≠ "__name__" := by decide) (hdb:(x==("__debug__" : Str))=false:=by decide) (he:starEach (e::es) X.env=(false,eval e X.env)::starEach es X.env:=by rfl) (hpl:(backTo pos (starEach es X.env)).any (·.1)=false:=by rfl):QE X (.Call (.Name x p) (e::es) [] pos) (tCB r t):=⟨Z6 hc hg hm hv ha.h hn hdb he hpl⟩
end
section
variable {X:Cx}
theorem xy {x:Str} {v:V} {u:Value} {pos:Pos} (hg:Gl X x) (hm:X.mg x=none) (hv:bootBuiltins x=some u) (r:RelV v u) (hn:x ≠ "__name__" := by decide) (hd:(x==("__debug__" : Str))=false:=by decide):QE X (.Name x pos) (tC v):=⟨pe_bltn hg hm hv r hn hd⟩
end
section
variable {X:Cx}
variable {o:Expr} {to:TE} {name:Str} {apos cpos:Pos} {T id:String} {r:V->List V->Hp->VK->Prop}
theorem qe_bm0 (pa:PlainAttrs T) (slot:Slot T name id) (hty:typeOf (.builtin id)=pure (.type "method_descriptor")) (hm:MtR X id r) (ho:QE X o to) (hbase:attributeBase o name X.env (eval o X.env)=eval o X.env:=by rfl) (hline:(apos.endLine==cpos.line)=true:=by rfl):QE X (.Call (.Attribute o name apos) [] [] cpos) (tBM0 X.K T r to):=⟨pe_bm0 pa slot hty hm ho.h hbase hline⟩
end
section
variable {X:Cx}
theorem qe_lm {o e:Expr} {es:List Expr} {to:TE} {t:TA} {name:Str} {apos cpos:Pos} {id:String} {r:V->List V->Hp->VK->Prop} (slot:Slot "list" name id) (hty:typeOf (.builtin id)=pure (.type "method_descriptor")) (hm:MtR X id r) (ho:QE X o to) (ha:QA X (e::es) t) (hbase:attributeBase o name X.env (eval o X.env)=eval o X.env:=by rfl) (hfew:((backTo cpos (starEach (e::es) X.env)).all (fun x => !x.1)&&(backToKw cpos (keywordEach [] X.env)).all (fun x=>x.1.isSome)
   && decide ((e::es).length+([]:List Keyword).length+(if([]:List Keyword).isEmpty then 0 else 1)<30))=true:=by rfl) (hline:(apos.endLine==cpos.line)=true:=by rfl) (hs:starEach (e::es) X.env=(false,eval e X.env)::starEach es X.env:=by rfl) (hplain:(backTo cpos (starEach es X.env)).any (·.1)=false:=by rfl):QE X (.Call (.Attribute o name apos) (e::es) [] cpos) (tLM r to t):=⟨pe_lm slot hty hm ho.h ha.h hbase hfew hline hs hplain⟩
end
section
theorem ZY {X:Cx} {x:Str} {n:Int} {pos:Pos} (G:GInt X.mg x n) (hg:Gl X x) (hd:(x==("__debug__" : Str))=false:=by decide):QE X (.Name x pos) (tC (.int n)):=⟨pe_gint G hg hd⟩
end
section
variable {X:Cx} {o i value:Expr} {pos pos':Pos} {td ty tv:TE}
theorem qs_dput (hu:X.A.units+1<cLine) (ho:QE X o td) (hi:QE X i ty) (hv:QE X value tv) (hs:swapsWith value (some (.Subscript o i pos')) pos.line X.env=pure false:=by rfl):QS X (.Assign [.Subscript o i pos'] value pos) (sDPut td ty tv):=⟨ps_dput hu ho.h hi.h hv.h hs⟩
theorem qe_dnew:QE X (.Dict [] [] pos) Vc:=⟨pe_dnewK⟩
theorem ZW {x:Str} {v:V} {u:Value} {pos:Pos} (hg:Gl X x) (hm:X.mg x=some u) (r:RelV v u) (hd:(x==("__debug__" : Str))=false:=by decide):QE X (.Name x pos) (tC v):=⟨Z5 hg hm r hd⟩
end
def Obk (h h':Heap):Prop:=∀(b:Nat) (o:Obj),h.objs[b]?=some o->∃o',h'.objs[b]?=some o'/\o'.dict=o.dict
theorem Obk.refl (h:Heap):Obk h h:=fun b o e=>⟨o,e,rfl⟩
theorem Obk.trans {h h' h'':Heap} (x:Obk h h') (y:Obk h' h''):Obk h h'':=fun b o e=>by
 obtain⟨o',e',d'⟩:=x b o e
 obtain⟨o2,e2,d2⟩:=y b o' e'
 exact⟨o2,e2,d2.trans d'⟩
theorem Obk.push (h:Heap) (o:Obj):Obk h (h.push o):=fun b u e=>⟨u,by
 have hb:b<h.objs.size:=(Array.getElem?_eq_some_iff.mp e).1
 cases h
 simp only[Heap.push] at e hb ⊢
 rw[Array.getElem?_push,if_neg (Nat.ne_of_lt hb)]; exact e,rfl⟩
theorem Obk.update (h:Heap) (a:Addr) {f:Obj->Obj} (hf:∀o,(f o).dict=o.dict):Obk h (h.update a f):=fun b u e=>by
 cases h
 simp only[Heap.update] at e ⊢
 rw[Array.getElem?_modify]
 split
 ·exact⟨f u,by rw[e]; rfl,hf u⟩
 ·exact⟨u,e,rfl⟩
def DK {α:Type}:Sem α->Prop
 |.pure _=>True
 |.raise _=>True
 |.unsupported _=>True
 |.finish _=>True
 |.rule _ k=>DK (k ())
 |.at _ k=>DK (k ())
 |.load _ _ k=>∀o,DK (k o)
 |.update _ _ f k=>(∀o,(f o).dict=o.dict)/\DK (k ())
 |.alloc _ k=>∀a,DK (k a)
 |.loadIfAlive _ k=>∀o,DK (k o)
 |.point _ k=>DK (k ())
 |.register _ _=>True
 |.fresh k=>∀t,DK (k t)
 |.ask k=>∀x,DK (k x)
 |.choose _ _ k=>∀n,DK (k n)
 |.os _ _ k=>∀r,DK (k r)
 |.call _ _ _ _ _=>False
 |.handled _ k=>∀x,DK (k x)
 |.newGen _ k=>∀n,DK (k n)
 |.genState _ k=>∀x,DK (k x)
 |.resume _ _ _ _=>False
 |.yield _ _ _ _=>True
 |.stack k=>∀l,DK (k l)
 |.fork _ _=>True
 |.thread k=>∀n,DK (k n)
 |.await _ _ _ _ _=>True
theorem DK.wp {α:Type} {M:Model} {Γ:PySem.Ctx}:∀{t:Sem α} {Q:α->Pos->Shared->Prop} {E:Value->Pos->Shared->Prop} {p:Pos} {s:Shared},DK t->Sem.wp M Γ t Q E p s ->
  Sem.wp M Γ t (fun a p' s'=>Q a p' s'/\Obk s.heap s'.heap) (fun e p' s'=>E e p' s'/\Obk s.heap s'.heap) p s:=by
 intro t
 induction t with
 |pure a=>intro Q E p s _ h; rw[Sem.wp] at h ⊢; exact⟨h, .refl _⟩
 |raise e=>intro Q E p s _ h; rw[Sem.wp] at h ⊢; exact⟨h, .refl _⟩
 |unsupported x=>intro Q E p s _ h; rw[Sem.wp] at h; exact h.elim
 |finish x=>intro Q E p s _ h; rw[Sem.wp] at h; exact h.elim
 |rule x k ih=>intro Q E p s d h; rw[Sem.wp] at h ⊢; exact ih () d h
 | «at» x k ih=>intro Q E p s d h; rw[Sem.wp] at h ⊢; exact ih () d h
 |load a x k ih=>intro Q E p s d h; rw[Sem.wp] at h ⊢; obtain⟨o,e,h⟩:=h; exact⟨o,e,ih o (d o) h⟩
 |update a x f k ih =>
  intro Q E p s d h; rw[Sem.wp] at h ⊢
  refine⟨h.1,Sem.wp_mono M Γ _ (fun a p' s' z=>⟨z.1,(Obk.update _ _ d.1).trans z.2⟩) (fun a p' s' z=>⟨z.1,(Obk.update _ _ d.1).trans z.2⟩) _ _ (ih () d.2 h.2)⟩
 |alloc o k ih =>
  intro Q E p s d h; rw[Sem.wp] at h ⊢
  exact Sem.wp_mono M Γ _ (fun a p' s' z=>⟨z.1,(Obk.push _ _).trans z.2⟩) (fun a p' s' z=>⟨z.1,(Obk.push _ _).trans z.2⟩) _ _ (ih _ (d _) h)
 |loadIfAlive a k ih=>intro Q E p s d h; rw[Sem.wp] at h ⊢; exact ih _ (d _) h
 |point x k ih=>intro Q E p s d h; rw[Sem.wp] at h ⊢; exact ih () d h
 |register a k ih=>intro Q E p s d h; rw[Sem.wp] at h; exact h.elim
 |fresh k ih=>intro Q E p s d h; rw[Sem.wp] at h ⊢; exact ih _ (d _) h
 |ask k ih=>intro Q E p s d h; rw[Sem.wp] at h ⊢; exact ih _ (d _) h
 |choose x n k ih=>intro Q E p s d h; rw[Sem.wp] at h ⊢; exact⟨h.1,ih _ (d _) h.2⟩
 |os q l k ih=>intro Q E p s d h; rw[Sem.wp] at h ⊢; exact ih _ (d _) h
 |call c x g l k ih=>intro Q E p s d h; exact d.elim
 |handled x k ih=>intro Q E p s d h; rw[Sem.wp] at h ⊢; exact ih _ (d _) h
 |newGen c k ih=>intro Q E p s d h; rw[Sem.wp] at h ⊢; exact ih _ (d _) h
 |genState g k ih=>intro Q E p s d h; rw[Sem.wp] at h ⊢; obtain⟨o,e,h⟩:=h; exact⟨o,e,ih _ (d _) h⟩
 |resume g r l k ih=>intro Q E p s d h; exact d.elim
 |yield v g l k ih=>intro Q E p s d h; rw[Sem.wp] at h; exact h.elim
 |stack k ih=>intro Q E p s d h; rw[Sem.wp] at h ⊢; exact ih _ (d _) h
 |fork c k ih=>intro Q E p s d h; rw[Sem.wp] at h; exact h.elim
 |thread k ih=>intro Q E p s d h; rw[Sem.wp] at h ⊢; exact ih _ (d _) h
 |await a f b l k ih=>intro Q E p s d h; rw[Sem.wp] at h; exact h.elim
theorem DK.any {α:Type} {M:Model} {A:Around} {t:Sem α} {Q:α->Shared->Prop} {E:Value->Shared->Prop} {s:Shared} (d:DK t) (h:wpAny M A t Q E s) :
  wpAny M A t (fun a s'=>Q a s'/\Obk s.heap s'.heap) (fun e s'=>E e s'/\Obk s.heap s'.heap) s:=fun Γ p hΓ=>DK.wp d (h Γ p hΓ)
def wordsX:List Str:=["laying", "room", "word", "head", "end", "limb", "small", "kind", "address"]
def wW (n:Int):Str:=(wordsX[((n-1000000) % 9).toNat]?).getD ""
def wK (n:Int):Int:=(n-1000000) / 9
def xfs (n:Int):List (Str×V):=if n<1000000 then[("part", .int n)] else[("word", .str (wW n)),("k", .int (wK n))]
def pV:Option Int->V
 |none=>.non
 |some n=>.int n
theorem pV_inj {p q:Option Int} (h:pV p=pV q):p=q:=by
 cases p<;>cases q<;>first|rfl|cases h
 rfl
def PartIs (d:Option Addr) (H:Hp):Option Int->Prop
 |none=>d=none
 |some n=>∃x,d=some x/\H x=some (.xd (xfs n))
def EX (mg:Str->Option Value) (D:Ends) (σ:St):XK:=fun C d H'=>∃nm p,mg nm=some C/\PartIs d H' p/\D.bk (some (.str nm)::some (pV p)::σ) H'
section
variable {mg:Str->Option Value}
def bkX (n:Nat) (mg:Str->Option Value) (E:XK):St->Hp->Prop:=fun τ H'=>∃nm p σ',τ=some (.str nm)::some (pV p)::σ'/\σ'.length=n/\∀C d,mg nm=some C->PartIs d H' p->E C d H'
theorem bkX.ex {n:Nat} {E:XK} {Q:VK} {nx:St->Hp->Prop} {σ:St} {C:Value} {H':Hp} {d:Option Addr} (h:EX mg { nx:=nx,rt:=Q,bk:=bkX n mg E } σ C d H'):E C d H':=by
 obtain⟨nm,p,hm,hp,nm',p',σ',e,_,k⟩:=h
 simp only[List.cons.injEq,Option.some.injEq,V.str.injEq] at e
 exact k C d (e.1▸hm) (pV_inj e.2.1▸hp)
end
end L2
namespace PySem
theorem Paired.of_get {α β:Type} {F:α->β->Prop}:∀{l:List α} {m:List β},l.length=m.length->(∀(i:Nat) x y,l[i]?=some x->m[i]?=some y->F x y)->Paired F l m
 | [], [],_,_=>.nil
 | [],_::_,h,_=>by simp at h
 |_::_, [],h,_=>by simp at h
 |x::l,y::m,h,r=>.cons (r 0 x y rfl rfl) (Paired.of_get (by simpa using h) fun i a b ha hb=>r (i+1) a b (by simpa using ha) (by simpa using hb))
theorem Paired.len {α β:Type} {F:α->β->Prop}:∀{l:List α} {m:List β},Paired F l m->l.length=m.length
 |_,_, .nil=>rfl
 |_,_, .cons _ t=>by rw[List.length_cons,List.length_cons,Paired.len t]
theorem Paired.get2 {α β:Type} {F:α->β->Prop}:∀{l:List α} {m:List β} {i:Nat} {x:α} {y:β},Paired F l m->l[i]?=some x->m[i]?=some y->F x y
 |_,_,_,_,_, .nil,h,_=>by simp at h
 |_,_,0,_,_, .cons r _,h,k=>by simp at h k; subst h k; exact r
 |_,_,i+1,_,_, .cons _ t,h,k=>Paired.get2 (i:=i) t (by simpa using h) (by simpa using k)
theorem Paired.getR {α β:Type} {F:α->β->Prop} {l:List α} {m:List β} {i:Nat} {y:β} (h:Paired F l m) (e:m[i]?=some y):∃x,l[i]?=some x/\F x y:=by
 have hl:=h.len
 have hi:=(List.getElem?_eq_some_iff.mp e).1
 have hx:l[i]?=some (l[i]'(by omega)):=List.getElem?_eq_getElem (by omega)
 exact⟨_,hx,h.get2 hx e⟩
theorem Paired.getL {α β:Type} {F:α->β->Prop} {l:List α} {m:List β} {i:Nat} {x:α} (h:Paired F l m) (e:l[i]?=some x):∃y,m[i]?=some y/\F x y:=by
 have hl:=h.len
 have hi:=(List.getElem?_eq_some_iff.mp e).1
 have hx:m[i]?=some (m[i]'(by omega)):=List.getElem?_eq_getElem (by omega)
 exact⟨_,hx,h.get2 e hx⟩
theorem Paired.app {α β:Type} {F:α->β->Prop}:∀{l l':List α} {m m':List β},Paired F l m->Paired F l' m'->Paired F (l++l') (m++m')
 |_,_,_,_, .nil,h=>h
 |_,_,_,_, .cons r t,h=>.cons r (Paired.app t h)
theorem Paired.put {α β:Type} {F:α->β->Prop} {x:α} {y:β} (r:F x y):∀{l:List α} {m:List β} (i:Nat),Paired F l m->Paired F (l.set i x) (m.set i y)
 |_,_,_, .nil=>.nil
 |_,_,0, .cons _ t=>.cons r t
 |_,_,i+1, .cons q t=>.cons q (Paired.put r i t)
theorem Paired.tk {α β:Type} {F:α->β->Prop}:∀{l:List α} {m:List β} (n:Nat),Paired F l m->Paired F (l.take n) (m.take n)
 |_,_,0,_=>.nil
 |_,_,_+1, .nil=>.nil
 |_,_,n+1, .cons r t=>.cons r (Paired.tk n t)
theorem Paired.dr {α β:Type} {F:α->β->Prop}:∀{l:List α} {m:List β} (n:Nat),Paired F l m->Paired F (l.drop n) (m.drop n)
 |_,_,0,r=>r
 |_,_,_+1, .nil=>.nil
 |_,_,n+1, .cons _ t=>Paired.dr n t
theorem Paired.erase {α β:Type} {F:α->β->Prop}:∀{l:List α} {m:List β} (n:Nat),Paired F l m->Paired F (l.eraseIdx n) (m.eraseIdx n)
 |_,_,_, .nil=>.nil
 |_,_,0, .cons _ t=>t
 |_,_,n+1, .cons r t=>.cons r (Paired.erase n t)
theorem Paired.mapR {α β γ:Type} {F:α->β->Prop} {G:α->γ->Prop} {f:β->γ} (h:∀a b,F a b->G a (f b)):∀{l:List α} {m:List β},Paired F l m->Paired G l (m.map f)
 |_,_, .nil=>.nil
 |_,_, .cons r t=>.cons (h _ _ r) (Paired.mapR h t)
theorem Paired.unmapR {α β γ:Type} {F:α->β->Prop} {G:α->γ->Prop} {f:β->γ} (h:∀a b,G a (f b)->F a b):∀{m:List β} {l:List α},Paired G l (m.map f)->Paired F l m
 | [],_, .nil=>.nil
 |_::m,_, .cons r t=>.cons (h _ _ r) (Paired.unmapR h (m:=m) t)
theorem Paired.empt {α β:Type} {F:α->β->Prop} {l:List α} {m:List β} (h:Paired F l m):l.isEmpty=m.isEmpty:=by cases h<;>rfl
end PySem
namespace L2
open PySem PySem.Spec PyProof.Rows
inductive T where
 |non|bl (b:Bool)|int (i:Int)|str (x:Str)|tup (xs:List T)|lst (xs:List T)
inductive U where
 |p (t:T)|m (k:Nat)|x (a:Addr) (d:Option Addr) (q:Option Int)
inductive MO where
 |lst (us:List U)|tup (us:List U)|ins (C:Addr) (fs:List (Str×U))|dK (kvs:List (Key×U))|dF (kvs:List (Key×U)) (ob:Obj) (gs:List (Key×V))|tab (P:Addr) (pos:Pos) (qual:Str)
abbrev MM:=List MO
abbrev UEnv:=List (Option U)
inductive RepT (A:Addr->Prop) (H:Hp):V->T->Prop
 |non:RepT A H .non .non
 |bl (b:Bool):RepT A H (.bl b) (.bl b)
 |int (i:Int):RepT A H (.int i) (.int i)
 |str (x:Str):RepT A H (.str x) (.str x)
 |tup {p:Addr} {vs:List V} {ts:List T} (na:¬A p) (e:H p=some (.tup vs)) (l:vs.length=ts.length) (r:∀(i:Nat) v t,vs[i]?=some v->ts[i]?=some t->RepT A H v t):RepT A H (.ref p) (.tup ts)
 |lst {p:Addr} {vs:List V} {ts:List T} (na:¬A p) (e:H p=some (.lst vs)) (l:vs.length=ts.length) (r:∀(i:Nat) v t,vs[i]?=some v->ts[i]?=some t->RepT A H v t):RepT A H (.ref p) (.lst ts)
section
variable {A A':Addr->Prop} {H H':Hp} {v:V} {t:T} {ι ι':List Addr} {M:MM} {u:U} {σ:St} {ρ:UEnv}
abbrev RepTs (A:Addr->Prop) (H:Hp):List V->List T->Prop:=Paired (RepT A H)
theorem RepT.tupP {p:Addr} {vs:List V} {ts:List T} (na:¬A p) (e:H p=some (.tup vs)) (r:RepTs A H vs ts):RepT A H (.ref p) (.tup ts):=.tup na e r.len fun i v t h k=>r.get2 h k
theorem RepT.lstP {p:Addr} {vs:List V} {ts:List T} (na:¬A p) (e:H p=some (.lst vs)) (r:RepTs A H vs ts):RepT A H (.ref p) (.lst ts):=.lst na e r.len fun i v t h k=>r.get2 h k
theorem RepT.mono (h:∀x o,¬A x->H x=some o->H' x=some o/\¬A' x) (r:RepT A H v t):RepT A' H' v t:=by
 induction r with
 |non=>exact .non
 |bl b=>exact .bl b
 |int i=>exact .int i
 |str x=>exact .str x
 |tup na e l r ih=>exact .tup (h _ _ na e).2 (h _ _ na e).1 l ih
 |lst na e l r ih=>exact .lst (h _ _ na e).2 (h _ _ na e).1 l ih
theorem RepT.tup_inv {ts:List T} (r:RepT A H v (.tup ts)):∃p vs,v=.ref p/\¬A p/\H p=some (.tup vs)/\RepTs A H vs ts:=by
 cases r with
 |tup na e l r=>exact⟨_,_,rfl,na,e,Paired.of_get l r⟩
theorem RepT.lst_inv {ts:List T} (r:RepT A H v (.lst ts)):∃p vs,v=.ref p/\¬A p/\H p=some (.lst vs)/\RepTs A H vs ts:=by
 cases r with
 |lst na e l r=>exact⟨_,_,rfl,na,e,Paired.of_get l r⟩
def Av (A:Addr->Prop) (ι:List Addr):Addr->Prop:=fun x=>A x\/x∈ι
def PartX (ι:List Addr) (H:Hp) (d:Option Addr):Option Int->Prop
 |none=>d=none
 |some n=>∃x0,d=some x0/\x0∉ι/\H x0=some (.xd (xfs n))
inductive RepU (A:Addr->Prop) (ι:List Addr) (H:Hp):V->U->Prop
 |p {v:V} {t:T} (r:RepT (Av A ι) H v t):RepU A ι H v (.p t)
 |m {k:Nat} {a:Addr} (e:ι[k]?=some a):RepU A ι H (.ref a) (.m k)
 |x {a:Addr} {d:Option Addr} {q:Option Int} (h:PartX ι H d q):RepU A ι H (.ref a) (.x a d q)
abbrev RepUs (A:Addr->Prop) (ι:List Addr) (H:Hp):List V->List U->Prop:=Paired (RepU A ι H)
def codeO (c:Addr) (qual:Str):HO:=.ext fun h=>h.CodeRec (.ref c) qual
def ObjR (A:Addr->Prop) (ι:List Addr) (H:Hp) (a:Addr):MO->Prop
 |.lst us=>∃vs,H a=some (.lst vs)/\RepUs A ι H vs us
 |.tup us=>∃vs,H a=some (.tup vs)/\RepUs A ι H vs us
 |.ins C fs=>∃dx gs,H a=some (.ins C dx gs)/\H dx=some (.own a)/\dx∉ι/\Paired (fun(g:Str×V) (f:Str×U)=>g.1=f.1/\RepU A ι H g.2 f.2) gs fs
 |.dK kvs=>∃gs,H a=some (.dK gs)/\Paired (fun(g:Key×V) (f:Key×U)=>g.1=f.1/\RepU A ι H g.2 f.2) gs kvs
 |.dF kvs ob gs=>H a=some (.frz ob (.dK gs))/\Paired (fun(g:Key×V) (f:Key×U)=>g.1=f.1/\RepU A ι H g.2 f.2) gs kvs
 |.tab P pos qual=>∃ps:Array Value,H a=some (.tbl ps)/\(TriplesOk ps.toList/\a=P)/\(codeAmong pos ps.toList=none\/∃c,codeAmong pos ps.toList=some (.ref c)/\H c=some (codeO c qual)/\c∉ι)
structure Wd (A:Addr->Prop) (ι:List Addr) (H:Hp) (M:MM):Prop where
 nd:ι.Nodup
 len:ι.length=M.length
 dom:∀x,A x->H x≠none
 na:∀x∈ι,¬A x
 obj:∀(k:Nat) a o,ι[k]?=some a->M[k]?=some o->ObjR A ι H a o
structure Le (ι:List Addr) (H:Hp) (ι':List Addr) (H':Hp):Prop where
 ext:∃n,ι'=ι++n/\∀x∈n,H x=none
 fr:∀x o,H x=some o->x∉ι->H' x=some o
 al:∀x,H x≠none->H' x≠none
theorem Le.refl (ι:List Addr) (H:Hp):Le ι H ι H:=⟨⟨[],by simp,by simp⟩,fun _ _ h _=>h,fun _ h=>h⟩
theorem Le.trans {ι2:List Addr} {H2:Hp} (a:Le ι H ι' H') (b:Le ι' H' ι2 H2):Le ι H ι2 H2:=by
 obtain⟨n,rfl,hn⟩:=a.ext
 obtain⟨m,rfl,hm⟩:=b.ext
 have key:∀x,H x≠none->x∉ι->x∉ι++n:=fun x hx h z=>by
  rcases List.mem_append.mp z with z|z
  ·exact h z
  ·exact hx (hn x z)
 refine⟨⟨n++m,by rw[List.append_assoc],fun x hx=>?_⟩,fun x o e h=>b.fr x o (a.fr x o e h) (key x (by rw[e]; simp) h),fun x h=>b.al x (a.al x h)⟩
 rcases List.mem_append.mp hx with z|z
 ·exact hn x z
 ·cases q:H x with
  |none=>rfl
  |some o=>exact absurd (hm x z) (a.al x (by rw[q]; simp))
theorem Le.av (l:Le ι H ι' H') {x:Addr} {o:HO} (h:¬Av A ι x) (e:H x=some o):H' x=some o/\¬Av A ι' x:=by
 obtain⟨n,rfl,hn⟩:=l.ext
 refine⟨l.fr x o e fun z=>h (.inr z),fun z=>?_⟩
 rcases z with z|z
 ·exact h (.inl z)
 ·rcases List.mem_append.mp z with z|z
  ·exact h (.inr z)
  ·rw[hn x z] at e; cases e
theorem RepT.le (l:Le ι H ι' H') (r:RepT (Av A ι) H v t):RepT (Av A ι') H' v t:=r.mono fun _ _ h e=>l.av h e
theorem PartX.le {d:Option Addr} {q:Option Int} (l:Le ι H ι' H') (h:PartX ι H d q):PartX ι' H' d q:=by
 cases q with
 |none=>exact h
 |some n =>
  obtain⟨x0,e,ni,hx⟩:=h
  obtain⟨m,rfl,hm⟩:=l.ext
  refine⟨x0,e,fun z=>?_,l.fr x0 _ hx ni⟩
  rcases List.mem_append.mp z with z|z
  ·exact ni z
  ·rw[hm x0 z] at hx; cases hx
theorem RepU.le (l:Le ι H ι' H') (r:RepU A ι H v u):RepU A ι' H' v u:=by
 cases r with
 |p r=>exact .p (r.le l)
 |m e =>
  obtain⟨n,rfl,_⟩:=l.ext
  exact .m (by rw[List.getElem?_append_left (List.getElem?_eq_some_iff.mp e).1]; exact e)
 |x h=>exact .x (h.le l)
theorem RepUs.le {vs:List V} {us:List U} (l:Le ι H ι' H') (r:RepUs A ι H vs us):RepUs A ι' H' vs us:=Paired.mapP r fun _ _ q=>q.le l
theorem ObjR.some {a:Addr} {o:MO} (r:ObjR A ι H a o):∃h,H a=some h:=by
 cases o with
 |lst=>obtain⟨vs,e,_⟩:=r; exact⟨_,e⟩
 |tup=>obtain⟨vs,e,_⟩:=r; exact⟨_,e⟩
 |ins=>obtain⟨_,_,e,_⟩:=r; exact⟨_,e⟩
 |dK=>obtain⟨_,e,_⟩:=r; exact⟨_,e⟩
 |dF=>obtain⟨e,_⟩:=r; exact⟨_,e⟩
 |tab=>obtain⟨_,e,_⟩:=r; exact⟨_,e⟩
theorem ObjR.le' {a:Addr} {o:MO} (l:Le ι H ι' H') (ea:H' a=H a) (eo:∀x,H x=Option.some (.own a)->H' x=H x) (r:ObjR A ι H a o):ObjR A ι' H' a o:=by
 cases o with
 |lst=>obtain⟨vs,e,r⟩:=r; exact⟨vs,by rw[ea]; exact e,Paired.mapP r fun _ _ q=>q.le l⟩
 |tup=>obtain⟨vs,e,r⟩:=r; exact⟨vs,by rw[ea]; exact e,Paired.mapP r fun _ _ q=>q.le l⟩
 |ins =>
  obtain⟨dx,gs,e,ed,nd,r⟩:=r
  obtain⟨n,rfl,hn⟩:=l.ext
  refine⟨dx,gs,by rw[ea]; exact e,by rw[eo dx ed]; exact ed,fun z=>?_,Paired.mapP r fun _ _ q=>⟨q.1,q.2.le l⟩⟩
  rcases List.mem_append.mp z with z|z
  ·exact nd z
  ·rw[hn dx z] at ed; cases ed
 |dK=>obtain⟨gs,e,r⟩:=r; exact⟨gs,by rw[ea]; exact e,Paired.mapP r fun _ _ q=>⟨q.1,q.2.le l⟩⟩
 |dF=>obtain⟨e,r⟩:=r; exact⟨by rw[ea]; exact e,Paired.mapP r fun _ _ q=>⟨q.1,q.2.le l⟩⟩
 |tab =>
  obtain⟨ps,e,t,z⟩:=r
  obtain⟨n,rfl,hn⟩:=l.ext
  refine⟨ps,by rw[ea]; exact e,t,z.imp id fun⟨c,h1,h2,h3⟩=>⟨c,h1,l.fr c _ h2 h3,fun y=>?_⟩⟩
  rcases List.mem_append.mp y with y|y
  ·exact h3 y
  ·rw[hn c y] at h2; cases h2
theorem Wd.al (w:Wd A ι H M) {k:Nat} {a:Addr} (e:ι[k]?=some a):∃o,M[k]?=some o/\ObjR A ι H a o:=by
 have h:=(List.getElem?_eq_some_iff.mp e).1
 have e2:M[k]?=some (M[k]'(by rw[<-w.len]; exact h)):=List.getElem?_eq_getElem _
 exact⟨_,e2,w.obj k a _ e e2⟩
theorem Wd.at (w:Wd A ι H M) {k:Nat} {o:MO} (e:M[k]?=some o):∃a,ι[k]?=some a/\ObjR A ι H a o:=by
 have h:=(List.getElem?_eq_some_iff.mp e).1
 have e2:ι[k]?=some (ι[k]'(by rw[w.len]; exact h)):=List.getElem?_eq_getElem _
 exact⟨_,e2,w.obj k _ _ e2 e⟩
theorem Wd.mem_some (w:Wd A ι H M) {a:Addr} (h:a∈ι):∃o,H a=some o:=by
 obtain⟨k,e⟩:=List.getElem?_of_mem h
 obtain⟨o,_,r⟩:=w.al e
 exact r.some
theorem Wd.not_own (w:Wd A ι H M) {a x:Addr} (h:a∈ι):H a≠some (.own x):=fun z=>by
 obtain⟨k,e⟩:=List.getElem?_of_mem h
 obtain⟨o,_,r⟩:=w.al e
 cases o with
 |lst=>obtain⟨vs,e,_⟩:=r; rw[z] at e; cases e
 |tup=>obtain⟨vs,e,_⟩:=r; rw[z] at e; cases e
 |ins=>obtain⟨_,_,e,_⟩:=r; rw[z] at e; cases e
 |dK=>obtain⟨_,e,_⟩:=r; rw[z] at e; cases e
 |dF=>obtain⟨e,_⟩:=r; rw[z] at e; cases e
 |tab=>obtain⟨_,e,_⟩:=r; rw[z] at e; cases e
theorem Le.fresh {p:Addr} {o:HO} (h:H p=none):Le ι H ι (upd H p o):=⟨⟨[],by simp,by simp⟩,fun x o' e _=>qH h e,fun x e=>by
 by_cases z:x=p
 ·subst z; rw[upd_same]; simp
 ·rw[upd_ne z]; exact e⟩
theorem Le.push {p:Addr} {o:HO} (h:H p=none):Le ι H (ι++[p]) (upd H p o):=⟨⟨[p],rfl,fun x hx=>by rw[List.mem_singleton.mp hx]; exact h⟩,(Le.fresh (ι:=ι) h).fr,(Le.fresh (ι:=ι) h).al⟩
theorem Le.put {p:Addr} {o:HO} (h:p∈ι):Le ι H ι (upd H p o):=⟨⟨[],by simp,by simp⟩,fun x o' e n=>by rw[upd_ne (fun z=>n (by rw[z]; exact h))]; exact e,fun x e=>by
 by_cases z:x=p
 ·subst z; rw[upd_same]; simp
 ·rw[upd_ne z]; exact e⟩
theorem Wd.fresh (w:Wd A ι H M) {p:Addr} {o:HO} (h:H p=none):Wd A ι (upd H p o) M :=
 ⟨w.nd,w.len,fun x hx=>(Le.fresh (ι:=ι) h).al x (w.dom x hx),w.na,fun k a ob e1 e2=>(w.obj k a ob e1 e2).le' (.fresh h) (upd_ne fun z=>by
  obtain⟨q,hq⟩:=w.mem_some (List.mem_of_getElem? e1)
  rw[z,h] at hq; cases hq) fun x ex=>upd_ne fun z=>by rw[z,h] at ex; cases ex⟩
theorem Wd.nin (w:Wd A ι H M) {p:Addr} (h:H p=none):p∉ι:=fun z=>by
 obtain⟨q,hq⟩:=w.mem_some z
 rw[h] at hq; cases hq
theorem Wd.nA (w:Wd A ι H M) {p:Addr} (h:H p=none):¬Av A ι p:=fun z=>z.elim (fun z=>w.dom p z h) (w.nin h)
theorem Wd.push (w:Wd A ι H M) {p:Addr} {o:HO} {mo:MO} (h:H p=none) (new:ObjR A (ι++[p]) (upd H p o) p mo):Wd A (ι++[p]) (upd H p o) (M++[mo]):=by
 have np:=w.nin h
 refine⟨List.nodup_append.mpr ⟨w.nd,by simp,fun a ha b hb=>?_⟩,by simp[w.len],fun x hx=>(Le.fresh (ι:=ι) h).al x (w.dom x hx),fun x hx=>?_,fun k a ob e1 e2=>?_⟩
 ·rw[List.mem_singleton.mp hb]; exact fun z=>np (by rw[<-z]; exact ha)
 ·rcases List.mem_append.mp hx with z|z
  ·exact w.na x z
  ·rw[List.mem_singleton.mp z]; exact fun z=>w.dom p z h
 ·by_cases hk:k<ι.length
  ·rw[List.getElem?_append_left hk] at e1
   rw[List.getElem?_append_left (by rw[<-w.len]; exact hk)] at e2
   exact(w.obj k a ob e1 e2).le' (.push h) (upd_ne fun z=>np (by rw[<-z]; exact List.mem_of_getElem? e1)) fun x ex=>upd_ne fun z=>by rw[z,h] at ex; cases ex
  ·have hk2:=(List.getElem?_eq_some_iff.mp e1).1
   rw[List.length_append,List.length_singleton] at hk2
   have:k=ι.length:=by omega
   subst this
   rw[List.getElem?_append_right (Nat.le_refl _),Nat.sub_self] at e1
   rw[w.len,List.getElem?_append_right (Nat.le_refl _),Nat.sub_self] at e2
   simp at e1 e2
   subst e1 e2
   exact new
theorem Wd.put (w:Wd A ι H M) {k:Nat} {p:Addr} {o:HO} {mo:MO} (e:ι[k]?=some p) (new:ObjR A ι (upd H p o) p mo):Wd A ι (upd H p o) (M.set k mo):=by
 have hp:=List.mem_of_getElem? e
 refine⟨w.nd,by rw[List.length_set]; exact w.len,fun x hx=>(Le.put hp).al x (w.dom x hx),w.na,fun j a ob e1 e2=>?_⟩
 by_cases hj:k=j
 ·subst hj
  rw[e] at e1; cases e1
  rw[List.getElem?_set_self (by rw[<-w.len]; exact(List.getElem?_eq_some_iff.mp e).1)] at e2
  cases e2
  exact new
 ·rw[List.getElem?_set_ne hj] at e2
  have na:a≠p:=fun z=>by
   subst z
   have h1:=List.getElem?_eq_some_iff.mp e
   have h2:=List.getElem?_eq_some_iff.mp e1
   exact hj ((List.getElem_inj w.nd).mp (h1.2.trans h2.2.symm))
  exact(w.obj j a ob e1 e2).le' (.put hp) (upd_ne na) fun x ex=>upd_ne fun z=>by
   rw[z] at ex; exact w.not_own hp ex
def EnvR (A:Addr->Prop) (ι:List Addr) (H:Hp):St->UEnv->Prop:=Paired fun(s:Option V) (r:Option U)=>∀u,r=some u->∃v,s=some v/\RepU A ι H v u
theorem EnvR.le (l:Le ι H ι' H') (r:EnvR A ι H σ ρ):EnvR A ι' H' σ ρ:=Paired.mapP r fun _ _ q u e=>by
 obtain⟨v,h1,h2⟩:=q u e
 exact⟨v,h1,h2.le l⟩
theorem EnvR.get (r:EnvR A ι H σ ρ) {i:Nat} {u:U} (e:ρ[i]?=some (some u)):∃v,σ[i]?=some (some v)/\RepU A ι H v u:=by
 obtain⟨s,h1,h2⟩:=Paired.getR r e
 obtain⟨v,rfl,h3⟩:=h2 u rfl
 exact⟨v,h1,h3⟩
theorem EnvR.put (r:EnvR A ι H σ ρ) (i:Nat) (q:RepU A ι H v u):EnvR A ι H (σ.set i (some v)) (ρ.set i (some u)):=Paired.put (fun w e=>by cases e; exact⟨v,rfl,q⟩) i r
def V2 (bs:List Bool) (n:Nat) (ρ:UEnv):UEnv:=(bs.zip ρ).map (fun p=>if p.1 then p.2 else none)++List.replicate n none
theorem EnvR.mask {bs:List Bool} {n:Nat} (r:EnvR A ι H σ ρ):EnvR A ι H (vI bs n σ) (V2 bs n ρ):=by
 refine Paired.app ?_ ?_
 ·induction r generalizing bs with
  |nil=>simp; exact .nil
  |cons q t ih =>
   cases bs with
   |nil=>exact .nil
   |cons b bs =>
    refine .cons ?_ ih
    cases b
    ·intro u e; simp at e
    ·simpa using q
 ·induction n with
  |zero=>exact .nil
  |succ n ih=>exact .cons (fun u e=>by cases e) ih
end
abbrev UK:=U->MM->Prop
abbrev UE:=UEnv->MM->UK->Prop
abbrev UT:=UEnv->MM->(Bool->MM->Prop)->Prop
abbrev UA:=UEnv->MM->(List U->MM->Prop)->Prop
def LE (te:TE) (ue:UE):Prop:=∀(A:Addr->Prop) (ι:List Addr) (σ:St) (H:Hp) (ρ:UEnv) (M:MM) (Qu:UK) (Q:VK),Wd A ι H M->EnvR A ι H σ ρ->ue ρ M Qu ->
 (∀u M' ι' v H',Le ι H ι' H'->Wd A ι' H' M'->RepU A ι' H' v u->Qu u M'->Q v H')->te σ H Q
def LT (tt:TT) (ut:UT):Prop:=∀(A:Addr->Prop) (ι:List Addr) (σ:St) (H:Hp) (ρ:UEnv) (M:MM) (Qu:Bool->MM->Prop) (Q:Bool->Hp->Prop),Wd A ι H M->EnvR A ι H σ ρ->ut ρ M Qu ->
 (∀b M' ι' H',Le ι H ι' H'->Wd A ι' H' M'->Qu b M'->Q b H')->tt σ H Q
def LA (n:Nat) (ta:TA) (ua:UA):Prop:=∀(A:Addr->Prop) (ι:List Addr) (σ:St) (H:Hp) (ρ:UEnv) (M:MM) (Qu:List U->MM->Prop) (Q:List V->Hp->Prop),Wd A ι H M->EnvR A ι H σ ρ->ua ρ M Qu ->
 (∀us M' ι' vs H',Le ι H ι' H'->Wd A ι' H' M'->us.length=n->RepUs A ι' H' vs us->Qu us M'->Q vs H')->ta σ H Q
section
variable {ta tb tc:TE} {ua ub uc:UE} {tt tt':TT} {ut ut':UT} {tl:TA} {ul:UA} {n:Nat}
def uVar (i:Nat):UE:=fun ρ M Q=>∃u,ρ[i]?=some (some u)/\Q u M
theorem le_var (i:Nat):LE (tVar i) (uVar i):=fun A ι σ H ρ M Qu Q w e ⟨u,h,q⟩ k=>by
 obtain⟨v,h1,h2⟩:=e.get h
 exact⟨v,h1,k u M ι v H (.refl _ _) w h2 q⟩
inductive Sc:V->T->Prop
 |non:Sc .non .non
 |bl (b:Bool):Sc (.bl b) (.bl b)
 |int (i:Int):Sc (.int i) (.int i)
 |str (x:Str):Sc (.str x) (.str x)
theorem Sc.rep {A:Addr->Prop} {H:Hp} {v:V} {t:T} (h:Sc v t):RepT A H v t:=by cases h<;>constructor
def uC (t:T):UE:=fun _ M Q=>Q (.p t) M
theorem le_c {v:V} {t:T} (h:Sc v t):LE (tC v) (uC t):=fun A ι σ H ρ M Qu Q w e q k=>k _ M ι v H (.refl _ _) w (.p h.rep) q
def uNil:UA:=fun _ M Q=>Q [] M
def Qf (ua:UE) (ul:UA):UA:=fun ρ M Q=>ua ρ M fun x M1=>ul ρ M1 fun xs M2=>Q (x::xs) M2
theorem la_nil:LA 0 tNil uNil:=fun A ι σ H ρ M Qu Q w e q k=>k [] M ι [] H (.refl _ _) w rfl .nil q
theorem la_cons (ha:LE ta ua) (hl:LA n tl ul):LA (n+1) (vm ta tl) (Qf ua ul):=fun A ι σ H ρ M Qu Q w e q k =>
 ha A ι σ H ρ M _ _ w e q fun x M1 ι1 v H1 l1 w1 r1 q1=>hl A ι1 σ H1 ρ M1 _ _ w1 (e.le l1) q1 fun xs M2 ι2 vs H2 l2 w2 hn r2 q2 =>
  k (x::xs) M2 ι2 (v::vs) H2 (l1.trans l2) w2 (by rw[List.length_cons,hn]) (.cons (r1.le l2) r2) q2
def vA:List U->Option (List T)
 | []=>some []
 |.p t::r=>(vA r).map (t :: ·)
 |.m _::_=>none
 |.x _ _ _::_=>none
@[simp] theorem zd:∀ts:List T,vA (ts.map U.p)=some ts
 | []=>rfl
 |t::r=>by simp[vA,zd r]
theorem vn:∀{us:List U} {ts:List T},vA us=some ts->us=ts.map U.p
 | [],_,h=>by simp[vA] at h; subst h; rfl
 |.p t::r,ts,h=>by
  simp[vA] at h
  obtain⟨a,h1,rfl⟩:=h
  rw[List.map_cons, <-vn h1]
 |.m _::_,_,h=>by simp[vA] at h
 |.x _ _ _::_,_,h=>by simp[vA] at h
def sn (M:MM):U->Option T
 |.p t=>some t
 |.m k=>match M[k]? with
  |some (.lst us)=>(vA us).map T.lst
  |some (.tup us)=>(vA us).map T.tup
  |_=>none
 |.x _ _ _=>none
def sns (M:MM):List U->Option (List T)
 | []=>some []
 |u::r=>match sn M u,sns M r with
  |some t,some ts=>some (t::ts)
  |_,_=>none
inductive RepV (A:Addr->Prop) (H:Hp):V->T->Prop
 |of {v:V} {t:T} (r:RepT A H v t):RepV A H v t
 |lst {p:Addr} {vs:List V} {ts:List T} (e:H p=some (.lst vs)) (r:RepTs A H vs ts):RepV A H (.ref p) (.lst ts)
 |tup {p:Addr} {vs:List V} {ts:List T} (e:H p=some (.tup vs)) (r:RepTs A H vs ts):RepV A H (.ref p) (.tup ts)
variable {A:Addr->Prop} {H H':Hp} {ι:List Addr} {M:MM} {v:V} {u:U} {t:T}
theorem RepV.lst_inv {ts:List T} (r:RepV A H v (.lst ts)):∃p vs,v=.ref p/\H p=some (.lst vs)/\RepTs A H vs ts:=by
 cases r with
 |of r=>obtain⟨p,vs,h1,_,h2,h3⟩:=r.lst_inv; exact⟨p,vs,h1,h2,h3⟩
 |lst e r=>exact⟨_,_,rfl,e,r⟩
theorem RepV.tup_inv {ts:List T} (r:RepV A H v (.tup ts)):∃p vs,v=.ref p/\H p=some (.tup vs)/\RepTs A H vs ts:=by
 cases r with
 |of r=>obtain⟨p,vs,h1,_,h2,h3⟩:=r.tup_inv; exact⟨p,vs,h1,h2,h3⟩
 |tup e r=>exact⟨_,_,rfl,e,r⟩
theorem RepV.int_inv {i:Int} (r:RepV A H v (.int i)):v=.int i:=by cases r with|of r=>cases r; rfl
theorem RepV.bl_inv {i:Bool} (r:RepV A H v (.bl i)):v=.bl i:=by cases r with|of r=>cases r; rfl
theorem RepV.str_inv {i:Str} (r:RepV A H v (.str i)):v=.str i:=by cases r with|of r=>cases r; rfl
theorem RepV.non_inv (r:RepV A H v .non):v=.non:=by cases r with|of r=>cases r; rfl
theorem RepUs.pures {vs:List V} {ts:List T} (r:RepUs A ι H vs (ts.map U.p)):RepTs (Av A ι) H vs ts:=Paired.unmapR (fun a b q=>by cases q with|p r=>exact r) r
theorem RepTs.ups {vs:List V} {ts:List T} (r:RepTs (Av A ι) H vs ts):RepUs A ι H vs (ts.map U.p):=Paired.mapR (fun a b q=>.p q) r
theorem RepU.sn (w:Wd A ι H M) (r:RepU A ι H v u) (e:sn M u=some t):RepV (Av A ι) H v t:=by
 cases r with
 |p r=>simp[L2.sn] at e; subst e; exact .of r
 |m q =>
  obtain⟨o,h1,h2⟩:=w.al q
  simp only[L2.sn,h1] at e
  cases o with
  |lst us =>
   simp at e
   obtain⟨ts,e1,rfl⟩:=e
   obtain⟨vs,h3,h4⟩:=h2
   rw[vn e1] at h4
   exact .lst h3 h4.pures
  |tup us =>
   simp at e
   obtain⟨ts,e1,rfl⟩:=e
   obtain⟨vs,h3,h4⟩:=h2
   rw[vn e1] at h4
   exact .tup h3 h4.pures
  |ins=>simp at e
  |dK=>simp at e
  |dF=>simp at e
  |tab=>simp at e
 |x h=>simp[L2.sn] at e
theorem RepUs.sns (w:Wd A ι H M):∀{vs:List V} {us:List U} {ts:List T},RepUs A ι H vs us->sns M us=some ts->Paired (RepV (Av A ι) H) vs ts
 |_,_,ts, .nil,e=>by simp[L2.sns] at e; subst e; exact .nil
 |_,_,ts, .cons r q,e=>by
  simp only[L2.sns] at e
  split at e
  ·rename_i h1 h2
   simp at e; subst e
   exact .cons (r.sn w h1) (RepUs.sns w q h2)
  ·cases e
def OpL (r:R2) (s:T->T->(T->Prop)->Prop):Prop:=∀(A:Addr->Prop) (ι:List Addr) (H:Hp) (M:MM) (x y:V) (a b:T) (Qs:T->Prop) (Q:VK),Wd A ι H M->RepV (Av A ι) H x a->RepV (Av A ι) H y b->s a b Qs ->
 (∀t ι' v H',Le ι H ι' H'->Wd A ι' H' M->RepT (Av A ι') H' v t->Qs t->Q v H')->r x y H Q
def uOp (s:T->T->(T->Prop)->Prop) (ua ub:UE):UE:=fun ρ M Q=>ua ρ M fun x M1=>ub ρ M1 fun y M2=>∃a b,sn M2 x=some a/\sn M2 y=some b/\s a b fun t=>Q (.p t) M2
theorem le_op {r:R2} {s:T->T->(T->Prop)->Prop} (h:OpL r s) (ha:LE ta ua) (hb:LE tb ub):LE (tOp r ta tb) (uOp s ua ub):=fun A ι σ H ρ M Qu Q w e q k =>
 ha A ι σ H ρ M _ _ w e q fun x M1 ι1 v H1 l1 w1 r1 q1=>hb A ι1 σ H1 ρ M1 _ _ w1 (e.le l1) q1 fun y M2 ι2 v2 H2 l2 w2 r2 ⟨a,b,e1,e2,q2⟩ =>
  h A ι2 H2 M2 v v2 a b _ Q w2 ((r1.le l2).sn w2 e1) (r2.sn w2 e2) q2 fun t ι3 z H3 l3 w3 r3 q3=>k _ M2 ι3 z H3 ((l1.trans l2).trans l3) w3 (.p r3) q3
def sI (C:Int->Int->Prop) (g:Int->Int->T):T->T->(T->Prop)->Prop:=fun a b Q=>∃i j,a=.int i/\b=.int j/\C i j/\Q (g i j)
def sI0 (g:Int->Int->T):T->T->(T->Prop)->Prop:=fun a b Q=>∃i j,a=.int i/\b=.int j/\Q (g i j)
theorem ky {C:Int->Int->Prop} {gv:Int->Int->V} {g:Int->Int->T} (hg:∀i j,Sc (gv i j) (g i j)):OpL (rI C gv) (sI C g):=fun A ι H M x y a b Qs Q w r1 r2 ⟨i,j,ea,eb,c,q⟩ k=>by
 subst ea eb
 exact⟨i,j,r1.int_inv,r2.int_inv,c,k _ ι _ H (.refl _ _) w (hg i j).rep q⟩
theorem qA {gv:Int->Int->V} {g:Int->Int->T} (hg:∀i j,Sc (gv i j) (g i j)):OpL (rI0 gv) (sI0 g):=fun A ι H M x y a b Qs Q w r1 r2 ⟨i,j,ea,eb,q⟩ k=>by
 subst ea eb
 exact⟨i,j,r1.int_inv,r2.int_inv,k _ ι _ H (.refl _ _) w (hg i j).rep q⟩
def vt:T->Option V
 |.non=>some .non
 |.bl b=>some (.bl b)
 |.int i=>some (.int i)
 |.str x=>some (.str x)
 |_=>none
theorem zQ {x:V} (e:vt t=some x):Sc x t:=by
 cases t<;>simp[vt] at e<;>subst e<;>constructor
theorem RepV.sc {x y:V} (r:RepV A H v t) (e:vt t=some x):v=x:=by
 cases zQ e with
 |non=>exact r.non_inv
 |bl=>exact r.bl_inv
 |int=>exact r.int_inv
 |str=>exact r.str_inv
def sEq (neg:Bool):T->T->(T->Prop)->Prop:=fun a b Q=>∃x y,vt a=some x/\vt b=some y/\scal x y=true/\Q (.bl (if neg then !decide (x=y) else decide (x=y)))
theorem kw:OpL rEq (sEq false):=fun A ι H M x y a b Qs Q w r1 r2 ⟨x',y',e1,e2,sc,q⟩ k=>by
 cases r1.sc (y:=.non) e1; cases r2.sc (y:=.non) e2
 exact⟨sc,k _ ι _ H (.refl _ _) w (.bl _) q⟩
theorem Z8:OpL rNe (sEq true):=fun A ι H M x y a b Qs Q w r1 r2 ⟨x',y',e1,e2,sc,q⟩ k=>by
 cases r1.sc (y:=.non) e1; cases r2.sc (y:=.non) e2
 exact⟨sc,k _ ι _ H (.refl _ _) w (.bl _) q⟩
def sStr:T->T->(T->Prop)->Prop:=fun a b Q=>∃i j,a=.str i/\b=.str j/\i.length+j.length<=sizeLine/\Q (.str (i++j))
def vts:List T->Option (List V)
 | []=>some []
 |t::r=>match vt t,vts r with
  |some x,some xs=>some (x::xs)
  |_,_=>none
theorem Qd:∀{vs:List V} {ts:List T} {xs:List V},RepTs A H vs ts->vts ts=some xs->vs=xs/\xs.all xc=true
 |_,_,xs, .nil,e=>by simp[vts] at e; subst e; exact⟨rfl,rfl⟩
 |_,_,xs, .cons r q,e=>by
  simp only[vts] at e
  split at e
  ·rename_i h1 h2
   simp at e; subst e
   obtain⟨z1,z2⟩:=Qd q h2
   subst z1
   cases(RepV.of r).sc (y:=.non) h1
   refine⟨rfl, ?_⟩
   rw[List.all_cons,z2]
   cases zQ h1<;>rfl
  ·cases e
def seqT:T->Option (List T)
 |.lst ts=>some ts
 |.tup ts=>some ts
 |_=>none
def sIn (neg:Bool):T->T->(T->Prop)->Prop:=fun a b Q=>∃x ts ys,vt a=some x/\seqT b=some ts/\vts ts=some ys/\Q (.bl (if neg then !inV x ys else inV x ys))
theorem opl_in {K:PySem.W.Frag} {neg:Bool}:OpL (rIn K neg) (sIn neg):=fun A ι H M x y a b Qs Q w r1 r2 ⟨x',ts,ys,e1,e2,e3,q⟩ k=>by
 cases r1.sc (y:=.non) e1
 have hf:xc x=true:=by cases zQ e1<;>rfl
 cases b<;>simp[seqT] at e2
 ·subst e2
  obtain⟨p,vs,rfl,h,r⟩:=r2.tup_inv
  obtain⟨rfl,z⟩:=Qd r e3
  exact⟨p,vs,rfl, .inr (SqT.of h),hf,z,k _ ι _ H (.refl _ _) w (.bl _) q⟩
 ·subst e2
  obtain⟨p,vs,rfl,h,r⟩:=r2.lst_inv
  obtain⟨rfl,z⟩:=Qd r e3
  exact⟨p,vs,rfl, .inl (SqL.of h),hf,z,k _ ι _ H (.refl _ _) w (.bl _) q⟩
theorem vp (w:Wd A ι H M) {p:Addr} {vs:List V} {ts:List T} (h:H p=none) (r:RepTs (Av A ι) H vs ts):RepT (Av A ι) (upd H p (.lst vs)) (.ref p) (.lst ts) :=
 .lstP (w.nA h) upd_same (Paired.mapP r fun _ _ q=>q.le (.fresh h))
theorem zC (w:Wd A ι H M) {p:Addr} {vs:List V} {ts:List T} (h:H p=none) (r:RepTs (Av A ι) H vs ts):RepT (Av A ι) (upd H p (.tup vs)) (.ref p) (.tup ts) :=
 .tupP (w.nA h) upd_same (Paired.mapP r fun _ _ q=>q.le (.fresh h))
def sCat:T->T->(T->Prop)->Prop:=fun a b Q=>∃xs ys,a=.lst xs/\b=.lst ys/\xs.length+ys.length<=sizeLine/\Q (.lst (xs++ys))
theorem Qw:OpL rCat sCat:=fun A ι H M x y a b Qs Q w r1 r2 ⟨xs,ys,ea,eb,hz,q⟩ k=>by
 subst ea eb
 obtain⟨p,vs,rfl,h1,q1⟩:=r1.lst_inv
 obtain⟨p2,vs2,rfl,h2,q2⟩:=r2.lst_inv
 exact⟨p,p2,vs,vs2,rfl,rfl,h1,h2,by rw[q1.len,q2.len]; exact hz,fun p hp=>k _ ι _ _ (.fresh hp) (w.fresh hp) (vp w hp (q1.app q2)) q⟩
theorem xZ {α β:Type} {F:α->β->Prop} {l:List α} {m:List β} (h:Paired F l m):∀n:Nat,Paired F (List.replicate n l).flatten (List.replicate n m).flatten
 |0=>.nil
 |n+1=>by rw[List.replicate_succ,List.replicate_succ,List.flatten_cons,List.flatten_cons]; exact h.app (xZ h n)
def QN:U->Bool
 |.p .non=>true
 |_=>false
theorem kP (r:RepU A ι H v u):decide (v=.non)=QN u:=by
 cases r with
 |p r=>cases r<;>simp[QN]
 |m e=>simp[QN]
 |x h=>simp[QN]
def uIsN (neg:Bool) (ua:UE):UE:=fun ρ M Q=>ua ρ M fun x M1=>Q (.p (.bl (if neg then !QN x else QN x))) M1
theorem le_isN (ha:LE ta ua):LE (tOp (fun x y H Q=>y=.non/\Q (.bl (decide (x=.non))) H) ta (tC .non)) (uIsN false ua):=fun A ι σ H ρ M Qu Q w e q k =>
 ha A ι σ H ρ M _ _ w e q fun x M1 ι1 v H1 l1 w1 r1 q1=>⟨rfl,by rw[kP r1]; exact k _ M1 ι1 _ H1 l1 w1 (.p (.bl _)) q1⟩
theorem le_notN (ha:LE ta ua):LE (tOp (fun x y H Q=>y=.non/\Q (.bl (!decide (x=.non))) H) ta (tC .non)) (uIsN true ua):=fun A ι σ H ρ M Qu Q w e q k =>
 ha A ι σ H ρ M _ _ w e q fun x M1 ι1 v H1 l1 w1 r1 q1=>⟨rfl,by rw[kP r1]; exact k _ M1 ι1 _ H1 l1 w1 (.p (.bl _)) q1⟩
def uNeg (ua:UE):UE:=fun ρ M Q=>ua ρ M fun x M1=>∃i,x=.p (.int i)/\Q (.p (.int (-i))) M1
theorem le_neg (ha:LE ta ua):LE (tUn (rU fun i=>.int (-i)) ta) (uNeg ua):=fun A ι σ H ρ M Qu Q w e q k =>
 ha A ι σ H ρ M _ _ w e q fun x M1 ι1 v H1 l1 w1 r1 ⟨i,ex,q1⟩=>by
  subst ex
  cases r1 with
  |p r=>cases r; exact⟨i,rfl,k _ M1 ι1 _ H1 l1 w1 (.p (.int _)) q1⟩
def uB (ua:UE):UT:=fun ρ M Q=>ua ρ M fun x M1=>∃b,x=.p (.bl b)/\Q b M1
theorem lt_b (ha:LE ta ua):LT (tB ta) (uB ua):=fun A ι σ H ρ M Qu Q w e q k =>
 ha A ι σ H ρ M _ _ w e q fun x M1 ι1 v H1 l1 w1 r1 ⟨b,ex,q1⟩=>by
  subst ex
  cases r1 with
  |p r=>cases r; exact⟨b,rfl,k b M1 ι1 H1 l1 w1 q1⟩
theorem lt_test (ha:LE ta ua):LT (jp ta) (uB ua):=lt_b ha
def truU (M:MM):U->Option Bool
 |.p .non=>some false
 |.p (.bl b)=>some b
 |.p (.int i)=>some (i != 0)
 |.p (.lst ts)=>some (!ts.isEmpty)
 |.p (.tup ts)=>some (!ts.isEmpty)
 |.m k=>match M[k]? with
  |some (.lst us)=>some (!us.isEmpty)
  |some (.tup us)=>some (!us.isEmpty)
  |some (.dK us)=>some (!us.isEmpty)
  |_=>none
 |_=>none
def uAnd (t s:UT):UT:=fun ρ M Q=>t ρ M fun c M1=>if c=true then s ρ M1 Q else Q false M1
def uOr (t s:UT):UT:=fun ρ M Q=>t ρ M fun c M1=>if c=true then Q true M1 else s ρ M1 Q
def uNot (t:UT):UT:=fun ρ M Q=>t ρ M fun c M1=>Q (!c) M1
theorem lt_or (ha:LT tt ut) (hb:LT tt' ut'):LT (tOr tt tt') (uOr ut ut'):=fun A ι σ H ρ M Qu Q w e q k =>
 ha A ι σ H ρ M _ _ w e q fun c M1 ι1 H1 l1 w1 q1=>by
  cases c with
  |true=>exact k true M1 ι1 H1 l1 w1 q1
  |false=>exact hb A ι1 σ H1 ρ M1 _ _ w1 (e.le l1) q1 fun b M2 ι2 H2 l2 w2 q2=>k b M2 ι2 H2 (l1.trans l2) w2 q2
theorem lt_not (ha:LT tt ut):LT (tNot tt) (uNot ut):=fun A ι σ H ρ M Qu Q w e q k =>
 ha A ι σ H ρ M _ _ w e q fun c M1 ι1 H1 l1 w1 q1=>k _ M1 ι1 H1 l1 w1 q1
def uAndV (ua ub:UE):UE:=fun ρ M Q=>ua ρ M fun x M1=>∃c,x=.p (.bl c)/\if c=true then ub ρ M1 Q else Q (.p (.bl false)) M1
def uOrV (ua ub:UE):UE:=fun ρ M Q=>ua ρ M fun x M1=>∃c,x=.p (.bl c)/\if c=true then Q (.p (.bl true)) M1 else ub ρ M1 Q
def uNotV (ua:UE):UE:=fun ρ M Q=>ua ρ M fun x M1=>∃c,x=.p (.bl c)/\Q (.p (.bl (!c))) M1
theorem le_andV (ha:LE ta ua) (hb:LE tb ub):LE (j8 ta tb) (uAndV ua ub):=fun A ι σ H ρ M Qu Q w e q k =>
 ha A ι σ H ρ M _ _ w e q fun x M1 ι1 v H1 l1 w1 r1 ⟨c,ex,q1⟩=>by
  subst ex
  cases r1 with
  |p r =>
   cases r
   refine⟨c,rfl, ?_⟩
   cases c with
   |false=>exact k _ M1 ι1 _ H1 l1 w1 (.p (.bl _)) q1
   |true=>exact hb A ι1 σ H1 ρ M1 _ _ w1 (e.le l1) q1 fun b M2 ι2 v2 H2 l2 w2 r2 q2=>k b M2 ι2 v2 H2 (l1.trans l2) w2 r2 q2
theorem le_notV (ha:LE ta ua):LE (j5 ta) (uNotV ua):=fun A ι σ H ρ M Qu Q w e q k =>
 ha A ι σ H ρ M _ _ w e q fun x M1 ι1 v H1 l1 w1 r1 ⟨c,ex,q1⟩=>by
  subst ex
  cases r1 with
  |p r=>cases r; exact⟨c,rfl,k _ M1 ι1 _ H1 l1 w1 (.p (.bl _)) q1⟩
def uIf (t:UT) (ua ub:UE):UE:=fun ρ M Q=>t ρ M fun c M1=>if c=true then ua ρ M1 Q else ub ρ M1 Q
theorem le_if (hc:LT tt ut) (ha:LE ta ua) (hb:LE tb ub):LE (tIf tt ta tb) (uIf ut ua ub):=fun A ι σ H ρ M Qu Q w e q k =>
 hc A ι σ H ρ M _ _ w e q fun c M1 ι1 H1 l1 w1 q1=>by
  cases c with
  |true=>exact ha A ι1 σ H1 ρ M1 _ _ w1 (e.le l1) q1 fun b M2 ι2 v2 H2 l2 w2 r2 q2=>k b M2 ι2 v2 H2 (l1.trans l2) w2 r2 q2
  |false=>exact hb A ι1 σ H1 ρ M1 _ _ w1 (e.le l1) q1 fun b M2 ι2 v2 H2 l2 w2 r2 q2=>k b M2 ι2 v2 H2 (l1.trans l2) w2 r2 q2
def Q7 (s s':T->T->(T->Prop)->Prop) (ua ub uc:UE):UE:=fun ρ M Q=>ua ρ M fun x M1=>ub ρ M1 fun y M2=>∃a b,sn M2 x=some a/\sn M2 y=some b/\s a b fun z=>∃k,z=.bl k /\
 if k=true then uc ρ M2 fun c M3=>∃b' c',sn M3 y=some b'/\sn M3 c=some c'/\s' b' c' fun t=>Q (.p t) M3 else Q (.p (.bl false)) M2
theorem le_chain {r r':R2} {s s':T->T->(T->Prop)->Prop} (h:OpL r s) (h':OpL r' s') (ha:LE ta ua) (hb:LE tb ub) (hc:LE tc uc):LE (zR r r' ta tb tc) (Q7 s s' ua ub uc):=by
 intro A ι σ H ρ M Qu Q w e q k
 refine ha A ι σ H ρ M _ _ w e q fun x M1 ι1 v H1 l1 w1 r1 q1=>?_
 refine hb A ι1 σ H1 ρ M1 _ _ w1 (e.le l1) q1 fun y M2 ι2 v2 H2 l2 w2 r2 q2=>?_
 obtain⟨a,b,e1,e2,q2⟩:=q2
 refine h A ι2 H2 M2 v v2 a b _ _ w2 ((r1.le l2).sn w2 e1) (r2.sn w2 e2) q2 fun t ι3 z H3 l3 w3 r3 q3=>?_
 obtain⟨kk,et,q3⟩:=q3
 subst et
 cases r3
 refine⟨kk,rfl, ?_⟩
 cases kk with
 |false=>exact k _ M2 ι3 _ H3 ((l1.trans l2).trans l3) w3 (.p (.bl _)) q3
 |true =>
  refine hc A ι3 σ H3 ρ M2 _ _ w3 (e.le ((l1.trans l2).trans l3)) q3 fun c M4 ι4 v4 H4 l4 w4 r4 q4=>?_
  obtain⟨b',c',e3,e4,q4⟩:=q4
  exact h' A ι4 H4 M4 v2 v4 b' c' _ Q w4 ((r2.le (l3.trans l4)).sn w4 e3) (r4.sn w4 e4) q4 fun t ι5 z H5 l5 w5 r5 q5=>k _ M4 ι5 z H5 ((((l1.trans l2).trans l3).trans l4).trans l5) w5 (.p r5) q5
def uTup (ul:UA):UE:=fun ρ M Q=>ul ρ M fun us M1=>∃ts,vA us=some ts/\Q (.p (.tup ts)) M1
def uLst (ul:UA):UE:=fun ρ M Q=>ul ρ M fun us M1=>∃ts,vA us=some ts/\Q (.p (.lst ts)) M1
def uNew (ul:UA):UE:=fun ρ M Q=>ul ρ M fun us M1=>Q (.m M1.length) (M1++[.lst us])
def uNewT (ul:UA):UE:=fun ρ M Q=>ul ρ M fun us M1=>Q (.m M1.length) (M1++[.tup us])
theorem le_tup (ha:LA n tl ul) (hn:n<=1000:=by decide):LE (tTup tl) (uTup ul):=fun A ι σ H ρ M Qu Q w e q k =>
 ha A ι σ H ρ M _ _ w e q fun us M1 ι1 vs H1 l1 w1 hl r1 ⟨ts,et,q1⟩=>by
  have r2:=r1
  rw[vn et] at r2
  exact⟨by rw[r1.len,hl]; exact Nat.le_of_lt (vL hn),fun p hp=>k _ M1 ι1 _ _ (l1.trans (.fresh hp)) (w1.fresh hp) (.p (zC w1 hp r2.pures)) q1⟩
theorem le_lst (ha:LA n tl ul) (hn:n<=1000:=by decide):LE (tLst tl) (uLst ul):=fun A ι σ H ρ M Qu Q w e q k =>
 ha A ι σ H ρ M _ _ w e q fun us M1 ι1 vs H1 l1 w1 hl r1 ⟨ts,et,q1⟩=>by
  have r2:=r1
  rw[vn et] at r2
  exact⟨by rw[r1.len,hl]; exact Nat.le_of_lt (vL hn),fun p hp=>k _ M1 ι1 _ _ (l1.trans (.fresh hp)) (w1.fresh hp) (.p (vp w1 hp r2.pures)) q1⟩
theorem zf {α:Type} {l:List α} {x:α}:(l++[x])[l.length]?=some x:=by rw[List.getElem?_append_right (Nat.le_refl _),Nat.sub_self]; rfl
theorem vX (w:Wd A ι H M) {p:Addr} {vs:List V} {us:List U} (h:H p=none) (r:RepUs A ι H vs us):Wd A (ι++[p]) (upd H p (.lst vs)) (M++[.lst us])/\RepU A (ι++[p]) (upd H p (.lst vs)) (.ref p) (.m M.length) :=
 ⟨w.push h ⟨vs,upd_same,r.le (.push h)⟩, .m (by rw[<-w.len]; exact zf)⟩
theorem Xm (w:Wd A ι H M) {p:Addr} {vs:List V} {us:List U} (h:H p=none) (r:RepUs A ι H vs us):Wd A (ι++[p]) (upd H p (.tup vs)) (M++[.tup us])/\RepU A (ι++[p]) (upd H p (.tup vs)) (.ref p) (.m M.length) :=
 ⟨w.push h ⟨vs,upd_same,r.le (.push h)⟩, .m (by rw[<-w.len]; exact zf)⟩
theorem le_new (ha:LA n tl ul) (hn:n<=1000:=by decide):LE (tLst tl) (uNew ul):=fun A ι σ H ρ M Qu Q w e q k =>
 ha A ι σ H ρ M _ _ w e q fun us M1 ι1 vs H1 l1 w1 hl r1 q1=>⟨by rw[r1.len,hl]; exact Nat.le_of_lt (vL hn),fun p hp=>k _ _ _ _ _ (l1.trans (.push hp)) (vX w1 hp r1).1 (vX w1 hp r1).2 q1⟩
theorem le_newT (ha:LA n tl ul) (hn:n<=1000:=by decide):LE (tTup tl) (uNewT ul):=fun A ι σ H ρ M Qu Q w e q k =>
 ha A ι σ H ρ M _ _ w e q fun us M1 ι1 vs H1 l1 w1 hl r1 q1=>⟨by rw[r1.len,hl]; exact Nat.le_of_lt (vL hn),fun p hp=>k _ _ _ _ _ (l1.trans (.push hp)) (Xm w1 hp r1).1 (Xm w1 hp r1).2 q1⟩
def ql (M:MM):U->Option (List U)
 |.p (.lst ts)=>some (ts.map .p)
 |.m k=>match M[k]? with
  |some (.lst us)=>some us
  |_=>none
 |_=>none
def vh (M:MM):U->Option (List U)
 |.p (.tup ts)=>some (ts.map .p)
 |.m k=>match M[k]? with
  |some (.tup us)=>some us
  |_=>none
 |_=>none
theorem qM {us:List U} (w:Wd A ι H M) (r:RepU A ι H v u) (e:ql M u=some us):∃p vs,v=.ref p/\H p=some (.lst vs)/\RepUs A ι H vs us:=by
 cases r with
 |p r =>
  cases r with
  |lst na e1 l r=>simp[ql] at e; subst e; exact⟨_,_,rfl,e1,RepTs.ups (Paired.of_get l r)⟩
  |_=>simp[ql] at e
 |m q =>
  obtain⟨o,h1,h2⟩:=w.al q
  simp only[ql,h1] at e
  cases o with
  |lst us=>simp at e; subst e; obtain⟨vs,h3,h4⟩:=h2; exact⟨_,_,rfl,h3,h4⟩
  |_=>simp at e
 |x h=>simp[ql] at e
theorem vE {us:List U} (w:Wd A ι H M) (r:RepU A ι H v u) (e:vh M u=some us):∃p vs,v=.ref p/\H p=some (.tup vs)/\RepUs A ι H vs us:=by
 cases r with
 |p r =>
  cases r with
  |tup na e1 l r=>simp[vh] at e; subst e; exact⟨_,_,rfl,e1,RepTs.ups (Paired.of_get l r)⟩
  |_=>simp[vh] at e
 |m q =>
  obtain⟨o,h1,h2⟩:=w.al q
  simp only[vh,h1] at e
  cases o with
  |tup us=>simp at e; subst e; obtain⟨vs,h3,h4⟩:=h2; exact⟨_,_,rfl,h3,h4⟩
  |_=>simp at e
 |x h=>simp[vh] at e
theorem Js {vs:List V} {us:List U} {i:Int} {z:U} (r:RepUs A ι H vs us) (e:atI us i=some z):∃x,atI vs i=some x/\RepU A ι H x z:=by
 unfold atI at e ⊢
 rw[r.len]
 cases q:ixN us.length i with
 |none=>rw[q] at e; cases e
 |some j =>
  rw[q] at e
  exact Paired.getR r e
def uIx (it:MM->U->Option (List U)) (ua ub:UE):UE:=fun ρ M Q=>ua ρ M fun x M1=>ub ρ M1 fun y M2=>∃us i z,it M2 x=some us/\y=.p (.int i)/\atI us i=some z/\Q z M2
theorem le_ixL {K:PySem.W.Frag} (ha:LE ta ua) (hb:LE tb ub):LE (tOp (rIxL K) ta tb) (uIx ql ua ub):=fun A ι σ H ρ M Qu Q w e q k =>
 ha A ι σ H ρ M _ _ w e q fun x M1 ι1 v H1 l1 w1 r1 q1=>hb A ι1 σ H1 ρ M1 _ _ w1 (e.le l1) q1 fun y M2 ι2 v2 H2 l2 w2 r2 ⟨us,i,z,e1,e2,e3,q2⟩=>by
  subst e2
  obtain⟨p,vs,rfl,h1,h2⟩:=qM w2 (r1.le l2) e1
  obtain⟨x',h3,h4⟩:=Js h2 e3
  cases r2 with
  |p r=>cases r; exact⟨p,vs,i,x',rfl,rfl,SqL.of h1,h3,k z M2 ι2 x' H2 (l1.trans l2) w2 h4 q2⟩
theorem le_ixT {K:PySem.W.Frag} (ha:LE ta ua) (hb:LE tb ub):LE (tOp (rIxT K) ta tb) (uIx vh ua ub):=fun A ι σ H ρ M Qu Q w e q k =>
 ha A ι σ H ρ M _ _ w e q fun x M1 ι1 v H1 l1 w1 r1 q1=>hb A ι1 σ H1 ρ M1 _ _ w1 (e.le l1) q1 fun y M2 ι2 v2 H2 l2 w2 r2 ⟨us,i,z,e1,e2,e3,q2⟩=>by
  subst e2
  obtain⟨p,vs,rfl,h1,h2⟩:=vE w2 (r1.le l2) e1
  obtain⟨x',h3,h4⟩:=Js h2 e3
  cases r2 with
  |p r=>cases r; exact⟨p,vs,i,x',rfl,rfl,SqT.of h1,h3,k z M2 ι2 x' H2 (l1.trans l2) w2 h4 q2⟩
def CbL (r:List V->Hp->VK->Prop) (s:List T->(T->Prop)->Prop):Prop:=∀(A:Addr->Prop) (ι:List Addr) (H:Hp) (M:MM) (vs:List V) (ts:List T) (Qs:T->Prop) (Q:VK),Wd A ι H M->Paired (RepV (Av A ι) H) vs ts->s ts Qs ->
 (∀t ι' v H',Le ι H ι' H'->Wd A ι' H' M->RepT (Av A ι') H' v t->Qs t->Q v H')->r vs H Q
def uCb (s:List T->(T->Prop)->Prop) (ul:UA):UE:=fun ρ M Q=>ul ρ M fun us M1=>∃ts,sns M1 us=some ts/\s ts fun t=>Q (.p t) M1
theorem le_cb {r:List V->Hp->VK->Prop} {s:List T->(T->Prop)->Prop} (h:CbL r s) (ha:LA n tl ul):LE (tCB r tl) (uCb s ul):=fun A ι σ H ρ M Qu Q w e q k =>
 ha A ι σ H ρ M _ _ w e q fun us M1 ι1 vs H1 l1 w1 hl r1 ⟨ts,e1,q1⟩=>h A ι1 H1 M1 vs ts _ Q w1 (r1.sns w1 e1) q1 fun t ι2 z H2 l2 w2 r2 q2=>k _ M1 ι2 z H2 (l1.trans l2) w2 (.p r2) q2
theorem pv1 {vs:List V} {t:T} (r:Paired (RepV A H) vs [t]):∃v,vs=[v]/\RepV A H v t:=by
 cases r with
 |cons r q=>cases q; exact⟨_,rfl,r⟩
theorem pv2 {vs:List V} {t s:T} (r:Paired (RepV A H) vs [t,s]):∃v z,vs=[v,z]/\RepV A H v t/\RepV A H z s:=by
 cases r with
 |cons r q =>
  obtain⟨v,rfl,r2⟩:=pv1 q
  exact⟨_,_,rfl,r,r2⟩
def sAbs:List T->(T->Prop)->Prop:=fun ts Q=>∃i,ts=[.int i]/\Q (.int (if i<0 then -i else i))
def sMin:List T->(T->Prop)->Prop:=fun ts Q=>∃i j,ts=[.int i, .int j]/\Q (.int (if j<i then j else i))
theorem cbl_min:CbL (fun xs H Q=>∃i j,xs=[.int i, .int j]/\Q (.int (if j<i then j else i)) H) sMin:=fun A ι H M vs ts Qs Q w r ⟨i,j,e,q⟩ k=>by
 subst e
 obtain⟨v,z,ev,r1,r2⟩:=pv2 r
 subst ev
 cases r1.int_inv; cases r2.int_inv
 exact⟨i,j,rfl,k _ ι _ H (.refl _ _) w (.int _) q⟩
def sMax:List T->(T->Prop)->Prop:=fun ts Q=>∃i j,ts=[.int i, .int j]/\Q (.int (if j>i then j else i))
theorem cbl_max:CbL (fun xs H Q=>∃i j,xs=[.int i, .int j]/\Q (.int (if j>i then j else i)) H) sMax:=fun A ι H M vs ts Qs Q w r ⟨i,j,e,q⟩ k=>by
 subst e
 obtain⟨v,z,ev,r1,r2⟩:=pv2 r
 subst ev
 cases r1.int_inv; cases r2.int_inv
 exact⟨i,j,rfl,k _ ι _ H (.refl _ _) w (.int _) q⟩
def sInt:List T->(T->Prop)->Prop:=fun ts Q=>(∃i,ts=[.int i]/\Q (.int i))\/∃k,ts=[.bl k]/\Q (.int (if k then 1 else 0))
def bls:List T->Option (List Bool)
 | []=>some []
 |.bl b::r=>(bls r).map (b :: ·)
 |_=>none
@[simp] theorem bls_map:∀bs:List Bool,bls (bs.map T.bl)=some bs
 | []=>rfl
 |b::r=>by simp[bls,bls_map r]
def sListOf:List T->(T->Prop)->Prop:=fun ts Q=>∃a xs,ts=[a]/\seqT a=some xs/\Q (.lst xs)
theorem cbl_list {K:PySem.W.Frag}:CbL (fun xs H Q=>∃p ys,xs=[.ref p]/\(SqL K H p ys\/SqT K H p ys)/\∀l,H l=none->Q (.ref l) (upd H l (.lst ys))) sListOf:=fun A ι H M vs ts Qs Q w r ⟨a,xs,e,ea,q⟩ k=>by
 subst e
 obtain⟨v,ev,r1⟩:=pv1 r
 subst ev
 cases a<;>simp[seqT] at ea
 ·subst ea
  obtain⟨p,zs,rfl,h1,h2⟩:=r1.tup_inv
  exact⟨p,zs,rfl, .inr (SqT.of h1),fun l hl=>k _ ι _ _ (.fresh hl) (w.fresh hl) (vp w hl h2) q⟩
 ·subst ea
  obtain⟨p,zs,rfl,h1,h2⟩:=r1.lst_inv
  exact⟨p,zs,rfl, .inl (SqL.of h1),fun l hl=>k _ ι _ _ (.fresh hl) (w.fresh hl) (vp w hl h2) q⟩
def uLen (it:MM->U->Option (List U)) (ul:UA):UE:=fun ρ M Q=>ul ρ M fun us M1=>∃x ys,us=[x]/\it M1 x=some ys/\Q (.p (.int ys.length)) M1
theorem le_len (ha:LA n tl ul):LE (tCB rLenL tl) (uLen ql ul):=fun A ι σ H ρ M Qu Q w e q k =>
 ha A ι σ H ρ M _ _ w e q fun us M1 ι1 vs H1 l1 w1 hl r1 ⟨x,ys,e1,e2,q1⟩=>by
  subst e1
  cases r1 with
  |cons r q =>
   cases q
   obtain⟨p,zs,rfl,h1,h2⟩:=qM w1 r e2
   exact⟨p,zs,rfl,h1,by rw[h2.len]; exact k _ M1 ι1 _ H1 l1 w1 (.p (.int _)) q1⟩
def uBits (ua:UE):UE:=fun ρ M Q=>ua ρ M fun x M1=>∃i,x=.p (.int i)/\Q (.p (.int (Builtin.Int.intBits i))) M1
def cutT (xs:List T) (lo hi:Option Int):List T:=(xs.drop (HT.sIx xs.length 0 lo)).take (HT.sIx xs.length xs.length hi-HT.sIx xs.length 0 lo)
theorem Jb {vs:List V} {ts:List T} {lo hi:Option Int} (r:RepTs A H vs ts):RepTs A H (cutV vs lo hi) (cutT ts lo hi):=by
 unfold cutV cutT
 rw[r.len]
 exact(r.dr _).tk _
abbrev UO:=UEnv->MM->(Option Int->MM->Prop)->Prop
def LO (to:TO) (uo:UO):Prop:=∀(A:Addr->Prop) (ι:List Addr) (σ:St) (H:Hp) (ρ:UEnv) (M:MM) (Qu:Option Int->MM->Prop) (Q:Option Int->Hp->Prop),Wd A ι H M->EnvR A ι H σ ρ->uo ρ M Qu ->
 (∀b M' ι' H',Le ι H ι' H'->Wd A ι' H' M'->Qu b M'->Q b H')->to σ H Q
def Qe:UO:=fun _ M Q=>Q none M
def uPart (ua:UE):UO:=fun ρ M Q=>ua ρ M fun x M1=>∃i,x=.p (.int i)/\Q (some i) M1
theorem lo_none:LO vR Qe:=fun A ι σ H ρ M Qu Q w e q k=>k _ M ι H (.refl _ _) w q
theorem lo_some (ha:LE ta ua):LO (j4 ta) (uPart ua):=fun A ι σ H ρ M Qu Q w e q k =>
 ha A ι σ H ρ M _ _ w e q fun x M1 ι1 v H1 l1 w1 r1 ⟨i,ex,q1⟩=>by
  subst ex
  cases r1 with
  |p r=>cases r; exact⟨i,rfl,k _ M1 ι1 H1 l1 w1 q1⟩
def uSl (ua:UE) (ul uh:UO):UE:=fun ρ M Q=>ua ρ M fun x M1=>ul ρ M1 fun l M2=>uh ρ M2 fun h M3=>∃ts,sn M3 x=some (.lst ts)/\Q (.p (.lst (cutT ts l h))) M3
theorem le_sl {K:PySem.W.Frag} {t1 t2:TO} {u1 u2:UO} (ha:LE ta ua) (h1:LO t1 u1) (h2:LO t2 u2):LE (tSl (rSlL K) ta t1 t2) (uSl ua u1 u2):=fun A ι σ H ρ M Qu Q w e q k =>
 ha A ι σ H ρ M _ _ w e q fun x M1 ι1 v H1 l1 w1 r1 q1=>h1 A ι1 σ H1 ρ M1 _ _ w1 (e.le l1) q1 fun lo M2 ι2 H2 l2 w2 q2=>h2 A ι2 σ H2 ρ M2 _ _ w2 (e.le (l1.trans l2)) q2 fun hi M3 ι3 H3 l3 w3 ⟨ts,es,q3⟩=>by
  obtain⟨p,vs,rfl,h4,h5⟩:=((r1.le (l2.trans l3)).sn w3 es).lst_inv
  exact⟨p,vs,rfl,SqL.of h4,fun r hr=>k _ M3 ι3 _ _ (((l1.trans l2).trans l3).trans (.fresh hr)) (w3.fresh hr) (.p (vp w3 hr (Jb h5))) q3⟩
end
section
variable {te ta tb:TE} {ue ua ub:UE} {tt:TT} {ut:UT} {tl:TA} {ul:UA} {n:Nat} {A A' A2:Addr->Prop} {H H' H1 H2:Hp} {ι ι' ι1 ι2:List Addr} {M M':MM} {v:V} {u:U} {t:T} {σ:St} {ρ:UEnv} {K:PySem.W.Frag}
structure Lea (A:Addr->Prop) (ι:List Addr) (H:Hp) (A':Addr->Prop) (ι':List Addr) (H':Hp):Prop where
 ext:∃n,ι'=ι++n
 av:∀x o,¬Av A ι x->H x=some o->H' x=some o/\¬Av A' ι' x
 xd:∀x fs,x∉ι->H x=some (.xd fs)->x∉ι'/\H' x=some (.xd fs)
theorem Le.xd (l:Le ι H ι' H'):∀x fs,x∉ι->H x=some (.xd fs)->x∉ι'/\H' x=some (.xd fs):=fun x fs hx e=>by
 obtain⟨m,rfl,hm⟩:=l.ext
 refine⟨fun z=>?_,l.fr x _ e hx⟩
 rcases List.mem_append.mp z with z|z
 ·exact hx z
 ·rw[hm x z] at e; cases e
theorem Le.lea (l:Le ι H ι' H'):Lea A ι H A ι' H':=⟨let⟨n,e,_⟩:=l.ext; ⟨n,e⟩,fun _ _ h e=>l.av h e,l.xd⟩
theorem Lea.trans (a:Lea A ι H A' ι' H') (b:Lea A' ι' H' A2 ι2 H2):Lea A ι H A2 ι2 H2:=by
 obtain⟨n,rfl⟩:=a.ext
 obtain⟨m,rfl⟩:=b.ext
 exact⟨⟨n++m,by rw[List.append_assoc]⟩,fun x o h e=>b.av x o (a.av x o h e).2 (a.av x o h e).1,fun x fs h e=>b.xd x fs (a.xd x fs h e).1 (a.xd x fs h e).2⟩
theorem RepU.lea (l:Lea A ι H A' ι' H') (r:RepU A ι H v u):RepU A' ι' H' v u:=by
 cases r with
 |p r=>exact .p (r.mono l.av)
 |m e =>
  obtain⟨n,rfl⟩:=l.ext
  exact .m (by rw[List.getElem?_append_left (List.getElem?_eq_some_iff.mp e).1]; exact e)
 | @x a d q h =>
  refine .x ?_
  cases q with
  |none=>exact h
  |some n =>
   obtain⟨x0,e,ni,hx⟩:=h
   have:=l.xd x0 _ ni hx
   exact⟨x0,e,this.1,this.2⟩
theorem EnvR.lea (l:Lea A ι H A' ι' H') (r:EnvR A ι H σ ρ):EnvR A' ι' H' σ ρ:=Paired.mapP r fun _ _ q u e=>by
 obtain⟨v,h1,h2⟩:=q u e
 exact⟨v,h1,h2.lea l⟩
structure UIt where
 n:Nat
 ok:MM->Prop
 item:Nat->U->Prop
def ItR (A:Addr->Prop) (ι1:List Addr) (H1:Hp) (J:It) (it:UIt):Prop:=∀(A':Addr->Prop) (ι:List Addr) (H:Hp) (M:MM) (i:Nat),Lea A ι1 H1 A' ι H->Wd A' ι H M->it.ok M ->
 (i<it.n->J.go i H/\∀x H',J.yld i H x H'->∃u,it.item i u/\Le ι H ι H'/\Wd A' ι H' M/\RepU A' ι H' x u)/\(i=it.n->J.stop i H)
abbrev UI:=UEnv->MM->(UIt->MM->Prop)->Prop
def LI (wi:TI) (ui:UI):Prop:=∀(A:Addr->Prop) (ι:List Addr) (σ:St) (H:Hp) (ρ:UEnv) (M:MM) (Qu:UIt->MM->Prop) (R:It->Hp->Prop),Wd A ι H M->EnvR A ι H σ ρ->ui ρ M Qu ->
 (∀it M' ι' J H',Le ι H ι' H'->Wd A ι' H' M'->ItR A ι' H' J it->Qu it M'->R J H')->wi σ H R
def uIter (ua:UE):UI:=fun ρ M Q=>ua ρ M fun x M1=>∃us,ql M1 x=some us/\Q ⟨us.length,fun M=>ql M x=some us,fun i z=>us[i]?=some z⟩ M1
theorem li_list (ha:LE ta ua):LI (V9 K ta) (uIter ua):=fun A ι σ H ρ M Qu R w e q k =>
 ha A ι σ H ρ M _ _ w e q fun x M1 ι1 v H1 l1 w1 r1 ⟨us,eu,q1⟩=>by
  obtain⟨p,vs,rfl,h1,h2⟩:=qM w1 r1 eu
  refine⟨p,rfl,⟨vs,SqL.of h1⟩,k _ M1 ι1 _ H1 l1 w1 ?_ q1⟩
  intro A' ι2 H2 M2 i l w2 ok
  obtain⟨p',vs2,e2,h3,h4⟩:=qM w2 (r1.lea l) ok
  cases e2
  have hl:=h4.len
  refine⟨fun hi=>?_,fun hi=>⟨vs2,SqL.of h3,by rw[hl]; exact Nat.le_of_eq hi.symm⟩⟩
  have hx:vs2[i]?=some (vs2[i]'(by rw[hl]; exact hi)):=List.getElem?_eq_getElem _
  refine⟨⟨vs2,_,SqL.of h3,hx⟩,fun x H' y=>?_⟩
  obtain⟨rfl,y⟩:=y
  have hx2:=y vs2 (SqL.of h3)
  obtain⟨z,hz,rz⟩:=Paired.getL h4 hx2
  exact⟨z,hz, .refl _ _,w2,rz⟩
def uEnum (ul:UA):UI:=fun ρ M Q=>ul ρ M fun xs M1=>∃(x:U) (ts:List T),xs=[x]/\ql M1 x=some (ts.map U.p)/\Q ⟨ts.length,fun M=>ql M x=some (ts.map U.p),fun i z=>∃t,ts[i]?=some t/\z=.p (.tup [.int i,t])⟩ M1
theorem li_enum (ha:LA n tl ul):LI (XX K tl) (uEnum ul):=fun A ι σ H ρ M Qu R w e q k =>
 ha A ι σ H ρ M _ _ w e q fun xs M1 ι1 vs1 H1 l1 w1 hn r0 ⟨x,ts,ex,eu,q1⟩=>by
  subst ex
  cases r0 with
  |cons r1 r0 =>
  cases r0
  obtain⟨p,vs,rfl,h1,h2⟩:=qM w1 r1 eu
  refine⟨p,vs,rfl,SqL.of h1,k _ M1 ι1 _ H1 l1 w1 ?_ q1⟩
  intro A' ι2 H2 M2 i l w2 ok
  obtain⟨p',vs2,e2,h3,h4⟩:=qM w2 (r1.lea l) ok
  cases e2
  have h5:=h4.pures
  have hl:=h5.len
  refine⟨fun hi=>?_,fun hi=>⟨vs2,SqL.of h3,by rw[hl]; exact Nat.le_of_eq hi.symm⟩⟩
  have hx:vs2[i]?=some (vs2[i]'(by rw[hl]; exact hi)):=List.getElem?_eq_getElem _
  refine⟨⟨vs2,_,SqL.of h3,hx⟩,fun x H' y=>?_⟩
  obtain⟨r,z,rfl,hr,rfl,y⟩:=y
  have hx2:=y vs2 (SqL.of h3)
  obtain⟨t,ht,rt⟩:=Paired.getL h5 hx2
  exact⟨_,⟨t,ht,rfl⟩, .fresh hr,w2.fresh hr, .p (zC w2 hr (.cons (.int _) (.cons rt .nil)))⟩
def uRev (ul:UA):UI:=fun ρ M Q=>ul ρ M fun xs M1=>∃x us,xs=[x]/\ql M1 x=some us/\Q ⟨us.length,fun M=>ql M x=some us,fun i z=>us[us.length-1-i]?=some z⟩ M1
def uRng1 (ul:UA):UI:=fun ρ M Q=>ul ρ M fun xs M1=>∃j:Int,xs=[.p (.int j)] /\ -(2^62)<=j/\j<2^62/\Q ⟨j.toNat,fun _=>True,fun i z=>z=.p (.int i)⟩ M1
theorem itr_ok {lo:Int} {n:Nat}:ItR A ι H (Itr lo n) ⟨n,fun _=>True,fun i z=>z=.p (.int (lo+i))⟩:=fun A' ι2 H2 M2 i l w2 _ =>
 ⟨fun hi=>⟨hi,fun x H' y=>by
  obtain⟨rfl,rfl⟩:=y
  exact⟨_,rfl, .refl _ _,w2, .p (.int _)⟩⟩,fun hi=>Nat.le_of_eq hi.symm⟩
theorem li_rng1 (ha:LA n tl ul):LI (XW tl) (uRng1 ul):=fun A ι σ H ρ M Qu R w e q k =>
 ha A ι σ H ρ M _ _ w e q fun xs M1 ι1 vs1 H1 l1 w1 hn r0 ⟨j,ex,j0,j1,q1⟩=>by
  subst ex
  cases r0 with
  |cons r1 r0 =>
  cases r0
  cases r1 with
  |p r =>
  cases r
  have:=itr_ok (A:=A) (ι:=ι1) (H:=H1) (lo:=0) (n:=j.toNat)
  simp only[Int.zero_add] at this
  exact⟨j,rfl,j0,j1,k _ M1 ι1 _ H1 l1 w1 this q1⟩
abbrev UG:=U->UEnv->MM->(UEnv->MM->Prop)->Prop
def LG (g:TG) (ug:UG):Prop:=∀(A:Addr->Prop) (ι:List Addr) (σ:St) (H:Hp) (ρ:UEnv) (M:MM) (v:V) (u:U) (Qu:UEnv->MM->Prop) (Q:St->Hp->Prop),Wd A ι H M->EnvR A ι H σ ρ->RepU A ι H v u->ug u ρ M Qu ->
 (∀ρ' M' ι' σ' H',Le ι H ι' H'->Wd A ι' H' M'->EnvR A ι' H' σ' ρ'->Qu ρ' M'->Q σ' H')->g v σ H Q
def VJ (i:Nat):UG:=fun u ρ M Q=>Q (ρ.set i (some u)) M
def jZ (i j:Nat):UG:=fun u ρ M Q=>∃a b,vh M u=some [a,b]/\Q ((ρ.set i (some a)).set j (some b)) M
def jY (i j k:Nat):UG:=fun u ρ M Q=>∃a b c,vh M u=some [a,b,c]/\Q (((ρ.set i (some a)).set j (some b)).set k (some c)) M
theorem lg_name (i:Nat):LG (qt i) (VJ i):=fun A ι σ H ρ M v u Qu Q w e r q k=>k _ M ι _ H (.refl _ _) w (e.put i r) q
theorem rep2 {vs:List V} {a b:U} (r:RepUs A ι H vs [a,b]):∃x y,vs=[x,y]/\RepU A ι H x a/\RepU A ι H y b:=by
 cases r with
 |cons r q=>cases q with|cons r2 q=>cases q; exact⟨_,_,rfl,r,r2⟩
theorem rep3 {vs:List V} {a b c:U} (r:RepUs A ι H vs [a,b,c]):∃x y z,vs=[x,y,z]/\RepU A ι H x a/\RepU A ι H y b/\RepU A ι H z c:=by
 cases r with
 |cons r q =>
  obtain⟨y,z,rfl,r2,r3⟩:=rep2 q
  exact⟨_,_,_,rfl,r,r2,r3⟩
theorem lg_name2 (i j:Nat):LG (gTup K 2 (qS (qt i) (qS (qt j) gNil))) (jZ i j):=fun A ι σ H ρ M v u Qu Q w e r ⟨a,b,ei,q⟩ k=>by
 obtain⟨p,vs,rfl,h1,h2⟩:=vE w r ei
 obtain⟨x,y,rfl,r1,r2⟩:=rep2 h2
 exact jJ h1 (k _ M ι _ H (.refl _ _) w ((e.put i r1).put j r2) q)
theorem lg_name3 (i j l:Nat):LG (gTup K 3 (qS (qt i) (qS (qt j) (qS (qt l) gNil)))) (jY i j l):=fun A ι σ H ρ M v u Qu Q w e r ⟨a,b,c,ei,q⟩ k=>by
 obtain⟨p,vs,rfl,h1,h2⟩:=vE w r ei
 obtain⟨x,y,z,rfl,r1,r2,r3⟩:=rep3 h2
 exact jI h1 (k _ M ι _ H (.refl _ _) w (((e.put i r1).put j r2).put l r3) q)
def uSub (uo ui:UE):UG:=fun u ρ M Q=>uo ρ M fun o M1=>ui ρ M1 fun i M2=>∃k us z j,o=.m k/\M2[k]?=some (.lst us)/\i=.p (.int z)/\ixN us.length z=some j/\Q ρ (M2.set k (.lst (us.set j u)))
theorem lg_sub (ha:LE ta ua) (hb:LE tb ub):LG (gSub ta tb rSetL) (uSub ua ub):=fun A ι σ H ρ M v u Qu Q w e r q k =>
 ha A ι σ H ρ M _ _ w e q fun o M1 ι1 v1 H1 l1 w1 r1 q1=>hb A ι1 σ H1 ρ M1 _ _ w1 (e.le l1) q1 fun i M2 ι2 v2 H2 l2 w2 r2 ⟨kk,us,z,j,eo,em,ei,ej,q2⟩=>by
  subst eo ei
  cases r2 with
  |p r2 =>
  cases r2
  have r1':=r1.le l2
  cases r1' with
  |m ek =>
  obtain⟨vs,h1,h2⟩:=w2.obj kk _ _ ek em
  have hm:=List.mem_of_getElem? ek
  refine⟨_,vs,z,j,rfl,rfl,h1,by rw[h2.len]; exact ej,k _ _ ι2 _ _ ((l1.trans l2).trans (.put hm)) (w2.put (mo:=.lst (us.set j u)) ek ⟨_,upd_same, ?_⟩) (e.le ((l1.trans l2).trans (.put hm))) q2⟩
  exact RepUs.le (.put hm) (Paired.put (r.le (l1.trans l2)) j h2)
def vG (bs:List Bool) (n i:Nat):Bool:=match bs[i]? with
 |some b => !b
 |none=>decide (i<bs.length+n)
theorem vN {bs:List Bool} {n i:Nat} {σ:St} (hl:σ.length=bs.length) (h:vG bs n i=true):(vI bs n σ)[i]?=some none:=by
 unfold vG at h
 unfold vI
 have hz:((bs.zip σ).map (fun p=>if p.1 then p.2 else none)).length=bs.length:=by simp[hl]
 cases e:bs[i]? with
 |some b =>
  rw[e] at h
  have hi:=(List.getElem?_eq_some_iff.mp e).1
  rw[List.getElem?_append_left (by rw[hz]; exact hi),List.getElem?_map]
  have hb:b=false:=by simpa using h
  have e2:(bs.zip σ)[i]?=some (b,σ[i]'(by omega)):=by
   rw[List.getElem?_eq_getElem (by simp[hl]; exact hi)]
   simp
   exact(List.getElem?_eq_some_iff.mp e).2
  rw[e2,hb]
  rfl
 |none =>
  rw[e] at h
  have hi:=List.getElem?_eq_none_iff.mp e
  simp at h
  rw[List.getElem?_append_right (by rw[hz]; exact hi),hz,List.getElem?_replicate]
  rw[if_pos (by omega)]
def LGx (bs:List Bool) (n:Nat) (g:TG) (ug:UG):Prop:=∀(A:Addr->Prop) (ι:List Addr) (σ:St) (H:Hp) (ρ:UEnv) (M:MM) (v:V) (u:U) (Qu:UEnv->MM->Prop) (Q:St->Hp->Prop),σ.length=bs.length->Wd A ι H M->EnvR A ι H (vI bs n σ) ρ->RepU A ι H v u->ug u ρ M Qu ->
 (∀ρ' σ',EnvR A ι H σ' ρ'->ExtS (vI bs n σ) σ'->σ'.length=(vI bs n σ).length->Qu ρ' M->Q σ' H)->g v (vI bs n σ) H Q
theorem lgx_name {bs:List Bool} (i:Nat) (h:vG bs n i=true:=by rfl):LGx bs n (qt i) (VJ i):=fun A ι σ H ρ M v u Qu Q hl w e r q k =>
 k _ _ (e.put i r) ((ExtS.refl _).put (vN hl h)) (by simp) q
theorem XC {bs:List Bool} (i j:Nat) (h:vG bs n i=true:=by rfl) (h2:vG bs n j=true:=by rfl):LGx bs n (gTup K 2 (qS (qt i) (qS (qt j) gNil))) (jZ i j):=fun A ι σ H ρ M v u Qu Q hl w e r ⟨a,b,ei,q⟩ k=>by
 obtain⟨p,vs,rfl,h1,h2⟩:=vE w r ei
 obtain⟨x,y,rfl,r1,r2⟩:=rep2 h2
 exact jJ h1 (k _ _ ((e.put i r1).put j r2) (((ExtS.refl _).put (vN hl h)).put (vN hl ‹_›)) (by simp) q)
theorem XB {bs:List Bool} (i j l:Nat) (h:vG bs n i=true:=by rfl) (h2:vG bs n j=true:=by rfl) (h3:vG bs n l=true:=by rfl):LGx bs n (gTup K 3 (qS (qt i) (qS (qt j) (qS (qt l) gNil)))) (jY i j l):=fun A ι σ H ρ M v u Qu Q hl w e r ⟨a,b,c,ei,q⟩ k=>by
 obtain⟨p,vs,rfl,h1,hh⟩:=vE w r ei
 obtain⟨x,y,z,rfl,r1,r2,r3⟩:=rep3 hh
 exact jI h1 (k _ _ (((e.put i r1).put j r2).put l r3) ((((ExtS.refl _).put (vN hl h)).put (vN hl h2)).put (vN hl h3)) (by simp) q)
theorem lt_yes:LT tYes (fun _ M Q=>Q true M):=fun A ι σ H ρ M Qu Q w e q k=>k true M ι H (.refl _ _) w q
abbrev uYes:UT:=fun _ M Q=>Q true M
def UComp (it:UIt) (ug:UG) (ut:UT) (ue:UE) (ρ0:UEnv) (M1:MM) (Q:UK):Prop:=it.n<=sizeLine/\∃Iv:Nat->List T->MM->Prop,Iv 0 [] M1 /\
 (∀i acc M2,i<it.n->acc.length<=i->Iv i acc M2->it.ok M2/\∀u,it.item i u->ug u ρ0 M2 fun ρ4 M4=>ut ρ4 M4 fun b M5=>if b=true then ue ρ4 M5 fun z M6=>∃t,z=.p t/\Iv (i+1) (acc++[t]) M6 else Iv (i+1) acc M5) /\
 (∀acc M2,Iv it.n acc M2->it.ok M2/\Q (.p (.lst acc)) M2)
def uComp (ui:UI) (bs:List Bool) (n:Nat) (ug:UG) (ut:UT) (ue:UE):UE:=fun ρ M Q=>ui ρ M fun it M1=>ρ.length=bs.length/\UComp it ug ut ue (V2 bs n ρ) M1 Q
theorem Wd.addA (w:Wd A ι H M) {p:Addr} {o:HO} (h:H p=none):Wd (fun x=>A x\/x=p) ι (upd H p o) M:=by
 have w2:=w.fresh (o:=o) h
 have hm:∀x o',¬Av A ι x->(upd H p o) x=some o'->H x≠none->(upd H p o) x=some o'/\¬Av (fun x=>A x\/x=p) ι x:=fun x o' hx e hs=>⟨e,fun z=>by
  rcases z with(z|z)|z
  ·exact hx (.inl z)
  ·subst z; exact hs h
  ·exact hx (.inr z)⟩
 have hl:Lea A ι H (fun x=>A x\/x=p) ι (upd H p o):=⟨⟨[],by simp⟩,fun x o' hx e=>hm x o' hx (qH h e) (by rw[e]; simp),fun x fs hx e=>⟨hx,qH h e⟩⟩
 refine⟨w.nd,w.len,fun x hx=>?_,fun x hx z=>?_,fun k a ob e1 e2=>?_⟩
 ·rcases hx with hx|hx
  ·exact w2.dom x hx
  ·rw[hx,upd_same]; simp
 ·rcases z with z|z
  ·exact w.na x hx z
  ·exact w.nin h (by rw[<-z]; exact hx)
 ·have r:=w.obj k a ob e1 e2
  have ea:upd H p o a=H a:=upd_ne fun z=>by
   obtain⟨q,hq⟩:=r.some
   rw[z,h] at hq; cases hq
  cases ob with
  |lst=>obtain⟨vs,e,r⟩:=r; exact⟨vs,by rw[ea]; exact e,Paired.mapP r fun _ _ q=>q.lea hl⟩
  |tup=>obtain⟨vs,e,r⟩:=r; exact⟨vs,by rw[ea]; exact e,Paired.mapP r fun _ _ q=>q.lea hl⟩
  |ins =>
   obtain⟨dx,gs,e,ed,nd,r⟩:=r
   exact⟨dx,gs,by rw[ea]; exact e,qH h ed,nd,Paired.mapP r fun _ _ q=>⟨q.1,q.2.lea hl⟩⟩
  |dK=>obtain⟨gs,e,r⟩:=r; exact⟨gs,by rw[ea]; exact e,Paired.mapP r fun _ _ q=>⟨q.1,q.2.lea hl⟩⟩
  |dF=>obtain⟨e,r⟩:=r; exact⟨by rw[ea]; exact e,Paired.mapP r fun _ _ q=>⟨q.1,q.2.lea hl⟩⟩
  |tab=>obtain⟨ps,e,t,z⟩:=r; exact⟨ps,by rw[ea]; exact e,t,z.imp id fun⟨c,h1,h2,h3⟩=>⟨c,h1,qH h h2,h3⟩⟩
theorem Wd.lessA (w:Wd A' ι H M) (h:∀x,A x->A' x):Wd A ι H M:=by
 have hl:Lea A' ι H A ι H:=⟨⟨[],by simp⟩,fun x o hx e=>⟨e,fun z=>hx (z.elim (fun z=>.inl (h x z)) .inr)⟩,fun x fs hx e=>⟨hx,e⟩⟩
 refine⟨w.nd,w.len,fun x hx=>w.dom x (h x hx),fun x hx z=>w.na x hx (h x z),fun k a ob e1 e2=>?_⟩
 have r:=w.obj k a ob e1 e2
 cases ob with
 |lst=>obtain⟨vs,e,r⟩:=r; exact⟨vs,e,Paired.mapP r fun _ _ q=>q.lea hl⟩
 |tup=>obtain⟨vs,e,r⟩:=r; exact⟨vs,e,Paired.mapP r fun _ _ q=>q.lea hl⟩
 |ins=>obtain⟨dx,gs,e,ed,nd,r⟩:=r; exact⟨dx,gs,e,ed,nd,Paired.mapP r fun _ _ q=>⟨q.1,q.2.lea hl⟩⟩
 |dK=>obtain⟨gs,e,r⟩:=r; exact⟨gs,e,Paired.mapP r fun _ _ q=>⟨q.1,q.2.lea hl⟩⟩
 |dF=>obtain⟨e,r⟩:=r; exact⟨e,Paired.mapP r fun _ _ q=>⟨q.1,q.2.lea hl⟩⟩
 |tab=>exact r
theorem Wd.updA (w:Wd A ι H M) {p:Addr} {o:HO} {ys:List V} (ha:A p) (hp:H p=some (.lst ys)):Lea A ι H A ι (upd H p o)/\Wd A ι (upd H p o) M:=by
 have hl:Lea A ι H A ι (upd H p o):=⟨⟨[],by simp⟩,fun x o' hx e=>⟨by rw[upd_ne fun z=>hx (.inl (by rw[z]; exact ha))]; exact e,hx⟩,fun x fs hx e=>⟨hx,by rw[upd_ne fun z=>by rw[z,hp] at e; cases e]; exact e⟩⟩
 refine⟨hl,w.nd,w.len,fun x hx=>?_,w.na,fun k a ob e1 e2=>?_⟩
 ·by_cases z:x=p
  ·rw[z,upd_same]; simp
  ·rw[upd_ne z]; exact w.dom x hx
 ·have r:=w.obj k a ob e1 e2
  have ea:upd H p o a=H a:=upd_ne fun z=>w.na a (List.mem_of_getElem? e1) (by rw[z]; exact ha)
  cases ob with
  |lst=>obtain⟨vs,e,r⟩:=r; exact⟨vs,by rw[ea]; exact e,Paired.mapP r fun _ _ q=>q.lea hl⟩
  |tup=>obtain⟨vs,e,r⟩:=r; exact⟨vs,by rw[ea]; exact e,Paired.mapP r fun _ _ q=>q.lea hl⟩
  |ins =>
   obtain⟨dx,gs,e,ed,nd,r⟩:=r
   exact⟨dx,gs,by rw[ea]; exact e,by rw[upd_ne fun z=>by rw[z,hp] at ed; cases ed]; exact ed,nd,Paired.mapP r fun _ _ q=>⟨q.1,q.2.lea hl⟩⟩
  |dK=>obtain⟨gs,e,r⟩:=r; exact⟨gs,by rw[ea]; exact e,Paired.mapP r fun _ _ q=>⟨q.1,q.2.lea hl⟩⟩
  |dF=>obtain⟨e,r⟩:=r; exact⟨by rw[ea]; exact e,Paired.mapP r fun _ _ q=>⟨q.1,q.2.lea hl⟩⟩
  |tab=>obtain⟨ps,e,t,z⟩:=r; exact⟨ps,by rw[ea]; exact e,t,z.imp id fun⟨c,h1,h2,h3⟩=>⟨c,h1,by rw[upd_ne fun z=>by rw[z,hp] at h2; cases h2]; exact h2,h3⟩⟩
theorem Le.updF {p:Addr} {o:HO} (l:Le ι H ι' H') (h:H p=none):Le ι H ι' (upd H' p o):=⟨l.ext,fun x o' e n=>by rw[upd_ne (qY e h)]; exact l.fr x o' e n,fun x e=>by
 by_cases z:x=p
 ·rw[z,upd_same]; simp
 ·rw[upd_ne z]; exact l.al x e⟩
theorem le_comp {wi:TI} {ui:UI} {bs:List Bool} {g:TG} {ug:UG} (hi:LI wi ui) (hg:LGx bs n g ug) (ht:LT tt ut) (he:LE te ue):LE (zn wi bs n g tt te) (uComp ui bs n ug ut ue):=by
 intro A ι σ H ρ M Qu Q w e q k
 refine hi A ι σ H ρ M _ _ w e q fun it M1 ι1 J H1 l1 w1 hJ q1 acc hacc=>?_
 obtain⟨hlen,hsz,Iv,I0,It,Id⟩:=q1
 have hσ:σ.length=bs.length:=by rw[<-hlen]; exact e.len
 have e1:=e.le l1
 have na:¬Av A ι1 acc:=w1.nA hacc
 have key:∀ι2 H2,Le ι1 H1 ι2 H2->(∀x∈ι2,¬(A x\/x=acc))->Lea A ι1 H1 (fun x=>A x\/x=acc) ι2 H2:=fun ι2 H2 l h=>by
  refine⟨let⟨n,e,_⟩:=l.ext; ⟨n,e⟩,fun x o hx ex=>?_,l.xd⟩
  obtain⟨a1,a2⟩:=l.av hx ex
  refine⟨a1,fun z=>?_⟩
  rcases z with(z|z)|z
  ·exact a2 (.inl z)
  ·rw[z,hacc] at ex; cases ex
  ·exact a2 (.inr z)
 refine⟨fun i m H2=>m=it.n-i/\i<=it.n/\∃ι2 M2 at' ys,Le ι1 H1 ι2 H2/\Wd (fun x=>A x\/x=acc) ι2 H2 M2/\H2 acc=some (.lst ys)/\RepTs (Av (fun x=>A x\/x=acc) ι2) H2 ys at'/\at'.length<=i/\Iv i at' M2,
  ⟨it.n,by simp,Nat.zero_le _,ι1,M1, [], [], .fresh hacc,w1.addA hacc,upd_same, .nil,Nat.le_refl _,I0⟩, ?_⟩
 rintro i m H2 ⟨rfl,hin,ι2,M2,at',ys,l2,w2,hys,rys,hat,I2⟩
 have lea:=key ι2 H2 l2 w2.na
 by_cases hlt:i<it.n
 ·obtain⟨ok,step⟩:=It i at' M2 hlt hat I2
  obtain⟨jgo,jy⟩:=(hJ _ ι2 H2 M2 i lea w2 ok).1 hlt
  refine .inr ⟨jgo,fun H'=>∃ι2 M2 at' ys,Le ι1 H1 ι2 H'/\Wd (fun x=>A x\/x=acc) ι2 H' M2/\H' acc=some (.lst ys)/\RepTs (Av (fun x=>A x\/x=acc) ι2) H' ys at'/\at'.length<=i+1/\Iv (i+1) at' M2,fun H' h=>⟨it.n-(i+1),by omega,rfl,hlt,h⟩,fun x H3 y=>?_⟩
  obtain⟨u,hu,l3,w3,r3⟩:=jy x H3 y
  have l13:=l2.trans l3
  have nacc:∀{ι':List Addr} {H':Hp} {M':MM},Wd (fun x=>A x\/x=acc) ι' H' M'->acc∉ι':=fun w z=>w.na acc z (.inr rfl)
  have ys3:H3 acc=some (.lst ys):=l3.fr _ _ hys (nacc w2)
  have env3:EnvR (fun x=>A x\/x=acc) ι2 H3 (vI bs n σ) (V2 bs n ρ):=(e1.mask).lea (key ι2 H3 l13 w3.na)
  refine hg _ ι2 σ H3 _ M2 x u _ _ hσ w3 env3 r3 (step u hu) fun ρ4 σ4 e4 x4 len4 q4=>⟨⟨x4,len4⟩, ?_⟩
  refine ht _ ι2 σ4 H3 ρ4 M2 _ _ w3 e4 q4 fun b M5 ι5 H5 l5 w5 q5=>?_
  have ys5:H5 acc=some (.lst ys):=l5.fr _ _ ys3 (nacc w3)
  have rys5:RepTs (Av (fun x=>A x\/x=acc) ι5) H5 ys at':=Paired.mapP rys fun _ _ q=>(q.le l3).le l5
  cases b with
  |false=>exact⟨ι5,M5,at',ys,l13.trans l5,w5,ys5,rys5,Nat.le_succ_of_le hat,q5⟩
  |true =>
   refine he _ ι5 σ4 H5 ρ4 M5 _ _ w5 (e4.le l5) q5 fun z M6 ι6 zv H6 l6 w6 r6 q6=>?_
   obtain⟨t,rfl,q6⟩:=q6
   have ys6:H6 acc=some (.lst ys):=l6.fr _ _ ys5 (nacc w5)
   refine⟨ys,ys6, ?_,ι6,M6,at'++[t],ys++[zv],((l13.trans l5).trans l6).updF hacc,(w6.updA (.inr rfl) ys6).2,upd_same, ?_,by rw[List.length_append,List.length_singleton]; omega,q6⟩
   ·rw[rys.len]; omega
   ·have hl:=(w6.updA (o:=.lst (ys++[zv])) (.inr rfl) ys6).1
    cases r6 with
    |p r6=>exact Paired.app (Paired.mapP rys5 fun _ _ q=>(q.le l6).mono hl.av) (.cons (r6.mono hl.av) .nil)
 ·have ei:i=it.n:=by omega
  subst ei
  obtain⟨ok,fin⟩:=Id at' M2 I2
  refine .inl ⟨(hJ _ ι2 H2 M2 _ lea w2 ok).2 rfl,k _ M2 ι2 _ H2 (l1.trans l2) (w2.lessA fun x hx=>.inl hx) (.p (.lstP (fun z=>?_) hys (Paired.mapP rys fun _ _ q=>q.mono fun x o hx ex=>⟨ex,fun z=>hx (z.elim (fun z=>.inl (.inl z)) .inr)⟩))) fin⟩
  rcases z with z|z
  ·exact na (.inl z)
  ·exact w2.na acc z (.inr rfl)
end
section
variable {ta:TE} {ua ub uc:UE} {tt:TT} {ut:UT} {tl:TA} {ul:UA} {n:Nat} {A:Addr->Prop} {H H' H1 H2:Hp} {ι ι' ι1 ι2:List Addr} {M M':MM} {v:V} {u:U} {t:T} {σ:St} {ρ:UEnv}
structure UEnds where
 nx:UEnv->MM->Prop
 rt:UK
 bk:UEnv->MM->Prop:=fun _ _=>False
 ct:UEnv->MM->Prop:=fun _ _=>False
abbrev US:=UEnds->UEnv->MM->Prop
structure EndsR (A:Addr->Prop) (ι0:List Addr) (H0:Hp) (E:UEnds) (D:Ends):Prop where
 nx:∀ι σ H ρ M,Le ι0 H0 ι H->Wd A ι H M->EnvR A ι H σ ρ->E.nx ρ M->D.nx σ H
 rt:∀ι v H u M,Le ι0 H0 ι H->Wd A ι H M->RepU A ι H v u->E.rt u M->D.rt v H
 bk:∀ι σ H ρ M,Le ι0 H0 ι H->Wd A ι H M->EnvR A ι H σ ρ->E.bk ρ M->D.bk σ H
 ct:∀ι σ H ρ M,Le ι0 H0 ι H->Wd A ι H M->EnvR A ι H σ ρ->E.ct ρ M->D.ct σ H
theorem EndsR.le {E:UEnds} {D:Ends} (l:Le ι H ι' H') (r:EndsR A ι H E D):EndsR A ι' H' E D :=
 ⟨fun _ _ _ _ _ h=>r.nx _ _ _ _ _ (l.trans h),fun _ _ _ _ _ h=>r.rt _ _ _ _ _ (l.trans h),fun _ _ _ _ _ h=>r.bk _ _ _ _ _ (l.trans h),fun _ _ _ _ _ h=>r.ct _ _ _ _ _ (l.trans h)⟩
def LS (ts:TS) (us:US):Prop:=∀(A:Addr->Prop) (ι:List Addr) (σ:St) (H:Hp) (ρ:UEnv) (M:MM) (D:Ends) (E:UEnds),Wd A ι H M->EnvR A ι H σ ρ->EndsR A ι H E D->us E ρ M->ts D σ H
variable {ts ts':TS} {us us':US}
def uNext:US:=fun E ρ M=>E.nx ρ M
def uSeq (a b:US):US:=fun E ρ M=>a { E with nx:=b E } ρ M
def uDrop (ua:UE):US:=fun E ρ M=>ua ρ M fun _ M1=>E.nx ρ M1
def uRet (ua:UE):US:=fun E ρ M=>ua ρ M E.rt
def uRetN:US:=fun E ρ M=>E.rt (.p .non) M
def uIfS (c:UT) (a b:US):US:=fun E ρ M=>c ρ M fun k M1=>if k=true then a E ρ M1 else b E ρ M1
def uAsg (ua:UE) (g:UG):US:=fun E ρ M=>ua ρ M fun x M1=>g x ρ M1 E.nx
def uAug (i:Nat) (f:Int->Int->Int) (ua:UE):US:=fun E ρ M=>∃a,ρ[i]?=some (some (.p (.int a)))/\ua ρ M fun y M1=>∃b,y=.p (.int b)/\E.nx (ρ.set i (some (.p (.int (f a b))))) M1
theorem ls_next:LS j6 uNext:=fun A ι σ H ρ M D E w e r q=>r.nx ι σ H ρ M (.refl _ _) w e q
theorem ls_seq (ha:LS ts us) (hb:LS ts' us'):LS (tSeq ts ts') (uSeq us us'):=fun A ι σ H ρ M D E w e r q =>
 ha A ι σ H ρ M _ { E with nx:=us' E } w e ⟨fun ι1 σ1 H1 ρ1 M1 l w1 e1 q1=>hb A ι1 σ1 H1 ρ1 M1 D E w1 e1 (r.le l) q1,r.rt,r.bk,r.ct⟩ q
theorem ls_drop (ha:LE ta ua):LS (j7 ta) (uDrop ua):=fun A ι σ H ρ M D E w e r q =>
 ha A ι σ H ρ M _ _ w e q fun x M1 ι1 v H1 l1 w1 r1 q1=>r.nx ι1 σ H1 ρ M1 l1 w1 (e.le l1) q1
theorem ls_ret (ha:LE ta ua):LS (tRet ta) (uRet ua):=fun A ι σ H ρ M D E w e r q =>
 ha A ι σ H ρ M _ _ w e q fun x M1 ι1 v H1 l1 w1 r1 q1=>r.rt ι1 v H1 x M1 l1 w1 r1 q1
theorem ls_if (hc:LT tt ut) (ha:LS ts us) (hb:LS ts' us'):LS (tIfS tt ts ts') (uIfS ut us us'):=fun A ι σ H ρ M D E w e r q =>
 hc A ι σ H ρ M _ _ w e q fun c M1 ι1 H1 l1 w1 q1=>by
  cases c with
  |true=>exact ha A ι1 σ H1 ρ M1 D E w1 (e.le l1) (r.le l1) q1
  |false=>exact hb A ι1 σ H1 ρ M1 D E w1 (e.le l1) (r.le l1) q1
theorem ls_asg {g:TG} {ug:UG} (ha:LE ta ua) (hg:LG g ug):LS (tAsg ta g) (uAsg ua ug):=fun A ι σ H ρ M D E w e r q =>
 ha A ι σ H ρ M _ _ w e q fun x M1 ι1 v H1 l1 w1 r1 q1=>hg A ι1 σ H1 ρ M1 v x _ _ w1 (e.le l1) r1 q1 fun ρ2 M2 ι2 σ2 H2 l2 w2 e2 q2=>r.nx ι2 σ2 H2 ρ2 M2 (l1.trans l2) w2 e2 q2
theorem ls_aug {i:Nat} {f:Int->Int->Int} (ha:LE ta ua):LS (tAug i ta (ipI f)) (uAug i f ua):=fun A ι σ H ρ M D E w e r ⟨a,ea,q⟩=>by
 obtain⟨x,h1,h2⟩:=e.get ea
 cases h2 with
 |p h2 =>
 cases h2
 refine⟨.int a,h1,ha A ι σ H ρ M _ _ w e q fun y M1 ι1 v H1 l1 w1 r1 q1=>?_⟩
 obtain⟨b,rfl,q1⟩:=q1
 cases r1 with
 |p r1 =>
 cases r1
 exact⟨a,b,rfl,rfl,r.nx ι1 _ H1 _ M1 l1 w1 ((e.le l1).put i (.p (.int _))) q1⟩
def UFor (it:UIt) (ug:UG) (ub:US) (E:UEnds) (ρ:UEnv) (M1:MM):Prop:=∃Iv:Nat->UEnv->MM->Prop,Iv 0 ρ M1 /\
 (∀i ρ2 M2,i<it.n->Iv i ρ2 M2->it.ok M2/\∀u,it.item i u->ug u ρ2 M2 fun ρ3 M3=>ub { E with nx:=Iv (i+1),ct:=Iv (i+1),bk:=E.nx } ρ3 M3) /\
 (∀ρ2 M2,Iv it.n ρ2 M2->it.ok M2/\E.nx ρ2 M2)
def uFor (ui:UI) (ug:UG) (ub:US):US:=fun E ρ M=>ui ρ M fun it M1=>UFor it ug ub E ρ M1
theorem ls_for {wi:TI} {ui:UI} {g:TG} {ug:UG} (hi:LI wi ui) (hg:LG g ug) (hb:LS ts us):LS (tFor wi g ts) (uFor ui ug us):=by
 intro A ι σ H ρ M D E w e r q
 refine hi A ι σ H ρ M _ _ w e q fun it M1 ι1 J H1 l1 w1 hJ q1=>?_
 obtain⟨Iv,I0,It,Id⟩:=q1
 have r1:=r.le l1
 refine⟨fun i m σ2 H2=>m=it.n-i/\i<=it.n/\∃ι2 ρ2 M2,Le ι1 H1 ι2 H2/\Wd A ι2 H2 M2/\EnvR A ι2 H2 σ2 ρ2/\Iv i ρ2 M2,⟨it.n,by simp,Nat.zero_le _,ι1,ρ,M1, .refl _ _,w1,e.le l1,I0⟩, ?_⟩
 rintro i m σ2 H2 ⟨rfl,hin,ι2,ρ2,M2,l2,w2,e2,I2⟩
 by_cases hlt:i<it.n
 ·obtain⟨ok,step⟩:=It i ρ2 M2 hlt I2
  obtain⟨jgo,jy⟩:=(hJ A ι2 H2 M2 i l2.lea w2 ok).1 hlt
  refine .inr ⟨jgo,fun σ' H'=>∃ι2 ρ2 M2,Le ι1 H1 ι2 H'/\Wd A ι2 H' M2/\EnvR A ι2 H' σ' ρ2/\Iv (i+1) ρ2 M2,fun σ' H' h=>⟨it.n-(i+1),by omega,rfl,hlt,h⟩,fun x H3 y=>?_⟩
  obtain⟨u,hu,l3,w3,r3⟩:=jy x H3 y
  refine hg A ι2 σ2 H3 ρ2 M2 x u _ _ w3 (e2.le l3) r3 (step u hu) fun ρ4 M4 ι4 σ4 H4 l4 w4 e4 q4=>?_
  have l14:=(l2.trans l3).trans l4
  exact hb A ι4 σ4 H4 ρ4 M4 _ { E with nx:=Iv (i+1),ct:=Iv (i+1),bk:=E.nx } w4 e4 ⟨fun ι5 σ5 H5 ρ5 M5 l5 w5 e5 q5=>⟨ι5,ρ5,M5,l14.trans l5,w5,e5,q5⟩,(r1.le l14).rt,(r1.le l14).nx,fun ι5 σ5 H5 ρ5 M5 l5 w5 e5 q5=>⟨ι5,ρ5,M5,l14.trans l5,w5,e5,q5⟩⟩ q4
 ·have ei:i=it.n:=by omega
  subst ei
  obtain⟨ok,fin⟩:=Id ρ2 M2 I2
  exact .inl ⟨(hJ A ι2 H2 M2 _ l2.lea w2 ok).2 rfl,r1.nx ι2 σ2 H2 ρ2 M2 l2 w2 e2 fin⟩
def uWhile (uc:UT) (ub:US):US:=fun E ρ M=>∃W:Nat->UEnv->MM->Prop,(∃m,W m ρ M)/\∀m ρ M,W m ρ M ->
 uc ρ M fun b M1=>if b=true then ∃N:UEnv->MM->Prop,(∀ρ' M',N ρ' M'->∃m',m'<m/\W m' ρ' M')/\ub { E with nx:=N,ct:=N,bk:=E.nx } ρ M1 else E.nx ρ M1
theorem ls_while (hc:LT tt ut) (hb:LS ts us):LS (Va tt ts) (uWhile ut us):=by
 intro A ι σ H ρ M D E w e r q
 obtain⟨W,⟨m0,W0⟩,step⟩:=q
 refine⟨fun m σ2 H2=>∃ι2 ρ2 M2,Le ι H ι2 H2/\Wd A ι2 H2 M2/\EnvR A ι2 H2 σ2 ρ2/\W m ρ2 M2,⟨m0,ι,ρ,M, .refl _ _,w,e,W0⟩, ?_⟩
 rintro m σ2 H2 ⟨ι2,ρ2,M2,l2,w2,e2,W2⟩
 refine hc A ι2 σ2 H2 ρ2 M2 _ _ w2 e2 (step m ρ2 M2 W2) fun b M3 ι3 H3 l3 w3 q3=>?_
 cases b with
 |false=>exact r.nx ι3 σ2 H3 ρ2 M3 (l2.trans l3) w3 (e2.le l3) q3
 |true =>
  obtain⟨N,hN,q3⟩:=q3
  have l13:=l2.trans l3
  refine⟨fun σ' H'=>∃ι4 ρ4 M4,Le ι H ι4 H'/\Wd A ι4 H' M4/\EnvR A ι4 H' σ' ρ4/\N ρ4 M4, ?_, ?_⟩
  ·rintro σ' H' ⟨ι4,ρ4,M4,l4,w4,e4,n4⟩
   obtain⟨m',hm,W4⟩:=hN ρ4 M4 n4
   exact⟨m',hm,ι4,ρ4,M4,l4,w4,e4,W4⟩
  ·exact hb A ι3 σ2 H3 ρ2 M3 _ { E with nx:=N,ct:=N,bk:=E.nx } w3 (e2.le l3) ⟨fun ι5 σ5 H5 ρ5 M5 l5 w5 e5 q5=>⟨ι5,ρ5,M5,l13.trans l5,w5,e5,q5⟩,(r.le l13).rt,(r.le l13).nx,fun ι5 σ5 H5 ρ5 M5 l5 w5 e5 q5=>⟨ι5,ρ5,M5,l13.trans l5,w5,e5,q5⟩⟩ q3
def MeL (r:V->List V->Hp->VK->Prop) (s:List U->List U->(U->List U->Prop)->Prop):Prop:=∀(A:Addr->Prop) (ι:List Addr) (H:Hp) (M:MM) (k:Nat) (a:Addr) (xs ys:List V) (us ws:List U) (Qs:U->List U->Prop) (Q:VK),Wd A ι H M->ι[k]?=some a->H a=some (.lst xs)->M[k]?=some (.lst us)->RepUs A ι H xs us->RepUs A ι H ys ws->s us ws Qs ->
 (∀z us' v xs',RepUs A ι H xs' us'->RepU A ι H v z->Qs z us'->Q v (upd H a (.lst xs')))->r (.ref a) ys H Q
def uMe (s:List U->List U->(U->List U->Prop)->Prop) (uo:UE) (ul:UA):UE:=fun ρ M Q=>uo ρ M fun o M1=>∃k,o=.m k/\(∃zs,M1[k]?=some (.lst zs))/\ul ρ M1 fun ws M2=>∃us,M2[k]?=some (.lst us)/\s us ws fun z us'=>Q z (M2.set k (.lst us'))
theorem le_me {r:V->List V->Hp->VK->Prop} {s:List U->List U->(U->List U->Prop)->Prop} (h:MeL r s) (ha:LE ta ua) (hl:LA n tl ul):LE (tLM r ta tl) (uMe s ua ul):=fun A ι σ H ρ M Qu Q w e q k =>
 ha A ι σ H ρ M _ _ w e q fun o M1 ι1 v H1 l1 w1 r1 ⟨kk,eo,⟨zs,hz⟩,q1⟩=>by
  subst eo
  cases r1 with
  |m ek =>
  rename_i a
  obtain⟨xs1,h1,_⟩:=w1.obj kk a _ ek hz
  refine⟨a,xs1,rfl,h1,hl A ι1 σ H1 ρ M1 _ _ w1 (e.le l1) q1 fun ws M2 ι2 ys H2 l2 w2 hn r2 q2=>?_⟩
  obtain⟨us,hus,q2⟩:=q2
  have ek2:ι2[kk]?=some a:=by
   obtain⟨nn,rfl,_⟩:=l2.ext
   rw[List.getElem?_append_left (List.getElem?_eq_some_iff.mp ek).1]; exact ek
  obtain⟨xs2,h3,h4⟩:=w2.obj kk a _ ek2 hus
  have hm:=List.mem_of_getElem? ek2
  exact h A ι2 H2 M2 kk a xs2 ys us ws _ Q w2 ek2 h3 hus h4 r2 q2 fun z us' zv xs' rx rz qz=>k z _ ι2 zv _ ((l1.trans l2).trans (.put hm)) (w2.put (mo:=.lst us') ek2 ⟨xs',upd_same,RepUs.le (.put hm) rx⟩) (rz.le (.put hm)) qz
def ZJ:List U->List U->(U->List U->Prop)->Prop:=fun us ws Q=>∃y,ws=[y]/\us.length<sizeLine/\Q (.p .non) (us++[y])
theorem zM:MeL ZR ZJ:=fun A ι H M k a xs ys us ws Qs Q w ek h1 h2 rx ry ⟨y,ey,hz,q⟩ kk=>by
 subst ey
 cases ry with
 |cons r q' =>
 cases q'
 exact⟨a,xs,_,rfl,rfl,h1,by rw[rx.len]; exact hz,kk _ _ _ _ (rx.app (.cons r .nil)) (.p .non) q⟩
def spU (G:List U->MM->UK->Prop):Sp:=fun vs H Q _=>∃A ι M us Qu,Wd A ι H M/\RepUs A ι H vs us/\G us M Qu/\∀u M' ι' v H',Le ι H ι' H'->Wd A ι' H' M'->RepU A ι' H' v u->Qu u M'->Q v H'
def uCall (G:List U->MM->UK->Prop) (ul:UA):UE:=fun ρ M Q=>ul ρ M fun us M1=>G us M1 Q
theorem le_callU {G:List U->MM->UK->Prop} {E:XK} (ha:LA n tl ul):LE (vK (spU G) [] E tl) (uCall G ul):=fun A ι σ H ρ M Qu Q w e q k =>
 ha A ι σ H ρ M _ _ w e q fun us M1 ι1 vs H1 l1 w1 hn r1 q1=>by
  rw[List.append_nil]
  exact⟨A,ι1,M1,us,_,w1,r1,q1,fun u M2 ι2 v H2 l2 w2 r2 q2=>k u M2 ι2 v H2 (l1.trans l2) w2 r2 q2⟩
def spP (G:List T->(T->Prop)->Prop):Sp:=fun vs H Q _=>∃A ts Qt,(∀x,A x->H x≠none)/\RepTs A H vs ts/\G ts Qt/\∀t v H',Same H H'->RepT A H' v t->Qt t->Q v H'
def Zp (G:List T->(T->Prop)->Prop) (ul:UA):UE:=fun ρ M Q=>ul ρ M fun us M1=>∃ts,vA us=some ts/\G ts fun t=>Q (.p t) M1
def uCallS (G:List T->(T->Prop)->Prop) (ul:UA):UE:=fun ρ M Q=>ul ρ M fun us M1=>∃ts,sns M1 us=some ts/\G ts fun t=>(∃x,vt t=some x)/\Q (.p t) M1
theorem Same.le (s:Same H H'):Le ι H ι H':=⟨⟨[],by simp,by simp⟩,fun x o e _=>s x o e,fun x e=>by
 cases q:H x with
 |none=>exact absurd q e
 |some o=>rw[s x o q]; simp⟩
theorem Wd.same (w:Wd A ι H M) (s:Same H H'):Wd A ι H' M :=
 ⟨w.nd,w.len,fun x hx=>(Same.le (ι:=ι) s).al x (w.dom x hx),w.na,fun k a ob e1 e2=>(w.obj k a ob e1 e2).le' s.le (by
  obtain⟨o,ho⟩:=(w.obj k a ob e1 e2).some
  rw[ho,s _ _ ho]) fun x ex=>by rw[ex,s _ _ ex]⟩
theorem Wd.domAv (w:Wd A ι H M):∀x,Av A ι x->H x≠none:=fun x h=>by
 rcases h with h|h
 ·exact w.dom x h
 ·obtain⟨o,ho⟩:=w.mem_some h
  rw[ho]; simp
theorem le_callP {G:List T->(T->Prop)->Prop} {E:XK} (ha:LA n tl ul):LE (vK (spP G) [] E tl) (Zp G ul):=fun A ι σ H ρ M Qu Q w e q k =>
 ha A ι σ H ρ M _ _ w e q fun us M1 ι1 vs H1 l1 w1 hn r1 ⟨ts,et,q1⟩=>by
  rw[List.append_nil]
  rw[vn et] at r1
  exact⟨Av A ι1,ts,_,w1.domAv,r1.pures,q1,fun t v H2 s r2 q2=>k _ M1 ι1 v H2 (l1.trans s.le) (w1.same s) (.p r2) q2⟩
theorem RepU.snT (w:Wd A ι H M) (r:RepU A ι H v u) (e:L2.sn M u=some t):RepT A H v t:=by
 have wk:∀{v t},RepT (Av A ι) H v t->RepT A H v t:=fun r=>r.mono fun x o hx ex=>⟨ex,fun z=>hx (.inl z)⟩
 cases r with
 |p r=>simp[L2.sn] at e; subst e; exact wk r
 |m q =>
  obtain⟨o,h1,h2⟩:=w.al q
  have hna:=w.na _ (List.mem_of_getElem? q)
  simp only[L2.sn,h1] at e
  cases o with
  |lst us =>
   simp at e
   obtain⟨ts,e1,rfl⟩:=e
   obtain⟨vs,h3,h4⟩:=h2
   rw[vn e1] at h4
   exact .lstP hna h3 (Paired.mapP h4.pures fun _ _ q=>wk q)
  |tup us =>
   simp at e
   obtain⟨ts,e1,rfl⟩:=e
   obtain⟨vs,h3,h4⟩:=h2
   rw[vn e1] at h4
   exact .tupP hna h3 (Paired.mapP h4.pures fun _ _ q=>wk q)
  |ins=>simp at e
  |dK=>simp at e
  |dF=>simp at e
  |tab=>simp at e
 |x h=>simp[L2.sn] at e
theorem RepUs.snsT (w:Wd A ι H M):∀{vs:List V} {us:List U} {ts:List T},RepUs A ι H vs us->L2.sns M us=some ts->RepTs A H vs ts
 |_,_,ts, .nil,e=>by simp[L2.sns] at e; subst e; exact .nil
 |_,_,ts, .cons r q,e=>by
  simp only[L2.sns] at e
  split at e
  ·rename_i h1 h2
   simp at e; subst e
   exact .cons (r.snT w h1) (RepUs.snsT w q h2)
  ·cases e
def frzs (f:U->Option T):List U->Option (List T)
 | []=>some []
 |u::r=>match f u,frzs f r with
  |some t,some ts=>some (t::ts)
  |_,_=>none
def frzN:Nat->MM->U->Option T
 |_,_, .p t=>some t
 |0,_, .m _=>none
 |_,_, .x _ _ _=>none
 |n+1,M, .m k=>match M[k]? with
  |some (.lst us)=>(frzs (frzN n M) us).map T.lst
  |some (.tup us)=>(frzs (frzN n M) us).map T.tup
  |_=>none
theorem jL {f:U->Option T} {vs:List V} {us:List U} {ts:List T} (r:RepUs A ι H vs us) (h:∀v u t,RepU A ι H v u->f u=some t->RepT A H v t) (e:frzs f us=some ts):RepTs A H vs ts:=by
 induction r generalizing ts with
 |nil=>simp[frzs] at e; subst e; exact .nil
 |cons r q ih =>
  simp only[frzs] at e
  split at e
  ·rename_i h1 h2
   simp at e; subst e
   exact .cons (h _ _ _ r h1) (ih h2)
  ·cases e
theorem jN (w:Wd A ι H M):∀{n:Nat} {v:V} {u:U} {t:T},RepU A ι H v u->frzN n M u=some t->RepT A H v t
 |n,v, .p t',t, .p r,e=>by
  cases n<;>simp[frzN] at e<;>subst e<;>exact r.mono fun x o hx ex=>⟨ex,fun z=>hx (.inl z)⟩
 |0,v, .m k,t,r,e=>by simp[frzN] at e
 |n,v, .x a d q,t,r,e=>by cases n<;>simp[frzN] at e
 |n+1,v, .m k,t,r,e=>by
  cases r with
  |m q =>
  obtain⟨o,h1,h2⟩:=w.al q
  have hna:=w.na _ (List.mem_of_getElem? q)
  simp only[frzN,h1] at e
  cases o with
  |lst us =>
   simp at e
   obtain⟨ts,e1,rfl⟩:=e
   obtain⟨vs,h3,h4⟩:=h2
   exact .lstP hna h3 (jL h4 (fun v u t r e=>jN w r e) e1)
  |tup us =>
   simp at e
   obtain⟨ts,e1,rfl⟩:=e
   obtain⟨vs,h3,h4⟩:=h2
   exact .tupP hna h3 (jL h4 (fun v u t r e=>jN w r e) e1)
  |ins=>simp at e
  |dK=>simp at e
  |dF=>simp at e
  |tab=>simp at e
theorem jM {f:U->Option T} (h:∀t,f (.p t)=some t):∀ts:List T,frzs f (ts.map U.p)=some ts
 | []=>rfl
 |t::r=>by simp[frzs,h t,jM h r]
@[simp] theorem frzN_p {n:Nat} {M:MM} {t:T}:frzN n M (.p t)=some t:=by cases n<;>rfl
def zt (N:List Str) (us:List U):UEnv:=us.map some++List.replicate (N.length-us.length) none
theorem zr {N:List Str} {vs:List V} {us:List U} (r:RepUs A ι H vs us):EnvR A ι H (start N vs) (zt N us):=by
 unfold start zt
 refine Paired.app ?_ ?_
 ·exact Paired.mapR (f:=some) (F:=fun s u=>∃v,s=some v/\RepU A ι H v u) (fun a b q u e=>by cases e; exact q) (by
   induction r with
   |nil=>exact .nil
   |cons r q ih=>exact .cons ⟨_,rfl,r⟩ ih)
 ·rw[r.len]
  generalize N.length-us.length=m
  induction m with
  |zero=>exact .nil
  |succ m ih=>exact .cons (fun u e=>by cases e) ih
end
section
variable {P:Program} {w:World} {K:PySem.W.Frag} {mg:Str->Option Value} {base:Heap}
theorem Fun.okU {x qual:Str} {st:Stmt} {f:Addr} {fd:FuncData} {N ps:List Str} {k:Nat} {G:List U->MM->UK->Prop} (F:Fun K x qual st f fd) (S:FnScope N ps (qg st)) (len:∀us M Qu,G us M Qu->us.length=ps.length)
  (hbody:∀(cdv:Value) (A:Around) (outer:List Env) (s:Shared) (H:Hp) (E:XK),Room k (A.deeper (envOfC qual (qg st) s.heap.objs.size f cdv)) ->
   ∃t,PSs (cxOf CX0 P w K mg base N qual (qg st) f cdv A outer s H E).nox (ve st) t/\∃u,LS t u/\∀us M Qu,G us M Qu->u { nx:=fun _ M'=>Qu (.p .non) M',rt:=Qu } (zt N us) M):FnOk P w K mg base CX0 (k+1) f fd ps (spU G):=by
 refine F.ok S (fun vs H Q E h=>?_) (fun cdv A outer s H vs Q E hr h=>?_)
 ·obtain⟨A,ι,M,us,Qu,w1,r,g,_⟩:=h
  rw[r.len]; exact len us M Qu g
 ·obtain⟨B,ι,M,us,Qu,w1,r,g,kk⟩:=h
  obtain⟨t,ht,u,hu,hb⟩:=hbody cdv A outer s H E hr
  refine⟨t,ht,hu B ι _ H _ M _ { nx:=fun _ M'=>Qu (.p .non) M',rt:=Qu } w1 (zr r) ⟨fun ι1 σ1 H1 ρ1 M1 l1 w1 e1 q1=>kk _ M1 ι1 _ H1 l1 w1 (.p .non) q1,fun ι1 v H1 z M1 l1 w1 r1 q1=>kk z M1 ι1 v H1 l1 w1 r1 q1,fun _ _ _ _ _ _ _ _ q=>q.elim,fun _ _ _ _ _ _ _ _ q=>q.elim⟩ (hb us M Qu g)⟩
theorem Fun.okP {x qual:Str} {st:Stmt} {f:Addr} {fd:FuncData} {N ps:List Str} {k:Nat} {G:List T->(T->Prop)->Prop} (F:Fun K x qual st f fd) (S:FnScope N ps (qg st)) (len:∀ts Qt,G ts Qt->ts.length=ps.length)
  (hbody:∀(cdv:Value) (A:Around) (outer:List Env) (s:Shared) (H:Hp) (E:XK),Room k (A.deeper (envOfC qual (qg st) s.heap.objs.size f cdv)) ->
   ∃t,PSs (cxOf CX0 P w K mg base N qual (qg st) f cdv A outer s H E).nox (ve st) t/\∃u,LS t u/\∀ts Qt,G ts Qt->u { nx:=fun _ _=>Qt .non,rt:=fun z M'=>∃t,frzN 4 M' z=some t/\Qt t } (zt N (ts.map U.p)) []):FnOk P w K mg base CX0 (k+1) f fd ps (spP G):=by
 refine F.ok S (fun vs H Q E h=>?_) (fun cdv A outer s H vs Q E hr h=>?_)
 ·obtain⟨A,ts,Qt,hd,r,g,_⟩:=h
  rw[r.len]; exact len ts Qt g
 ·obtain⟨B,ts,Qt,hd,r,g,kk⟩:=h
  obtain⟨t,ht,u,hu,hb⟩:=hbody cdv A outer s H E hr
  have w0:Wd B [] H []:=⟨List.nodup_nil,rfl,hd,fun x hx=>by simp at hx,fun k a o e _=>by simp at e⟩
  have same:∀{ι1:List Addr} {H1:Hp},Le [] H ι1 H1->Same H H1:=fun l b o e=>l.fr b o e (by simp)
  have r0:RepUs B [] H vs (ts.map U.p):=RepTs.ups (Paired.mapP r fun _ _ q=>q.mono fun x o hx ex=>⟨ex,fun z=>z.elim hx (by simp)⟩)
  refine⟨t,ht,hu B [] _ H _ [] _ { nx:=fun _ _=>Qt .non,rt:=fun z M'=>∃t,frzN 4 M' z=some t/\Qt t } w0 (zr r0) ⟨fun ι1 σ1 H1 ρ1 M1 l1 w1 e1 q1=>kk _ _ H1 (same l1) .non q1,fun ι1 v H1 z M1 l1 w1 r1 ⟨t1,et,q1⟩=>kk t1 v H1 (same l1) (jN w1 r1 et) q1,fun _ _ _ _ _ _ _ _ q=>q.elim,fun _ _ _ _ _ _ _ _ q=>q.elim⟩ (hb ts Qt g)⟩
end
section
variable {ua ub uc:UE} {ut:UT} {ul:UA} {us us':US} {n:Nat} {M M1:MM} {u:U} {t:T} {ρ:UEnv} {Q:UK} {QB:Bool->MM->Prop} {E:UEnds} {ug:UG}
def OpS (s:T->T->(T->Prop)->Prop) (M:MM) (x y:U) (Q:UK):Prop:=∃a b,sn M x=some a/\sn M y=some b/\s a b fun t=>Q (.p t) M
theorem rd_op {s:T->T->(T->Prop)->Prop}:uOp s ua ub ρ M Q=ua ρ M fun x M1=>ub ρ M1 fun y M2=>OpS s M2 x y Q:=rfl
theorem rd_opS {s:T->T->(T->Prop)->Prop} {a b:T}:OpS s M (.p a) (.p b) Q=s a b fun t=>Q (.p t) M :=
 propext ⟨fun⟨_,_,e1,e2,h⟩=>by cases e1; cases e2; exact h,fun h=>⟨a,b,rfl,rfl,h⟩⟩
theorem rd_sI {C:Int->Int->Prop} {g:Int->Int->T} {i j:Int} {Q:T->Prop}:sI C g (.int i) (.int j) Q=(C i j/\Q (g i j)) :=
 propext ⟨fun⟨_,_,e1,e2,h⟩=>by cases e1; cases e2; exact h,fun h=>⟨i,j,rfl,rfl,h⟩⟩
theorem rd_sI0 {g:Int->Int->T} {i j:Int} {Q:T->Prop}:sI0 g (.int i) (.int j) Q=Q (g i j) :=
 propext ⟨fun⟨_,_,e1,e2,h⟩=>by cases e1; cases e2; exact h,fun h=>⟨i,j,rfl,rfl,h⟩⟩
theorem rd_eqI {i j:Int} {Q:T->Prop}:sEq false (.int i) (.int j) Q=Q (.bl (decide (i=j))):=by
 refine propext ⟨fun⟨x,y,e1,e2,_,h⟩=>?_,fun h=>⟨_,_,rfl,rfl,rfl, ?_⟩⟩
 ·simp[vt] at e1 e2; subst e1 e2; simpa using h
 ·simpa using h
theorem rd_neI {i j:Int} {Q:T->Prop}:sEq true (.int i) (.int j) Q=Q (.bl (!decide (i=j))):=by
 refine propext ⟨fun⟨x,y,e1,e2,_,h⟩=>?_,fun h=>⟨_,_,rfl,rfl,rfl, ?_⟩⟩
 ·simp[vt] at e1 e2; subst e1 e2; simpa using h
 ·simpa using h
theorem rd_eqS {i j:Str} {Q:T->Prop}:sEq false (.str i) (.str j) Q=Q (.bl (decide (i=j))):=by
 refine propext ⟨fun⟨x,y,e1,e2,_,h⟩=>?_,fun h=>⟨_,_,rfl,rfl,rfl, ?_⟩⟩
 ·simp[vt] at e1 e2; subst e1 e2; simpa using h
 ·simpa using h
theorem rd_neS {i j:Str} {Q:T->Prop}:sEq true (.str i) (.str j) Q=Q (.bl (!decide (i=j))):=by
 refine propext ⟨fun⟨x,y,e1,e2,_,h⟩=>?_,fun h=>⟨_,_,rfl,rfl,rfl, ?_⟩⟩
 ·simp[vt] at e1 e2; subst e1 e2; simpa using h
 ·simpa using h
theorem rd_eqB {i j:Bool} {Q:T->Prop}:sEq false (.bl i) (.bl j) Q=Q (.bl (decide (i=j))):=by
 refine propext ⟨fun⟨x,y,e1,e2,_,h⟩=>?_,fun h=>⟨_,_,rfl,rfl,rfl, ?_⟩⟩
 ·simp[vt] at e1 e2; subst e1 e2; simpa using h
 ·simpa using h
theorem rd_neB {i j:Bool} {Q:T->Prop}:sEq true (.bl i) (.bl j) Q=Q (.bl (!decide (i=j))):=by
 refine propext ⟨fun⟨x,y,e1,e2,_,h⟩=>?_,fun h=>⟨_,_,rfl,rfl,rfl, ?_⟩⟩
 ·simp[vt] at e1 e2; subst e1 e2; simpa using h
 ·simpa using h
def VarS (o:Option (Option U)) (M:MM) (Q:UK):Prop:=∃u,o=some (some u)/\Q u M
theorem rd_var {i:Nat}:uVar i ρ M Q=VarS ρ[i]? M Q:=rfl
theorem rd_varS:VarS (some (some u)) M Q=Q u M:=propext ⟨fun⟨_,e,h⟩=>by cases e; exact h,fun h=>⟨u,rfl,h⟩⟩
def IntS (x:U) (R:Int->Prop):Prop:=∃i,x=.p (.int i)/\R i
theorem rd_intS {i:Int} {R:Int->Prop}:IntS (.p (.int i)) R=R i:=propext ⟨fun⟨_,e,h⟩=>by cases e; exact h,fun h=>⟨i,rfl,h⟩⟩
def BlS (x:U) (R:Bool->Prop):Prop:=∃b,x=.p (.bl b)/\R b
theorem rd_blS {b:Bool} {R:Bool->Prop}:BlS (.p (.bl b)) R=R b:=propext ⟨fun⟨_,e,h⟩=>by cases e; exact h,fun h=>⟨b,rfl,h⟩⟩
theorem rd_neg:uNeg ua ρ M Q=ua ρ M fun x M1=>IntS x fun i=>Q (.p (.int (-i))) M1:=rfl
theorem rd_bits:uBits ua ρ M Q=ua ρ M fun x M1=>IntS x fun i=>Q (.p (.int (Builtin.Int.intBits i))) M1:=rfl
theorem rd_b:uB ua ρ M QB=ua ρ M fun x M1=>BlS x fun b=>QB b M1:=rfl
theorem rd_andV:uAndV ua ub ρ M Q=ua ρ M fun x M1=>BlS x fun c=>if c=true then ub ρ M1 Q else Q (.p (.bl false)) M1:=rfl
theorem rd_orV:uOrV ua ub ρ M Q=ua ρ M fun x M1=>BlS x fun c=>if c=true then Q (.p (.bl true)) M1 else ub ρ M1 Q:=rfl
theorem rd_notV:uNotV ua ρ M Q=ua ρ M fun x M1=>BlS x fun c=>Q (.p (.bl (!c))) M1:=rfl
def ChS (s':T->T->(T->Prop)->Prop) (uc:UE) (ρ:UEnv) (M:MM) (y:U) (Q:UK) (z:T):Prop:=∃k,z=.bl k/\if k=true then uc ρ M fun c M3=>OpS s' M3 y c Q else Q (.p (.bl false)) M
theorem rd_chain {s s':T->T->(T->Prop)->Prop}:Q7 s s' ua ub uc ρ M Q=ua ρ M fun x M1=>ub ρ M1 fun y M2=>OpS s M2 x y fun z _=>∃t,z=.p t/\ChS s' uc ρ M2 y Q t :=
 propext (by
  have e:∀(x y:U) (M2:MM),(∃a b,sn M2 x=some a/\sn M2 y=some b/\s a b fun z=>∃k,z=.bl k/\if k=true then uc ρ M2 fun c M3=>∃b' c',sn M3 y=some b'/\sn M3 c=some c'/\s' b' c' fun t=>Q (.p t) M3 else Q (.p (.bl false)) M2)=(OpS s M2 x y fun z _=>∃t,z=.p t/\ChS s' uc ρ M2 y Q t):=fun x y M2=>by
   unfold OpS ChS
   have:∀z:T,(∃t,U.p z=.p t/\∃k,t=.bl k/\if k=true then uc ρ M2 fun c M3=>OpS s' M3 y c Q else Q (.p (.bl false)) M2)=(∃k,z=.bl k/\if k=true then uc ρ M2 fun c M3=>∃b' c',sn M3 y=some b'/\sn M3 c=some c'/\s' b' c' fun t=>Q (.p t) M3 else Q (.p (.bl false)) M2):=fun z =>
    propext ⟨fun⟨t,e,h⟩=>by cases e; exact h,fun h=>⟨z,rfl,h⟩⟩
   simp only[this]
  unfold Q7
  simp only[e])
theorem rd_chP {s':T->T->(T->Prop)->Prop} {y:U} {b:Bool}:(∃t,U.p (.bl b)=.p t/\ChS s' uc ρ M y Q t)=if b=true then uc ρ M fun c M3=>OpS s' M3 y c Q else Q (.p (.bl false)) M :=
 propext ⟨fun⟨t,e,k,e2,h⟩=>by cases e; cases e2; exact h,fun h=>⟨_,rfl,b,rfl,h⟩⟩
def PurS (us:List U) (R:List T->Prop):Prop:=∃ts,vA us=some ts/\R ts
theorem ZL {ts:List T} {R:List T->Prop}:PurS (ts.map U.p) R=R ts:=propext ⟨fun⟨_,e,h⟩=>by rw[zd] at e; cases e; exact h,fun h=>⟨ts,zd ts,h⟩⟩
theorem rd_pur0 {R:List T->Prop}:PurS [] R=R []:=ZL (ts:=[])
theorem rd_purC {a:T} {us:List U} {R:List T->Prop}:PurS (.p a::us) R=PurS us fun ts=>R (a::ts):=by
 refine propext ⟨fun⟨ts,e,h⟩=>?_,fun⟨ts,e,h⟩=>⟨a::ts,by simp[vA,e],h⟩⟩
 simp[vA] at e
 obtain⟨r,e1,rfl⟩:=e
 exact⟨r,e1,h⟩
theorem rd_tup:uTup ul ρ M Q=ul ρ M fun us M1=>PurS us fun ts=>Q (.p (.tup ts)) M1:=rfl
theorem rd_lst:uLst ul ρ M Q=ul ρ M fun us M1=>PurS us fun ts=>Q (.p (.lst ts)) M1:=rfl
def IxS (it:MM->U->Option (List U)) (M:MM) (x y:U) (Q:UK):Prop:=∃us i z,it M x=some us/\y=.p (.int i)/\atI us i=some z/\Q z M
theorem rd_ix {it:MM->U->Option (List U)}:uIx it ua ub ρ M Q=ua ρ M fun x M1=>ub ρ M1 fun y M2=>IxS it M2 x y Q:=rfl
theorem XN {it:MM->U->Option (List U)} {x:U} {us:List U} {i:Int} {z:U} (h1:it M x=some us) (h2:atI us i=some z) (q:Q z M):IxS it M x (.p (.int i)) Q:=⟨us,i,z,h1,rfl,h2,q⟩
theorem jT {ts:List T} {i:Int} {t:T} (h:atI ts i=some t):atI (ts.map U.p) i=some (.p t):=by
 unfold atI at h ⊢
 rw[List.length_map]
 cases e:ixN ts.length i with
 |none=>rw[e] at h; cases h
 |some j=>rw[e] at h; simp at h ⊢; rw[h]
theorem vO {ts:List T} {i:Int} {t:T} (h:atI ts i=some t) (q:Q (.p t) M):IxS ql M (.p (.lst ts)) (.p (.int i)) Q:=XN rfl (jT h) q
theorem XM {ts:List T} {i:Int} {t:T} (h:atI ts i=some t) (q:Q (.p t) M):IxS vh M (.p (.tup ts)) (.p (.int i)) Q:=XN rfl (jT h) q
def SnsS (M:MM) (us:List U) (R:List T->Prop):Prop:=∃ts,sns M us=some ts/\R ts
theorem rd_sns0 {R:List T->Prop}:SnsS M [] R=R []:=propext ⟨fun⟨_,e,h⟩=>by cases e; exact h,fun h=>⟨[],rfl,h⟩⟩
theorem rd_snsC {a:T} {us:List U} {R:List T->Prop}:SnsS M (.p a::us) R=SnsS M us fun ts=>R (a::ts):=by
 refine propext ⟨fun⟨ts,e,h⟩=>?_,fun⟨ts,e,h⟩=>⟨a::ts,by simp[sns,sn,e],h⟩⟩
 simp only[sns,sn] at e
 cases q:sns M us with
 |none=>rw[q] at e; cases e
 |some r=>rw[q] at e; simp at e; subst e; exact⟨r,q,h⟩
theorem rd_cb {s:List T->(T->Prop)->Prop}:uCb s ul ρ M Q=ul ρ M fun us M1=>SnsS M1 us fun ts=>s ts fun t=>Q (.p t) M1:=rfl
theorem rd_abs' {i:Int} {Q:T->Prop}:sAbs [.int i] Q=Q (.int (if i<0 then -i else i)):=propext ⟨fun⟨_,e,h⟩=>by cases e; exact h,fun h=>⟨i,rfl,h⟩⟩
theorem rd_min' {i j:Int} {Q:T->Prop}:sMin [.int i, .int j] Q=Q (.int (if j<i then j else i)):=propext ⟨fun⟨_,_,e,h⟩=>by cases e; exact h,fun h=>⟨i,j,rfl,h⟩⟩
theorem rd_max' {i j:Int} {Q:T->Prop}:sMax [.int i, .int j] Q=Q (.int (if j>i then j else i)):=propext ⟨fun⟨_,_,e,h⟩=>by cases e; exact h,fun h=>⟨i,j,rfl,h⟩⟩
theorem rd_int' {i:Int} {Q:T->Prop}:sInt [.int i] Q=Q (.int i):=by
 refine propext ⟨fun h=>?_,fun h=>Or.inl ⟨i,rfl,h⟩⟩
 rcases h with⟨_,e,h⟩|⟨_,e,h⟩
 ·cases e; exact h
 ·cases e
theorem rd_intB {k:Bool} {Q:T->Prop}:sInt [.bl k] Q=Q (.int (if k then 1 else 0)):=by
 refine propext ⟨fun h=>?_,fun h=>Or.inr ⟨k,rfl,h⟩⟩
 rcases h with⟨_,e,h⟩|⟨_,e,h⟩
 ·cases e
 ·cases e; exact h
def LenS (it:MM->U->Option (List U)) (M:MM) (us:List U) (Q:UK):Prop:=∃x ys,us=[x]/\it M x=some ys/\Q (.p (.int ys.length)) M
theorem rd_len {it:MM->U->Option (List U)}:uLen it ul ρ M Q=ul ρ M fun us M1=>LenS it M1 us Q:=rfl
theorem rd_lenP {ts:List T}:LenS ql M [.p (.lst ts)] Q=Q (.p (.int ts.length)) M :=
 propext ⟨fun⟨_,_,e1,e2,h⟩=>by cases e1; cases e2; rw[List.length_map] at h; exact h,fun h=>⟨_,_,rfl,rfl,by rw[List.length_map]; exact h⟩⟩
theorem jE {k:Nat} {us:List U} (e:M[k]?=some (.lst us)) (h:Q (.p (.int us.length)) M):LenS ql M [.m k] Q:=⟨_,_,rfl,by simp[ql,e],h⟩
def SlS (M:MM) (x:U) (l h:Option Int) (Q:UK):Prop:=∃ts,sn M x=some (.lst ts)/\Q (.p (.lst (cutT ts l h))) M
theorem rd_sl {u1 u2:UO}:uSl ua u1 u2 ρ M Q=ua ρ M fun x M1=>u1 ρ M1 fun l M2=>u2 ρ M2 fun h M3=>SlS M3 x l h Q:=rfl
theorem rd_slS {ts:List T} {l h:Option Int}:SlS M (.p (.lst ts)) l h Q=Q (.p (.lst (cutT ts l h))) M:=propext ⟨fun⟨_,e,h⟩=>by cases e; exact h,fun h=>⟨ts,rfl,h⟩⟩
theorem rd_part {QO:Option Int->MM->Prop}:uPart ua ρ M QO=ua ρ M fun x M1=>IntS x fun i=>QO (some i) M1:=rfl
theorem ZM {QO:Option Int->MM->Prop}:Qe ρ M QO=QO none M:=rfl
theorem rd_cat {xs ys:List T} {Q:T->Prop}:sCat (.lst xs) (.lst ys) Q=(xs.length+ys.length<=sizeLine/\Q (.lst (xs++ys))):=propext ⟨fun⟨_,_,e1,e2,h⟩=>by cases e1; cases e2; exact h,fun h=>⟨xs,ys,rfl,rfl,h⟩⟩
theorem rd_str {i j:Str} {Q:T->Prop}:sStr (.str i) (.str j) Q=(i.length+j.length<=sizeLine/\Q (.str (i++j))):=propext ⟨fun⟨_,_,e1,e2,h⟩=>by cases e1; cases e2; exact h,fun h=>⟨i,j,rfl,rfl,h⟩⟩
def itU (x:U) (us:List U):UIt:=⟨us.length,fun M=>ql M x=some us,fun i z=>us[i]?=some z⟩
def IterS (M:MM) (x:U) (R:UIt->MM->Prop):Prop:=∃us,ql M x=some us/\R (itU x us) M
theorem rd_iter {R:UIt->MM->Prop}:uIter ua ρ M R=ua ρ M fun x M1=>IterS M1 x R:=rfl
theorem rd_iterP {ts:List T} {R:UIt->MM->Prop}:IterS M (.p (.lst ts)) R=R (itU (.p (.lst ts)) (ts.map U.p)) M:=propext ⟨fun⟨_,e,h⟩=>by cases e; exact h,fun h=>⟨_,rfl,h⟩⟩
theorem jG {k:Nat} {us:List U} {R:UIt->MM->Prop} (e:M[k]?=some (.lst us)) (h:R (itU (.m k) us) M):IterS M (.m k) R:=⟨us,by simp[ql,e],h⟩
def itR0 (n:Nat):UIt:=⟨n,fun _=>True,fun i z=>z=.p (.int i)⟩
def RngS (us:List U) (M:MM) (R:UIt->MM->Prop):Prop:=∃j:Int,us=[.p (.int j)] /\ -(2^62)<=j/\j<2^62/\R (itR0 j.toNat) M
theorem rd_rng1 {R:UIt->MM->Prop}:uRng1 ul ρ M R=ul ρ M fun us M1=>RngS us M1 R:=rfl
theorem rng_at {j:Int} {R:UIt->MM->Prop} (h1 : -(2^62)<=j) (h2:j<2^62) (q:R (itR0 j.toNat) M):RngS [.p (.int j)] M R:=⟨j,rfl,h1,h2,q⟩
theorem xn {ts:List T} {ub:US} (Iv:Nat->UEnv->MM->Prop) (h0:Iv 0 ρ M) (hs:∀i t ρ2 M2,ts[i]?=some t->Iv i ρ2 M2->ug (.p t) ρ2 M2 fun ρ3 M3=>ub { E with nx:=Iv (i+1),ct:=Iv (i+1),bk:=E.nx } ρ3 M3) (hd:∀ρ2 M2,Iv ts.length ρ2 M2->E.nx ρ2 M2):UFor (itU (.p (.lst ts)) (ts.map U.p)) ug ub E ρ M:=by
 refine⟨Iv,h0,fun i ρ2 M2 hi h=>⟨rfl,fun u hu=>?_⟩,fun ρ2 M2 h=>⟨rfl,hd ρ2 M2 (by simpa[itU] using h)⟩⟩
 have hu:(ts.map U.p)[i]?=some u:=hu
 rw[List.getElem?_map] at hu
 cases e:ts[i]? with
 |none=>rw[e] at hu; cases hu
 |some t=>rw[e] at hu; cases hu; exact hs i t ρ2 M2 e h
theorem jm {m:Nat} {ub:US} (Iv:Nat->UEnv->MM->Prop) (h0:Iv 0 ρ M) (hs:∀(i:Nat) ρ2 M2,i<m->Iv i ρ2 M2->ug (.p (.int i)) ρ2 M2 fun ρ3 M3=>ub { E with nx:=Iv (i+1),ct:=Iv (i+1),bk:=E.nx } ρ3 M3) (hd:∀ρ2 M2,Iv m ρ2 M2->E.nx ρ2 M2):UFor (itR0 m) ug ub E ρ M :=
 ⟨Iv,h0,fun i ρ2 M2 hi h=>⟨trivial,fun u hu=>by cases(show u=_ from hu); exact hs i ρ2 M2 hi h⟩,fun ρ2 M2 h=>⟨trivial,hd ρ2 M2 h⟩⟩
theorem qX {ts:List T} {ρ0:UEnv} (hz:ts.length<=sizeLine) (Iv:Nat->List T->MM->Prop) (h0:Iv 0 [] M) (hs:∀i t acc M2,ts[i]?=some t->acc.length<=i->Iv i acc M2->ug (.p t) ρ0 M2 fun ρ4 M4=>ut ρ4 M4 fun b M5=>if b=true then ua ρ4 M5 fun z M6=>∃t,z=.p t/\Iv (i+1) (acc++[t]) M6 else Iv (i+1) acc M5) (hd:∀acc M2,Iv ts.length acc M2->Q (.p (.lst acc)) M2):UComp (itU (.p (.lst ts)) (ts.map U.p)) ug ut ua ρ0 M Q:=by
 refine⟨by simpa[itU] using hz,Iv,h0,fun i acc M2 hi ha h=>⟨rfl,fun u hu=>?_⟩,fun acc M2 h=>⟨rfl,hd acc M2 (by simpa[itU] using h)⟩⟩
 have hu:(ts.map U.p)[i]?=some u:=hu
 rw[List.getElem?_map] at hu
 cases e:ts[i]? with
 |none=>rw[e] at hu; cases hu
 |some t=>rw[e] at hu; cases hu; exact hs i t acc M2 e ha h
def T2S (M:MM) (u:U) (R:U->U->Prop):Prop:=∃a b,vh M u=some [a,b]/\R a b
def T3S (M:MM) (u:U) (R:U->U->U->Prop):Prop:=∃a b c,vh M u=some [a,b,c]/\R a b c
theorem rd_name2 {i j:Nat} {R:UEnv->MM->Prop}:jZ i j u ρ M R=T2S M u fun a b=>R ((ρ.set i (some a)).set j (some b)) M:=rfl
theorem rd_name3 {i j k:Nat} {R:UEnv->MM->Prop}:jY i j k u ρ M R=T3S M u fun a b c=>R (((ρ.set i (some a)).set j (some b)).set k (some c)) M:=rfl
theorem rd_t2 {a b:T} {R:U->U->Prop}:T2S M (.p (.tup [a,b])) R=R (.p a) (.p b):=propext ⟨fun⟨_,_,e,h⟩=>by cases e; exact h,fun h=>⟨_,_,rfl,h⟩⟩
theorem rd_t3 {a b c:T} {R:U->U->U->Prop}:T3S M (.p (.tup [a,b,c])) R=R (.p a) (.p b) (.p c):=propext ⟨fun⟨_,_,_,e,h⟩=>by cases e; exact h,fun h=>⟨_,_,_,rfl,h⟩⟩
theorem rd_callP {G:List T->(T->Prop)->Prop}:Zp G ul ρ M Q=ul ρ M fun us M1=>PurS us fun ts=>G ts fun t=>Q (.p t) M1:=rfl
theorem rd_callS {G:List T->(T->Prop)->Prop}:uCallS G ul ρ M Q=ul ρ M fun us M1=>SnsS M1 us fun ts=>G ts fun t=>(∃x,vt t=some x)/\Q (.p t) M1:=rfl
theorem rd_callU {G:List U->MM->UK->Prop}:uCall G ul ρ M Q=ul ρ M fun us M1=>G us M1 Q:=rfl
def MeS (s:List U->List U->(U->List U->Prop)->Prop) (ul:UA) (ρ:UEnv) (M:MM) (o:U) (Q:UK):Prop:=∃k,o=.m k/\(∃zs,M[k]?=some (.lst zs))/\ul ρ M fun ws M2=>∃us,M2[k]?=some (.lst us)/\s us ws fun z us'=>Q z (M2.set k (.lst us'))
theorem rd_me {s:List U->List U->(U->List U->Prop)->Prop}:uMe s ua ul ρ M Q=ua ρ M fun o M1=>MeS s ul ρ M1 o Q:=rfl
theorem V1 {s:List U->List U->(U->List U->Prop)->Prop} {k:Nat} {zs:List U} (e:M[k]?=some (.lst zs)) (h:ul ρ M fun ws M2=>∃us,M2[k]?=some (.lst us)/\s us ws fun z us'=>Q z (M2.set k (.lst us'))):MeS s ul ρ M (.m k) Q:=⟨k,rfl,⟨zs,e⟩,h⟩
theorem rd_app {us:List U} {y:U} {Q:U->List U->Prop}:ZJ us [y] Q=(us.length<sizeLine/\Q (.p .non) (us++[y])):=propext ⟨fun⟨_,e,h⟩=>by cases e; exact h,fun h=>⟨y,rfl,h⟩⟩
theorem ss {α:Type} {a:α} {R:α->Prop}:(∃x,some a=some x/\R x)=R a:=propext ⟨fun⟨_,e,h⟩=>by cases e; exact h,fun h=>⟨a,rfl,h⟩⟩
end
inductive EqT:Nat->T->T->Bool->Prop
 |flat {n:Nat} {a b:T} {x y:V}:vt a=some x->vt b=some y->EqT n a b (eqV x y)
 |tup {n:Nat} {xs ys:List T} {e:Nat->Bool}:(∀(j:Nat) x y,xs[j]?=some x->ys[j]?=some y->EqT n x y (e j))->EqT (n+1) (.tup xs) (.tup ys) ((List.range (min xs.length ys.length)).all e&&xs.length==ys.length)
 |lst {n:Nat} {xs ys:List T} {e:Nat->Bool}:xs.length=ys.length->(∀(j:Nat) x y,xs[j]?=some x->ys[j]?=some y->EqT n x y (e j))->EqT (n+1) (.lst xs) (.lst ys) ((List.range xs.length).all e)
 |lstN {n:Nat} {xs ys:List T}:xs.length≠ys.length->EqT (n+1) (.lst xs) (.lst ys) false
section
variable {A:Addr->Prop} {H:Hp} {ι:List Addr} {M M':MM} {v:V} {u:U} {t:T} {K:PySem.W.Frag} {n:Nat}
theorem RepT.inj {a b:T} (r:RepT A H v a):RepT A H v b->a=b:=by
 induction r generalizing b with
 |non=>intro q; cases q; rfl
 |bl=>intro q; cases q; rfl
 |int=>intro q; cases q; rfl
 |str=>intro q; cases q; rfl
 |tup na e l r ih =>
  intro q
  cases q with
  |tup na' e' l' r' =>
   rw[e] at e'; cases e'
   congr 1
   refine List.ext_getElem (by omega) fun i h1 h2=>?_
   have h3:=h1
   rw[<-l] at h3
   exact ih i _ _ (List.getElem?_eq_getElem h3) (List.getElem?_eq_getElem h1) (r' i _ _ (List.getElem?_eq_getElem h3) (List.getElem?_eq_getElem h2))
  |lst na' e' l' r'=>rw[e] at e'; cases e'
 |lst na e l r ih =>
  intro q
  cases q with
  |lst na' e' l' r' =>
   rw[e] at e'; cases e'
   congr 1
   refine List.ext_getElem (by omega) fun i h1 h2=>?_
   have h3:=h1
   rw[<-l] at h3
   exact ih i _ _ (List.getElem?_eq_getElem h3) (List.getElem?_eq_getElem h1) (r' i _ _ (List.getElem?_eq_getElem h3) (List.getElem?_eq_getElem h2))
  |tup na' e' l' r'=>rw[e] at e'; cases e'
theorem eqV_self:∀{x:V} {t:T},vt t=some x->eqV x x=true:=fun {x t} h=>by cases zQ h<;>simp[eqV]
theorem EqT.self {a b:T} {r:Bool} (h:EqT n a b r):a=b->r=true:=by
 induction h with
 |flat h1 h2=>intro e; subst e; rw[h1] at h2; cases h2; exact eqV_self h1
 | @tup n xs ys e hh ih =>
  intro q
  cases q
  simp only[Nat.min_self,beq_self_eq_true,Bool.and_true,List.all_eq_true,List.mem_range]
  intro j hj
  exact ih j _ _ (List.getElem?_eq_getElem hj) (List.getElem?_eq_getElem hj) rfl
 | @lst n xs ys e hl hh ih =>
  intro q
  cases q
  simp only[List.all_eq_true,List.mem_range]
  intro j hj
  exact ih j _ _ (List.getElem?_eq_getElem hj) (List.getElem?_eq_getElem hj) rfl
 |lstN hl=>intro q; cases q; exact absurd rfl hl
theorem EqT.de {a b:T} {r:Bool} (h:EqT n a b r):∀{x y:V},RepT A H x a->RepT A H y b->DE K H n x y r:=by
 induction h with
 | @flat n a b x0 y0 h1 h2 =>
  intro x y r1 r2
  cases(RepV.of r1).sc (y:=.non) h1; cases(RepV.of r2).sc (y:=.non) h2
  exact .flat (by cases zQ h1<;>rfl) (by cases zQ h2<;>rfl)
 | @tup n xs ys e hh ih =>
  intro x y r1 r2
  obtain⟨p,vs,rfl,_,h1,q1⟩:=r1.tup_inv
  obtain⟨p2,vs2,rfl,_,h2,q2⟩:=r2.tup_inv
  by_cases hp:p=p2
  ·subst hp
   have:=(EqT.tup (n:=n) hh).self (r1.inj r2)
   rw[this]; exact .same
  ·have:=DE.tup (K:=K) (H:=H) (n:=n) (e:=e) hp (SqT.of h1) (SqT.of h2) fun j x y hx hy=>by
    obtain⟨a,ha,ra⟩:=Paired.getL q1 hx
    obtain⟨b,hb,rb⟩:=Paired.getL q2 hy
    exact ih j a b ha hb ra rb
   rw[q1.len,q2.len] at this
   exact this
 | @lst n xs ys e hl hh ih =>
  intro x y r1 r2
  obtain⟨p,vs,rfl,_,h1,q1⟩:=r1.lst_inv
  obtain⟨p2,vs2,rfl,_,h2,q2⟩:=r2.lst_inv
  by_cases hp:p=p2
  ·subst hp
   have:=(EqT.lst (n:=n) hl hh).self (r1.inj r2)
   rw[this]; exact .same
  ·have:=DE.lst (K:=K) (H:=H) (n:=n) (e:=e) hp (SqL.of h1) (SqL.of h2) (by rw[q1.len,q2.len,hl]) fun j x y hx hy=>by
    obtain⟨a,ha,ra⟩:=Paired.getL q1 hx
    obtain⟨b,hb,rb⟩:=Paired.getL q2 hy
    exact ih j a b ha hb ra rb
   rw[q1.len] at this
   exact this
 | @lstN n xs ys hl =>
  intro x y r1 r2
  obtain⟨p,vs,rfl,_,h1,q1⟩:=r1.lst_inv
  obtain⟨p2,vs2,rfl,_,h2,q2⟩:=r2.lst_inv
  by_cases hp:p=p2
  ·subst hp
   have:=r1.inj r2
   cases this
   exact absurd rfl hl
  ·exact .lstN hp (SqL.of h1) (SqL.of h2) (by rw[q1.len,q2.len]; exact hl)
def sEqL (neg:Bool):T->T->(T->Prop)->Prop:=fun a b Q=>∃xs ys,a=.lst xs/\b=.lst ys/\((xs.length≠ys.length/\Q (.bl neg))\/(xs.length=ys.length/\∃e:Nat->Bool,(∀(j:Nat) x y,xs[j]?=some x->ys[j]?=some y->EqT 20 x y (e j))/\Q (.bl (if neg then !(List.range xs.length).all e else(List.range xs.length).all e))))
theorem Qv:OpL (rEqL K) (sEqL false):=fun A ι H M x y a b Qs Q w r1 r2 ⟨xs,ys,ea,eb,h⟩ k=>by
 subst ea eb
 obtain⟨p,vs,rfl,h1,q1⟩:=r1.lst_inv
 obtain⟨p2,vs2,rfl,h2,q2⟩:=r2.lst_inv
 refine⟨p,p2,vs,vs2,rfl,rfl,SqL.of h1,SqL.of h2, ?_⟩
 rcases h with⟨hl,q⟩|⟨hl,e,he,q⟩
 ·exact .inl ⟨by rw[q1.len,q2.len]; exact hl,k _ ι _ H (.refl _ _) w (.bl _) q⟩
 ·refine .inr ⟨by rw[q1.len,q2.len]; exact hl,e,fun j x y hx hy=>?_,by rw[q1.len]; exact k _ ι _ H (.refl _ _) w (.bl _) q⟩
  obtain⟨a,ha,ra⟩:=Paired.getL q1 hx
  obtain⟨b,hb,rb⟩:=Paired.getL q2 hy
  exact(he j a b ha hb).de ra rb
theorem xA:OpL (rNeL K) (sEqL true):=fun A ι H M x y a b Qs Q w r1 r2 ⟨xs,ys,ea,eb,h⟩ k=>by
 subst ea eb
 obtain⟨p,vs,rfl,h1,q1⟩:=r1.lst_inv
 obtain⟨p2,vs2,rfl,h2,q2⟩:=r2.lst_inv
 refine⟨p,p2,vs,vs2,rfl,rfl,SqL.of h1,SqL.of h2, ?_⟩
 rcases h with⟨hl,q⟩|⟨hl,e,he,q⟩
 ·exact .inl ⟨by rw[q1.len,q2.len]; exact hl,k _ ι _ H (.refl _ _) w (.bl _) q⟩
 ·refine .inr ⟨by rw[q1.len,q2.len]; exact hl,e,fun j x y hx hy=>?_,by rw[q1.len]; exact k _ ι _ H (.refl _ _) w (.bl _) q⟩
  obtain⟨a,ha,ra⟩:=Paired.getL q1 hx
  obtain⟨b,hb,rb⟩:=Paired.getL q2 hy
  exact(he j a b ha hb).de ra rb
abbrev XV (ns:List Int):T:=.lst (ns.map T.int)
theorem kX {neg:Bool} {ns ms:List Int} {Q:T->Prop} (q:Q (.bl (if neg then !decide (ns=ms) else decide (ns=ms)))):sEqL neg (XV ns) (XV ms) Q:=by
 refine⟨_,_,rfl,rfl, ?_⟩
 simp only[List.length_map]
 by_cases hl:ns.length=ms.length
 ·refine .inr ⟨hl,fun j=>ns[j]?==ms[j]?,fun j x y hx hy=>?_,by rw[Ju hl]; exact q⟩
  rw[List.getElem?_map] at hx hy
  cases e1:ns[j]? with
  |none=>rw[e1] at hx; cases hx
  |some i =>
   cases e2:ms[j]? with
   |none=>rw[e2] at hy; cases hy
   |some k =>
    rw[e1] at hx; rw[e2] at hy
    cases hx; cases hy
    have:=EqT.flat (n:=20) (a:=.int i) (b:=.int k) rfl rfl
    have e3:eqV (.int i) (.int k)=(ns[j]?==ms[j]?):=by rw[e1,e2]; simp[eqV]
    rw[e3] at this
    exact this
 ·refine .inl ⟨hl, ?_⟩
  have:decide (ns=ms)=false:=decide_eq_false fun z=>hl (by rw[z])
  rw[this] at q
  cases neg<;>simpa using q
theorem eqNil {neg:Bool} {xs:List T} {Q:T->Prop} (q:Q (.bl (if neg then !xs.isEmpty else xs.isEmpty))):sEqL neg (.lst xs) (.lst []) Q:=by
 refine⟨_,_,rfl,rfl, ?_⟩
 cases xs with
 |nil=>exact .inr ⟨rfl,fun _=>true,fun j x y hx=>by simp at hx,by simpa using q⟩
 |cons x xs=>exact .inl ⟨by simp,by cases neg<;>simpa using q⟩
def sRep:T->T->(T->Prop)->Prop:=fun a b Q=>∃xs k,a=.lst xs/\b=.int k /\ -(2^63)<=k/\k<2^63/\xs.length*k.toNat<=sizeLine/\Q (.lst (List.replicate k.toNat xs).flatten)
theorem opl_rep:OpL rRep sRep:=fun A ι H M x y a b Qs Q w r1 r2 ⟨xs,kk,ea,eb,k0,k1,hz,q⟩ k=>by
 subst ea eb
 obtain⟨p,vs,rfl,h1,q1⟩:=r1.lst_inv
 cases r2.int_inv
 exact⟨p,kk,vs,rfl,rfl,h1,k0,k1,by rw[q1.len]; exact hz,fun l hl=>k _ ι _ _ (.fresh hl) (w.fresh hl) (vp w hl (xZ q1 _)) q⟩
def frzB (b:Nat):Nat->MM->U->Option T
 |_,_, .p t=>some t
 |0,_, .m _=>none
 |_,_, .x _ _ _=>none
 |n+1,M, .m k=>if b<=k then match M[k]? with
  |some (.lst us)=>(frzs (frzB b n M) us).map T.lst
  |some (.tup us)=>(frzs (frzB b n M) us).map T.tup
  |_=>none else none
@[simp] theorem frzB_p {b n:Nat} {M:MM} {t:T}:frzB b n M (.p t)=some t:=by cases n<;>rfl
theorem kS {A':Addr->Prop} {f:U->Option T} {vs:List V} {us:List U} {ts:List T} (r:RepUs A ι H vs us) (h:∀v u t,RepU A ι H v u->f u=some t->RepT A' H v t) (e:frzs f us=some ts):RepTs A' H vs ts:=by
 induction r generalizing ts with
 |nil=>simp[frzs] at e; subst e; exact .nil
 |cons r q ih =>
  simp only[frzs] at e
  split at e
  ·rename_i h1 h2
   simp at e; subst e
   exact .cons (h _ _ _ r h1) (ih h2)
  ·cases e
theorem jO {m:List Addr} (w:Wd A (ι++m) H M):∀{n:Nat} {v:V} {u:U} {t:T},RepU A (ι++m) H v u->frzB ι.length n M u=some t->RepT (Av A ι) H v t
 |n,v, .p t',t, .p r,e=>by
  rw[frzB_p] at e; cases e
  exact r.mono fun x o hx ex=>⟨ex,fun z=>hx (z.elim .inl fun z=>.inr (List.mem_append_left _ z))⟩
 |0,v, .m k,t,r,e=>by simp[frzB] at e
 |n,v, .x a d q,t,r,e=>by cases n<;>simp[frzB] at e
 |n+1,v, .m k,t,r,e=>by
  cases r with
  |m q =>
  rename_i a
  obtain⟨o,h1,h2⟩:=w.al q
  simp only[frzB,h1] at e
  split at e
  ·rename_i hk
   have hna:¬Av A ι a:=fun z=>by
    rcases z with z|z
    ·exact w.na _ (List.mem_of_getElem? q) z
    ·rw[List.getElem?_append_right hk] at q
     have hd:=(List.nodup_append.mp w.nd).2.2
     exact hd a z a (List.mem_of_getElem? q) rfl
   cases o with
   |lst us =>
    simp at e
    obtain⟨ts,e1,rfl⟩:=e
    obtain⟨vs,h3,h4⟩:=h2
    exact .lstP hna h3 (kS h4 (fun v u t r e=>jO w r e) e1)
   |tup us =>
    simp at e
    obtain⟨ts,e1,rfl⟩:=e
    obtain⟨vs,h3,h4⟩:=h2
    exact .tupP hna h3 (kS h4 (fun v u t r e=>jO w r e) e1)
   |ins=>simp at e
   |dK=>simp at e
   |dF=>simp at e
   |tab=>simp at e
  ·cases e
def PurO (o:MO):Prop:=∃ts:List T,o=.lst (ts.map U.p)
def Qc (M M':MM):Prop:=∀(i:Nat) o,i<M.length->M'[i]?=some o->M[i]?=some o\/PurO o
theorem RepU.less {m:List Addr} {v0:V} {H0:Hp} (r:RepU A (ι++m) H v u) (r0:RepU A ι H0 v0 u):RepU A ι H v u:=by
 cases r with
 |p r=>exact .p (r.mono fun x o hx ex=>⟨ex,fun z=>hx (z.elim .inl fun z=>.inr (List.mem_append_left _ z))⟩)
 |m e =>
  cases r0 with
  |m e0 =>
   rw[List.getElem?_append_left (List.getElem?_eq_some_iff.mp e0).1] at e
   exact .m e
 | @x a d q h =>
  refine .x ?_
  cases q with
  |none=>exact h
  |some n =>
   obtain⟨x0,e,ni,hx⟩:=h
   exact⟨x0,e,fun z=>ni (List.mem_append_left _ z),hx⟩
theorem vj {α β:Type} {F G L:α->β->Prop} (h:∀a a0 b,F a b->G a0 b->L a b):∀{l l0:List α} {r:List β},Paired F l r->Paired G l0 r->Paired L l r
 |_,_,_, .nil, .nil=>.nil
 |_,_,_, .cons p q, .cons p0 q0=>.cons (h _ _ _ p p0) (vj h q q0)
theorem ObjR.less {m:List Addr} {a a0:Addr} {o:MO} {H0:Hp} (r:ObjR A (ι++m) H a o) (r0:ObjR A ι H0 a0 o):ObjR A ι H a o:=by
 cases o with
 |lst=>obtain⟨vs,e,r⟩:=r; obtain⟨_,_,r0⟩:=r0; exact⟨vs,e,vj (fun _ _ _ p q=>p.less q) r r0⟩
 |tup=>obtain⟨vs,e,r⟩:=r; obtain⟨_,_,r0⟩:=r0; exact⟨vs,e,vj (fun _ _ _ p q=>p.less q) r r0⟩
 |ins=>obtain⟨dx,gs,e,ed,nd,r⟩:=r; obtain⟨_,_,_,_,_,r0⟩:=r0; exact⟨dx,gs,e,ed,fun z=>nd (List.mem_append_left _ z),vj (fun _ _ _ p q=>⟨p.1,p.2.less q.2⟩) r r0⟩
 |dK=>obtain⟨gs,e,r⟩:=r; obtain⟨_,_,r0⟩:=r0; exact⟨gs,e,vj (fun _ _ _ p q=>⟨p.1,p.2.less q.2⟩) r r0⟩
 |dF=>obtain⟨e,r⟩:=r; obtain⟨_,r0⟩:=r0; exact⟨e,vj (fun _ _ _ p q=>⟨p.1,p.2.less q.2⟩) r r0⟩
 |tab=>obtain⟨ps,e,t,z⟩:=r; exact⟨ps,e,t,z.imp id fun⟨c,h1,h2,h3⟩=>⟨c,h1,h2,fun z=>h3 (List.mem_append_left _ z)⟩⟩
theorem Wd.trim {m:List Addr} {H0:Hp} (w:Wd A (ι++m) H M') (w0:Wd A ι H0 M) (h:Qc M M'):Wd A ι H (M'.take M.length):=by
 have hl:M.length<=M'.length:=by
  have:=w.len; rw[List.length_append,w0.len] at this; omega
 refine⟨(List.nodup_append.mp w.nd).1,by rw[List.length_take,Nat.min_eq_left hl]; exact w0.len,w.dom,fun x hx=>w.na x (List.mem_append_left _ hx),fun k a o e1 e2=>?_⟩
 have hk:=(List.getElem?_eq_some_iff.mp e1).1
 rw[List.getElem?_take_of_lt (by rw[<-w0.len]; exact hk)] at e2
 have r:=w.obj k a o (by rw[List.getElem?_append_left hk]; exact e1) e2
 rcases h k o (by rw[<-w0.len]; exact hk) e2 with z|⟨ts,rfl⟩
 ·exact r.less (w0.obj k a o e1 z)
 ·obtain⟨vs,e,q⟩:=r
  refine⟨vs,e, ?_⟩
  have q2:=q.pures
  exact RepTs.ups (Paired.mapP q2 fun _ _ q=>q.mono fun x o hx ex=>⟨ex,fun z=>hx (z.elim .inl fun z=>.inr (List.mem_append_left _ z))⟩)
end
section
variable {ta tb:TE} {ua ub uc:UE} {ul:UA} {A:Addr->Prop} {H H':Hp} {ι ι':List Addr} {M M':MM} {v:V} {u:U} {σ:St} {ρ:UEnv} {K:PySem.W.Frag}
def keyU:Key->U
 |.inl i=>.p (.int i)
 |.inr x=>.p (.str x)
 |.non=>.p .non
def valU (kvs:List (Key×U)) (k:Key):Option U:=(kvs.find? fun kv=>decide (kv.1=k)).map (·.2)
def putU (kvs:List (Key×U)) (k:Key) (y:U):List (Key×U):=if kvs.any (fun kv=>decide (kv.1=k)) then kvs.map (fun kv=>if kv.1=k then(kv.1,y) else kv) else kvs++[(k,y)]
def jb (kvs more:List (Key×U)):List (Key×U):=more.foldl (fun acc kv=>putU acc kv.1 kv.2) kvs
abbrev KR (A:Addr->Prop) (ι:List Addr) (H:Hp):List (Key×V)->List (Key×U)->Prop:=Paired fun(g:Key×V) (f:Key×U)=>g.1=f.1/\RepU A ι H g.2 f.2
theorem val_rep {gs:List (Key×V)} {kvs:List (Key×U)} {k:Key} (r:KR A ι H gs kvs):match valU kvs k with|some u=>∃v,valV gs k=some v/\RepU A ι H v u|none=>valV gs k=none:=by
 induction r with
 |nil=>rfl
 | @cons g f gs kvs p q ih =>
  obtain⟨e,r⟩:=p
  unfold valU valV at ih ⊢
  simp only[List.find?_cons]
  by_cases h:f.1=k
  ·rw[e]
   simp only[h,decide_true]
   exact⟨_,rfl,r⟩
  ·rw[e]
   simp only[h,decide_false]
   exact ih
theorem any_rep {gs:List (Key×V)} {kvs:List (Key×U)} {k:Key} (r:KR A ι H gs kvs):(gs.any fun kv=>decide (kv.1=k))=(kvs.any fun kv=>decide (kv.1=k)):=by
 induction r with
 |nil=>rfl
 |cons p q ih=>rw[List.any_cons,List.any_cons,ih,p.1]
theorem QK {gs:List (Key×V)} {kvs:List (Key×U)} {k:Key} (r:KR A ι H gs kvs) (rv:RepU A ι H v u):KR A ι H (gs.map fun kv=>if kv.1=k then(kv.1,v) else kv) (kvs.map fun kv=>if kv.1=k then(kv.1,u) else kv):=by
 induction r with
 |nil=>exact .nil
 | @cons g f gs kvs p q ih =>
  refine .cons ?_ ih
  show(if g.1=k then(g.1,v) else g).1=(if f.1=k then(f.1,u) else f).1/\RepU A ι H (if g.1=k then(g.1,v) else g).2 (if f.1=k then(f.1,u) else f).2
  by_cases h:f.1=k
  ·rw[if_pos h,if_pos (p.1.trans h)]; exact⟨p.1,rv⟩
  ·rw[if_neg h,if_neg (fun z=>h (p.1.symm.trans z))]; exact p
theorem Z0 {gs:List (Key×V)} {kvs:List (Key×U)} {k:Key} (r:KR A ι H gs kvs) (rv:RepU A ι H v u):KR A ι H (putK gs k v) (putU kvs k u):=by
 unfold putK putU
 rw[any_rep r]
 split
 ·exact QK r rv
 ·exact r.app (.cons ⟨rfl,rv⟩ .nil)
theorem Xu {more:List (Key×V)} {moreU:List (Key×U)} (q:KR A ι H more moreU):∀{gs:List (Key×V)} {kvs:List (Key×U)},KR A ι H gs kvs->KR A ι H (xC gs more) (jb kvs moreU):=by
 unfold xC jb
 induction q with
 |nil=>intro gs kvs r; exact r
 |cons p q ih =>
  intro gs kvs r
  rw[List.foldl_cons,List.foldl_cons,p.1]
  exact ih (Z0 r p.2)
inductive LPs:List (TE×TE)->List (UE×UE)->Prop
 |nil:LPs [] []
 |cons {tk tv:TE} {uk uv:UE} {ts:List (TE×TE)} {us:List (UE×UE)}:LE tk uk->LE tv uv->LPs ts us->LPs ((tk,tv)::ts) ((uk,uv)::us)
def Q6:List (UE×UE)->UEnv->MM->(List (U×U)->MM->Prop)->Prop
 | [],_,M,Q=>Q [] M
 | (k,v)::r,ρ,M,Q=>k ρ M fun x M1=>v ρ M1 fun y M2=>Q6 r ρ M2 fun ps M3=>Q ((x,y)::ps) M3
theorem lps_run {trs:List (TE×TE)} {urs:List (UE×UE)} (h:LPs trs urs):∀(A:Addr->Prop) (ι:List Addr) (σ:St) (H:Hp) (ρ:UEnv) (M:MM) (Qu:List (U×U)->MM->Prop) (Q:List (V×V)->Hp->Prop),Wd A ι H M->EnvR A ι H σ ρ->Q6 urs ρ M Qu ->
  (∀us M' ι' vs H',Le ι H ι' H'->Wd A ι' H' M'->Paired (fun(x:V×V) (y:U×U)=>RepU A ι' H' x.1 y.1/\RepU A ι' H' x.2 y.2) vs us->Qu us M'->Q vs H')->Vb trs σ H Q:=by
 induction h with
 |nil=>intro A ι σ H ρ M Qu Q w e q k; exact k [] M ι [] H (.refl _ _) w .nil q
 |cons h1 h2 h3 ih =>
  intro A ι σ H ρ M Qu Q w e q k
  refine h1 A ι σ H ρ M _ _ w e q fun x M1 ι1 v1 H1 l1 w1 r1 q1=>?_
  refine h2 A ι1 σ H1 ρ M1 _ _ w1 (e.le l1) q1 fun y M2 ι2 v2 H2 l2 w2 r2 q2=>?_
  refine ih A ι2 σ H2 ρ M2 _ _ w2 (e.le (l1.trans l2)) q2 fun us M3 ι3 vs H3 l3 w3 r3 q3=>?_
  exact k _ M3 ι3 _ H3 ((l1.trans l2).trans l3) w3 (.cons ⟨(r1.le l2).le l3,r2.le l3⟩ r3) q3
def uDisp (urs:List (UE×UE)):UE:=fun ρ M Q=>Q6 urs ρ (M++[.dK []]) fun ps M2=>M2[M.length]?=some (.dK [])/\∃kvs:List (Key×U),ps=kvs.map (fun kv=>(keyU kv.1,kv.2))/\kvs.length<=15/\Q (.m M.length) (M2.set M.length (.dK (jb [] kvs)))
theorem QL {k:Key} (r:RepU A ι H v (keyU k)):v=kV k:=by
 cases k with
 |inl i=>cases r with|p r=>cases r; rfl
 |inr x=>cases r with|p r=>cases r; rfl
 |non=>cases r with|p r=>cases r; rfl
theorem XG:∀{kvs:List (Key×U)} {vs:List (V×V)},Paired (fun(x:V×V) (y:U×U)=>RepU A ι H x.1 y.1/\RepU A ι H x.2 y.2) vs (kvs.map fun kv=>(keyU kv.1,kv.2))->∃gs:List (Key×V),vs=gs.map (fun kv=>(kV kv.1,kv.2))/\KR A ι H gs kvs
 | [],_, .nil=>⟨[],rfl, .nil⟩
 |kv::kvs,(a,b)::_, .cons p q=>by
  obtain⟨gs,rfl,r⟩:=XG (kvs:=kvs) q
  refine⟨(kv.1,b)::gs, ?_, .cons ⟨rfl,p.2⟩ r⟩
  rw[List.map_cons]
  have:=QL p.1
  simp only at this
  rw[this]
theorem le_disp {trs:List (TE×TE)} {urs:List (UE×UE)} (h:LPs trs urs):LE (tDisp trs) (uDisp urs):=by
 intro A ι σ H ρ M Qu Q w e q k p hp
 have w1:Wd A (ι++[p]) (upd H p (.dK [])) (M++[.dK []]):=w.push hp ⟨[],upd_same, .nil⟩
 have l1:Le ι H (ι++[p]) (upd H p (.dK [])):=.push hp
 refine lps_run h A _ σ _ ρ _ _ _ w1 (e.le l1) q fun us M2 ι2 vs H2 l2 w2 r2 q2=>?_
 obtain⟨hm,kvs,rfl,hl,q2⟩:=q2
 have ep:ι2[M.length]?=some p:=by
  obtain⟨nn,rfl,_⟩:=l2.ext
  rw[List.getElem?_append_left (by rw[List.length_append,w.len]; simp), <-w.len]
  exact zf
 obtain⟨gs0,h1,h2⟩:=w2.obj _ p _ ep hm
 cases h2
 obtain⟨gs,rfl,rk⟩:=XG r2
 have hmem:=List.mem_of_getElem? ep
 refine⟨h1,gs,rfl,by rw[rk.len]; exact hl,k _ _ ι2 _ _ ((l1.trans l2).trans (.put hmem)) (w2.put (mo:=.dK (jb [] kvs)) ep ⟨_,upd_same, ?_⟩) (.m ep) q2⟩
 exact Paired.mapP (Xu rk .nil) fun _ _ q=>⟨q.1,q.2.le (.put hmem)⟩
def DGetS (M:MM) (x y:U) (Q:UK):Prop:=∃k kvs key w,x=.m k/\M[k]?=some (.dK kvs)/\y=keyU key/\valU kvs key=some w/\Q w M
def uDGet (ua ub:UE):UE:=fun ρ M Q=>ua ρ M fun x M1=>ub ρ M1 fun y M2=>DGetS M2 x y Q
theorem le_dget (ha:LE ta ua) (hb:LE tb ub):LE (tDGet ta tb) (uDGet ua ub):=fun A ι σ H ρ M Qu Q w e q k =>
 ha A ι σ H ρ M _ _ w e q fun x M1 ι1 v H1 l1 w1 r1 q1=>hb A ι1 σ H1 ρ M1 _ _ w1 (e.le l1) q1 fun y M2 ι2 v2 H2 l2 w2 r2 ⟨kk,kvs,key,z,ex,em,ey,ez,q2⟩=>by
  subst ex ey
  have r1':=r1.le l2
  cases r1' with
  |m ek =>
  obtain⟨gs,h1,h2⟩:=w2.obj kk _ _ ek em
  have hv:=val_rep (k:=key) h2
  rw[ez] at hv
  obtain⟨x',hx,rx⟩:=hv
  refine⟨_,x',rfl, ?_,k z M2 ι2 x' H2 (l1.trans l2) w2 rx q2⟩
  have:=DGet.k (k:=key) h1
  rw[hx] at this
  rw[QL r2]
  exact this
theorem rd_dget {Q:UK}:uDGet ua ub ρ M Q=ua ρ M fun x M1=>ub ρ M1 fun y M2=>DGetS M2 x y Q:=rfl
theorem Vv {k:Nat} {kvs:List (Key×U)} {x:Str} {w:U} {Q:UK} (h1:M[k]?=some (.dK kvs)) (h2:valU kvs (.inr x)=some w) (q:Q w M):DGetS M (.m k) (.p (.str x)) Q:=⟨k,kvs, .inr x,w,rfl,h1,rfl,h2,q⟩
def uIfC (c:UT) (t1 t2:T):UE:=fun ρ M Q=>c ρ M fun b M1=>Q (.p (if b=true then t1 else t2)) M1
theorem iteT_int {c:Prop} [Decidable c] {a b:Int}:(if c then T.int a else T.int b)=T.int (if c then a else b):=by split<;>rfl
theorem iteT_str {c:Prop} [Decidable c] {a b:Str}:(if c then T.str a else T.str b)=T.str (if c then a else b):=by split<;>rfl
def itV (x:U) (us:List U):UIt:=⟨us.length,fun M=>ql M x=some us,fun i z=>us[us.length-1-i]?=some z⟩
def RevS (us:List U) (M:MM) (R:UIt->MM->Prop):Prop:=∃x ys,us=[x]/\ql M x=some ys/\R (itV x ys) M
theorem rd_rev {R:UIt->MM->Prop}:uRev ul ρ M R=ul ρ M fun us M1=>RevS us M1 R:=rfl
theorem rd_revP {ts:List T} {R:UIt->MM->Prop}:RevS [.p (.lst ts)] M R=R (itV (.p (.lst ts)) (ts.map U.p)) M:=propext ⟨fun⟨_,_,e1,e2,h⟩=>by cases e1; cases e2; exact h,fun h=>⟨_,_,rfl,rfl,h⟩⟩
theorem rd_ch {s':T->T->(T->Prop)->Prop} {y:U} {b:Bool} {Q:UK}:ChS s' uc ρ M y Q (.bl b)=if b=true then uc ρ M fun c M3=>OpS s' M3 y c Q else Q (.p (.bl false)) M :=
 propext ⟨fun⟨k,e,h⟩=>by cases e; exact h,fun h=>⟨b,rfl,h⟩⟩
def sRemove:List U->List U->(U->List U->Prop)->Prop:=fun us ws Q=>∃(ts:List T) (y:T) (j:Nat) (e:Nat->Bool),us=ts.map U.p/\ws=[.p y]/\j<ts.length/\e j=true/\(∀m,m<j->e m=false)/\(∀(m:Nat) z,m<=j->ts[m]?=some z->EqT 20 z y (e m))/\Q (.p .non) ((ts.eraseIdx j).map U.p)
theorem kG {α β:Type} (f:α->β):∀(l:List α) (j:Nat),(l.eraseIdx j).map f=(l.map f).eraseIdx j
 | [],_=>rfl
 |_::_,0=>rfl
 |x::l,j+1=>by rw[List.eraseIdx_cons_succ,List.map_cons,List.map_cons,List.eraseIdx_cons_succ,kG f l j]
theorem V0:MeL (Qo K) sRemove:=fun A ι H M k a xs ys us ws Qs Q w ek h1 h2 rx ry ⟨ts,y,j,e,eu,ew,hj,hjt,hjf,hd,q⟩ kk=>by
 subst eu ew
 cases ry with
 |cons r q' =>
 cases q'
 cases r with
 |p r =>
 have rp:=rx.pures
 refine⟨a,xs,_,j,e,rfl,rfl,h1,by rw[rp.len]; exact hj,hjt,hjf,fun m z hm hz=>?_,kk _ _ _ _ (RepTs.ups (rp.erase j)) (.p .non) q⟩
 obtain⟨b,hb,rb⟩:=Paired.getL rp hz
 exact(hd m b hm hb).de rb r
end
section
variable {ta:TE} {ua ub:UE} {ul:UA} {A:Addr->Prop} {H:Hp} {ι:List Addr} {M:MM} {v:V} {u:U} {t:T} {σ:St} {ρ:UEnv} {K:PySem.W.Frag}
def KTu (K:PySem.W.Frag) (p:Addr) (vs:List V):Prop:=∀H,SqT K H p vs
def uIxK (ts:List T) (ub:UE):UE:=fun ρ M Q=>ub ρ M fun y M1=>IntS y fun i=>∃t,atI ts i=some t/\Q (.p t) M1
def uInK (neg:Bool) (vs:List V) (ua:UE):UE:=fun ρ M Q=>ua ρ M fun x M1=>∃a,x=.p a/\∃y,vt a=some y/\Q (.p (.bl (if neg then !inV y vs else inV y vs))) M1
inductive TyC where
 |int|bool|str|list|tuple
def TyC.name:TyC->String
 |.int => "int" |.bool => "bool" |.str => "str" |.list => "list" |.tuple => "tuple"
def isT:T->TyC->Bool
 |.int _, .int=>true
 |.bl _, .int=>true
 |.bl _, .bool=>true
 |.str _, .str=>true
 |.lst _, .list=>true
 |.tup _, .tuple=>true
 |_,_=>false
def isU (M:MM):U->TyC->Option Bool
 |.p t,c=>some (isT t c)
 |.m k,c=>match M[k]? with
  |some (.lst _)=>some (isT (.lst []) c)
  |some (.tup _)=>some (isT (.tup []) c)
  |_=>none
 |.x _ _ _,_=>none
theorem isi_rep {c:TyC} {b:Bool} (w:Wd A ι H M) (r:RepU A ι H v u) (e:isU M u c=some b):∃t,TyOf K H v (.type t)/\PySem.W.kitOne K (.type t) (.type c.name)=some b:=by
 cases r with
 |p r =>
  simp only[isU,Option.some.injEq] at e
  subst e
  cases r with
  |non=>exact⟨_, .non,by cases c<;>rfl⟩
  |bl b=>exact⟨_, .bl b,by cases c<;>rfl⟩
  |int i=>exact⟨_, .int i,by cases c<;>rfl⟩
  |str x=>exact⟨_, .str x,by cases c<;>rfl⟩
  |tup na e l r=>exact⟨_, .tup e,by cases c<;>rfl⟩
  |lst na e l r=>exact⟨_, .lst e,by cases c<;>rfl⟩
 |m q =>
  obtain⟨o,h1,h2⟩:=w.al q
  simp only[isU,h1] at e
  cases o with
  |lst us=>simp only[Option.some.injEq] at e; subst e; obtain⟨vs,h3,_⟩:=h2; exact⟨_, .lst h3,by cases c<;>rfl⟩
  |tup us=>simp only[Option.some.injEq] at e; subst e; obtain⟨vs,h3,_⟩:=h2; exact⟨_, .tup h3,by cases c<;>rfl⟩
  |ins=>simp at e
  |dK=>simp at e
  |dF=>simp at e
  |tab=>simp at e
 |x h=>simp[isU] at e
def uIsi (c:TyC) (ua:UE):UE:=fun ρ M Q=>ua ρ M fun x M1=>∃b,isU M1 x c=some b/\Q (.p (.bl b)) M1
theorem le_isi (c:TyC) (ha:LE ta ua):LE (tCB (rIsi K) (vm ta (vm (tC (.ty c.name)) tNil))) (uIsi c ua):=fun A ι σ H ρ M Qu Q w e q k =>
 ha A ι σ H ρ M _ _ w e q fun x M1 ι1 v1 H1 l1 w1 r1 ⟨b,eb,q1⟩=>by
  obtain⟨t,h1,h2⟩:=isi_rep (K:=K) w1 r1 eb
  exact⟨v1,c.name,t,b,rfl,h1,h2,k _ M1 ι1 _ H1 l1 w1 (.p (.bl _)) q1⟩
def uIsi2 (c d:TyC) (ua:UE):UE:=fun ρ M Q=>ua ρ M fun x M1=>∃b,isU M1 x c=some b/\∃b',isU M1 x d=some b'/\Q (.p (.bl (b||b'))) M1
def uDNew:UE:=fun _ M Q=>Q (.m M.length) (M++[.dK []])
theorem le_dnew:LE Vc uDNew:=fun A ι σ H ρ M Qu Q w e q k p hp =>
 k _ _ (ι++[p]) _ _ (.push hp) (w.push (mo:=.dK []) hp ⟨[],upd_same, .nil⟩) (.m (by rw[<-w.len]; exact zf)) q
def DInS (neg:Bool) (M:MM) (y x:U) (Q:UK):Prop:=∃k kvs key,x=.m k/\M[k]?=some (.dK kvs)/\y=keyU key/\Q (.p (.bl (if neg then !(valU kvs key).isSome else(valU kvs key).isSome))) M
def uDIn (neg:Bool) (ua ub:UE):UE:=fun ρ M Q=>ua ρ M fun y M1=>ub ρ M1 fun x M2=>DInS neg M2 y x Q
def DPutS (M:MM) (x y v:U) (R:MM->Prop):Prop:=∃k kvs key,x=.m k/\M[k]?=some (.dK kvs)/\y=keyU key/\kvs.length<sizeLine/\R (M.set k (.dK (putU kvs key v)))
def uDPut (ud uy uv:UE):US:=fun E ρ M=>uv ρ M fun v M1=>ud ρ M1 fun x M2=>uy ρ M2 fun y M3=>DPutS M3 x y v fun M4=>E.nx ρ M4
theorem ls_dput {td ty tv:TE} {ud uy uv:UE} (hd:LE td ud) (hy:LE ty uy) (hv:LE tv uv):LS (sDPut td ty tv) (uDPut ud uy uv):=fun A ι σ H ρ M D E w e r q =>
 hv A ι σ H ρ M _ _ w e q fun v M1 ι1 vv H1 l1 w1 r1 q1=>hd A ι1 σ H1 ρ M1 _ _ w1 (e.le l1) q1 fun x M2 ι2 vx H2 l2 w2 r2 q2=>hy A ι2 σ H2 ρ M2 _ _ w2 (e.le (l1.trans l2)) q2 fun y M3 ι3 vy H3 l3 w3 r3 ⟨kk,kvs,key,ex,em,ey,hz,q3⟩=>by
  subst ex ey
  have r2':=r2.le l3
  cases r2' with
  |m ek =>
  obtain⟨gs,h1,h2⟩:=w3.obj kk _ _ ek em
  have hmem:=List.mem_of_getElem? ek
  have l4:=(l1.trans l2).trans l3
  refine⟨_,_,rfl, ?_,r.nx ι3 σ _ ρ _ (l4.trans (.put hmem)) (w3.put (mo:=.dK (putU kvs key v)) ek ⟨_,upd_same,Paired.mapP (Z0 h2 (r1.le (l2.trans l3))) fun _ _ q=>⟨q.1,q.2.le (.put hmem)⟩⟩) (e.le (l4.trans (.put hmem))) q3⟩
  rw[QL r3]
  exact DPut.k (k:=key) h1 (by rw[h2.len]; exact hz)
theorem rd_din {neg:Bool} {Q:UK}:uDIn neg ua ub ρ M Q=ua ρ M fun y M1=>ub ρ M1 fun x M2=>DInS neg M2 y x Q:=rfl
theorem rd_dput {ud uy uv:UE} {E:UEnds}:uDPut ud uy uv E ρ M=uv ρ M fun v M1=>ud ρ M1 fun x M2=>uy ρ M2 fun y M3=>DPutS M3 x y v fun M4=>E.nx ρ M4:=rfl
theorem dputS_at {k:Nat} {kvs:List (Key×U)} {x:Str} {v:U} {R:MM->Prop} (h1:M[k]?=some (.dK kvs)) (hz:kvs.length<sizeLine) (q:R (M.set k (.dK (putU kvs (.inr x) v)))):DPutS M (.m k) (.p (.str x)) v R:=⟨k,kvs, .inr x,rfl,h1,rfl,hz,q⟩
def IdxS (us:List U) (xs:List Str) (M:MM) (Q:UK):Prop:=∃(t:Str) (j:Nat),us=[.p (.str t)]/\xs[j]?=some t/\(∀m,m<j->xs[m]?≠some t)/\Q (.p (.int j)) M
def uIdxK (xs:List Str) (ul:UA):UE:=fun ρ M Q=>ul ρ M fun us M1=>IdxS us xs M1 Q
theorem rd_idxK {xs:List Str} {Q:UK}:uIdxK xs ul ρ M Q=ul ρ M fun us M1=>IdxS us xs M1 Q:=rfl
end
section
variable {ul:UA} {n:Nat} {M:MM} {u:U} {ρ:UEnv}
def LRng2S (us:List U) (M:MM) (Q:UK):Prop:=∃(i j:Int) (n:Nat),us=[.p (.int i), .p (.int j)] /\ -(2^62)<=i/\j<2^62/\j=i+n/\n<=1000000/\Q (.p (.lst ((List.range n).map fun k:Nat=>T.int (i+k)))) M
def uLRng2 (ul:UA):UE:=fun ρ M Q=>ul ρ M fun us M1=>LRng2S us M1 Q
theorem rd_lrng2 {Q:UK}:uLRng2 ul ρ M Q=ul ρ M fun us M1=>LRng2S us M1 Q:=rfl
theorem gdIx {it:MM->U->Option (List U)} {x y:U} {Q:UK} (h:IxS it M x y Q):IxS it M x y Q:=h
theorem gdT2 {u:U} {R:U->U->Prop} (h:T2S M u R):T2S M u R:=h
theorem gdT3 {u:U} {R:U->U->U->Prop} (h:T3S M u R):T3S M u R:=h
theorem gdMe {s:List U->List U->(U->List U->Prop)->Prop} {o:U} {Q:UK} (h:MeS s ul ρ M o Q):MeS s ul ρ M o Q:=h
theorem gdLen {it:MM->U->Option (List U)} {us:List U} {Q:UK} (h:LenS it M us Q):LenS it M us Q:=h
end
section
variable {ua ub uv:UE} {ul:UA} {M:MM} {v:V} {u:U} {ρ:UEnv} {K:PySem.W.Frag} {f m:Str} {C:Addr}
def putFU (f:Str) (v:U):List (Str×U)->List (Str×U)
 | []=>[(f,v)]
 | (g,x)::r=>if g=f then(g,v)::r else(g,x)::putFU f v r
def FldS (K:PySem.W.Frag) (f:Str) (x:U) (M:MM) (Q:UK):Prop:=∃k C fs u,x=.m k/\M[k]?=some (.ins C fs)/\Cls K C/\NoAttr K C f/\fs.lookup f=some u/\Q u M
def uFld (K:PySem.W.Frag) (ua:UE) (f:Str):UE:=fun ρ M Q=>ua ρ M fun x M1=>FldS K f x M1 Q
def Jx (K:PySem.W.Frag) (f:Str) (x y:U) (M:MM) (R:MM->Prop):Prop:=∃k C fs,x=.m k/\M[k]?=some (.ins C fs)/\Cls K C/\NoAttr K C f/\fs.length<1000/\R (M.set k (.ins C (putFU f y fs)))
def uFldPut (K:PySem.W.Frag) (ua uv:UE) (f:Str):US:=fun E ρ M=>uv ρ M fun y M1=>ua ρ M1 fun x M2=>Jx K f x y M2 fun M3=>E.nx ρ M3
def MethS (C:Addr) (m:Str) (x:U) (M:MM) (R:Prop):Prop:=∃k fs,x=.m k/\M[k]?=some (.ins C fs)/\fs.lookup m=none/\R
def uMeth (C:Addr) (m:Str) (G:List U->MM->UK->Prop) (ua:UE) (ul:UA):UE:=fun ρ M Q=>ua ρ M fun x M1=>MethS C m x M1 (ul ρ M1 fun us M2=>G (x::us) M2 Q)
def uMake (C:Addr) (G:List U->MM->UK->Prop) (ul:UA):UE:=fun ρ M Q=>ul ρ M fun us M1=>G (.m M1.length::us) (M1++[.ins C []]) fun v M2=>v=.p .non/\Q (.m M1.length) M2
def RepNS (M:MM) (x y:U) (Q:UK):Prop:=∃xs k,x=.p (.lst xs)/\y=.p (.int k) /\ -(2^63)<=k/\k<2^63/\xs.length*k.toNat<=sizeLine/\Q (.m M.length) (M++[.lst ((List.replicate k.toNat xs).flatten.map U.p)])
def uRepNew (ua ub:UE):UE:=fun ρ M Q=>ua ρ M fun x M1=>ub ρ M1 fun y M2=>RepNS M2 x y Q
def SubS (M:MM) (o i u:U) (R:MM->Prop):Prop:=∃k us z j,o=.m k/\M[k]?=some (.lst us)/\i=.p (.int z)/\ixN us.length z=some j/\R (M.set k (.lst (us.set j u)))
theorem rd_sub {Q:UEnv->MM->Prop}:uSub ua ub u ρ M Q=ua ρ M fun o M1=>ub ρ M1 fun i M2=>SubS M2 o i u fun M3=>Q ρ M3:=rfl
def uName4 (i j k l:Nat):UG:=fun u ρ M Q=>∃a b c d,vh M u=some [a,b,c,d]/\Q ((((ρ.set i (some a)).set j (some b)).set k (some c)).set l (some d)) M
def T4S (M:MM) (u:U) (R:U->U->U->U->Prop):Prop:=∃a b c d,vh M u=some [a,b,c,d]/\R a b c d
theorem rd_name4 {i j k l:Nat} {R:UEnv->MM->Prop}:uName4 i j k l u ρ M R=T4S M u fun a b c d=>R ((((ρ.set i (some a)).set j (some b)).set k (some c)).set l (some d)) M:=rfl
theorem rd_t4 {a b c d:T} {R:U->U->U->U->Prop}:T4S M (.p (.tup [a,b,c,d])) R=R (.p a) (.p b) (.p c) (.p d):=propext ⟨fun⟨_,_,_,_,e,h⟩=>by cases e; exact h,fun h=>⟨_,_,_,_,rfl,h⟩⟩
def P2S (us:List U) (R:U->U->Prop):Prop:=∃a b,us=[a,b]/\R a b
def P3S (us:List U) (R:U->U->U->Prop):Prop:=∃a b c,us=[a,b,c]/\R a b c
def uPar (i j:Nat) (ul:UA):US:=fun E ρ M=>ul ρ M fun us M1=>P2S us fun a b=>E.nx ((ρ.set i (some a)).set j (some b)) M1
def uPar3 (i j k:Nat) (ul:UA):US:=fun E ρ M=>ul ρ M fun us M1=>P3S us fun a b c=>E.nx (((ρ.set i (some a)).set j (some b)).set k (some c)) M1
theorem rd_par {i j:Nat} {E:UEnds}:uPar i j ul E ρ M=ul ρ M fun us M1=>P2S us fun a b=>E.nx ((ρ.set i (some a)).set j (some b)) M1:=rfl
theorem rd_par3 {i j k:Nat} {E:UEnds}:uPar3 i j k ul E ρ M=ul ρ M fun us M1=>P3S us fun a b c=>E.nx (((ρ.set i (some a)).set j (some b)).set k (some c)) M1:=rfl
theorem rd_p2 {a b:U} {R:U->U->Prop}:P2S [a,b] R=R a b:=propext ⟨fun⟨_,_,e,h⟩=>by cases e; exact h,fun h=>⟨a,b,rfl,h⟩⟩
theorem rd_p3 {a b c:U} {R:U->U->U->Prop}:P3S [a,b,c] R=R a b c:=propext ⟨fun⟨_,_,_,e,h⟩=>by cases e; exact h,fun h=>⟨a,b,c,rfl,h⟩⟩
theorem rd_fld {Q:UK}:uFld K ua f ρ M Q=ua ρ M fun x M1=>FldS K f x M1 Q:=rfl
theorem ZN {E:UEnds}:uFldPut K ua uv f E ρ M=uv ρ M fun y M1=>ua ρ M1 fun x M2=>Jx K f x y M2 fun M3=>E.nx ρ M3:=rfl
theorem rd_meth {G:List U->MM->UK->Prop} {Q:UK}:uMeth C m G ua ul ρ M Q=ua ρ M fun x M1=>MethS C m x M1 (ul ρ M1 fun us M2=>G (x::us) M2 Q):=rfl
theorem rd_make {G:List U->MM->UK->Prop} {Q:UK}:uMake C G ul ρ M Q=ul ρ M fun us M1=>G (.m M1.length::us) (M1++[.ins C []]) fun v M2=>v=.p .non/\Q (.m M1.length) M2:=rfl
theorem ZK {Q:UK}:uRepNew ua ub ρ M Q=ua ρ M fun x M1=>ub ρ M1 fun y M2=>RepNS M2 x y Q:=rfl
end
section
variable {P:Program} {w:World} {K:PySem.W.Frag} {mg:Str->Option Value} {base:Heap}
def gNo:List U->MM->UK->Prop:=fun _ _ _=>False
theorem FnOk.no {k:Nat} {f:Addr} {fd:FuncData} {ps:List Str}:FnOk P w K mg base CX0 k f fd ps (spU gNo) :=
 ⟨fun vs H Q E ⟨_,_,_,_,_,_,_,h,_⟩=>h.elim,fun _ _ _ _ _ _ _ _ _ _ _ _ _ ⟨_,_,_,_,_,_,_,h,_⟩=>h.elim⟩
end
structure ZE (a:TE) (b:UE):Prop where
 h:LE a b
structure ZT (a:TT) (b:UT):Prop where
 h:LT a b
structure ZA (n:Nat) (a:TA) (b:UA):Prop where
 h:LA n a b
structure ZO (a:TO) (b:UO):Prop where
 h:LO a b
structure ZI (a:TI) (b:UI):Prop where
 h:LI a b
structure ZG (a:TG) (b:UG):Prop where
 h:LG a b
structure ZX (bs:List Bool) (n:Nat) (a:TG) (b:UG):Prop where
 h:LGx bs n a b
structure ZS (a:TS) (b:US):Prop where
 h:LS a b
structure ZP (a:List (TE×TE)) (b:List (UE×UE)):Prop where
 h:LPs a b
theorem cp_nil:ZP [] []:=⟨.nil⟩
theorem xP {tk tv:TE} {uk uv:UE} {ts:List (TE×TE)} {us:List (UE×UE)} (a:ZE tk uk) (b:ZE tv uv) (c:ZP ts us):ZP ((tk,tv)::ts) ((uk,uv)::us):=⟨.cons a.h b.h c.h⟩
theorem ce_disp {trs:List (TE×TE)} {urs:List (UE×UE)} (h:ZP trs urs):ZE (tDisp trs) (uDisp urs):=⟨le_disp h.h⟩
section
theorem qb (i:Nat):ZE (tVar i) (uVar i):=⟨le_var i⟩
end
section
theorem ce_c {v:V} {t:T} (h:Sc v t):ZE (tC v) (uC t):=⟨le_c h⟩
end
section
theorem qf  : ZA 0 tNil uNil:=⟨la_nil ⟩
end
section
variable {ta:TE} {ua:UE} {tl:TA} {ul:UA} {n:Nat}
theorem qa (ha:ZE ta ua) (hl:ZA n tl ul):ZA (n+1) (vm ta tl) (Qf ua ul):=⟨la_cons ha.h hl.h⟩
end
section
variable {ta tb:TE} {ua ub:UE}
theorem qr {r:R2} {s:T->T->(T->Prop)->Prop} (h:OpL r s) (ha:ZE ta ua) (hb:ZE tb ub):ZE (tOp r ta tb) (uOp s ua ub):=⟨le_op h ha.h hb.h⟩
end
section
variable {ta:TE} {ua:UE}
variable {H:Hp}
theorem ce_isN (ha:ZE ta ua):ZE (tOp (fun x y H Q=>y=.non/\Q (.bl (decide (x=.non))) H) ta (tC .non)) (uIsN false ua):=⟨le_isN ha.h⟩
end
section
variable {ta:TE} {ua:UE}
variable {H:Hp}
theorem Jg (ha:ZE ta ua):ZE (tOp (fun x y H Q=>y=.non/\Q (.bl (!decide (x=.non))) H) ta (tC .non)) (uIsN true ua):=⟨le_notN ha.h⟩
end
section
variable {ta:TE} {ua:UE}
theorem ce_neg (ha:ZE ta ua):ZE (tUn (rU fun i=>.int (-i)) ta) (uNeg ua):=⟨le_neg ha.h⟩
end
section
variable {ta:TE} {ua:UE}
theorem ct_b (ha:ZE ta ua):ZT (tB ta) (uB ua):=⟨lt_b ha.h⟩
end
section
variable {ta:TE} {ua:UE}
theorem qp (ha:ZE ta ua):ZT (jp ta) (uB ua):=⟨lt_test ha.h⟩
end
section
variable {tt tt':TT} {ut ut':UT}
theorem xf (ha:ZT tt ut) (hb:ZT tt' ut'):ZT (tOr tt tt') (uOr ut ut'):=⟨lt_or ha.h hb.h⟩
end
section
variable {tt:TT} {ut:UT}
theorem v5 (ha:ZT tt ut):ZT (tNot tt) (uNot ut):=⟨lt_not ha.h⟩
end
section
variable {ta tb:TE} {ua ub:UE}
theorem ce_andV (ha:ZE ta ua) (hb:ZE tb ub):ZE (j8 ta tb) (uAndV ua ub):=⟨le_andV ha.h hb.h⟩
end
section
variable {ta:TE} {ua:UE}
theorem ce_notV (ha:ZE ta ua):ZE (j5 ta) (uNotV ua):=⟨le_notV ha.h⟩
end
section
variable {ta tb:TE} {ua ub:UE} {tt:TT} {ut:UT}
theorem ce_if (hc:ZT tt ut) (ha:ZE ta ua) (hb:ZE tb ub):ZE (tIf tt ta tb) (uIf ut ua ub):=⟨le_if hc.h ha.h hb.h⟩
end
section
variable {ta tb tc:TE} {ua ub uc:UE}
theorem VD {r r':R2} {s s':T->T->(T->Prop)->Prop} (h:OpL r s) (h':OpL r' s') (ha:ZE ta ua) (hb:ZE tb ub) (hc:ZE tc uc):ZE (zR r r' ta tb tc) (Q7 s s' ua ub uc):=⟨le_chain h h' ha.h hb.h hc.h⟩
end
section
variable {tl:TA} {ul:UA} {n:Nat}
theorem zm (ha:ZA n tl ul) (hn:n<=1000:=by decide):ZE (tTup tl) (uTup ul):=⟨le_tup ha.h hn⟩
end
section
variable {tl:TA} {ul:UA} {n:Nat}
theorem vf (ha:ZA n tl ul) (hn:n<=1000:=by decide):ZE (tLst tl) (uLst ul):=⟨le_lst ha.h hn⟩
end
section
variable {tl:TA} {ul:UA} {n:Nat}
theorem VC (ha:ZA n tl ul) (hn:n<=1000:=by decide):ZE (tLst tl) (uNew ul):=⟨le_new ha.h hn⟩
end
section
variable {tl:TA} {ul:UA} {n:Nat}
theorem ce_newT (ha:ZA n tl ul) (hn:n<=1000:=by decide):ZE (tTup tl) (uNewT ul):=⟨le_newT ha.h hn⟩
end
section
variable {ta tb:TE} {ua ub:UE}
theorem vH {K:PySem.W.Frag} (ha:ZE ta ua) (hb:ZE tb ub):ZE (tOp (rIxL K) ta tb) (uIx ql ua ub):=⟨le_ixL ha.h hb.h⟩
end
section
variable {ta tb:TE} {ua ub:UE}
theorem vC {K:PySem.W.Frag} (ha:ZE ta ua) (hb:ZE tb ub):ZE (tOp (rIxT K) ta tb) (uIx vh ua ub):=⟨le_ixT ha.h hb.h⟩
end
section
variable {tl:TA} {ul:UA} {n:Nat}
theorem Q0 {r:List V->Hp->VK->Prop} {s:List T->(T->Prop)->Prop} (h:CbL r s) (ha:ZA n tl ul):ZE (tCB r tl) (uCb s ul):=⟨le_cb h ha.h⟩
end
section
variable {tl:TA} {ul:UA} {n:Nat}
theorem ce_len (ha:ZA n tl ul):ZE (tCB rLenL tl) (uLen ql ul):=⟨le_len ha.h⟩
end
section
theorem jR  : ZO vR Qe:=⟨lo_none ⟩
end
section
variable {ta:TE} {ua:UE}
theorem jQ (ha:ZE ta ua):ZO (j4 ta) (uPart ua):=⟨lo_some ha.h⟩
end
section
variable {ta:TE} {ua:UE}
theorem ce_sl {K:PySem.W.Frag} {t1 t2:TO} {u1 u2:UO} (ha:ZE ta ua) (h1:ZO t1 u1) (h2:ZO t2 u2):ZE (tSl (rSlL K) ta t1 t2) (uSl ua u1 u2):=⟨le_sl ha.h h1.h h2.h⟩
end
section
variable {ta:TE} {ua:UE} {K:PySem.W.Frag}
theorem qW (ha:ZE ta ua):ZI (V9 K ta) (uIter ua):=⟨li_list ha.h⟩
end
section
variable {tl:TA} {ul:UA} {n:Nat} {K:PySem.W.Frag}
theorem ci_enum (ha:ZA n tl ul):ZI (XX K tl) (uEnum ul):=⟨li_enum ha.h⟩
end
section
variable {tl:TA} {ul:UA} {n:Nat}
theorem xR (ha:ZA n tl ul):ZI (XW tl) (uRng1 ul):=⟨li_rng1 ha.h⟩
end
section
theorem qo (i:Nat):ZG (qt i) (VJ i):=⟨lg_name i⟩
end
section
variable {K:PySem.W.Frag}
theorem zi (i j:Nat):ZG (gTup K 2 (qS (qt i) (qS (qt j) gNil))) (jZ i j):=⟨lg_name2 i j⟩
end
section
variable {K:PySem.W.Frag}
theorem cg_name3 (i j l:Nat):ZG (gTup K 3 (qS (qt i) (qS (qt j) (qS (qt l) gNil)))) (jY i j l):=⟨lg_name3 i j l⟩
end
section
variable {ta tb:TE} {ua ub:UE}
theorem cg_sub (ha:ZE ta ua) (hb:ZE tb ub):ZG (gSub ta tb rSetL) (uSub ua ub):=⟨lg_sub ha.h hb.h⟩
end
section
variable {n:Nat}
theorem qZ {bs:List Bool} (i:Nat) (h:vG bs n i=true:=by rfl):ZX bs n (qt i) (VJ i):=⟨lgx_name i h⟩
end
section
variable {n:Nat} {K:PySem.W.Frag}
theorem Jf {bs:List Bool} (i j:Nat) (h:vG bs n i=true:=by rfl) (h2:vG bs n j=true:=by rfl):ZX bs n (gTup K 2 (qS (qt i) (qS (qt j) gNil))) (jZ i j):=⟨XC i j h h2⟩
end
section
variable {n:Nat} {K:PySem.W.Frag}
theorem xS {bs:List Bool} (i j l:Nat) (h:vG bs n i=true:=by rfl) (h2:vG bs n j=true:=by rfl) (h3:vG bs n l=true:=by rfl):ZX bs n (gTup K 3 (qS (qt i) (qS (qt j) (qS (qt l) gNil)))) (jY i j l):=⟨XB i j l h h2 h3⟩
end
section
variable {M:MM}
theorem v3  : ZT tYes (fun _ M Q=>Q true M):=⟨lt_yes ⟩
end
section
variable {te:TE} {ue:UE} {tt:TT} {ut:UT} {n:Nat}
theorem vg {wi:TI} {ui:UI} {bs:List Bool} {g:TG} {ug:UG} (hi:ZI wi ui) (hg:ZX bs n g ug) (ht:ZT tt ut) (he:ZE te ue):ZE (zn wi bs n g tt te) (uComp ui bs n ug ut ue):=⟨le_comp hi.h hg.h ht.h he.h⟩
end
section
theorem qT  : ZS j6 uNext:=⟨ls_next ⟩
end
section
variable {ts ts':TS} {us us':US}
theorem qj (ha:ZS ts us) (hb:ZS ts' us'):ZS (tSeq ts ts') (uSeq us us'):=⟨ls_seq ha.h hb.h⟩
end
section
variable {ta:TE} {ua:UE}
theorem xO (ha:ZE ta ua):ZS (j7 ta) (uDrop ua):=⟨ls_drop ha.h⟩
end
section
variable {ta:TE} {ua:UE}
theorem qF (ha:ZE ta ua):ZS (tRet ta) (uRet ua):=⟨ls_ret ha.h⟩
end
section
variable {tt:TT} {ut:UT}
variable {ts ts':TS} {us us':US}
theorem vJ (hc:ZT tt ut) (ha:ZS ts us) (hb:ZS ts' us'):ZS (tIfS tt ts ts') (uIfS ut us us'):=⟨ls_if hc.h ha.h hb.h⟩
end
section
variable {ta:TE} {ua:UE}
theorem qG {g:TG} {ug:UG} (ha:ZE ta ua) (hg:ZG g ug):ZS (tAsg ta g) (uAsg ua ug):=⟨ls_asg ha.h hg.h⟩
end
section
variable {ta:TE} {ua:UE}
theorem cs_aug {i:Nat} {f:Int->Int->Int} (ha:ZE ta ua):ZS (tAug i ta (ipI f)) (uAug i f ua):=⟨ls_aug ha.h⟩
end
section
variable {ts:TS} {us:US}
theorem xN {wi:TI} {ui:UI} {g:TG} {ug:UG} (hi:ZI wi ui) (hg:ZG g ug) (hb:ZS ts us):ZS (tFor wi g ts) (uFor ui ug us):=⟨ls_for hi.h hg.h hb.h⟩
end
section
variable {tt:TT} {ut:UT}
variable {ts:TS} {us:US}
theorem Vw (hc:ZT tt ut) (hb:ZS ts us):ZS (Va tt ts) (uWhile ut us):=⟨ls_while hc.h hb.h⟩
end
section
variable {ta:TE} {ua:UE} {tl:TA} {ul:UA} {n:Nat}
theorem ce_me {r:V->List V->Hp->VK->Prop} {s:List U->List U->(U->List U->Prop)->Prop} (h:MeL r s) (ha:ZE ta ua) (hl:ZA n tl ul):ZE (tLM r ta tl) (uMe s ua ul):=⟨le_me h ha.h hl.h⟩
end
section
variable {tl:TA} {ul:UA} {n:Nat}
theorem qD {G:List U->MM->UK->Prop} {E:XK} (ha:ZA n tl ul):ZE (vK (spU G) [] E tl) (uCall G ul):=⟨le_callU ha.h⟩
end
section
variable {tl:TA} {ul:UA} {n:Nat}
theorem vc {G:List T->(T->Prop)->Prop} {E:XK} (ha:ZA n tl ul):ZE (vK (spP G) [] E tl) (Zp G ul):=⟨le_callP ha.h⟩
end
section
variable {ta tb:TE} {ua ub:UE}
theorem Jh (ha:ZE ta ua) (hb:ZE tb ub):ZE (tDGet ta tb) (uDGet ua ub):=⟨le_dget ha.h hb.h⟩
end
section
variable {ta:TE} {ua:UE} {K:PySem.W.Frag}
theorem kY (c:TyC) (ha:ZE ta ua):ZE (tCB (rIsi K) (vm ta (vm (tC (.ty c.name)) tNil))) (uIsi c ua):=⟨le_isi c ha.h⟩
end
section
theorem ce_dnew  : ZE Vc uDNew:=⟨le_dnew ⟩
end
section
theorem cs_dput {td ty tv:TE} {ud uy uv:UE} (hd:ZE td ud) (hy:ZE ty uy) (hv:ZE tv uv):ZS (sDPut td ty tv) (uDPut ud uy uv):=⟨ls_dput hd.h hy.h hv.h⟩
end
section
variable {P:Program} {w:World} {K:PySem.W.Frag} {mg:Str->Option Value} {base:Heap}
theorem Fun.okQ {x qual:Str} {st:Stmt} {f:Addr} {fd:FuncData} {N ps:List Str} {k:Nat} {sp:Sp} (F:Fun K x qual st f fd) (S:FnScope N ps (qg st)) (len:∀vs H Q E,sp vs H Q E->vs.length=ps.length)
  (hbody:∀(cdv:Value) (A:Around) (outer:List Env) (s:Shared) (H:Hp) (vs:List V) (Q:VK) (E:XK),Room k (A.deeper (envOfC qual (qg st) s.heap.objs.size f cdv))->sp vs H Q E ->
   ∃t,QSs (cxOf CX0 P w K mg base N qual (qg st) f cdv A outer s H E).nox (ve st) t/\t { nx:=fun _ H'=>Q .non H',rt:=Q } (start N vs) H):FnOk P w K mg base CX0 (k+1) f fd ps sp :=
 F.ok S len fun cdv A outer s H vs Q E hr hsp=>by
  obtain⟨t,h,q⟩:=hbody cdv A outer s H vs Q E hr hsp
  exact⟨t,h.h,q⟩
theorem Fun.zU {x qual:Str} {st:Stmt} {f:Addr} {fd:FuncData} {N ps:List Str} {k:Nat} {G:List U->MM->UK->Prop} (F:Fun K x qual st f fd) (S:FnScope N ps (qg st)) (len:∀us M Qu,G us M Qu->us.length=ps.length)
  (hbody:∀(cdv:Value) (A:Around) (outer:List Env) (s:Shared) (H:Hp) (E:XK),Room k (A.deeper (envOfC qual (qg st) s.heap.objs.size f cdv)) ->
   ∃t,QSs (cxOf CX0 P w K mg base N qual (qg st) f cdv A outer s H E).nox (ve st) t/\∃u,ZS t u/\∀us M Qu,G us M Qu->u { nx:=fun _ M'=>Qu (.p .non) M',rt:=Qu } (zt N us) M):FnOk P w K mg base CX0 (k+1) f fd ps (spU G) :=
 F.okU S len fun cdv A outer s H E hr=>by
  obtain⟨t,h,u,hu,q⟩:=hbody cdv A outer s H E hr
  exact⟨t,h.h,u,hu.h,q⟩
theorem Fun.zP {x qual:Str} {st:Stmt} {f:Addr} {fd:FuncData} {N ps:List Str} {k:Nat} {G:List T->(T->Prop)->Prop} (F:Fun K x qual st f fd) (S:FnScope N ps (qg st)) (len:∀ts Qt,G ts Qt->ts.length=ps.length)
  (hbody:∀(cdv:Value) (A:Around) (outer:List Env) (s:Shared) (H:Hp) (E:XK),Room k (A.deeper (envOfC qual (qg st) s.heap.objs.size f cdv)) ->
   ∃t,QSs (cxOf CX0 P w K mg base N qual (qg st) f cdv A outer s H E).nox (ve st) t/\∃u,ZS t u/\∀ts Qt,G ts Qt->u { nx:=fun _ _=>Qt .non,rt:=fun z M'=>∃t,frzN 4 M' z=some t/\Qt t } (zt N (ts.map U.p)) []):FnOk P w K mg base CX0 (k+1) f fd ps (spP G) :=
 F.okP S len fun cdv A outer s H E hr=>by
  obtain⟨t,h,u,hu,q⟩:=hbody cdv A outer s H E hr
  exact⟨t,h.h,u,hu.h,q⟩
end
theorem Paired.app {α β:Type} {F:α->β->Prop}:∀{a c:List α} {b d:List β},Paired F a b->Paired F c d->Paired F (a++c) (b++d)
 |_,_,_,_, .nil,h=>h
 |_,_,_,_, .cons x y,h=>.cons x (Paired.app y h)
section
variable {K:PySem.W.Frag} {ta:TE} {ua:UE}
theorem Zv {X:Cx} (h:X.K=K):SlR X (rSlT K):=h▸sl_tup
def SlTS (M:MM) (x:U) (l h:Option Int) (Q:UK):Prop:=∃ts,sn M x=some (.tup ts)/\¬(HT.sIx ts.length 0 l=0/\HT.sIx ts.length ts.length h=ts.length)/\Q (.p (.tup (cutT ts l h))) M
def uSlT (ua:UE) (ul uh:UO):UE:=fun ρ M Q=>ua ρ M fun x M1=>ul ρ M1 fun l M2=>uh ρ M2 fun h M3=>SlTS M3 x l h Q
theorem le_slT {t1 t2:TO} {u1 u2:UO} (ha:LE ta ua) (h1:LO t1 u1) (h2:LO t2 u2):LE (tSl (rSlT K) ta t1 t2) (uSlT ua u1 u2):=fun A ι σ H ρ M Qu Q w e q k =>
 ha A ι σ H ρ M _ _ w e q fun x M1 ι1 v H1 l1 w1 r1 q1=>h1 A ι1 σ H1 ρ M1 _ _ w1 (e.le l1) q1 fun l M2 ι2 H2 l2 w2 q2=>h2 A ι2 σ H2 ρ M2 _ _ w2 ((e.le l1).le l2) q2 fun h M3 ι3 H3 l3 w3 ⟨ts,es,nw,q3⟩=>by
  obtain⟨p,vs,rfl,hv,hr⟩:=(((r1.le l2).le l3).sn w3 es).tup_inv
  have lv:=hr.len
  refine⟨p,vs,rfl,SqT.of hv,by rw[lv]; exact nw,fun a hp=>?_⟩
  exact k _ M3 ι3 _ _ (((l1.trans l2).trans l3).trans (.fresh hp)) (w3.fresh hp) (.p (zC w3 hp (Jb hr))) q3
theorem ce_slT {t1 t2:TO} {u1 u2:UO} (ha:ZE ta ua) (h1:ZO t1 u1) (h2:ZO t2 u2):ZE (tSl (rSlT K) ta t1 t2) (uSlT ua u1 u2):=⟨le_slT ha.h h1.h h2.h⟩
theorem rd_slT {u1 u2:UO} {ρ:UEnv} {M:MM} {Q:UK}:uSlT ua u1 u2 ρ M Q=ua ρ M fun x M1=>u1 ρ M1 fun l M2=>u2 ρ M2 fun h M3=>SlTS M3 x l h Q:=rfl
end
section
variable {A:Addr->Prop} {ι:List Addr} {H:Hp} {M:MM} {a:Addr} {d:Option Addr}
theorem Wd.not_xd (w:Wd A ι H M) {a:Addr} {fs:List (Str×V)} (h:a∈ι):H a≠some (.xd fs):=fun z=>by
 obtain⟨k,e⟩:=List.getElem?_of_mem h
 obtain⟨o,_,r⟩:=w.al e
 cases o with
 |lst=>obtain⟨vs,e,_⟩:=r; rw[z] at e; cases e
 |tup=>obtain⟨vs,e,_⟩:=r; rw[z] at e; cases e
 |ins=>obtain⟨_,_,e,_⟩:=r; rw[z] at e; cases e
 |dK=>obtain⟨_,e,_⟩:=r; rw[z] at e; cases e
 |dF=>obtain⟨e,_⟩:=r; rw[z] at e; cases e
 |tab=>obtain⟨_,e,_⟩:=r; rw[z] at e; cases e
theorem PartIs.x (w:Wd A ι H M) {q:Option Int} (h:PartIs d H q):PartX ι H d q:=by
 cases q with
 |none=>exact h
 |some n =>
  obtain⟨x0,e,hx⟩:=h
  exact⟨x0,e,fun z=>w.not_xd z hx,hx⟩
end
section
variable {A:Addr->Prop} {ι:List Addr} {H H':Hp} {M:MM}
theorem Wd.ext (w:Wd A ι H M) (h:∀x o,H x=some o->H' x=some o):Wd A ι H' M:=by
 have l:Le ι H ι H':=⟨⟨[],by simp,by simp⟩,fun x o e _=>h x o e,fun x e=>by
  cases q:H x with
  |none=>exact absurd q e
  |some o=>rw[h x o q]; simp⟩
 refine⟨w.nd,w.len,fun x hx=>l.al x (w.dom x hx),w.na,fun k a o e1 e2=>?_⟩
 have r:=w.obj k a o e1 e2
 obtain⟨q,hq⟩:=r.some
 exact r.le' l (by rw[h a q hq,hq]) fun x hx=>by rw[h x _ hx,hx]
end
section
variable {X:Cx} {pins:List (Addr×Obj)} {σ:St} {H:Hp} {s:Shared}
def entD (P:Params) (e:Str×Tok×Value):DictEntry:=⟨PyData.keyHash P e.1, .str e.1 e.2.1,e.2.2⟩
structure KDi (K:PySem.W.Frag) (w:World) (mg:Str->Option Value) (nm:Str) (a:Addr) (kvs:List (Str×V)):Prop where
 g:mg nm=some (.ref a)
 ex:∃(rows:List (Str×Tok×Value)) (ep:Nat),K.lookup a=some ⟨.type "dict", none, .dict ((rows.map (entD w.params)).toArray) ep, #[]⟩/\(rows.map (·.1)).Nodup/\Paired (fun(kv:Str×V) (r:Str×Tok×Value)=>kv.1=r.1/\RelV kv.2 r.2.2) kvs rows
def keyR (r:Str×Tok×Value):Key×Value:=(.inr r.1,r.2.2)
theorem Z7 {prog:Program} {w:World}:∀rows:List (Str×Tok×Value),Pairs (qO prog w) (rows.map (entD w.params)) (rows.map keyR)
 | []=>.nil
 |r::rows=>.cons (zo prog w r.1 r.2.1) rfl (Z7 rows)
theorem keys_D {prog:Program} {w:World} (rows:List (Str×Tok×Value)):KeysOf (qO prog w) (rows.map (entD w.params)).toArray:=fun e he=>by
 obtain⟨r,_,rfl⟩:=List.mem_map.mp (List.mem_toArray.mp he)
 exact⟨.inr r.1,zo prog w r.1 r.2.1,rfl⟩
theorem nodup_D:∀{rows:List (Str×Tok×Value)},(rows.map (·.1)).Nodup->((rows.map keyR).map (·.1)).Nodup:=fun {rows} h=>by
 rw[List.map_map]
 have e:((fun x=>x.1) ∘ keyR)=(fun x:Str=>(Key.inr x:Key)) ∘ (fun r:Str×Tok×Value=>r.1):=rfl
 rw[e, <-List.map_map]
 exact List.Pairwise.map _ (fun a b hab z=>hab (Key.inr.inj z)) h
theorem look_D {k:Str} {v:V}:∀{kvs:List (Str×V)} {rows:List (Str×Tok×Value)},Paired (fun(kv:Str×V) (r:Str×Tok×Value)=>kv.1=r.1/\RelV kv.2 r.2.2) kvs rows->kvs.lookup k=some v->∃u,valueAt (rows.map keyR) (.inr k:Key)=some u/\RelV v u
 |_,_, .nil,e=>by simp at e
 | (a,b)::kvs,r::rows, .cons ⟨e1,e2⟩ q,e=>by
  have e1:a=r.1:=e1
  subst e1
  by_cases h:k=r.1
  ·subst h
   rw[List.lookup_cons,beq_self_eq_true] at e
   cases e
   exact⟨r.2.2,by simp[valueAt,keyR],e2⟩
  ·rw[List.lookup_cons,beq_false_of_ne h] at e
   obtain⟨u,h1,h2⟩:=look_D q e
   refine⟨u, ?_,h2⟩
   unfold valueAt at h1 ⊢
   rw[List.map_cons,List.find?_cons_of_neg]
   ·exact h1
   ·intro z
    exact h (Key.inr.inj (of_decide_eq_true z)).symm
theorem kd_at {nm:Str} {a:Addr} {kvs:List (Str×V)} (D:KDi X.K X.w X.mg nm a kvs) (I:Inv X pins σ H s):∃rows:List (Str×Tok×Value),s.heap.DictOf (qO X.prog X.w) a (rows.map keyR)/\Paired (fun(kv:Str×V) (r:Str×Tok×Value)=>kv.1=r.1/\RelV kv.2 r.2.2) kvs rows:=by
 obtain⟨rows,ep,h1,h2,h3⟩:=D.ex
 exact⟨rows,⟨_,_,ep,I.kIn a _ h1,⟨rfl,rfl,rfl⟩,rfl,keys_D rows,by simpa using Z7 rows,nodup_D h2⟩,h3⟩
def tKD (kvs:List (Str×V)) (ty:TE):TE:=fun σ H Q=>ty σ H fun y H1=>∃k v,y=.str k/\kvs.lookup k=some v/\Q v H1
theorem pe_kd {nm:Str} {a:Addr} {kvs:List (Str×V)} {i:Expr} {ty:TE} {p pos:Pos} (D:KDi X.K X.w X.mg nm a kvs) (hg:Gl X nm) (hi:PE X i ty) (hs:NoSl i) (hd:(nm==("__debug__" : Str))=false:=by decide):PE X (.Subscript (.Name nm p) i pos) (tKD kvs ty):=by
 intro pins s σ H Q I h
 refine Zt PySem.F.slot_dict_getitem.lookup hs (jF I hg D.g (thn (hi pins s σ H _ I h) fun iv s2 ⟨y,H2,I2,ry,k,v,ey,e,q2⟩=>?_) hd)
 subst ey
 obtain⟨rows,dd,hp⟩:=kd_at D I2
 obtain⟨u,hu,ru⟩:=look_D hp e
 exact⟨dd.typeIs,wpAny_getItem_of (V6 (k:=.inr k) ry) dd.mapOf hu ⟨v,H2,I2.tok _,ru,q2⟩⟩
theorem qe_kd {nm:Str} {a:Addr} {kvs:List (Str×V)} {i:Expr} {ty:TE} {p pos:Pos} (D:KDi X.K X.w X.mg nm a kvs) (hg:Gl X nm) (hi:QE X i ty) (hs:NoSl i) (hd:(nm==("__debug__" : Str))=false:=by decide):QE X (.Subscript (.Name nm p) i pos) (tKD kvs ty):=⟨pe_kd D hg hi.h hs hd⟩
def uKD (ks:List (Str×T)) (ub:UE):UE:=fun ρ M Q=>ub ρ M fun y M1=>∃k t,y=.p (.str k)/\ks.lookup k=some t/\Q (.p t) M1
theorem Xz {k:Str} {t:T}:∀{kvs:List (Str×V)} {ks:List (Str×T)},Paired (fun(a:Str×V) (b:Str×T)=>a.1=b.1/\Sc a.2 b.2) kvs ks->ks.lookup k=some t->∃v,kvs.lookup k=some v/\Sc v t
 |_,_, .nil,e=>by simp at e
 | (a,b)::kvs,(c,d)::ks, .cons ⟨e1,e2⟩ q,e=>by
  have e1:a=c:=e1
  subst e1
  rw[List.lookup_cons] at e ⊢
  cases h:k==a with
  |true=>rw[h] at e; cases e; exact⟨b,rfl,e2⟩
  |false=>rw[h] at e; exact Xz q e
theorem le_kd {kvs:List (Str×V)} {ks:List (Str×T)} {tb:TE} {ub:UE} (h:Paired (fun(a:Str×V) (b:Str×T)=>a.1=b.1/\Sc a.2 b.2) kvs ks) (hb:LE tb ub):LE (tKD kvs tb) (uKD ks ub):=fun A ι σ H ρ M Qu Q w e q k =>
 hb A ι σ H ρ M _ _ w e q fun y M1 ι1 v H1 l1 w1 r1 ⟨kk,t,ey,el,q1⟩=>by
  subst ey
  cases r1 with
  |p r =>
  cases r
  obtain⟨v,h1,h2⟩:=Xz h el
  exact⟨kk,v,rfl,h1,k _ M1 ι1 _ H1 l1 w1 (.p h2.rep) q1⟩
theorem ce_kd {kvs:List (Str×V)} {ks:List (Str×T)} {tb:TE} {ub:UE} (h:Paired (fun(a:Str×V) (b:Str×T)=>a.1=b.1/\Sc a.2 b.2) kvs ks) (hb:ZE tb ub):ZE (tKD kvs tb) (uKD ks ub):=⟨le_kd h hb.h⟩
end
mutual
def toD:T->PyData
 |.non=>.none
 |.bl b=>.bool b
 |.int i=>.int i
 |.str x=>.str x
 |.tup xs=>.tuple (toDs xs)
 |.lst xs=>.list (toDs xs)
def toDs:List T->List PyData
 | []=>[]
 |x::xs=>toD x::toDs xs
end
mutual
theorem noD:∀t:T,(toD t).hasDict=false
 |.non=>rfl
 |.bl _=>rfl
 |.int _=>rfl
 |.str _=>rfl
 |.tup xs=>noDs xs
 |.lst xs=>noDs xs
theorem noDs:∀ts:List T,PyData.hasDictAll (toDs ts)=false
 | []=>rfl
 |x::xs=>by show((toD x).hasDict||PyData.hasDictAll (toDs xs))=false; rw[noD x,noDs xs]; rfl
end
section
variable {X:Cx} {pins:List (Addr×Obj)} {σ:St} {H:Hp} {s:Shared}
theorem vS {h:Heap}:∀{vs:List V} {ts:List T} {us:List Value},Vals vs us->vs.length=ts.length->(∀(i:Nat) v t,vs[i]?=some v->ts[i]?=some t->∀u,RelV v u->∃as,Reads h u (toD t) as)->∃as,ReadsAll h us (toDs ts) as
 | [], [],_, .nil,_,_=>⟨_, .nil⟩
 |v::vs,t::ts,_, .cons r q,hl,ih=>by
  obtain⟨as,h1⟩:=ih 0 v t rfl rfl _ r
  obtain⟨bs,h2⟩:=vS q (by simpa using hl) fun i v t e1 e2=>ih (i+1) v t (by simpa using e1) (by simpa using e2)
  exact⟨_, .cons h1 h2⟩
theorem jw {A:Addr->Prop} {v:V} {t:T} (I:Inv X pins σ H s) (r:RepT A H v t):∀u,RelV v u->∃as,Reads s.heap u (toD t) as:=by
 induction r with
 |non=>intro u e; cases e; exact⟨_, .none⟩
 |bl b=>intro u e; cases e; exact⟨_, .bool b⟩
 |int i=>intro u e; obtain⟨t,rfl⟩:=e; exact⟨_, .int i t⟩
 |str x=>intro u e; obtain⟨t,rfl⟩:=e; exact⟨_, .str x t⟩
 |tup na e l r ih =>
  intro u eu
  cases eu
  obtain⟨its,rv,⟨o,h1,h2,n,h3⟩,_⟩:=I.tuple (SqT.of e)
  obtain⟨as,q⟩:=vS (h:=s.heap) rv l ih
  exact⟨_, .tuple h1 h2 h3 (by simpa using q)⟩
 |lst na e l r ih =>
  intro u eu
  cases eu
  obtain⟨its,rv,pl,_⟩:=I.list (SqL.of e)
  obtain⟨o,h1,h2,n,h3⟩:=pl.isList
  obtain⟨as,q⟩:=vS (h:=s.heap) rv l ih
  exact⟨_, .list h1 h2 h3 (by simpa using q)⟩
structure ShowT (t:T):Prop where
 sh:(toD t).showable=true
 dp:(toD t).depth<=60
 sz:(toD t).shown.length<=sizeLine
def rRepr:List V->Hp->VK->Prop:=fun xs H Q=>∃(A:Addr->Prop) (v:V) (t:T),xs=[v]/\RepV A H v t/\ShowT t/\Q (.str (toD t).shown) H
theorem call_repr (hg:X.A.guards=some []) (hu:X.A.units+64<cLine):vP X (.builtin "repr") rRepr:=by
 intro pins s σ H xs us Q I r h
 obtain⟨A,v,t,rfl,rv,ok,q⟩:=h
 obtain⟨u,rfl,ru⟩:=jj r
 have big:∀(a:Addr) (as:List Addr),Reads s.heap (.ref a) (toD t) as->wpAny (model X.prog X.w) X.A (call (.builtin "repr") [.ref a]) (EP X pins σ Q) X.xe s:=fun a as rd =>
  repr_of_reads' rd ok.sh (PyData.noDict_hsm (noD t)) hg (by have:=ok.dp; omega) (fun _ _ e=>e) (fun h' u tk hk=>⟨.str _,H,I.kept (t':=tk) hk,⟨_,rfl⟩,q⟩) ok.sz
 cases rv with
 |of r =>
  obtain⟨as,rd⟩:=jw I r u ru
  cases r with
  |non=>cases ru; exact PySem.P.repr_of_none ⟨.str _,H,I.tok _,⟨_,rfl⟩,q⟩
  |bl b=>cases ru; exact PySem.P.repr_of_bool ⟨.str _,H,I.tok _,⟨_,rfl⟩,q⟩
  |int i =>
   obtain⟨t,rfl⟩:=ru
   exact PySem.P.repr_of_int (of_decide_eq_true ok.sh) ⟨.str _,H,I.tok _,⟨_,rfl⟩,q⟩
  |str x =>
   obtain⟨t,rfl⟩:=ru
   exact PySem.P.repr_of_str ⟨.str _,H,I.tok _,⟨_,rfl⟩,q⟩ ok.sz
  |tup=>cases ru; exact big _ _ rd
  |lst=>cases ru; exact big _ _ rd
 |lst e rr =>
  cases ru
  obtain⟨its,rv,pl,_⟩:=I.list (SqL.of e)
  obtain⟨o,h1,h2,n,h3⟩:=pl.isList
  obtain⟨as,q⟩:=vS (h:=s.heap) rv rr.len fun i v t e1 e2=>jw I (Paired.get2 rr e1 e2)
  exact big _ _ (.list h1 h2 h3 (by simpa using q))
 |tup e rr =>
  cases ru
  obtain⟨its,rv,⟨o,h1,h2,n,h3⟩,_⟩:=I.tuple (SqT.of e)
  obtain⟨as,q⟩:=vS (h:=s.heap) rv rr.len fun i v t e1 e2=>jw I (Paired.get2 rr e1 e2)
  exact big _ _ (.tuple h1 h2 h3 (by simpa using q))
def sRepr:List T->(T->Prop)->Prop:=fun ts Q=>∃t,ts=[t]/\ShowT t/\Q (.str (toD t).shown)
theorem cbl_repr:CbL rRepr sRepr:=fun A ι H M vs ts Qs Q w r ⟨t,e,ok,q⟩ k=>by
 subst e
 obtain⟨v,ev,r1⟩:=pv1 r
 subst ev
 exact⟨_,v,t,rfl,r1,ok,k _ ι _ H (.refl _ _) w (.str _) q⟩
theorem rd_repr {t:T} {Q:T->Prop}:sRepr [t] Q=(ShowT t/\Q (.str (toD t).shown)):=propext ⟨fun⟨_,e,h⟩=>by cases e; exact h,fun h=>⟨t,rfl,h⟩⟩
theorem b_repr:bootBuiltins "repr" = some (.builtin "repr"):=by decide +kernel
end
section
variable {A:Addr->Prop} {H H':Hp} {ι ι':List Addr} {M:MM} {te:TE} {tt:TT} {ue:UE} {ut:UT} {n:Nat} {K:PySem.W.Frag} {tl:TA} {ul:UA} {ta:TE} {ua:UE}
theorem Wd.takeA {p:Addr} {ys:List V} {ts:List T} (w:Wd (fun x=>A x\/x=p) ι H M) (ha:¬A p) (hp:H p=some (.lst ys)) (r:RepTs (Av (fun x=>A x\/x=p) ι) H ys ts):Wd A (ι++[p]) H (M++[.lst (ts.map U.p)])/\p∉ι:=by
 have np:p∉ι:=fun z=>w.na p z (.inr rfl)
 have hl:Lea (fun x=>A x\/x=p) ι H A (ι++[p]) H:=⟨⟨[p],rfl⟩,fun x o hx e=>⟨e,fun z=>hx (z.elim (fun z=>.inl (.inl z)) fun z=>(List.mem_append.mp z).elim .inr fun z=>.inl (.inr (List.mem_singleton.mp z)))⟩,fun x fs hx e=>⟨fun z=>(List.mem_append.mp z).elim hx fun z=>(by rw[List.mem_singleton.mp z,hp] at e; cases e),e⟩⟩
 refine⟨⟨List.nodup_append.mpr ⟨w.nd,by simp,fun a ha b hb=>by rw[List.mem_singleton.mp hb]; exact fun z=>np (by rw[<-z]; exact ha)⟩,by simp[w.len],fun x hx=>w.dom x (.inl hx),fun x hx z=>?_,fun k a ob e1 e2=>?_⟩,np⟩
 ·rcases List.mem_append.mp hx with h|h
  ·exact w.na x h (.inl z)
  ·rw[List.mem_singleton.mp h] at z; exact ha z
 ·by_cases hk:k<ι.length
  ·rw[List.getElem?_append_left hk] at e1
   rw[List.getElem?_append_left (by rw[<-w.len]; exact hk)] at e2
   have q:=w.obj k a ob e1 e2
   cases ob with
   |lst=>obtain⟨vs,e,q⟩:=q; exact⟨vs,e,Paired.mapP q fun _ _ q=>q.lea hl⟩
   |tup=>obtain⟨vs,e,q⟩:=q; exact⟨vs,e,Paired.mapP q fun _ _ q=>q.lea hl⟩
   |ins =>
    obtain⟨dx,gs,e,ed,nd,q⟩:=q
    refine⟨dx,gs,e,ed,fun z=>?_,Paired.mapP q fun _ _ q=>⟨q.1,q.2.lea hl⟩⟩
    rcases List.mem_append.mp z with z|z
    ·exact nd z
    ·rw[List.mem_singleton.mp z,hp] at ed; cases ed
   |dK=>obtain⟨gs,e,q⟩:=q; exact⟨gs,e,Paired.mapP q fun _ _ q=>⟨q.1,q.2.lea hl⟩⟩
   |dF=>obtain⟨e,q⟩:=q; exact⟨e,Paired.mapP q fun _ _ q=>⟨q.1,q.2.lea hl⟩⟩
   |tab =>
    obtain⟨ps,e,t,z⟩:=q
    refine⟨ps,e,t,z.imp id fun⟨c,h1,h2,h3⟩=>⟨c,h1,h2,fun y=>?_⟩⟩
    rcases List.mem_append.mp y with y|y
    ·exact h3 y
    ·rw[List.mem_singleton.mp y,hp] at h2; cases h2
  ·have hk2:=(List.getElem?_eq_some_iff.mp e1).1
   rw[List.length_append,List.length_singleton] at hk2
   have:k=ι.length:=by omega
   subst this
   rw[List.getElem?_append_right (Nat.le_refl _),Nat.sub_self] at e1
   rw[w.len,List.getElem?_append_right (Nat.le_refl _),Nat.sub_self] at e2
   simp at e1 e2
   subst e1 e2
   exact⟨ys,hp,RepTs.ups (Paired.mapP r fun _ _ q=>q.mono hl.av)⟩
theorem Le.pushed {p:Addr} (l:Le ι H ι' H') (h:H p=none) (_:p∉ι'):Le ι H (ι'++[p]) H':=by
 obtain⟨m,rfl,hm⟩:=l.ext
 refine⟨⟨m++[p],by rw[List.append_assoc],fun x hx=>?_⟩,l.fr,l.al⟩
 rcases List.mem_append.mp hx with z|z
 ·exact hm x z
 ·rw[List.mem_singleton.mp z]; exact h
def UCompN (it:UIt) (ug:UG) (ut:UT) (ue:UE) (ρ0:UEnv) (M1:MM) (Q:UK):Prop:=it.n<=sizeLine/\∃Iv:Nat->List T->MM->Prop,Iv 0 [] M1 /\
 (∀i acc M2,i<it.n->acc.length<=i->Iv i acc M2->it.ok M2/\∀u,it.item i u->ug u ρ0 M2 fun ρ4 M4=>ut ρ4 M4 fun b M5=>if b=true then ue ρ4 M5 fun z M6=>∃t,z=.p t/\Iv (i+1) (acc++[t]) M6 else Iv (i+1) acc M5) /\
 (∀acc M2,Iv it.n acc M2->it.ok M2/\Q (.m M2.length) (M2++[.lst (acc.map U.p)]))
def j3 (ui:UI) (bs:List Bool) (n:Nat) (ug:UG) (ut:UT) (ue:UE):UE:=fun ρ M Q=>ui ρ M fun it M1=>ρ.length=bs.length/\UCompN it ug ut ue (V2 bs n ρ) M1 Q
theorem le_compN {wi:TI} {ui:UI} {bs:List Bool} {g:TG} {ug:UG} (hi:LI wi ui) (hg:LGx bs n g ug) (ht:LT tt ut) (he:LE te ue):LE (zn wi bs n g tt te) (j3 ui bs n ug ut ue):=by
 intro A ι σ H ρ M Qu Q w e q k
 refine hi A ι σ H ρ M _ _ w e q fun it M1 ι1 J H1 l1 w1 hJ q1 acc hacc=>?_
 obtain⟨hlen,hsz,Iv,I0,It,Id⟩:=q1
 have hσ:σ.length=bs.length:=by rw[<-hlen]; exact e.len
 have e1:=e.le l1
 have na:¬Av A ι1 acc:=w1.nA hacc
 have key:∀ι2 H2,Le ι1 H1 ι2 H2->(∀x∈ι2,¬(A x\/x=acc))->Lea A ι1 H1 (fun x=>A x\/x=acc) ι2 H2:=fun ι2 H2 l h=>by
  refine⟨let⟨n,e,_⟩:=l.ext; ⟨n,e⟩,fun x o hx ex=>?_,l.xd⟩
  obtain⟨a1,a2⟩:=l.av hx ex
  refine⟨a1,fun z=>?_⟩
  rcases z with(z|z)|z
  ·exact a2 (.inl z)
  ·rw[z,hacc] at ex; cases ex
  ·exact a2 (.inr z)
 refine⟨fun i m H2=>m=it.n-i/\i<=it.n/\∃ι2 M2 at' ys,Le ι1 H1 ι2 H2/\Wd (fun x=>A x\/x=acc) ι2 H2 M2/\H2 acc=some (.lst ys)/\RepTs (Av (fun x=>A x\/x=acc) ι2) H2 ys at'/\at'.length<=i/\Iv i at' M2,
  ⟨it.n,by simp,Nat.zero_le _,ι1,M1, [], [], .fresh hacc,w1.addA hacc,upd_same, .nil,Nat.le_refl _,I0⟩, ?_⟩
 rintro i m H2 ⟨rfl,hin,ι2,M2,at',ys,l2,w2,hys,rys,hat,I2⟩
 have lea:=key ι2 H2 l2 w2.na
 by_cases hlt:i<it.n
 ·obtain⟨ok,step⟩:=It i at' M2 hlt hat I2
  obtain⟨jgo,jy⟩:=(hJ _ ι2 H2 M2 i lea w2 ok).1 hlt
  refine .inr ⟨jgo,fun H'=>∃ι2 M2 at' ys,Le ι1 H1 ι2 H'/\Wd (fun x=>A x\/x=acc) ι2 H' M2/\H' acc=some (.lst ys)/\RepTs (Av (fun x=>A x\/x=acc) ι2) H' ys at'/\at'.length<=i+1/\Iv (i+1) at' M2,fun H' h=>⟨it.n-(i+1),by omega,rfl,hlt,h⟩,fun x H3 y=>?_⟩
  obtain⟨u,hu,l3,w3,r3⟩:=jy x H3 y
  have l13:=l2.trans l3
  have nacc:∀{ι':List Addr} {H':Hp} {M':MM},Wd (fun x=>A x\/x=acc) ι' H' M'->acc∉ι':=fun w z=>w.na acc z (.inr rfl)
  have ys3:H3 acc=some (.lst ys):=l3.fr _ _ hys (nacc w2)
  have env3:EnvR (fun x=>A x\/x=acc) ι2 H3 (vI bs n σ) (V2 bs n ρ):=(e1.mask).lea (key ι2 H3 l13 w3.na)
  refine hg _ ι2 σ H3 _ M2 x u _ _ hσ w3 env3 r3 (step u hu) fun ρ4 σ4 e4 x4 len4 q4=>⟨⟨x4,len4⟩, ?_⟩
  refine ht _ ι2 σ4 H3 ρ4 M2 _ _ w3 e4 q4 fun b M5 ι5 H5 l5 w5 q5=>?_
  have ys5:H5 acc=some (.lst ys):=l5.fr _ _ ys3 (nacc w3)
  have rys5:RepTs (Av (fun x=>A x\/x=acc) ι5) H5 ys at':=Paired.mapP rys fun _ _ q=>(q.le l3).le l5
  cases b with
  |false=>exact⟨ι5,M5,at',ys,l13.trans l5,w5,ys5,rys5,Nat.le_succ_of_le hat,q5⟩
  |true =>
   refine he _ ι5 σ4 H5 ρ4 M5 _ _ w5 (e4.le l5) q5 fun z M6 ι6 zv H6 l6 w6 r6 q6=>?_
   obtain⟨t,rfl,q6⟩:=q6
   have ys6:H6 acc=some (.lst ys):=l6.fr _ _ ys5 (nacc w5)
   refine⟨ys,ys6, ?_,ι6,M6,at'++[t],ys++[zv],((l13.trans l5).trans l6).updF hacc,(w6.updA (.inr rfl) ys6).2,upd_same, ?_,by rw[List.length_append,List.length_singleton]; omega,q6⟩
   ·rw[rys.len]; omega
   ·have hl:=(w6.updA (o:=.lst (ys++[zv])) (.inr rfl) ys6).1
    cases r6 with
    |p r6=>exact Paired.app (Paired.mapP rys5 fun _ _ q=>(q.le l6).mono hl.av) (.cons (r6.mono hl.av) .nil)
 ·have ei:i=it.n:=by omega
  subst ei
  obtain⟨ok,fin⟩:=Id at' M2 I2
  obtain⟨w3,l3⟩:=w2.takeA (fun z=>na (.inl z)) hys rys
  exact .inl ⟨(hJ _ ι2 H2 M2 _ lea w2 ok).2 rfl,k _ _ (ι2++[acc]) _ H2 (l1.trans (l2.pushed hacc l3)) w3 (.m (by rw[<-w2.len]; exact zf)) fin⟩
theorem jS {wi:TI} {ui:UI} {bs:List Bool} {g:TG} {ug:UG} (hi:ZI wi ui) (hg:ZX bs n g ug) (ht:ZT tt ut) (he:ZE te ue):ZE (zn wi bs n g tt te) (j3 ui bs n ug ut ue):=⟨le_compN hi.h hg.h ht.h he.h⟩
def LiN (us:List U) (M:MM) (Q:UK):Prop:=∃x ys,us=[x]/\(ql M x=some ys\/vh M x=some ys)/\Q (.m M.length) (M++[.lst ys])
def Zn (ul:UA):UE:=fun ρ M Q=>ul ρ M fun us M1=>LiN us M1 Q
theorem le_listN (ha:LA n tl ul):LE (tCB (fun xs H Q=>∃p ys,xs=[.ref p]/\(SqL K H p ys\/SqT K H p ys)/\∀l,H l=none->Q (.ref l) (upd H l (.lst ys))) tl) (Zn ul):=fun A ι σ H ρ M Qu Q w e q k =>
 ha A ι σ H ρ M _ _ w e q fun us M1 ι1 vs H1 l1 w1 hn r1 ⟨x,ys,eu,hy,q1⟩=>by
  subst eu
  cases r1 with
  |cons r q' =>
  cases q'
  rcases hy with hy|hy
  ·obtain⟨p,zs,rfl,h1,h2⟩:=qM w1 r hy
   exact⟨p,zs,rfl, .inl (SqL.of h1),fun l hl=>k _ _ _ _ _ (l1.trans (.push hl)) (vX w1 hl h2).1 (vX w1 hl h2).2 q1⟩
  ·obtain⟨p,zs,rfl,h1,h2⟩:=vE w1 r hy
   exact⟨p,zs,rfl, .inr (SqT.of h1),fun l hl=>k _ _ _ _ _ (l1.trans (.push hl)) (vX w1 hl h2).1 (vX w1 hl h2).2 q1⟩
theorem ce_listN (ha:ZA n tl ul):ZE (tCB (fun xs H Q=>∃p ys,xs=[.ref p]/\(SqL K H p ys\/SqT K H p ys)/\∀l,H l=none->Q (.ref l) (upd H l (.lst ys))) tl) (Zn ul):=⟨le_listN ha.h⟩
def Me0S (s:List U->List U->(U->List U->Prop)->Prop) (o:U) (M:MM) (Q:UK):Prop:=∃k us,o=.m k/\M[k]?=some (.lst us)/\s us [] fun z us'=>Q z (M.set k (.lst us'))
def uMe0 (s:List U->List U->(U->List U->Prop)->Prop) (uo:UE):UE:=fun ρ M Q=>uo ρ M fun o M1=>Me0S s o M1 Q
theorem le_me0 {r:V->List V->Hp->VK->Prop} {s:List U->List U->(U->List U->Prop)->Prop} (h:MeL r s) (ha:LE ta ua):LE (tBM0 K "list" r ta) (uMe0 s ua):=fun A ι σ H ρ M Qu Q w e q k =>
 ha A ι σ H ρ M _ _ w e q fun o M1 ι1 v H1 l1 w1 r1 ⟨kk,us,eo,hz,q1⟩=>by
  subst eo
  cases r1 with
  |m ek =>
  rename_i a
  obtain⟨xs1,h1,h2⟩:=w1.obj kk a _ ek hz
  have hm:=List.mem_of_getElem? ek
  exact⟨.inl ⟨rfl,xs1,SqL.of h1⟩,h A ι1 H1 M1 kk a xs1 [] us [] _ Q w1 ek h1 hz h2 .nil q1 fun z us' zv xs' rx rz qz=>k z _ ι1 zv _ (l1.trans (.put hm)) (w1.put (mo:=.lst us') ek ⟨xs',upd_same,RepUs.le (.put hm) rx⟩) (rz.le (.put hm)) qz⟩
theorem ce_me0 {r:V->List V->Hp->VK->Prop} {s:List U->List U->(U->List U->Prop)->Prop} (h:MeL r s) (ha:ZE ta ua):ZE (tBM0 K "list" r ta) (uMe0 s ua):=⟨le_me0 h ha.h⟩
def sClear:List U->List U->(U->List U->Prop)->Prop:=fun _ ws Q=>ws=[]/\Q (.p .non) []
theorem Xv:MeL rClear sClear:=fun A ι H M k a xs ys us ws Qs Q w ek h1 h2 rx ry ⟨ew,q⟩ kk=>by
 subst ew
 cases ry
 exact⟨a,xs,rfl,rfl,h1,kk _ _ _ _ .nil (.p .non) q⟩
end
structure Nx (P:Program) (w:World) (it:Addr) (rd:List Addr) (st:Nat->Heap->Prop) (n:Nat) (yl:Nat->Value->Prop):Prop where
 keep:∀i h h',st i h->(∀c∈rd,∀o,h.get? c=some o->h'.get? c=some o)->st i h'
 here:∀i h,st i h->∃o,h.get? it=some o
 mem:it∈rd
 item:∀(A:Around) (E:Value->Shared->Prop) (s:Shared) (i:Nat) (Q:Value->Shared->Prop),st i s.heap->i<n->(∀h' x tk,yl i x->st (i+1) h'->Heap.SameBut it s.heap h'->Q x { s with heap:=h',toks:=tk })->wpAny (model P w) A (Builtin.SmallTypes.nextOf (.ref it)) Q E s
 fin:∀(A:Around) (E:Value->Shared->Prop) (s:Shared) (i:Nat) (Q:Value->Shared->Prop),A.handled=none->st i s.heap->n<=i->(∀h' e,Heap.ExtBut it s.heap h'->(∃o,h'.get? e=some o/\o.cls=.type "StopIteration")->E (.ref e) { s with heap:=h' })->wpAny (model P w) A (Builtin.SmallTypes.nextOf (.ref it)) Q E s
section
variable {P:Program} {w:World} {A:Around} {E:Value->Shared->Prop} {s:Shared}
theorem Xk {it l:Addr} {vs:List Value} (ne:l≠it):Nx P w it [it,l] (fun i h=>h.IsListIter it l i/\h.IsList l vs.toArray) vs.length (fun i x=>vs[i]?=some x) where
 keep:=fun i h h' st k=>⟨st.1.at fun o e=>k it (by simp) o e,st.2.at fun o e=>k l (by simp) o e⟩
 here:=fun i h st=>let⟨⟨o,e,_⟩,_⟩:=st; ⟨o,e⟩
 mem:=by simp
 item:=fun A E s i Q st hi q=>wpAny_nextOf_list_item (x:=vs[i]) st.1 st.2 (by simp[hi]) fun h' a b=>q h' _ s.toks (List.getElem?_eq_getElem hi) ⟨a,st.2.extBut b.extBut ne⟩ b
 fin:=fun A E s i Q hh st hx q=>wpAny_nextOf_list_end hh st.1 st.2 (by simpa using hx) q
theorem next_tup {it t:Addr} {i:Nat} {items:Array Value} {x:Value} {Q:Value->Shared->Prop} (hi:s.heap.IsTupleIter it t i) (ht:s.heap.IsTuple t items) (hx:items[i]?=some x) (q:∀h',h'.IsTupleIter it t (i+1)->Heap.SameBut it s.heap h'->Q x { s with heap:=h' }) :
  wpAny (model P w) A (Builtin.SmallTypes.nextOf (.ref it)) Q E s:=by
 obtain⟨oi,e1,c1,d1⟩:=id hi
 obtain⟨ot,e2,_,nt,d2⟩:=ht
 unfold Builtin.SmallTypes.nextOf
 refine wpAny_bind (wpAny_callSpecial?_slot (name:=Str.ofString "__next__") hi.typeIs F.slot_tuple_iterator_next (wpAny_call_entry F.slot_tuple_iterator_next hi.typeIs F.entry_tuple_iterator_next ?_ (F.args_tuple_iterator_next_1 _)))
 refine(show wpAny (model P w) _ (field (.ref it) 0 >>= _) _ E s from wpAny_bind (wpAny_field e1 d1 (x:=.ref t) rfl ?_))
 have nn:¬((Value.ref t==Value.none)=true):=Bool.false_ne_true
 show wpAny (model P w) _ (if(Value.ref t==Value.none)=true then _ else _) _ E s
 rw[if_neg nn]
 refine(show wpAny (model P w) _ (field (.ref it) 1 >>= _) _ E s from wpAny_bind (wpAny_field e1 d1 (x:=.int i 0) rfl ?_))
 refine(show wpAny (model P w) _ (seqItems? (.ref t) >>= _) _ E s from wpAny_bind (wpAny_seqItems e2 d2 ?_))
 simp only[Int.toNat_natCast,hx]
 refine wpAny_bind (wpAny_setField e1 d1 (by simp) (wpAny_pure ⟨x,rfl,wpAny_pure (q _ ⟨_,Heap.get?_update_self _ e1 (Obj.isFreed_of_fields (Obj.data_mapFields d1 _)),(Obj.cls_mapFields ..).trans c1,by rw[Obj.data_mapFields d1]; simp[rawInt]⟩ (Heap.SameBut.update ..))⟩))
theorem kE {it t:Addr} {i:Nat} {items:Array Value} {Q:Value->Shared->Prop} (hh:A.handled=none) (hi:s.heap.IsTupleIter it t i) (ht:s.heap.IsTuple t items) (hx:items[i]?=none) (q:∀h' e,Heap.ExtBut it s.heap h'->(∃o,h'.get? e=some o/\o.cls=.type "StopIteration")->E (.ref e) { s with heap:=h' }) :
  wpAny (model P w) A (Builtin.SmallTypes.nextOf (.ref it)) Q E s:=by
 obtain⟨oi,e1,c1,d1⟩:=id hi
 obtain⟨ot,e2,_,nt,d2⟩:=ht
 unfold Builtin.SmallTypes.nextOf
 refine wpAny_bind (wpAny_callSpecial?_slot (name:=Str.ofString "__next__") hi.typeIs F.slot_tuple_iterator_next (wpAny_call_entry F.slot_tuple_iterator_next hi.typeIs F.entry_tuple_iterator_next ?_ (F.args_tuple_iterator_next_1 _)))
 refine(show wpAny (model P w) _ (field (.ref it) 0 >>= _) _ E s from wpAny_bind (wpAny_field e1 d1 (x:=.ref t) rfl ?_))
 have nn:¬((Value.ref t==Value.none)=true):=Bool.false_ne_true
 show wpAny (model P w) _ (if(Value.ref t==Value.none)=true then _ else _) _ E s
 rw[if_neg nn]
 refine(show wpAny (model P w) _ (field (.ref it) 1 >>= _) _ E s from wpAny_bind (wpAny_field e1 d1 (x:=.int i 0) rfl ?_))
 refine(show wpAny (model P w) _ (seqItems? (.ref t) >>= _) _ E s from wpAny_bind (wpAny_seqItems e2 d2 ?_))
 simp only[Int.toNat_natCast,hx]
 refine wpAny_bind (wpAny_rule (wpAny_bind (wpAny_setField e1 d1 (by simp) ?_)))
 refine(show wpAny (model P w) _ (newExc (.type "StopIteration") [] >>= _) _ E _ from wpAny_bind ?_)
 simp only[newExc,newTuple]
 refine wpAny_bind (wpAny_newObj_type ?_ (by size_fits))
 refine wpAny_bind (m:=firstArgMember _ _) (wpAny_of_eq (a:=Value.none) (by first|rfl|(simp only[firstArgMember]; rfl)) (wpAny_newObj_type ?_ (by size_fits)))
 simp only[raiseNew]
 refine wpAny_bind (wpAny_handled ?_)
 first|rw[show A.in1.handled=none from hh]|rw[hh]
 exact wpAny_bind (wpAny_pure (wpAny_throw (q _ _ (((Heap.SameBut.update ..).extBut.push _).push _) ⟨_,Heap.get?_push_size _ rfl,rfl⟩)))
theorem nx_tup {it l:Addr} {vs:List Value} (ne:l≠it):Nx P w it [it,l] (fun i h=>h.IsTupleIter it l i/\h.IsTuple l vs.toArray) vs.length (fun i x=>vs[i]?=some x) where
 keep:=fun i h h' st k=>⟨let⟨o,e,r⟩:=st.1; ⟨o,k it (by simp) o e,r⟩,let⟨o,e,r⟩:=st.2; ⟨o,k l (by simp) o e,r⟩⟩
 here:=fun i h st=>let⟨⟨o,e,_⟩,_⟩:=st; ⟨o,e⟩
 mem:=by simp
 item:=fun A E s i Q st hi q=>next_tup (x:=vs[i]) st.1 st.2 (by simp[hi]) fun h' a b=>q h' _ s.toks (List.getElem?_eq_getElem hi) ⟨a,st.2.extBut b.extBut ne⟩ b
 fin:=fun A E s i Q hh st hx q=>kE hh st.1 st.2 (by simpa using hx) q
structure ZA5 (z TI TO i1 i2:Addr) (rd1 rd2:List Addr):Prop where
 a:TI≠z/\TO≠z/\i1≠z/\i2≠z/\TI≠TO/\TI≠i1/\TI≠i2/\TO≠i1/\TO≠i2/\i1≠i2
 r1:z∉rd1/\TO∉rd1/\i2∉rd1
 r2:z∉rd2/\TO∉rd2/\i1∉rd2
theorem zip_it {z TI TO i1 i2:Addr} {rd1 rd2:List Addr} {st1 st2:Nat->Heap->Prop} {n1 n2:Nat} {yl1 yl2:Nat->Value->Prop} {k:Nat} {a b:Value} {Q:Value->Shared->Prop} (D:ZA5 z TI TO i1 i2 rd1 rd2) (N1:Nx P w i1 rd1 st1 n1 yl1) (N2:Nx P w i2 rd2 st2 n2 yl2)
  (hz:IsZip s.heap z TI TO .none) (hI:IsPair s.heap TI (.ref i1) (.ref i2)) (hO:IsPair s.heap TO a b) (h1:st1 k s.heap) (h2:st2 k s.heap) (hx:k<n1) (hy:k<n2)
  (q:∀h' x y tk,yl1 k x->yl2 k y->IsZip h' z TI TO (rawInt s.heap.objs.size)->IsPair h' TO x y->st1 (k+1) h'->st2 (k+1) h'->IsPair h' s.heap.objs.size x y->h'.objs.size=s.heap.objs.size+1->(∀c o,c≠z->c≠TO->c≠i1->c≠i2->s.heap.get? c=some o->h'.get? c=some o)->Q (.ref s.heap.objs.size) { s with heap:=h',toks:=tk }) :
  wpAny (model P w) A (Builtin.«zip.__next__» ⟨[.ref z], []⟩) (fun fin s'=>∃v,fin=.done (.ret v)/\Q v s') E s:=by
 obtain⟨d1,d2,d3,d4,d5,d6,d7,d8,d9,d10⟩:=D.a
 have nr1:∀{c},c∈rd1->c≠z/\c≠TO/\c≠i2:=fun hc=>⟨fun e=>D.r1.1 (e▸hc),fun e=>D.r1.2.1 (e▸hc),fun e=>D.r1.2.2 (e▸hc)⟩
 have nr2:∀{c},c∈rd2->c≠z/\c≠TO/\c≠i1:=fun hc=>⟨fun e=>D.r2.1 (e▸hc),fun e=>D.r2.2.1 (e▸hc),fun e=>D.r2.2.2 (e▸hc)⟩
 refine(show wpAny (model P w) A (field (.ref z) 2 >>= _) _ E s from wpAny_bind (wpAny_field hz rfl (x:=.bool false) rfl ?_))
 refine(show wpAny (model P w) A (field (.ref z) 3 >>= _) _ E s from wpAny_bind (wpAny_field hz rfl (x:=.ref TI) rfl (wpAny_bind (wpAny_seqItems hI rfl ?_))))
 refine(show wpAny (model P w) A (Builtin.SmallTypes.ownedTupleIsFree (.ref z) >>= _) _ E s from wpAny_bind ?_)
 unfold Builtin.SmallTypes.ownedTupleIsFree
 refine wpAny_bind (wpAny_field hz rfl (x:=.none) rfl (wpAny_pure ?_))
 simp only[if_true]
 refine wpAny_bind (wpAny_rule (wpAny_bind (wpAny_field hz rfl (x:=.ref TO) rfl (wpAny_bind (wpAny_setField_rec hz (by simp) fun g1 z1 s1=>?_)))))
 replace z1:IsZip g1 z TI TO .ellipsis:=z1
 refine wpAny_bind ?_
 simp only[List.zipIdx_cons,List.zipIdx_nil,List.forIn_cons,List.forIn_nil]
 refine wpAny_bind (wpAny_bind (wpAny_onRaise ?_))
 refine(show wpAny (model P w) A (Builtin.SmallTypes.nextOf (.ref i1) >>= _) _ _ _ from wpAny_bind (N1.item _ _ _ k _ (N1.keep _ _ _ h1 fun c hc o e=>s1.extBut _ _ (nr1 hc).1 e) hx fun g2 x tk1 yx t1 s2=>wpAny_pure ?_))
 have o2:IsPair g2 TO a b:=s2.extBut _ _ d8 (s1.extBut _ _ d2 hO)
 refine wpAny_bind (wpAny_seqItems o2 rfl (wpAny_bind (wpAny_updateSeq_pair o2 fun g3 o3 s3=>?_)))
 replace o3:IsPair g3 TO x b:=o3
 refine wpAny_bind (wpAny_letGo (wpAny_pure (wpAny_bind (wpAny_bind (wpAny_onRaise ?_)))))
 refine(show wpAny (model P w) A (Builtin.SmallTypes.nextOf (.ref i2) >>= _) _ _ _ from wpAny_bind (N2.item _ _ _ k _ (N2.keep _ _ _ h2 fun c hc o e=>s3.extBut _ _ (nr2 hc).2.1 (s2.extBut _ _ (nr2 hc).2.2 (s1.extBut _ _ (nr2 hc).1 e))) hy fun g4 y tk2 yy t2 s4=>wpAny_pure ?_))
 have o4:IsPair g4 TO x b:=s4.extBut _ _ d9 o3
 refine wpAny_bind (wpAny_seqItems o4 rfl (wpAny_bind (wpAny_updateSeq_pair o4 fun g5 o5 s5=>?_)))
 replace o5:IsPair g5 TO x y:=o5
 refine wpAny_bind (wpAny_letGo (wpAny_pure (wpAny_pure (wpAny_bind (wpAny_seqItems o5 rfl (wpAny_bind (wpAny_newTuple ?_)))))))
 have sz:g5.objs.size=s.heap.objs.size:=by rw[s5.1,s4.1,s3.1,s2.1,s1.1]
 have z5:IsZip g5 z TI TO .ellipsis:=s5.extBut _ _ d2.symm (s4.extBut _ _ d4.symm (s3.extBut _ _ d2.symm (s2.extBut _ _ d3.symm z1)))
 have k5:∀c o,c≠z->c≠TO->c≠i1->c≠i2->s.heap.get? c=some o->g5.get? c=some o:=fun c o c1 c2 c3 c4 e=>s5.extBut _ _ c2 (s4.extBut _ _ c4 (s3.extBut _ _ c2 (s2.extBut _ _ c3 (s1.extBut _ _ c1 e))))
 have u1:st1 (k+1) g5:=N1.keep _ _ _ t1 fun c hc o e=>s5.extBut _ _ (nr1 hc).2.1 (s4.extBut _ _ (nr1 hc).2.2 (s3.extBut _ _ (nr1 hc).2.1 e))
 have u2:st2 (k+1) g5:=N2.keep _ _ _ t2 fun c hc o e=>s5.extBut _ _ (nr2 hc).2.1 e
 have lz:z<g5.objs.size:=Heap.lt_size z5
 refine(show wpAny (model P w) A (Builtin.SmallTypes.ownedTupleHandOut (.ref z) (.ref g5.objs.size) >>= _) _ E _ from wpAny_bind ?_)
 unfold Builtin.SmallTypes.ownedTupleHandOut
 have z6:IsZip (g5.push { cls:=.type "tuple", data:=.seq #[x,y] }) z TI TO .ellipsis:=Heap.get?_push_of_some _ z5
 refine wpAny_bind (wpAny_setField_rec z6 (by simp) fun g7 z7 s7=>?_)
 replace z7:IsZip g7 z TI TO (rawInt g5.objs.size):=z7
 refine wpAny_setField_rec z7 (by simp) fun g8 z8 s8=>?_
 replace z8:IsZip g8 z TI TO (rawInt g5.objs.size):=z8
 have up:∀c o,c≠z->g5.get? c=some o->g8.get? c=some o:=fun c o c1 e=>s8.extBut _ _ c1 (s7.extBut _ _ c1 (Heap.get?_push_of_some _ e))
 have T8:IsPair g8 g5.objs.size x y:=s8.extBut _ _ (Nat.ne_of_gt lz) (s7.extBut _ _ (Nat.ne_of_gt lz) (Heap.get?_push_size _ rfl))
 have e8:g8.objs.size=g5.objs.size+1:=by rw[s8.1,s7.1,Heap.size_push]
 rw[sz] at z8 T8 e8
 refine wpAny_pure ⟨_,rfl, ?_⟩
 show Q (.ref g5.objs.size) _
 rw[sz]
 exact q g8 x y tk2 yx yy z8 (up _ _ d2 o5) (N1.keep _ _ _ u1 fun c hc o e=>up c o (nr1 hc).1 e) (N2.keep _ _ _ u2 fun c hc o e=>up c o (nr2 hc).1 e) T8 e8 fun c o c1 c2 c3 c4 e=>up c o c1 (k5 c o c1 c2 c3 c4 e)
theorem zip_fin {z TI TO i1 i2:Addr} {rd1 rd2:List Addr} {st1 st2:Nat->Heap->Prop} {n1 n2:Nat} {yl1 yl2:Nat->Value->Prop} {k:Nat} {a b:Value} {Q:PySem.Fin->Shared->Prop} (hh:A.handled=none) (D:ZA5 z TI TO i1 i2 rd1 rd2) (N1:Nx P w i1 rd1 st1 n1 yl1) (N2:Nx P w i2 rd2 st2 n2 yl2)
  (hz:IsZip s.heap z TI TO .none) (hI:IsPair s.heap TI (.ref i1) (.ref i2)) (hO:IsPair s.heap TO a b) (h1:st1 k s.heap) (h2:st2 k s.heap) (he:n1<=k\/n2<=k)
  (q:∀h' e tk,(∀c o,c≠z->c≠TO->c≠i1->c≠i2->s.heap.get? c=some o->h'.get? c=some o)->(∃o,h'.get? e=some o/\o.cls=.type "StopIteration")->E (.ref e) { s with heap:=h',toks:=tk }) :
  wpAny (model P w) A (Builtin.«zip.__next__» ⟨[.ref z], []⟩) Q E s:=by
 obtain⟨d1,d2,d3,d4,d5,d6,d7,d8,d9,d10⟩:=D.a
 have nr1:∀{c},c∈rd1->c≠z/\c≠TO/\c≠i2:=fun hc=>⟨fun e=>D.r1.1 (e▸hc),fun e=>D.r1.2.1 (e▸hc),fun e=>D.r1.2.2 (e▸hc)⟩
 have nr2:∀{c},c∈rd2->c≠z/\c≠TO/\c≠i1:=fun hc=>⟨fun e=>D.r2.1 (e▸hc),fun e=>D.r2.2.1 (e▸hc),fun e=>D.r2.2.2 (e▸hc)⟩
 refine(show wpAny (model P w) A (field (.ref z) 2 >>= _) _ E s from wpAny_bind (wpAny_field hz rfl (x:=.bool false) rfl ?_))
 refine(show wpAny (model P w) A (field (.ref z) 3 >>= _) _ E s from wpAny_bind (wpAny_field hz rfl (x:=.ref TI) rfl (wpAny_bind (wpAny_seqItems hI rfl ?_))))
 refine(show wpAny (model P w) A (Builtin.SmallTypes.ownedTupleIsFree (.ref z) >>= _) _ E s from wpAny_bind ?_)
 unfold Builtin.SmallTypes.ownedTupleIsFree
 refine wpAny_bind (wpAny_field hz rfl (x:=.none) rfl (wpAny_pure ?_))
 simp only[if_true]
 refine wpAny_bind (wpAny_rule (wpAny_bind (wpAny_field hz rfl (x:=.ref TO) rfl (wpAny_bind (wpAny_setField_rec hz (by simp) fun g1 z1 s1=>?_)))))
 replace z1:IsZip g1 z TI TO .ellipsis:=z1
 refine wpAny_bind ?_
 simp only[List.zipIdx_cons,List.zipIdx_nil,List.forIn_cons,List.forIn_nil]
 refine wpAny_bind (wpAny_bind (wpAny_onRaise ?_))
 have k1:=N1.keep _ _ g1 h1 fun c hc o e=>s1.extBut _ _ (nr1 hc).1 e
 by_cases hx:n1<=k
 ·refine(show wpAny (model P w) A (Builtin.SmallTypes.nextOf (.ref i1) >>= _) _ _ _ from wpAny_bind (N1.fin _ _ _ k _ hh k1 hx fun g2 e s2 ee=>?_))
  obtain⟨oe,hoe,hce⟩:=ee
  have z2:IsZip g2 z TI TO .ellipsis:=s2 _ _ d3.symm z1
  have ez:e≠z:=fun x=>by subst x; rw[z2] at hoe; cases hoe; simp at hce
  exact wpAny_setField_rec z2 (by simp) fun g3 _ s3=>q g3 e _ (fun c o c1 _ c3 _ x=>s3.extBut _ _ c1 (s2 _ _ c3 (s1.extBut _ _ c1 x))) ⟨oe,s3.extBut _ _ ez hoe,hce⟩
 ·have hy:n2<=k:=he.elim (fun h=>absurd h hx) id
  refine(show wpAny (model P w) A (Builtin.SmallTypes.nextOf (.ref i1) >>= _) _ _ _ from wpAny_bind (N1.item _ _ _ k _ k1 (by omega) fun g2 x tk1 yx t1 s2=>wpAny_pure ?_))
  have o2:IsPair g2 TO a b:=s2.extBut _ _ d8 (s1.extBut _ _ d2 hO)
  refine wpAny_bind (wpAny_seqItems o2 rfl (wpAny_bind (wpAny_updateSeq_pair o2 fun g3 o3 s3=>wpAny_bind (wpAny_letGo (wpAny_pure (wpAny_bind (wpAny_bind (wpAny_onRaise ?_))))))))
  refine(show wpAny (model P w) A (Builtin.SmallTypes.nextOf (.ref i2) >>= _) _ _ _ from wpAny_bind (N2.fin _ _ _ k _ hh (N2.keep _ _ _ h2 fun c hc o e=>s3.extBut _ _ (nr2 hc).2.1 (s2.extBut _ _ (nr2 hc).2.2 (s1.extBut _ _ (nr2 hc).1 e))) hy fun g4 e s4 ee=>?_))
  obtain⟨oe,hoe,hce⟩:=ee
  have z4:IsZip g4 z TI TO .ellipsis:=s4 _ _ d4.symm (s3.extBut _ _ d2.symm (s2.extBut _ _ d3.symm z1))
  have ez:e≠z:=fun x=>by subst x; rw[z4] at hoe; cases hoe; simp at hce
  exact wpAny_setField_rec z4 (by simp) fun g5 _ s5=>q g5 e _ (fun c o c1 c2 c3 c4 x=>s5.extBut _ _ c1 (s4 _ _ c4 (s3.extBut _ _ c2 (s2.extBut _ _ c3 (s1.extBut _ _ c1 x))))) ⟨oe,s5.extBut _ _ ez hoe,hce⟩
end
section
def SqB (b:Bool) (K:PySem.W.Frag) (H:Hp) (a:Addr) (xs:List V):Prop:=match b with
 |true=>SqL K H a xs
 |false=>SqT K H a xs
def ItB (b:Bool) (h:Heap) (it a:Addr) (i:Nat):Prop:=match b with
 |true=>h.IsListIter it a i
 |false=>h.IsTupleIter it a i
theorem ItB.ex {b:Bool} {h:Heap} {it a:Addr} {i:Nat} (x:ItB b h it a i):∃o vs,h.get? it=some o/\o.data=.fields vs:=by
 cases b
 ·obtain⟨o,e,_,d⟩:=(show h.IsTupleIter it a i from x); exact⟨o,_,e,d⟩
 ·obtain⟨o,e,_,d⟩:=(show h.IsListIter it a i from x); exact⟨o,_,e,d⟩
theorem ItB.at {b:Bool} {h h':Heap} {it a:Addr} {i:Nat} (x:ItB b h it a i) (k:∀o,h.get? it=some o->h'.get? it=some o):ItB b h' it a i:=by
 cases b
 ·obtain⟨o,e,r⟩:=(show h.IsTupleIter it a i from x); exact⟨o,k o e,r⟩
 ·obtain⟨o,e,r⟩:=(show h.IsListIter it a i from x); exact⟨o,k o e,r⟩
def ItzS (S1 S2:Hp->List V->Prop):It :=
 ⟨fun i H=>∃xs ys x y,S1 H xs/\S2 H ys/\xs[i]?=some x/\ys[i]?=some y,
   fun i H x H'=>∃p u v,x=.ref p/\H p=none/\H'=upd H p (.tup [u,v])/\∀xs ys,S1 H xs->S2 H ys->xs[i]?=some u/\ys[i]?=some v,
   fun i H=>∃xs ys,S1 H xs/\S2 H ys/\(xs.length<=i\/ys.length<=i)⟩
def Itz (K:PySem.W.Frag) (b1 b2:Bool) (a1 a2:Addr):It:=ItzS (fun H xs=>SqB b1 K H a1 xs) (fun H xs=>SqB b2 K H a2 xs)
structure Sx (P:Program) (w:World) (K:PySem.W.Frag) (S:Hp->List V->Prop) (it:Addr) (rd:List Addr) (J:Nat->Heap->Prop):Prop where
 nx:∀{X:Cx} {pins:List (Addr×Obj)} {σ:St} {H:Hp} {s:Shared} {xs:List V},X.prog=P->X.w=w->X.K=K->Inv X pins σ H s->S H xs->∃(yl:Nat->Value->Prop) (st:Nat->Heap->Prop),(∀i u,yl i u->∃x,xs[i]?=some x/\RelV x u)/\Nx P w it rd st xs.length yl/\(∀i,J i s.heap->st i s.heap)/\∀i h,st i h->J i h
 inj:∀{X:Cx} {pins:List (Addr×Obj)} {σ:St} {H:Hp} {s:Shared} {xs ys:List V},X.K=K->Inv X pins σ H s->S H xs->S H ys->xs=ys
 ex:∀{i:Nat} {h:Heap},J i h->∃o vs,h.get? it=some o/\o.data=.fields vs
 ke:∀{i:Nat} {h h':Heap},J i h->(∀o,h.get? it=some o->h'.get? it=some o)->J i h'
theorem sx_B {P:Program} {w:World} {K:PySem.W.Frag} {b:Bool} {a it:Addr} (ne:a≠it):Sx P w K (fun H xs=>SqB b K H a xs) it [it,a] (fun i h=>ItB b h it a i) where
 nx:=fun {X pins σ H s xs} hP hw hK I hq=>by
  subst hP hw hK
  cases b
  ·obtain⟨its,rv,p,_⟩:=I.tuple hq
   have hl:=rv.length
   exact⟨_,_,fun i u e=>Paired.getR rv e,hl▸nx_tup ne,fun i h=>⟨h,p⟩,fun i h st=>st.1⟩
  ·obtain⟨its,rv,p,_⟩:=I.list hq
   have hl:=rv.length
   exact⟨_,_,fun i u e=>Paired.getR rv e,hl▸Xk ne,fun i h=>⟨h,p.isList⟩,fun i h st=>st.1⟩
 inj:=fun {X pins σ H s xs ys} hK I h h'=>by
  subst hK
  cases b
  ·exact I.tuple_inj h h'
  ·exact I.list_inj h h'
 ex:=fun h=>h.ex
 ke:=fun h k=>h.at k
theorem Inv.turnedL {X:Cx} {pins:List (Addr×Obj)} {σ:St} {H:Hp} {s:Shared} {h':Heap} {t':Nat} {fp:List Addr} {a:Addr} {o:HO} (I:Inv X pins σ H s) (k:∀b u,b∉fp->s.heap.get? b=some u->h'.get? b=some u) (ff:∀b∈fp,FpOk X pins H b)
  (hp:s.heap.objs.size<=a) (new:ObjOk X.prog X.w (upd H a o) h' a o):Inv X pins σ (upd H a o) { s with heap:=h',toks:=t' }:=by
 have hn:=I.hok.fresh hp
 have na:∀b u,s.heap.get? b=some u->b≠a:=fun b u q z=>by
  have:=Heap.lt_size q
  subst z
  exact absurd (Nat.lt_of_lt_of_le this hp) (Nat.lt_irrefl _)
 have nf:∀b u,H b=some u->b∉fp:=fun b u q z=>by rw[(ff b z).1] at q; cases q
 refine I.step (g':=s.gens) (d':=s.drawn) (ch:=fp) (fun b hb=>?_) (fun b u _ _ c q _=>k b u c q) (fun b u _ _ c q _=>⟨u.slots,k b u c q⟩) (fun b u _ q n=>by rw[upd_ne (na b u q)]; exact n)
  (fun b u c q=>⟨u,k b u c q⟩) (fun b xs q=>qH hn q) (fun b _ _ q=>qH hn q) (fun b ps q=>⟨#[],by rw[qH hn q]; simp⟩) (fun m hm=>?_) (fun b u q=>?_) I.bare
 ·have f:=ff b hb
  exact⟨f.2.2.2.1,f.2.1,f.2.2.2.2.1,f.2.2.2.2.2⟩
 ·obtain⟨o,es,ep,ho,r⟩:=hm
  exact⟨o,es,ep,k _ o (fun z=>(ff _ z).2.1 rfl) ho,r⟩
 ·by_cases hb:b=a
  ·subst hb; rw[upd_same] at q; cases q; exact new
  ·rw[upd_ne hb] at q
   refine(I.hok b u q).stay (fun c v hcc qq=>?_) (fun c qq=>qH hn qq) fun c xs qq=>qH hn qq
   rcases hcc with z|z
   ·subst z; exact k c v (nf c u q) qq
   ·exact k c v (nf c _ z) qq
theorem Inv.stopL {X:Cx} {pins:List (Addr×Obj)} {σ:St} {H:Hp} {s:Shared} {h':Heap} {t':Nat} {fp:List Addr} (I:Inv X pins σ H s) (k:∀b u,b∉fp->s.heap.get? b=some u->h'.get? b=some u) (ff:∀b∈fp,FpOk X pins H b):Inv X pins σ H { s with heap:=h',toks:=t' }:=by
 have nf:∀b u,H b=some u->b∉fp:=fun b u q z=>by rw[(ff b z).1] at q; cases q
 refine I.step (g':=s.gens) (d':=s.drawn) (ch:=fp) (fun b hb=>?_) (fun b u _ _ c q _=>k b u c q) (fun b u _ _ c q _=>⟨u.slots,k b u c q⟩) (fun b u _ q n=>n)
  (fun b u c q=>⟨u,k b u c q⟩) (fun b xs q=>q) (fun b _ _ q=>q) (fun b ps q=>⟨#[],by rw[q]; simp⟩) (fun m hm=>?_) (fun b u q=>?_) I.bare
 ·have f:=ff b hb
  exact⟨f.2.2.2.1,f.2.1,f.2.2.2.2.1,f.2.2.2.2.2⟩
 ·obtain⟨o,es,ep,ho,r⟩:=hm
  exact⟨o,es,ep,k _ o (fun z=>(ff _ z).2.1 rfl) ho,r⟩
 ·refine(I.hok b u q).stay (fun c v hcc qq=>?_) (fun c qq=>qq) fun c xs qq=>qq
  rcases hcc with z|z
  ·subst z; exact k c v (nf c u q) qq
  ·exact k c v (nf c _ z) qq
def ZTn (rd1 rd2:List Addr) (J1 J2:Nat->Heap->Prop) (z TI TO i1 i2:Addr) (i:Nat) (h:Heap):Prop:=ZA5 z TI TO i1 i2 rd1 rd2/\IsZip h z TI TO .none/\IsPair h TI (.ref i1) (.ref i2)/\(∃a b,IsPair h TO a b)/\J1 i h/\J2 i h
theorem turn_zip {P:Program} {w:World} {K:PySem.W.Frag} {elts:List Expr} {kk:_} {pos:Pos} {S1 S2:Hp->List V->Prop} {rd1 rd2:List Addr} {J1 J2:Nat->Heap->Prop} (z TI TO i1 i2:Addr) (Y1:Sx P w K S1 i1 rd1 J1) (Y2:Sx P w K S2 i2 rd2 J2):Turn P w K (.Tuple elts kk pos) (ItzS S1 S2) [z,TI,TO,i1,i2] z (ZTn rd1 rd2 J1 J2 z TI TO i1 i2) where
 mem:=by simp
 obj:=fun i h ⟨_,hz,hI,⟨a,b,hO⟩,h1,h2⟩ c hc=>by
  have fl:∀{o:Obj} {vs:Array Value},o.data=.fields vs->∀v,o.data ≠ .cell v:=fun d v e=>by rw[d] at e; cases e
  have sq:∀{o:Obj} {vs:Array Value} {n:Nat},o.data=.seq vs n->∀v,o.data ≠ .cell v:=fun d v e=>by rw[d] at e; cases e
  simp only[List.mem_cons,List.not_mem_nil,or_false] at hc
  rcases hc with rfl|rfl|rfl|rfl|rfl
  ·exact⟨_,hz,fl rfl⟩
  ·exact⟨_,hI,sq rfl⟩
  ·exact⟨_,hO,sq rfl⟩
  ·obtain⟨o,vs,e,d⟩:=Y1.ex h1; exact⟨o,e,fl d⟩
  ·obtain⟨o,vs,e,d⟩:=Y2.ex h2; exact⟨o,e,fl d⟩
 keep:=fun i h h' ⟨D,hz,hI,⟨a,b,hO⟩,h1,h2⟩ k=>⟨D,k z (by simp) _ hz,k TI (by simp) _ hI,⟨a,b,k TO (by simp) _ hO⟩,Y1.ke h1 fun o e=>k i1 (by simp) o e,Y2.ke h2 fun o e=>k i2 (by simp) o e⟩
 item:=by
  intro X hP hw hK hc i pins s σ H E I hf st hg
  subst hP hw hK
  obtain⟨D,hz,hI,⟨a,b,hO⟩,h1,h2⟩:=st
  obtain⟨xs,ys,x,y,q1,q2,hx,hy⟩:=hg
  obtain⟨ix,t1,r1,N1,in1,out1⟩:=Y1.nx rfl rfl rfl I q1
  obtain⟨iy,t2,r2,N2,in2,out2⟩:=Y2.nx rfl rfl rfl I q2
  have lx:=(List.getElem?_eq_some_iff.mp hx).1
  have ly:=(List.getElem?_eq_some_iff.mp hy).1
  have hT:s.TypeIs (.ref z) "zip" := ⟨_,hz,rfl⟩
  unfold pyNext
  refine wpAny_bind (wpAny_attempt (wpAny_callSpecial?_slot (name:=Str.ofString "__next__") hT F.slot_zip_next (wpAny_call_entry F.slot_zip_next hT F.entry_zip_next (zip_it D N1 N2 hz hI hO (in1 i h1) (in2 i h2) lx ly fun h' u v tk yu yv c1 c2 c3 c4 c5 c6 c7=>wpAny_pure ⟨_,rfl, ?_⟩) (F.args_zip_next_1 _))))
  obtain⟨x',hx',ru⟩:=r1 i u yu
  rw[hx] at hx'
  cases hx'
  obtain⟨y',hy',rv⟩:=r2 i v yv
  rw[hy] at hy'
  cases hy'
  have lt:∀{c o},s.heap.get? c=some o->s.heap.objs.size≠c:=fun e=>Nat.ne_of_gt (Heap.lt_size e)
  have fr:=I.hok.fresh (Nat.le_refl s.heap.objs.size)
  have d:=D.a
  refine wpAny_letOwnedTupleGo_zip c1 fun h'' z2 s2=>?_
  have up:∀c o,c≠z->h'.get? c=some o->h''.get? c=some o:=fun c o n e=>s2.extBut _ _ n e
  have kp:∀c o,c∉[z,TI,TO,i1,i2]->s.heap.get? c=some o->h''.get? c=some o:=fun c o hc e=>by
   simp only[List.mem_cons,List.not_mem_nil,or_false,not_or] at hc
   exact up c o hc.1 (c7 c o hc.1 hc.2.2.1 hc.2.2.2.1 hc.2.2.2.2 e)
  obtain⟨o1,vs1,g1,_⟩:=Y1.ex h1
  obtain⟨o2,vs2,g2,_⟩:=Y2.ex h2
  have T2:IsPair h'' s.heap.objs.size u v:=up _ _ (lt hz) c5
  refine⟨.ref s.heap.objs.size,_,I.turnedL (o:=.tup [x,y]) kp hf (Nat.le_refl _) ⟨by show 2<=sizeLine; decide, [u,v], .cons ru (.cons rv .nil),_,T2,rfl,_,rfl⟩,rfl,⟨_,x,y,rfl,fr,rfl,fun xs' ys' e1 e2=>by rw[Y1.inj rfl I e1 q1,Y2.inj rfl I e2 q2]; exact⟨hx,hy⟩⟩,⟨D,z2,up _ _ d.1 (c7 _ _ d.1 d.2.2.2.2.1 d.2.2.2.2.2.1 d.2.2.2.2.2.2.1 hI),⟨_,_,up _ _ d.2.1 c2⟩,Y1.ke (out1 _ _ c3) fun o e=>up _ o d.2.2.1 e,Y2.ke (out2 _ _ c4) fun o e=>up _ o d.2.2.2.1 e⟩,fun b hb=>?_⟩
  have hb1:=(hf b hb).1
  have nb:b≠s.heap.objs.size:=fun e=>by
   simp only[List.mem_cons,List.not_mem_nil,or_false] at hb
   rcases hb with rfl|rfl|rfl|rfl|rfl
   ·exact lt hz e.symm
   ·exact lt hI e.symm
   ·exact lt hO e.symm
   ·exact lt g1 e.symm
   ·exact lt g2 e.symm
  rw[upd_ne nb]; exact hb1
 done:=by
  intro X hP hw hK hc i pins s σ H E I hf st hg
  subst hP hw hK
  obtain⟨D,hz,hI,⟨a,b,hO⟩,h1,h2⟩:=st
  obtain⟨xs,ys,q1,q2,he⟩:=hg
  obtain⟨ix,t1,r1,N1,in1,out1⟩:=Y1.nx rfl rfl rfl I q1
  obtain⟨iy,t2,r2,N2,in2,out2⟩:=Y2.nx rfl rfl rfl I q2
  have hT:s.TypeIs (.ref z) "zip" := ⟨_,hz,rfl⟩
  unfold pyNext
  refine wpAny_bind (wpAny_attempt (wpAny_callSpecial?_slot (name:=Str.ofString "__next__") hT F.slot_zip_next (wpAny_call_entry F.slot_zip_next hT F.entry_zip_next (zip_fin (I.ok.hd hc) D N1 N2 hz hI hO (in1 i h1) (in2 i h2) he fun h' e tk hk ⟨o,ho,hc⟩=>?_) (F.args_zip_next_1 _))))
  refine wpAny_bind (wpAny_isInstance (T := "StopIteration") (b:=true) ⟨o,ho,hc⟩ isSubtype_stop (wpAny_pure ⟨rfl,I.stopL (t':=tk) (fun c o hc e=>?_) hf⟩))
  simp only[List.mem_cons,List.not_mem_nil,or_false,not_or] at hc
  exact hk c o hc.1 hc.2.2.1 hc.2.2.2.1 hc.2.2.2.2 e
 self:=fun _ _ _ _ _ st h=>wpAny_pyIter_zip st.2.1 h
end
section
def SrcH (b:Bool) (h:Heap) (l:Addr):Prop:=match b with
 |true=>∃xs,h.IsList l xs
 |false=>∃xs,h.IsTuple l xs
abbrev itO (b:Bool) (l:Addr):Obj:={ cls:=.type (match b with|true => "list_iterator" |false => "tuple_iterator"),data:=.fields #[.ref l, .int 0 0] }
abbrev zq2 (h:Heap) (o1 o2:Obj):Heap:=(h.push o1).push o2
abbrev zq3 (h:Heap) (o1 o2:Obj):Heap:=(zq2 h o1 o2).push { cls:=.type "tuple", data:=.seq #[.ref h.objs.size, .ref (h.push o1).objs.size] }
abbrev zq4 (h:Heap) (o1 o2:Obj):Heap:=(zq3 h o1 o2).push { cls:=.type "tuple", data:=.seq #[.none, .none] }
abbrev zq5 (h:Heap) (o1 o2:Obj):Heap:=(zq4 h o1 o2).push { cls:=.type "zip", data:=.fields #[.none, .bool false, .bool false, .ref (zq2 h o1 o2).objs.size, .ref (zq3 h o1 o2).objs.size] }
theorem jW (b1 b2:Bool) (l1 l2:Addr):Meets (Builtin.«zip.__new__» ⟨[.type "zip", .ref l1, .ref l2], []⟩) (fun _ R s=>SrcH b1 s.heap l1/\SrcH b2 s.heap l2/\R (.ok (.ret (.ref (zq4 s.heap (itO b1 l1) (itO b2 l2)).objs.size))) { s with heap:=zq5 s.heap (itO b1 l1) (itO b2 l2) }) :=
 .of_wp fun prog w A R s h=>by
  obtain⟨hp,g,d,tk,os⟩:=s
  obtain⟨m1,m2,h⟩:=h
  have hsub:=sub_zip
  cases b1<;>cases b2<;>obtain⟨xs,e1⟩:=m1<;>obtain⟨ys,e2⟩:=m2
  ·have u1:Heap.IsTuple (Shared.heap ⟨hp,g,d,tk,os⟩) l1 xs:=e1
   have u2:Heap.IsTuple (Shared.heap ⟨hp.push { cls:=.type "tuple_iterator", data:=.fields #[.ref l1, .int 0 0] },g,d,tk,os⟩) l2 ys:=e2.push _
   wp_walk using wpAny_pyIter_tuple u1,wpAny_pyIter_tuple u2
   exact⟨_,rfl,h⟩
  ·have u1:Heap.IsTuple (Shared.heap ⟨hp,g,d,tk,os⟩) l1 xs:=e1
   have u2:Heap.IsList (Shared.heap ⟨hp.push { cls:=.type "tuple_iterator", data:=.fields #[.ref l1, .int 0 0] },g,d,tk,os⟩) l2 ys:=Heap.IsList.push e2 _
   wp_walk using wpAny_pyIter_tuple u1,wpAny_pyIter_list u2
   exact⟨_,rfl,h⟩
  ·have u1:Heap.IsList (Shared.heap ⟨hp,g,d,tk,os⟩) l1 xs:=e1
   have u2:Heap.IsTuple (Shared.heap ⟨hp.push { cls:=.type "list_iterator", data:=.fields #[.ref l1, .int 0 0] },g,d,tk,os⟩) l2 ys:=e2.push _
   wp_walk using wpAny_pyIter_list u1,wpAny_pyIter_tuple u2
   exact⟨_,rfl,h⟩
  ·have u1:Heap.IsList (Shared.heap ⟨hp,g,d,tk,os⟩) l1 xs:=e1
   have u2:Heap.IsList (Shared.heap ⟨hp.push { cls:=.type "list_iterator", data:=.fields #[.ref l1, .int 0 0] },g,d,tk,os⟩) l2 ys:=Heap.IsList.push e2 _
   wp_walk using wpAny_pyIter_list u1,wpAny_pyIter_list u2
   exact⟨_,rfl,h⟩
theorem Q2 {P:Program} {w:World} {A:Around} {E:Value->Shared->Prop} {s:Shared} {o1 o2:Obj} {v1 v2:Value} {R:Value->Shared->Prop} {Pre:Heap->Prop} (f1:o1.isFreed=false) (f2:o2.isFreed=false) (mt:Meets (Builtin.«zip.__new__» ⟨[.type "zip", v1,v2], []⟩) (fun _ R s=>Pre s.heap/\R (.ok (.ret (.ref (zq4 s.heap o1 o2).objs.size))) { s with heap:=zq5 s.heap o1 o2 })) (m:Pre s.heap)
  (q:∀h',IsZip h' (s.heap.objs.size+4) (s.heap.objs.size+2) (s.heap.objs.size+3) .none->IsPair h' (s.heap.objs.size+2) (.ref s.heap.objs.size) (.ref (s.heap.objs.size+1))->IsPair h' (s.heap.objs.size+3) .none .none->h'.get? s.heap.objs.size=some o1->h'.get? (s.heap.objs.size+1)=some o2 ->
   (∀c o,s.heap.get? c=some o->h'.get? c=some o)->R (.ref (s.heap.objs.size+4)) { s with heap:=h' }):wpAny (model P w) A (call (.type "zip") [v1,v2]) R E s:=by
 refine callType_new F.called_zip (by decide) (F.typeCall_zip_2 _ _) (F.newCall_zip_2 _ _) (fun obj=>F.args_object_init_3 obj _ _) F.entry_zip_new mt ⟨m, ?_⟩
 have e1:(s.heap.push o1).objs.size=s.heap.objs.size+1:=Heap.size_push ..
 have e2:(zq2 s.heap o1 o2).objs.size=s.heap.objs.size+2:=by rw[Heap.size_push,e1]
 have e3:(zq3 s.heap o1 o2).objs.size=s.heap.objs.size+3:=by rw[Heap.size_push,e2]
 have e4:(zq4 s.heap o1 o2).objs.size=s.heap.objs.size+4:=by rw[Heap.size_push,e3]
 have ps:∀{h:Heap} {a:Addr} {o o':Obj},h.get? a=some o->(h.push o').get? a=some o:=fun e=>Heap.get?_push_of_some _ e
 have g5:(zq5 s.heap o1 o2).get? (zq4 s.heap o1 o2).objs.size=some _:=Heap.get?_push_size _ rfl
 have g4:(zq5 s.heap o1 o2).get? (zq3 s.heap o1 o2).objs.size=some _:=ps (Heap.get?_push_size _ rfl)
 have g3:(zq5 s.heap o1 o2).get? (zq2 s.heap o1 o2).objs.size=some _:=ps (ps (Heap.get?_push_size _ rfl))
 have g2:(zq5 s.heap o1 o2).get? (s.heap.push o1).objs.size=some o2:=ps (ps (ps (Heap.get?_push_size _ f2)))
 have g1:(zq5 s.heap o1 o2).get? s.heap.objs.size=some o1:=ps (ps (ps (ps (Heap.get?_push_size _ f1))))
 show _/\_
 rw[e2,e3,e4] at g5
 rw[e1,e2] at g3
 rw[e3] at g4
 rw[e1] at g2
 rw[e4]
 exact⟨⟨_,g5,rfl⟩,q _ g5 g3 g4 g1 g2 fun c o x=>ps (ps (ps (ps (ps x))))⟩
end
section
variable {X:Cx}
def ZipStep (K:PySem.W.Frag) (b1 b2:Bool) (vs:List V) (H:Hp) (R:It->Hp->Prop):Prop:=∃a1 a2 xs ys,vs=[.ref a1, .ref a2]/\SqB b1 K H a1 xs/\SqB b2 K H a2 ys/\R (Itz K b1 b2 a1 a2) H
def iZip (K:PySem.W.Frag) (b1 b2:Bool) (ta:TA):TI:=fun σ H R=>ta σ H fun vs H1=>ZipStep K b1 b2 vs H1 R
theorem src_h {pins:List (Addr×Obj)} {σ:St} {H:Hp} {s:Shared} {b:Bool} {a:Addr} {xs:List V} (I:Inv X pins σ H s) (hq:SqB b X.K H a xs):SrcH b s.heap a/\a<s.heap.objs.size:=by
 cases b
 ·obtain⟨its,rv,p,_⟩:=I.tuple hq
  obtain⟨o,e,_⟩:=id p
  exact⟨⟨_,p⟩,Heap.lt_size e⟩
 ·obtain⟨its,rv,p,_⟩:=I.list hq
  obtain⟨o,e,_⟩:=id p.isList
  exact⟨⟨_,p.isList⟩,Heap.lt_size e⟩
theorem it_O {b:Bool} {h:Heap} {it l:Addr} (g:h.get? it=some (itO b l)):ItB b h it l 0:=by
 cases b<;>exact⟨_,g,rfl,rfl⟩
theorem apart5 {n a1 a2:Nat} (l1:a1<n) (l2:a2<n):ZA5 (n+4) (n+2) (n+3) n (n+1) [n,a1] [n+1,a2]:=by
 have hm:∀{x y z:Nat},x≠y->x≠z->x∉[y,z]:=fun h1 h2 h=>by simp at h; omega
 refine⟨?_,⟨hm ?_ ?_,hm ?_ ?_,hm ?_ ?_⟩,⟨hm ?_ ?_,hm ?_ ?_,hm ?_ ?_⟩⟩
 ·show(n+2:Nat)≠n+4/\(n+3:Nat)≠n+4/\(n:Nat)≠n+4/\(n+1:Nat)≠n+4/\(n+2:Nat)≠n+3/\(n+2:Nat)≠n/\(n+2:Nat)≠n+1/\(n+3:Nat)≠n/\(n+3:Nat)≠n+1/\(n:Nat)≠n+1
  omega
 all_goals omega
theorem pi_zip {K:PySem.W.Frag} {b1 b2:Bool} {elts:List Expr} {kk:_} {tpos:Pos} {a b:Expr} {ta:TA} {p pos:Pos} (hK:X.K=K) (hg:Gl X "zip") (hm:X.mg "zip" = none) (ha:PA X [a,b] ta) (hs:starEach [a,b] X.env=[(false,eval a X.env),(false,eval b X.env)]:=by rfl) (hs2:starEach [b] X.env=[(false,eval b X.env)]:=by rfl):PI X (.Tuple elts kk tpos) (.Call (.Name "zip" p) [a,b] [] pos) (iZip K b1 b2 ta):=by
 subst hK
 intro pins s σ H R I h
 refine Call_ (zW I hg hm boot_zip (PyProof.Rows.callWith_type1 (thn (ha pos pins s σ H _ I h) fun us s1 ⟨vs,H1,I1,r1,q1⟩=>?_) (by rw[hs,hs2]) (by rw[hs2]; rfl)))
 obtain⟨a1,a2,xs,ys,e,q1,q2,q⟩:=q1
 subst e
 cases r1 with
 |cons r rr =>
 cases rr with
 |cons r' rr =>
 cases rr
 cases r
 cases r'
 obtain⟨m1,l1⟩:=src_h I1 q1
 obtain⟨m2,l2⟩:=src_h I1 q2
 refine Q2 (Pre:=fun h=>SrcH b1 h a1/\SrcH b2 h a2) (o1:=itO b1 a1) (o2:=itO b2 a2) rfl rfl (by simpa only[and_assoc] using jW b1 b2 a1 a2) ⟨m1,m2⟩ fun h' hz hI hO t1 t2 kp=>wpAny_pyIter_zip hz ?_
 have ne:∀{c:Addr} {j:Nat},c<s1.heap.objs.size->c≠s1.heap.objs.size+j:=fun h=>Nat.ne_of_lt (Nat.lt_of_lt_of_le h (Nat.le_add_right _ _))
 have n0:∀{c:Addr},c<s1.heap.objs.size->c≠s1.heap.objs.size:=fun h=>Nat.ne_of_lt h
 have D:ZA5 (s1.heap.objs.size+4) (s1.heap.objs.size+2) (s1.heap.objs.size+3) s1.heap.objs.size (s1.heap.objs.size+1) [s1.heap.objs.size,a1] [s1.heap.objs.size+1,a2]:=apart5 l1 l2
 refine⟨s1.heap.objs.size+4, [s1.heap.objs.size+4,s1.heap.objs.size+2,s1.heap.objs.size+3,s1.heap.objs.size,s1.heap.objs.size+1],_,_,H1,rfl,I1.kept (t':=s1.toks) kp,turn_zip _ _ _ _ _ (sx_B (n0 l1)) (sx_B (ne l2)),⟨D,hz,hI,⟨_,_,hO⟩,it_O t1,it_O t2⟩,fun bb hb=>?_,q⟩
 have hb':s1.heap.objs.size<=bb:=by
  simp only[List.mem_cons,List.not_mem_nil,or_false] at hb
  rcases hb with rfl|rfl|rfl|rfl|rfl
  ·exact Nat.le_add_right _ _
  ·exact Nat.le_add_right _ _
  ·exact Nat.le_add_right _ _
  ·exact Nat.le_refl _
  ·exact Nat.le_add_right _ _
 exact I1.fpOk hb' (I1.hok.fresh hb')
theorem qi_zip {K:PySem.W.Frag} {b1 b2:Bool} {elts:List Expr} {kk:_} {tpos:Pos} {a b:Expr} {ta:TA} {p pos:Pos} (hK:X.K=K) (hg:Gl X "zip") (hm:X.mg "zip" = none) (ha:QA X [a,b] ta) (hs:starEach [a,b] X.env=[(false,eval a X.env),(false,eval b X.env)]:=by rfl) (hs2:starEach [b] X.env=[(false,eval b X.env)]:=by rfl):QI X (.Tuple elts kk tpos) (.Call (.Name "zip" p) [a,b] [] pos) (iZip K b1 b2 ta):=⟨pi_zip hK hg hm ha.h hs hs2⟩
end
section
variable {P:Program} {w:World} {A:Around} {E:Value->Shared->Prop} {s:Shared} {κ:Type} [DecidableEq κ]
def TextT (P:Program) (w:World) (t:Sem Value) (x:Str):Prop:=∀(A:Around) (E:Value->Shared->Prop) (s:Shared) (Q:Value->Shared->Prop),(∀tk t',Q (.str x t') { s with toks:=tk })->wpAny (model P w) A t Q E s
inductive TextPs (P:Program) (w:World):List (Sem Value×Sem Value)->List (Str×Str)->Prop
 |nil:TextPs P w [] []
 |cons {k v:Sem Value} {x y:Str} {ps:List (Sem Value×Sem Value)} {zs:List (Str×Str)} (hk:TextT P w k x) (hv:TextT P w v y) (r:TextPs P w ps zs):TextPs P w ((k,v)::ps) ((x,y)::zs)
theorem TextPs.len {ps:List (Sem Value×Sem Value)} {zs:List (Str×Str)} (h:TextPs P w ps zs):ps.length=zs.length:=by
 induction h with
 |nil=>rfl
 |cons _ _ _ ih=>rw[List.length_cons,List.length_cons,ih]
inductive TextV:List (Key×Value)->List (Str×Str)->Prop
 |nil:TextV [] []
 |cons {x y:Str} {t:Tok} {l:List (Key×Value)} {zs:List (Str×Str)} (r:TextV l zs):TextV ((.inr x, .str y t)::l) ((x,y)::zs)
theorem TextV.keys {l:List (Key×Value)} {zs:List (Str×Str)} (h:TextV l zs):l.map (·.1)=zs.map fun z=>Key.inr z.1:=by
 induction h with
 |nil=>rfl
 |cons _ ih=>rw[List.map_cons,List.map_cons,ih]
theorem TextV.len {l:List (Key×Value)} {zs:List (Str×Str)} (h:TextV l zs):l.length=zs.length:=by
 have:=congrArg List.length h.keys
 simpa using this
end
section
inductive ConstPs:List (Option Expr)->List Expr->List (Str×Str)->Prop
 |nil:ConstPs [] [] []
 |cons {x y:Str} {j j':Nat} {p p':Pos} {ks:List (Option Expr)} {vs:List Expr} {zs:List (Str×Str)} (r:ConstPs ks vs zs):ConstPs (some (.Constant (.str x) j p)::ks) (.Constant (.str y) j' p'::vs) ((x,y)::zs)
theorem ConstPs.all {ks:List (Option Expr)} {vs:List Expr} {zs:List (Str×Str)} (h:ConstPs ks vs zs):ks.all (·.isSome)=true/\ks.length=vs.length:=by
 induction h with
 |nil=>exact⟨rfl,rfl⟩
 |cons _ ih=>exact⟨by rw[List.all_cons,ih.1]; rfl,by rw[List.length_cons,List.length_cons,ih.2]⟩
theorem TextV.kv {l:List (Key×Value)} {zs:List (Str×Str)} (h:TextV l zs):KV (zs.map fun z=>((.inr z.1:Key),V.str z.2)) l:=by
 induction h with
 |nil=>exact .nil
 |cons _ ih=>exact .cons ⟨rfl,_,rfl⟩ ih
end
def uLenT (ua:UE):UE:=fun ρ M Q=>ua ρ M fun x M1=>∃ts,x=.p (.tup ts)/\Q (.p (.int ts.length)) M1
theorem ce_lenT {K:PySem.W.Frag} {ta:TE} {ua:UE} (ha:ZE ta ua):ZE (tCB (rLenA K) (vm ta tNil)) (uLenT ua):=⟨fun A ι σ H ρ M Qu Q w e q k =>
 ha.h A ι σ H ρ M _ _ w e q fun x M1 ι1 v H1 l1 w1 r1 ⟨ts,ex,q1⟩=>by
  subst ex
  cases r1 with
  |p r =>
  obtain⟨p,vs,rfl,_,h1,g1⟩:=r.tup_inv
  refine⟨p,vs,rfl, .inr (SqT.of h1), ?_⟩
  rw[g1.len]
  exact k _ M1 ι1 _ H1 l1 w1 (.p (.int _)) q1⟩
section
variable {X:Cx} {K:PySem.W.Frag}
def rMinL (K:PySem.W.Frag):List V->Hp->VK->Prop:=fun xs H Q=>∃(l:Addr) (ns:List Int),xs=[.ref l]/\SqL K H l (ns.map V.int)/\0<ns.length/\∀M,M∈ns->(∀a∈ns,M<=a)->Q (.int M) H
theorem Jl (hK:X.K=K) (hc:X.calm=true):vP X (.builtin "min") (rMinL K):=by
 subst hK
 intro pins s σ H xs us Q I r h
 obtain⟨l,ns,rfl,hl,h0,q⟩:=h
 obtain⟨u,rfl,rx⟩:=jj r
 cases rx
 obtain⟨its,r',pl,hz⟩:=I.list hl
 obtain⟨m,F,W,fin⟩:=I.ledger
 exact min_list_N (I.ok.hd hc) F W pl.isList (je r') h0 fun h' M t tk F' W' hM hall=>⟨.int M,H,fin h' tk F' W',⟨_,rfl⟩,q M hM hall⟩
def rSumL (K:PySem.W.Frag):List V->Hp->VK->Prop:=fun xs H Q=>∃(l:Addr) (ns:List Int),xs=[.ref l]/\SqL K H l (ns.map V.int)/\Q (.int ns.sum) H
theorem Jk (hK:X.K=K) (hc:X.calm=true):vP X (.builtin "sum") (rSumL K):=by
 subst hK
 intro pins s σ H xs us Q I r h
 obtain⟨l,ns,rfl,hl,q⟩:=h
 obtain⟨u,rfl,rx⟩:=jj r
 cases rx
 obtain⟨its,r',pl,hz⟩:=I.list hl
 have hi:=je r'
 obtain⟨xs,e⟩:=hi.allInts.items
 have hns:ns=xs.toList.map (·.1):=by rw[<-hi.numsOf, <-nums_intItems, <-e]
 have hl2:=pl.isList
 rw[e] at hl2
 refine sum_intListG (I.ok.hd hc) hl2 fun h' tk t' hk=>⟨.int ns.sum,H,I.kept (t':=tk) hk,⟨t', ?_⟩,q⟩
 rw[preSum_eq,List.take_of_length_le (by simp),hns]
end
section
variable {K:PySem.W.Frag}
theorem ints_inv:∀{ss:List Int} {A:Addr->Prop} {H:Hp} {vs:List V},RepTs A H vs (ss.map T.int)->vs=ss.map V.int
 | [],_,_,_, .nil=>rfl
 |s::ss,_,_,_, .cons r q=>by cases r; rw[ints_inv q]; rfl
def sMinL:List T->(T->Prop)->Prop:=fun ts Q=>∃ss:List Int,ts=[.lst (ss.map T.int)]/\0<ss.length/\∀M,M∈ss->(∀a∈ss,M<=a)->Q (.int M)
theorem cbl_minL:CbL (rMinL K) sMinL:=fun A ι H M vs ts Qs Q w r ⟨ss,e,h0,q⟩ k=>by
 subst e
 obtain⟨v,ev,r1⟩:=pv1 r
 subst ev
 obtain⟨p,zs,rfl,h1,h2⟩:=r1.lst_inv
 cases ints_inv h2
 exact⟨p,ss,rfl,SqL.of h1,h0,fun M a b=>k _ ι _ _ (.refl _ _) w (.int M) (q M a b)⟩
def sSumL:List T->(T->Prop)->Prop:=fun ts Q=>∃ss:List Int,ts=[.lst (ss.map T.int)]/\Q (.int ss.sum)
theorem cbl_sumL:CbL (rSumL K) sSumL:=fun A ι H M vs ts Qs Q w r ⟨ss,e,q⟩ k=>by
 subst e
 obtain⟨v,ev,r1⟩:=pv1 r
 subst ev
 obtain⟨p,zs,rfl,h1,h2⟩:=r1.lst_inv
 cases ints_inv h2
 exact⟨p,ss,rfl,SqL.of h1,k _ ι _ _ (.refl _ _) w (.int _) q⟩
end
end L2
namespace L2
open PySem PySem.Spec PyProof.Rows PySem.W
section
variable {X:Cx} {K:PySem.W.Frag} {n:Nat}
def lex2 (a b:Int×Int):Bool:=decide (a.1<b.1)||(a.1==b.1&&decide (a.2<b.2))
theorem two_lt {prog:Program} {w:World} {A:Around} {E:Value->Shared->Prop} {s:Shared} {x y:Addr} {a b c d:Int} {t1 t2 t3 t4:Tok} {Q:Bool->Shared->Prop} (hx:IsTup s.heap x #[.int a t1, .int b t2]) (hy:IsTup s.heap y #[.int c t3, .int d t4]) (h:Q (lex2 (a,b) (c,d)) s) :
  wpAny (model prog w) A (keyLt' (tuples' true) (.ref x) (.ref y)) Q E s:=by
 obtain⟨o,ho,hc,n,hd⟩:=hx
 obtain⟨o',ho',hc',n',hd'⟩:=hy
 refine kat_lt ho hd ho' hd' (kat_cons (wpAny_eqBool_int ?_))
 by_cases e:a=c
 ·subst e
  rw[beq_self_eq_true]
  refine kat_yes (kat_cons (wpAny_eqBool_int ?_))
  by_cases e2:b=d
  ·subst e2
   rw[beq_self_eq_true]
   refine kat_yes (kat_nil ?_)
   simpa[lex2] using h
  ·rw[beq_false_of_ne e2]
   refine kat_no (kat_one _ _ (lt_int ?_))
   show Q _ s
   simpa[lex2] using h
 ·rw[beq_false_of_ne e]
  refine kat_no ?_
  refine oneLt_int ?_
  have:lex2 (a,b) (c,d)=decide (a<c):=by unfold lex2; rw[show((a,b):Int×Int).1=a from rfl,show((c,d):Int×Int).1=c from rfl,beq_false_of_ne e]; simp
  rw[<-this]; exact h
theorem kas2:kas_sort 2=.ask 1 0 fun b=>.ret (if b=true then #[1,0] else #[0,1]):=by
 have h:∀k k':Bool->KasT (Array Nat),(∀b,k b=k' b)->KasT.ask 1 0 k=.ask 1 0 k':=fun k k' e=>by rw[funext e]
 refine h _ _ fun b=>?_
 cases b<;>rfl
theorem VO {prog:Program} {w:World} {A:Around} {E:Value->Shared->Prop} {s:Shared} {h₀:Heap} {L:Addr} {m:Str->Option Value} {news:List (Addr×Obj)} {l x y:Addr} {a b c d:Int} {t1 t2 t3 t4:Tok} {Q:Value->Shared->Prop}
  (F:Fr h₀ L s.heap m) (N:News h₀ L s.heap news) (hl:s.heap.IsList l #[.ref x, .ref y]) (hx:∀h',News h₀ L h' news->IsTup h' x #[.int a t1, .int b t2]) (hy:∀h',News h₀ L h' news->IsTup h' y #[.int c t3, .int d t4])
  (h:∀(D:Addr) (e:Nat) (h':Heap),Fr h₀ L h' m->News h₀ L h' news->(∀q∈news,q.1<D)->D≠L->h'.get? D=some (seqObj "list" (if lex2 (c,d) (a,b) then #[.ref y, .ref x] else #[.ref x, .ref y]) e)->Q (.ref D) { s with heap:=h' }) :
  wpAny (model prog w) A (call (.builtin "sorted") [.ref l]) Q E s:=by
 refine kat_sorted (vs:=[.ref x, .ref y]) F N hl (by simp) (by simp) fun D e1 h' F' N' lt=>?_
 have N0:News h₀ L h' news:=fun p hp=>N' p (.tail _ hp)
 have hx':=hx h' N0
 have hy':=hy h' N0
 have kt:KatTups h' [.ref x, .ref y] [.int a t1, .int c t3]:=by
  obtain⟨o,ho,hc,n,hd⟩:=hx'
  obtain⟨o',ho',hc',n',hd'⟩:=hy'
  exact .cons ho hc hd rfl (.cons ho' hc' hd' rfl .nil)
 refine kat_kind (T:=.type "int") kt (by simp) (fun v hv=>?_) rfl ?_
 ·rcases List.mem_cons.mp hv with rfl|hv
  ·exact .now
  ·rcases List.mem_cons.mp hv with rfl|hv
   ·exact .now
   ·cases hv
 ·rw[show kas_sort ([.ref x, .ref y]:List Value).length=kas_sort 2 from rfl,kas2]
  show kas_ask prog w A.in1.in1 _ _ 1 0 _ _
  refine two_lt (s:={ s with heap:=h' }) hy' hx' ?_
  have fin:∀(out:List Value),(∀(c':Nat) (h2:Heap),Fr h₀ L h2 m->News h₀ L h2 news->h2.get? D=some (seqObj "list" out.toArray c')->Q (.ref D) { s with heap:=h2 })->KasFin h₀ L m D e1 out (fun s3=>Q (.ref D) s3) { s with heap:=h' }:=fun out k =>
   ⟨_,_,F',N', .head fun p hp=>Nat.ne_of_lt (lt p hp),fun h2 c' F2 N2=>k c' h2 F2 (fun p hp=>N2 p (.tail _ hp)) (N2 (D,_) (.head _)).1⟩
  cases q:lex2 (c,d) (a,b) with
  |true =>
   refine fin [.ref y, .ref x] fun c' h2 F2 N2 e=>h D c' h2 F2 N2 lt (N' (D,_) (.head _)).2.1 ?_
   rw[q]; exact e
  |false =>
   refine fin [.ref x, .ref y] fun c' h2 F2 N2 e=>h D c' h2 F2 N2 lt (N' (D,_) (.head _)).2.1 ?_
   rw[q]; exact e
theorem ObjOk.there {P:Program} {w:World} {H:Hp} {h:Heap} {a:Addr} {o:HO} (x:ObjOk P w H h a o):∃u,h.get? a=some u:=by
 cases o with
 |lst xs=>obtain⟨_,_,_,_,e⟩:=x; exact⟨_,e⟩
 |tup xs=>obtain⟨_,_,_,o,e,_⟩:=x; exact⟨_,e⟩
 |dK kvs=>obtain⟨_,_,_,_,o,_,_,e,_⟩:=x; exact⟨_,e⟩
 |dT kvs=>obtain⟨_,_,_,_,o,_,_,e,_⟩:=x; exact⟨_,e⟩
 |set S n=>obtain⟨o,_,_,_,e,_⟩:=x; exact⟨_,e⟩
 |ins C dx fs=>obtain⟨_,_,_,e,_⟩:=x; exact⟨_,e⟩
 |own y=>obtain⟨_,e⟩:=x; exact⟨_,e⟩
 |xd fs=>obtain⟨_,⟨_,_,_,e,_⟩,_⟩:=x; exact⟨_,e⟩
 |rng lo hi=>obtain⟨_,_,_,e⟩:=x; exact⟨_,e⟩
 |frz ob u=>obtain⟨e,_⟩:=x; exact⟨_,e⟩
 |tbl ps=>exact⟨_,x⟩
 |met f y=>exact⟨_,x⟩
 |ext φ=>obtain⟨_,⟨_,e⟩,_⟩:=x; exact⟨_,e⟩
theorem Inv.ledgerG {X:Cx} {pins:List (Addr×Obj)} {σ:St} {H:Hp} {s:Shared} (I:Inv X pins σ H s):∃m,Fr h00 X.env.locals s.heap m/\News h00 X.env.locals s.heap (vQ s.heap X.env.locals) /\
  ∀(h':Heap) (tk:Nat) (D:Addr) (o:HO),Fr h00 X.env.locals h' m->News h00 X.env.locals h' (vQ s.heap X.env.locals)->s.heap.get? D=none->ObjOk X.prog X.w (upd H D o) h' D o->H D=none/\Inv X pins σ (upd H D o) { s with heap:=h',toks:=tk }:=by
 obtain⟨m,hn,_⟩:=I.loc
 refine⟨m,⟨hn,fun b o e=>(by rw[zB] at e; cases e),Nat.zero_le _⟩,jB,fun h' tk D o F W hD new=>?_⟩
 have hf:H D=none:=by
  cases z:H D with
  |none=>rfl
  |some q =>
   obtain⟨o',ho⟩:=(I.hok D q z).there
   rw[hD] at ho
   cases ho
 have na:∀b u,s.heap.get? b=some u->b≠D:=fun b u q z=>by
  rw[z,hD] at q; cases q
 have kp:∀b o,b≠X.env.locals->s.heap.get? b=some o->h'.get? b=some o:=fun b o n e=>(W _ (vD e n)).1
 refine⟨hf,I.step (ch:=[]) (fun b hb=>nomatch hb) (fun b o n _ _ e _=>kp b o n e) (fun b o n _ _ e _=>⟨o.slots,kp b o n e⟩) (fun b u _ q z=>by rw[upd_ne (na b u q)]; exact z) (fun b o _ e=>?_) (fun b xs q=>qH hf q) (fun b _ _ q=>qH hf q) (fun b ps q=>⟨#[],by rw[qH hf q]; simp⟩) (fun m' hm'=>?_) (fun a u e=>?_) I.bare⟩
 ·by_cases n:b=X.env.locals
  ·subst n
   obtain⟨o',_,_,e',_⟩:=F.ns
   exact⟨o',e'⟩
  ·exact⟨o,kp b o n e⟩
 ·have:m'=m:=funext fun x=>by
   obtain⟨o,es,ep,e1,e2,e3,e4⟩:=hm'
   obtain⟨o',es',ep',f1,f2,f3,f4⟩:=hn
   rw[e1] at f1; cases f1
   rw[e2] at f2; cases f2
   rw[<-e4, <-f4]
  rw[this]
  exact F.ns
 ·by_cases ha:a=D
  ·subst ha; rw[upd_same] at e; cases e; exact new
  ·rw[upd_ne ha] at e
   refine(I.hok a u e).stay (fun b v hb q=>kp b v ?_ q) (fun _ q=>qH hf q) fun _ _ q=>qH hf q
   intro z
   subst z
   have:=I.free
   rcases hb with hb|hb
   ·subst hb; rw[e] at this; cases this
   ·rw[hb] at this; cases this
def rSort2 (K:PySem.W.Frag):List V->Hp->VK->Prop:=fun xs H Q=>∃(p x y:Addr) (a b:Int×Int),xs=[.ref p]/\SqL K H p [.ref x, .ref y]/\SqT K H x [.int a.1, .int a.2]/\SqT K H y [.int b.1, .int b.2]/\∀l,H l=none->Q (.ref l) (upd H l (.lst (if lex2 b a then[.ref y, .ref x] else[.ref x, .ref y])))
theorem Vk {a b:Int} {its:List Value} (h:Vals [.int a, .int b] its):∃t1 t2,its=[.int a t1, .int b t2]:=by
 cases h with
 |cons r q =>
 cases q with
 |cons r2 q =>
 cases q
 obtain⟨t1,rfl⟩:=r
 obtain⟨t2,rfl⟩:=r2
 exact⟨t1,t2,rfl⟩
theorem Ze (hK:X.K=K):vP X (.builtin "sorted") (rSort2 K):=by
 subst hK
 intro pins s σ H xs us Q I r h
 obtain⟨p,x,y,⟨a,b⟩,⟨c,d⟩,rfl,hq,hx,hy,q⟩:=h
 obtain⟨u,rfl,rx⟩:=jj r
 cases rx
 obtain⟨its,r',pl,hz⟩:=I.list hq
 have hits:its=[.ref x, .ref y]:=by
  cases r' with
  |cons r1 r' =>
  cases r' with
  |cons r2 r' =>
  cases r'
  cases r1
  cases r2
  rfl
 subst hits
 obtain⟨m,F,W,fin⟩:=I.ledgerG
 have tup:∀{x:Addr} {a b:Int},SqT X.K H x [.int a, .int b]->∃t1 t2,∀h',News h00 X.env.locals h' (vQ s.heap X.env.locals)->IsTup h' x #[.int a t1, .int b t2]:=fun {x a b} hx=>by
  obtain⟨is1,r1,p1,_⟩:=I.tuple hx
  obtain⟨t1,t2,rfl⟩:=Vk r1
  refine⟨t1,t2,fun h' W'=>?_⟩
  obtain⟨o,ho,hc,n,hd⟩:=p1
  have nl:x≠X.env.locals:=fun z=>by
   obtain⟨m2,hn,_⟩:=I.loc
   obtain⟨o',es,ep,e1,e2,e3,e4⟩:=hn
   rw[<-z,ho] at e1
   cases e1
   rw[hd] at e2
   cases e2
  exact⟨o,(W' (x,o) (vD ho nl)).1,hc,n,hd⟩
 obtain⟨t1,t2,hx'⟩:=tup hx
 obtain⟨t3,t4,hy'⟩:=tup hy
 refine VO F W pl.isList hx' hy' fun D e h' F' W' lt nL he=>?_
 have hD:s.heap.get? D=none:=by
  cases z:s.heap.get? D with
  |none=>rfl
  |some o=>exact absurd (lt _ (vD z nL)) (Nat.lt_irrefl _)
 have new:ObjOk X.prog X.w (upd H D (.lst (if lex2 (c,d) (a,b) then[.ref y, .ref x] else[.ref x, .ref y]))) h' D (.lst (if lex2 (c,d) (a,b) then[.ref y, .ref x] else[.ref x, .ref y])):=by
  refine⟨?_,if lex2 (c,d) (a,b) then[.ref y, .ref x] else[.ref x, .ref y],e, ?_,he.trans ?_⟩
  ·split<;>simp[sizeLine_eq]
  ·split
   ·exact .cons rfl (.cons rfl .nil)
   ·exact .cons rfl (.cons rfl .nil)
  ·split<;>rfl
 obtain⟨f1,f2⟩:=fin h' s.toks D _ F' W' hD new
 exact⟨.ref D,_,f2,rfl,q D f1⟩
def sSort2:List T->(T->Prop)->Prop:=fun ts Q=>∃a b:Int×Int,ts=[.lst [.tup [.int a.1, .int a.2], .tup [.int b.1, .int b.2]]]/\Q (.lst (if lex2 b a then[.tup [.int b.1, .int b.2], .tup [.int a.1, .int a.2]] else[.tup [.int a.1, .int a.2], .tup [.int b.1, .int b.2]]))
theorem Jj:CbL (rSort2 K) sSort2:=fun A ι H M vs ts Qs Q w r ⟨a,b,e,q⟩ k=>by
 subst e
 obtain⟨v,ev,r1⟩:=pv1 r
 subst ev
 obtain⟨p,zs,rfl,h1,h2⟩:=r1.lst_inv
 have inv:∀{v:V} {a:Int×Int},RepT (Av A ι) H v (.tup [.int a.1, .int a.2])->∃x,v=.ref x/\H x=some (.tup [.int a.1, .int a.2]):=fun r=>by
  obtain⟨x,ys,rfl,_,hx,rx⟩:=r.tup_inv
  cases rx with
  |cons r1 rx =>
  cases rx with
  |cons r2 rx =>
  cases rx
  cases r1
  cases r2
  exact⟨x,rfl,hx⟩
 cases h2 with
 |cons g1 h2 =>
 cases h2 with
 |cons g2 h2 =>
 cases h2
 obtain⟨x,rfl,hx⟩:=inv g1
 obtain⟨y,rfl,hy⟩:=inv g2
 refine⟨p,x,y,a,b,rfl,SqL.of h1,SqT.of hx,SqT.of hy,fun l hl=>k _ ι _ _ (.fresh hl) (w.fresh hl) (vp w hl ?_) q⟩
 split
 ·exact .cons g2 (.cons g1 .nil)
 ·exact .cons g1 (.cons g2 .nil)
end
section
variable {n:Nat} {tl:TA} {ul:UA}
def Fresh2 (M:MM) (t:T):Prop:=(∃x,vt t=some x)\/∃ts:List T,t=.tup ts/\(∀y∈ts,∃x,vt y=some x)/\∀k:Nat,M[k]?≠some (.tup (ts.map U.p))
def Q8 (G:List T->(T->Prop)->Prop) (ul:UA):UE:=fun ρ M Q=>ul ρ M fun us M1=>∃ts,frzs (frzN 6 M1) us=some ts/\G ts fun t=>Fresh2 M1 t/\Q (.p t) M1
theorem Vs {A A':Addr->Prop} {H H':Hp}:∀{ts:List T} {vs:List V},(∀y∈ts,∃x,vt y=some x)->RepTs A H vs ts->RepTs A' H' vs ts
 | [],_,_, .nil=>.nil
 |t::ts,_,h, .cons r q=>by
  obtain⟨x,hx⟩:=h t (.head _)
  cases(RepV.of r).sc (y:=.non) hx
  exact .cons (zQ hx).rep (Vs (fun y hy=>h y (.tail _ hy)) q)
theorem Vt {A:Addr->Prop} {ι:List Addr} {H:Hp}:∀{ts:List T} {us:List U} {vs:List V},(∀y∈ts,∃x,vt y=some x)->RepTs A H vs ts->RepUs A ι H vs us->us=ts.map U.p
 | [],_,_,_, .nil, .nil=>rfl
 |t::ts,_,_,h, .cons r q, .cons ru qu=>by
  obtain⟨x,hx⟩:=h t (.head _)
  cases(RepV.of r).sc (y:=.non) hx
  rw[Vt (fun y hy=>h y (.tail _ hy)) q qu,List.map_cons]
  congr 1
  cases t<;>simp[vt] at hx<;>subst hx<;>(cases ru with|p r=>cases r; rfl)
theorem le_callG {G:List T->(T->Prop)->Prop} {E:XK} (ha:LA n tl ul):LE (vK (spP G) [] E tl) (Q8 G ul):=fun A ι σ H ρ M Qu Q w e q k =>
 ha A ι σ H ρ M _ _ w e q fun us M1 ι1 vs H1 l1 w1 hn r1 ⟨ts,et,q1⟩=>by
  rw[List.append_nil]
  refine⟨A,ts,_,w1.dom,jL r1 (fun v u t r e=>jN w1 r e) et,q1,fun t v H2 s r2 ⟨hx,q2⟩=>k _ M1 ι1 v H2 (l1.trans s.le) (w1.same s) (.p ?_) q2⟩
  rcases hx with⟨x,hx⟩|⟨ts,rfl,hf,hM⟩
  ·cases(RepV.of r2).sc (y:=.non) hx
   exact(zQ hx).rep
  ·obtain⟨p,vs2,rfl,na,hp,rs⟩:=r2.tup_inv
   refine .tupP (fun z=>?_) hp (Vs hf rs)
   rcases z with z|z
   ·exact na z
   ·obtain⟨kk,ek⟩:=List.getElem?_of_mem z
    obtain⟨o,e1,ob⟩:=(w1.same s).al ek
    cases o with
    |lst=>obtain⟨_,e2,_⟩:=ob; rw[hp] at e2; cases e2
    |tup us2 =>
     obtain⟨vs3,e2,ru⟩:=ob
     rw[hp] at e2
     cases e2
     exact hM kk (by rw[e1,Vt hf rs ru])
    |ins=>obtain⟨_,_,e2,_⟩:=ob; rw[hp] at e2; cases e2
    |dK=>obtain⟨_,e2,_⟩:=ob; rw[hp] at e2; cases e2
    |dF=>obtain⟨e2,_⟩:=ob; rw[hp] at e2; cases e2
    |tab=>obtain⟨_,e2,_⟩:=ob; rw[hp] at e2; cases e2
theorem VE {G:List T->(T->Prop)->Prop} {E:XK} (ha:ZA n tl ul):ZE (vK (spP G) [] E tl) (Q8 G ul):=⟨le_callG ha.h⟩
end
section
theorem DGet.f {H:Hp} {a:Addr} {o:Obj} {kvs:List (Key×V)} {k:Key} (e:H a=some (.frz o (.dK kvs))):DGet H a (kV k) (valV kvs k):=.inl ⟨kvs,k, .inr ⟨o,e⟩,rfl,rfl⟩
end
section
variable {ta tb:TE} {ua ub:UE}
def CatN (x y:U) (M:MM) (Q:UK):Prop:=∃us vs,ql M x=some us/\ql M y=some vs/\us.length+vs.length<=sizeLine/\Q (.m M.length) (M++[.lst (us++vs)])
def VL (ua ub:UE):UE:=fun ρ M Q=>ua ρ M fun x M1=>ub ρ M1 fun y M2=>CatN x y M2 Q
theorem ce_catN (ha:ZE ta ua) (hb:ZE tb ub):ZE (tOp rCat ta tb) (VL ua ub):=⟨fun A ι σ H ρ M Qu Q w e q k =>
 ha.h A ι σ H ρ M _ _ w e q fun x M1 ι1 v H1 l1 w1 r1 q1=>hb.h A ι1 σ H1 ρ M1 _ _ w1 (e.le l1) q1 fun y M2 ι2 v2 H2 l2 w2 r2 ⟨us,vs,hx,hy,hz,q2⟩=>by
  obtain⟨p,xs,rfl,h1,h2⟩:=qM w2 (r1.le l2) hx
  obtain⟨p2,ys,rfl,h3,h4⟩:=qM w2 r2 hy
  exact⟨p,p2,xs,ys,rfl,rfl,h1,h3,by rw[h2.len,h4.len]; exact hz,fun l hl=>k _ _ _ _ _ ((l1.trans l2).trans (.push hl)) (vX w2 hl (h2.app h4)).1 (vX w2 hl (h2.app h4)).2 q2⟩⟩
end
section
variable {P:Program} {w:World} {A:Around} {E:Value->Shared->Prop} {s:Shared}
abbrev ji (h:Heap) (z TI TO r:Addr) (b:Bool):Prop:=h.get? z=some { cls:=.type "zip", dict:=none,data:=.fields #[rawInt r, .bool b, .bool false, .ref TI, .ref TO],slots:=#[] }
theorem wp_alive {M:Model} {a:Addr} {o:Obj} {Q:Option Obj->Shared->Prop} (ho:s.heap.get? a=some o) (h:Q (some o) s):wpAny M A (loadIfAlive a) Q E s:=by
 intro Γ p hΓ
 show Sem.wp M _ (.loadIfAlive a _) _ _ _ _
 rw[Sem.wp_loadIfAlive,ho]
 exact h
theorem ku {r z TI TO:Addr} {bb:Bool} {ot:Obj} {Q:Bool->Shared->Prop} (hz:ji s.heap z TI TO r bb) (hr:s.heap.get? r=some ot)
  (q:∀h0,ji h0 z TI TO r true->Heap.SameBut z s.heap h0->Q false { s with heap:=h0 }):wpAny (model P w) A (Builtin.SmallTypes.ownedTupleIsFree (.ref z)) Q E s:=by
 unfold Builtin.SmallTypes.ownedTupleIsFree
 refine wpAny_bind (wpAny_field hz rfl (x:=rawInt r) rfl ?_)
 refine(show wpAny (model P w) A (loadIfAlive r >>= _) Q E s from wpAny_bind (wp_alive hr ?_))
 simp only[Option.isNone_some,Bool.false_eq_true,if_false]
 refine wpAny_bind (wpAny_field hz rfl (x:=.bool bb) rfl ?_)
 cases bb
 ·rw[if_pos (by decide)]
  exact wpAny_bind (wpAny_setField_rec hz (by simp) fun g1 z1 s1=>wpAny_pure (q g1 z1 s1))
 ·rw[if_neg (by decide)]
  exact wpAny_pure (q s.heap hz ⟨rfl,fun _ _=>rfl⟩)
theorem zip_it2 {r z TI TO i1 i2:Addr} {bb:Bool} {ot:Obj} {rd1 rd2:List Addr} {st1 st2:Nat->Heap->Prop} {n1 n2:Nat} {yl1 yl2:Nat->Value->Prop} {k:Nat} {Q:Value->Shared->Prop} (D:ZA5 z TI TO i1 i2 rd1 rd2) (N1:Nx P w i1 rd1 st1 n1 yl1) (N2:Nx P w i2 rd2 st2 n2 yl2)
  (hz:ji s.heap z TI TO r bb) (hr:s.heap.get? r=some ot) (hI:IsPair s.heap TI (.ref i1) (.ref i2)) (h1:st1 k s.heap) (h2:st2 k s.heap) (hx:k<n1) (hy:k<n2)
  (q:∀h' x y tk,yl1 k x->yl2 k y->ji h' z TI TO r true->st1 (k+1) h'->st2 (k+1) h'->IsPair h' s.heap.objs.size x y->(∀c o,c≠z->c≠i1->c≠i2->s.heap.get? c=some o->h'.get? c=some o)->Q (.ref s.heap.objs.size) { s with heap:=h',toks:=tk }) :
  wpAny (model P w) A (Builtin.«zip.__next__» ⟨[.ref z], []⟩) (fun fin s'=>∃v,fin=.done (.ret v)/\Q v s') E s:=by
 obtain⟨d1,d2,d3,d4,d5,d6,d7,d8,d9,d10⟩:=D.a
 have nr1:∀{c},c∈rd1->c≠z/\c≠TO/\c≠i2:=fun hc=>⟨fun e=>D.r1.1 (e▸hc),fun e=>D.r1.2.1 (e▸hc),fun e=>D.r1.2.2 (e▸hc)⟩
 have nr2:∀{c},c∈rd2->c≠z/\c≠TO/\c≠i1:=fun hc=>⟨fun e=>D.r2.1 (e▸hc),fun e=>D.r2.2.1 (e▸hc),fun e=>D.r2.2.2 (e▸hc)⟩
 refine(show wpAny (model P w) A (field (.ref z) 2 >>= _) _ E s from wpAny_bind (wpAny_field hz rfl (x:=.bool false) rfl ?_))
 refine(show wpAny (model P w) A (field (.ref z) 3 >>= _) _ E s from wpAny_bind (wpAny_field hz rfl (x:=.ref TI) rfl (wpAny_bind (wpAny_seqItems hI rfl ?_))))
 refine(show wpAny (model P w) A (Builtin.SmallTypes.ownedTupleIsFree (.ref z) >>= _) _ E s from wpAny_bind (ku hz hr fun g1 z1 s1=>?_))
 simp only[Bool.false_eq_true,if_false]
 refine wpAny_bind ?_
 rw[<-Array.forIn_toList]
 simp only[List.forIn_cons,List.forIn_nil]
 refine wpAny_bind (wpAny_bind (wpAny_holding ?_))
 refine(show wpAny (model P w) A (Builtin.SmallTypes.nextOf (.ref i1) >>= _) _ _ _ from wpAny_bind (N1.item _ _ _ k _ (N1.keep _ _ _ h1 fun c hc o e=>s1.extBut _ _ (nr1 hc).1 e) hx fun g2 x tk1 yx t1 s2=>wpAny_pure ?_))
 refine wpAny_pure (wpAny_bind (wpAny_bind (wpAny_holding ?_)))
 refine(show wpAny (model P w) A (Builtin.SmallTypes.nextOf (.ref i2) >>= _) _ _ _ from wpAny_bind (N2.item _ _ _ k _ (N2.keep _ _ _ h2 fun c hc o e=>s2.extBut _ _ (nr2 hc).2.2 (s1.extBut _ _ (nr2 hc).1 e)) hy fun g4 y tk2 yy t2 s4=>wpAny_pure ?_))
 refine wpAny_pure (wpAny_pure (wpAny_bind (wpAny_newTuple ?_ (by show 2<=sizeLine; decide))))
 have sz:g4.objs.size=s.heap.objs.size:=by rw[s4.1,s2.1,s1.1]
 refine wpAny_pure ⟨_,rfl, ?_⟩
 show Q (.ref g4.objs.size) _
 rw[sz]
 refine q _ x y tk2 yx yy ?_ ?_ ?_ ?_ ?_
 ·exact Heap.get?_push_of_some _ (s4.extBut _ _ d4.symm (s2.extBut _ _ d3.symm z1))
 ·exact N1.keep _ _ _ t1 fun c hc o e=>Heap.get?_push_of_some _ (s4.extBut _ _ (nr1 hc).2.2 e)
 ·exact N2.keep _ _ _ t2 fun c hc o e=>Heap.get?_push_of_some _ e
 ·rw[<-sz]; exact Heap.get?_push_size _ rfl
 ·exact fun c o c1 c3 c4 e=>Heap.get?_push_of_some _ (s4.extBut _ _ c4 (s2.extBut _ _ c3 (s1.extBut _ _ c1 e)))
theorem zip_fin2 {r z TI TO i1 i2:Addr} {bb:Bool} {ot:Obj} {rd1 rd2:List Addr} {st1 st2:Nat->Heap->Prop} {n1 n2:Nat} {yl1 yl2:Nat->Value->Prop} {k:Nat} {Q:PySem.Fin->Shared->Prop} (hh:A.handled=none) (D:ZA5 z TI TO i1 i2 rd1 rd2) (N1:Nx P w i1 rd1 st1 n1 yl1) (N2:Nx P w i2 rd2 st2 n2 yl2)
  (hz:ji s.heap z TI TO r bb) (hr:s.heap.get? r=some ot) (hI:IsPair s.heap TI (.ref i1) (.ref i2)) (h1:st1 k s.heap) (he:n1<=k)
  (q:∀h' e tk,(∀c o,c≠z->c≠TO->c≠i1->c≠i2->s.heap.get? c=some o->h'.get? c=some o)->(∃o,h'.get? e=some o/\o.cls=.type "StopIteration")->E (.ref e) { s with heap:=h',toks:=tk }) :
  wpAny (model P w) A (Builtin.«zip.__next__» ⟨[.ref z], []⟩) Q E s:=by
 obtain⟨d1,d2,d3,d4,d5,d6,d7,d8,d9,d10⟩:=D.a
 have nr1:∀{c},c∈rd1->c≠z/\c≠TO/\c≠i2:=fun hc=>⟨fun e=>D.r1.1 (e▸hc),fun e=>D.r1.2.1 (e▸hc),fun e=>D.r1.2.2 (e▸hc)⟩
 refine(show wpAny (model P w) A (field (.ref z) 2 >>= _) _ E s from wpAny_bind (wpAny_field hz rfl (x:=.bool false) rfl ?_))
 refine(show wpAny (model P w) A (field (.ref z) 3 >>= _) _ E s from wpAny_bind (wpAny_field hz rfl (x:=.ref TI) rfl (wpAny_bind (wpAny_seqItems hI rfl ?_))))
 refine(show wpAny (model P w) A (Builtin.SmallTypes.ownedTupleIsFree (.ref z) >>= _) _ E s from wpAny_bind (ku hz hr fun g1 z1 s1=>?_))
 simp only[Bool.false_eq_true,if_false]
 refine wpAny_bind ?_
 rw[<-Array.forIn_toList]
 simp only[List.forIn_cons,List.forIn_nil]
 refine wpAny_bind (wpAny_bind (wpAny_holding ?_))
 have k1:=N1.keep _ _ g1 h1 fun c hc o e=>s1.extBut _ _ (nr1 hc).1 e
 refine(show wpAny (model P w) A (Builtin.SmallTypes.nextOf (.ref i1) >>= _) _ _ _ from wpAny_bind (N1.fin _ _ _ k _ hh k1 he fun g2 e s2 ee=>?_))
 exact q g2 e _ (fun c o c1 _ c3 _ x=>s2 _ _ c3 (s1.extBut _ _ c1 x)) ee
def ZTs (N:Nat) (xs ys:List Value) (h:Heap) (Ts:List Addr):Prop:=Ts.Nodup/\(∀T∈Ts,N<=T)/\∀(j:Nat) T,Ts[j]?=some T->∃x y,xs[j]?=some x/\ys[j]?=some y/\IsPair h T x y
def ZFr (N:Nat) (z TI TO:Addr) (i:Nat) (h:Heap):Prop:=(i=0/\IsZip h z TI TO .none)\/(0<i/\∃r b o,ji h z TI TO r b/\h.get? r=some o/\N<=r)
structure ZC (st1 st2:Nat->Heap->Prop) (N:Nat) (xs ys:List Value) (z TI TO i1 i2:Addr) (i:Nat) (h:Heap) (Ts:List Addr):Prop where
 I:IsPair h TI (.ref i1) (.ref i2)
 O:∃a b,IsPair h TO a b
 a:st1 i h
 b:st2 i h
 f:ZFr N z TI TO i h
 t:ZTs N xs ys h Ts
 l:Ts.length=i
theorem ZTs.keep {N:Nat} {xs ys:List Value} {h h':Heap} {Ts:List Addr} (z:ZTs N xs ys h Ts) (k:∀c o,N<=c->h.get? c=some o->h'.get? c=some o):ZTs N xs ys h' Ts :=
 ⟨z.1,z.2.1,fun j T e=>let⟨x,y,a,b,c⟩:=z.2.2 j T e; ⟨x,y,a,b,k _ _ (z.2.1 T (List.mem_of_getElem? e)) c⟩⟩
theorem ZTs.add {N:Nat} {xs ys:List Value} {h h':Heap} {Ts:List Addr} {x y:Value} {T:Addr} (z:ZTs N xs ys h Ts) (k:∀c o,N<=c->h.get? c=some o->h'.get? c=some o) (hT:h.objs.size<=T) (hN:N<=T) (hx:xs[Ts.length]?=some x) (hy:ys[Ts.length]?=some y) (e:IsPair h' T x y):ZTs N xs ys h' (Ts++[T]):=by
 have z':=z.keep k
 refine⟨List.nodup_append.mpr ⟨z.1,by simp,fun a ha b hb e=>?_⟩,fun a ha=>?_,fun j a ha=>?_⟩
 ·obtain⟨j,hj⟩:=List.getElem?_of_mem ha
  obtain⟨x,y,_,_,p⟩:=z.2.2 j a hj
  rw[List.mem_singleton.mp hb] at e
  rw[e] at p
  exact absurd (Heap.lt_size p) (Nat.not_lt.mpr hT)
 ·rcases List.mem_append.mp ha with ha|ha
  ·exact z.2.1 a ha
  ·rw[List.mem_singleton.mp ha]; exact hN
 ·by_cases hj:j<Ts.length
  ·rw[List.getElem?_append_left hj] at ha
   exact z'.2.2 j a ha
  ·rw[List.getElem?_append_right (by omega)] at ha
   have:j-Ts.length=0:=by
    have:=(List.getElem?_eq_some_iff.mp ha).1
    simp at this; omega
   rw[this] at ha
   cases ha
   have:j=Ts.length:=by omega
   subst this
   exact⟨x,y,hx,hy,e⟩
theorem zip_next {z TI TO i1 i2:Addr} {rd1 rd2:List Addr} {st1 st2:Nat->Heap->Prop} {N n i:Nat} {xs ys:List Value} {Ts:List Addr} {Q:Option Value->Shared->Prop} (D:ZA5 z TI TO i1 i2 rd1 rd2) (N1:Nx P w i1 rd1 st1 n fun i x=>xs[i]?=some x) (N2:Nx P w i2 rd2 st2 n fun i x=>ys[i]?=some x)
  (hN:∀c,c∈[z,TI,TO,i1,i2]->c<N) (hs:N<=s.heap.objs.size) (hi:i<n) (c:ZC st1 st2 N xs ys z TI TO i1 i2 i s.heap Ts)
  (q:∀h' tk,ZC st1 st2 N xs ys z TI TO i1 i2 (i+1) h' (Ts++[s.heap.objs.size])->(∀c o,c∉[z,TO,i1,i2]->s.heap.get? c=some o->h'.get? c=some o)->Q (some (.ref s.heap.objs.size)) { s with heap:=h',toks:=tk }) :
  wpAny (model P w) A (pyNext (.ref z)) Q E s:=by
 have d:=D.a
 obtain⟨hI,⟨a,b,hO⟩,h1,h2,hf,ht,hl⟩:=c
 have nN:∀{c:Addr},N<=c->c≠z/\c≠TI/\c≠TO/\c≠i1/\c≠i2:=fun h=>⟨fun e=>absurd (hN z (by simp)) (Nat.not_lt.mpr (e▸h)),fun e=>absurd (hN TI (by simp)) (Nat.not_lt.mpr (e▸h)),fun e=>absurd (hN TO (by simp)) (Nat.not_lt.mpr (e▸h)),fun e=>absurd (hN i1 (by simp)) (Nat.not_lt.mpr (e▸h)),fun e=>absurd (hN i2 (by simp)) (Nat.not_lt.mpr (e▸h))⟩
 rcases hf with⟨_,hz⟩|⟨_,r,bb,o,hz,hr,hrN⟩
 ·have hT:s.TypeIs (.ref z) "zip" := ⟨_,hz,rfl⟩
  unfold pyNext
  refine wpAny_bind (wpAny_attempt (wpAny_callSpecial?_slot (name:=Str.ofString "__next__") hT F.slot_zip_next (wpAny_call_entry F.slot_zip_next hT F.entry_zip_next (zip_it D N1 N2 hz hI hO h1 h2 hi hi fun h' u v tk yu yv c1 c2 c3 c4 c5 c6 c7=>wpAny_pure (q h' tk ⟨c7 _ _ d.1 d.2.2.2.2.1 d.2.2.2.2.2.1 d.2.2.2.2.2.2.1 hI,⟨_,_,c2⟩,c3,c4, .inr ⟨Nat.succ_pos _,_,false,_,c1,c5,hs⟩,ht.add (fun c o hc e=>c7 c o (nN hc).1 (nN hc).2.2.1 (nN hc).2.2.2.1 (nN hc).2.2.2.2 e) (Nat.le_refl _) hs (by rw[hl]; exact yu) (by rw[hl]; exact yv) c5,by simp[hl]⟩ fun c o hc e=>?_)) (F.args_zip_next_1 _))))
  simp only[List.mem_cons,List.not_mem_nil,or_false,not_or] at hc
  exact c7 c o hc.1 hc.2.1 hc.2.2.1 hc.2.2.2 e
 ·have hT:s.TypeIs (.ref z) "zip" := ⟨_,hz,rfl⟩
  unfold pyNext
  refine wpAny_bind (wpAny_attempt (wpAny_callSpecial?_slot (name:=Str.ofString "__next__") hT F.slot_zip_next (wpAny_call_entry F.slot_zip_next hT F.entry_zip_next (zip_it2 D N1 N2 hz hr hI h1 h2 hi hi fun h' u v tk yu yv c1 c3 c4 c5 c7=>wpAny_pure (q h' tk ⟨c7 _ _ d.1 d.2.2.2.2.2.1 d.2.2.2.2.2.2.1 hI,⟨a,b,c7 _ _ d.2.1 d.2.2.2.2.2.2.2.1 d.2.2.2.2.2.2.2.2.1 hO⟩,c3,c4, .inr ⟨Nat.succ_pos _,r,true,o,c1,c7 _ _ (nN hrN).1 (nN hrN).2.2.2.1 (nN hrN).2.2.2.2 hr,hrN⟩,ht.add (fun c o hc e=>c7 c o (nN hc).1 (nN hc).2.2.2.1 (nN hc).2.2.2.2 e) (Nat.le_refl _) hs (by rw[hl]; exact yu) (by rw[hl]; exact yv) c5,by simp[hl]⟩ fun c o hc e=>?_)) (F.args_zip_next_1 _))))
  simp only[List.mem_cons,List.not_mem_nil,or_false,not_or] at hc
  exact c7 c o hc.1 hc.2.2.1 hc.2.2.2 e
theorem zip_stop {z TI TO i1 i2:Addr} {rd1 rd2:List Addr} {st1 st2:Nat->Heap->Prop} {N n:Nat} {xs ys:List Value} {Ts:List Addr} {Q:Option Value->Shared->Prop} (hh:A.handled=none) (D:ZA5 z TI TO i1 i2 rd1 rd2) (N1:Nx P w i1 rd1 st1 n fun i x=>xs[i]?=some x) (N2:Nx P w i2 rd2 st2 n fun i x=>ys[i]?=some x)
  (h0:0<n) (c:ZC st1 st2 N xs ys z TI TO i1 i2 n s.heap Ts)
  (q:∀h' tk,(∀c o,c∉[z,TO,i1,i2]->s.heap.get? c=some o->h'.get? c=some o)->Q none { s with heap:=h',toks:=tk }) :
  wpAny (model P w) A (pyNext (.ref z)) Q E s:=by
 obtain⟨hI,⟨a,b,hO⟩,h1,h2,hf,ht,hl⟩:=c
 rcases hf with⟨z0,_⟩|⟨_,r,bb,o,hz,hr,hrN⟩
 ·omega
 have hT:s.TypeIs (.ref z) "zip" := ⟨_,hz,rfl⟩
 unfold pyNext
 refine wpAny_bind (wpAny_attempt (wpAny_callSpecial?_slot (name:=Str.ofString "__next__") hT F.slot_zip_next (wpAny_call_entry F.slot_zip_next hT F.entry_zip_next (zip_fin2 hh D N1 N2 hz hr hI h1 (Nat.le_refl _) fun h' e tk hk ⟨o,ho,hc⟩=>?_) (F.args_zip_next_1 _))))
 refine wpAny_bind (wpAny_isInstance (T := "StopIteration") (b:=true) ⟨o,ho,hc⟩ isSubtype_stop (wpAny_pure (q h' tk fun c o hc e=>?_)))
 simp only[List.mem_cons,List.not_mem_nil,or_false,not_or] at hc
 exact hk c o hc.1 hc.2.1 hc.2.2.1 hc.2.2.2 e
theorem ZC.keep {z TI TO i1 i2:Addr} {rd1 rd2:List Addr} {st1 st2:Nat->Heap->Prop} {N n i:Nat} {xs ys:List Value} {Ts:List Addr} {h h':Heap} (N1:Nx P w i1 rd1 st1 n fun i x=>xs[i]?=some x) (N2:Nx P w i2 rd2 st2 n fun i x=>ys[i]?=some x)
  (c:ZC st1 st2 N xs ys z TI TO i1 i2 i h Ts) (k:∀b o,(N<=b\/b∈[z,TI,TO]\/b∈rd1\/b∈rd2)->h.get? b=some o->h'.get? b=some o):ZC st1 st2 N xs ys z TI TO i1 i2 i h' Ts where
 I:=k _ _ (.inr (.inl (by simp))) c.I
 O:=let⟨a,b,e⟩:=c.O; ⟨a,b,k _ _ (.inr (.inl (by simp))) e⟩
 a:=N1.keep _ _ _ c.a fun b hb o e=>k b o (.inr (.inr (.inl hb))) e
 b:=N2.keep _ _ _ c.b fun b hb o e=>k b o (.inr (.inr (.inr hb))) e
 f:=c.f.elim (fun⟨e,h⟩=>.inl ⟨e,k _ _ (.inr (.inl (by simp))) h⟩) fun⟨e,r,b,o,h1,h2,h3⟩=>.inr ⟨e,r,b,o,k _ _ (.inr (.inl (by simp))) h1,k _ _ (.inl h3) h2,h3⟩
 t:=c.t.keep fun b o hb e=>k b o (.inl hb) e
 l:=c.l
theorem ext_zip {z TI TO i1 i2 S:Addr} {rd1 rd2:List Addr} {st1 st2:Nat->Heap->Prop} {N n:Nat} {xs ys:List Value} {res:Value} {R:Result->Shared->Prop} (hh:A.handled=none) (D:ZA5 z TI TO i1 i2 rd1 rd2) (N1:Nx P w i1 rd1 st1 n fun i x=>xs[i]?=some x) (N2:Nx P w i2 rd2 st2 n fun i x=>ys[i]?=some x)
  (h0:0<n) (hn:n<=sizeLine) (hN:∀c,c∈[z,TI,TO,i1,i2]->c<N) (hSN:S<N) (hS0:S∉[z,TI,TO,i1,i2]) (hS1:S∉rd1) (hS2:S∉rd2) :
  ∀(k i:Nat) (s:Shared) (Ts:List Addr) (c:Nat),n-i=k->i<=n->N<=s.heap.objs.size->ZC st1 st2 N xs ys z TI TO i1 i2 i s.heap Ts->s.heap.get? S=some { cls:=.type "list", dict:=none,data:=.seq (Ts.map Value.ref).toArray c,slots:=#[] } ->
  (∀h' tk Ts' c',(∀b o,b∉[S,z,TO,i1,i2]->s.heap.get? b=some o->h'.get? b=some o)->h'.get? S=some { cls:=.type "list", dict:=none,data:=.seq (Ts'.map Value.ref).toArray c',slots:=#[] }->ZTs N xs ys h' Ts'->Ts'.length=n->R (.ok (.ret res)) { s with heap:=h',toks:=tk }) ->
  codeAny (model P w) A (.builtin "list.extend.loop" ⟨[.ref S, .ref z,res], []⟩) R s:=by
 have hS0':S∉[z,TO,i1,i2]:=fun h=>hS0 (by
  simp only[List.mem_cons,List.not_mem_nil,or_false] at h ⊢
  rcases h with h|h|h|h
  ·exact .inl h
  ·exact .inr (.inr (.inl h))
  ·exact .inr (.inr (.inr (.inl h)))
  ·exact .inr (.inr (.inr (.inr h))))
 intro k
 induction k with
 |zero =>
  intro i s Ts c hk hi hs C hS hR
  have hin:i=n:=by omega
  subst hin
  refine codeAny_builtin F.entry_extend_loop ?_
  rw[Around.under_plainId F.plain_extend_loop _]
  refine(show wpAny _ A.in1 (pyNext (.ref z) >>= _) _ _ s from wpAny_bind (zip_stop hh D N1 N2 h0 C fun h' tk kp=>wpAny_pure (hR h' tk Ts c (fun b o hb e=>kp b o (fun h=>hb (List.mem_cons_of_mem _ h)) e) (kp S _ hS0' hS) (C.t.keep fun b o hb e=>kp b o (fun h=>?_) e) C.l)))
  simp only[List.mem_cons,List.not_mem_nil,or_false] at h
  rcases h with rfl|rfl|rfl|rfl
  all_goals exact absurd (hN _ (by simp)) (Nat.not_lt.mpr hb)
 |succ k ih =>
  intro i s Ts c hk hi hs C hS hR
  have hlt:i<n:=by omega
  refine codeAny_builtin F.entry_extend_loop ?_
  rw[Around.under_plainId F.plain_extend_loop _]
  refine(show wpAny _ A.in1 (pyNext (.ref z) >>= _) _ _ s from wpAny_bind (zip_next D N1 N2 hN hs hlt C fun h' tk C' kp=>?_))
  have hS':=kp S _ hS0' hS
  have hsz:s.heap.objs.size<h'.objs.size:=by
   obtain⟨_,_,q⟩:=C'.t
   obtain⟨x,y,_,_,p⟩:=q Ts.length s.heap.objs.size (by simp)
   exact Heap.lt_size p
  have hls:(Ts.map Value.ref).toArray.size=i:=by simp[C.l]
  refine(show wpAny _ A.in1 (updateSeq S (·.push (.ref s.heap.objs.size)) >>= _) _ _ _ from wpAny_bind ?_)
  have eU:Obj.mapSeq (·.push (Value.ref s.heap.objs.size)) { cls:=.type "list", dict:=none,data:=.seq (Ts.map Value.ref).toArray c,slots:=#[] }={ cls:=.type "list", dict:=none,data:=.seq ((Ts++[s.heap.objs.size]).map Value.ref).toArray (c+1),slots:=#[] }:=by
   simp[Obj.mapSeq]
  refine wpAny_updateSeq hS' rfl (wpAny_pure ⟨plainId_quiet F.plain_extend_loop _,ih (i+1) _ (Ts++[s.heap.objs.size]) (c+1) (by omega) hlt ?_ (C'.keep N1 N2 fun b o hb e=>?_) ?_ fun h'' tk' Ts' c' kp' hS'' t' l'=>?_⟩) (by rw[hls]; omega) (by show((Ts.map Value.ref).toArray.push _).size<=sizeLine+1; rw[Array.size_push,hls]; omega)
  ·show N<=(h'.update _ _).objs.size
   rw[Heap.size_update]; omega
  ·refine(Heap.get?_update_other _ _ (fun h:S=b=>?_)).trans e
   subst h
   rcases hb with hb|hb|hb|hb
   ·exact absurd hSN (Nat.not_lt.mpr hb)
   ·refine hS0 ?_
    simp only[List.mem_cons,List.not_mem_nil,or_false] at hb ⊢
    rcases hb with h|h|h
    ·exact .inl h
    ·exact .inr (.inl h)
    ·exact .inr (.inr (.inl h))
   ·exact hS1 hb
   ·exact hS2 hb
  ·rw[<-eU]; exact Heap.get?_update_self _ hS' rfl
  ·refine hR h'' tk' Ts' c' (fun b o hb e=>kp' b o hb ((Heap.get?_update_other _ _ (fun h:S=b=>hb (by rw[h]; simp))).trans (kp b o (fun h=>hb (List.mem_cons_of_mem _ h)) e))) hS'' t' l'
theorem Zk:typeLookup (.type "zip") "__len__" = pure none:=by rw[typeLookup_type,builtinLookup_eq_fast]; kernel_rfl
theorem VI:typeLookup (.type "zip") "__length_hint__" = pure none:=by rw[typeLookup_type,builtinLookup_eq_fast]; kernel_rfl
theorem QZ {z TI TO i1 i2:Addr} {rd1 rd2:List Addr} {st1 st2:Nat->Heap->Prop} {n:Nat} {xs ys:List Value} {Q:List Value->Shared->Prop} (hh:A.handled=none) (D:ZA5 z TI TO i1 i2 rd1 rd2) (N1:Nx P w i1 rd1 st1 n fun i x=>xs[i]?=some x) (N2:Nx P w i2 rd2 st2 n fun i x=>ys[i]?=some x)
  (h0:0<n) (hn:n<=sizeLine) (hN:∀c,c∈[z,TI,TO,i1,i2]->c<s.heap.objs.size) (hr1:∀c∈rd1,c<s.heap.objs.size) (hr2:∀c∈rd2,c<s.heap.objs.size) (hz:IsZip s.heap z TI TO .none) (hI:IsPair s.heap TI (.ref i1) (.ref i2)) {a b:Value} (hO:IsPair s.heap TO a b) (h1:st1 0 s.heap) (h2:st2 0 s.heap)
  (q:∀h' tk Ts,(∀b o,b∉[z,TO,i1,i2]->s.heap.get? b=some o->h'.get? b=some o)->ZTs (s.heap.objs.size+1) xs ys h' Ts->Ts.length=n->Q (Ts.map Value.ref) { s with heap:=h',toks:=tk }) :
  wpAny (model P w) A (collect (.ref z)) Q E s:=by
 have ne:∀{c:Addr},c<s.heap.objs.size->s.heap.objs.size≠c:=fun h=>Nat.ne_of_gt h
 have hzS:s.heap.objs.size≠z:=ne (hN z (by simp))
 have hS0:s.heap.objs.size∉[z,TI,TO,i1,i2]:=fun h=>absurd (hN _ h) (Nat.lt_irrefl _)
 unfold collect
 refine wpAny_bind (wpAny_runValue (codeAny_builtin F.entry_proto_collect ?_))
 rw[Around.under_plainId F.plain_proto_collect _]
 refine(show wpAny _ A.in1 (newList [] >>= fun l=>again (.builtin "list.__iadd__" ⟨[l, .ref z], []⟩)) _ _ s from wpAny_bind (wpAny_newObj_type ?_))
 refine wpAny_pure ⟨plainId_quiet F.plain_list_iadd _,codeAny_builtin F.entry_list_iadd ?_⟩
 rw[Around.under_plainId F.plain_list_iadd _]
 have up:∀b o,s.heap.get? b=some o->(s.heap.push { cls:=.type "list", data:=.seq ([]:List Value).toArray }).get? b=some o:=fun b o e=>Heap.get?_push_of_some _ e
 have hT:Shared.TypeIs { s with heap:=s.heap.push { cls:=.type "list", data:=.seq ([]:List Value).toArray } } (.ref z) "zip" := ⟨_,up _ _ hz,rfl⟩
 refine(show wpAny _ A.in1 (Builtin.List.listExtendWith (.ref s.heap.objs.size) (.ref z) (.ref s.heap.objs.size)) _ _ _ from ?_)
 unfold Builtin.List.listExtendWith
 refine wpAny_bind (wpAny_typeOf hT ?_)
 have e1:Builtin.List.listSameRef (.ref s.heap.objs.size) (.ref z)=false:=by simp[Builtin.List.listSameRef,hzS]
 have e2:(Value.type "zip" == Value.type "list")=false:=by decide
 have e3:(Value.type "zip" == Value.type "tuple")=false:=by decide
 simp only[e1,e2,e3,Bool.or_false,Bool.false_eq_true,if_false]
 refine wpAny_bind (wpAny_pyIter_zip (up _ _ hz) ?_)
 refine wpAny_bind (wpAny_holding ?_)
 unfold Builtin.List.listLengthHint
 refine wpAny_bind (wpAny_specialOf hT Zk ?_)
 refine(show wpAny _ A.in1 (specialOf (Value.ref z) (Str.ofString "__length_hint__") >>= _) _ _ _ from wpAny_bind (wpAny_specialOf hT VI ?_))
 refine wpAny_pure ?_
 refine(show wpAny _ A.in1 (rule "list.extend.makes-room" >>= fun _=>Builtin.List.listTouch (.ref s.heap.objs.size) >>= fun _ =>
  again (.builtin "list.extend.loop" ⟨[.ref s.heap.objs.size, .ref z, .ref s.heap.objs.size], []⟩)) _ _ _ from wpAny_bind (wpAny_rule ?_))
 have hS₁:(s.heap.push { cls:=.type "list", data:=.seq ([]:List Value).toArray }).get? s.heap.objs.size=some { cls:=.type "list", data:=.seq ([]:List Value).toArray }:=Heap.get?_push_size _ rfl
 refine wpAny_bind ?_
 refine(show wpAny _ A.in1 (updateSeq s.heap.objs.size (·.push .none) >>= fun _=>updateSeq s.heap.objs.size (·.pop)) _ _ _ from wpAny_bind (wpAny_updateSeq hS₁ rfl ?_))
 have hS₂:=Heap.get?_update_self (Obj.mapSeq (·.push Value.none)) hS₁ rfl
 refine wpAny_updateSeq hS₂ rfl ?_
 have hS₃:=Heap.get?_update_self (Obj.mapSeq (·.pop)) hS₂ rfl
 have oth:∀b o,s.heap.get? b=some o ->
   (((s.heap.push { cls:=.type "list", data:=.seq ([]:List Value).toArray }).update s.heap.objs.size (Obj.mapSeq (·.push Value.none))).update s.heap.objs.size (Obj.mapSeq (·.pop))).get? b=some o :=
  fun b o e=>(Heap.get?_update_other _ _ (ne (Heap.lt_size e))).trans ((Heap.get?_update_other _ _ (ne (Heap.lt_size e))).trans (up b o e))
 refine wpAny_pure ⟨plainId_quiet F.plain_extend_loop _,ext_zip (N:=s.heap.objs.size+1) (by exact hh) D N1 N2 h0 hn (fun c hc=>Nat.lt_succ_of_lt (hN c hc)) (Nat.lt_succ_self _) hS0 (fun h=>absurd (hr1 _ h) (Nat.lt_irrefl _)) (fun h=>absurd (hr2 _ h) (Nat.lt_irrefl _)) n 0 _ [] _ rfl (Nat.zero_le _) ?_ ⟨oth _ _ hI,⟨_,_,oth _ _ hO⟩,N1.keep _ _ _ h1 fun c _ o e=>oth c o e,N2.keep _ _ _ h2 fun c _ o e=>oth c o e, .inl ⟨rfl,oth _ _ hz⟩,⟨by simp,by simp,by simp⟩,rfl⟩ hS₃ fun h' tk Ts c kp hS' t' l'=>?_⟩
 ·show _<=(Heap.update _ _ _).objs.size
  rw[Heap.size_update,Heap.size_update,Heap.size_push]
  exact Nat.le_refl _
 ·refine(show wpAny _ A (load s.heap.objs.size >>= _) _ _ _ from wpAny_bind (wpAny_load hS' (wpAny_pure ?_)))
  refine q h' tk Ts (fun b o hb e=>kp b o (fun h=>?_) (oth b o e)) t' l'
  rcases List.mem_cons.mp h with h|h
  ·exact ne (Heap.lt_size e) h.symm
  ·exact hb h
end
end L2
namespace L2
open PySem PySem.Spec PyProof.Rows PySem.W
section
variable {X:Cx}
def TabH (pos:Pos) (qual:Str) (H:Hp) (P:Addr) (ps:Array Value):Prop:=H P=some (.tbl ps)/\TriplesOk ps.toList/\(codeAmong pos ps.toList=none\/∃c,codeAmong pos ps.toList=some (.ref c)/\H c=some (codeO c qual))
structure LamC (X:Cx) (c P:Addr):Prop where
 code:X.env.code=.ref c
 hd:CodeHd X.base c P
 bm:X.base.BuiltinsAt X.mg P
def KeyOut (xs:List V) (ks:List Int) (out:List (V×Int)):Prop:=out.Perm (xs.zip ks)/\out.Pairwise fun p q=>p.2<=q.2
def rLamSort (K:PySem.W.Frag) (pos:Pos) (qual:Str) (P:Addr):List V->Hp->VK->Prop:=fun vs H Q=>∃(a1 a2:Addr) (xs:List V) (ks:List Int) (ps:Array Value),
 vs=[.ref a1, .ref a2]/\SqT K H a1 xs/\SqL K H a2 (ks.map V.int)/\xs.length=ks.length/\0<ks.length/\ks.length<64/\TabH pos qual H P ps /\
 ∀(out:List (V×Int)) (ts:List Addr) (l:Addr) (H':Hp) (ps':Array Value),KeyOut xs ks out->(∀b o,H b=some o->b≠P->H' b=some o)->TabH pos qual H' P ps'->(∀c,codeAmong pos ps'.toList=some (.ref c)->codeAmong pos ps.toList=some (.ref c)\/H c=none) ->
  H l=none->H' l=some (.lst (ts.map V.ref))->(∀t∈ts,H t=none)->ts.length=out.length->(∀(i:Nat) t x k,ts[i]?=some t->out[i]?=some (x,k)->H' t=some (.tup [x, .int k]))->Q (.ref l) H'
def xh (K:PySem.W.Frag) (pos:Pos) (qual:Str) (P:Addr) (ta:TA):TE:=fun σ H Q=>ta σ H fun vs H1=>rLamSort K pos qual P vs H1 Q
theorem Qb {pos:Pos} {v:Value}:∀{l:List Value},TriplesOk l->codeAmong pos l=none->codeAmong pos (l++[rawInt pos.line,rawInt pos.col,v])=some v/\TriplesOk (l++[rawInt pos.line,rawInt pos.col,v])
 | [],_,_=>⟨by simp[codeAmong,rawInt],trivial⟩
 |.int a t :: .int b u::c::r,h,e=>by
  have h:TriplesOk r:=h
  simp only[List.cons_append]
  unfold codeAmong at e ⊢
  split at e
  ·cases e
  ·rename_i hne
   obtain⟨i1,i2⟩:=Qb h e
   rw[if_neg hne]
   exact⟨i1,i2⟩
theorem lam_grow {pins:List (Addr×Obj)} {σ:St} {H:Hp} {s:Shared} {h':Heap} {tk:Nat} {P c':Addr} {ps more:Array Value} {qual:Str} (I:Inv X pins σ H s) (hT:H P=some (.tbl ps)) (kp:∀b o,b≠P->s.heap.get? b=some o->h'.get? b=some o) (hP:h'.get? P=some (tabObj (ps++more)))
  (hc:s.heap.objs.size<=c') (hC:h'.CodeRec (.ref c') qual):Inv X pins σ (upd (upd H P (.tbl (ps++more))) c' (codeO c' qual)) { s with heap:=h',toks:=tk }:=by
 have n0:H c'=none:=I.hok.fresh hc
 have nP:c'≠P:=fun z=>by rw[z,hT] at n0; cases n0
 have tr:∀b,b≠P->b≠c'->upd (upd H P (.tbl (ps++more))) c' (codeO c' qual) b=H b:=fun b h1 h2=>by rw[upd_ne h2,upd_ne h1]
 have old:∀{b:Addr} {o:HO},H b=some o->b≠c':=fun e z=>by rw[z,n0] at e; cases e
 refine I.step (ch:=[]) (g':=s.gens) (d':=s.drawn) (fun b hb=>nomatch hb) (fun b o _ _ _ e n=>kp b o (fun z=>by rw[z,hT] at n; cases n) e) (fun b o _ _ _ e n=>⟨o.slots,kp b o (fun z=>by rw[z,hT] at n; cases n) e⟩) (fun b o _ e n=>?_) (fun b o _ e=>?_) (fun b xs e=>?_) (fun b o u e=>?_) (fun b qs e=>?_) (fun m hm=>?_) (fun b o e=>?_) I.bare
 ·rw[tr b (fun z=>by rw[z,hT] at n; cases n) (fun z=>by rw[z] at e; exact absurd (Heap.lt_size e) (Nat.not_lt.mpr hc))]
  exact n
 ·by_cases hb:b=P
  ·rw[hb]; exact⟨_,hP⟩
  ·exact⟨o,kp b o hb e⟩
 ·rw[tr b (fun z=>by rw[z,hT] at e; cases e) (old e)]; exact e
 ·rw[tr b (fun z=>by rw[z,hT] at e; cases e) (old e)]; exact e
 ·by_cases hb:b=P
  ·subst hb
   rw[hT] at e; cases e
   exact⟨more,by rw[upd_ne nP.symm,upd_same]⟩
  ·exact⟨#[],by rw[tr b hb (old e),e]; simp⟩
 ·obtain⟨o,es,ep,ho,r⟩:=hm
  exact⟨o,es,ep,kp _ _ (fun z=>by have:=I.free; rw[z,hT] at this; cases this) ho,r⟩
 ·by_cases hb:b=c'
  ·subst hb
   rw[upd_same] at e; cases e
   obtain⟨c2,oc,vs,tq,hc2,hoc,hd,hv⟩:=id hC
   cases hc2
   refine⟨hC,⟨oc,hoc⟩,fun h1 h2 hh k=>?_⟩
   obtain⟨c2,oc,vs,tq,hc2,hoc,hd,hv⟩:=hh
   cases hc2
   exact⟨_,oc,vs,tq,rfl,k _ hoc,hd,hv⟩
  ·rw[upd_ne hb] at e
   by_cases hp:b=P
   ·subst hp
    rw[upd_same] at e; cases e
    exact hP
   ·rw[upd_ne hp] at e
    refine(I.hok b o e).stay (fun a u ha q=>kp a u (fun z=>?_) q) (fun a q=>?_) fun a xs q=>?_
    ·rcases ha with ha|ha
     ·exact hp (ha▸z)
     ·rw[z,hT] at ha; cases ha
    ·rw[tr a (fun z=>by rw[z,hT] at q; cases q) (old q)]; exact q
    ·rw[tr a (fun z=>by rw[z,hT] at q; cases q) (old q)]; exact q
theorem lam_eval {pins:List (Addr×Obj)} {σ:St} {H:Hp} {s:Shared} {c P:Addr} {ps:Array Value} {params:Arguments} {body:Expr} {scope:Scope} {lpos:Pos} {Q:Value->Shared->Prop} {E:Value->Shared->Prop} {A:Around} (I:Inv X pins σ H s) (L:LamC X c P) (T:TabH lpos (X.env.qual ++ "<lambda>") H P ps)
  (hcl:closureFor scope X.env=pure []) (hdf:defaultsOf params X.env=([], []))
  (q:∀f c' ctv h' tk H' ps',Inv X pins σ H' { s with heap:=h',toks:=tk }->(∀b o,b≠P->s.heap.get? b=some o->h'.get? b=some o)->h'.get? f=some (kla_obj "<lambda>" (X.env.qual ++ "<lambda>") params body scope [] ((X.mg "__name__").getD .none) c' ctv)->s.heap.objs.size<=f->h'.CodeRec (.ref c') (X.env.qual ++ "<lambda>") ->
   TabH lpos (X.env.qual ++ "<lambda>") H' P ps'->(∀b o,H b=some o->b≠P->H' b=some o)->(∀c,codeAmong lpos ps'.toList=some (.ref c)->codeAmong lpos ps.toList=some (.ref c)\/H c=none)->(∀b,H' b≠none->H b≠none\/h'.get? b≠none/\s.heap.objs.size<=b)->Q (.ref f) { s with heap:=h',toks:=tk }) :
  wpAny (model X.prog X.w) A (eval (.Lambda params body scope lpos) X.env) Q E s:=by
 obtain⟨hT,ht,hh⟩:=T
 have hPo:s.heap.get? P=some (tabObj ps):=I.hok P _ hT
 have hgs:s.heap.Ns mainGlobals X.mg:=I.ok.mod.glob.keeps I.bk
 obtain⟨bm,ob,b1,b2,b3,b4,b5,b6⟩:=L.bm
 have hgP:mainGlobals≠P:=fun z=>by
  obtain⟨o,es,ep,e,hd,_⟩:=hgs
  rw[z,hPo] at e; cases e; cases hd
 refine kla_eval hdf ?_
 rcases hh with hn|⟨c',hf,hc'⟩
 ·refine kla_makeFunction (mg:=X.mg) hcl I.ok.glob hgs L.code (L.hd.keeps I.bk) hPo ht hn hgP ⟨bm,ob,b1,b2,b3,b4,I.bk _ _ b5,b6⟩ fun c' ctv h' tk hx hge hlt hrec htb=>?_
  obtain⟨m1,m2⟩:=Qb (v:=.ref c') ht hn
  have J:=lam_grow (tk:=tk) I hT (fun b o hb e=>hx b o hb e) htb hge hrec
  have n0:H c'=none:=I.hok.fresh hge
  have nP:c'≠P:=fun z=>by rw[z,hT] at n0; cases n0
  have pu:∀b o,h'.get? b=some o->(h'.push (kla_obj "<lambda>" (X.env.qual ++ "<lambda>") params body scope [] ((X.mg "__name__").getD .none) c' ctv)).get? b=some o:=fun b o e=>Heap.get?_push_of_some _ e
  have el:(ps++#[rawInt lpos.line,rawInt lpos.col, .ref c']).toList=ps.toList++[rawInt lpos.line,rawInt lpos.col, .ref c']:=by simp
  refine q h'.objs.size c' ctv _ tk _ (ps++#[rawInt lpos.line,rawInt lpos.col, .ref c']) (J.kept (t':=tk) pu) (fun b o hb e=>pu b o (hx b o hb e)) (Heap.get?_push_size _ rfl) ?_ ?_ ⟨by rw[upd_ne nP.symm,upd_same],by rw[el]; exact m2, .inr ⟨c',by rw[el]; exact m1,upd_same⟩⟩ (fun b o e hb=>?_) (fun c2 e=>?_) fun b hb=>?_
  ·exact Nat.le_trans hge (Nat.le_of_lt hlt)
  ·obtain⟨c2,oc,vs,tq,hc2,hoc,r⟩:=hrec
   exact⟨c2,oc,vs,tq,hc2,pu _ _ hoc,r⟩
  ·rw[upd_ne (fun z=>by rw[z,n0] at e; cases e),upd_ne hb]; exact e
  ·rw[el,m1] at e
   cases e
   exact .inr n0
  ·by_cases h1:b=c'
   ·refine .inr ⟨?_,h1▸hge⟩
    obtain⟨c2,oc,vs,tq,hc2,hoc,r⟩:=hrec
    cases hc2
    rw[h1,pu _ _ hoc]; simp
   ·rw[upd_ne h1] at hb
    by_cases h2:b=P
    ·rw[h2,hT]; exact .inl (by simp)
    ·rw[upd_ne h2] at hb; exact .inl hb
 ·refine kla_makeFunctionHit (mg:=X.mg) hcl I.ok.glob hgs L.code (L.hd.keeps I.bk) hPo ht hf ⟨bm,ob,b1,b2,b3,b4,I.bk _ _ b5,b6⟩ fun ctv h' tk hk hsz=>?_
  have pu:∀b o,s.heap.get? b=some o->(h'.push (kla_obj "<lambda>" (X.env.qual ++ "<lambda>") params body scope [] ((X.mg "__name__").getD .none) c' ctv)).get? b=some o:=fun b o e=>Heap.get?_push_of_some _ (hk b o e)
  refine q h'.objs.size c' ctv _ tk H ps (I.kept (t':=tk) pu) (fun b o _ e=>pu b o e) (Heap.get?_push_size _ rfl) hsz ?_ ⟨hT,ht, .inr ⟨c',hf,hc'⟩⟩ (fun _ _ e _=>e) (fun _ e=>.inl e) fun b hb=>.inl hb
  obtain⟨⟨c2,oc,vs,tq,hc2,hoc,r⟩,_⟩:=I.hok c' _ hc'
  exact⟨c2,oc,vs,tq,hc2,pu _ _ hoc,r⟩
abbrev lamP (x:Str) (ap:Pos):Arguments:={ posonlyargs:=[],args:=[{ arg:=x,annotation:=none,pos:=ap }],vararg:=none,kwonlyargs:=[],kw_defaults:=[],kwarg:=none,defaults:=[] }
abbrev lamS (x:Str):Scope:={ kind:=.function,names:=[(x, .local)],isGenerator:=false,isCoroutine:=false,more:=[] }
abbrev lamB (x:Str) (p1 p2 p3:Pos) (kk:Nat):Expr:=.Subscript (.Name x p1) (.Constant (.int 1) kk p2) p3
def jV (x:Str) (ap:Pos) (body:Expr):Prop:=∀(qual:Str) (pm ctv:Value) (c' T:Addr),bindArgs (kla_fn "<lambda>" qual (lamP x ap) body (lamS x) [] pm (.ref c') ctv) ⟨[.ref T], []⟩=pure [(x, .ref T)]
theorem lam_call {prog:Program} {w:World} {A:Around} {s:Shared} {Q:Value->Shared->Prop} {E:Value->Shared->Prop} {f c' T:Addr} {x qual:Str} {ap p1 p2 p3:Pos} {kk:Nat} {pm ctv u:Value} {k:Int} {t:Tok} (hx:(x==("__debug__" : Str))=false) (hb:jV x ap (lamB x p1 p2 p3 kk))
  (ho:s.heap.get? f=some (kla_obj "<lambda>" qual (lamP x ap) (lamB x p1 p2 p3 kk) (lamS x) [] pm c' ctv)) (hcd:s.heap.CodeRec (.ref c') qual) (hT:IsPair s.heap T u (.int k t)) (hroom:A.depth<recursionLimit) (hnl:s.heap.NoLimit)
  (q:∀h' tk,(∀b o,s.heap.get? b=some o->h'.get? b=some o)->Q (.int k t) { s with heap:=h',toks:=tk }):wpAny (model prog w) A (call (.ref f) [.ref T]) Q E s:=by
 refine wpAny_call (kla_callFunE hroom ho rfl rfl rfl rfl hcd ?_)
 rw[show bindArgs _ ⟨[.ref T], []⟩=pure [(x, .ref T)] from hb qual pm ctv c' T]
 refine wpAny_pure (wpAny_newFunctionEnv (fun y hy=>?_) (fun y hy=>?_) (fun h₁ hns hsb=>⟨hnl.fresh _ hsb, ?_⟩) rfl)
 ·rw[List.mem_singleton.mp hy]; simp
 ·rw[List.mem_singleton.mp hy]; simp[List.lookup]
 have up:∀b o,s.heap.get? b=some o->h₁.get? b=some o:=fun b o e=>hsb.extBut b o (Nat.ne_of_lt (Heap.lt_size e)) (Heap.get?_push_of_some _ e)
 refine kla_codeExpr ?_
 refine Subscript_ (wpAny_Name (wpAny_loadName_local rfl ?_ hns (v:=.ref T) ?_ ?_) hx)
 ·show(lamS x).names.lookup x=some .local
  simp[List.lookup]
 ·simp[List.lookup]
 refine wpAny_Constant_int ?_
 refine subscriptTail_builtinR (x:=.int k t) (T := "tuple") ⟨_,up _ _ hT,rfl⟩ slot_tuple_getitem.lookup ?_ (by rfl)
 refine getItem_tuple (j:=1) (x:=.int k t) (items:=#[u, .int k t]) ⟨_,up _ _ hT,rfl,_,rfl⟩ (by decide) (by decide) rfl rfl ⟨rfl, ?_⟩
 exact q h₁ _ up
theorem xY {α β:Type} (f:α->β) {m k:List β} (h:m.Perm k):∀l:List α,k=l.map f->∃l':List α,l'.Perm l/\m=l'.map f:=by
 induction h with
 |nil =>
  intro l e
  cases l with
  |nil=>exact⟨[], .nil,rfl⟩
  |cons a l=>cases e
 |cons x _ ih =>
  intro l e
  cases l with
  |nil=>cases e
  |cons a l =>
   injection e with e1 e2
   subst e1
   obtain⟨l',p,r⟩:=ih l e2
   exact⟨a::l',p.cons a,by rw[r]; rfl⟩
 |swap x y l0 =>
  intro l e
  cases l with
  |nil=>cases e
  |cons a l =>
   injection e with e1 e2
   cases l with
   |nil=>cases e2
   |cons b l =>
    injection e2 with e2 e3
    subst e1 e2 e3
    exact⟨b::a::l, .swap a b l,rfl⟩
 |trans _ _ ih1 ih2 =>
  intro l e
  obtain⟨l2,p2,r2⟩:=ih2 l e
  obtain⟨l1,p1,r1⟩:=ih1 l2 r2
  exact⟨l1,p1.trans p2,r1⟩
theorem zip3:∀{Ts:List Addr} {xs:List Value} {ks:List Int},Ts.length=ks.length->xs.length=ks.length->ks.zip (Ts.map Value.ref)=(Ts.zip (xs.zip ks)).map fun p:Addr×Value×Int=>(p.2.2,Value.ref p.1)
 | [],_,ks,h,_=>by
  cases ks with
  |nil=>rfl
  |cons=>cases h
 |T::Ts,xs,ks,h,h2=>by
  cases ks with
  |nil=>cases h
  |cons k ks =>
   cases xs with
   |nil=>cases h2
   |cons x xs =>
    simp only[List.map_cons,List.zip_cons_cons,List.cons.injEq,true_and]
    exact zip3 (by simpa using h) (by simpa using h2)
theorem Q3 {Ts:List Addr} {xs:List Value} {ks:List Int} {p:Addr×Value×Int} (h:p∈Ts.zip (xs.zip ks)):∃i:Nat,Ts[i]?=some p.1/\xs[i]?=some p.2.1/\ks[i]?=some p.2.2:=by
 obtain⟨i,hi⟩:=List.getElem?_of_mem h
 rw[List.getElem?_zip_eq_some] at hi
 obtain⟨h1,h2⟩:=hi
 rw[List.getElem?_zip_eq_some] at h2
 exact⟨i,h1,h2.1,h2.2⟩
theorem VN {prog:Program} {w:World} {A:Around} {s:Shared} {Q:Value->Shared->Prop} {E:Value->Shared->Prop} {z TI TO i1 i2 L f c':Addr} {rd1 rd2:List Addr} {st1 st2:Nat->Heap->Prop} {m:Str->Option Value} {xs ys:List Value} {ks:List Int} {x qual:Str} {ap p1 p2 p3:Pos} {kk:Nat} {pm ctv a b:Value}
  (hh:A.handled=none) (D:ZA5 z TI TO i1 i2 rd1 rd2) (N1:Nx prog w i1 rd1 st1 ks.length fun i x=>xs[i]?=some x) (N2:Nx prog w i2 rd2 st2 ks.length fun i x=>ys[i]?=some x) (h0:0<ks.length) (h64:ks.length<64) (hxl:xs.length=ks.length)
  (hN:∀c,c∈[z,TI,TO,i1,i2]->c<s.heap.objs.size) (hr1:∀c∈rd1,c<s.heap.objs.size) (hr2:∀c∈rd2,c<s.heap.objs.size) (hz:IsZip s.heap z TI TO .none) (hI:IsPair s.heap TI (.ref i1) (.ref i2)) (hO:IsPair s.heap TO a b) (h1:st1 0 s.heap) (h2:st2 0 s.heap)
  (hns:s.heap.Ns L m) (hL:L∉[z,TO,i1,i2]) (hLs:cStatics≠L) (hys:∀(j:Nat) y k,ys[j]?=some y->ks[j]?=some k->∃t,y=.int k t) (hx:(x==("__debug__" : Str))=false) (hb:jV x ap (lamB x p1 p2 p3 kk))
  (ho:s.heap.get? f=some (kla_obj "<lambda>" qual (lamP x ap) (lamB x p1 p2 p3 kk) (lamS x) [] pm c' ctv)) (hfz:f∉[L,z,TO,i1,i2]) (hcd:s.heap.CodeRec (.ref c') qual) (hcz:c'∉[L,z,TO,i1,i2]) (hsz:cStatics∉[z,TO,i1,i2]) (hroom:A.in1.in1.depth<recursionLimit) (hnl:s.heap.NoLimit)
  (q:∀(D:Addr) h' tk c (Ts:List Addr) (tr:List (Addr×Value×Int)),h'.Ns L m->(∀b o,b≠L->b∉[z,TO,i1,i2]->s.heap.get? b=some o->h'.get? b=some o)->s.heap.objs.size<=D->(∀p∈tr,s.heap.objs.size<=p.1/\∃t,IsPair h' p.1 p.2.1 (.int p.2.2 t))->Ts.Nodup->D∉Ts->Ts.length=ks.length ->
   tr.Perm (Ts.zip (xs.zip ks))->(tr.Pairwise fun p q=>p.2.2<=q.2.2)->h'.get? D=some (seqObj "list" (tr.map fun p=>Value.ref p.1).toArray c)->Q (.ref D) { s with heap:=h',toks:=tk }) :
  wpAny (model prog w) A (call (.builtin "sorted") [.ref z] [(Str.ofString "key", .ref f)]) Q E s:=by
 refine call_function_entry_kw kind_sorted plain_sorted entry_sorted (ksk_s1 _ _) ?_
 unfold Builtin.«sorted»
 refine wpAny_bind (m:=checkCount "sorted" 1 1 _) (wpAny_pure ?_)
 refine wpAny_bind (QZ hh D N1 N2 h0 (by rw[sizeLine_eq]; omega) hN hr1 hr2 hz hI hO h1 h2 fun g1 tk1 Ts kp ts tl=>?_)
 refine wpAny_bind (wpAny_newList ?_ (by rw[List.length_map,tl,sizeLine_eq]; omega))
 have pu:∀b o,g1.get? b=some o->(g1.push (seqObj "list" (Ts.map Value.ref).toArray 0)).get? b=some o:=fun b o e=>Heap.get?_push_of_some _ e
 have hoD:(g1.push (seqObj "list" (Ts.map Value.ref).toArray 0)).get? g1.objs.size=some (seqObj "list" (Ts.map Value.ref).toArray 0):=Heap.get?_push_size _ rfl
 have hsg:s.heap.objs.size<=g1.objs.size:=by
  obtain⟨T,hT⟩:∃T,Ts[0]?=some T:=⟨_,List.getElem?_eq_getElem (by omega)⟩
  obtain⟨_,_,_,_,p⟩:=ts.2.2 0 T hT
  exact Nat.le_of_lt (Nat.lt_of_le_of_lt (Nat.le_trans (Nat.le_succ _) (ts.2.1 T (List.mem_of_getElem? hT))) (Heap.lt_size p))
 have hns1:g1.Ns L m:=by
  obtain⟨o,es,ep,e,r⟩:=hns
  exact⟨o,es,ep,kp _ _ hL e,r⟩
 have nL:∀{b:Addr},s.heap.objs.size<=b->b≠L:=fun h e=>by
  rw[e] at h
  exact absurd hns.lt (Nat.not_lt.mpr h)
 have F:Fr h00 L (g1.push (seqObj "list" (Ts.map Value.ref).toArray 0)) m:=⟨hns1.keeps pu,fun b o e=>(by rw[zB] at e; cases e),Nat.zero_le _⟩
 have W:News h00 L (g1.push (seqObj "list" (Ts.map Value.ref).toArray 0)) (vQ g1 L):=(jB (h:=g1) (L:=L)).grown pu
 have inN:∀{b:Addr} {o:Obj},b∉[L,z,TO,i1,i2]->s.heap.get? b=some o->(b,o)∈vQ g1 L:=fun {b o} hb e=>vD (kp b o (fun h=>hb (List.mem_cons_of_mem _ h)) e) fun h=>hb (by rw[h]; simp)
 obtain⟨c2,oc,vs,tq,hc2,hoc,hcv⟩:=id hcd
 cases hc2
 refine wpAny_bind (wpAny_holding (wpAny_call_entry_kw slot_list_sort ⟨_,hoD,rfl⟩ entry_list_sort ?body (ksk_l1 _ _)))
 case body =>
  show wpAny (model prog w) A.in1.in1 (Builtin.«list.sort» ⟨[.ref g1.objs.size], [(Str.ofString "key", .ref f)]⟩) _ _ _
  rw[ksk_t1]
  refine ksk_sort (kz:=ks) (vs:=Ts.map Value.ref) (news:=vQ g1 L) F W hoD (nL hsg) (zB _) (fun p hp=>?_) (by rw[List.length_map,tl]) (by rw[List.length_map,tl]; exact h64) (fun i v k hv hk h tk own F' W'=>?_) fun h' tk out c F' W' ko=>⟨_,rfl,wpAny_pure ⟨_,rfl, ?_⟩⟩
  ·exact Nat.ne_of_lt (Heap.lt_size ((jB (h:=g1) (L:=L)) p hp).1)
  ·obtain⟨T,hT,rfl⟩:∃T,Ts[i]?=some T/\v=.ref T:=by
    rw[List.getElem?_map] at hv
    obtain⟨T,h1,h2⟩:=Option.map_eq_some_iff.mp hv
    exact⟨T,h1,h2.symm⟩
   obtain⟨u,y,hu,hy,hp⟩:=ts.2.2 i T hT
   obtain⟨t,rfl⟩:=hys i y k hy hk
   have W2:∀p∈vQ g1 L,h.get? p.1=some p.2:=fun p hp=>(W' p (List.mem_append_left _ hp)).1
   refine lam_call (E:=fun _ _=>False) hx hb (W2 _ (inN hfz ho)) ⟨c',oc,vs,tq,rfl,W2 _ (inN hcz hoc),hcv⟩ (u:=u) (k:=k) (t:=t) (W2 (T,_) (vD hp (nL (Nat.le_trans (Nat.le_succ _) (ts.2.1 T (List.mem_of_getElem? hT)))))) hroom ?_ fun h2 tk2 k2=>⟨h2,tk2,t,rfl,rfl,F'.kept k2,W'.grown k2⟩
   obtain⟨mc,⟨o,es,ep,e,r⟩,hmc⟩:=hnl
   exact⟨mc,⟨o,es,ep,W2 (cStatics,o) (inN (fun h=>(List.mem_cons.mp h).elim hLs hsz) e),r⟩,hmc⟩
  ·obtain⟨ps,pp,po,pw⟩:=ko
   obtain⟨tr,hp,rfl⟩:=xY (fun p:Addr×Value×Int=>(p.2.2,Value.ref p.1)) pp (Ts.zip (xs.zip ks)) (zip3 tl hxl)
   have D9:=W' (g1.objs.size,seqObj "list" out c) (.head _)
   have up:∀b o,b≠L->g1.get? b=some o->h'.get? b=some o:=fun b o hb e=>(W' _ (.tail _ (vD e hb))).1
   have eo:out=(tr.map fun p=>Value.ref p.1).toArray:=by
    rw[<-Array.toArray_toList (xs:=out),po,List.map_map]
    rfl
   rw[eo] at D9
   refine q g1.objs.size h' tk c Ts tr F'.ns (fun b o h1 h2 e=>up b o h1 (kp b o h2 e)) hsg (fun p hpm=>?_) ts.1 (fun hD=>?_) tl hp ?_ D9.1
   ·obtain⟨i,h1,h2,h3⟩:=Q3 (hp.subset hpm)
    obtain⟨u,y,hu,hy,hpp⟩:=ts.2.2 i p.1 h1
    rw[h2] at hu
    cases hu
    obtain⟨t,rfl⟩:=hys i y _ hy h3
    have hs1:=Nat.le_trans (Nat.le_succ _) (ts.2.1 p.1 (List.mem_of_getElem? h1))
    exact⟨hs1,t,up _ _ (nL hs1) hpp⟩
   ·obtain⟨i,hi⟩:=List.getElem?_of_mem hD
    obtain⟨_,_,_,_,hpp⟩:=ts.2.2 i _ hi
    exact absurd (Heap.lt_size hpp) (Nat.lt_irrefl _)
   ·rw[List.pairwise_map] at pw
    exact pw.imp fun h=>by simpa using h
def V7 (N H:Hp):Hp:=fun b=>match N b with
 |some o=>some o
 |none=>H b
theorem xD {N H:Hp} {b:Addr} {o:HO} (e:N b=some o):V7 N H b=some o:=by unfold V7; rw[e]
theorem vb {N H:Hp} {b:Addr} (e:N b=none):V7 N H b=H b:=by unfold V7; rw[e]
theorem Inv.many {pins:List (Addr×Obj)} {σ:St} {H N:Hp} {s:Shared} {h':Heap} {t':Nat} {fp:List Addr} {m:Str->Option Value} (I:Inv X pins σ H s) (ff:∀b∈fp,FpOk X pins H b) (hn:s.heap.Ns X.env.locals m) (hn':h'.Ns X.env.locals m)
  (kp:∀b o,b≠X.env.locals->b∉fp->s.heap.get? b=some o->h'.get? b=some o) (new:∀b o,N b=some o->s.heap.objs.size<=b/\ObjOk X.prog X.w (V7 N H) h' b o):Inv X pins σ (V7 N H) { s with heap:=h',toks:=t' }:=by
 have no:∀{b:Addr} {u:HO},H b=some u->N b=none:=fun {b u} e=>by
  cases q:N b with
  |none=>rfl
  |some o=>rw[I.hok.fresh (new b o q).1] at e; cases e
 have ng:∀{b:Addr} {u:Obj},s.heap.get? b=some u->N b=none:=fun {b u} e=>by
  cases q:N b with
  |none=>rfl
  |some o=>exact absurd (Heap.lt_size e) (Nat.not_lt.mpr (new b o q).1)
 have nf:∀b u,H b=some u->b∉fp:=fun b u q z=>by rw[(ff b z).1] at q; cases q
 have nl:∀b u,H b=some u->b≠X.env.locals:=fun b u q z=>by rw[z,I.free] at q; cases q
 refine I.step (g':=s.gens) (d':=s.drawn) (ch:=fp) (fun b hb=>?_) (fun b u hL _ c q _=>kp b u hL c q) (fun b u hL _ c q _=>⟨u.slots,kp b u hL c q⟩) (fun b u _ q n=>by rw[vb (ng q)]; exact n)
  (fun b u c q=>?_) (fun b xs q=>by rw[vb (no q)]; exact q) (fun b _ _ q=>by rw[vb (no q)]; exact q) (fun b ps q=>⟨#[],by rw[vb (no q),q]; simp⟩) (fun m' hm=>?_) (fun b u q=>?_) I.bare
 ·have f:=ff b hb
  exact⟨f.2.2.2.1,f.2.1,f.2.2.2.2.1,f.2.2.2.2.2⟩
 ·by_cases hL:b=X.env.locals
  ·rw[hL]
   obtain⟨o',_,_,e',_⟩:=hn'
   exact⟨o',e'⟩
  ·exact⟨u,kp b u hL c q⟩
 ·have:m'=m:=funext fun x=>by
   obtain⟨o,es,ep,e1,e2,e3,e4⟩:=hm
   obtain⟨o',es',ep',f1,f2,f3,f4⟩:=hn
   rw[e1] at f1; cases f1
   rw[e2] at f2; cases f2
   rw[<-e4, <-f4]
  rw[this]
  exact hn'
 ·cases hb:N b with
  |some o=>rw[xD hb] at q; cases q; exact(new b _ hb).2
  |none =>
   rw[vb hb] at q
   refine(I.hok b u q).stay (fun c v hcc qq=>?_) (fun c qq=>by rw[vb (no qq)]; exact qq) fun c xs qq=>by rw[vb (no qq)]; exact qq
   rcases hcc with z|z
   ·subst z; exact kp c v (nl c u q) (nf c u q) qq
   ·exact kp c v (nl c _ z) (nf c _ z) qq
theorem kI {β:Type}:∀{l:List (Addr×β)} {a:Addr} {b:β},(l.map (·.1)).Nodup->(a,b)∈l->l.lookup a=some b
 | [],_,_,_,h=>by cases h
 | (c,d)::l,a,b,nd,h=>by
  rw[List.map_cons,List.nodup_cons] at nd
  rw[List.lookup_cons]
  rcases List.mem_cons.mp h with h|h
  ·cases h; rw[beq_self_eq_true]
  ·have:(a==c)=false:=beq_eq_false_iff_ne.mpr fun e=>nd.1 (e▸List.mem_map_of_mem (f:=(·.1)) h)
   rw[this]
   exact kI nd.2 h
theorem kJ {β:Type}:∀{l:List (Addr×β)} {a:Addr} {b:β},l.lookup a=some b->(a,b)∈l
 | [],_,_,e=>by cases e
 | (c,d)::l,a,b,e=>by
  rw[List.lookup_cons] at e
  cases hb:a==c with
  |true=>rw[hb] at e; cases e; rw[eq_of_beq hb]; exact .head _
  |false=>rw[hb] at e; exact .tail _ (kJ e)
def av (u:Value):V:=(absV u).getD .non
theorem av_zip:∀{Ts:List Addr} {xs:List V} {its:List Value} {ks:List Int},Ts.length=ks.length->xs.length=ks.length->Vals xs its->(Ts.zip (its.zip ks)).map (fun p:Addr×Value×Int=>(av p.2.1,p.2.2))=xs.zip ks
 | [],xs,its,ks,h,h2,_=>by
  cases ks with
  |nil=>simp
  |cons=>cases h
 |T::Ts,xs,its,ks,h,h2,r=>by
  cases ks with
  |nil=>cases h
  |cons k ks =>
   cases r with
   |nil=>cases h2
   |cons r1 r =>
    simp only[List.map_cons,List.zip_cons_cons,List.cons.injEq]
    refine⟨?_,av_zip (by simpa using h) (by simpa using h2) r⟩
    unfold av
    rw[r1.abs]
    rfl
theorem Zl:∀{α β:Type} {l:List α} {m:List β},l.length=m.length->(l.zip m).map (·.1)=l
 |_,_, [],_,_=>by simp
 |_,_,a::l, [],h=>by cases h
 |_,_,a::l,b::m,h=>by simp only[List.zip_cons_cons,List.map_cons]; rw[Zl (by simpa using h)]
theorem xQ {h:Heap} {c b:Addr} {qual:Str} {o:Obj} (hc:h.CodeRec (.ref c) qual) (e:h.get? b=some o) (d:∀vs t,o.data=.fields vs->vs[1]?≠some (.str qual t)):c≠b:=fun z=>by
 obtain⟨c2,oc,vs,tq,hc2,hoc,hd,hv⟩:=hc
 cases hc2
 rw[z,e] at hoc
 cases hoc
 exact d vs tq hd hv
theorem VT {K:PySem.W.Frag} {c P:Addr} {p zp zpos pos lpos kp p1 p2 p3:Pos} {kk:Nat} {a b:Expr} {ta:TA} {x:Str} {ap:Pos} (hK:X.K=K) (hc:X.calm=true) (L:LamC X c P) (hr:Room 2 X.A)
  (hg:Gl X "sorted") (hm:X.mg "sorted" = none) (hgz:Gl X "zip") (hmz:X.mg "zip" = none) (ha:PA X [a,b] ta) (hs:starEach [a,b] X.env=[(false,eval a X.env),(false,eval b X.env)]) (hs2:starEach [b] X.env=[(false,eval b X.env)])
  (hx:(x==("__debug__" : Str))=false) (hb:jV x ap (lamB x p1 p2 p3 kk)) (hcl:closureFor (lamS x) X.env=pure []) :
  PE X (.Call (.Name "sorted" p) [.Call (.Name "zip" zp) [a,b] [] zpos] [⟨some "key", .Lambda (lamP x ap) (lamB x p1 p2 p3 kk) (lamS x) lpos,kp⟩] pos)
   (xh K lpos (X.env.qual ++ "<lambda>") P ta):=by
 subst hK
 intro pins s σ H Q I h
 refine wpAny_Call_Name_kw (zW I hg hm (by rfl) ?_ (by decide) (by decide))
 refine callWith_kw ?_ (by rfl) (by rfl)
 refine(show wpAny _ _ (spliced ((false,eval (.Call (.Name "zip" zp) [a,b] [] zpos) X.env)::backTo pos (starEach [] X.env))) _ _ s from ?_)
 refine Calls.spliced_cons ?_
 refine Call_ (zW I hgz hmz boot_zip (PyProof.Rows.callWith_type1 (thn (ha zpos pins s σ H _ I h) fun us s1 ⟨vs,H1,I1,r1,q1⟩=>?_) (by rw[hs,hs2]) (by rw[hs2]; rfl)))
 obtain⟨a1,a2,xs,ks,ps,e,hq1,hq2,hxl,h0,h64,T,q⟩:=q1
 subst e
 cases r1 with
 |cons r rr =>
 cases rr with
 |cons r' rr =>
 cases rr
 cases r
 cases r'
 obtain⟨m1,l1⟩:=src_h (b:=false) I1 hq1
 obtain⟨m2,l2⟩:=src_h (b:=true) I1 hq2
 obtain⟨its,rv,pt,_⟩:=I1.tuple hq1
 obtain⟨jts,rv2,pl,_⟩:=I1.list hq2
 have hil:=rv.length
 have hjl:=rv2.length
 rw[List.length_map] at hjl
 refine Q2 (Pre:=fun h=>SrcH false h a1/\SrcH true h a2) (o1:=itO false a1) (o2:=itO true a2) rfl rfl (by simpa only[and_assoc] using jW false true a1 a2) ⟨m1,m2⟩ fun h' hz hI hO t1 t2 kp=>?_
 refine Calls.spliced_nil ?_
 refine(show wpAny _ _ (evalAll [(do let v <-eval (.Lambda (lamP x ap) (lamB x p1 p2 p3 kk) (lamS x) lpos) X.env; standAt pos; pure v)]) _ _ _ from ?_)
 refine wpAny_evalAll_cons (wpAny_bind ?_)
 have I2:Inv X pins σ H1 { s1 with heap:=h' }:=I1.kept (t':=s1.toks) kp
 refine lam_eval I2 L T hcl rfl fun f c' ctv g tk H2 ps' I3 kp3 hf hfs hcr T' old new cov=>?_
 refine wpAny_bind (wpAny_standAt (wpAny_pure (wpAny_evalAll_nil ?_)))
 have lz:∀{j:Nat},(s1.heap.objs.size+j:Nat)≠P:=fun {j} z=>by
  have hP:=(I1.hok P _ T.1).lt
  rw[<-z] at hP
  exact absurd hP (Nat.not_lt.mpr (Nat.le_add_right _ _))
 have up:∀b o,b≠P->h'.get? b=some o->g.get? b=some o:=kp3
 have lP:∀b o,b≠P->s1.heap.get? b=some o->g.get? b=some o:=fun b o hb e=>up b o hb (kp b o e)
 have hz3:=up _ _ (lz (j:=4)) hz
 have hI3:=up _ _ (lz (j:=2)) hI
 have hO3:=up _ _ (lz (j:=3)) hO
 have t13:=up _ _ (lz (j:=0)) t1
 have t23:=up _ _ (lz (j:=1)) t2
 have D:ZA5 (s1.heap.objs.size+4) (s1.heap.objs.size+2) (s1.heap.objs.size+3) s1.heap.objs.size (s1.heap.objs.size+1) [s1.heap.objs.size,a1] [s1.heap.objs.size+1,a2]:=apart5 l1 l2
 have n1:a1≠P:=fun z=>by
  obtain⟨o,e,hcl,_⟩:=pt
  have:=I1.hok P _ T.1
  rw[z,show s1.heap.get? P=some (tabObj ps) from this] at e
  cases e
  cases hcl
 have n2:a2≠P:=fun z=>by
  obtain⟨o,e,hcl,_⟩:=pl.isList
  have:=I1.hok P _ T.1
  rw[z,show s1.heap.get? P=some (tabObj ps) from this] at e
  cases e
  cases hcl
 have N1:Nx X.prog X.w s1.heap.objs.size [s1.heap.objs.size,a1] (fun i h=>h.IsTupleIter s1.heap.objs.size a1 i/\h.IsTuple a1 its.toArray) ks.length fun i x=>its[i]?=some x:=by
  have:=nx_tup (P:=X.prog) (w:=X.w) (vs:=its) (it:=s1.heap.objs.size) (l:=a1) (Nat.ne_of_lt l1)
  rwa [<-hil,hxl] at this
 have N2:Nx X.prog X.w (s1.heap.objs.size+1) [s1.heap.objs.size+1,a2] (fun i h=>h.IsListIter (s1.heap.objs.size+1) a2 i/\h.IsList a2 jts.toArray) ks.length fun i x=>jts[i]?=some x:=by
  have:=Xk (P:=X.prog) (w:=X.w) (vs:=jts) (it:=s1.heap.objs.size+1) (l:=a2) (Nat.ne_of_lt (Nat.lt_succ_of_lt l2))
  rwa [<-hjl] at this
 have gs:s1.heap.objs.size+4<g.objs.size:=Heap.lt_size hz3
 obtain⟨m,hn,_⟩:=I3.loc
 have lL:X.env.locals<s1.heap.objs.size:=I1.lt
 have lS:cStatics<s1.heap.objs.size:=by
  obtain⟨mc,hmc,_⟩:=I1.ok.mod.nolimit
  exact Nat.lt_of_lt_of_le hmc.lt (Nat.le_trans I1.ok.bsz I1.sz)
 have lSL:cStatics≠X.env.locals:=by
  obtain⟨mc,hmc,_⟩:=I1.ok.mod.nolimit
  exact Nat.ne_of_lt (Nat.lt_of_lt_of_le hmc.lt (Nat.le_trans I1.ok.bsz I1.ok.above))
 have nz:∀{b:Addr},b<s1.heap.objs.size->b∉[s1.heap.objs.size+4,s1.heap.objs.size+3,s1.heap.objs.size,s1.heap.objs.size+1]:=fun {b} hb h=>by
  simp only[List.mem_cons,List.not_mem_nil,or_false] at h
  rcases h with h|h|h|h
  all_goals (rw[h] at hb; exact absurd hb (Nat.not_lt.mpr (by first|exact Nat.le_add_right _ _|exact Nat.le_refl _)))
 have lf:∀{j:Nat},j<5->f≠s1.heap.objs.size+j:=fun {j} hj z=>by
  have h1:s1.heap.objs.size+4<h'.objs.size:=Heap.lt_size hz
  rw[z] at hfs
  have h2:h'.objs.size<=s1.heap.objs.size+j:=hfs
  omega
 have gl:∀c∈[s1.heap.objs.size+4,s1.heap.objs.size+2,s1.heap.objs.size+3,s1.heap.objs.size,s1.heap.objs.size+1],c<g.objs.size/\s1.heap.objs.size<=c:=fun c hc=>by
  simp only[List.mem_cons,List.not_mem_nil,or_false] at hc
  rcases hc with rfl|rfl|rfl|rfl|rfl
  all_goals exact⟨by omega,by omega⟩
 have a1g:a1<g.objs.size:=Nat.lt_trans l1 (Nat.lt_of_le_of_lt (Nat.le_add_right _ _) gs)
 have a2g:a2<g.objs.size:=Nat.lt_trans l2 (Nat.lt_of_le_of_lt (Nat.le_add_right _ _) gs)
 refine(show wpAny _ _ (call (.builtin "sorted") [.ref (s1.heap.objs.size+4)] [(Str.ofString "key", .ref f)]) _ _ _ from ?_)
 refine VN (TI:=s1.heap.objs.size+2) (TO:=s1.heap.objs.size+3) (i1:=s1.heap.objs.size) (i2:=s1.heap.objs.size+1) (L:=X.env.locals) (c':=c') (xs:=its) (ys:=jts) (ks:=ks) (hr.hd) D N1 N2 h0 h64 (by rw[<-hil]; exact hxl) (fun c hc=>(gl c hc).1) ?_ ?_ hz3 hI3 hO3 ?_ ?_ hn (nz lL) lSL ?_ hx hb hf ?_ hcr ?_ (nz lS) ?_ I3.nolimit fun D h3 tk3 cc Ts tr hn3 kp4 hD htr nd hDT tl pm pw hl=>?_
 ·intro c hc
  simp only[List.mem_cons,List.not_mem_nil,or_false] at hc
  rcases hc with rfl|rfl
  ·exact Nat.lt_of_le_of_lt (Nat.le_add_right _ _) gs
  ·exact a1g
 ·intro c hc
  simp only[List.mem_cons,List.not_mem_nil,or_false] at hc
  rcases hc with rfl|rfl
  ·exact Nat.lt_of_le_of_lt (by show s1.heap.objs.size+1<=s1.heap.objs.size+4; omega) gs
  ·exact a2g
 ·refine⟨it_O (b:=false) t13, ?_⟩
  obtain⟨o,e,r⟩:=pt
  exact⟨o,lP _ _ n1 e,r⟩
 ·refine⟨it_O (b:=true) t23, ?_⟩
  obtain⟨o,e,r⟩:=pl.isList
  exact⟨o,lP _ _ n2 e,r⟩
 ·intro j y k hy hk
  exact rv2.get2 (i:=j) (x:=.int k) (by rw[List.getElem?_map,hk]; rfl) hy
 ·intro h
  simp only[List.mem_cons,List.not_mem_nil,or_false] at h
  rcases h with h|h|h|h|h
  ·rw[h] at hfs
   exact absurd (Nat.lt_of_lt_of_le lL (Nat.le_trans (Nat.le_of_lt (Nat.lt_of_le_of_lt (Nat.le_add_right _ _) (Heap.lt_size hz))) hfs)) (Nat.lt_irrefl _)
  ·exact lf (j:=4) (by decide) h
  ·exact lf (j:=3) (by decide) h
  ·exact lf (j:=0) (by decide) h
  ·exact lf (j:=1) (by decide) h
 ·intro h
  simp only[List.mem_cons,List.not_mem_nil,or_false] at h
  rcases h with h|h|h|h|h
  ·obtain⟨o,es,ep,e,hd,_⟩:=hn
   exact xQ hcr e (fun vs t z=>by rw[hd] at z; cases z) h
  ·exact xQ hcr hz3 (fun vs t z=>by cases z; simp) h
  ·exact xQ hcr hO3 (fun vs t z=>by cases z) h
  ·exact xQ hcr t13 (fun vs t z=>by cases z; simp) h
  ·exact xQ hcr t23 (fun vs t z=>by cases z; simp) h
 ·have:=hr.dp
  show X.A.depth<_
  omega
 ·have zl:Ts.length=(its.zip ks).length:=by rw[List.length_zip,tl, <-hil,hxl,Nat.min_self]
  have tf:(tr.map (·.1)).Perm Ts:=by have:=pm.map (·.1); rwa [Zl zl] at this
  have tnd:(tr.map (·.1)).Nodup:=tf.nodup_iff.mpr nd
  have tlen:tr.length=ks.length:=by rw[pm.length_eq,List.length_zip, <-zl,tl,Nat.min_self]
  have rel:∀p∈tr,RelV (av p.2.1) p.2.1:=fun p hp=>by
   obtain⟨i,_,h2,_⟩:=Q3 (pm.subset hp)
   obtain⟨x,_,r⟩:=Paired.getR rv h2
   unfold av
   rw[r.abs]
   exact r
  have g4:s1.heap.objs.size<=g.objs.size:=Nat.le_of_lt (Nat.lt_of_le_of_lt (Nat.le_add_right _ _) gs)
  have new9:∀b o,(if b=D then some (HO.lst (tr.map fun p=>V.ref p.1)) else(tr.lookup b).map fun y=>HO.tup [av y.1, .int y.2])=some o->g.objs.size<=b/\∀H9,ObjOk X.prog X.w H9 h3 b o:=fun b o e=>by
   by_cases hb:b=D
   ·rw[if_pos hb] at e
    cases e
    rw[hb]
    refine⟨hD,fun H9=>⟨by rw[List.length_map,tlen,sizeLine_eq]; omega,tr.map fun p=>Value.ref p.1,cc, ?_,hl⟩⟩
    clear hl pw pm htr tf tnd tlen rel
    induction tr with
    |nil=>exact .nil
    |cons p tr ih=>exact .cons rfl ih
   ·rw[if_neg hb] at e
    obtain⟨y,h1,h2⟩:=Option.map_eq_some_iff.mp e
    cases h2
    have hm:=kJ h1
    obtain⟨z1,t,z2⟩:=htr _ hm
    exact⟨z1,fun H9=>⟨by show 2<=sizeLine; decide, [y.1, .int y.2 t], .cons (rel _ hm) (.cons ⟨t,rfl⟩ .nil),_,z2,rfl,_,rfl⟩⟩
  have ff:∀b∈[s1.heap.objs.size+4,s1.heap.objs.size+3,s1.heap.objs.size,s1.heap.objs.size+1],FpOk X pins H2 b:=fun b hb=>by
   have hb2:s1.heap.objs.size<=b/\b<h'.objs.size:=by
    have h1:s1.heap.objs.size+4<h'.objs.size:=Heap.lt_size hz
    simp only[List.mem_cons,List.not_mem_nil,or_false] at hb
    rcases hb with rfl|rfl|rfl|rfl
    all_goals exact⟨by omega,by omega⟩
   refine I1.fpOk hb2.1 ?_
   cases e:H2 b with
   |none=>rfl
   |some o =>
    rcases cov b (by rw[e]; simp) with z|⟨_,z⟩
    ·exact absurd (I1.hok.fresh hb2.1) z
    ·exact absurd hb2.2 (Nat.not_lt.mpr z)
  have no:∀{b:Addr} {o:HO},H2 b=some o->(if b=D then some (HO.lst (tr.map fun p=>V.ref p.1)) else(tr.lookup b).map fun y=>HO.tup [av y.1, .int y.2])=none:=fun {b o} e=>by
   cases q9:(if b=D then some (HO.lst (tr.map fun p=>V.ref p.1)) else(tr.lookup b).map fun y=>HO.tup [av y.1, .int y.2]) with
   |none=>rfl
   |some u=>rw[I3.hok.fresh (new9 b u q9).1] at e; cases e
  refine⟨.ref D,_,I3.many (t':=tk3) (N:=fun b=>if b=D then some (HO.lst (tr.map fun p=>V.ref p.1)) else(tr.lookup b).map fun y=>HO.tup [av y.1, .int y.2]) ff hn hn3 kp4 (fun b o e=>⟨(new9 b o e).1,(new9 b o e).2 _⟩),rfl, ?_⟩
  refine q (tr.map fun p=>(av p.2.1,p.2.2)) (tr.map (·.1)) D _ ps' ⟨by have:=pm.map fun p:Addr×Value×Int=>(av p.2.1,p.2.2); rwa [av_zip tl hxl rv] at this,List.pairwise_map.mpr pw⟩ (fun b o e hb=>?_) ⟨?_,T'.2.1, ?_⟩ new (I1.hok.fresh (Nat.le_trans g4 hD)) ?_ (fun t ht=>?_) (by simp) fun i t x k e1 e2=>?_
  ·have e:=old b o e hb
   rw[vb (no e)]; exact e
  ·rw[vb (no T'.1)]; exact T'.1
  ·rcases T'.2.2 with z|⟨c2,z,hc2⟩
   ·exact .inl z
   ·exact .inr ⟨c2,z,by rw[vb (no hc2)]; exact hc2⟩
  ·refine xD ?_
   rw[if_pos rfl,List.map_map]
   rfl
  ·obtain⟨p,hp,rfl⟩:=List.mem_map.mp ht
   exact I1.hok.fresh (Nat.le_trans g4 (htr p hp).1)
  ·rw[List.getElem?_map] at e1 e2
   obtain⟨p,hp,rfl⟩:=Option.map_eq_some_iff.mp e1
   rw[hp] at e2
   cases e2
   have hm:=List.mem_of_getElem? hp
   refine xD ?_
   rw[if_neg fun z=>hDT (by rw[<-z]; exact tf.subset (List.mem_map_of_mem hm)),kI tnd (b:=p.2) hm]
   rfl
end
end L2
namespace L2
open PySem PySem.Spec PyProof.Rows PySem.W
section
variable {X:Cx}
theorem VR {K:PySem.W.Frag} {c P:Addr} {p zp zpos pos lpos kp p1 p2 p3:Pos} {kk:Nat} {a b:Expr} {ta:TA} {x:Str} {ap:Pos} (hK:X.K=K) (hc:X.calm=true) (L:LamC X c P) (hr:Room 2 X.A)
  (hm:X.mg "sorted" = none) (hmz:X.mg "zip" = none) (ha:QA X [a,b] ta) (hg:Gl X "sorted" := by rfl) (hgz:Gl X "zip" := by rfl) (hs:starEach [a,b] X.env=[(false,eval a X.env),(false,eval b X.env)]:=by rfl) (hs2:starEach [b] X.env=[(false,eval b X.env)]:=by rfl)
  (hx:(x==("__debug__" : Str))=false:=by decide) (hb:jV x ap (lamB x p1 p2 p3 kk):=by intro _ _ _ _ _; rfl) (hcl:closureFor (lamS x) X.env=pure []:=by rfl) :
  QE X (.Call (.Name "sorted" p) [.Call (.Name "zip" zp) [a,b] [] zpos] [⟨some "key", .Lambda (lamP x ap) (lamB x p1 p2 p3 kk) (lamS x) lpos,kp⟩] pos) (xh K lpos (X.env.qual ++ "<lambda>") P ta) :=
 ⟨VT hK hc L hr hg hm hgz hmz ha.h hs hs2 hx hb hcl⟩
end
section
variable {A:Addr->Prop} {ι:List Addr} {H:Hp} {M:MM} {K:PySem.W.Frag} {te:TE} {ue:UE} {P:Addr} {pos:Pos} {qual:Str}
def LamS (P:Addr) (pos:Pos) (qual:Str) (ns:List Str) (y:U) (M:MM) (Q:UK):Prop:=∃(k:Nat) (ks:List Int),ql M y=some ((ks.map T.int).map U.p)/\ns.length=ks.length/\0<ks.length/\ks.length<64/\M[k]?=some (.tab P pos qual) /\
 ∀out:List (Str×Int),out.Perm (ns.zip ks)->(out.Pairwise fun p q=>p.2<=q.2)->Q (.p (.lst (out.map fun p=>.tup [.str p.1, .int p.2]))) M
def jn (P:Addr) (pos:Pos) (qual:Str) (ns:List Str) (ue:UE):UE:=fun ρ M Q=>ue ρ M fun y M1=>LamS P pos qual ns y M1 Q
theorem XU:∀{vs:List V} {ks:List Int},RepUs A ι H vs ((ks.map T.int).map U.p)->vs=ks.map V.int
 |_, [],h=>by cases h; rfl
 |_,k::ks,h=>by
  cases h with
  |cons r t =>
   cases r with
   |p r=>cases r; rw[XU t]; rfl
theorem Zj:∀{ns:List Str} {ks:List Int},(ns.map V.str).zip ks=(ns.zip ks).map fun p=>(V.str p.1,p.2)
 | [],_=>by simp
 |_::_, []=>by simp
 |n::ns,k::ks=>by simp only[List.map_cons,List.zip_cons_cons]; rw[Zj]
theorem V5 {kt:Addr} {ns:List Str} (hk:KTu K kt (ns.map V.str)) (hb:LE te ue):LE (xh K pos qual P (vm (tC (.ref kt)) (vm te tNil))) (jn P pos qual ns ue):=fun A ι σ H ρ M Qu Q w e q k =>
 hb A ι σ H ρ M _ _ w e q fun y M1 ι1 v H1 l1 w1 r1 ⟨kx,ks,ey,hl,h0,h64,ht,q1⟩=>by
  obtain⟨p,vs,rfl,hp,rs⟩:=qM w1 r1 ey
  obtain rfl:=XU rs
  obtain⟨a,ea,ps,hT,⟨tr,rfl⟩,hc⟩:=w1.at ht
  have hPι:a∈ι1:=List.mem_of_getElem? ea
  refine⟨kt,p,ns.map V.str,ks,ps,rfl,hk H1,SqL.of hp,by rw[List.length_map]; exact hl,h0,h64,⟨hT,tr,hc.imp id fun⟨c,z1,z2,_⟩=>⟨c,z1,z2⟩⟩,fun out ts l H' ps' ko old T' new hl0 hl1 ht0 htl htt=>?_⟩
  have le2:Le ι1 H1 ι1 H':=⟨⟨[],by simp,by simp⟩,fun x o e n=>old x o e fun z=>n (z▸hPι),fun x e=>by
   by_cases hx:x=a
   ·rw[hx,T'.1]; simp
   ·cases q9:H1 x with
    |none=>exact absurd q9 e
    |some o=>rw[old x o q9 hx]; simp⟩
  have nι:∀{x:Addr},H1 x=none->x∉ι1:=fun hx z=>by
   obtain⟨o,ho⟩:=w1.mem_some z
   rw[hx] at ho; cases ho
  have nA:∀{x:Addr},H1 x=none->¬Av A ι1 x:=fun hx z=>z.elim (fun z=>w1.dom _ z hx) (nι hx)
  obtain⟨out,op,rfl⟩:=xY (fun p:Str×Int=>(V.str p.1,p.2)) ko.1 (ns.zip ks) Zj
  refine k _ M1 ι1 _ H' (l1.trans le2) ⟨w1.nd,w1.len,fun x hx=>le2.al x (w1.dom x hx),w1.na,fun k' a' o e1 e2=>?_⟩ (.p (.lst (nA hl0) hl1 (by simp[htl]) fun i v t e1 e2=>?_)) (q1 out op ((List.pairwise_map (f:=fun p:Str×Int=>(V.str p.1,p.2)) (R:=fun p q=>p.2<=q.2)).mp ko.2))
  ·by_cases h9:a'=a
   ·subst h9
    have:k'=kx:=by
     obtain⟨b1,c1⟩:=List.getElem?_eq_some_iff.mp e1
     obtain⟨b2,c2⟩:=List.getElem?_eq_some_iff.mp ea
     exact(List.getElem_inj w1.nd).mp (c1.trans c2.symm)
    subst this
    rw[ht] at e2
    cases e2
    refine⟨ps',T'.1,⟨T'.2.1,rfl⟩,T'.2.2.imp id fun⟨c,z1,z2⟩=>⟨c,z1,z2, ?_⟩⟩
    rcases new c z1 with z|z
    ·rcases hc with y9|⟨c2,y1,y2,y3⟩
     ·rw[y9] at z; cases z
     ·rw[y1] at z; cases z; exact y3
    ·exact nι z
   ·refine(w1.obj k' a' o e1 e2).le' le2 ?_ fun x hx=>?_
    ·obtain⟨o9,h8⟩:=(w1.obj k' a' o e1 e2).some
     rw[h8]; exact old _ _ h8 h9
    ·rw[hx]; exact old _ _ hx fun z=>by rw[z,hT] at hx; cases hx
  ·rw[List.getElem?_map] at e1 e2
   obtain⟨t9,h1,rfl⟩:=Option.map_eq_some_iff.mp e1
   obtain⟨p9,h2,rfl⟩:=Option.map_eq_some_iff.mp e2
   refine .tupP (nA (ht0 t9 (List.mem_of_getElem? h1))) (htt i t9 (.str p9.1) p9.2 h1 (by rw[List.getElem?_map,h2]; rfl)) (.cons (.str _) (.cons (.int _) .nil))
theorem Zc {kt:Addr} {ns:List Str} (hk:KTu K kt (ns.map V.str)) (hb:ZE te ue):ZE (xh K pos qual P (vm (tC (.ref kt)) (vm te tNil))) (jn P pos qual ns ue):=⟨V5 hk hb.h⟩
def itZK (y:U) (ns:List Str) (ss:List T):UIt:=⟨min ns.length ss.length,fun M=>ql M y=some (ss.map U.p),fun i z=>∃n s,ns[i]?=some n/\ss[i]?=some s/\z=.p (.tup [.str n,s])⟩
def ZipNS (ns:List Str) (y:U) (M:MM) (Q:UIt->MM->Prop):Prop:=∃ss:List T,ql M y=some (ss.map U.p)/\Q (itZK y ns ss) M
def uZipK (ns:List Str) (ue:UE):UI:=fun ρ M Q=>ue ρ M fun y M1=>ZipNS ns y M1 Q
theorem li_zipK {kt:Addr} {ns:List Str} (hk:KTu K kt (ns.map V.str)) (hb:LE te ue):LI (iZip K false true (vm (tC (.ref kt)) (vm te tNil))) (uZipK ns ue):=fun A ι σ H ρ M Qu R w e q k =>
 hb A ι σ H ρ M _ _ w e q fun y M1 ι1 v H1 l1 w1 r2 ⟨ss,ev,q1⟩=>by
  obtain⟨p2,us2,rfl,h2,g2⟩:=qM w1 r2 ev
  refine⟨kt,p2,ns.map V.str,us2,rfl,hk H1,SqL.of h2,k _ M1 ι1 _ H1 l1 w1 ?_ q1⟩
  intro A' ι2 H2 M2 i l w2 ok
  obtain⟨p2',vs2,e2,h5,h6⟩:=qM w2 (r2.lea l) ok
  cases e2
  have t2:=h6.pures
  have hl2:=t2.len
  refine⟨fun hi=>?_,fun hi=>⟨ns.map V.str,vs2,hk H2,SqL.of h5, ?_⟩⟩
  ·have hi:i<min ns.length ss.length:=hi
   have hx:(ns.map V.str)[i]?=some ((ns.map V.str)[i]'(by rw[List.length_map]; omega)):=List.getElem?_eq_getElem _
   have hy:vs2[i]?=some (vs2[i]'(by omega)):=List.getElem?_eq_getElem _
   refine⟨⟨ns.map V.str,vs2,_,_,hk H2,SqL.of h5,hx,hy⟩,fun x H' y=>?_⟩
   obtain⟨r,u,v,rfl,hr,rfl,y⟩:=y
   obtain⟨y1,y2⟩:=y (ns.map V.str) vs2 (hk H2) (SqL.of h5)
   rw[List.getElem?_map] at y1
   obtain⟨n,hn,rfl⟩:=Option.map_eq_some_iff.mp y1
   obtain⟨s,hs,rs⟩:=Paired.getL t2 y2
   exact⟨_,⟨n,s,hn,hs,rfl⟩, .fresh hr,w2.fresh hr, .p (zC w2 hr (.cons (.str _) (.cons rs .nil)))⟩
  ·have hi:i=min ns.length ss.length:=hi
   rw[List.length_map]
   omega
theorem ci_zipK {kt:Addr} {ns:List Str} (hk:KTu K kt (ns.map V.str)) (hb:ZE te ue):ZI (iZip K false true (vm (tC (.ref kt)) (vm te tNil))) (uZipK ns ue):=⟨li_zipK hk hb.h⟩
end
section
variable {P:Program} {w:World} {K:PySem.W.Frag} {mg:Str->Option Value} {base:Heap}
theorem Fun.zVC {x qual:Str} {st:Stmt} {f:Addr} {fd:FuncData} {N ps:List Str} {k:Nat} {G:List U->MM->UK->Prop} (F:Fun K x qual st f fd) (S:FnScope N ps (qg st)) (len:∀us M Qu,G us M Qu->us.length=ps.length)
  (hbody:∀(cdv:Value) (A:Around) (outer:List Env) (s:Shared) (H:Hp) (E:XK),fd.code=cdv->Room k (A.deeper (envOfC qual (qg st) s.heap.objs.size f cdv)) ->
   ∃t,QSs (cxOf CX0 P w K mg base N qual (qg st) f cdv A outer s H E).nox (ve st) t/\∃u,ZS t u/\∀us M M1 Qu,M1=M->G us M Qu->u { nx:=fun _ M'=>Qc M M'/\Qu (.p .non) (M'.take M.length),rt:=fun z M'=>Qc M M'/\∃t,frzB M.length 4 M' z=some t/\Qu (.p t) (M'.take M.length) } (zt N us) M1):FnOk P w K mg base CX0 (k+1) f fd ps (spU G):=by
 obtain⟨oc,od,kV,doc,pm,an,cdv,ct,osl,rfl,lk,hcd⟩:=F.ex
 refine fn_of lk hcd S (fun vs H Q E h=>?_) fun A outer s H vs Q E hr h=>?_
 ·obtain⟨A,ι,M,us,Qu,w1,r,g,_⟩:=h
  rw[r.len]; exact len us M Qu g
 ·obtain⟨B,ι,M,us,Qu,w1,r,g,kk⟩:=h
  obtain⟨t,ht,u,hu,hb⟩:=hbody cdv A outer s H E rfl hr
  have less:∀{ι1:List Addr} {H1:Hp},Le ι H ι1 H1->Le ι H ι H1:=fun l=>⟨⟨[],by simp,by simp⟩,l.fr,l.al⟩
  refine⟨t,ht.h.nox,hu.h B ι _ H _ M _ { nx:=fun _ M'=>Qc M M'/\Qu (.p .non) (M'.take M.length),rt:=fun z M'=>Qc M M'/\∃t,frzB M.length 4 M' z=some t/\Qu (.p t) (M'.take M.length) } w1 (zr r) ⟨fun ι1 σ1 H1 ρ1 M1 l1 w2 e1 q1=>?_,fun ι1 v H1 z M1 l1 w2 r1 q1=>?_,fun _ _ _ _ _ _ _ _ q=>q.elim,fun _ _ _ _ _ _ _ _ q=>q.elim⟩ (hb us M M Qu rfl g)⟩
  ·obtain⟨tr,q⟩:=q1
   obtain⟨m,rfl,_⟩:=id l1.ext
   exact kk _ _ ι _ H1 (less l1) (w2.trim w1 tr) (.p .non) q
  ·obtain⟨tr,t1,et,q⟩:=q1
   obtain⟨m,rfl,_⟩:=id l1.ext
   rw[<-w1.len] at et
   exact kk _ _ ι v H1 (less l1) (w2.trim w1 tr) (.p (jO w2 r1 et)) q
end
end L2
namespace L2
open PySem PySem.Spec PyProof.Rows PySem.W
def Vf (R:List (Nat×Nat)):Nat->Nat->Nat->Bool
 |0,a,b=>a==b
 |f+1,a,b=>a==b||R.any fun r=>r.1==a&&Vf R f r.2 b
def ascR (R:List (Nat×Nat)):List Nat->Bool
 |a::b::l=>Vf R 5 a b&&ascR R (b::l)
 |_=>true
def chkR (n:Nat):KasT (Array Nat)->List (Nat×Nat)->Bool
 |.ret p,R=>ascR R p.toList&&(p.toList).isPerm (List.range n)
 |.ask i j k,R=>Nat.blt i n&&(Nat.blt j n&&(chkR n (k true) ((i,j)::R)&&chkR n (k false) ((j,i)::R)))
section
variable {f:Nat->Int} {R:List (Nat×Nat)}
theorem Ve (h:∀r∈R,f r.1<=f r.2):∀{k a b:Nat},Vf R k a b=true->f a<=f b
 |0,a,b,e=>by
  have e:(a==b)=true:=e
  rw[eq_of_beq e]; exact Int.le_refl _
 |k+1,a,b,e=>by
  unfold Vf at e
  rcases Bool.or_eq_true_iff.mp e with e|e
  ·rw[eq_of_beq e]; exact Int.le_refl _
  ·obtain⟨r,hr,e⟩:=List.any_eq_true.mp e
   obtain⟨e1,e2⟩:=Bool.and_eq_true_iff.mp e
   rw[<-eq_of_beq e1]
   exact Int.le_trans (h r hr) (Ve h e2)
theorem asc_pw (h:∀r∈R,f r.1<=f r.2):∀{l:List Nat},ascR R l=true->l.Pairwise fun a b=>f a<=f b
 | [],_=>.nil
 | [_],_=>by simp
 |a::b::l,e=>by
  unfold ascR at e
  obtain⟨e1,e2⟩:=Bool.and_eq_true_iff.mp e
  have i:=asc_pw h e2
  have ab:=Ve h e1
  refine .cons (fun c hc=>?_) i
  rcases List.mem_cons.mp hc with rfl|hc
  ·exact ab
  ·exact Int.le_trans ab ((List.pairwise_cons.mp i).1 c hc)
theorem Je {n:Nat} {cmp:Nat->Nat->(Bool->Shared->Prop)->Shared->Prop} {Q:Array Nat->Shared->Prop} {s:Shared} (hc:∀i j (C:Bool->Shared->Prop),i<n->j<n->C (decide (f i<f j)) s->cmp i j C s)
  (q:∀p:Array Nat,p.toList.Perm (List.range n)->(p.toList.Pairwise fun a b=>f a<=f b)->Q p s):∀(t:KasT (Array Nat)) (R:List (Nat×Nat)),chkR n t R=true->(∀r∈R,f r.1<=f r.2)->t.kasWp cmp Q s
 |.ret p,R,e,h=>by
  unfold chkR at e
  obtain⟨e1,e2⟩:=Bool.and_eq_true_iff.mp e
  exact q p (List.isPerm_iff.mp e2) (asc_pw h e1)
 |.ask i j k,R,e,h=>by
  unfold chkR at e
  obtain⟨e1,e⟩:=Bool.and_eq_true_iff.mp e
  obtain⟨e2,e⟩:=Bool.and_eq_true_iff.mp e
  obtain⟨e3,e4⟩:=Bool.and_eq_true_iff.mp e
  show cmp i j (fun b s'=>(k b).kasWp cmp Q s') s
  refine hc i j _ (by simpa using e1) (by simpa using e2) ?_
  by_cases hl:f i<f j
  ·rw[decide_eq_true hl]
   exact Je hc q (k true) _ e3 fun r hr=>by
    rcases List.mem_cons.mp hr with rfl|hr
    ·exact Int.le_of_lt hl
    ·exact h r hr
  ·rw[decide_eq_false hl]
   exact Je hc q (k false) _ e4 fun r hr=>by
    rcases List.mem_cons.mp hr with rfl|hr
    ·exact Int.not_lt.mp hl
    ·exact h r hr
end
theorem kas5:chkR 5 (kas_sort 5) []=true:=by decide +kernel
section
variable {X:Cx} {K:PySem.W.Frag}
def key5 (p:Int×Int):Int:=5*p.1+p.2
theorem lex5 {a b:Int×Int} (ha:0<=a.2/\a.2<5) (hb:0<=b.2/\b.2<5):lex2 a b=decide (key5 a<key5 b):=by
 obtain⟨a1,a2⟩:=a
 obtain⟨b1,b2⟩:=b
 simp only[lex2,key5] at *
 by_cases h1:a1<b1
 ·have:5*a1+a2<5*b1+b2:=by omega
  simp[h1,this]
 ·by_cases h2:a1=b1
  ·subst h2
   simp
  ·have:¬5*a1+a2<5*b1+b2:=by omega
   simp[h1,h2,this]
theorem Vp {h:Heap}:∀{xs:List Addr} {ps:List (Int×Int)},Paired (fun x (p:Int×Int)=>∃t1 t2,IsTup h x #[.int p.1 t1, .int p.2 t2]) xs ps->∃fs,KatTups h (xs.map Value.ref) fs/\(∀v∈fs,∃i t,v=.int i t)/\fs.length=ps.length
 |_,_, .nil=>⟨[], .nil,by simp,rfl⟩
 |_,_, .cons r q=>by
  obtain⟨fs,k,i,l⟩:=Vp q
  obtain⟨t1,t2,o,ho,hc,n,hd⟩:=r
  exact⟨_, .cons ho hc hd rfl k,fun v hv=>by
   rcases List.mem_cons.mp hv with rfl|hv
   ·exact⟨_,_,rfl⟩
   ·exact i v hv,by simp[l]⟩
theorem Qh {prog:Program} {w:World} {A:Around} {E:Value->Shared->Prop} {s:Shared} {h₀:Heap} {L:Addr} {m:Str->Option Value} {news:List (Addr×Obj)} {l:Addr} {xs:List Addr} {ps:List (Int×Int)} {Q:Value->Shared->Prop}
  (F:Fr h₀ L s.heap m) (N:News h₀ L s.heap news) (hl:s.heap.IsList l (xs.map Value.ref).toArray) (h5:ps.length=5) (hk:∀p∈ps,0<=p.2/\p.2<5) (hx:∀h',News h₀ L h' news->Paired (fun x (p:Int×Int)=>∃t1 t2,IsTup h' x #[.int p.1 t1, .int p.2 t2]) xs ps)
  (h:∀(D:Addr) e h' (is:List Nat),Fr h₀ L h' m->News h₀ L h' news->(∀q∈news,q.1<D)->D≠L->is.Perm (List.range 5)->(is.Pairwise fun i j=>key5 (ps.getD i (0,0))<=key5 (ps.getD j (0,0)))->h'.get? D=some (seqObj "list" ((is.map fun i=>xs.getD i 0).map Value.ref).toArray e)->Q (.ref D) { s with heap:=h' }) :
  wpAny (model prog w) A (call (.builtin "sorted") [.ref l]) Q E s:=by
 have hxl:xs.length=5:=by rw[(hx _ N).len]; exact h5
 refine kat_sorted (vs:=xs.map Value.ref) F N hl (by rw[List.length_map,hxl]; decide) (by rw[List.length_map,hxl]; decide) fun D e1 h' F' N' lt=>?_
 have N0:News h₀ L h' news:=fun p hp=>N' p (.tail _ hp)
 have hx':=hx h' N0
 obtain⟨fs,kt,hi,hfl⟩:=Vp hx'
 refine kat_kind (T:=.type "int") kt (by rw[hfl,h5]; decide) (fun v hv=>?_) rfl ?_
 ·obtain⟨i,t,rfl⟩:=hi v hv
  exact .now
 ·rw[List.length_map,hxl]
  refine Je (n:=5) (f:=fun i=>key5 (ps.getD i (0,0))) (fun i j C hi hj hC=>?_) (fun p pp pw=>?_) _ [] kas5 (by simp)
  ·have gx:∀i,i<5->∃x q t1 t2,xs[i]?=some x/\ps[i]?=some q/\IsTup h' x #[.int q.1 t1, .int q.2 t2]:=fun i hi=>by
    have e1:xs[i]?=some (xs[i]'(by omega)):=List.getElem?_eq_getElem _
    have e2:ps[i]?=some (ps[i]'(by omega)):=List.getElem?_eq_getElem _
    obtain⟨t1,t2,z⟩:=hx'.get2 e1 e2
    exact⟨_,_,t1,t2,e1,e2,z⟩
   obtain⟨x,q,t1,t2,a1,a2,a3⟩:=gx i hi
   obtain⟨y,r,t3,t4,b1,b2,b3⟩:=gx j hj
   show wpAny _ _ (keyLt' _ ((xs.map Value.ref).getD i Value.none) ((xs.map Value.ref).getD j Value.none)) C _ _
   rw[List.getD_eq_getElem?_getD,List.getD_eq_getElem?_getD,List.getElem?_map,List.getElem?_map,a1,b1]
   refine two_lt (s:={ s with heap:=h' }) a3 b3 ?_
   rw[lex5 (hk q (List.mem_of_getElem? a2)) (hk r (List.mem_of_getElem? b2))]
   simpa[List.getD_eq_getElem?_getD,a2,b2] using hC
  ·have eo:(p.toList.map fun i=>(xs.map Value.ref).getD i Value.none)=((p.toList.map fun i=>xs.getD i 0).map Value.ref):=by
    rw[List.map_map]
    refine List.map_congr_left fun i hi=>?_
    have hi5:i<5:=List.mem_range.mp (pp.subset hi)
    have e1:xs[i]?=some (xs[i]'(by omega)):=List.getElem?_eq_getElem _
    simp[List.getD_eq_getElem?_getD,e1]
   rw[eo]
   exact⟨_,_,F',N', .head fun p hp=>Nat.ne_of_lt (lt p hp),fun h2 c' F2 N2=>h D c' h2 p.toList F2 (fun p hp=>N2 p (.tail _ hp)) lt (N2 (D,_) (.head _)).2.1 pp pw (N2 (D,_) (.head _)).1⟩
def rSort5 (K:PySem.W.Frag):List V->Hp->VK->Prop:=fun xs H Q=>∃(p:Addr) (as:List Addr) (ps:List (Int×Int)),xs=[.ref p]/\SqL K H p (as.map V.ref)/\ps.length=5/\(∀q∈ps,0<=q.2/\q.2<5)/\Paired (fun a (q:Int×Int)=>SqT K H a [.int q.1, .int q.2]) as ps /\
 ∀(l:Addr) (is:List Nat),H l=none->is.Perm (List.range 5)->(is.Pairwise fun i j=>key5 (ps.getD i (0,0))<=key5 (ps.getD j (0,0)))->Q (.ref l) (upd H l (.lst ((is.map fun i=>as.getD i 0).map V.ref)))
theorem Vd:∀{as:List Addr} {its:List Value},Vals (as.map V.ref) its->its=as.map Value.ref
 | [],_,h=>by cases h; rfl
 |a::as,_,h=>by
  cases h with
  |cons r t=>cases r; rw[Vd t]; rfl
theorem kj:∀(as:List Addr),Vals (as.map V.ref) (as.map Value.ref)
 | []=>.nil
 |a::as=>.cons rfl (kj as)
theorem Zd (hK:X.K=K):vP X (.builtin "sorted") (rSort5 K):=by
 subst hK
 intro pins s σ H xs us Q I r h
 obtain⟨p,as,ps,rfl,hq,h5,hk,hp,q⟩:=h
 obtain⟨u,rfl,rx⟩:=jj r
 cases rx
 obtain⟨its,r',pl,hz⟩:=I.list hq
 obtain rfl:=Vd r'
 obtain⟨m,F,W,fin⟩:=I.ledgerG
 have tup:∀{x:Addr} {q:Int×Int},SqT X.K H x [.int q.1, .int q.2]->∃t1 t2,∀h',News h00 X.env.locals h' (vQ s.heap X.env.locals)->IsTup h' x #[.int q.1 t1, .int q.2 t2]:=fun {x q} hx=>by
  obtain⟨is1,r1,p1,_⟩:=I.tuple hx
  obtain⟨t1,t2,rfl⟩:=Vk r1
  refine⟨t1,t2,fun h' W'=>?_⟩
  obtain⟨o,ho,hc,n,hd⟩:=p1
  have nl:x≠X.env.locals:=fun z=>by
   obtain⟨m2,hn,_⟩:=I.loc
   obtain⟨o',es,ep,e1,e2,e3,e4⟩:=hn
   rw[<-z,ho] at e1
   cases e1
   rw[hd] at e2
   cases e2
  exact⟨o,(W' (x,o) (vD ho nl)).1,hc,n,hd⟩
 refine Qh (ps:=ps) F W pl.isList h5 hk (fun h' W'=>Paired.mapP hp fun a q z=>let⟨t1,t2,y⟩:=tup z; ⟨t1,t2,y h' W'⟩) fun D e h' is F' W' lt nL pp pw he=>?_
 have hD:s.heap.get? D=none:=by
  cases z:s.heap.get? D with
  |none=>rfl
  |some o=>exact absurd (lt _ (vD z nL)) (Nat.lt_irrefl _)
 have new:ObjOk X.prog X.w (upd H D (.lst ((is.map fun i=>as.getD i 0).map V.ref))) h' D (.lst ((is.map fun i=>as.getD i 0).map V.ref)) :=
  ⟨by rw[List.length_map,List.length_map,pp.length_eq,List.length_range,sizeLine_eq]; decide,_,e,kj _,he⟩
 obtain⟨f1,f2⟩:=fin h' s.toks D _ F' W' hD new
 exact⟨.ref D,_,f2,rfl,q D is f1 pp pw⟩
def kr (p:Int×Int):T:=.tup [.int p.1, .int p.2]
def sSort5:List T->(T->Prop)->Prop:=fun ts Q=>∃ps:List (Int×Int),ts=[.lst (ps.map kr)]/\ps.length=5/\(∀q∈ps,0<=q.2/\q.2<5)/\∀out:List (Int×Int),out.Perm ps->(out.Pairwise fun a b=>key5 a<=key5 b)->Q (.lst (out.map kr))
theorem VQ {ps:List (Int×Int)} (h:ps.length=5):(List.range 5).map (fun i=>ps.getD i (0,0))=ps:=by
 refine List.ext_getElem? fun i=>?_
 rw[List.getElem?_map]
 by_cases hi:i<5
 ·rw[List.getElem?_range hi,List.getElem?_eq_getElem (by omega:i<ps.length)]
  simp[List.getD_eq_getElem?_getD,List.getElem?_eq_getElem (by omega:i<ps.length)]
 ·rw[List.getElem?_eq_none (by simp; omega),List.getElem?_eq_none (by omega)]
  rfl
theorem kq {A:Addr->Prop} {H:Hp}:∀{vs:List V} {ps:List (Int×Int)},RepTs A H vs (ps.map kr)->∃as:List Addr,vs=as.map V.ref/\Paired (fun a (q:Int×Int)=>H a=some (.tup [.int q.1, .int q.2])) as ps
 |_, [],h=>by cases h; exact⟨[],rfl, .nil⟩
 |_,p::ps,h=>by
  cases h with
  |cons r t =>
   obtain⟨as,rfl,q⟩:=kq t
   obtain⟨x,ys,rfl,_,hx,rx⟩:=r.tup_inv
   cases rx with
   |cons r1 rx =>
   cases rx with
   |cons r2 rx =>
   cases rx
   cases r1
   cases r2
   exact⟨x::as,rfl, .cons hx q⟩
theorem Ji:CbL (rSort5 K) sSort5:=fun A ι H M vs ts Qs Q w r ⟨ps,e,h5,hk,q⟩ k=>by
 subst e
 obtain⟨v,ev,r1⟩:=pv1 r
 subst ev
 obtain⟨p,zs,rfl,h1,h2⟩:=r1.lst_inv
 obtain⟨as,rfl,hp⟩:=kq h2
 have hl:=hp.len
 refine⟨p,as,ps,rfl,SqL.of h1,h5,hk,Paired.mapP hp fun _ _ z=>SqT.of z,fun l is hl0 pp pw=>?_⟩
 refine k _ ι _ _ (.fresh hl0) (w.fresh hl0) (vp w hl0 (ts:=(is.map fun i=>ps.getD i (0,0)).map kr) ?_) (q _ (by have:=pp.map fun i=>ps.getD i (0,0); rwa [VQ h5] at this) (List.pairwise_map.mpr pw))
 have hm:∀i∈is,i<5:=fun i hi=>List.mem_range.mp (pp.subset hi)
 clear pp pw
 induction is with
 |nil=>exact .nil
 |cons i is ih =>
  refine .cons ?_ (ih fun j hj=>hm j (.tail _ hj))
  have hi:=hm i (.head _)
  have e1:as[i]?=some (as[i]'(by omega)):=List.getElem?_eq_getElem _
  have e2:ps[i]?=some (ps[i]'(by omega)):=List.getElem?_eq_getElem _
  have e3:(as.map V.ref)[i]?=some (.ref (as[i]'(by omega))):=by rw[List.getElem?_map,e1]; rfl
  have e4:(ps.map kr)[i]?=some (kr (ps[i]'(by omega))):=by rw[List.getElem?_map,e2]; rfl
  have:=h2.get2 e3 e4
  simpa[List.getD_eq_getElem?_getD,e1,e2] using this
end
end L2
namespace L2
open PySem PySem.Spec PyProof.Rows PySem.W
theorem XF {P:Program} {w:World} {K:PySem.W.Frag} {mg mb:Str->Option Value} {CX:CXT} {k:Nat} {fa a c T:Addr} {fd:FuncData} {x:Str} {sp:Sp} {s₁:Shared} {vs:List Value} {ns:List Int}
  (KX:K.In s₁.heap) (hns:s₁.heap.Ns mainGlobals mg) (hb:s₁.heap.Ns builtinsNs mb) (hbb:∀x:Str,x ≠ "__name__" -> mb x=bootBuiltins x) (hlim:s₁.heap.NoLimit) (hg:s₁.gens=#[])
  (ha:s₁.heap.get? a=some { cls:=.type "list", data:=.seq vs.toArray }) (hi:IntsAre vs ns) (hl:ns.length<=sizeLine) (hr:Room k callerA)
  (hT:s₁.heap.get? T=some (tabObj #[])) (hC:CodeHd s₁.heap c T) (hB:s₁.heap.BuiltinsAt mg T) (hK:noTabs K=true)
  (F:∀base:Heap,K.In base->base.Ns mainGlobals mg->CodeHd base c T->base.BuiltinsAt mg T->FnOk P w K mg base CX k fa fd [x] sp) (hbind:∀(s:Shared) (u:Value),BindsTo s fd ⟨[u], []⟩ [(x,u)])
  (hsp:∀H:Hp,H T=some (.tbl #[])->SqL K H a (ns.map V.int)->sp [.ref a] H (fun v _=>v=.bl true) fun _ _ _=>False)
  (hCX:∀H e s',CX [] H s₁ (fun _ _ _=>False) e s'->False) :
  codeAny (model P w) callerA (.call (.ref fa) ⟨[.ref a], []⟩) (fun r s'=>r=.ok (.ret (.bool true))/\OldK s₁.heap s'.heap/\s'.os=s₁.os/\AllBare s'.gens) s₁:=by
 have rv:=jX hi
 have lenV:=hi.length
 have aT:a≠T:=fun z=>by rw[z,hT] at ha; cases ha
 have core:∀H:Hp,H T=some (.tbl #[])->(∀b,b≠T->H b=none\/∃o xs,H b=some (.frz o (.lst xs)))->SqL K H a (ns.map V.int)->HOk P w H s₁.heap->(∀b,H b≠none->b=a\/b=T)->(H a≠none->K.lookup a=none) ->
   codeAny (model P w) callerA (.call (.ref fa) ⟨[.ref a], []⟩) (fun r s'=>r=.ok (.ret (.bool true))/\OldK s₁.heap s'.heap/\s'.os=s₁.os/\AllBare s'.gens) s₁:=by
  intro H hHT hO hS hok hA hKa
  have base_of:∀{b:Addr} {o:Obj},s₁.heap.get? b=some o->H b=none->(hidT s₁.heap H).get? b=some o:=fun e n=>hidT_get e n
  have noA:∀{b:Addr} {o:Obj},s₁.heap.get? b=some o->o≠tabObj #[]->o≠{ cls:=.type "list", data:=.seq vs.toArray }->H b=none:=fun {b o} e d1 d2=>by
   cases q:H b with
   |none=>rfl
   |some u =>
    rcases hA b (by rw[q]; simp) with e'|e'
    ·subst e'
     rw[ha] at e; cases e
     exact absurd rfl d2
    ·subst e'
     rw[hT] at e; cases e
     exact absurd rfl d1
  have nsK:∀{b:Addr} {m:Str->Option Value},s₁.heap.Ns b m->(hidT s₁.heap H).Ns b m:=fun {b m} ⟨o,es,ep,e,d,r⟩=>⟨o,es,ep,base_of e (noA e (fun z=>by rw[z] at d; cases d) (fun z=>by rw[z] at d; cases d)),d,r⟩
  have hKb:K.In (hidT s₁.heap H):=fun b o e=>base_of (KX b o e) (by
   cases q:H b with
   |none=>rfl
   |some u =>
    rcases hA b (by rw[q]; simp) with e'|e'
    ·subst e'
     rw[hKa (by rw[q]; simp)] at e; cases e
    ·subst e'
     have e2:=KX b o e
     rw[hT] at e2; cases e2
     have h2:=List.all_eq_true.mp hK _ (mem_of_lookupK e)
     exact absurd (show false=true from h2) Bool.false_ne_true)
  have hCb:CodeHd (hidT s₁.heap H) c T:=by
   obtain⟨o,vs9,file,tf,flags,tg,inF,text,tt,e,r1,r⟩:=hC
   exact⟨o,vs9,file,tf,flags,tg,inF,text,tt,base_of e (noA e (fun z=>by rw[z] at r1; cases r1) (fun z=>by rw[z] at r1; exact absurd (Value.type.inj r1) (by decide))),r1,r⟩
  have hBb:(hidT s₁.heap H).BuiltinsAt mg T:=by
   obtain⟨bm,o,b1,b2,b3,b4,b5,b6,b7⟩:=hB
   exact⟨bm,o,b1,b2,b3,b4,base_of b5 (noA b5 (fun z=>by rw[z] at b6; cases b6) (fun z=>by rw[z] at b6; exact absurd (Value.type.inj b6) (by decide))),b6,b7⟩
  have hM:Mod K mg (hidT s₁.heap H):=⟨hKb,nsK hns,⟨mb,nsK hb,hbb⟩,let⟨mc,h1,h2⟩:=hlim; ⟨mc,nsK h1,h2⟩⟩
  have e0:Env0 P w K mg (hidT s₁.heap H) callerA [] s₁ H:=⟨rfl,hM,fun b o e=>of_hidT e,Nat.le_of_eq (XY _ _),trivial,fun b hb=>absurd (show b∈([]:List Addr) from hb) (by simp),hok, .of_eq hg⟩
  refine codeAny_mono ((F _ hKb (nsK hns) hCb hBb).run callerA [] s₁ H ⟨[.ref a], []⟩ [.ref a] [.ref a] _ _ hr e0 (hbind s₁ (.ref a)) (.cons rfl .nil) (hsp H hHT hS)) fun r s' h=>?_
  cases r with
  |error e=>exact(hCX H e s' h).elim
  |ok fl =>
   cases fl with
   |next=>exact False.elim h
   |brk=>exact False.elim h
   |cont=>exact False.elim h
   |ret u =>
    obtain⟨v,H',os,bare,un,hok',r',q⟩:=h
    have q':v=.bl true:=q
    subst q'
    obtain rfl:u=Value.bool true:=r'
    obtain⟨more,hm⟩:=un.tbls T #[] hHT
    have hT2:s'.heap.get? T=some (tabObj (#[]++more)):=hok' T _ hm
    refine⟨rfl,⟨fun b o e=>?_,fun b o e=>?_⟩,os,bare⟩
    ·by_cases hbT:b=T
     ·subst hbT
      rw[hT] at e; cases e
      exact .inr (.inl ⟨(hC.tab hT).isCodeTable,rfl, #[],more,rfl,hT2⟩)
     ·refine .inl ?_
      cases q:H b with
      |none=>exact un.keep b o e q (by intro z; exact absurd (show b∈([]:List Addr) from z) (by simp)) (by simp)
      |some u =>
       rcases hO b hbT with z|⟨ob,xs,z⟩
       ·rw[q] at z; cases z
       ·have z2:=un.frzs b ob _ z
        obtain⟨e1,_⟩:=hok b _ z
        obtain⟨e2,_⟩:=hok' b _ z2
        rw[e] at e1; cases e1
        exact e2
    ·exact un.there b o e (by simp)
 cases hk:K.lookup a with
 |some o =>
  have e:=KX a o hk
  rw[ha] at e
  cases e
  refine core (fun b=>if b=T then some (.tbl #[]) else none) (if_pos rfl) (fun b hb=>.inl (if_neg hb)) (.inr ⟨_,vs.toArray,_,hk,rfl,rfl,rfl,by rw[List.size_toArray,lenV]; exact hl,by simpa using rv⟩) (fun b u z=>?_) (fun b z=>?_) fun z=>absurd (if_neg aT) z
  ·by_cases hb:b=T
   ·have z':=(if_pos hb).symm.trans z
    cases z'
    subst hb
    exact hT
   ·have z':=(if_neg hb).symm.trans z
    cases z'
  ·by_cases hb:b=T
   ·exact .inr hb
   ·exact absurd (if_neg hb) z
 |none =>
  refine core (fun b=>if b=T then some (.tbl #[]) else if b=a then some (.frz { cls:=.type "list", data:=.seq vs.toArray } (.lst (ns.map V.int))) else none) (if_pos rfl) (fun b hb=>?_) (.inl (.inr ⟨{ cls:=.type "list", data:=.seq vs.toArray },by show(if a=T then _ else _)=_; rw[if_neg aT,if_pos rfl]⟩)) (fun b u z=>?_) (fun b z=>?_) fun _=>hk
  ·by_cases h2:b=a
   ·exact .inr ⟨_,_,by rw[if_neg hb,if_pos h2]⟩
   ·exact .inl (by rw[if_neg hb,if_neg h2])
  ·by_cases hb:b=T
   ·have z':=(if_pos hb).symm.trans z
    cases z'
    subst hb
    exact hT
   ·have z:=(if_neg hb).symm.trans z
    by_cases h2:b=a
    ·have z':=(if_pos h2).symm.trans z
     cases z'
     subst h2
     exact⟨ha,by rw[List.length_map]; exact hl,vs,_,rv,ha⟩
    ·have z':=(if_neg h2).symm.trans z
     cases z'
  ·by_cases hb:b=T
   ·exact .inr hb
   ·by_cases h2:b=a
    ·exact .inl h2
    ·exact absurd (by rw[if_neg hb,if_neg h2]) z
theorem walk_ofT {l:PySem.W.OpenLaw} {n k:Nat} {q:Program} {loose:List Str} {XP:(Str->Option Value)->Heap->Prop} {YP:World->Heap->Prop} {d dm:DefRec} {K:Params->PySem.W.Frag} {CX:World->CXT} {sp:World->Addr->Sp} {x y:Str}
  (hn:l.most=some n) (hn2:n<=sizeLine) (hdf:d.params.defaults=[]) (hr:Room k callerA)
  (hY:∀(w:World) (h:Heap),YP w h->(K w.params).In h) (hdm:(recsOf q).find? (fun e=>e.name==y)=some dm) (c T:Addr) (hc:∀w:World,tabIn (K w.params) y=some (c,T)) (hK:∀w:World,noTabs (K w.params)=true)
  (F:∀(w:World) (mg:Str->Option Value) (fa:Addr) (h:Heap),(K w.params).In h->h.Ns mainGlobals mg->mg d.name=some (.ref fa) ->
   ∃fd:FuncData,(∀(s:Shared) (u:Value),BindsTo s fd ⟨[u], []⟩ [(x,u)]) /\
    ∀base:Heap,(K w.params).In base->base.Ns mainGlobals mg->CodeHd base c T->base.BuiltinsAt mg T->FnOk l.prog w (K w.params) mg base (CX w) k fa fd [x] (sp w T))
  (hsp:∀(w:World) (H:Hp) (a:Addr) (ns:List Int),ns.length<=n->H T=some (.tbl #[])->SqL (K w.params) H a (ns.map V.int)->sp w T [.ref a] H (fun v _=>v=.bl true) fun _ _ _=>False)
  (hCX:∀(w:World) (H:Hp) (s:Shared) (e:Value) (s':Shared),CX w [] H s (fun _ _ _=>False) e s'->False) :
  PySem.W.WalkO q loose XP YP l.row.toRowW d [] (fun f vs=>PySem.call f vs):=by
 refine Att.attach_call hn hdf fun w s₀ s₁ mg mb fa o pm cd doc a vs ns G Y ho hd hcd hmg hobj hints hlen hg=>?_
 have KX:=hY w _ Y
 obtain⟨fd,hb,hF⟩:=F w mg fa _ KX G.T.g hmg
 obtain⟨hC,hT⟩:=tab_of G.T KX hdm (hc w)
 obtain⟨bm,ob,b1,b2,b3,b4,b5⟩:=G.T.bmain
 refine XF KX G.T.g G.T.b G.T.builtins G.T.nolimit hg hobj hints (Nat.le_trans hlen hn2) hr hT hC ⟨bm,ob,b1,b2,fun z=>?_,fun z=>?_,b3,b4,b5⟩ (hK w) hF hb (fun H hO hS=>hsp w H a ns hlen hO hS) fun H e s'=>hCX w H s₁ e s'
 ·obtain⟨o2,es,ep,e,hd2,_⟩:=G.T.g
  rw[z,e] at b3; cases b3; rw[hd2] at b5; cases b5.2
 ·rw[z,hT] at b3; cases b3; cases b4
section
variable {n:Nat} {tl:TA} {ul:UA} {K:PySem.W.Frag}
def truT:T->Option Bool
 |.lst ts=>some (!ts.isEmpty)
 |_=>none
def uTruC (G:List T->(T->Prop)->Prop) (ul:UA):UT:=fun ρ M Q=>ul ρ M fun us M1=>∃ts,sns M1 us=some ts/\G ts fun t=>∃b,truT t=some b/\Q b M1
theorem lt_truC {G:List T->(T->Prop)->Prop} {E:XK} (ha:LA n tl ul):LT (tTru K (vK (spP G) [] E tl)) (uTruC G ul):=fun A ι σ H ρ M Qu Q w e q k =>
 ha A ι σ H ρ M _ _ w e q fun us M1 ι1 vs H1 l1 w1 hn r1 ⟨ts,et,q1⟩=>by
  rw[List.append_nil]
  refine⟨A,ts,_,w1.dom,r1.snsT w1 et,q1,fun t v H2 s r2 ⟨b,hb,q2⟩=>⟨b, ?_,k b M1 ι1 H2 (l1.trans s.le) (w1.same s) q2⟩⟩
  cases t with
  |lst ts =>
   obtain⟨p,vs,rfl,_,h1,h2⟩:=r2.lst_inv
   cases hb
   exact .inl ⟨_,SqL.of h1,by rw[h2.empt]⟩
  |_=>cases hb
theorem ct_truC {G:List T->(T->Prop)->Prop} {E:XK} (ha:ZA n tl ul):ZT (tTru K (vK (spP G) [] E tl)) (uTruC G ul):=⟨lt_truC ha.h⟩
end
theorem kK:typeLookup (.type "list") "keys" = pure none:=by rw[typeLookup_type,builtinLookup_eq_fast]; kernel_rfl
theorem kR {prog:Program} {w:World} {A:Around} {E:Value->Shared->Prop} {s:Shared} {a:Addr} {xs:Array Value} {k:Nat} {sl:Array (Option Value)} {Q:Option Value->Shared->Prop}
  (hx:s.heap.get? a=some { cls:=.type "list", dict:=none,data:=.seq xs k,slots:=sl }) (hA:A.handled=none)
  (h:∀h' tk e,Heap.NewExcOf s.heap h' e "AttributeError" -> Q none { s with heap:=h',toks:=tk }) :
  wpAny (model prog w) A (getAttr? (.ref a) "keys") Q E s:=by
 obtain⟨hp,g,d,tk,os⟩:=s
 have hT:∀tk',(⟨hp,g,d,tk',os⟩:Shared).TypeIs (.ref a) "list" := fun _=>⟨_,hx,rfl⟩
 have f1:=sub_AttributeError
 have f3:=F.slot_list_getattribute.lookup
 have f4:=F.slot_list_getattribute.bind (.ref a)
 have f5:=am_list_getattr_none
 unfold getAttr? getAttrBy? getAttrBy
 repeat (any_goals (first|assumption|exact hT _|((with_reducible show wpAny _ _ (call (Value.builtin "list.__getattribute__") _ _) _ _ _); refine call_meets F.slot_list_getattribute (hT _) am_entry_list_getattribute (F.args_list_getattribute_2 _ _) (meets_getattribute_miss_list a xs k sl "keys" _ kK (by decide +kernel) (by size_fits)) ⟨hx,hA,fun h' tk' e hx'=>?_⟩)|wp_step))
 obtain⟨t',u',he⟩:=hx'.there
 show wpAny _ _ (getattributeRaised _ _ _ _ _ _ _) _ _ _
 unfold getattributeRaised
 repeat (any_goals (first|assumption|wp_step))
 exact h _ _ _ hx'.of
theorem vi:entryFor table "dict.update.loop" = some Builtin.«dict.update.loop»:=entryFor_of_tree (by kernel_rfl)
theorem qK:plainId "dict.update.loop" = true:=by decide +kernel
def Jw {prog:Program} {w:World} {K:Type} [DecidableEq K] (knd:KeyKind prog w K) (h:Heap) (kk:K) (vv:Value) (p:Addr):Prop:=∃key m o,knd.is kk key=true/\h.get? p=some o/\o.cls=.type "tuple" /\ o.data=.seq #[key,vv] m
theorem xU {prog:Program} {w:World} {A:Around} {K:Type} [DecidableEq K] {knd:KeyKind prog w K} (hh:A.handled=none) {I l D:Addr} {items:Array Value} {ps:List (K×Value)} (hlI:l≠I) (hDI:D≠I) (hDl:D≠l) (hn:(ps.map (·.1)).Nodup) (hps:ps.length=items.size) (hsz:ps.length<=sizeLine) {R:Result->Shared->Prop} :
  ∀(k i:Nat) (s:Shared) (tk0:Tok),items.size-i=k->i<=items.size->s.heap.IsListIter I l i->s.heap.IsList l items->(∀(i:Nat) kk vv,ps[i]?=some (kk,vv)->∃p,items[i]?=some (Value.ref p)/\p≠D/\p≠I/\Jw knd s.heap kk vv p)->s.heap.DictOf knd D (ps.take i) ->
   (∀h' tk,(∀b o,b≠D->b≠I->s.heap.get? b=some o->h'.get? b=some o)->h'.DictOf knd D ps->R (.ok (.ret .none)) { s with heap:=h',toks:=tk }) ->
   codeAny (model prog w) A (.builtin "dict.update.loop" ⟨[.ref D, .ref I, .int (i:Int) tk0, .none], []⟩) R s:=by
 have W:=Walks.list (prog:=prog) (w:=w) (A:=A.in1) (by simp[hh]) I l hlI items
 intro k
 induction k with
 |zero =>
  intro i s tk0 hk hi st hl hp hd hR
  have hin:i=items.size:=by omega
  subst hin
  refine codeAny_builtin vi ?_
  rw[Around.under_plainId qK _]
  show wpAny _ A.in1 (pyNext (.ref I) >>= _) _ _ s
  refine wpAny_bind (W.done s _ _ ⟨st,hl⟩ fun h' tk hm=>?_)
  show wpAny _ A.in1 (ret Value.none) _ _ _
  refine wpAny_pure (hR h' tk (fun b o h1 h2 e=>hm b o (by simpa using h2) e) ?_)
  rw[<-hps,List.take_length] at hd
  exact hd.at fun o e=>hm D o (by simpa using hDI) e
 |succ k ih =>
  intro i s tk0 hk hi st hl hp hd hR
  have hlt:i<items.size:=by omega
  obtain⟨⟨kk,vv⟩,hpi⟩:∃kv,ps[i]?=some kv:=⟨ps[i]'(by omega),List.getElem?_eq_getElem _⟩
  obtain⟨p,hip,hpD,hpI,key,m,po,hkey,hpo,hpc,hpd⟩:=hp i kk vv hpi
  refine codeAny_builtin vi ?_
  rw[Around.under_plainId qK _]
  show wpAny _ A.in1 (pyNext (.ref I) >>= _) _ _ s
  refine wpAny_bind (W.item i s _ _ hlt ⟨st,hl⟩ fun v h' tk hP hst' hm=>?_)
  have hP:items[i]?=some v:=hP
  rw[hip] at hP
  cases hP
  have hpo':h'.get? p=some po:=hm p _ (by simpa using hpI) hpo
  have hT:({ s with heap:=h',toks:=tk }:Shared).TypeIs (.ref p) "tuple" := ⟨_,hpo',hpc⟩
  have hd':h'.DictOf knd D (ps.take i):=hd.at fun o e=>hm D o (by simpa using hDI) e
  show wpAny _ A.in1 (holding [Value.ref p] _ >>= _) _ _ _
  refine wpAny_bind (wpAny_holding ?_)
  refine wpAny_bind (wpAny_tryCatch ?_)
  unfold Builtin.Dict.pairItems
  refine wpAny_bind (wpAny_typeOf hT ?_)
  rw[if_pos (by decide)]
  refine wpAny_bind (wpAny_seqItems hpo' hpd (wpAny_pure ?_))
  show wpAny _ A.in1 (holding [key,vv] (dictSet D key vv)) _ _ _
  refine wpAny_holding (wpAny_dictSet_pairs (s:={ s with heap:=h',toks:=tk }) hkey hd' (fun h2 hd2 sb=>?_) (by rw[List.length_take]; omega))
  have hst:stored (ps.take i) kk vv=ps.take (i+1):=by
   have hno:¬((ps.take i).any fun kv=>decide (kv.1=kk))=true:=fun h=>by
    obtain⟨kv,hm1,hm2⟩:=List.any_eq_true.mp h
    have hm2:=of_decide_eq_true hm2
    obtain⟨j,hj⟩:=List.getElem?_of_mem hm1
    rw[List.getElem?_take] at hj
    have hji:j<i:=by
     by_cases h1:j<i
     ·exact h1
     ·rw[if_neg h1] at hj; cases hj
    rw[if_pos hji] at hj
    have e1:(ps.map (·.1))[j]?=some kk:=by rw[List.getElem?_map,hj, <-hm2]; rfl
    have e2:(ps.map (·.1))[i]?=some kk:=by rw[List.getElem?_map,hpi]; rfl
    obtain⟨g1,g2⟩:=List.getElem?_eq_some_iff.mp e1
    obtain⟨g3,g4⟩:=List.getElem?_eq_some_iff.mp e2
    exact List.pairwise_iff_getElem.mp hn j i g1 g3 hji (g2.trans g4.symm)
   rw[stored,if_neg hno,List.take_add_one,hpi]
   rfl
  rw[hst] at hd2
  show wpAny _ A.in1 (again _) _ _ _
  have keep:∀b o,b≠D->b≠I->s.heap.get? b=some o->h2.get? b=some o:=fun b o h1 h2' e=>(sb.2 b h1).trans (hm b o (by simpa using h2') e)
  refine wpAny_pure ⟨plainId_quiet qK _,ih (i+1) _ _ (by omega) hlt (hst'.1.at fun o e=>(sb.2 I (Ne.symm hDI)).trans e) (hst'.2.at fun o e=>(sb.2 l (Ne.symm hDl)).trans e) (fun j kk vv hj=>?_) hd2 fun h3 tk3 kp hd3=>hR h3 tk3 (fun b o h1 h2' e=>kp b o h1 h2' (keep b o h1 h2' e)) hd3⟩
  obtain⟨q,a1,a2,a3,key',m',o',a4,a5,a6⟩:=hp j kk vv hj
  exact⟨q,a1,a2,a3,key',m',o',a4,keep q _ a2 a3 a5,a6⟩
theorem zD {prog:Program} {w:World} {A:Around} {E:Value->Shared->Prop} {s:Shared} {K:Type} [DecidableEq K] {knd:KeyKind prog w K} (hh:A.handled=none) {l:Addr} {items:Array Value} {c:Nat} {sl:Array (Option Value)} {ps:List (K×Value)} {Q:Value->Shared->Prop}
  (hl:s.heap.get? l=some { cls:=.type "list", dict:=none,data:=.seq items c,slots:=sl }) (hn:(ps.map (·.1)).Nodup) (hps:ps.length=items.size) (hsz:ps.length<=sizeLine) (hp:∀(i:Nat) kk vv,ps[i]?=some (kk,vv)->∃p,items[i]?=some (Value.ref p)/\Jw knd s.heap kk vv p)
  (h:∀h' tk,(∀b o,s.heap.get? b=some o->h'.get? b=some o)->h'.DictOf knd s.heap.objs.size ps->Q (.ref s.heap.objs.size) { s with heap:=h',toks:=tk }) :
  wpAny (model prog w) A (call (.type "dict") [.ref l]) Q E s:=by
 refine callType_codes (Q₁:=fun obj s₁=>obj=.ref s.heap.objs.size/\s₁={ s with heap:=s.heap.push { cls:=.type "dict", data:=.dict #[] } }) F.kt_called_dict (F.kt_typeCall_dict_1 _) F.entry_dict_init (kt_code_dict_new _ ⟨rfl,rfl⟩) ?_
 rintro obj s₁ ⟨rfl,rfl⟩
 have hnew:(s.heap.push { cls:=.type "dict", data:=.dict #[] }).DictOf knd s.heap.objs.size []:=Heap.DictOf.new s.heap
 have hl':(s.heap.push { cls:=.type "dict", data:=.dict #[] }).get? l=some { cls:=.type "list", dict:=none,data:=.seq items c,slots:=sl }:=Heap.get?_push_of_some _ hl
 have hT:({ s with heap:=s.heap.push { cls:=.type "dict", data:=.dict #[] } }:Shared).TypeIs (.ref l) "list" := ⟨_,hl',rfl⟩
 have hls:l<s.heap.objs.size:=Heap.lt_size hl
 refine⟨hnew.typeIs,F.args_dict_init_2 _ _, ?_⟩
 unfold Builtin.«dict.__init__»
 refine wpAny_bind ?_
 unfold Builtin.Dict.selfAndRest
 refine wpAny_bind (wpAny_notOrdered_dict hnew.typeIs ?_)
 show wpAny _ _ (pure (s.heap.objs.size, [Value.ref l])) _ _ _
 refine wpAny_pure ?_
 show wpAny _ _ (Builtin.Dict.updateFrom "dict.__init__" s.heap.objs.size (.ref l) [] .none) _ _ _
 unfold Builtin.Dict.updateFrom
 refine wpAny_bind (wpAny_typeOf hT ?_)
 rw[if_pos (by decide)]
 refine wpAny_bind (kR (s:={ s with heap:=s.heap.push { cls:=.type "dict", data:=.dict #[] } }) hl' (by simp[hh]) fun h1 tk1 e1 hx1=>?_)
 rw[if_pos (show(none:Option Value).isNone=true from rfl)]
 refine wpAny_bind (wpAny_rule ?_)
 have k1:∀b o,s.heap.get? b=some o->h1.get? b=some o:=fun b o e=>hx1.keeps b o (Heap.get?_push_of_some _ e)
 have hl1:h1.IsList l items:=⟨_,k1 l _ hl,rfl,c,rfl⟩
 have sz1:s.heap.objs.size+1<=h1.objs.size:=by
  obtain⟨o9,_,_,ho9,_⟩:=hnew
  exact Heap.lt_size (hx1.keeps _ _ ho9)
 refine wpAny_bind (wpAny_pyIter_list (s:={ s with heap:=h1,toks:=tk1 }) hl1 ?_)
 show wpAny _ _ (again _) _ _ _
 refine wpAny_pure ⟨plainId_quiet qK _, ?_⟩
 have ne:∀b o,s.heap.get? b=some o->b≠s.heap.objs.size/\b≠h1.objs.size:=fun b o e=>by
  have:=Heap.lt_size e
  exact⟨Nat.ne_of_lt this,Nat.ne_of_lt (Nat.lt_trans this sz1)⟩
 refine xU (K:=K) (knd:=knd) (by simp[hh]) (I:=h1.objs.size) (l:=l) (D:=s.heap.objs.size) (items:=items) (ps:=ps) (Nat.ne_of_lt (Nat.lt_trans hls sz1)) (Nat.ne_of_lt sz1) (Nat.ne_of_gt hls) hn hps hsz (items.size-0) 0 _ _ rfl (Nat.zero_le _) ⟨_,Heap.get?_push_size _ rfl,rfl,rfl⟩ (hl1.push _) (fun i kk vv hi=>?_) ((hnew.at fun o e=>hx1.keeps _ o e).push _) fun h' tk kp hd=>?_
 ·obtain⟨p,a1,key,m,o',a2,a3,a4⟩:=hp i kk vv hi
  exact⟨p,a1,(ne p _ a3).1,(ne p _ a3).2,key,m,o',a2,Heap.get?_push_of_some _ (k1 p _ a3),a4⟩
 ·exact⟨rfl,h h' tk (fun b o e=>kp b o (ne b o e).1 (ne b o e).2 (Heap.get?_push_of_some _ (k1 b o e))) hd⟩
def ZQ:List V->Hp->VK->Prop:=fun xs H Q=>∃(l:Addr) (ks:List (Addr×Str×V)),xs=[.ref l]/\H l=some (.lst (ks.map fun p=>V.ref p.1))/\(∀p∈ks,H p.1=some (.tup [.str p.2.1,p.2.2]))/\(ks.map (·.2.1)).Nodup/\∀r,H r=none->Q (.ref r) (upd H r (.dK (ks.map fun p=>(Key.inr p.2.1,p.2.2))))
theorem Zg {X:Cx} (hc:X.calm=true):vP X (.type "dict") ZQ:=by
 intro pins s σ H xs us Q I r h
 obtain⟨l,ks,rfl,hl,hp,hn,q⟩:=h
 obtain⟨u,rfl,rx⟩:=jj r
 cases rx
 obtain⟨its,r',⟨o,n,ho,h1,h2,h3⟩,hz⟩:=I.list (SqL.of hl)
 rw[List.length_map] at hz
 obtain⟨oc,od,oda,osl⟩:=o
 have h1:oc=.type "list" := h1
 have h2:od=none:=h2
 have h3:oda=.seq its.toArray n:=h3
 subst h1 h2 h3
 have hlen:=r'.length
 rw[List.length_map] at hlen
 have T:∀p∈ks,∃(key vv:Value) (m:Nat) (o:Obj),s.heap.get? p.1=some o/\o.cls=.type "tuple" /\ o.data=.seq #[key,vv] m/\RelV (.str p.2.1) key/\RelV p.2.2 vv:=fun p hm=>by
  obtain⟨ti,tr,tp,_⟩:=I.tuple (SqT.of (hp p hm))
  obtain⟨k9,v9,rfl,rk,rv⟩:=vals2 tr
  obtain⟨o,e1,e2,m,e3⟩:=tp
  exact⟨k9,v9,m,o,e1,e2,e3,rk,rv⟩
 obtain⟨ps,hps,hkv⟩:∃ps:List (Key×Value),KV (ks.map fun p=>(Key.inr p.2.1,p.2.2)) ps/\∀(i:Nat) kk vv,ps[i]?=some (kk,vv)->∃p,(ks.map fun p=>V.ref p.1)[i]?=some (.ref p)/\Jw (qO X.prog X.w) s.heap kk vv p:=by
  clear hl hn q r' hz ho hlen
  induction ks with
  |nil=>exact⟨[], .nil,fun i kk vv e=>by simp at e⟩
  |cons p ks ih =>
   obtain⟨ps,a,b⟩:=ih (fun z hz=>hp z (.tail _ hz)) fun z hz=>T z (.tail _ hz)
   obtain⟨key,vv,m,o,e1,e2,e3,rk,rv⟩:=T p (.head _)
   refine⟨(Key.inr p.2.1,vv)::ps, .cons ⟨rfl,rv⟩ a,fun i kk v9 e=>?_⟩
   cases i with
   |zero=>cases e; exact⟨p.1,rfl,key,m,o,V6 (k:=.inr p.2.1) rk,e1,e2,e3⟩
   |succ i=>exact b i kk v9 (by simpa using e)
 have hpl:ps.length=ks.length:=by have:=Paired.length hps; rw[List.length_map] at this; exact this.symm
 refine zD (I.ok.hd hc) (knd:=qO X.prog X.w) (ps:=ps) ho ?_ (by rw[hpl,List.size_toArray]; exact hlen) (by omega) (fun i kk vv e=>?_) fun h' tk kp hd=>?_
 ·have e:ps.map (·.1)=(ks.map (·.2.1)).map Key.inr:=by
   rw[List.map_map]
   clear hkv hpl hl hn q r' hz ho hlen T hp
   induction ks generalizing ps with
   |nil=>cases hps; rfl
   |cons p ks ih =>
    cases hps with
    |cons h t=>rw[List.map_cons,ih _ t, <-h.1]; rfl
  rw[e]
  exact List.Pairwise.map Key.inr (fun a b n z=>n (Key.inr.inj z)) hn
 ·obtain⟨p,e1,e2⟩:=hkv i kk vv e
  refine⟨p, ?_,e2⟩
  obtain⟨v9,e3,e4⟩:=Paired.getL r' e1
  cases e4
  simpa using e3
 ·exact⟨.ref s.heap.objs.size,_,I.laid (a:=s.heap.objs.size) (o:=.dK (ks.map fun p=>(Key.inr p.2.1,p.2.2))) (t':=tk) kp (Nat.le_refl _) (X3 (by rw[List.length_map]; exact hz) (beq_eq_false_iff_ne.mpr (Ne.symm (Nat.ne_of_lt I.big))) hps hd),rfl,q _ (I.hok.fresh (Nat.le_refl _))⟩
section
variable {ta:TE} {ua:UE}
def DictPS (M:MM) (x:U) (Q:UK):Prop:=∃ks:List (Str×T),sn M x=some (.lst (ks.map fun p=>.tup [.str p.1,p.2]))/\(ks.map (·.1)).Nodup/\Q (.m M.length) (M++[.dK (ks.map fun p=>(Key.inr p.1,U.p p.2))])
def Zo (ua:UE):UE:=fun ρ M Q=>ua ρ M fun x M1=>DictPS M1 x Q
theorem le_dictP (ha:LE ta ua):LE (tCB ZQ (vm ta tNil)) (Zo ua):=fun A ι σ H ρ M Qu Q w e q k =>
 ha A ι σ H ρ M _ _ w e q fun x M1 ι1 v H1 l1 w1 r1 ⟨ks,es,hn,q1⟩=>by
  obtain⟨p,vs,rfl,h4,h5⟩:=(r1.sn w1 es).lst_inv
  have T:∃gs:List (Addr×Str×V),vs=(gs.map fun g=>V.ref g.1)/\(∀g∈gs,H1 g.1=some (.tup [.str g.2.1,g.2.2]))/\Paired (fun(g:Addr×Str×V) (f:Str×L2.T)=>g.2.1=f.1/\RepT (Av A ι1) H1 g.2.2 f.2) gs ks:=by
   clear es hn q1 h4
   induction ks generalizing vs with
   |nil=>cases h5; exact⟨[],rfl,(fun g hg=>by cases hg), .nil⟩
   |cons f ks ih =>
    cases h5 with
    |cons r t =>
     obtain⟨gs,rfl,b,c⟩:=ih _ t
     obtain⟨p9,vs9,rfl,_,e9,r9⟩:=r.tup_inv
     cases r9 with
     |cons ra rt =>
      cases rt with
      |cons rb rn =>
       cases rn
       cases ra
       exact⟨(p9,f.1,_)::gs,rfl,fun g hg=>by
        rcases List.mem_cons.mp hg with rfl|hg
        ·exact e9
        ·exact b g hg, .cons ⟨rfl,rb⟩ c⟩
  obtain⟨gs,rfl,hg,hr⟩:=T
  have hk:gs.map (·.2.1)=ks.map (·.1):=by
   clear es hn q1 h4 h5 hg
   induction hr with
   |nil=>rfl
   |cons h t ih=>rw[List.map_cons,List.map_cons,ih,h.1]
  refine⟨p,gs,rfl,h4,hg,by rw[hk]; exact hn,fun r hr0=>?_⟩
  refine k _ _ (ι1++[r]) _ _ (l1.trans (.push hr0)) (w1.push (mo:=.dK (ks.map fun p=>(Key.inr p.1,U.p p.2))) hr0 ⟨_,upd_same, ?_⟩) (.m (by rw[<-w1.len]; exact zf)) q1
  generalize HO.dK (gs.map fun p=>(Key.inr p.2.1,p.2.2))=ob
  clear es hn q1 h4 h5 hg hk
  induction hr with
  |nil=>exact .nil
  |cons h t ih=>exact .cons ⟨congrArg Key.inr h.1,(RepU.p h.2).le (.push hr0)⟩ ih
theorem ce_dictP (ha:ZE ta ua):ZE (tCB ZQ (vm ta tNil)) (Zo ua):=⟨le_dictP ha.h⟩
end
section
variable {P:Program} {w:World} {K:PySem.W.Frag} {mg:Str->Option Value} {base:Heap}
theorem Fun.zUC {x qual:Str} {st:Stmt} {f:Addr} {fd:FuncData} {N ps:List Str} {k:Nat} {G:List U->MM->UK->Prop} (F:Fun K x qual st f fd) (S:FnScope N ps (qg st)) (len:∀us M Qu,G us M Qu->us.length=ps.length)
  (hbody:∀(cdv:Value) (A:Around) (outer:List Env) (s:Shared) (H:Hp) (E:XK),fd.code=cdv->Room k (A.deeper (envOfC qual (qg st) s.heap.objs.size f cdv)) ->
   ∃t,QSs (cxOf CX0 P w K mg base N qual (qg st) f cdv A outer s H E).nox (ve st) t/\∃u,ZS t u/\∀us M Qu,G us M Qu->u { nx:=fun _ M'=>Qu (.p .non) M',rt:=Qu } (zt N us) M):FnOk P w K mg base CX0 (k+1) f fd ps (spU G):=by
 obtain⟨oc,od,kV,doc,pm,an,cdv,ct,osl,rfl,lk,hcd⟩:=F.ex
 refine fn_of lk hcd S (fun vs H Q E h=>?_) fun A outer s H vs Q E hr h=>?_
 ·obtain⟨A,ι,M,us,Qu,w1,r,g,_⟩:=h
  rw[r.len]; exact len us M Qu g
 ·obtain⟨B,ι,M,us,Qu,w1,r,g,kk⟩:=h
  obtain⟨t,ht,u,hu,hb⟩:=hbody cdv A outer s H E rfl hr
  exact⟨t,ht.h.nox,hu.h B ι _ H _ M _ { nx:=fun _ M'=>Qu (.p .non) M',rt:=Qu } w1 (zr r) ⟨fun ι1 σ1 H1 ρ1 M1 l1 w2 e1 q1=>kk _ _ ι1 _ H1 l1 w2 (.p .non) q1,fun ι1 v H1 z M1 l1 w2 r1 q1=>kk _ _ ι1 _ H1 l1 w2 r1 q1,fun _ _ _ _ _ _ _ _ q=>q.elim,fun _ _ _ _ _ _ _ _ q=>q.elim⟩ (hb us M Qu g)⟩
end
end L2
namespace Hd
open PySem PySem.W PySem.Calls PyProof.Rows
def topT (tb:String->Option Builtin) (p:Program) (w:World) (m:Nat) (an:Option Value):Nat->SharedT->Thread->Option SharedT
 |0,_,_=>none
 |k+1,s,t=>match through t with
  |true=>some s
  |false=>match stepOk m an t with
   |false=>none
   |true=>match stepT (denote tb) p w s t with
    |some (s1,t1)=>topT tb p w m an k s1 t1
    |none=>none
theorem Q9 {tb:String->Option Builtin} {p:Program} {w:World} {m:Nat} {an:Option Value} :
  ∀{k:Nat} {s r:SharedT} {t:Thread},topT tb p w m an k s t=some r->topRun tb p w m an k s.abs t=some r.abs
 |0,_,_,_,h=>by cases h
 |k+1,s,r,t,h=>by
  unfold topT at h
  unfold topRun
  cases ht:through t with
  |true=>rw[ht] at h; cases h; rfl
  |false =>
   rw[ht] at h
   cases hk:stepOk m an t with
   |false=>rw[hk] at h; cases h
   |true =>
    rw[hk] at h
    cases hs:stepT (denote tb) p w s t with
    |none=>rw[hs] at h; cases h
    |some x =>
     obtain⟨s1,t1⟩:=x
     rw[hs] at h
     rw[stepT_spec hs]
     exact Q9 h
noncomputable def bootT (P:Params):BT :=
 .node (boot_o_0 P) (.node (boot_o_1 P) (.node (boot_o_3 P) (.node (boot_o_7 P) .nil .nil) .nil) (.node (boot_o_5 P) (.node (boot_o_9 P) .nil .nil) .nil))
  (.node (boot_o_2 P) (.node (boot_o_4 P) (.node (boot_o_8 P) .nil .nil) .nil) (.node (boot_o_6 P) (.node (boot_o_10 P) .nil .nil) .nil))
abbrev bootL:Life:={}
theorem Jo (P:Params):boot_heap P=absHeap (bootT P) 11 bootL:=by kernel_rfl
noncomputable def S0 (w:World) (os:OsState):SharedT:=⟨bootT w.params,11,bootL, #[],boot_drawn,boot_toks,os⟩
noncomputable def Look (p q:Program) (loose:List Str) (Xt:Shared->Bool) {α:Type} (Yf:Shared->α) (w:World) (s:Shared) :=
 ((staticsOk (importedModules p.main.body) (boot_heap w.params) s.heap&&namesBound p s.heap&&gensDone s&&laidKept (boot_heap w.params) s.heap),openSeen q loose (importedModules p.main.body) Xt true s,Yf s)
theorem left_of {p q:Program} {loose:List Str} {Xt:Shared->Bool} {α:Type} {Yf:Shared->α} {Ya:World->α} {N M:Nat}
  (e:opening p=plainProg p.main.scope.names) (hN:Nat.ble 600 N=true) (f:∀s,fenceModules? p s=some s) (le:Nat.ble M N=true)
  (run:∀w os,(topT treeTable p w 11 (some (.ref 6)) M (S0 w os) (topStub p)).map (fun s=>Look p q loose Xt Yf w s.abs)=some (true,openGood q loose,Ya w))
  (hs:∀P:Params,((boot_heap P).isNs mainGlobals,(boot_heap P).nsMap mainGlobals "__annotations__")=(true,some (.ref 6))):LeftO p q loose Xt Yf Ya N:=fun w=>by
 obtain⟨⟨h,gs,d,k,os⟩,e1,e2⟩:=Option.map_eq_some_iff.mp (boot_open e hN f w)
 obtain⟨rfl,rfl,rfl,rfl⟩:h=boot_heap w.params/\gs=Array.mk []/\d=boot_drawn/\k=boot_toks:=by simpa using e2
 obtain⟨z1,z3⟩:_/\_:=by simpa only[Prod.mk.injEq] using hs w.params
 obtain⟨r,r1,r2⟩:=Option.map_eq_some_iff.mp (run w os)
 obtain⟨l1,l2,l3⟩:_/\_/\_:=by simpa only[Look,Prod.mk.injEq] using r2
 have r3:=topRun_mono (N-M) _ _ _ _ (Q9 r1)
 rw[show M+(N-M)=N by have:=Nat.le_of_ble_eq_true le; omega] at r3
 have a:(S0 w os).abs=⟨boot_heap w.params, #[],boot_drawn,boot_toks,os⟩:=by rw[Jo]; rfl
 rw[a] at r3
 have t:topFrom treeTable p w N ⟨boot_heap w.params, #[],boot_drawn,boot_toks,os⟩=some r.abs:=by
  unfold topFrom
  dsimp only
  rw[z1,z3,show(boot_heap w.params).objs.size=11 from rfl,r3]
  show(match staticsOk (importedModules p.main.body) (boot_heap w.params) r.abs.heap&&namesBound p r.abs.heap&&gensDone r.abs&&laidKept (boot_heap w.params) r.abs.heap with|true=>_|false=>_)=_
  rw[l1]
 unfold openEnds
 rw[e1]
 show(topFrom treeTable p w N _).map _=_
 rw[t]
 exact congrArg some (Prod.ext l2 l3)
theorem four {α β δ1 δ2 δ3 δ4 ε ζ:Type} {o:Option α} {A:α->β} {S:α->δ1×δ2×δ3×δ4×ε} {C:α->ζ} {a:β} {g:δ1×δ2×δ3×δ4×ε} {c:ζ} (hA:o.map A=some a) (h1:o.map (fun s=>((S s).1,(S s).2.1,(S s).2.2.1,(S s).2.2.2.1))=some (g.1,g.2.1,g.2.2.1,g.2.2.2.1)) (h2:o.map (fun s=>(S s).2.2.2.2)=some g.2.2.2.2) (hC:o.map C=some c):o.map (fun s=>(A s,S s,C s))=some (a,g,c):=by
 cases o with
 |none=>cases hA
 |some r =>
  simp only[Option.map_some,Option.some.injEq,Prod.mk.injEq] at hA h1 h2 hC ⊢
  exact⟨hA,Prod.ext h1.1 (Prod.ext h1.2.1 (Prod.ext h1.2.2.1 (Prod.ext h1.2.2.2 h2))),hC⟩
theorem look4 {p q:Program} {loose:List Str} {Xt:Shared->Bool} {α:Type} {Yf:Shared->α} {w:World} {y:α} (o:Option SharedT)
  (hA:o.map (fun s=>staticsOk (importedModules p.main.body) (boot_heap w.params) s.abs.heap&&namesBound p s.abs.heap&&gensDone s.abs&&laidKept (boot_heap w.params) s.abs.heap)=some true)
  (hB:o.map (fun s=>((openSeen q loose (importedModules p.main.body) Xt true s.abs).1,(openSeen q loose (importedModules p.main.body) Xt true s.abs).2.1,(openSeen q loose (importedModules p.main.body) Xt true s.abs).2.2.1,(openSeen q loose (importedModules p.main.body) Xt true s.abs).2.2.2.1))=some ((openGood q loose).1,(openGood q loose).2.1,(openGood q loose).2.2.1,(openGood q loose).2.2.2.1))
  (hD:o.map (fun s=>(openSeen q loose (importedModules p.main.body) Xt true s.abs).2.2.2.2)=some (openGood q loose).2.2.2.2) (hC:o.map (fun s=>Yf s.abs)=some y):o.map (fun s=>Look p q loose Xt Yf w s.abs)=some (true,openGood q loose,y):=by
 cases o with
 |none=>cases hA
 |some r =>
  have hA:=Option.some.inj hA
  have hB:=Option.some.inj hB
  have hD:=Option.some.inj hD
  have hC:=Option.some.inj hC
  obtain⟨b1,b2⟩:=Prod.mk.inj hB
  obtain⟨b2,b3⟩:=Prod.mk.inj b2
  obtain⟨b3,b4⟩:=Prod.mk.inj b3
  exact congrArg some (Prod.ext hA (Prod.ext (Prod.ext b1 (Prod.ext b2 (Prod.ext b3 (Prod.ext b4 hD)))) hC))
theorem left_of4 {p q:Program} {loose:List Str} {Xt:Shared->Bool} {α:Type} {Yf:Shared->α} {Ya:World->α} {N M:Nat}
  (e:opening p=plainProg p.main.scope.names) (hN:Nat.ble 600 N=true) (f:∀s,fenceModules? p s=some s) (le:Nat.ble M N=true)
  (rA:∀w os,(topT treeTable p w 11 (some (.ref 6)) M (S0 w os) (topStub p)).map (fun s=>staticsOk (importedModules p.main.body) (boot_heap w.params) s.abs.heap&&namesBound p s.abs.heap&&gensDone s.abs&&laidKept (boot_heap w.params) s.abs.heap)=some true)
  (rB:∀w os,(topT treeTable p w 11 (some (.ref 6)) M (S0 w os) (topStub p)).map (fun s=>((openSeen q loose (importedModules p.main.body) Xt true s.abs).1,(openSeen q loose (importedModules p.main.body) Xt true s.abs).2.1,(openSeen q loose (importedModules p.main.body) Xt true s.abs).2.2.1,(openSeen q loose (importedModules p.main.body) Xt true s.abs).2.2.2.1))=some ((openGood q loose).1,(openGood q loose).2.1,(openGood q loose).2.2.1,(openGood q loose).2.2.2.1))
  (rD:∀w os,(topT treeTable p w 11 (some (.ref 6)) M (S0 w os) (topStub p)).map (fun s=>(openSeen q loose (importedModules p.main.body) Xt true s.abs).2.2.2.2)=some (openGood q loose).2.2.2.2)
  (rC:∀w os,(topT treeTable p w 11 (some (.ref 6)) M (S0 w os) (topStub p)).map (fun s=>Yf s.abs)=some (Ya w))
  (hs:∀P:Params,((boot_heap P).isNs mainGlobals,(boot_heap P).nsMap mainGlobals "__annotations__")=(true,some (.ref 6))):LeftO p q loose Xt Yf Ya N :=
 left_of e hN f le (fun w os=>look4 _ (rA w os) (rB w os) (rD w os) (rC w os)) hs
theorem boot_main (P:Params):((boot_heap P).isNs mainGlobals,(boot_heap P).nsMap mainGlobals "__annotations__")=(true,some (.ref 6)):=by kernel_rfl
end Hd
namespace Hd
open PySem PySem.W PySem.Calls PyProof.Rows
theorem close {r:OpenRow} {q:Program} {loose:List Str} {lv:List (Str×WData)} {H:Hook} {d:DefRec} {kwd:List (Str×Expr)} {N:Nat}
  (left:LeftO r.prog q loose (fun s=>xlAt q lv s&&recOk (RowW.records (OpenRow.toRowW r)) s) H.obs H.val N) (h1:defOf q r.name=some (d,kwd)) (h2:r.prog.theDef r.name=some (d.params,d.body,d.scope))
  (h3:kwWritten? d.params.kwonlyargs d.params.kw_defaults=some kwd) (h4:(!r.writes||r.records.isEmpty)=true) (h5:r.wellSaid=true) (h6:(chainsOk q&&opensWell r.prog&&(frees r.toRowW&&r.within.isEmpty))=true) (h7:r.prog.bare)
  (hw:r.toRowW.promised) (hc:WalkO q loose (XL q lv) H.says r.toRowW d kwd fun f vs=>PySem.call f vs):r.Holds :=
 holds_open left H.of H.keeps (fun s z=>xl_of s (Bool.and_eq_true_iff.mp z).1) XL.keeps h1 h2 h3 (fun s z=>recFacts_of (Bool.and_eq_true_iff.mp z).2) h4 h5 h6 h7 hw hc
end Hd
set_option maxHeartbeats 4000000
namespace Mw
open PySem L2 PyProof.Rows
def top (i:Nat):Stmt:=PySem.Challenge.pw_markwords_k14_layings_made.main.body.getD i (.Pass ⟨0,0,0,0⟩)
local macro_rules | `(tactic| walk_at "hp") => `(tactic| first|assumption|exact upd_same|(refine qH (by assumption) ?_; walk_at "hp")|(refine xg (by first|assumption|(apply Ne.symm; assumption)) ?_; walk_at "hp"))
local macro_rules | `(tactic| walk_at "go") => `(tactic| repeat (first|(simp only[L2.start,tSeq,j6,tAsg,tOp,tUn,tVar,tC,qt,gSub,tRet,tRetN,tIfS,j7,tLM,tTru,vK,tBM,tBM0,tRev,zR,zn,Vg,xk,xj,jz,xl,rd_pi,tSl,vR,j4,rd_I,rd_I0,rd_U,jx,rd_bl,tCB,vm,tNil,tTup,tLst,tYes,tAnd,tOr,tNot,tB,tIf,j8,tOrV,j5,jp,rd_l1,rd_l2,rd_lr,List.getElem?_cons_zero,List.getElem?_cons_succ,Option.some.injEq,exists_eq_left',List.set_cons_zero,List.set_cons_succ,vI,List.zip_cons_cons,List.zip_nil_left,List.zip_nil_right,List.map_cons,List.map_nil,List.length_cons,List.length_nil,List.replicate,List.append_nil,List.nil_append,List.cons_append,Bool.false_eq_true,if_true,if_false,decide_eq_true_eq,Nat.zero_add,zh,zg])|refine XR (by walk_at "hp") rfl ?_|refine ixT_at (by walk_at "hp") rfl ?_|refine XR (by walk_at "hp") at0 ?_|refine setL_at (by walk_at "hp") rfl ?_|refine len_at (by walk_at "hp") ?_|refine jJ (by walk_at "hp") ?_|refine jI (by walk_at "hp") ?_|refine lm_at (by walk_at "hp") ?_|refine it_at (by walk_at "hp") ?_|refine eq_at rfl ?_|refine ne_at rfl ?_))
section
variable {P:Program} {w:World} {K:PySem.W.Frag} {mg:Str->Option Value} {base:Heap}
abbrev sBag:Stmt:=top 14
theorem scBag:FnScope ["script", "stir", "cell"] ["script"] (qg sBag):=⟨rfl,rfl,rfl,by decide +kernel,rfl,by decide +kernel,by decide +kernel⟩
abbrev sDraw:Stmt:=top 15
theorem scDraw:FnScope ["bag", "many", "found"] ["bag", "many"] (qg sDraw):=⟨rfl,rfl,rfl,by decide +kernel,rfl,by decide +kernel,by decide +kernel⟩
structure BagAt (H:Hp) (b:Addr):Prop where
 ex:∃(c:Addr) (ns:List Int) (i a st n:Int),H b=some (.lst [.ref c, .int i, .int a, .int st, .int n])/\H c=some (.lst (ns.map V.int))/\0<=i/\i<=ns.length/\ns.length<=63/\(∀x∈ns,0<=x)/\0<=a/\0<=st/\st<2147483647
def spBag (K:PySem.W.Frag):Sp:=fun vs H Q _=>∃(a:Addr) (ns:List Int),vs=[.ref a]/\SqL K H a (ns.map V.int)/\ns.length<=63/\∀(b:Addr) (H':Hp),H b=none->Same H H'->BagAt H' b->Q (.ref b) H'
theorem cut63 (ns:List Int) (h:ns.length<=63):cutV (ns.map V.int) none (some 63)=ns.map V.int:=by
 unfold cutV
 have e1:HT.sIx (ns.map V.int).length 0 none=0:=rfl
 have e2:HT.sIx (ns.map V.int).length (ns.map V.int).length (some 63)=min 63 (ns.map V.int).length:=HT.sIx_nat _ _ 63
 rw[e1,e2]
 simp only[List.drop_zero,List.length_map]
 rw[List.take_of_length_le]
 simp; omega
theorem Vr {ns:List Int} {i:Nat} {y:V} (h:(ns.map V.int)[i]?=some y):∃z,y=V.int z/\ns[i]?=some z:=by
 rw[List.getElem?_map] at h
 cases e:ns[i]? with
 |none=>rw[e] at h; cases h
 |some z=>rw[e] at h; exact⟨z,(Option.some.inj h).symm,rfl⟩
theorem ok_bag {f:Addr} {fd:FuncData} (F:Fun K "_law_bag" "_law_bag" sBag f fd) (N:Nms mg):FnOk P w K mg base CX0 1 f fd ["script"] (spBag K):=by
 refine F.okQ scBag (fun vs H Q E h=>?_) (fun cdv A outer s H vs Q E hr h=>?_)
 ·obtain⟨a,ns,rfl,_⟩:=h
  rfl
 ·obtain⟨a,ns,rfl,hS,hlen,k⟩:=h
  refine⟨_,(qd (qR (i:=1) scBag.nd rfl (Or.inl rfl) qc)
  (qd (zS PassesOwn.never rfl (qC (K:=K) rfl (zb (xi (K:=K) rfl) (qv 0) zH (zG qc))) (qU (i:=2) scBag.nd rfl (Or.inl rfl))
   (qh (qR (i:=1) scBag.nd rfl (Or.inl rfl) (qB zV (qB vB (qB vB (qB Xb (qv 1) qc) (qB zV (qv 2) qc)) qc) qc))))
  (qh (qw (qV (qa_c (zI [false,false,false] [] (qC (K:=K) rfl (zb (xi (K:=K) rfl) (qv 0) zH (zG qc))) (fun _ _ _=>(qU (i:=2) scBag.nd rfl (Or.inl rfl))) (fun _ _ _=>vz) (fun _ _ _=>(qB zV (qQ call_abs (by rfl) N.abs b_abs (qa_c (qv 2) qe)) (qB op_pow qc qc)))) (qa_c qc (qa_c qc (qa_c (qv 1) (qa_c qc qe)))))))))), ?_⟩
  refine⟨_,rfl,_,rfl,a,_,rfl,hS,fun p hp=>?_⟩
  rw[cut63 ns hlen]
  refine⟨p,rfl,⟨_,SqL.of upd_same⟩,for_list (K:=K) (a:=p) (xs:=ns.map V.int) (fun i σ H2=>∃(st:Int) (v:Option V),σ=[some (.ref a),some (.int st),v]/\0<=st/\st<2147483647/\H2=upd H p (.lst (ns.map V.int)))
   ⟨17,none,rfl,by decide,by decide,rfl⟩ (fun i σ H2 _ ⟨_,_,_,_,_,e⟩=>by rw[e]; exact SqL.of upd_same) ?_ ?_⟩
  ·rintro i y σ H2 hi ⟨st,v,rfl,h0,h1,rfl⟩
   obtain⟨z,rfl,_⟩:=Vr hi
   (simp only[L2.start,tSeq,j6,tAsg,tOp,tUn,tVar,tC,qt,gSub,tRet,tRetN,tIfS,j7,tLM,tTru,vK,tBM,tBM0,tRev,zR,zn,Vg,xk,xj,jz,xl,rd_pi,tSl,vR,j4,rd_I,rd_I0,rd_U,jx,rd_bl,tCB,vm,tNil,tTup,tLst,tYes,tAnd,tOr,tNot,tB,tIf,j8,tOrV,j5,jp,rd_l1,rd_l2,rd_lr,List.getElem?_cons_zero,List.getElem?_cons_succ,Option.some.injEq,exists_eq_left',List.set_cons_zero,List.set_cons_succ,vI,List.zip_cons_cons,List.zip_nil_left,List.zip_nil_right,List.map_cons,List.map_nil,List.length_cons,List.length_nil,List.replicate,List.append_nil,List.nil_append,List.cons_append,Bool.false_eq_true,if_true,if_false,decide_eq_true_eq,Nat.zero_add,zh,zg])
   refine⟨.inr ⟨by decide,by decide⟩,by decide,by decide,_,_,rfl,Int.emod_nonneg _ (by decide),Int.emod_lt_of_pos _ (by decide),trivial⟩
  ·rintro σ H2 ⟨st,v,rfl,h0,h1,rfl⟩
   have hS2:SqL K (upd H p (.lst (ns.map V.int))) a (ns.map V.int):=((Same.refl H).upd hp).seq hS
   refine⟨_,rfl,_,rfl,a,_,rfl,hS2,fun p2 hp2=>?_⟩
   rw[cut63 ns hlen]
   obtain⟨f2,n2⟩:=jP hp2
   refine⟨p2,rfl,⟨_,SqL.of upd_same⟩,fun acc hacc=>?_⟩
   obtain⟨g1,n3⟩:=jP hacc
   obtain⟨g2,n4⟩:=jP g1
   refine Jc (xs:=ns.map V.int) (fun i H3=>∃ys:List Int,H3 acc=some (.lst (ys.map V.int))/\ys.length=i/\(∀y∈ys,0<=y)/\H3 p2=some (.lst (ns.map V.int))/\Same H H3) ?_ ?_ ?_ ?_
   ·exact⟨[],upd_same,rfl,(fun _ h=>nomatch h),qH hacc upd_same,(((Same.refl H).upd hp).upd f2).upd g2⟩
   ·rintro i H3 _ ⟨ys,_,_,_,e,_⟩
    exact SqL.of e
   ·rintro i y H3 hi ⟨ys,e1,e2,e3,e4,e5⟩
    obtain⟨z,rfl,hz⟩:=Vr hi
    have hil:i<ns.length:=(List.getElem?_eq_some_iff.mp hz).1
    (simp only[L2.start,tSeq,j6,tAsg,tOp,tUn,tVar,tC,qt,gSub,tRet,tRetN,tIfS,j7,tLM,tTru,vK,tBM,tBM0,tRev,zR,zn,Vg,xk,xj,jz,xl,rd_pi,tSl,vR,j4,rd_I,rd_I0,rd_U,jx,rd_bl,tCB,vm,tNil,tTup,tLst,tYes,tAnd,tOr,tNot,tB,tIf,j8,tOrV,j5,jp,rd_l1,rd_l2,rd_lr,List.getElem?_cons_zero,List.getElem?_cons_succ,Option.some.injEq,exists_eq_left',List.set_cons_zero,List.set_cons_succ,vI,List.zip_cons_cons,List.zip_nil_left,List.zip_nil_right,List.map_cons,List.map_nil,List.length_cons,List.length_nil,List.replicate,List.append_nil,List.nil_append,List.cons_append,Bool.false_eq_true,if_true,if_false,decide_eq_true_eq,Nat.zero_add,zh,zg])
    refine⟨⟨by(repeat (first|exact ExtS.nl|refine ExtS.sm ?_|refine ExtS.no ?_)),trivial⟩,⟨by decide,by decide,by decide⟩,by decide,ys.map V.int,e1,vL (by simp; omega),ys++[(if z<0 then -z else z) % 10^(60:Int).toNat], ?_,by simp[e2], ?_,xg n3.symm e4,e5.upd g2⟩
    ·rw[upd_same,List.map_append]; rfl
    ·intro y hy
     rcases List.mem_append.mp hy with h|h
     ·exact e3 y h
     ·rw[List.mem_singleton.mp h]; exact Int.emod_nonneg _ (by decide)
   ·rintro H3 ⟨ys,e1,e2,e3,e4,e5⟩
    rw[List.length_map] at e2
    (simp only[L2.start,tSeq,j6,tAsg,tOp,tUn,tVar,tC,qt,gSub,tRet,tRetN,tIfS,j7,tLM,tTru,vK,tBM,tBM0,tRev,zR,zn,Vg,xk,xj,jz,xl,rd_pi,tSl,vR,j4,rd_I,rd_I0,rd_U,jx,rd_bl,tCB,vm,tNil,tTup,tLst,tYes,tAnd,tOr,tNot,tB,tIf,j8,tOrV,j5,jp,rd_l1,rd_l2,rd_lr,List.getElem?_cons_zero,List.getElem?_cons_succ,Option.some.injEq,exists_eq_left',List.set_cons_zero,List.set_cons_succ,vI,List.zip_cons_cons,List.zip_nil_left,List.zip_nil_right,List.map_cons,List.map_nil,List.length_cons,List.length_nil,List.replicate,List.append_nil,List.nil_append,List.cons_append,Bool.false_eq_true,if_true,if_false,decide_eq_true_eq,Nat.zero_add,zh,zg])
    refine⟨by decide,fun b hb=>?_⟩
    refine k b _ (e5.free hb) (e5.upd (e5.free hb)) ⟨acc,ys,0,0,st,0,upd_same,qH hb e1,by decide,by omega,by omega,e3,by decide,h0,h1⟩
theorem Jp {H:Hp} {b c:Addr} {ns:List Int} {i a st n:Int} (hb:H b=some (.lst [.ref c, .int i, .int a, .int st, .int n])) (hc:H c=some (.lst (ns.map V.int))):c≠b:=by
 intro e
 subst e
 rw[hb] at hc
 injection hc with hc
 injection hc with hc
 cases ns with
 |nil=>cases hc
 |cons z r=>cases hc
def zA (H:Hp) (b c:Addr):Prop:=∃r,H b=some (.lst (.ref c::r))
theorem kQ {H H':Hp} {b c:Addr} {r r':List V} (h:H b=some (.lst (.ref c::r))) (h':H' b=some (.lst (.ref c::r'))):∀c',zA H b c'->zA H' b c':=fun c' ⟨q,e⟩=>by
 rw[h] at e
 injection e with e
 injection e with e
 injection e with e _
 injection e with e
 subst e
 exact⟨r',h'⟩
theorem head_inj {H:Hp} {b c c':Addr} (h:zA H b c) (h':zA H b c'):c=c':=by
 obtain⟨q,e⟩:=h
 obtain⟨q',e'⟩:=h'
 rw[e] at e'
 injection e' with e'
 injection e' with e'
 injection e' with e' _
 injection e'
def spDraw2:Sp:=fun vs H Q _=>∃(b:Addr) (many:Int),vs=[.ref b, .int many]/\BagAt H b/\0<many/\many.natAbs.log2<9000/\∀(found:Int) (H':Hp),0<=found->found<many->BagAt H' b->(∀x,x≠b->H' x=H x)->(∀c,zA H b c->zA H' b c)->Q (.int found) H'
theorem BagAt.put {H:Hp} {b p c0:Addr} {o:HO} (h:BagAt H b) (hh:zA H b c0) (n1:p≠b) (n2:p≠c0):BagAt (L2.upd H p o) b:=by
 obtain⟨c,ns,i,a,st,n,hb,hc,r⟩:=h.ex
 have e:c0=c:=by
  obtain⟨q,e⟩:=hh
  rw[hb] at e
  injection e with e
  injection e with e
  injection e with e _
  injection e with e
  exact e.symm
 subst e
 exact⟨c0,ns,i,a,st,n,xg n1.symm hb,xg n2.symm hc,r⟩
theorem ok_draw2 {f:Addr} {fd:FuncData} (F:Fun K "_law_draw" "_law_draw" sDraw f fd) (N:Nms mg):FnOk P w K mg base CX0 1 f fd ["bag", "many"] spDraw2:=by
 refine F.okQ scDraw (fun vs H Q E h=>?_) (fun cdv A outer s H vs Q E hr h=>?_)
 ·obtain⟨b,m,rfl,_⟩:=h
  rfl
 ·obtain⟨b,many,rfl,⟨c,ns,i,a,st,n,hb,hc,i0,i1,hl,hns,a0,s0,s1⟩,m0,mb,k⟩:=h
  have hcb:=Jp hb hc
  refine⟨_,(qd (vF (Qp (qw_and (qm Qz (qL (qk (K:=K) rfl) (qv 0) qc (fun _ _=>rfl)) qc (qx _)) (qw_and1 (qm Qx (qL (qk (K:=K) rfl) (qv 0) qc (fun _ _=>rfl)) (qQ xT (by rfl) N.len b_len (qa_c (qL (qk (K:=K) rfl) (qv 0) qc (fun _ _=>rfl)) qe)) (qx _)))))
   (qd (zu (qL (qk (K:=K) rfl) (qL (qk (K:=K) rfl) (qv 0) qc (fun _ _=>rfl)) (qL (qk (K:=K) rfl) (qv 0) qc (fun _ _=>rfl)) (fun _ _=>rfl)) (xX (qv 0) qc za))
   (qh (zu (qB vB (qL (qk (K:=K) rfl) (qv 0) qc (fun _ _=>rfl)) qc) (xX (qv 0) qc za))))
   (qh (vF (qm Qz (qL (qk (K:=K) rfl) (qv 0) qc (fun _ _=>rfl)) qc (qx _))
    (qd (zu (qB vB (qL (qk (K:=K) rfl) (qv 0) qc (fun _ _=>rfl)) qc) (xX (qv 0) qc za))
    (qd (zu (qB zV (qB vB (qB vB (qB vB (qB op_pow (qL (qk (K:=K) rfl) (qv 0) qc (fun _ _=>rfl)) qc) (qB Xb qc (qL (qk (K:=K) rfl) (qv 0) qc (fun _ _=>rfl)))) (qB Xb qc (qL (qk (K:=K) rfl) (qv 0) qc (fun _ _=>rfl)))) qc) qc) (xX (qv 0) qc za))
    (qh (qw (qB zV (qB Vl (qL (qk (K:=K) rfl) (qv 0) qc (fun _ _=>rfl)) qc) (qv 1))))))
    qN)))
  (qd (qR (i:=2) scDraw.nd rfl (Or.inl rfl) (qB zV (qL (qk (K:=K) rfl) (qv 0) qc (fun _ _=>rfl)) (qv 1)))
  (qd (zu (qB Vl (qL (qk (K:=K) rfl) (qv 0) qc (fun _ _=>rfl)) (qv 1)) (xX (qv 0) qc za))
  (qh (qw (qv 2)))))), ?_⟩
  walk_at "go"
  have fin:∀(z:Int) (H':Hp) (i' a' st' n':Int),0<=z->H' b=some (.lst [.ref c, .int i', .int (z / many), .int st', .int n'])->(∀x,x≠b->H' x=H x)->0<=i'->i'<=ns.length->0<=st'->st'<2147483647->Q (.int (z % many)) H':=fun z H' i' a' st' n' hz e1 e2 e3 e4 e5 e6 =>
   k _ _ (Int.emod_nonneg _ (by omega)) (Int.emod_lt_of_pos _ m0) ⟨c,ns,i',z / many,st',n',e1,by rw[e2 c hcb]; exact hc,e3,e4,hl,hns,Int.ediv_nonneg hz (by omega),e5,e6⟩ e2 (kQ hb e1)
  refine ite2 (fun ha=>?_) (fun ha=>?_)
  ·walk_at "go"
   refine ite2 (fun hi=>?_) (fun hi=>?_)
   ·rw[List.length_map] at hi
    obtain⟨j,rfl⟩:∃j:Nat,i=(j:Int):=⟨i.toNat,by omega⟩
    have hj:j<ns.length:=by omega
    walk_at "go"
    refine XR hc (v7 (v:=.int ns[j]) (by rw[List.getElem?_map,List.getElem?_eq_getElem hj]; rfl)) ?_
    walk_at "go"
    refine⟨m0, ?_⟩
    walk_at "go"
    refine⟨⟨m0,mb⟩, ?_⟩
    walk_at "go"
    exact fin _ _ (j+1) 0 st n (hns _ (List.getElem_mem hj)) upd_same (fun x hx=>by rw[upd_ne hx,upd_ne hx,upd_ne hx]) (by omega) (by omega) s0 s1
   ·walk_at "go"
    rw[if_pos ha]
    walk_at "go"
    refine⟨⟨by decide,by decide,by omega⟩, ?_⟩
    walk_at "go"
    refine⟨.inl ⟨by decide,by decide⟩, ?_⟩
    walk_at "go"
    refine⟨.inl ⟨by decide,by decide⟩,by decide, ?_⟩
    walk_at "go"
    refine⟨⟨by decide,by decide⟩,m0, ?_⟩
    refine k _ _ (Int.emod_nonneg _ (by omega)) (Int.emod_lt_of_pos _ m0) ⟨c,ns,i,a,_,n+1,upd_same, ?_,i0,i1,hl,hns,a0,Int.emod_nonneg _ (by decide),Int.emod_lt_of_pos _ (by decide)⟩ (fun x hx=>by rw[upd_ne hx,upd_ne hx]) (kQ hb upd_same)
    walk_at "hp"
  ·walk_at "go"
   rw[if_neg ha]
   walk_at "go"
   refine⟨m0, ?_⟩
   walk_at "go"
   refine⟨⟨m0,mb⟩, ?_⟩
   walk_at "go"
   exact fin _ _ i 0 st n a0 upd_same (fun x hx=>by rw[upd_ne hx]) i0 i1 s0 s1
def MB (M:MM) (k:Nat) (o:MO) (L:List MO):MM:=M.set k o++L
theorem MB_len {M:MM} {k:Nat} {o:MO} {L:List MO}:(MB M k o L).length=M.length+L.length:=by unfold MB; rw[List.length_append,List.length_set]
theorem MB_new {M:MM} {k:Nat} {o x:MO} {L:List MO}:MB M k o L++[x]=MB M k o (L++[x]):=by unfold MB; rw[List.append_assoc]
theorem MB_get {M:MM} {k i:Nat} {o:MO} {L:List MO}:(MB M k o L)[M.length+i]?=L[i]?:=by
 unfold MB
 rw[List.getElem?_append_right (by rw[List.length_set]; omega),List.length_set,Nat.add_sub_cancel_left]
theorem jU {M:MM} {k i:Nat} {o x:MO} {L:List MO} (h:L[i]?=some x:=by rfl):(MB M k o L)[M.length+i]?=some x:=MB_get.trans h
theorem MB_set {M:MM} {k i:Nat} {o x:MO} {L:List MO}:(MB M k o L).set (M.length+i) x=MB M k o (L.set i x):=by
 unfold MB
 rw[List.set_append_right _ _ (by rw[List.length_set]; omega),List.length_set,Nat.add_sub_cancel_left]
structure BagO (o:MO):Prop where
 ex:∃(ns:List Int) (i a st n:Int),o=.lst [.p (XV ns), .p (.int i), .p (.int a), .p (.int st), .p (.int n)]/\0<=i/\i<=ns.length/\ns.length<=63/\(∀x∈ns,0<=x)/\0<=a/\0<=st/\st<2147483647
def X1:List U->MM->UK->Prop:=fun us M Q=>∃(k:Nat) (o:MO) (many:Int),us=[.m k, .p (.int many)]/\M[k]?=some o/\BagO o/\0<many/\many.natAbs.log2<9000/\∀(found:Int) (o':MO),0<=found->found<many->BagO o'->Q (.p (.int found)) (M.set k o')
theorem ints_inv {A:Addr->Prop} {H:Hp} {v:V} {ns:List Int} (r:RepT A H v (XV ns)):∃p,v=.ref p/\¬A p/\H p=some (.lst (ns.map V.int)):=by
 obtain⟨p,vs,rfl,na,h,q⟩:=r.lst_inv
 refine⟨p,rfl,na, ?_⟩
 have:vs=ns.map V.int:=by
  clear h r na
  induction ns generalizing vs with
  |nil=>cases q; rfl
  |cons n ns ih =>
   cases q with
   |cons a b=>cases a; rw[ih _ b]; rfl
 rw[h,this]
theorem Vq {A:Addr->Prop} {H:Hp} {p:Addr} {ns:List Int} (na:¬A p) (h:H p=some (.lst (ns.map V.int))):RepT A H (.ref p) (XV ns):=by
 refine .lstP na h ?_
 induction ns with
 |nil=>exact .nil
 |cons n ns ih=>exact .cons (.int n) (by
   clear h ih
   induction ns with
   |nil=>exact .nil
   |cons n ns ih=>exact .cons (.int n) ih)
theorem bag_obj {A:Addr->Prop} {ι:List Addr} {H:Hp} {b:Addr} {o:MO} (hb:BagO o) (r:ObjR A ι H b o):BagAt H b/\∃c,zA H b c/\¬Av A ι c/\∃ns:List Int,H c=some (.lst (ns.map V.int)):=by
 obtain⟨ns,i,a,st,n,rfl,k⟩:=hb.ex
 obtain⟨vs,h,q⟩:=r
 cases q with
 |cons q1 q =>
 cases q with
 |cons q2 q =>
 cases q with
 |cons q3 q =>
 cases q with
 |cons q4 q =>
 cases q with
 |cons q5 q =>
 cases q
 cases q1 with
 |p q1 =>
 obtain⟨c,rfl,nc,hc⟩:=ints_inv q1
 cases q2 with
 |p q2 =>
 cases q3 with
 |p q3 =>
 cases q4 with
 |p q4 =>
 cases q5 with
 |p q5 =>
 cases q2; cases q3; cases q4; cases q5
 exact⟨⟨c,ns,i,a,st,n,h,hc,k⟩,c,⟨_,h⟩,nc,ns,hc⟩
theorem VF {A:Addr->Prop} {ι:List Addr} {H:Hp} {b c:Addr} (B:BagAt H b) (hd:zA H b c) (nc:¬Av A ι c):∃o,BagO o/\ObjR A ι H b o/\∃x,H b=some x/\∀H',H' b=some x->(∀y z,H y=some z->y≠b->H' y=some z)->ObjR A ι H' b o:=by
 obtain⟨c',ns,i,a,st,n,h,hc,k⟩:=B.ex
 have:c=c':=head_inj hd ⟨_,h⟩
 subst this
 have ncb:c≠b:=Jp h hc
 refine⟨_,⟨ns,i,a,st,n,rfl,k⟩,⟨_,h, .cons (.p (Vq nc hc)) (.cons (.p (.int _)) (.cons (.p (.int _)) (.cons (.p (.int _)) (.cons (.p (.int _)) .nil))))⟩,_,h,fun H' e f=>⟨_,e, .cons (.p (Vq nc (f _ _ hc ncb))) (.cons (.p (.int _)) (.cons (.p (.int _)) (.cons (.p (.int _)) (.cons (.p (.int _)) .nil))))⟩⟩
theorem ok_drawU {f:Addr} {fd:FuncData} (F:Fun K "_law_draw" "_law_draw" sDraw f fd) (N:Nms mg):FnOk P w K mg base CX0 1 f fd ["bag", "many"] (spU X1):=by
 refine(ok_draw2 F N).imp fun vs H Q E h=>?_
 obtain⟨A,ι,M,us,Qu,w1,r,⟨k,o,many,rfl,em,hb,h0,h1,q⟩,kk⟩:=h
 cases r with
 |cons r1 r =>
 cases r with
 |cons r2 r =>
 cases r
 cases r2 with
 |p r2 =>
 cases r2
 cases r1 with
 |m ek =>
 rename_i b
 have ro:=w1.obj k b o ek em
 obtain⟨B,c,hd,nc,ns,hcs⟩:=bag_obj hb ro
 refine⟨b,many,rfl,B,h0,h1,fun found H' f0 f1 B' fr hdk=>?_⟩
 have hd':=hdk c hd
 have hmem:=List.mem_of_getElem? ek
 obtain⟨o',hb',ro',x,hx,_⟩:=VF (A:=A) (ι:=ι) B' hd' nc
 have eH:H'=L2.upd H b x:=by
  funext y
  by_cases z:y=b
  ·subst z; rw[L2.upd_same]; exact hx
  ·rw[L2.upd_ne z]; exact fr y z
 subst eH
 exact kk _ _ ι _ _ (.put hmem) (w1.put ek ro') (.p (.int _)) (q found o' f0 f1 hb')
theorem up1 {a:T} {R:T->Prop}:(∃t,U.p a=.p t/\R t)=R a:=propext ⟨fun⟨_,e,h⟩=>by cases e; exact h,fun h=>⟨a,rfl,h⟩⟩
theorem xo {k:Nat} {ts:List T} {ρ0:UEnv} {M:MM} {ug:UG} {ut:UT} {ua:UE} {Q:UK} (hz:ts.length<=sizeLine) (Iv:Nat->List T->MM->Prop) (h0:Iv 0 [] M) (hk:∀i acc M2,Iv i acc M2->M2[k]?=some (.lst (ts.map U.p))) (hs:∀i t acc M2,ts[i]?=some t->acc.length<=i->Iv i acc M2->ug (.p t) ρ0 M2 fun ρ4 M4=>ut ρ4 M4 fun b M5=>if b=true then ua ρ4 M5 fun z M6=>∃t,z=.p t/\Iv (i+1) (acc++[t]) M6 else Iv (i+1) acc M5) (hd:∀acc M2,Iv ts.length acc M2->Q (.p (.lst acc)) M2):UComp (itU (.m k) (ts.map U.p)) ug ut ua ρ0 M Q:=by
 refine⟨by simpa[itU] using hz,Iv,h0,fun i acc M2 hi ha h=>⟨by show ql M2 (.m k)=_; simp[ql,hk i acc M2 h],fun u hu=>?_⟩,fun acc M2 h=>⟨by show ql M2 (.m k)=_; simp[ql,hk _ acc M2 h],hd acc M2 (by simpa[itU] using h)⟩⟩
 have hu:(ts.map U.p)[i]?=some u:=hu
 rw[List.getElem?_map] at hu
 cases e:ts[i]? with
 |none=>rw[e] at hu; cases hu
 |some t=>rw[e] at hu; cases hu; exact hs i t acc M2 e ha h
theorem qP {α β:Type} {f:α->β} {l:List α} {i:Nat} {y:β} (h:(l.map f)[i]?=some y):∃x,l[i]?=some x/\y=f x:=by
 rw[List.getElem?_map] at h
 cases e:l[i]? with
 |none=>rw[e] at h; cases h
 |some n=>rw[e] at h; cases h; exact⟨n,rfl,rfl⟩
theorem t2_at {M:MM} {u a b:U} {R:U->U->Prop} (h:vh M u=some [a,b]) (q:R a b):T2S M u R:=⟨a,b,h,q⟩
theorem t3_at {M:MM} {u a b c:U} {R:U->U->U->Prop} (h:vh M u=some [a,b,c]) (q:R a b c):T3S M u R:=⟨a,b,c,h,q⟩
theorem zj {M:MM} {k:Nat} {ts:List T} {l h:Option Int} {Q:UK} (e:M[k]?=some (.lst (ts.map U.p))) (q:Q (.p (.lst (cutT ts l h))) M):SlS M (.m k) l h Q:=⟨ts,by simp[sn,e],q⟩
theorem useq {a b:US} {E:UEnds} {ρ:UEnv} {M:MM} (h:a { E with nx:=b E } ρ M):uSeq a b E ρ M:=h
local macro_rules | `(tactic| walk_at "us") => `(tactic| first|walk_at "vs" |simp only[uSeq])
local macro_rules | `(tactic| walk_at "u") => `(tactic| repeat (first|walk_at "us" |refine vO rfl ?_|refine vO at0 ?_|refine vO at1 ?_|refine XM rfl ?_|refine t2_at rfl ?_|refine t3_at rfl ?_|refine V1 rfl ?_|refine jE rfl ?_|refine V1 jU ?_|refine jE jU ?_))
local macro_rules | `(tactic| walk_at "vs") => `(tactic| simp only[zt,uNext,uAsg,VJ,rd_name2,rd_name3,rd_var,rd_varS,uC,Qf,uNil,rd_op,rd_opS,rd_sI,rd_sI0,rd_eqI,rd_neI,rd_eqS,rd_neS,rd_eqB,rd_neB,uIsN,QN,rd_intS,rd_blS,rd_neg,rd_bits,rd_b,rd_andV,rd_orV,rd_notV,uAnd,uOr,uNot,uIf,rd_chain,rd_chP,rd_ch,rd_pur0,rd_purC,ZL,rd_tup,rd_lst,uNew,uNewT,rd_ix,rd_sns0,rd_snsC,rd_cb,rd_abs',rd_min',rd_max',rd_int',rd_intB,rd_len,rd_lenP,rd_sl,rd_slS,rd_part,ZM,rd_cat,rd_str,rd_iter,rd_iterP,rd_rng1,uFor,uComp,V2,rd_t2,rd_t3,rd_callP,rd_callS,rd_callU,rd_me,rd_app,uDrop,uRet,uRetN,uIfS,uYes,ss,uIsi,uIsi2,isU,isT,uIxK,uInK,vt,uDNew,rd_din,rd_dput,rd_idxK,rd_lrng2,rd_sub,rd_par,rd_par3,rd_p2,rd_p3,rd_name4,rd_t4,rd_fld,ZN,rd_meth,rd_make,ZK,Bool.or_true,Bool.true_or,Bool.or_false,Bool.false_or,uIfC,iteT_int,iteT_str,rd_rev,rd_revP,up1,frzB_p,frzN_p,MO.lst.injEq,rd_dget,Q6,MB_new,MB_len,MB_get,MB_set,Option.some.injEq,List.map_cons,List.map_nil,List.length_cons,List.length_nil,List.replicate,List.append_nil,List.nil_append,List.cons_append,List.getElem?_cons_zero,List.getElem?_cons_succ,List.set_cons_zero,List.set_cons_succ,List.zip_cons_cons,List.zip_nil_left,List.zip_nil_right,Bool.false_eq_true,if_true,if_false,decide_eq_true_eq,decide_true,decide_false,Bool.not_true,Bool.not_false,true_and,and_true,Nat.reduceAdd,Nat.reduceSub,Nat.zero_add,exists_eq_left'])
local macro_rules | `(tactic| walk_at "v") => `(tactic| repeat (first|with_reducible refine useq ?_|walk_at "vs" | ((with_reducible refine gdIx ?_); first|refine vO rfl ?_|refine vO at0 ?_|refine vO at1 ?_|refine XM rfl ?_)|((with_reducible refine gdT2 ?_); refine t2_at rfl ?_)|((with_reducible refine gdT3 ?_); refine t3_at rfl ?_)|((with_reducible refine gdMe ?_); first|refine V1 rfl ?_|refine V1 jU ?_)|((with_reducible refine gdLen ?_); first|refine jE rfl ?_|refine jE jU ?_)))
abbrev Mk3:=Str×Int×Int
def on (word:Int) (m:Mk3):Bool:=decide (word % 2^m.2.1.toNat=m.2.2)
def Wd (ms:List Mk3):Prop:=∀m∈ms,0<=m.2.1/\m.2.1<=1000
theorem jo (k:Nat):(0:Int)<2^k:=Int.pow_pos (by decide)
theorem qi {α:Type} {l:List α} {i:Nat} {x:α} (h:l[i]?=some x):l.take (i+1)=l.take i++[x]:=by
 obtain⟨hi,e⟩:=List.getElem?_eq_some_iff.mp h
 rw[List.take_succ_eq_append_getElem hi,e]
def OfKind (ms:List Mk3) (kind:Str) (m:Mk3):Prop:=∃rest,ms.filter (fun m=>decide (m.1=kind))=m::rest
def fiveK:List Str:=["small", "far", "pair", "sign", "one"]
abbrev Nd:=Int×Int
def Disj (a b:Nd):Prop:=∀x:Int,¬(x % 2^a.1.toNat=a.2/\x % 2^b.1.toNat=b.2)
theorem Disj.symm {a b:Nd} (h:Disj a b):Disj b a:=fun x ⟨p,q⟩=>h x ⟨q,p⟩
def NdOk (a:Nd):Prop:=0<=a.1/\a.1<=60/\0<=a.2/\a.2<2^a.1.toNat
def need (kind:Str):Int:=if kind = "sign" then 7 else if kind = "small" then 2 else if kind = "one" then 2 else 3
structure Right (bits:Int) (ms:List Mk3):Prop where
 b:8<=bits/\bits<=32
 n:ms.length=5
 k:(ms.map (·.1)).Perm fiveK
 w:∀m∈ms,1<=m.2.1/\m.2.1<=bits-need m.1
 p:∀m∈ms,0<=m.2.2/\m.2.2<2^m.2.1.toNat
 d:ms.Pairwise fun m m'=>Disj m.2 m'.2
theorem need_ge (k:Str):2<=need k:=by unfold need; split<;>(try split)<;>(try split)<;>decide
theorem Right.wd {bits:Int} {ms:List Mk3} (r:Right bits ms):Wd ms:=fun m hm=>by
 have:=r.w m hm
 have h2:=need_ge m.1
 have:=r.b
 omega
theorem Right.kind {bits:Int} {ms:List Mk3} (r:Right bits ms) {kind:Str} (h:kind∈fiveK):∃m,OfKind ms kind m:=by
 have:kind∈ms.map (·.1):=r.k.mem_iff.mpr h
 obtain⟨m,hm,e⟩:=List.mem_map.mp this
 cases q:ms.filter (fun m=>decide (m.1=kind)) with
 |nil =>
  have:m∈ms.filter (fun m=>decide (m.1=kind)):=List.mem_filter.mpr ⟨hm,by simp[e]⟩
  rw[q] at this; cases this
 |cons m0 rest=>exact⟨m0,rest,q⟩
def xm (mask:Int) (n:Nd):Nd:=(n.1,Builtin.bitXor n.2 mask % 2^n.1.toNat)
def fm (mask:Int) (o:Str) (n:Nd):Mk3:=(o,xm mask n)
structure LInv (bits:Int) (KS:List Str) (i:Nat) (ns:List Nd) (ms:List Mk3):Prop where
 ok:∀n∈ns,NdOk n
 low:∃n∈ns,n.1<=i
 len:ns.length<=1+31*i
 kinds:ms.map (·.1)=KS.take i
 w:∀m∈ms,1<=m.2.1/\m.2.1<=bits-need m.1
 p:∀m∈ms,NdOk m.2
 d:(ns++ms.map (·.2)).Pairwise Disj
structure WInv (i:Nat) (w0:Int) (c:Nd) (ns:List Nd) (ms:List Mk3):Prop where
 cok:NdOk c
 w:w0<=c.1
 ok:∀n∈ns,NdOk n
 low:(∃n∈ns,n.1<=i+1)\/(c.1=w0/\w0<=i)
 len:(ns.length:Int)<=31*i+c.1
 d:(c::(ns++ms.map (·.2))).Pairwise Disj
theorem WInv.fin {bits w0 goal:Int} {KS:List Str} {kind:Str} {i:Nat} {c:Nd} {ns ns0:List Nd} {ms:List Mk3} (h:WInv i w0 c ns ms) (h0:LInv bits KS i ns0 ms) (hk:KS[i]?=some kind) (hg:c.1=goal) (hw:w0<goal) (h1:1<=goal) (h2:goal<=bits-need kind) (h31:goal<=31) :
  LInv bits KS (i+1) ns (ms++[(kind,c)]):=by
 have hl:=h.len
 refine⟨h.ok, ?_, ?_, ?_,fun m hm=>?_,fun m hm=>?_, ?_⟩
 ·rcases h.low with⟨n,hn,hw'⟩|⟨e,_⟩
  ·exact⟨n,hn,by push_cast; exact hw'⟩
  ·omega
 ·omega
 ·rw[List.map_append,h0.kinds,qi hk]; rfl
 ·rcases List.mem_append.mp hm with z|z
  ·exact h0.w m z
  ·rw[List.mem_singleton.mp z]; exact⟨by show 1<=c.1; omega,by show c.1<=bits-need kind; omega⟩
 ·rcases List.mem_append.mp hm with z|z
  ·exact h0.p m z
  ·rw[List.mem_singleton.mp z]; exact h.cok
 ·rw[List.map_append, <-List.append_assoc]
  have p1:(ns++ms.map (·.2)++[c]).Perm (c::(ns++ms.map (·.2))):=List.perm_append_comm
  exact(p1.pairwise_iff fun h=>h.symm).mpr h.d
theorem OfKind.is {ms:List Mk3} {kind:Str} {m:Mk3} (h:OfKind ms kind m):m.1=kind:=by
 obtain⟨rest,e⟩:=h
 have:m∈ms.filter (fun m=>decide (m.1=kind)):=by rw[e]; exact List.mem_cons_self
 exact of_decide_eq_true (List.mem_filter.mp this).2
def vo (m:Mk3):T:=.tup [.str m.1, .int m.2.1, .int m.2.2]
def layT (bits:Int) (ms:List Mk3):T:=.tup [.int bits, .lst (ms.map vo)]
def ndT (n:Nd):T:=.tup [.int n.1, .int n.2]
def strsT (ks:List Str):T:=.lst (ks.map T.str)
theorem atT {α:Type} {f:α->T} {xs:List α} {i:Nat} {x:α} (h:xs[i]?=some x):atI (xs.map f) (i:Int)=some (f x):=v7 (by rw[List.getElem?_map,h]; rfl)
theorem nd_eqT {a b:Nd} {n:Nat}:EqT (n+1) (ndT a) (ndT b) (decide (a=b)):=by
 have h:=EqT.tup (n:=n) (xs:=[.int a.1, .int a.2]) (ys:=[.int b.1, .int b.2]) (e:=fun j=>if j=0 then decide (a.1=b.1) else decide (a.2=b.2)) (fun j x y hx hy=>by
  match j,hx,hy with
  |0,hx,hy =>
   cases hx; cases hy
   have:=EqT.flat (n:=n) (a:=.int a.1) (b:=.int b.1) rfl rfl
   rw[show eqV (.int a.1) (.int b.1)=decide (a.1=b.1) by simp[eqV,Bool.beq_eq_decide_eq]] at this; exact this
  |1,hx,hy =>
   cases hx; cases hy
   have:=EqT.flat (n:=n) (a:=.int a.2) (b:=.int b.2) rfl rfl
   rw[show eqV (.int a.2) (.int b.2)=decide (a.2=b.2) by simp[eqV,Bool.beq_eq_decide_eq]] at this; exact this
  |j+2,hx,_=>cases hx)
 have e:((List.range (min [T.int a.1,T.int a.2].length [T.int b.1,T.int b.2].length)).all (fun j=>if j=0 then decide (a.1=b.1) else decide (a.2=b.2))&&[T.int a.1,T.int a.2].length==[T.int b.1,T.int b.2].length)=decide (a=b):=by
  obtain⟨a1,a2⟩:=a
  obtain⟨b1,b2⟩:=b
  simp[List.range_succ]
 rw[e] at h
 exact h
structure Tup5 (K:PySem.W.Frag) (mg:Str->Option Value) (nm:Str) (p:Addr) (x y z v r:Str):Prop where
 mg:mg nm=some (.ref p)
 ex:∃(t u t' u' t2:Tok) (n:Nat) (sl:Array (Option Value)),K.lookup p=some ⟨.type "tuple", none, .seq #[.str x t, .str y u, .str z t', .str v u', .str r t2] n,sl⟩
theorem Tup5.kt {mg:Str->Option Value} {nm:Str} {p:Addr} {x y z v r:Str} (T5:Tup5 K mg nm p x y z v r):KTu K p [.str x, .str y, .str z, .str v, .str r]:=fun H=>by
 obtain⟨t,u,t',u',t2,n,sl,e⟩:=T5.ex
 exact .inr ⟨_,_,n,e,rfl,rfl,by show 5<=sizeLine; decide, .cons ⟨t,rfl⟩ (.cons ⟨u,rfl⟩ (.cons ⟨t',rfl⟩ (.cons ⟨u',rfl⟩ (.cons ⟨t2,rfl⟩ .nil))))⟩
def XE:List (Str×V):=[("small", .int 2),("far", .int 3),("pair", .int 3),("sign", .int 7),("one", .int 2)]
def leastT:List (Str×T):=[("small", .int 2),("far", .int 3),("pair", .int 3),("sign", .int 7),("one", .int 2)]
theorem least_sc:Paired (fun(a:Str×V) (b:Str×T)=>a.1=b.1/\Sc a.2 b.2) XE leastT:=.cons ⟨rfl, .int _⟩ (.cons ⟨rfl, .int _⟩ (.cons ⟨rfl, .int _⟩ (.cons ⟨rfl, .int _⟩ (.cons ⟨rfl, .int _⟩ .nil))))
theorem V4 {k:Str} (h:k∈fiveK):leastT.lookup k=some (.int (need k)):=by
 simp only[fiveK,List.mem_cons,List.not_mem_nil,or_false] at h
 rcases h with h|h|h|h|h<;>rw[h]<;>rfl
abbrev Qn:Stmt:=top 5
theorem scBitsGo:FnScope ["bits"] ["bits"] (qg Qn):=⟨rfl,rfl,rfl,by decide +kernel,rfl,by decide +kernel,by decide +kernel⟩
def QU:List T->(T->Prop)->Prop:=fun ts Q=>∃bits:Int,ts=[.int bits]/\Q (.bl (decide (8<=bits)&&decide (bits<=32)))
theorem Xi {f:Addr} {fd:FuncData} (F:Fun K "bits_go" "bits_go" Qn f fd) (GFew:GInt mg "FEWEST_BITS" 8) (GMost:GInt mg "MOST_BITS" 32):FnOk P w K mg base CX0 1 f fd ["bits"] (spP QU):=by
 refine F.zP scBitsGo (fun ts Qt h=>?_) (fun cdv A outer s H E hr=>?_)
 ·obtain⟨_,rfl,_⟩:=h
  rfl
 refine⟨_,(qh (qw (Vj VU VU (ZY GFew rfl) (qv 0) (ZY GMost rfl)))),_,(qF (VD (qA fun _ _=>.bl _) (qA fun _ _=>.bl _) (ce_c (.int _)) (qb 0) (ce_c (.int _)))),fun ts Qt h=>?_⟩
 obtain⟨bits,rfl,q⟩:=h
 walk_at "v"
 refine ite2 (fun h=>?_) (fun h=>?_)<;>simpa[h] using q
abbrev zE:Stmt:=top 6
theorem Qj:FnScope ["bits", "width"] ["bits", "width"] (qg zE):=⟨rfl,rfl,rfl,by decide +kernel,rfl,by decide +kernel,by decide +kernel⟩
def zN:List T->(T->Prop)->Prop:=fun ts Q=>∃bits width:Int,ts=[.int bits, .int width]/\Q (.bl (decide (1<=width)&&decide (width<=bits-1)))
theorem kB {f:Addr} {fd:FuncData} (F:Fun K "width_goes" "width_goes" zE f fd):FnOk P w K mg base CX0 1 f fd ["bits", "width"] (spP zN):=by
 refine F.zP Qj (fun ts Qt h=>?_) (fun cdv A outer s H E hr=>?_)
 ·obtain⟨_,_,rfl,_⟩:=h
  rfl
 refine⟨_,(qh (qw (Vj VU VU qc (qv 1) (qB zT (qv 0) qc)))),_,(qF (VD (qA fun _ _=>.bl _) (qA fun _ _=>.bl _) (ce_c (.int _)) (qb 1) (qr (qA fun _ _=>.int _) (qb 0) (ce_c (.int _))))),fun ts Qt h=>?_⟩
 obtain⟨bits,width,rfl,q⟩:=h
 walk_at "v"
 refine ite2 (fun h=>?_) (fun h=>?_)<;>simpa[h] using q
abbrev xq:Stmt:=top 7
theorem VP:FnScope ["bits", "kind", "width"] ["bits", "kind", "width"] (qg xq):=⟨rfl,rfl,rfl,by decide +kernel,rfl,by decide +kernel,by decide +kernel⟩
def xI:List T->(T->Prop)->Prop:=fun ts Q=>∃(bits:Int) (kind:Str) (width:Int),ts=[.int bits, .str kind, .int width]/\kind∈fiveK/\Q (.bl (decide (need kind<=bits-width)))
theorem QD {f ld:Addr} {fd:FuncData} (F:Fun K "load_goes" "load_goes" xq f fd) (DLeast:KDi K w mg "LEAST_LOAD_BITS" ld XE):FnOk P w K mg base CX0 1 f fd ["bits", "kind", "width"] (spP xI):=by
 refine F.zP VP (fun ts Qt h=>?_) (fun cdv A outer s H E hr=>?_)
 ·obtain⟨_,_,_,rfl,_⟩:=h
  rfl
 refine⟨_,(qh (qw (Qq op_ge (qB zT (qv 0) (qv 2)) (qe_kd DLeast rfl (qv 1) (fun _ _=>rfl)) (qx _)))),_,(qF (qr (qA fun _ _=>.bl _) (qr (qA fun _ _=>.int _) (qb 0) (qb 2)) (ce_kd least_sc (qb 1)))),fun ts Qt h=>?_⟩
 obtain⟨bits,kind,width,rfl,hk,q⟩:=h
 walk_at "v"
 unfold uKD
 walk_at "v"
 refine⟨_,_,rfl,V4 hk, ?_⟩
 walk_at "v"
 exact q
def mkOk (bits:Int) (m:Mk3):Bool:=(decide (1<=m.2.1)&&decide (m.2.1<=bits-1))&&(decide (0<=m.2.2)&&decide (m.2.2<2^m.2.1.toNat))
def xJ (bits:Int) (ms:List Mk3):Bool:=(decide (8<=bits)&&decide (bits<=32))&&(decide (ms.length=5)&&((ms.map (·.1)).isPerm fiveK&&ms.all (mkOk bits)))
abbrev ju:Stmt:=top 8
theorem ZB:FnScope ["marks", "word"] ["marks", "word"] (qg ju):=⟨rfl,rfl,rfl,by decide +kernel,rfl,by decide +kernel,by decide +kernel⟩
theorem VY:(["marks", "word", "kind", "width", "pattern"]:List Str).Nodup:=by decide +kernel
def jK:List T->(T->Prop)->Prop:=fun ts Q=>∃(ms:List Mk3) (word:Int),ts=[.lst (ms.map vo), .int word]/\Wd ms/\ms.length<=900/\Q (strsT ((ms.filter (on word)).map (·.1)))
theorem kD {f:Addr} {fd:FuncData} (F:Fun K "kinds_on" "kinds_on" ju f fd):FnOk P w K mg base CX0 1 f fd ["marks", "word"] (spP jK):=by
 refine F.zP ZB (fun ts Qt h=>?_) (fun cdv A outer s H E hr=>?_)
 ·obtain⟨_,_,rfl,_⟩:=h
  rfl
 refine⟨_,(qh (qw (zI [false,true] ["kind", "width", "pattern"] (qC (K:=K) rfl (qv 0)) (fun _ _ _=>(Vi (K:=K) (i:=2) (j:=3) (k:=4) rfl VY rfl rfl rfl rfl (Or.inl rfl) (Or.inl rfl) (Or.inl rfl) (Or.inr rfl) (Or.inr rfl) (Or.inr rfl))) (fun _ _ _=>zF (qm Qz (qB zV (qv 1) (qB ja qc (qv 3))) (qv 4) (qx _))) (fun _ _ _=>(qv 2))))),_,(qF (vg (qW (qb 0)) (xS 2 3 4) (qp (qr kw (qr (ky fun _ _=>.int _) (qb 1) (qr (ky fun _ _=>.int _) (ce_c (.int _)) (qb 3))) (qb 4))) (qb 2))),fun ts Qt h=>?_⟩
 obtain⟨ms,word,rfl,hw,hl,q⟩:=h
 walk_at "u"
 refine qX (by rw[List.length_map]; exact Nat.le_of_lt (vL (by omega))) (fun i acc M'=>M'=[]/\acc=(((ms.take i).filter (on word)).map (·.1)).map T.str) ⟨rfl,rfl⟩ ?_ ?_
 ·rintro i x acc M' hx _ ⟨rfl,rfl⟩
  obtain⟨m,hm,rfl⟩:=qP hx
  have hmw:=hw m (List.mem_of_getElem? hm)
  walk_at "u"
  refine⟨⟨by omega,by omega,by decide⟩, ?_, ?_⟩
  ·rw[Int.one_mul]; exact jo _
  rw[qi hm,List.filter_append,List.map_append,List.map_append,Int.one_mul]
  refine ite2 (fun hh=>?_) (fun hh=>?_)<;>simp[on,hh]
 ·rintro acc M' ⟨rfl,rfl⟩
  rw[List.length_map,List.take_length]
  walk_at "u"
  exact q
def minO:List Int->Option Int
 | []=>none
 |a::r=>some (match minO r with|none=>a|some b=>if b<a then b else a)
theorem zL:∀{ns:List Int} {m:Int},minO ns=some m->m∈ns/\∀a∈ns,m<=a
 | [],_,h=>by cases h
 |a::r,m,h=>by
  simp only[minO,Option.some.injEq] at h
  cases e:minO r with
  |none =>
   rw[e] at h
   cases r with
   |nil=>subst h; exact⟨.head _,fun b hb=>by rcases List.mem_cons.mp hb with rfl|hb; exact Int.le_refl _; cases hb⟩
   |cons b r=>simp[minO] at e
  |some b =>
   rw[e] at h
   obtain⟨h1,h2⟩:=zL e
   simp only at h
   split at h
   ·subst h
    refine⟨.tail _ h1,fun c hc=>?_⟩
    rcases List.mem_cons.mp hc with rfl|hc
    ·omega
    ·exact h2 c hc
   ·subst h
    refine⟨.head _,fun c hc=>?_⟩
    rcases List.mem_cons.mp hc with rfl|hc
    ·omega
    ·have:=h2 c hc
     omega
theorem Xs {ns:List Int} {m:Int} (h:m∈ns) (hm:∀a∈ns,m<=a):minO ns=some m:=by
 cases ns with
 |nil=>cases h
 |cons a r =>
  obtain⟨b,hb⟩:∃b,minO (a::r)=some b:=⟨_,rfl⟩
  obtain⟨h1,h2⟩:=zL hb
  have:=h2 m h
  have:=hm b h1
  rw[hb,show b=m by omega]
def xK (ms:List Mk3):List Int:=(ms.filter fun m=>decide (1<(ms.filter (on m.2.2)).length)).map (·.2.2)
def fewK (bits:Int) (ms:List Mk3):Option Mk3:=ms.find? fun m=>decide (bits-m.2.1<need m.1)
def kW (bits:Int) (ms:List Mk3):T:=if xJ bits ms=true then(match minO (xK ms) with
 |some M=>.tup [.str "two", .int M]
 |none=>match fewK bits ms with
  |some m=>.tup [.str "few", .str m.1]
  |none=>.non) else .tup [.str "form", .non]
structure FormP (bits:Int) (ms:List Mk3):Prop where
 b:8<=bits/\bits<=32
 n:ms.length=5
 k:(ms.map (·.1)).Perm fiveK
 m:∀m∈ms,(1<=m.2.1/\m.2.1<=bits-1)/\0<=m.2.2/\m.2.2<2^m.2.1.toNat
theorem form_iff {bits:Int} {ms:List Mk3}:xJ bits ms=true↔FormP bits ms:=by
 unfold xJ
 simp only[Bool.and_eq_true,decide_eq_true_eq,List.isPerm_iff,List.all_eq_true,mkOk]
 exact⟨fun⟨a,b,c,d⟩=>⟨a,b,c,d⟩,fun h=>⟨h.b,h.n,h.k,h.m⟩⟩
theorem FormP.wd {bits:Int} {ms:List Mk3} (h:FormP bits ms):Wd ms:=fun m hm=>by
 have:=h.m m hm
 have:=h.b
 omega
theorem FormP.kd {bits:Int} {ms:List Mk3} (h:FormP bits ms) {m:Mk3} (hm:m∈ms):m.1∈fiveK:=h.k.mem_iff.mp (List.mem_map_of_mem hm)
abbrev ZF:Stmt:=top 16
theorem scKinds:FnScope [] [] (qg ZF):=⟨rfl,rfl,rfl,by decide +kernel,rfl,by decide +kernel,by decide +kernel⟩
def jf:List U->MM->UK->Prop:=fun us M Q=>us=[]/\Q (.m M.length) (M++[.lst ((fiveK.map T.str).map U.p)])
theorem Xg {f:Addr} {fd:FuncData} (F:Fun K "_law_kinds" "_law_kinds" ZF f fd):FnOk P w K mg base CX0 1 f fd [] (spU jf):=by
 refine F.zU scKinds (fun us M Qu h=>?_) (fun cdv A outer s H E hr=>?_)
 ·obtain⟨rfl,_⟩:=h
  rfl
 refine⟨_,(qh (qw (qV (qa_c vM (qa_c vM (qa_c vM (qa_c vM (qa_c vM qe)))))))),_,(qF (VC (qa (ce_c (.str _)) (qa (ce_c (.str _)) (qa (ce_c (.str _)) (qa (ce_c (.str _)) (qa (ce_c (.str _)) qf))))))),fun us M Qu h=>?_⟩
 obtain⟨rfl,q⟩:=h
 walk_at "v"
 exact q
def needU:List (Key×U):=[(.inr "small", .p (.int 2)),(.inr "far", .p (.int 3)),(.inr "pair", .p (.int 3)),(.inr "sign", .p (.int 7)),(.inr "one", .p (.int 2))]
theorem Xn {kind:Str} (h:kind∈fiveK):valU (jb [] needU) (.inr kind)=some (.p (.int (need kind))):=by
 have e:jb [] needU=needU:=rfl
 rw[e]
 have h':kind = "small" \/ kind = "far" \/ kind = "pair" \/ kind = "sign" \/ kind = "one" := by simpa[fiveK] using h
 rcases h' with rfl|rfl|rfl|rfl|rfl<;>rfl
theorem inV_strs {z:Str} {l:List Str}:inV (.str z) (l.map V.str)=decide (z∈l):=by
 unfold inV
 rw[List.any_map]
 induction l with
 |nil=>rfl
 |cons a l ih =>
  rw[List.any_cons,ih]
  show(decide (a=z)||decide (z∈l))=_
  by_cases h:a=z
  ·simp[h]
  ·simp[h,Ne.symm h]
theorem Q4:∀ss:List Str,vts (ss.map T.str)=some (ss.map V.str)
 | []=>rfl
 |s::ss=>by simp[vts,vt,Q4 ss]
abbrev Qm:Stmt:=top 17
theorem scNeeded:FnScope ["kind"] ["kind"] (qg Qm):=⟨rfl,rfl,rfl,by decide +kernel,rfl,by decide +kernel,by decide +kernel⟩
def xH:List T->(T->Prop)->Prop:=fun ts Q=>∃kind:Str,ts=[.str kind]/\kind∈fiveK/\Q (.int (need kind))
theorem Xf {f:Addr} {fd:FuncData} (F:Fun K "_law_needed" "_law_needed" Qm f fd):FnOk P w K mg base CX0 1 f fd ["kind"] (spP xH):=by
 refine F.zP scNeeded (fun ts Qt h=>?_) (fun cdv A outer s H E hr=>?_)
 ·obtain⟨_,rfl,_⟩:=h
  rfl
 refine⟨_,(qh (qw (ZZ (hu_of hr) (qe_disp (zw vM qc (zw vM qc (zw vM qc (zw vM qc (zw vM qc qps_nil))))) rfl rfl (fun z=>nomatch z) (by decide)) (qv 0) (fun _ _=>rfl)))),_,(qF (Jh (ce_disp (xP (ce_c (.str _)) (ce_c (.int _)) (xP (ce_c (.str _)) (ce_c (.int _)) (xP (ce_c (.str _)) (ce_c (.int _)) (xP (ce_c (.str _)) (ce_c (.int _)) (xP (ce_c (.str _)) (ce_c (.int _)) cp_nil)))))) (qb 0))),fun ts Qt h=>?_⟩
 obtain⟨kind,rfl,hk,q⟩:=h
 walk_at "v"
 simp only[uDisp]
 walk_at "v"
 refine⟨needU,rfl,by show 5<=15; decide, ?_⟩
 refine Vv rfl (Xn hk) ?_
 walk_at "v"
 exact q
theorem xz:∀{ks l:List Str},ks.Nodup->(∀k∈ks,k∈l)->l.length=ks.length->l.Perm ks
 | [],l,_,_,h=>by rw[List.eq_nil_of_length_eq_zero h]
 |k::ks,l,nd,h,hl=>by
  have hk:=h k (.head _)
  refine(List.perm_cons_erase hk).trans (.cons k (xz (List.nodup_cons.mp nd).2 (fun k' hk'=>?_) ?_))
  ·exact(List.mem_erase_of_ne fun z=>(List.nodup_cons.mp nd).1 (by rw[<-z]; exact hk')).mpr (h k' (.tail _ hk'))
  ·rw[List.length_erase_of_mem hk,hl]; rfl
abbrev sForm:Stmt:=top 18
theorem scForm:FnScope ["laying", "bits", "marks", "kinds", "kind", "width", "pattern"] ["laying"] (qg sForm):=⟨rfl,rfl,rfl,by decide +kernel,rfl,by decide +kernel,by decide +kernel⟩
theorem ndForm1:(["laying", "bits", "marks", "kinds", "kind", "width", "pattern", "one"]:List Str).Nodup:=by decide +kernel
def gForm:List T->(T->Prop)->Prop:=fun ts Q=>∃(bits:Int) (ms:List Mk3),ts=[layT bits ms]/\ms.length<=100000/\Q (.bl (xJ bits ms))
theorem ok_form {f:Addr} {fd:FuncData} (F:Fun K "_law_form" "_law_form" sForm f fd) (N:Nms mg) (DKinds:Def P w K mg base "_law_kinds" 1 [] (spU jf)):FnOk P w K mg base CX0 2 f fd ["laying"] (spP gForm):=by
 refine F.zP scForm (fun ts Qt h=>?_) (fun cdv A outer s H E hr=>?_)
 ·obtain⟨_,_,rfl,_⟩:=h
  rfl
 refine⟨_,(qd (zu (qv 0) (xt (K:=K) (i:=1) (j:=2) rfl scForm.nd rfl rfl rfl (Or.inl rfl) (Or.inl rfl) (Or.inl rfl) (Or.inl rfl)))
  (qd (qR (i:=3) scForm.nd rfl (Or.inr rfl) (zI [false,false,false,false,false,false,false] ["one"] (qC (K:=K) rfl (qv 2)) (fun _ _ _=>(qU (i:=7) ndForm1 rfl (Or.inl rfl))) (fun _ _ _=>vz) (fun _ _ _=>(qL (va (K:=K) rfl) (qv 7) qc (fun _ _=>rfl)))))
  (qd (vF (Qp (xb (qm Qx (qv 1) qc (qx _)) (xb (qm op_gt (qv 1) qc (qx _)) (xb (qm op_ne (qQ xT (by rfl) N.len b_len (qa_c (qv 3) qe)) qc (qx _)) (xW (qm (xB (K:=K) rfl hr.units) (zI [false,false,false,true,false,false,false] [] (qC (K:=K) rfl (jA DKinds (hr.mono (by first|decide|exact Nat.le_refl _)))) (fun _ _ _=>(qU (i:=4) scForm.nd rfl (Or.inl rfl))) (fun _ _ _=>zF (qm (Xa (K:=K) rfl) (qv 4) (qv 3) (by with_unfolding_all rfl))) (fun _ _ _=>(qv 4))) (qV qe) (qx _)))))))
   (qh (qw zJ))
   qN)
  (qd (zS PassesOwn.never rfl (qC (K:=K) rfl (qv 2)) (Vi (K:=K) (i:=4) (j:=5) (k:=6) rfl scForm.nd rfl rfl rfl rfl (Or.inl rfl) (Or.inl rfl) (Or.inl rfl) (Or.inl rfl) (Or.inl rfl) (Or.inl rfl))
   (qh (vF (Qp (xb (qm Qx (qv 5) qc (qx _)) (xb (qm op_ge (qv 5) (qv 1) (qx _)) (xb (qm Qx (qv 6) qc (qx _)) (xW (qm op_ge (qv 6) (qB ja qc (qv 5)) (qx _)))))))
    (qh (qw zJ))
    qN)))
  (qh (qw zJ)))))),_,(qj (qG (qb 0) (zi 1 2))
   (qj (qG (vg (qW (qb 2)) (qZ 7) v3 (vC (qb 7) (ce_c (.int _)))) (qo 3))
   (qj (vJ (xf (qp (qr (qA fun _ _=>.bl _) (qb 1) (ce_c (.int _)))) (xf (qp (qr (qA fun _ _=>.bl _) (qb 1) (ce_c (.int _)))) (xf (qp (qr Z8 (ce_len (qa (qb 3) qf)) (ce_c (.int _)))) (qp (qr xA (vg (qW (qD qf)) (qZ 4) (qp (qr opl_in (qb 4) (qb 3))) (qb 4)) (vf qf))))))
   (qF (ce_c (.bl _)))
   qT)
   (qj (xN (qW (qb 2)) (cg_name3 4 5 6)
   (vJ (xf (qp (qr (qA fun _ _=>.bl _) (qb 5) (ce_c (.int _)))) (xf (qp (qr (qA fun _ _=>.bl _) (qb 5) (qb 1))) (xf (qp (qr (qA fun _ _=>.bl _) (qb 6) (ce_c (.int _)))) (qp (qr (qA fun _ _=>.bl _) (qb 6) (qr (ky fun _ _=>.int _) (ce_c (.int _)) (qb 5)))))))
   (qF (ce_c (.bl _)))
   qT))
   (qF (ce_c (.bl _))))))),fun ts Qt h=>?_⟩
 obtain⟨bits,ms,rfl,hl,q⟩:=h
 have no:xJ bits ms=false->Qt (.bl false):=fun h=>by rw[h] at q; exact q
 walk_at "v"
 refine qX (by rw[List.length_map,sizeLine_eq]; omega) (fun i acc M'=>M'=[]/\acc=((ms.take i).map (·.1)).map T.str) ⟨rfl,rfl⟩ ?_ ?_
 ·rintro i x acc M' hx _ ⟨rfl,rfl⟩
  obtain⟨m,hm,rfl⟩:=qP hx
  walk_at "v"
  rw[qi hm,List.map_append,List.map_append]
  rfl
 ·rintro acc M' ⟨rfl,rfl⟩
  rw[List.length_map,List.take_length]
  walk_at "v"
  refine ite2 (fun h=>no ?_) (fun h1=>ite2 (fun h=>no ?_) (fun h2=>ite2 (fun h=>no ?_) (fun h3=>?_)))
  ·simp[xJ,show ¬8<=bits by omega]
  ·simp[xJ,show ¬bits<=32 by omega]
  ·have:¬ms.length=5:=by
    rw[List.length_map,List.length_map] at h
    have:=by simpa using h
    omega
   simp[xJ,this]
  have h3:ms.length=5:=by
   rw[List.length_map,List.length_map] at h3
   have:=by simpa using h3
   omega
  refine⟨rfl,jG rfl ?_⟩
  refine xo (ts:=fiveK.map T.str) (by show 5<=sizeLine; rw[sizeLine_eq]; decide) (fun j acc M2=>M2=[.lst ((fiveK.map T.str).map U.p)]/\acc=((fiveK.take j).filter fun s => !decide (s∈ms.map (·.1))).map T.str) ⟨rfl,rfl⟩ (fun j acc M2 h=>by rw[h.1]; rfl) ?_ ?_
  ·rintro j x acc M2 hx _ ⟨rfl,rfl⟩
   obtain⟨kd,hkd,rfl⟩:=qP hx
   walk_at "v"
   refine⟨_,_,_,rfl,rfl,Q4 _, ?_⟩
   rw[inV_strs]
   refine⟨_,rfl, ?_⟩
   rw[qi hkd,List.filter_append,List.map_append]
   cases e:decide (kd∈ms.map (·.1))<;>simp[e]
  ·rintro acc M2 ⟨rfl,rfl⟩
   rw[List.length_map,List.take_length]
   refine⟨_,_,rfl,rfl,eqNil ⟨_,rfl,ite2 (fun h4=>no ?_) (fun h4=>?_)⟩⟩
   ·have h5:(fiveK.filter fun s => !decide (s∈ms.map (·.1)))≠[]:=fun z=>by
     rw[z] at h4
     simp at h4
    have h6:(ms.map (·.1)).isPerm fiveK=false:=by
     rw[<-Bool.not_eq_true,List.isPerm_iff]
     intro z
     obtain⟨k,r,e⟩:=List.exists_cons_of_ne_nil h5
     have hk:k∈fiveK.filter fun s => !decide (s∈ms.map (·.1)):=by rw[e]; exact .head _
     obtain⟨a,b⟩:=List.mem_filter.mp hk
     have:k∈ms.map (·.1):=z.mem_iff.mpr a
     simp at b
     obtain⟨m,hm,em⟩:=List.mem_map.mp this
     exact b m.2.1 m.2.2 (by rw[<-em]; exact hm)
    simp[xJ,h6]
   have h5:(fiveK.filter fun s => !decide (s∈ms.map (·.1)))=[]:=by
    cases e:(fiveK.filter fun s => !decide (s∈ms.map (·.1))) with
    |nil=>rfl
    |cons a r=>rw[e] at h4; simp at h4
   have h6:(ms.map (·.1)).Perm fiveK:=by
    refine xz (by decide) (fun k hk=>?_) (by rw[List.length_map]; exact h3)
    have:=List.filter_eq_nil_iff.mp h5 k hk
    simpa using this
   have h7:xJ bits ms=ms.all (mkOk bits):=by
    unfold xJ
    rw[List.isPerm_iff.mpr h6,decide_eq_true h3,decide_eq_true (by omega:(8:Int)<=bits),decide_eq_true (by omega:bits<=32)]
    simp
   rw[h7] at q
   walk_at "v"
   refine xn (fun i ρ M=>(∃x y z,ρ=[some (.p (layT bits ms)),some (.p (.int bits)),some (.p (.lst (ms.map vo))),some (.p (.lst ((ms.map (·.1)).map T.str))),x,y,z])/\M=[.lst ((fiveK.map T.str).map U.p)]/\(ms.take i).all (mkOk bits)=true) ⟨⟨none,none,none,rfl⟩,rfl,rfl⟩ ?_ ?_
   ·rintro i x ρ M hx ⟨⟨x1,x2,x3,rfl⟩,rfl,hall⟩
    obtain⟨m,hm,rfl⟩:=qP hx
    have bad:mkOk bits m=false->Qt (.bl false):=fun h=>by
     have:ms.all (mkOk bits)=false:=List.all_eq_false.mpr ⟨m,List.mem_of_getElem? hm,by simp[h]⟩
     rw[this] at q
     exact q
    have good:mkOk bits m=true->(List.take (i+1) ms).all (mkOk bits)=true:=fun h=>by
     rw[qi hm,List.all_append,hall]
     simp[h]
    walk_at "v"
    refine ite2 (fun h=>bad ?_) (fun a1=>ite2 (fun h=>bad ?_) (fun a2=>ite2 (fun h=>bad ?_) (fun a3=>⟨⟨by omega,by omega,by decide⟩,ite2 (fun h=>bad ?_) (fun a4=>?_)⟩)))
    ·simp[mkOk,show ¬1<=m.2.1 by omega]
    ·simp[mkOk,show ¬m.2.1<=bits-1 by omega]
    ·simp[mkOk,show ¬0<=m.2.2 by omega]
    ·rw[Int.one_mul] at h
     simp[mkOk,show ¬m.2.2<2^m.2.1.toNat by omega]
    ·rw[Int.one_mul] at a4
     exact⟨⟨_,_,_,rfl⟩,good (by simp[mkOk,show 1<=m.2.1 by omega,show m.2.1<=bits-1 by omega,show 0<=m.2.2 by omega,show m.2.2<2^m.2.1.toNat by omega])⟩
   ·rintro ρ M ⟨⟨x1,x2,x3,rfl⟩,rfl,hall⟩
    rw[List.length_map,List.take_length] at hall
    rw[hall] at q
    walk_at "v"
    exact q
local macro_rules | `(tactic| walk_at "vx") => `(tactic| simp only[rd_slT])
theorem pow2_le {a b:Nat} (h:a<=b):(2:Int)^a<=2^b:=by
 have:=Nat.pow_le_pow_right (n:=2) (by decide) h
 exact_mod_cast this
def con (a b:Int×Int):Option Int:=if lex2 b a then(if(a.2-b.2) % 2^b.1.toNat=0 then some a.2 else none) else(if(b.2-a.2) % 2^a.1.toNat=0 then some b.2 else none)
def Con (ms:List Mk3) (k j:Nat) (x:Int):Prop:=∃a b,ms[k]?=some a/\ms[j]?=some b/\con a.2 b.2=some x
def Zi (ms:List Mk3) (k j:Nat) (x:Int):Prop:=∃k' j',j'<k'/\(k'<k\/(k'=k/\j'<j))/\Con ms k' j' x
theorem jC {p q:Int} {n:Nat} (h0:0<=q) (h1:q<2^n):(p-q) % 2^n=0↔p % 2^n=q:=by
 rw[<-Int.dvd_iff_emod_eq_zero]
 constructor
 ·rintro⟨c,hc⟩
  have:p=q+2^n*c:=by omega
  rw[this,Int.add_mul_emod_self_left,Int.emod_eq_of_lt h0 h1]
 ·intro h
  exact⟨p / 2^n,by have:=Int.mul_ediv_add_emod p (2^n); omega⟩
theorem jg {ms:List Mk3} {f:Mk3->Bool} {k j:Nat} {a b:Mk3} (hk:ms[k]?=some a) (hj:ms[j]?=some b) (h:j<k) (ha:f a=true) (hb:f b=true):1<(ms.filter f).length:=by
 have e:ms=ms.take k++a::ms.drop (k+1):=by
  obtain⟨hi,rfl⟩:=List.getElem?_eq_some_iff.mp hk
  rw[List.getElem_cons_drop,List.take_append_drop]
 have hb':b∈ms.take k:=by
  obtain⟨hi,rfl⟩:=List.getElem?_eq_some_iff.mp hj
  exact List.mem_take_iff_getElem.mpr ⟨j,by obtain⟨h2,_⟩:=List.getElem?_eq_some_iff.mp hk; omega,rfl⟩
 rw[e,List.filter_append,List.length_append,List.filter_cons_of_pos ha,List.length_cons]
 have:0<((ms.take k).filter f).length:=List.length_pos_of_mem (List.mem_filter.mpr ⟨hb',hb⟩)
 omega
theorem zX:∀{ms:List Mk3} {f:Mk3->Bool} {i:Nat},1<(ms.filter f).length->∃(j:Nat) (b:Mk3),ms[j]?=some b/\j≠i/\f b=true
 | [],_,_,h=>by simp at h
 |m::ms,f,i,h=>by
  cases i with
  |zero =>
   have:0<(ms.filter f).length:=by
    rw[List.filter_cons] at h
    split at h
    ·rw[List.length_cons] at h; omega
    ·omega
   obtain⟨b,hb⟩:=List.exists_mem_of_length_pos this
   obtain⟨h1,h2⟩:=List.mem_filter.mp hb
   obtain⟨j,hj⟩:=List.getElem?_of_mem h1
   exact⟨j+1,b,hj,by omega,h2⟩
  |succ i =>
   by_cases hm:f m=true
   ·exact⟨0,m,rfl,by omega,hm⟩
   ·rw[List.filter_cons_of_neg hm] at h
    obtain⟨j,b,h1,h2,h3⟩:=zX (i:=i) h
    exact⟨j+1,b,h1,by omega,h3⟩
theorem Xc {bits:Int} {ms:List Mk3} (fp:FormP bits ms) {m:Mk3} (hm:m∈ms):on m.2.2 m=true:=by
 have:=fp.m m hm
 exact decide_eq_true (Int.emod_eq_of_lt this.2.1 this.2.2)
theorem Zb {a b:Int×Int} (h:lex2 b a=true):b.1<=a.1:=by
 unfold lex2 at h
 simp at h
 omega
theorem con_le {a b:Int×Int} (h:¬lex2 b a=true):a.1<=b.1:=by
 unfold lex2 at h
 simp at h
 omega
theorem Qg {bits:Int} {ms:List Mk3} (fp:FormP bits ms) (x:Int):(∃k j,j<k/\Con ms k j x)↔x∈xK ms:=by
 constructor
 ·rintro⟨k,j,hjk,a,b,hk,hj,hc⟩
  have ha:=List.mem_of_getElem? hk
  have hb:=List.mem_of_getElem? hj
  have fa:=fp.m a ha
  have fb:=fp.m b hb
  unfold con at hc
  split at hc
  ·split at hc
   ·rename_i h1 h2
    cases hc
    refine List.mem_map.mpr ⟨a,List.mem_filter.mpr ⟨ha,decide_eq_true (jg hk hj hjk (Xc fp ha) (decide_eq_true ?_))⟩,rfl⟩
    exact(jC fb.2.1 fb.2.2).mp h2
   ·cases hc
  ·split at hc
   ·rename_i h1 h2
    cases hc
    refine List.mem_map.mpr ⟨b,List.mem_filter.mpr ⟨hb,decide_eq_true (jg hk hj hjk (decide_eq_true ?_) (Xc fp hb))⟩,rfl⟩
    exact(jC fa.2.1 fa.2.2).mp h2
   ·cases hc
 ·intro hx
  obtain⟨m,hm,rfl⟩:=List.mem_map.mp hx
  obtain⟨hm,hf⟩:=List.mem_filter.mp hm
  obtain⟨i,hi⟩:=List.getElem?_of_mem hm
  obtain⟨j,b,hj,hne,hon⟩:=zX (i:=i) (of_decide_eq_true hf)
  have hb:=List.mem_of_getElem? hj
  have fm:=fp.m m hm
  have fb:=fp.m b hb
  have hon:m.2.2 % 2^b.2.1.toNat=b.2.2:=of_decide_eq_true hon
  -- the wider one's pattern
  have key:∀u v:Mk3,(u=m/\v=b)\/(u=b/\v=m)->con u.2 v.2=some m.2.2:=by
   have same:m.2.1<=b.2.1->b.2.2=m.2.2:=fun h=>by
    rw[<-hon]
    refine Int.emod_eq_of_lt fm.2.1 (Int.lt_of_lt_of_le fm.2.2 ?_)
    exact pow2_le (by omega)
   rintro u v (⟨rfl,rfl⟩|⟨rfl,rfl⟩)
   ·unfold con
    split
    ·rw[if_pos ((jC fb.2.1 fb.2.2).mpr hon)]
    ·rename_i h
     have:=same (con_le h)
     rw[if_pos (by rw[this,Int.sub_self]; exact Int.zero_emod _),this]
   ·unfold con
    split
    ·rename_i h
     have:=same (Zb h)
     rw[if_pos (by rw[this,Int.sub_self]; exact Int.zero_emod _),this]
    ·rw[if_pos ((jC fb.2.1 fb.2.2).mpr hon)]
  rcases Nat.lt_or_gt_of_ne hne with h|h
  ·exact⟨i,j,h,m,b,hi,hj,key m b (.inl ⟨rfl,rfl⟩)⟩
  ·exact⟨j,i,h,b,m,hj,hi,key b m (.inr ⟨rfl,rfl⟩)⟩
theorem minO_set {a b:List Int} (h:∀x,x∈a↔x∈b):minO a=minO b:=by
 cases e:minO a with
 |some m =>
  obtain⟨h1,h2⟩:=zL e
  exact(Xs ((h m).mp h1) fun x hx=>h2 x ((h x).mpr hx)).symm
 |none =>
  cases a with
  |cons x r=>simp[minO] at e
  |nil =>
   cases b with
   |nil=>rfl
   |cons x r=>exact absurd ((h x).mpr (.head _)) (by simp)
theorem Vx {ms:List Mk3} {k j:Nat} {a b:Mk3} {x:Int} (hk:ms[k]?=some a) (hj:ms[j]?=some b):Con ms k j x↔con a.2 b.2=some x:=by
 constructor
 ·rintro⟨a',b',h1,h2,h⟩
  rw[hk] at h1
  rw[hj] at h2
  cases h1
  cases h2
  exact h
 ·exact fun h=>⟨a,b,hk,hj,h⟩
theorem v8 {ms:List Mk3} {k j:Nat} (h:j<k) {x:Int}:Zi ms k (j+1) x↔Zi ms k j x\/Con ms k j x:=by
 constructor
 ·rintro⟨k',j',h1,h2,h3⟩
  by_cases e:k'=k/\j'=j
  ·obtain⟨rfl,rfl⟩:=e
   exact .inr h3
  ·exact .inl ⟨k',j',h1,by omega,h3⟩
 ·rintro(⟨k',j',h1,h2,h3⟩|h3)
  ·exact⟨k',j',h1,by omega,h3⟩
  ·exact⟨k,j,h,by omega,h3⟩
theorem Zq {ms:List Mk3} {k:Nat} {x:Int}:Zi ms k k x↔Zi ms (k+1) 0 x :=
 ⟨fun⟨k',j',h1,h2,h3⟩=>⟨k',j',h1,by omega,h3⟩,fun⟨k',j',h1,h2,h3⟩=>⟨k',j',h1,by omega,h3⟩⟩
abbrev sTwo:Stmt:=top 19
theorem scTwo:FnScope ["marks", "found", "k", "j", "some"] ["marks"] (qg sTwo):=⟨rfl,rfl,rfl,by decide +kernel,rfl,by decide +kernel,by decide +kernel⟩
def gTwo:List T->(T->Prop)->Prop:=fun ts Q=>∃(bits:Int) (ms:List Mk3),ts=[.lst (ms.map vo)]/\FormP bits ms/\∀ns:List Int,(∀x,x∈ns↔x∈xK ms)->Q (.lst (ns.map T.int))
theorem ok_two {f:Addr} {fd:FuncData} (F:Fun K "_law_two" "_law_two" sTwo f fd) (N:Nms mg):FnOk P w K mg base CX0 1 f fd ["marks"] (spP gTwo):=by
 refine F.zP scTwo (fun ts Qt h=>?_) (fun cdv A outer s H E hr=>?_)
 ·obtain⟨_,_,rfl,_⟩:=h
  rfl
 refine⟨_,(qd (qR (i:=1) scTwo.nd rfl (Or.inl rfl) (qV qe))
  (qd (zS PassesOwn.never rfl (vV rfl N.range (qa_c (qQ xT (by rfl) N.len b_len (qa_c (qv 0) qe)) qe)) (qU (i:=2) scTwo.nd rfl (Or.inl rfl))
   (qh (zS PassesOwn.never rfl (vV rfl N.range (qa_c (qv 2) qe)) (qU (i:=3) scTwo.nd rfl (Or.inl rfl))
    (qd (qR (i:=4) scTwo.nd rfl (Or.inl rfl) (qQ (Ze (K:=K) rfl) (by rfl) N.sorted VG (qa_c (qV (qa_c (zb (Zv (K:=K) rfl) (qL (qk (K:=K) rfl) (qv 0) (qv 2) (fun _ _=>rfl)) (zG qc) zH) (qa_c (zb (Zv (K:=K) rfl) (qL (qk (K:=K) rfl) (qv 0) (qv 3) (fun _ _=>rfl)) (zG qc) zH) qe))) qe)))
    (qh (vF (qm Qz (qB zV (qB zT (qL (va (K:=K) rfl) (qL (qk (K:=K) rfl) (qv 4) qc (fun _ _=>rfl)) qc (fun _ _=>rfl)) (qL (va (K:=K) rfl) (qL (qk (K:=K) rfl) (qv 4) qc (fun _ _=>rfl)) qc (fun _ _=>rfl))) (qB ja qc (qL (va (K:=K) rfl) (qL (qk (K:=K) rfl) (qv 4) qc (fun _ _=>rfl)) qc (fun _ _=>rfl)))) qc (qx _))
     (qh (xr (qe_lm PySem.F.slot_list_append PySem.F.type_list_append zy (qv 1) (qa_c (qL (va (K:=K) rfl) (qL (qk (K:=K) rfl) (qv 4) qc (fun _ _=>rfl)) qc (fun _ _=>rfl)) qe))))
     qN))))))
  (qh (qw (qv 1))))),_,(qj (qG (VC qf) (qo 1))
   (qj (xN (xR (qa (ce_len (qa (qb 0) qf)) qf)) (qo 2)
   (xN (xR (qa (qb 2) qf)) (qo 3)
   (qj (qG (Q0 Jj (qa (vf (qa (ce_slT (vH (qb 0) (qb 2)) (jQ (ce_c (.int _))) jR) (qa (ce_slT (vH (qb 0) (qb 3)) (jQ (ce_c (.int _))) jR) qf))) qf)) (qo 4))
   (vJ (qp (qr kw (qr (ky fun _ _=>.int _) (qr (qA fun _ _=>.int _) (vC (vH (qb 4) (ce_c (.int _))) (ce_c (.int _))) (vC (vH (qb 4) (ce_c (.int _))) (ce_c (.int _)))) (qr (ky fun _ _=>.int _) (ce_c (.int _)) (vC (vH (qb 4) (ce_c (.int _))) (ce_c (.int _))))) (ce_c (.int _))))
   (xO (ce_me zM (qb 1) (qa (vC (vH (qb 4) (ce_c (.int _))) (ce_c (.int _))) qf)))
   qT))))
   (qF (qb 1)))),fun ts Qt h=>?_⟩
 obtain⟨bits,ms,rfl,fp,q⟩:=h
 have hn:=fp.n
 walk_at "v"
 refine rng_at (by rw[List.length_map]; omega) (by rw[List.length_map]; omega) ?_
 refine jm (fun k ρ M=>(∃x y z,ρ=[some (.p (.lst (ms.map vo))),some (.m 0),x,y,z])/\∃ns:List Int,M=[.lst ((ns.map T.int).map U.p)]/\ns.length<=5*k/\∀x,x∈ns↔Zi ms k 0 x) ⟨⟨none,none,none,rfl⟩, [],rfl,by simp,fun x=>⟨fun h=>(by cases h),fun⟨k',j',h1,h2,_⟩=>(by omega)⟩⟩ ?_ ?_
 ·rintro k ρ M hk ⟨⟨x1,x2,x3,rfl⟩,ns,rfl,hl,hx⟩
  have hk:k<5:=by simpa[hn] using hk
  walk_at "v"
  refine rng_at (by omega) (by omega) ?_
  refine jm (fun j ρ M=>(∃y z,ρ=[some (.p (.lst (ms.map vo))),some (.m 0),some (.p (.int k)),y,z])/\∃ns:List Int,M=[.lst ((ns.map T.int).map U.p)]/\ns.length<=5*k+j/\∀x,x∈ns↔Zi ms k j x) ⟨⟨_,_,rfl⟩,ns,rfl,by omega,hx⟩ ?_ ?_
  ·rintro j ρ M hj ⟨⟨y1,y2,rfl⟩,ns,rfl,hl,hx⟩
   have hj:j<k:=by simpa using hj
   obtain⟨a,ha⟩:∃a,ms[k]?=some a:=⟨_,List.getElem?_eq_getElem (by omega)⟩
   obtain⟨b,hb⟩:∃b,ms[j]?=some b:=⟨_,List.getElem?_eq_getElem (by omega)⟩
   have hka:(ms.map vo)[k]?=some (vo a):=by rw[List.getElem?_map,ha]; rfl
   have hjb:(ms.map vo)[j]?=some (vo b):=by rw[List.getElem?_map,hb]; rfl
   walk_at "v"
   walk_at "vx"
   walk_at "v"
   refine vO (atT ha) ?_
   walk_at "v"
   refine⟨_,rfl,fun z=>absurd z.1 (by show ¬(1:Nat)=0; decide), ?_⟩
   walk_at "vx"
   walk_at "v"
   refine vO (atT hb) ?_
   walk_at "v"
   refine⟨_,rfl,fun z=>absurd z.1 (by show ¬(1:Nat)=0; decide), ?_⟩
   walk_at "v"
   have fa:=fp.m a (List.mem_of_getElem? ha)
   have fb:=fp.m b (List.mem_of_getElem? hb)
   have hbits:=fp.b
   refine⟨a.2,b.2,rfl, ?_⟩
   by_cases hlx:lex2 b.2 a.2=true
   ·rw[if_pos hlx]
    have hc:con a.2 b.2=if(a.2.2-b.2.2) % 2^b.2.1.toNat=0 then some a.2.2 else none:=by unfold con; rw[if_pos hlx]
    walk_at "v"
    refine⟨⟨by omega,by omega,by decide⟩,by rw[Int.one_mul]; exact jo _, ?_⟩
    rw[Int.one_mul]
    refine ite2 (fun h=>?_) (fun h=>?_)
    ·have hc2:con a.2 b.2=some a.2.2:=by rw[hc,if_pos h]
     refine V1 rfl ?_
     walk_at "v"
     refine⟨by rw[List.length_map,List.length_map,sizeLine_eq]; omega,⟨_,_,rfl⟩,ns++[a.2.2],by simp,by rw[List.length_append,List.length_singleton]; omega,fun x=>?_⟩
     rw[v8 hj,Vx ha hb,hc2, <-hx,List.mem_append,List.mem_singleton,Option.some.injEq]
     exact⟨fun z=>z.imp id Eq.symm,fun z=>z.imp id Eq.symm⟩
    ·have hc2:con a.2 b.2=none:=by rw[hc,if_neg h]
     refine⟨⟨_,_,rfl⟩,ns,rfl,by omega,fun x=>?_⟩
     rw[v8 hj,hx,Vx ha hb,hc2]
     simp
   ·rw[if_neg hlx]
    have hc:con a.2 b.2=if(b.2.2-a.2.2) % 2^a.2.1.toNat=0 then some b.2.2 else none:=by unfold con; rw[if_neg hlx]
    walk_at "v"
    refine⟨⟨by omega,by omega,by decide⟩,by rw[Int.one_mul]; exact jo _, ?_⟩
    rw[Int.one_mul]
    refine ite2 (fun h=>?_) (fun h=>?_)
    ·have hc2:con a.2 b.2=some b.2.2:=by rw[hc,if_pos h]
     refine V1 rfl ?_
     walk_at "v"
     refine⟨by rw[List.length_map,List.length_map,sizeLine_eq]; omega,⟨_,_,rfl⟩,ns++[b.2.2],by simp,by rw[List.length_append,List.length_singleton]; omega,fun x=>?_⟩
     rw[v8 hj,Vx ha hb,hc2, <-hx,List.mem_append,List.mem_singleton,Option.some.injEq]
     exact⟨fun z=>z.imp id Eq.symm,fun z=>z.imp id Eq.symm⟩
    ·have hc2:con a.2 b.2=none:=by rw[hc,if_neg h]
     refine⟨⟨_,_,rfl⟩,ns,rfl,by omega,fun x=>?_⟩
     rw[v8 hj,hx,Vx ha hb,hc2]
     simp
  ·rintro ρ M ⟨⟨y1,y2,rfl⟩,ns,rfl,hl,hx⟩
   refine⟨⟨_,_,_,rfl⟩,ns,rfl, ?_,fun x=>?_⟩
   ·have:(k:Int).toNat=k:=by omega
    omega
   ·rw[hx,show(k:Int).toNat=k by omega]
    exact Zq
 ·rintro ρ M ⟨⟨x1,x2,x3,rfl⟩,ns,rfl,hl,hx⟩
  walk_at "v"
  refine⟨_,(by show(frzs (frzN 3 _) ((ns.map T.int).map U.p)).map T.lst=_; rw[jM fun t=>frzN_p]; rfl),q ns fun x=>?_⟩
  rw[hx, <-Qg fp]
  rw[List.length_map,show((ms.length:Nat):Int).toNat=ms.length by omega]
  constructor
  ·rintro⟨k',j',h1,h2,h3⟩
   exact⟨k',j',h1,h3⟩
  ·rintro⟨k',j',h1,h3⟩
   refine⟨k',j',h1, .inl ?_,h3⟩
   obtain⟨a,b,h4,_⟩:=h3
   exact(List.getElem?_eq_some_iff.mp h4).1
abbrev ZH:Stmt:=top 20
theorem scFault:FnScope ["laying", "bits", "marks", "words", "few"] ["laying"] (qg ZH):=⟨rfl,rfl,rfl,by decide +kernel,rfl,by decide +kernel,by decide +kernel⟩
theorem ndFault1:(["laying", "bits", "marks", "words", "few", "kind", "width", "pattern"]:List Str).Nodup:=by decide +kernel
def QR:List T->(T->Prop)->Prop:=fun ts Q=>∃(bits:Int) (ms:List Mk3),ts=[layT bits ms]/\ms.length<=100000/\Q (kW bits ms)
theorem QV {ms:List Mk3} {f:Mk3->Bool}:(ms.filter f)[0]?=ms.find? f:=by
 induction ms with
 |nil=>rfl
 |cons m ms ih =>
  cases h:f m with
  |true=>rw[List.filter_cons_of_pos h,List.find?_cons_of_pos h]; rfl
  |false=>rw[List.filter_cons_of_neg (by simp[h]),List.find?_cons_of_neg (by simp[h]),ih]
theorem Xh {f:Addr} {fd:FuncData} (F:Fun K "_law_fault" "_law_fault" ZH f fd) (N:Nms mg) (DForm:Def P w K mg base "_law_form" 2 ["laying"] (spP gForm)) (DTwo:Def P w K mg base "_law_two" 1 ["marks"] (spP gTwo)) (DNeeded:Def P w K mg base "_law_needed" 1 ["kind"] (spP xH)):FnOk P w K mg base CX0 3 f fd ["laying"] (spP QR):=by
 refine F.zP scFault (fun ts Qt h=>?_) (fun cdv A outer s H E hr=>?_)
 ·obtain⟨_,_,rfl,_⟩:=h
  rfl
 refine⟨_,(qd (vF (vU (vT (qI DForm (hr.mono (by first|decide|exact Nat.le_refl _)) (qa_c (qv 0) qe))))
   (qh (qw (vW (qa_c vM (qa_c xu qe)))))
   qN)
  (qd (zu (qv 0) (xt (K:=K) (i:=1) (j:=2) rfl scFault.nd rfl rfl rfl (Or.inr rfl) (Or.inl rfl) (Or.inl rfl) (Or.inl rfl)))
  (qd (qR (i:=3) scFault.nd rfl (Or.inl rfl) (qI DTwo (hr.mono (by first|decide|exact Nat.le_refl _)) (qa_c (qv 2) qe)))
  (qd (vF (qm (xB (K:=K) rfl hr.units) (qv 3) (qV qe) (qx _))
   (qh (qw (vW (qa_c vM (qa_c (qQ (Jl (K:=K) rfl rfl) (by rfl) N.min b_min (qa_c (qv 3) qe)) qe)))))
   qN)
  (qd (ZV (i:=4) [false,true,false,false,false] ["kind", "width", "pattern"] scFault.nd rfl rfl (qC (K:=K) rfl (qv 2)) (fun _ _ _=>(Vi (K:=K) (i:=5) (j:=6) (k:=7) rfl ndFault1 rfl rfl rfl rfl (Or.inl rfl) (Or.inl rfl) (Or.inl rfl) (Or.inr rfl) (Or.inr rfl) (Or.inr rfl))) (fun _ _ _=>zF (qm Qx (qB zT (qv 1) (qv 6)) (qI DNeeded (hr.mono (by first|decide|exact Nat.le_refl _)) (qa_c (qv 5) qe)) (qx _))) (fun _ _ _=>(qv 5)))
  (qh (qw (qe_ifExp (qm (Qy (K:=K) rfl hr.units) (qv 4) (qV qe) (qx _)) xu (vW (qa_c vM (qa_c (qL (qk (K:=K) rfl) (qv 4) qc (fun _ _=>rfl)) qe))))))))))),_,(qj (vJ (v5 (ct_b (vc (qa (qb 0) qf))))
   (qF (zm (qa (ce_c (.str _)) (qa (ce_c .non) qf))))
   qT)
   (qj (qG (qb 0) (zi 1 2))
   (qj (qG (vc (qa (qb 2) qf)) (qo 3))
   (qj (vJ (qp (qr xA (qb 3) (vf qf)))
   (qF (zm (qa (ce_c (.str _)) (qa (Q0 cbl_minL (qa (qb 3) qf)) qf))))
   qT)
   (qj (qG (vg (qW (qb 2)) (xS 5 6 7) (qp (qr (qA fun _ _=>.bl _) (qr (qA fun _ _=>.int _) (qb 1) (qb 6)) (vc (qa (qb 5) qf)))) (qb 5)) (qo 4))
   (qF (ce_if (qp (qr Qv (qb 4) (vf qf))) (ce_c .non) (zm (qa (ce_c (.str _)) (qa (vH (qb 4) (ce_c (.int _))) qf)))))))))),fun ts Qt h=>?_⟩
 obtain⟨bits,ms,rfl,hl,q⟩:=h
 walk_at "v"
 refine⟨bits,ms,rfl,hl,_,rfl, ?_⟩
 unfold kW at q
 refine ite2 (fun h=>?_) (fun h=>?_)
 ·rw[Bool.not_eq_true'] at h
  rw[h] at q
  exact q
 rw[Bool.not_eq_true',Bool.not_eq_false] at h
 rw[if_pos h] at q
 have fp:=form_iff.mp h
 have hn:=fp.n
 walk_at "v"
 refine⟨bits,ms,rfl,fp,fun ns hns=>?_⟩
 rw[<-minO_set hns] at q
 walk_at "v"
 refine eqNil ⟨_,rfl,ite2 (fun h4=>?_) (fun h4=>?_)⟩
 ·walk_at "v"
  have h0:0<ns.length:=by
   cases ns with
   |nil=>simp at h4
   |cons a r=>simp
  refine⟨_,rfl,h0,fun M hM hall=>?_⟩
  rw[Xs hM hall] at q
  walk_at "v"
  exact q
 ·have h0:ns=[]:=by
   cases ns with
   |nil=>rfl
   |cons a r=>simp at h4
  subst h0
  simp only[minO] at q
  walk_at "v"
  refine qX (by rw[List.length_map,sizeLine_eq]; omega) (fun i acc M'=>M'=[]/\acc=(((ms.take i).filter fun m=>decide (bits-m.2.1<need m.1)).map (·.1)).map T.str) ⟨rfl,rfl⟩ ?_ ?_
  ·rintro i x acc M' hx _ ⟨rfl,rfl⟩
   obtain⟨m,hm,rfl⟩:=qP hx
   walk_at "v"
   refine⟨m.1,rfl,fp.kd (List.mem_of_getElem? hm), ?_⟩
   walk_at "v"
   rw[qi hm,List.filter_append,List.map_append,List.map_append]
   refine ite2 (fun hh=>?_) (fun hh=>?_)<;>simp[hh]
  ·rintro acc M' ⟨rfl,rfl⟩
   rw[List.length_map,List.take_length]
   walk_at "v"
   have hf:=QV (ms:=ms) (f:=fun m=>decide (bits-m.2.1<need m.1))
   unfold fewK at q
   rw[<-hf] at q
   generalize(ms.filter fun m=>decide (bits-m.2.1<need m.1))=fs at q
   cases fs with
   |nil =>
    refine eqNil ⟨_,rfl, ?_⟩
    walk_at "v"
    exact q
   |cons m r =>
    refine eqNil ⟨_,rfl, ?_⟩
    refine ite2 (fun z=>by simp at z) (fun _=>?_)
    walk_at "v"
    exact q
theorem Zm {ρ:UEnv} {M:MM} {ug:U->UEnv->MM->(UEnv->MM->Prop)->Prop} {E:UEnds} {ns:List Str} {ss:List T} {ub:US} {y:U} (Iv:Nat->UEnv->MM->Prop) (h0:Iv 0 ρ M) (hok:∀i ρ2 M2,Iv i ρ2 M2->ql M2 y=some (ss.map U.p))
  (hs:∀i n t ρ2 M2,ns[i]?=some n->ss[i]?=some t->Iv i ρ2 M2->ug (.p (.tup [.str n,t])) ρ2 M2 fun ρ3 M3=>ub { E with nx:=Iv (i+1),ct:=Iv (i+1),bk:=E.nx } ρ3 M3) (hd:∀ρ2 M2,Iv (min ns.length ss.length) ρ2 M2->E.nx ρ2 M2):UFor (itZK y ns ss) ug ub E ρ M:=by
 refine⟨Iv,h0,fun i ρ2 M2 hi h=>⟨hok i ρ2 M2 h,fun u hu=>?_⟩,fun ρ2 M2 h=>⟨hok _ ρ2 M2 h,hd ρ2 M2 h⟩⟩
 obtain⟨n,t,h1,h2,rfl⟩:=hu
 exact hs i n t ρ2 M2 h1 h2 h
def sumW (bits:Int) (ws:List Int):Int:=(ws.map fun w=>(2:Int)^(bits-w).toNat).sum
abbrev jt:Stmt:=top 10
theorem Zz:FnScope ["bits", "widths"] ["bits", "widths"] (qg jt):=⟨rfl,rfl,rfl,by decide +kernel,rfl,by decide +kernel,by decide +kernel⟩
theorem VX:(["bits", "widths", "width"]:List Str).Nodup:=by decide +kernel
def jH:List T->(T->Prop)->Prop:=fun ts Q=>∃(bits:Int) (ws:List Int),ts=[.int bits, .lst (ws.map T.int)]/\0<=bits/\bits<=32/\ws.length=5/\(∀w∈ws,0<=w/\w<=bits)/\Q (.bl (decide (sumW bits ws<=2^bits.toNat)))
theorem VW {f:Addr} {fd:FuncData} (F:Fun K "words_go" "words_go" jt f fd) (N:Nms mg):FnOk P w K mg base CX0 1 f fd ["bits", "widths"] (spP jH):=by
 refine F.zP Zz (fun ts Qt h=>?_) (fun cdv A outer s H E hr=>?_)
 ·obtain⟨_,_,rfl,_⟩:=h
  rfl
 refine⟨_,(qh (qw (Qq VU (qQ (Jk (K:=K) rfl rfl) (by rfl) N.sum b_sum (qa_c (zI [true,false] ["width"] (qC (K:=K) rfl (qv 1)) (fun _ _ _=>(qU (i:=2) VX rfl (Or.inl rfl))) (fun _ _ _=>vz) (fun _ _ _=>(qB ja qc (qB zT (qv 0) (qv 2))))) qe)) (qB ja qc (qv 0)) (qx _)))),_,(qF (qr (qA fun _ _=>.bl _) (Q0 cbl_sumL (qa (vg (qW (qb 1)) (qZ 2) v3 (qr (ky fun _ _=>.int _) (ce_c (.int _)) (qr (qA fun _ _=>.int _) (qb 0) (qb 2)))) qf)) (qr (ky fun _ _=>.int _) (ce_c (.int _)) (qb 0)))),fun ts Qt h=>?_⟩
 obtain⟨bits,ws,rfl,h0,h32,h5,hw,q⟩:=h
 walk_at "v"
 refine qX (by rw[List.length_map,h5]; decide) (fun i acc M'=>M'=[]/\acc=((ws.take i).map fun w=>(2:Int)^(bits-w).toNat).map T.int) ⟨rfl,rfl⟩ ?_ ?_
 ·rintro i x acc M' hx _ ⟨rfl,rfl⟩
  obtain⟨w',hm,rfl⟩:=qP hx
  have hww:=hw w' (List.mem_of_getElem? hm)
  walk_at "v"
  refine⟨⟨by omega,by omega,by decide⟩, ?_⟩
  rw[qi hm,List.map_append,List.map_append,Int.one_mul]
  rfl
 ·rintro acc M' ⟨rfl,rfl⟩
  rw[List.length_map,List.take_length]
  walk_at "v"
  refine⟨_,rfl,⟨by omega,by omega,by decide⟩,_,_,rfl,rfl, ?_⟩
  rw[Int.one_mul]
  exact q
def okW (bits:Int) (p:Str×Int):Bool:=(decide (1<=p.2)&&decide (p.2<=bits-1))&&decide (need p.1<=bits-p.2)
def goB (bits:Int) (ws:List Int):Bool:=((decide (8<=bits)&&decide (bits<=32))&&(fiveK.zip ws).all (okW bits))&&decide (sumW bits ws<=2^bits.toNat)
abbrev xp:Stmt:=top 11
theorem scWidthsGo:FnScope ["bits", "widths", "kind", "width"] ["bits", "widths"] (qg xp):=⟨rfl,rfl,rfl,by decide +kernel,rfl,by decide +kernel,by decide +kernel⟩
def xG:List T->(T->Prop)->Prop:=fun ts Q=>∃(bits:Int) (ws:List Int),ts=[.int bits, .lst (ws.map T.int)]/\ws.length=5/\Q (.bl (goB bits ws))
theorem QC {kindsA:Addr} {f:Addr} {fd:FuncData} (F:Fun K "widths_go" "widths_go" xp f fd) (N:Nms mg) (TKinds:Tup5 K mg "KINDS" kindsA "small" "far" "pair" "sign" "one") (DBitsGo:Def P w K mg base "bits_go" 1 ["bits"] (spP QU)) (DWidthGoes:Def P w K mg base "width_goes" 1 ["bits", "width"] (spP zN)) (DLoadGoes:Def P w K mg base "load_goes" 1 ["bits", "kind", "width"] (spP xI)) (DWordsGo:Def P w K mg base "words_go" 1 ["bits", "widths"] (spP jH)):FnOk P w K mg base CX0 2 f fd ["bits", "widths"] (spP xG):=by
 refine F.zP scWidthsGo (fun ts Qt h=>?_) (fun cdv A outer s H E hr=>?_)
 ·obtain⟨_,_,rfl,_⟩:=h
  rfl
 refine⟨_,(qd (vF (vU (vT (qI DBitsGo (hr.mono (by first|decide|exact Nat.le_refl _)) (qa_c (qv 0) qe))))
   (qh (qw zJ))
   qN)
  (qd (zS PassesOwn.never rfl (qi_zip (b1:=false) (b2:=true) (K:=K) rfl rfl N.zip (qa_c (ZW (v:=.ref kindsA) rfl TKinds.mg rfl) (qa_c (qv 1) qe))) (xt (K:=K) (i:=2) (j:=3) rfl scWidthsGo.nd rfl rfl rfl (Or.inl rfl) (Or.inl rfl) (Or.inl rfl) (Or.inl rfl))
   (qh (vF (Qp (xb (vU (vT (qI DWidthGoes (hr.mono (by first|decide|exact Nat.le_refl _)) (qa_c (qv 0) (qa_c (qv 3) qe))))) (xW (vU (vT (qI DLoadGoes (hr.mono (by first|decide|exact Nat.le_refl _)) (qa_c (qv 0) (qa_c (qv 2) (qa_c (qv 3) qe)))))))))
    (qh (qw zJ))
    qN)))
  (qh (qw (qI DWordsGo (hr.mono (by first|decide|exact Nat.le_refl _)) (qa_c (qv 0) (qa_c (qv 1) qe))))))),_,(qj (vJ (v5 (ct_b (vc (qa (qb 0) qf))))
   (qF (ce_c (.bl _)))
   qT)
   (qj (xN (ci_zipK (ns:=fiveK) TKinds.kt (qb 1)) (zi 2 3)
   (vJ (xf (v5 (ct_b (vc (qa (qb 0) (qa (qb 3) qf))))) (v5 (ct_b (vc (qa (qb 0) (qa (qb 2) (qa (qb 3) qf)))))))
   (qF (ce_c (.bl _)))
   qT))
   (qF (vc (qa (qb 0) (qa (qb 1) qf)))))),fun ts Qt h=>?_⟩
 obtain⟨bits,ws,rfl,h5,q⟩:=h
 walk_at "v"
 refine⟨bits,rfl, ?_⟩
 walk_at "v"
 refine ite2 (fun hb=>?_) (fun hb=>?_)
 ·have:goB bits ws=false:=by
   unfold goB
   cases hh:(decide (8<=bits)&&decide (bits<=32)) with
   |true=>rw[hh] at hb; cases hb
   |false=>rfl
  rw[this] at q
  exact q
 have hb:(decide (8<=bits)&&decide (bits<=32))=true:=by
  cases hh:(decide (8<=bits)&&decide (bits<=32)) with
  |true=>rfl
  |false=>rw[hh] at hb; exact absurd rfl hb
 have hbb:8<=bits/\bits<=32:=by simpa using hb
 refine useq ?_
 simp only[uFor,uZipK]
 walk_at "v"
 refine⟨ws.map T.int,rfl, ?_⟩
 refine Zm (fun i ρ M=>(∃x y,ρ=[some (.p (.int bits)),some (.p (.lst (ws.map T.int))),x,y])/\M=[]/\((fiveK.zip ws).take i).all (okW bits)=true) ⟨⟨none,none,rfl⟩,rfl,rfl⟩ (fun i ρ2 M2 h=>rfl) ?_ ?_
 ·rintro i n x ρ M hn hx ⟨⟨x1,x2,rfl⟩,rfl,hall⟩
  obtain⟨v,hm,rfl⟩:=qP hx
  have hz:(fiveK.zip ws)[i]?=some (n,v):=by rw[List.getElem?_zip_eq_some]; exact⟨hn,hm⟩
  have hn5:n∈fiveK:=List.mem_of_getElem? hn
  walk_at "v"
  have no:okW bits (n,v)=false->Qt (.bl false):=fun h=>by
   have:goB bits ws=false:=by
    unfold goB
    rw[show(fiveK.zip ws).all (okW bits)=false from by
     rw[List.all_eq_false]
     exact⟨_,List.mem_of_getElem? hz,by rw[h]; decide⟩]
    simp
   rw[this] at q
   exact q
  refine⟨bits,v,rfl,_,rfl, ?_⟩
  refine ite2 (fun h1=>no ?_) (fun h1=>?_)
  ·unfold okW
   cases hh:(decide (1<=v)&&decide (v<=bits-1)) with
   |true=>rw[hh] at h1; cases h1
   |false=>simp[hh]
  have h1:(decide (1<=v)&&decide (v<=bits-1))=true:=by
   cases hh:(decide (1<=v)&&decide (v<=bits-1)) with
   |true=>rfl
   |false=>rw[hh] at h1; exact absurd rfl h1
  refine⟨bits,n,v,rfl,hn5,_,rfl, ?_⟩
  refine ite2 (fun h2=>no ?_) (fun h2=>?_)
  ·unfold okW
   cases hh:decide (need n<=bits-v) with
   |true=>rw[hh] at h2; cases h2
   |false=>simp[hh]
  have h2:decide (need n<=bits-v)=true:=by
   cases hh:decide (need n<=bits-v) with
   |true=>rfl
   |false=>rw[hh] at h2; exact absurd rfl h2
  refine⟨⟨_,_,rfl⟩, ?_⟩
  rw[qi hz,List.all_append,hall]
  simp only[List.all_cons,List.all_nil,Bool.and_true,Bool.true_and]
  unfold okW
  rw[h1,h2]
  rfl
 ·rintro ρ M ⟨⟨x1,x2,rfl⟩,rfl,hall⟩
  have hl:(fiveK.zip ws).length=min fiveK.length (ws.map T.int).length:=by rw[List.length_zip,List.length_map]
  rw[<-hl,List.take_length] at hall
  walk_at "v"
  refine⟨bits,ws,rfl,by omega,by omega,h5,fun v hv=>?_, ?_⟩
  ·obtain⟨i,hi⟩:=List.getElem?_of_mem hv
   have hil:=(List.getElem?_eq_some_iff.mp hi).1
   have hk:fiveK[i]?=some (fiveK[i]'(by show i<5; omega)):=List.getElem?_eq_getElem _
   have hz:(fiveK.zip ws)[i]?=some (fiveK[i]'(by show i<5; omega),v):=by rw[List.getElem?_zip_eq_some]; exact⟨hk,hi⟩
   have:=List.all_eq_true.mp hall _ (List.mem_of_getElem? hz)
   simp only[okW,Bool.and_eq_true,decide_eq_true_eq] at this
   omega
  ·have:goB bits ws=decide (sumW bits ws<=2^bits.toNat):=by
    unfold goB
    rw[hb,hall]
    rfl
   rw[this] at q
   exact q
theorem j9 {α:Type} (f:α->Nat) (p:α->Bool):∀l:List α,(l.map f).sum=((l.filter p).map f).sum+((l.filter fun x => !p x).map f).sum
 | []=>rfl
 |a::l=>by
  have ih:=j9 f p l
  cases h:p a
  ·rw[List.filter_cons_of_neg (by simp[h]),List.filter_cons_of_pos (by simp[h])]
   simp only[List.map_cons,List.sum_cons]
   omega
  ·rw[List.filter_cons_of_pos h,List.filter_cons_of_neg (by simp[h])]
   simp only[List.map_cons,List.sum_cons]
   omega
theorem jq {α:Type} (f:α->Nat):∀{l:List α} {a:α},a∈l->f a<=(l.map f).sum
 |_::_,_, .head _=>by simp only[List.map_cons,List.sum_cons]; omega
 |_::l,_, .tail _ h=>by have:=jq f h; simp only[List.map_cons,List.sum_cons]; omega
theorem uncov:∀(w:Nat) (l:List (Nat×Nat)),(∀m∈l,m.1<=w)->(l.map fun m=>2^(w-m.1)).sum<2^w->∃x,x<2^w/\∀m∈l,x % 2^m.1≠m.2
 |0,l,_,hs=>by
  refine⟨0,by decide,fun m hm=>?_⟩
  have:=jq (fun m:Nat×Nat=>2^(0-m.1)) hm
  have h1:0<2^(0-m.1):=Nat.two_pow_pos _
  have h2:(l.map fun m:Nat×Nat=>2^(0-m.1)).sum<1:=hs
  omega
 |w+1,l,hw,hs=>by
  have pos:∀m∈l,1<=m.1:=fun m hm=>by
   have:=jq (fun m:Nat×Nat=>2^(w+1-m.1)) hm
   by_cases h:m.1=0
   ·rw[h] at this
    have h2:2^(w+1-0)<=(l.map fun m:Nat×Nat=>2^(w+1-m.1)).sum:=this
    rw[Nat.sub_zero] at h2
    omega
   ·omega
  have half:∀b,b<2->((l.filter fun m=>m.2 % 2==b).map fun m=>2^(w+1-m.1)).sum<2^w->∃x,x<2^(w+1)/\∀m∈l,x % 2^m.1≠m.2:=fun b hb h=>by
   have e:(((l.filter fun m=>m.2 % 2==b).map fun m=>(m.1-1,m.2 / 2)).map fun m=>2^(w-m.1)).sum=((l.filter fun m=>m.2 % 2==b).map fun m=>2^(w+1-m.1)).sum:=by
    rw[List.map_map]
    congr 1
    refine List.map_congr_left fun m hm=>?_
    have:=pos m ((List.mem_filter.mp hm).1)
    have:=hw m ((List.mem_filter.mp hm).1)
    show 2^(w-(m.1-1))=_
    congr 1
    omega
   obtain⟨x,hx,hm⟩:=uncov w ((l.filter fun m=>m.2 % 2==b).map fun m=>(m.1-1,m.2 / 2)) (fun m hm=>by
    obtain⟨m',h1,rfl⟩:=List.mem_map.mp hm
    have:=hw m' ((List.mem_filter.mp h1).1)
    show m'.1-1<=w
    omega) (by rw[e]; exact h)
   refine⟨2*x+b,by rw[Nat.pow_succ]; omega,fun m hml e2=>?_⟩
   obtain⟨k,hk⟩:∃k,m.1=k+1:=⟨m.1-1,by have:=pos m hml; omega⟩
   rw[hk,Nat.pow_succ,Nat.mul_comm (2^k) 2,Nat.mod_mul] at e2
   have e3:(2*x+b) / 2=x:=by omega
   have e4:(2*x+b) % 2=b:=by omega
   rw[e3,e4] at e2
   refine hm (k,m.2 / 2) (List.mem_map.mpr ⟨m,List.mem_filter.mpr ⟨hml, ?_⟩,by rw[hk]; rfl⟩) ?_
   ·rw[beq_iff_eq]; omega
   ·show x % 2^k=m.2 / 2
    omega
  have sp:=j9 (fun m:Nat×Nat=>2^(w+1-m.1)) (fun m=>m.2 % 2==0) l
  have e1:(l.filter fun m => !(m.2 % 2==0))=l.filter fun m=>m.2 % 2==1:=List.filter_congr fun m _=>by
   have:m.2 % 2=0\/m.2 % 2=1:=by omega
   rcases this with h|h<;>simp[h]
  rw[e1] at sp
  rw[sp,Nat.pow_succ] at hs
  by_cases h0:((l.filter fun m=>m.2 % 2==0).map fun m=>2^(w+1-m.1)).sum<2^w
  ·exact half 0 (by decide) h0
  ·exact half 1 (by decide) (by omega)
def LeastP (ms:List Mk3):Prop:=∀(i:Nat) m,ms[i]?=some m->0<=m.2.2/\(∀m'∈ms.take i,on m.2.2 m'=false)/\∀p:Int,0<=p->p<m.2.2->∃m'∈ms.take i,on p m'=true
def MadeM (ws:List Int) (ms:List Mk3):Prop:=(ms.map fun m=>(m.1,m.2.1)).Perm (fiveK.zip ws)/\(ms.Pairwise fun a b=>a.2.1<=b.2.1)/\LeastP ms
def kN:Pos:=⟨28,54,28,78⟩
def lamQ:Str:=Str.ofString "made" ++ ".<locals>." ++ "<lambda>"
theorem XD {bits:Int} {ws:List Int} {ms:List Mk3} {n:Str} {v:Int} {l:List (Str×Int)} (hb:8<=bits/\bits<=32) (hw:∀p∈fiveK.zip ws,1<=p.2/\p.2<=bits-1) (hl:l.Perm (fiveK.zip ws)) (h5:ws.length=5) (hs:sumW bits ws<=2^bits.toNat) {i:Nat} (hi:l[i]?=some (n,v)) (hm:(ms.map fun m=>(m.1,m.2.1))=l.take i) :
  ∃x:Int,0<=x/\x<2^bits.toNat/\∀m∈ms,on x m=false:=by
 have hsw:sumW bits ws=(((l.map fun p:Str×Int=>2^(bits-p.2).toNat).sum:Nat):Int):=by
  have e1:((l.map fun p:Str×Int=>2^(bits-p.2).toNat).sum)=(((fiveK.zip ws).map fun p:Str×Int=>2^(bits-p.2).toNat).sum):=(hl.map _).sum_nat
  rw[e1]
  unfold sumW
  have e2:ws=(fiveK.zip ws).map (·.2):=by
   rw[List.map_snd_zip]
   rw[h5]; decide
  conv=>lhs; rw[e2]
  rw[List.map_map]
  generalize fiveK.zip ws=q
  induction q with
  |nil=>rfl
  |cons a q ih =>
   simp only[List.map_cons,List.sum_cons,Function.comp_apply]
   rw[ih]
   push_cast
   rfl
 have hsp:((l.take i).map fun p:Str×Int=>2^(bits-p.2).toNat).sum<2^bits.toNat:=by
  have e:(l.map fun p:Str×Int=>2^(bits-p.2).toNat).sum=((l.take i).map fun p:Str×Int=>2^(bits-p.2).toNat).sum+((l.drop i).map fun p:Str×Int=>2^(bits-p.2).toNat).sum:=by
   conv=>lhs; rw[<-List.take_append_drop i l]
   rw[List.map_append,List.sum_append]
  have hm2:(n,v)∈l.drop i:=List.mem_of_getElem? (i:=0) (by rw[List.getElem?_drop]; simpa using hi)
  have:=jq (fun p:Str×Int=>2^(bits-p.2).toNat) hm2
  have hp:0<2^(bits-(n,v).2).toNat:=Nat.two_pow_pos _
  rw[hsw] at hs
  have hs2:(l.map fun p:Str×Int=>2^(bits-p.2).toNat).sum<=2^bits.toNat:=by exact_mod_cast hs
  omega
 have wd:∀m∈ms,1<=m.2.1/\m.2.1<=bits-1:=fun m hmm=>by
  have:(m.1,m.2.1)∈l.take i:=hm▸List.mem_map_of_mem (f:=fun m:Mk3=>(m.1,m.2.1)) hmm
  exact hw _ (hl.subset (List.mem_of_mem_take this))
 obtain⟨x,hx,hu⟩:=uncov bits.toNat (ms.map fun m=>(m.2.1.toNat,m.2.2.toNat)) (fun m hmm=>by
  obtain⟨m',h1,rfl⟩:=List.mem_map.mp hmm
  have:=wd m' h1
  show m'.2.1.toNat<=bits.toNat
  omega) (by
  rw[List.map_map]
  have e:(ms.map ((fun m:Nat×Nat=>2^(bits.toNat-m.1)) ∘ fun m:Mk3=>(m.2.1.toNat,m.2.2.toNat)))=(l.take i).map fun p:Str×Int=>2^(bits-p.2).toNat:=by
   rw[<-hm,List.map_map]
   refine List.map_congr_left fun m hmm=>?_
   have:=wd m hmm
   show 2^(bits.toNat-m.2.1.toNat)=2^(bits-m.2.1).toNat
   congr 1
   omega
  rw[e]; exact hsp)
 refine⟨x,by omega,by exact_mod_cast hx,fun m hmm=>?_⟩
 have h1:=hu (m.2.1.toNat,m.2.2.toNat) (List.mem_map_of_mem (f:=fun m:Mk3=>(m.2.1.toNat,m.2.2.toNat)) hmm)
 unfold on
 refine decide_eq_false fun e=>h1 ?_
 show x % 2^m.2.1.toNat=m.2.2.toNat
 rw[<-e]
 have:((x % 2^m.2.1.toNat:Nat):Int)=(x:Int) % 2^m.2.1.toNat:=by push_cast; rfl
 omega
theorem ity {c:Bool} {a b:Prop} (h:c=true) (q:a):if c=true then a else b:=by rw[if_pos h]; exact q
theorem itn {c:Bool} {a b:Prop} (h:c=false) (q:b):if c=true then a else b:=by rw[if_neg (by rw[h]; decide)]; exact q
abbrev sMade:Stmt:=top 12
theorem scMade:FnScope ["bits", "widths", "marks", "kind", "width", "pattern"] ["bits", "widths"] (qg sMade):=⟨rfl,rfl,rfl,by decide +kernel,rfl,by decide +kernel,by decide +kernel⟩
def shr (at':Int):Int:=2^(100-at').toNat
def shs (l:List (Int×Int)):Int:=(l.map fun n=>shr n.1).sum
theorem Qi (a:Int):0<shr a:=by unfold shr; exact Int.pow_pos (by decide)
theorem shr_step {a:Int} (h:a<100):shr a=shr (a+1)+shr (a+1):=by
 unfold shr
 obtain⟨k,hk⟩:∃k,(100-a).toNat=k+1:=⟨(100-a).toNat-1,by omega⟩
 have:(100-(a+1)).toNat=k:=by omega
 rw[hk,this,Int.pow_succ]
 omega
theorem shs_app {a b:List (Int×Int)}:shs (a++b)=shs a+shs b:=by unfold shs; rw[List.map_append,List.sum_append]
theorem shs_nn:∀(l:List (Int×Int)),0<=shs l
 | []=>by decide
 |a::l=>by
  have:=shs_nn l
  have h1:=Qi a.1
  show 0<=(shr a.1::l.map fun n=>shr n.1).sum
  rw[List.sum_cons]
  show 0<=shr a.1+shs l
  omega
theorem kh:∀{l:List (Int×Int)} {j:Nat} {a:Int×Int},l[j]?=some a->shs (l.eraseIdx j)+shr a.1=shs l
 | [],_,_,h=>by simp at h
 |b::l,0,a,h=>by
  cases h
  show shs l+shr b.1=(shr b.1::l.map fun n=>shr n.1).sum
  rw[List.sum_cons]
  show shs l+_=_+shs l
  omega
 |b::l,j+1,a,h=>by
  have ih:=kh (l:=l) (j:=j) (a:=a) (by simpa using h)
  show((shr b.1)::((l.eraseIdx j).map fun n=>shr n.1)).sum+_=(shr b.1::l.map fun n=>shr n.1).sum
  rw[List.sum_cons,List.sum_cons]
  show shr b.1+shs (l.eraseIdx j)+shr a.1=shr b.1+shs l
  omega
def shW (ws:List Int):Int:=(ws.map shr).sum
theorem Zw {bits:Int} (hb:0<=bits) (hb2:bits<=100):∀{ws:List Int},(∀w∈ws,w<=bits)->shW ws=2^(100-bits).toNat*sumW bits ws
 | [],_=>by simp[shW,sumW]
 |a::ws,h=>by
  have ih:=Zw hb hb2 (ws:=ws) fun w hw=>h w (.tail _ hw)
  have ha:=h a (.head _)
  show(shr a::ws.map shr).sum=2^(100-bits).toNat*((2:Int)^(bits-a).toNat::ws.map fun w=>(2:Int)^(bits-w).toNat).sum
  rw[List.sum_cons,List.sum_cons,Int.mul_add]
  show shr a+shW ws=_+2^(100-bits).toNat*sumW bits ws
  rw[ih]
  congr 1
  unfold shr
  rw[<-Int.pow_add]
  congr 1
  omega
theorem shW_le {bits:Int} {ws:List Int} (hb:0<=bits) (hb2:bits<=32) (h:∀w∈ws,w<=bits):sumW bits ws<=2^bits.toNat↔shW ws<=2^100:=by
 rw[Zw hb (by omega) h]
 have hp:(0:Int)<2^(100-bits).toNat:=Int.pow_pos (by decide)
 have e:(2:Int)^100=2^(100-bits).toNat*2^bits.toNat:=by
  rw[<-Int.pow_add]
  congr 1
  omega
 rw[e]
 exact(Int.mul_le_mul_left hp).symm
theorem first_ix {l:List Nd} {n:Nd} (h:n∈l):∃j:Nat,l[j]?=some n/\∀m,m<j->l[m]?≠some n:=by
 induction l with
 |nil=>cases h
 |cons a l ih =>
  by_cases e:a=n
  ·exact⟨0,by rw[e]; rfl,fun m hm=>by omega⟩
  ·obtain⟨j,h1,h2⟩:=ih ((List.mem_cons.mp h).elim (fun z=>absurd z.symm e) id)
   refine⟨j+1,by simpa using h1,fun m hm=>?_⟩
   cases m with
   |zero=>intro z; exact e (Option.some.inj z)
   |succ m=>intro z; exact h2 m (by omega) (by simpa using z)
def enW (ws:List Int):List (Int×Int):=(List.range ws.length).map fun(i:Nat)=>(ws.getD i 0,(i:Int))
theorem perm_sum {l m:List Int} (h:l.Perm m):l.sum=m.sum:=by
 induction h with
 |nil=>rfl
 |cons x _ ih=>rw[List.sum_cons,List.sum_cons,ih]
 |swap x y l=>simp only[List.sum_cons]; omega
 |trans _ _ i1 i2=>exact i1.trans i2
theorem Zx {a b:List Int}:shW (a++b)=shW a+shW b:=by unfold shW; rw[List.map_append,List.sum_append]
theorem shW_nn:∀(l:List Int),0<=shW l
 | []=>by decide
 |a::l=>by
  have:=shW_nn l
  have h1:=Qi a
  show 0<=(shr a::l.map shr).sum
  rw[List.sum_cons]
  show 0<=shr a+shW l
  omega
theorem shW_pos {l:List Int} (h:l≠[]):0<shW l:=by
 cases l with
 |nil=>exact absurd rfl h
 |cons a l =>
  have:=shW_nn l
  have h1:=Qi a
  show 0<(shr a::l.map shr).sum
  rw[List.sum_cons]
  show 0<shr a+shW l
  omega
theorem goB_w {bits:Int} {ws:List Int} (h5:ws.length=5) (h:goB bits ws=true):(∀w∈ws,1<=w/\w<=bits-1)/\sumW bits ws<=2^bits.toNat:=by
 simp only[goB,Bool.and_eq_true,decide_eq_true_eq,List.all_eq_true] at h
 obtain⟨⟨hb,hall⟩,hsum⟩:=h
 refine⟨fun w hw=>?_,hsum⟩
 obtain⟨i,hi⟩:=List.getElem?_of_mem hw
 have hil:=(List.getElem?_eq_some_iff.mp hi).1
 have hk:fiveK[i]?=some (fiveK[i]'(by show i<5; omega)):=List.getElem?_eq_getElem _
 have hz:(fiveK.zip ws)[i]?=some (fiveK[i]'(by show i<5; omega),w):=by rw[List.getElem?_zip_eq_some]; exact⟨hk,hi⟩
 have:=hall _ (List.mem_of_getElem? hz)
 simp only[okW,Bool.and_eq_true,decide_eq_true_eq] at this
 exact this.1
theorem go_shW {bits:Int} {ws:List Int} (h8:8<=bits) (h32:bits<=32) (h5:ws.length=5) (h:2^100<shW ws):goB bits ws=false:=by
 cases hg:goB bits ws with
 |false=>rfl
 |true =>
  obtain⟨h1,h2⟩:=goB_w h5 hg
  have:=(shW_le (by omega) h32 fun w hw=>by have:=h1 w hw; omega).mp h2
  omega
theorem putU_len (kvs:List (Key×U)) (k:Key) (v:U):(putU kvs k v).length<=kvs.length+1:=by
 unfold putU
 split
 ·rw[List.length_map]; omega
 ·rw[List.length_append]; exact Nat.le_refl _
abbrev Ql:Stmt:=top 21
theorem scPlaced:FnScope ["bits", "widths", "kinds", "free", "found", "width", "k", "some", "at", "pattern"] ["bits", "widths"] (qg Ql):=⟨rfl,rfl,rfl,by decide +kernel,rfl,by decide +kernel,by decide +kernel⟩
theorem Xq:(["bits", "widths", "kinds", "free", "found", "width", "k", "some", "at", "pattern", "node"]:List Str).Nodup:=by decide +kernel
def QQ:List U->MM->UK->Prop:=fun us M Q=>∃(bits:Int) (ws:List Int),us=[.p (.int bits), .p (.lst (ws.map T.int))]/\8<=bits/\bits<=32/\ws.length=5/\(∀w∈ws,1<=w/\w<=60)/\(goB bits ws=false->∀L,Q (.p .non) (M++L))/\(goB bits ws=true->∀L j,Q (.m j) (M++L))
theorem Xe {f:Addr} {fd:FuncData} (F:Fun K "_law_placed" "_law_placed" Ql f fd) (N:Nms mg) (DKinds:Def P w K mg base "_law_kinds" 1 [] (spU jf)) (DNeeded:Def P w K mg base "_law_needed" 1 ["kind"] (spP xH)):FnOk P w K mg base CX0 2 f fd ["bits", "widths"] (spU QQ):=by
 refine F.zU scPlaced (fun us M Qu h=>?_) (fun cdv A outer s H E hr=>?_)
 ·obtain⟨_,_,rfl,_⟩:=h
  rfl
 refine⟨_,(qd (qR (i:=2) scPlaced.nd rfl (Or.inl rfl) (jA DKinds (hr.mono (by first|decide|exact Nat.le_refl _))))
  (qd (qR (i:=3) scPlaced.nd rfl (Or.inl rfl) (qV (qa_c (vW (qa_c qc (qa_c qc qe))) qe)))
  (qd (qR (i:=4) scPlaced.nd rfl (Or.inl rfl) qe_dnew)
  (qd (zS PassesOwn.never rfl (qC (K:=K) rfl (qQ (Zd (K:=K) rfl) (by rfl) N.sorted VG (qa_c (zI [false,false,false,false,false,false,false,false,false,false] [] (qi_enumK (K:=K) rfl rfl N.enumerate (qa_c (qv 1) qe)) (fun _ _ _=>(xt (K:=K) (i:=6) (j:=5) rfl scPlaced.nd rfl rfl rfl (Or.inl rfl) (Or.inl rfl) (Or.inr rfl) (Or.inr rfl))) (fun _ _ _=>vz) (fun _ _ _=>(vW (qa_c (qv 5) (qa_c (qv 6) qe))))) qe))) (xt (K:=K) (i:=5) (j:=6) rfl scPlaced.nd rfl rfl rfl (Or.inr rfl) (Or.inl rfl) (Or.inl rfl) (Or.inl rfl))
   (qd (ZV (i:=7) [false,false,false,false,false,true,false,false,false,false] ["node"] scPlaced.nd rfl rfl (qC (K:=K) rfl (qv 3)) (fun _ _ _=>(qU (i:=10) Xq rfl (Or.inl rfl))) (fun _ _ _=>zF (qm VU (qL (va (K:=K) rfl) (qv 10) qc (fun _ _=>rfl)) (qv 5) (qx _))) (fun _ _ _=>(qv 10)))
   (qd (vF (Qp (xb (qm (Qy (K:=K) rfl hr.units) (qv 7) (qV qe) (qx _)) (xW (qm Qx (qB zT (qv 0) (qv 5)) (qI DNeeded (hr.mono (by first|decide|exact Nat.le_refl _)) (qa_c (qL (qk (K:=K) rfl) (qv 2) (qv 6) (fun _ _=>rfl)) qe)) (qx _)))))
    (qh (qw xu))
    qN)
   (qd (zu (qL (qk (K:=K) rfl) (qv 7) (qe_un un_neg qc) (fun _ _=>rfl)) (xt (K:=K) (i:=8) (j:=9) rfl scPlaced.nd rfl rfl rfl (Or.inl rfl) (Or.inl rfl) (Or.inl rfl) (Or.inl rfl)))
   (qd (xr (qe_lm PySem.F.slot_list_remove PySem.F.type_list_remove (VZ (K:=K) rfl hr.units) (qv 3) (qa_c (vW (qa_c (qv 8) (qa_c (qv 9) qe))) qe)))
   (qd (Vh PassesOwn.never (qm Qx (qv 8) (qv 5) (qx _))
    (qd (xr (qe_lm PySem.F.slot_list_append PySem.F.type_list_append zy (qv 3) (qa_c (vW (qa_c (qB vB (qv 8) qc) (qa_c (qB vB (qv 9) (qB ja qc (qv 8))) qe))) qe)))
    (qh (qR (i:=8) scPlaced.nd rfl (Or.inl rfl) (qB vB (qv 8) qc)))))
   (qh (qs_dput (hu_of hr) (qv 4) (qL (qk (K:=K) rfl) (qv 2) (qv 6) (fun _ _=>rfl)) (vW (qa_c (qv 5) (qa_c (qv 9) qe)))))))))))
  (qh (qw (qv 4))))))),_,(qj (qG (qD qf) (qo 2))
   (qj (qG (VC (qa (zm (qa (ce_c (.int _)) (qa (ce_c (.int _)) qf))) qf)) (qo 3))
   (qj (qG ce_dnew (qo 4))
   (qj (xN (qW (Q0 Ji (qa (vg (ci_enum (qa (qb 1) qf)) (Jf 6 5) v3 (zm (qa (qb 5) (qa (qb 6) qf)))) qf))) (zi 5 6)
   (qj (qG (vg (qW (qb 3)) (qZ 10) (qp (qr (qA fun _ _=>.bl _) (vC (qb 10) (ce_c (.int _))) (qb 5))) (qb 10)) (qo 7))
   (qj (vJ (xf (qp (qr Qv (qb 7) (vf qf))) (qp (qr (qA fun _ _=>.bl _) (qr (qA fun _ _=>.int _) (qb 0) (qb 5)) (vc (qa (vH (qb 2) (qb 6)) qf)))))
   (qF (ce_c .non))
   qT)
   (qj (qG (vH (qb 7) (ce_neg (ce_c (.int _)))) (zi 8 9))
   (qj (xO (ce_me V0 (qb 3) (qa (zm (qa (qb 8) (qa (qb 9) qf))) qf)))
   (qj (Vw (qp (qr (qA fun _ _=>.bl _) (qb 8) (qb 5)))
   (qj (xO (ce_me zM (qb 3) (qa (zm (qa (qr (qA fun _ _=>.int _) (qb 8) (ce_c (.int _))) (qa (qr (qA fun _ _=>.int _) (qb 9) (qr (ky fun _ _=>.int _) (ce_c (.int _)) (qb 8))) qf))) qf)))
   (qG (qr (qA fun _ _=>.int _) (qb 8) (ce_c (.int _))) (qo 8))))
   (cs_dput (qb 4) (vH (qb 2) (qb 6)) (zm (qa (qb 5) (qa (qb 9) qf))))))))))
   (qF (qb 4)))))),fun us M Qu h=>?_⟩
 obtain⟨bits,ws,rfl,hb8,hb32,h5,hw,qn,qy⟩:=h
 walk_at "v"
 refine⟨rfl, ?_⟩
 walk_at "v"
 simp only[uEnum]
 walk_at "v"
 refine⟨_,ws.map T.int,rfl,rfl, ?_⟩
 have hel:(enW ws).length=5:=by unfold enW; rw[List.length_map,List.length_range,h5]
 have heg:∀(i:Nat) w',ws[i]?=some w'->(enW ws)[i]?=some (w',(i:Int)):=fun i w' hi=>by
  have hil:=(List.getElem?_eq_some_iff.mp hi).1
  unfold enW
  rw[List.getElem?_map,List.getElem?_range hil]
  simp[List.getD_eq_getElem?_getD,hi]
 refine⟨by show(ws.map T.int).length<=sizeLine; rw[List.length_map,h5]; decide,fun i acc M'=>M'=M++[MO.lst ((fiveK.map T.str).map U.p)]++[MO.lst [U.p (T.tup [T.int 0,T.int 0])]]++[MO.dK []]/\acc=((enW ws).take i).map kr,⟨rfl,rfl⟩,fun i acc M' hi _ hI=>⟨rfl,fun u hu=>?_⟩,fun acc M' hI=>⟨rfl, ?_⟩⟩
 ·obtain⟨rfl,rfl⟩:=hI
  obtain⟨t9,ht9,rfl⟩:=hu
  obtain⟨w',hm,rfl⟩:=qP ht9
  walk_at "v"
  rw[qi (heg i w' hm),List.map_append]
  rfl
 obtain⟨rfl,rfl⟩:=hI
 have e5:(enW ws).take (ws.map T.int).length=enW ws:=by rw[List.length_map,h5, <-hel,List.take_length]
 rw[e5]
 walk_at "v"
 refine⟨enW ws,rfl,hel,fun q hq=>?_,fun out op pw=>?_⟩
 ·unfold enW at hq
  obtain⟨i,hi,rfl⟩:=List.mem_map.mp hq
  have:=List.mem_range.mp hi
  show 0<=(i:Int)/\(i:Int)<5
  omega
 have hol:out.length=5:=by rw[op.length_eq]; exact hel
 have hom:∀p∈out,∃i:Nat,i<5/\p.2=(i:Int)/\ws[i]?=some p.1:=fun p hp=>by
  have:=op.subset hp
  unfold enW at this
  obtain⟨i,hi,rfl⟩:=List.mem_map.mp this
  have hi:=List.mem_range.mp hi
  refine⟨i,by omega,rfl, ?_⟩
  show ws[i]?=some (ws.getD i 0)
  rw[List.getD_eq_getElem?_getD,List.getElem?_eq_getElem hi]
  rfl
 have shW_out:shW (out.map (·.1))=shW ws:=by
  have e:(enW ws).map (·.1)=ws:=by
   refine List.ext_getElem? fun j=>?_
   unfold enW
   rw[List.map_map,List.getElem?_map]
   by_cases hj:j<ws.length
   ·rw[List.getElem?_range hj,List.getElem?_eq_getElem hj]
    simp[List.getD_eq_getElem?_getD,List.getElem?_eq_getElem hj]
   ·rw[List.getElem?_eq_none (by simp; omega),List.getElem?_eq_none (by omega)]
    rfl
  have p2:=(op.map (·.1)).map shr
  rw[e] at p2
  unfold shW
  exact perm_sum p2
 refine⟨_,rfl, ?_⟩
 simp only[List.append_assoc,List.cons_append,List.nil_append,List.length_append,List.length_cons,List.length_nil]
 refine xn (fun i ρ M'=>∃(ns:List Nd) (kv:List (Key×U)) (x5 x6 x7 x8 x9:Option U),ρ=[some (.p (.int bits)),some (.p (.lst (ws.map T.int))),some (.m M.length),some (.m (M.length+1)),some (.m (M.length+2)),x5,x6,x7,x8,x9]/\M'=M++[MO.lst ((fiveK.map T.str).map U.p),MO.lst ((ns.map ndT).map U.p),MO.dK kv]/\shs ns+shW ((out.take i).map (·.1))=2^100/\(∀n∈ns,0<=n.1/\∀p∈out.drop i,n.1<=p.1)/\ns.length<=1+60*i/\kv.length<=i/\∀p∈out.take i,need (fiveK.getD p.2.toNat "")<=bits-p.1) ?_ ?_ ?_
 ·refine⟨[(0,0)], [],_,_,_,_,_,rfl,rfl, ?_, ?_,by decide,by decide,by simp⟩
  ·rfl
  ·intro n hn
   rw[List.mem_singleton.mp hn]
   refine⟨by decide,fun p hp=>?_⟩
   obtain⟨j,_,_,hj⟩:=hom p (by simpa using hp)
   have:=hw p.1 (List.mem_of_getElem? hj)
   show 0<=p.1
   omega
 ·rintro i x ρ M' hx ⟨ns,kv,x5,x6,x7,x8,x9,rfl,rfl,hsh,hns,hnl,hkl,hld⟩
  obtain⟨⟨v,kk⟩,hm,rfl⟩:=qP hx
  have g0:∀a b c:MO,(M++[a,b,c])[M.length]?=some a:=fun a b c=>by simp
  have g1:∀a b c:MO,(M++[a,b,c])[M.length+1]?=some b:=fun a b c=>by simp
  have g2:∀a b c:MO,(M++[a,b,c])[M.length+2]?=some c:=fun a b c=>by simp
  have t1:∀a b c d:MO,(M++[a,b,c]).set (M.length+1) d=M++[a,d,c]:=fun a b c d=>by simp
  have t2:∀a b c d:MO,(M++[a,b,c]).set (M.length+2) d=M++[a,b,d]:=fun a b c d=>by simp
  obtain⟨ki,hki,hke,hkw⟩:=hom (v,kk) (List.mem_of_getElem? hm)
  have hke:kk=(ki:Int):=hke
  have hkw:ws[ki]?=some v:=hkw
  subst hke
  have hv:=hw v (List.mem_of_getElem? hkw)
  have hi5:i<5:=by rw[<-hol]; exact(List.getElem?_eq_some_iff.mp hm).1
  have hvd:(v,(ki:Int))∈out.drop i:=List.mem_of_getElem? (i:=0) (by rw[List.getElem?_drop]; simpa using hm)
  have hle:∀n∈ns,n.1<=v:=fun n hn=>(hns n hn).2 _ hvd
  obtain⟨kn,hkn⟩:∃kn,fiveK[ki]?=some kn:=⟨_,List.getElem?_eq_getElem hki⟩
  have hkm:kn∈fiveK:=List.mem_of_getElem? hkn
  walk_at "v"
  refine⟨(ns.map ndT).map U.p,by simp only[ql,g1], ?_⟩
  refine⟨by show((ns.map ndT).map U.p).length<=sizeLine; rw[List.length_map,List.length_map,sizeLine_eq]; omega,fun j acc M'=>M'=M++[MO.lst ((fiveK.map T.str).map U.p),MO.lst ((ns.map ndT).map U.p),MO.dK kv]/\acc=(ns.take j).map ndT,⟨rfl,rfl⟩,fun j acc M' hj _ hI=>⟨?_,fun u hu=>?_⟩,fun acc M' hI=>⟨?_, ?_⟩⟩
  ·obtain⟨rfl,rfl⟩:=hI
   show ql _ (.m (M.length+1))=_
   simp only[ql,g1]
  ·obtain⟨rfl,rfl⟩:=hI
   have hu:((ns.map ndT).map U.p)[j]?=some u:=hu
   rw[List.getElem?_map] at hu
   obtain⟨t9,ht9,rfl⟩:=Option.map_eq_some_iff.mp hu
   obtain⟨nd,hnd,rfl⟩:=qP ht9
   walk_at "v"
   rw[if_pos (hle nd (List.mem_of_getElem? hnd)),qi hnd,List.map_append]
   rfl
  ·obtain⟨rfl,rfl⟩:=hI
   show ql _ (.m (M.length+1))=_
   simp only[ql,g1]
  obtain⟨rfl,rfl⟩:=hI
  have etk:ns.take ((itU (.m (M.length+1)) ((ns.map ndT).map U.p)).n)=ns:=by
   show ns.take ((ns.map ndT).map U.p).length=ns
   rw[List.length_map,List.length_map,List.take_length]
  rw[etk]
  walk_at "v"
  by_cases hne:ns=[]
  ·subst hne
   refine⟨_,_,rfl,rfl, .inr ⟨rfl,fun _=>true,fun j x y h1=>by simp at h1,true,rfl,ity rfl (qn ?_ _)⟩⟩
   refine go_shW hb8 hb32 h5 ?_
   rw[<-shW_out]
   have e1:(out.map (·.1))=(out.take i).map (·.1)++(out.drop i).map (·.1):=by rw[<-List.map_append,List.take_append_drop]
   rw[e1,Zx]
   have h1:shs []+shW ((out.take i).map (·.1))=2^100:=hsh
   have h2:0<shW ((out.drop i).map (·.1)):=shW_pos (fun z=>by rw[List.map_eq_nil_iff.mp z] at hvd; cases hvd)
   have h3:shs []=0:=rfl
   omega
  refine⟨_,_,rfl,rfl, .inl ⟨by rw[List.length_map]; exact fun z=>hne (List.eq_nil_of_length_eq_zero z),false,rfl,itn rfl ?_⟩⟩
  refine⟨(fiveK.map T.str).map U.p,(ki:Int), .p (.str kn),by simp only[ql,g0],rfl,v7 (by rw[List.getElem?_map,List.getElem?_map,hkn]; rfl), ?_⟩
  walk_at "v"
  refine⟨kn,rfl,hkm, ?_⟩
  walk_at "v"
  refine ite2 (fun hlo=>?_) (fun hlo=>?_)
  ·refine qn ?_ _
   have hz:(fiveK.zip ws)[ki]?=some (kn,v):=by rw[List.getElem?_zip_eq_some]; exact⟨hkn,hkw⟩
   unfold goB
   rw[show(fiveK.zip ws).all (okW bits)=false from by
    rw[List.all_eq_false]
    refine⟨_,List.mem_of_getElem? hz, ?_⟩
    unfold okW
    have:¬need kn<=bits-v:=by
     have hlo:bits-v<need kn:=by simpa using hlo
     omega
    simp[this]]
   simp
  have hlo:need kn<=bits-v:=by
   have hlo:¬bits-v<need kn:=by simpa using hlo
   omega
  obtain⟨nd,hnd⟩:∃nd,ns[ns.length-1]?=some nd:=⟨_,List.getElem?_eq_getElem (by have:0<ns.length:=List.length_pos_iff.mpr hne; omega)⟩
  have hnm:=List.mem_of_getElem? hnd
  obtain⟨hn0,_⟩:=hns nd hnm
  have hnv:=hle nd hnm
  obtain⟨j,hj,hjf⟩:=first_ix hnm
  have hjl:=(List.getElem?_eq_some_iff.mp hj).1
  have her:=kh hj
  walk_at "v"
  refine vO (t:=ndT nd) ?_ ?_
  ·unfold atI ixN
   rw[List.length_map,if_neg (by decide),if_pos (by omega)]
   show(ns.map ndT)[(-1+(ns.length:Int)).toNat]?=_
   rw[List.getElem?_map,show(-1+(ns.length:Int)).toNat=ns.length-1 by omega,hnd]
   rfl
  walk_at "v"
  refine⟨_,rfl,⟨_,g1 _ _ _⟩, ?_⟩
  walk_at "v"
  refine⟨_,g1 _ _ _,ns.map ndT,ndT nd,j,fun m=>decide (ns[m]?=some nd),rfl,rfl,by rw[List.length_map]; exact hjl,by simp[hj],fun m hm=>by simp[hjf m hm],fun m z hm hz=>?_, ?_⟩
  ·obtain⟨nm,hnm2,rfl⟩:=qP hz
   have e9:decide (ns[m]?=some nd)=decide (nm=nd):=by
    rw[hnm2]
    by_cases e:nm=nd<;>simp[e]
   show EqT 20 _ _ (decide (ns[m]?=some nd))
   rw[e9]
   exact nd_eqT
  dsimp only
  rw[t1, <-kG]
  walk_at "v"
  refine⟨fun m ρ M'=>∃(c:Int) (fs:List Nd),m=(v-c).toNat/\nd.1<=c/\c<=v/\ρ=[some (.p (.int bits)),some (.p (.lst (ws.map T.int))),some (.m M.length),some (.m (M.length+1)),some (.m (M.length+2)),some (.p (.int v)),some (.p (.int (ki:Int))),some (.p (.lst (ns.map ndT))),some (.p (.int c)),some (.p (.int nd.2))]/\M'=M++[MO.lst ((fiveK.map T.str).map U.p),MO.lst ((fs.map ndT).map U.p),MO.dK kv]/\shs fs+shr c=shs ns/\(∀n∈fs,0<=n.1/\n.1<=v)/\(fs.length:Int)<=ns.length+(c-nd.1),⟨_,nd.1,ns.eraseIdx j,rfl,Int.le_refl _,hnv,rfl,rfl,her,fun n hn=>⟨(hns n (List.mem_of_mem_eraseIdx hn)).1,hle n (List.mem_of_mem_eraseIdx hn)⟩, ?_⟩, ?_⟩
  ·have:(ns.eraseIdx j).length<=ns.length:=by rw[List.length_eraseIdx]; split<;>omega
   omega
  rintro m ρ M' ⟨c,fs,rfl,hc1,hc2,rfl,rfl,hfs,hfn,hfl⟩
  walk_at "v"
  refine ite2 (fun hcv=>?_) (fun hcv=>?_)
  ·have hcv:c<v:=by simpa using hcv
   refine⟨fun ρ M'=>ρ=[some (.p (.int bits)),some (.p (.lst (ws.map T.int))),some (.m M.length),some (.m (M.length+1)),some (.m (M.length+2)),some (.p (.int v)),some (.p (.int (ki:Int))),some (.p (.lst (ns.map ndT))),some (.p (.int (c+1))),some (.p (.int nd.2))]/\M'=M++[MO.lst ((fiveK.map T.str).map U.p),MO.lst (((fs++[(c+1,nd.2+2^c.toNat)]).map ndT).map U.p),MO.dK kv], ?_, ?_⟩
   ·rintro ρ' M'' ⟨rfl,rfl⟩
    refine⟨(v-(c+1)).toNat,by omega,c+1,_,rfl,by omega,by omega,rfl,rfl, ?_,fun n hn=>?_, ?_⟩
    ·rw[shs_app]
     have e1:shs [(c+1,nd.2+2^c.toNat)]=shr (c+1):=by simp[shs]
     have e2:=shr_step (a:=c) (by omega)
     omega
    ·rcases List.mem_append.mp hn with hn|hn
     ·exact hfn n hn
     ·rw[List.mem_singleton.mp hn]
      exact⟨by show 0<=c+1; omega,by show c+1<=v; omega⟩
    ·rw[List.length_append]
     push_cast
     show(fs.length:Int)+1<=_
     omega
   ·walk_at "v"
    refine⟨_,rfl,⟨_,g1 _ _ _⟩, ?_⟩
    walk_at "v"
    refine⟨⟨by omega,by omega,by decide⟩,_,g1 _ _ _, ?_, ?_⟩
    ·rw[List.length_map,List.length_map,sizeLine_eq]; omega
    rw[t1,Int.one_mul]
    simp[ndT]
  ·have hcv:c=v:=by
    have:¬c<v:=by simpa using hcv
    omega
   subst hcv
   walk_at "v"
   refine⟨(fiveK.map T.str).map U.p,(ki:Int), .p (.str kn),by simp only[ql,g0],rfl,v7 (by rw[List.getElem?_map,List.getElem?_map,hkn]; rfl), ?_⟩
   refine dputS_at (g2 _ _ _) (by rw[sizeLine_eq]; omega) ?_
   rw[t2]
   have htk:(out.take (i+1))=out.take i++[(c,(ki:Int))]:=qi hm
   refine⟨fs,_,_,_,_,_,_,rfl,rfl, ?_,fun n hn=>⟨(hfn n hn).1,fun p hp=>?_⟩,by omega, ?_,fun p hp=>?_⟩
   ·rw[htk,List.map_append,Zx]
    have:shW ([(c,(ki:Int))].map (·.1))=shr c:=by simp[shW]
    omega
   ·have h1:=(hfn n hn).2
    obtain⟨q9,hq9⟩:=List.getElem?_of_mem hp
    rw[List.getElem?_drop] at hq9
    have hpw:=List.pairwise_iff_getElem.mp pw i (i+1+q9) (List.getElem?_eq_some_iff.mp hm).1 (List.getElem?_eq_some_iff.mp hq9).1 (by omega)
    rw[(List.getElem?_eq_some_iff.mp hm).2,(List.getElem?_eq_some_iff.mp hq9).2] at hpw
    obtain⟨k9,hk9,hke9,_⟩:=hom p (List.mem_of_getElem? hq9)
    unfold key5 at hpw
    have hpw:5*c+(ki:Int)<=5*p.1+p.2:=hpw
    omega
   ·have:=putU_len kv (.inr kn) (.p (.tup [.int c, .int nd.2]))
    omega
   ·rw[htk] at hp
    rcases List.mem_append.mp hp with hp|hp
    ·exact hld p hp
    ·rw[List.mem_singleton.mp hp]
     show need (fiveK.getD (ki:Int).toNat "")<=bits-c
     rw[Int.toNat_natCast,List.getD_eq_getElem?_getD,hkn]
     exact hlo
 ·rintro ρ M' ⟨ns,kv,x5,x6,x7,x8,x9,rfl,rfl,hsh,hns,hnl,hkl,hld⟩
  walk_at "v"
  have el:(out.map kr).length=out.length:=List.length_map ..
  rw[el,List.take_length] at hsh hld
  refine qy ?_ _ _
  have h1:shW ws<=2^100:=by
   rw[<-shW_out]
   have:=shs_nn ns
   omega
  have hall:∀p∈fiveK.zip ws,okW bits p=true:=fun p hp=>by
   obtain⟨j,hj⟩:=List.getElem?_of_mem hp
   rw[List.getElem?_zip_eq_some] at hj
   have hjw:=List.mem_of_getElem? hj.2
   have h9:=hld (p.2,(j:Int)) (op.mem_iff.mpr (List.mem_of_getElem? (heg j p.2 hj.2)))
   have h9:need (fiveK.getD (j:Int).toNat "")<=bits-p.2:=h9
   rw[Int.toNat_natCast,List.getD_eq_getElem?_getD,hj.1] at h9
   have h9:need p.1<=bits-p.2:=h9
   have h2:2<=need p.1:=by unfold need; split<;>(try split)<;>(try split)<;>decide
   have h3:=hw p.2 hjw
   unfold okW
   simp only[Bool.and_eq_true,decide_eq_true_eq]
   exact⟨⟨h3.1,by omega⟩,h9⟩
  have hle:∀w∈ws,w<=bits:=fun w hww=>by
   obtain⟨j,hj⟩:=List.getElem?_of_mem hww
   have hjl:=(List.getElem?_eq_some_iff.mp hj).1
   have hk:fiveK[j]?=some (fiveK[j]'(by show j<5; omega)):=List.getElem?_eq_getElem _
   have:=hall _ (List.mem_of_getElem? (show(fiveK.zip ws)[j]?=some (_,w) by rw[List.getElem?_zip_eq_some]; exact⟨hk,hj⟩))
   simp only[okW,Bool.and_eq_true,decide_eq_true_eq] at this
   omega
  unfold goB
  rw[List.all_eq_true.mpr hall,decide_eq_true hb8,decide_eq_true hb32,decide_eq_true ((shW_le (by omega) hb32 hle).mpr h1)]
  rfl
theorem filt1 {α:Type} {p:α->Bool} {l:List α} {i:Nat} {m:α} (hi:l[i]?=some m) (h:∀(j:Nat) x,l[j]?=some x->j≠i->p x=false):(l.filter p).length<=1:=by
 have hil:=(List.getElem?_eq_some_iff.mp hi).1
 have e:l=l.take i++m::l.drop (i+1):=by
  conv=>lhs; rw[<-List.take_append_drop i l,List.drop_eq_getElem_cons hil]
  rw[(List.getElem?_eq_some_iff.mp hi).2]
 have h1:(l.take i).filter p=[]:=List.filter_eq_nil_iff.mpr fun x hx=>by
  obtain⟨j,hj⟩:=List.getElem?_of_mem hx
  rw[List.getElem?_take] at hj
  by_cases hji:j<i
  ·rw[if_pos hji] at hj
   rw[h j x hj (by omega)]; decide
  ·rw[if_neg hji] at hj; cases hj
 have h2:(l.drop (i+1)).filter p=[]:=List.filter_eq_nil_iff.mpr fun x hx=>by
  obtain⟨j,hj⟩:=List.getElem?_of_mem hx
  rw[List.getElem?_drop] at hj
  rw[h _ x hj (by omega)]; decide
 rw[e,List.filter_append,h1,List.nil_append,List.filter_cons,h2]
 split<;>simp
theorem MadeM.le {ws:List Int} {ms:List Mk3} (h:MadeM ws ms) {i j:Nat} {a b:Mk3} (hi:ms[i]?=some a) (hj:ms[j]?=some b) (hij:i<j):a.2.1<=b.2.1:=by
 obtain⟨i1,i2⟩:=List.getElem?_eq_some_iff.mp hi
 obtain⟨j1,j2⟩:=List.getElem?_eq_some_iff.mp hj
 have:=List.pairwise_iff_getElem.mp h.2.1 i j i1 j1 hij
 rw[i2,j2] at this
 exact this
theorem QJ {α:Type} {l:List α} {i:Nat} {x:α} (h:x∈l.take i):∃j,j<i/\l[j]?=some x:=by
 obtain⟨j,hj⟩:=List.getElem?_of_mem h
 rw[List.getElem?_take] at hj
 by_cases hji:j<i
 ·rw[if_pos hji] at hj; exact⟨j,hji,hj⟩
 ·rw[if_neg hji] at hj; cases hj
theorem xE {α:Type} {l:List α} {i j:Nat} {x:α} (h:l[j]?=some x) (hji:j<i):x∈l.take i:=List.mem_of_getElem? (i:=j) (by rw[List.getElem?_take,if_pos hji]; exact h)
theorem pow_dvd2 {a b:Int} (ha:0<=a) (h:a<=b):(2:Int)^a.toNat ∣ 2^b.toNat:=⟨2^(b-a).toNat,by rw[<-Int.pow_add]; congr 1; omega⟩
theorem Xy {bits:Int} {ws:List Int} {ms:List Mk3} (h5:ws.length=5) (hg:goB bits ws=true) (h:MadeM ws ms):FormP bits ms:=by
 have hgg:=hg
 simp only[goB,Bool.and_eq_true,decide_eq_true_eq,List.all_eq_true] at hgg
 obtain⟨⟨hb,hall⟩,hsum⟩:=hgg
 have hwd:∀m∈ms,1<=m.2.1/\m.2.1<=bits-1:=fun m hm=>by
  have:=hall _ (h.1.subset (List.mem_map_of_mem (f:=fun m:Mk3=>(m.1,m.2.1)) hm))
  simp only[okW,Bool.and_eq_true,decide_eq_true_eq] at this
  exact this.1
 refine⟨hb, ?_, ?_,fun m hm=>⟨hwd m hm, ?_⟩⟩
 ·have:=h.1.length_eq
  rw[List.length_map,List.length_zip,h5] at this
  exact this
 ·have:=h.1.map (·.1)
  rw[List.map_map,List.map_fst_zip (by rw[h5]; decide)] at this
  exact this
 ·obtain⟨i,hi⟩:=List.getElem?_of_mem hm
  obtain⟨p0,hfree,hlow⟩:=h.2.2 i m hi
  refine⟨p0,Int.lt_of_not_ge fun hge=>?_⟩
  have hp:=jo m.2.1.toNat
  obtain⟨m',hm',ho⟩:=hlow (m.2.2-2^m.2.1.toNat) (by omega) (by omega)
  obtain⟨j,hji,hj⟩:=QJ hm'
  have hle:=h.le hj hi hji
  have hw':=hwd m' (List.mem_of_getElem? hj)
  have hf:=hfree m' hm'
  unfold on at ho hf
  have ho:=of_decide_eq_true ho
  have hf:=of_decide_eq_false hf
  refine hf ?_
  obtain⟨c,hc⟩:=pow_dvd2 (by omega) hle
  rw[<-ho,hc,Int.sub_eq_add_neg, <-Int.mul_neg,Int.add_mul_emod_self_left]
theorem kH {bits:Int} {ws:List Int} {ms:List Mk3} (f:FormP bits ms) (h:MadeM ws ms):xK ms=[]:=by
 unfold xK
 rw[List.map_eq_nil_iff,List.filter_eq_nil_iff]
 intro m hm
 obtain⟨i,hi⟩:=List.getElem?_of_mem hm
 have:=filt1 (p:=on m.2.2) hi fun j x hj hne=>by
  have fm:=f.m m hm
  have fx:=f.m x (List.mem_of_getElem? hj)
  rcases Nat.lt_or_gt_of_ne hne with hlt|hgt
  ·exact(h.2.2 i m hi).2.1 x (xE hj hlt)
  ·cases ho:on m.2.2 x with
   |false=>rfl
   |true =>
    have hf:=(h.2.2 j x hj).2.1 m (xE hi hgt)
    unfold on at ho hf
    have ho:=of_decide_eq_true ho
    have hf:=of_decide_eq_false hf
    have hle:=h.le hi hj hgt
    have hlt:m.2.2<2^x.2.1.toNat:=by
     have:=Nat.pow_le_pow_right (n:=2) (by decide) (show m.2.1.toNat<=x.2.1.toNat by omega)
     have:(2:Int)^m.2.1.toNat<=2^x.2.1.toNat:=by exact_mod_cast this
     omega
    rw[Int.emod_eq_of_lt fm.2.1 hlt] at ho
    rw[<-ho,Int.emod_eq_of_lt fm.2.1 fm.2.2] at hf
    exact absurd rfl hf
 simp only[decide_eq_true_eq]
 omega
theorem jc {bits:Int} {ws:List Int} {ms:List Mk3} (h5:ws.length=5) (hg:goB bits ws=true) (h:MadeM ws ms):kW bits ms=.non:=by
 have f:=Xy h5 hg h
 have hk:fewK bits ms=none:=by
  unfold fewK
  rw[List.find?_eq_none]
  intro m hm
  have hgg:=hg
  simp only[goB,Bool.and_eq_true,decide_eq_true_eq,List.all_eq_true] at hgg
  have:=hgg.1.2 _ (h.1.subset (List.mem_map_of_mem (f:=fun m:Mk3=>(m.1,m.2.1)) hm))
  simp only[okW,Bool.and_eq_true,decide_eq_true_eq] at this
  simp only[decide_eq_true_eq]
  omega
 unfold kW
 rw[if_pos (form_iff.mpr f),kH f h,hk]
 rfl
abbrev ZD:Stmt:=top 23
theorem scWhole:FnScope ["found"] ["found"] (qg ZD):=⟨rfl,rfl,rfl,by decide +kernel,rfl,by decide +kernel,by decide +kernel⟩
def XZ:List T->(T->Prop)->Prop:=fun ts Q=>∃n:Int,ts=[.int n]/\Q (.bl true)
theorem ok_whole {f:Addr} {fd:FuncData} (F:Fun K "_law_whole" "_law_whole" ZD f fd) (N:Nms mg):FnOk P w K mg base CX0 1 f fd ["found"] (spP XZ):=by
 refine F.zP scWhole (fun ts Qt h=>?_) (fun cdv A outer s H E hr=>?_)
 ·obtain⟨_,rfl,_⟩:=h
  rfl
 refine⟨_,(qh (qw (qe_and (qQ (v6 (K:=K) rfl) (by rfl) N.isinstance vq (qa_c (qv 0) (qa_c (xy (v:=.ty "int") (by rfl) N.int b_int rfl) qe))) (qe_one (qe_not (qQ (v6 (K:=K) rfl) (by rfl) N.isinstance vq (qa_c (qv 0) (qa_c (xy (v:=.ty "bool") (by rfl) N.bool b_bool rfl) qe)))))))),_,(qF (ce_andV (kY .int (qb 0)) (ce_notV (kY .bool (qb 0))))),fun ts Qt h=>?_⟩
 obtain⟨n,rfl,q⟩:=h
 walk_at "v"
 exact q
theorem valD:∀{ms:List Mk3},(ms.map (·.1)).Nodup->∀m∈ms,valU ((ms.map fun m=>((m.1,T.int m.2.1):Str×T)).map fun p=>(Key.inr p.1,U.p p.2)) (.inr m.1)=some (.p (.int m.2.1))
 |a::ms,hn,m,hm=>by
  rw[List.map_cons,List.nodup_cons] at hn
  unfold valU
  rw[List.map_cons,List.map_cons,List.find?_cons]
  by_cases e:a.1=m.1
  ·rw[show decide ((Key.inr (a.1,T.int a.2.1).1,U.p (a.1,T.int a.2.1).2).1=Key.inr m.1)=true from decide_eq_true (congrArg Key.inr e)]
   rcases List.mem_cons.mp hm with rfl|h
   ·rfl
   ·exact absurd (e▸List.mem_map_of_mem (f:=fun m:Mk3=>m.1) h) hn.1
  ·rw[show decide ((Key.inr (a.1,T.int a.2.1).1,U.p (a.1,T.int a.2.1).2).1=Key.inr m.1)=false from decide_eq_false fun z=>e (Key.inr.inj z)]
   rcases List.mem_cons.mp hm with rfl|h
   ·exact absurd rfl e
   ·exact valD hn.2 m h
abbrev sKept:Stmt:=top 24
theorem scKept:FnScope ["laying", "bits", "widths", "numbers", "told"] ["laying", "bits", "widths"] (qg sKept):=⟨rfl,rfl,rfl,by decide +kernel,rfl,by decide +kernel,by decide +kernel⟩
theorem QF:(["laying", "bits", "widths", "numbers", "told", "one"]:List Str).Nodup:=by decide +kernel
theorem ndKept2:(["laying", "bits", "widths", "numbers", "told", "n"]:List Str).Nodup:=by decide +kernel
theorem ndKept3:(["laying", "bits", "widths", "numbers", "told", "kind", "width", "pattern"]:List Str).Nodup:=by decide +kernel
theorem ndKept4:(["laying", "bits", "widths", "numbers", "told", "kind"]:List Str).Nodup:=by decide +kernel
def gKept:List T->(T->Prop)->Prop:=fun ts Q=>∃(bits:Int) (ms:List Mk3) (ws:List Int),ts=[layT bits ms, .int bits, .lst (ws.map T.int)]/\kW bits ms=.non/\ms.length=5/\(ms.map fun m=>(m.1,m.2.1)).Perm (fiveK.zip ws)/\ws.length=5/\Q (.bl true)
theorem ok_kept {f:Addr} {fd:FuncData} (F:Fun K "_law_kept" "_law_kept" sKept f fd) (N:Nms mg) (DFault:Def P w K mg base "_law_fault" 3 ["laying"] (spP QR)) (DWhole:Def P w K mg base "_law_whole" 1 ["found"] (spP XZ)) (DKinds:Def P w K mg base "_law_kinds" 1 [] (spU jf)):FnOk P w K mg base CX0 4 f fd ["laying", "bits", "widths"] (spP gKept):=by
 refine F.zP scKept (fun ts Qt h=>?_) (fun cdv A outer s H E hr=>?_)
 ·obtain⟨_,_,_,rfl,_⟩:=h
  rfl
 refine⟨_,(qd (vF (Qp (xb (vU (vT (qQ (v6 (K:=K) rfl) (by rfl) N.isinstance vq (qa_c (qv 0) (qa_c (xy (v:=.ty "tuple") (by rfl) N.tuple Jq rfl) qe))))) (xb (qm op_ne (qQ (Zf (K:=K) rfl) (by rfl) N.len b_len (qa_c (qv 0) qe)) qc (qx _)) (xb (qm op_ne (qL (va (K:=K) rfl) (qv 0) qc (fun _ _=>rfl)) (qv 1) (qx _)) (xW (qm Z9 (qI DFault (hr.mono (by first|decide|exact Nat.le_refl _)) (qa_c (qv 0) qe)) xu (qx _)))))))
   (qh (qw zJ))
   qN)
  (qd (vF (Qp (xb (vU (vT (qQ (v6 (K:=K) rfl) (by rfl) N.isinstance vq (qa_c (qL (va (K:=K) rfl) (qv 0) qc (fun _ _=>rfl)) (qa_c (xy (v:=.ty "list") (by rfl) N.list Jr rfl) qe))))) (xW (qm (xB (K:=K) rfl hr.units) (zI [false,false,false,false,false] ["one"] (qC (K:=K) rfl (qL (va (K:=K) rfl) (qv 0) qc (fun _ _=>rfl))) (fun _ _ _=>(qU (i:=5) QF rfl (Or.inl rfl))) (fun _ _ _=>zF (vU (vT (qQ (v6 (K:=K) rfl) (by rfl) N.isinstance vq (qa_c (qv 5) (qa_c (xy (v:=.ty "tuple") (by rfl) N.tuple Jq rfl) qe)))))) (fun _ _ _=>(qv 5))) (qV qe) (qx _)))))
   (qh (qw zJ))
   qN)
  (qd (qR (i:=3) scKept.nd rfl (Or.inl rfl) (qB Vm (qB Vm (qV (qa_c (qL (va (K:=K) rfl) (qv 0) qc (fun _ _=>rfl)) qe)) (zI [false,false,false,false,false] ["one"] (qC (K:=K) rfl (qL (va (K:=K) rfl) (qv 0) qc (fun _ _=>rfl))) (fun _ _ _=>(qU (i:=5) QF rfl (Or.inl rfl))) (fun _ _ _=>vz) (fun _ _ _=>(qL (va (K:=K) rfl) (qv 5) qc (fun _ _=>rfl))))) (zI [false,false,false,false,false] ["one"] (qC (K:=K) rfl (qL (va (K:=K) rfl) (qv 0) qc (fun _ _=>rfl))) (fun _ _ _=>(qU (i:=5) QF rfl (Or.inl rfl))) (fun _ _ _=>vz) (fun _ _ _=>(qL (va (K:=K) rfl) (qv 5) qc (fun _ _=>rfl))))))
  (qd (vF (qm (xB (K:=K) rfl hr.units) (zI [false,false,false,false,false] ["n"] (qC (K:=K) rfl (qv 3)) (fun _ _ _=>(qU (i:=5) ndKept2 rfl (Or.inl rfl))) (fun _ _ _=>zF (vU (vT (qI DWhole (hr.mono (by first|decide|exact Nat.le_refl _)) (qa_c (qv 5) qe))))) (fun _ _ _=>(qv 5))) (qV qe) (qx _))
   (qh (qw zJ))
   qN)
  (qd (qR (i:=4) scKept.nd rfl (Or.inr rfl) (xw (Zg rfl) (by rfl) N.dict b_dict (qa_c (zI [false,false,false,false,false] ["kind", "width", "pattern"] (qC (K:=K) rfl (qL (va (K:=K) rfl) (qv 0) qc (fun _ _=>rfl))) (fun _ _ _=>(Vi (K:=K) (i:=5) (j:=6) (k:=7) rfl ndKept3 rfl rfl rfl rfl (Or.inl rfl) (Or.inl rfl) (Or.inl rfl) (Or.inr rfl) (Or.inr rfl) (Or.inr rfl))) (fun _ _ _=>vz) (fun _ _ _=>(vW (qa_c (qv 5) (qa_c (qv 6) qe))))) qe)))
  (qh (qw (Qq (Qy (K:=K) rfl hr.units) (zI [false,false,false,false,true] ["kind"] (qC (K:=K) rfl (jA DKinds (hr.mono (by first|decide|exact Nat.le_refl _)))) (fun _ _ _=>(qU (i:=5) ndKept4 rfl (Or.inl rfl))) (fun _ _ _=>vz) (fun _ _ _=>(ZZ (hu_of hr) (qv 4) (qv 5) (fun _ _=>rfl)))) (qv 2) (qx _))))))))),_,(qj (vJ (xf (v5 (ct_b (kY .tuple (qb 0)))) (xf (qp (qr Z8 (ce_lenT (qb 0)) (ce_c (.int _)))) (xf (qp (qr Z8 (vC (qb 0) (ce_c (.int _))) (qb 1))) (qp (Jg (vc (qa (qb 0) qf)))))))
   (qF (ce_c (.bl _)))
   qT)
   (qj (vJ (xf (v5 (ct_b (kY .list (vC (qb 0) (ce_c (.int _)))))) (qp (qr xA (vg (qW (vC (qb 0) (ce_c (.int _)))) (qZ 5) (v5 (ct_b (kY .tuple (qb 5)))) (qb 5)) (vf qf))))
   (qF (ce_c (.bl _)))
   qT)
   (qj (qG (qr Qw (qr Qw (vf (qa (vC (qb 0) (ce_c (.int _))) qf)) (vg (qW (vC (qb 0) (ce_c (.int _)))) (qZ 5) v3 (vC (qb 5) (ce_c (.int _))))) (vg (qW (vC (qb 0) (ce_c (.int _)))) (qZ 5) v3 (vC (qb 5) (ce_c (.int _))))) (qo 3))
   (qj (vJ (qp (qr xA (vg (qW (qb 3)) (qZ 5) (v5 (ct_b (vc (qa (qb 5) qf)))) (qb 5)) (vf qf)))
   (qF (ce_c (.bl _)))
   qT)
   (qj (qG (ce_dictP (vg (qW (vC (qb 0) (ce_c (.int _)))) (xS 5 6 7) v3 (zm (qa (qb 5) (qa (qb 6) qf))))) (qo 4))
   (qF (qr Qv (vg (qW (qD qf)) (qZ 5) v3 (Jh (qb 4) (qb 5))) (qb 2)))))))),fun ts Qt h=>?_⟩
 obtain⟨bits,ms,ws,rfl,hf,hm5,hp,h5,q⟩:=h
 unfold layT
 walk_at "v"
 simp only[uLenT]
 walk_at "v"
 refine⟨_,rfl, ?_⟩
 walk_at "v"
 refine itn rfl ?_
 refine XM at0 ?_
 walk_at "v"
 refine⟨bits,ms,rfl,by omega, ?_⟩
 rw[hf]
 refine itn rfl ?_
 walk_at "v"
 refine qX (by rw[List.length_map,hm5]; decide) (fun i acc M'=>M'=[]/\acc=[]) ⟨rfl,rfl⟩ ?_ ?_
 ·rintro i x acc M' hx _ ⟨rfl,rfl⟩
  obtain⟨m,hm,rfl⟩:=qP hx
  unfold vo
  walk_at "v"
 rintro acc M' ⟨rfl,rfl⟩
 walk_at "v"
 refine kX (ns:=[]) (ms:=[]) ?_
 walk_at "v"
 refine qX (by rw[List.length_map,hm5]; decide) (fun i acc M'=>M'=[]/\acc=((ms.take i).map (·.2.1)).map T.int) ⟨rfl,rfl⟩ ?_ ?_
 ·rintro i x acc M' hx _ ⟨rfl,rfl⟩
  obtain⟨m,hm,rfl⟩:=qP hx
  unfold vo
  walk_at "v"
  rw[qi hm,List.map_append,List.map_append]
  first|done|rfl|exact⟨rfl,rfl⟩|exact⟨_,_,rfl,rfl,rfl⟩
 rintro acc M' ⟨rfl,rfl⟩
 rw[List.length_map,List.take_length]
 walk_at "v"
 refine⟨by rw[List.length_map,List.length_map,sizeLine_eq]; omega, ?_⟩
 walk_at "v"
 refine qX (by rw[List.length_map,hm5]; decide) (fun i acc M'=>M'=[]/\acc=((ms.take i).map (·.2.2)).map T.int) ⟨rfl,rfl⟩ ?_ ?_
 ·rintro i x acc M' hx _ ⟨rfl,rfl⟩
  obtain⟨m,hm,rfl⟩:=qP hx
  unfold vo
  walk_at "v"
  rw[qi hm,List.map_append,List.map_append]
  first|done|rfl|exact⟨rfl,rfl⟩|exact⟨_,_,rfl,rfl,rfl⟩
 rintro acc M' ⟨rfl,rfl⟩
 rw[List.length_map,List.take_length]
 walk_at "v"
 refine⟨by simp only[List.length_map]; rw[sizeLine_eq]; omega, ?_⟩
 obtain⟨ns,hns,hnl⟩:∃ns:List Int,(T.int bits::((ms.map (·.2.1)).map T.int++(ms.map (·.2.2)).map T.int))=ns.map T.int/\ns.length<=11:=⟨bits::(ms.map (·.2.1)++ms.map (·.2.2)),by simp,by simp[hm5]⟩
 rw[hns]
 walk_at "v"
 refine qX (by rw[List.length_map,sizeLine_eq]; omega) (fun i acc M'=>M'=[]/\acc=[]) ⟨rfl,rfl⟩ ?_ ?_
 ·rintro i x acc M' hx _ ⟨rfl,rfl⟩
  obtain⟨n,hn,rfl⟩:=qP hx
  walk_at "v"
  refine⟨n,rfl, ?_⟩
  walk_at "v"
  first|done|exact⟨_,rfl,⟨rfl,rfl⟩⟩
 rintro acc M' ⟨rfl,rfl⟩
 walk_at "v"
 refine kX (ns:=[]) (ms:=[]) ?_
 walk_at "v"
 simp only[Zo]
 walk_at "v"
 refine qX (by rw[List.length_map,hm5]; decide) (fun i acc M'=>M'=[]/\acc=((ms.take i).map fun m=>((m.1,T.int m.2.1):Str×T)).map fun p=>T.tup [.str p.1,p.2]) ⟨rfl,rfl⟩ ?_ ?_
 ·rintro i x acc M' hx _ ⟨rfl,rfl⟩
  obtain⟨m,hm,rfl⟩:=qP hx
  unfold vo
  walk_at "v"
  rw[qi hm,List.map_append,List.map_append]
  first|done|rfl|exact⟨rfl,rfl⟩|exact⟨_,_,rfl,rfl,rfl⟩
 rintro acc M' ⟨rfl,rfl⟩
 rw[List.length_map,List.take_length]
 have hkn:((ms.map fun m=>((m.1,T.int m.2.1):Str×T)).map (·.1)).Nodup:=by
  have:=hp.map (·.1)
  rw[List.map_map,List.map_fst_zip (by rw[h5]; decide)] at this
  rw[List.map_map]
  exact this.nodup_iff.mpr (by decide)
 refine⟨_,rfl,hkn, ?_⟩
 walk_at "v"
 generalize hD:(ms.map fun m=>((m.1,T.int m.2.1):Str×T)).map (fun p=>(Key.inr p.1,U.p p.2))=D
 refine⟨rfl,jG rfl ?_⟩
 refine xo (ts:=fiveK.map T.str) (by show 5<=sizeLine; rw[sizeLine_eq]; decide) (fun j acc M2=>M2=[.dK D, .lst ((fiveK.map T.str).map U.p)]/\acc=(ws.take j).map T.int) ⟨rfl,rfl⟩ (fun j acc M2 h=>by rw[h.1]; rfl) ?_ ?_
 ·rintro j x acc M2 hx _ ⟨rfl,rfl⟩
  obtain⟨kd,hkd,rfl⟩:=qP hx
  have hj5:j<5:=(List.getElem?_eq_some_iff.mp hkd).1
  have hwj:ws[j]?=some (ws[j]'(by omega)):=List.getElem?_eq_getElem _
  generalize ws[j]'(by omega)=v at hwj
  have hz:(kd,v)∈fiveK.zip ws:=List.mem_of_getElem? (i:=j) (by rw[List.getElem?_zip_eq_some]; exact⟨hkd,hwj⟩)
  obtain⟨m,hm,em⟩:=List.mem_map.mp (hp.symm.subset hz)
  have hv:valU D (.inr kd)=some (.p (.int v)):=by
   rw[<-hD]
   have hkn2:(ms.map (·.1)).Nodup:=by rw[List.map_map] at hkn; exact hkn
   have:=valD hkn2 m hm
   rw[show m.1=kd from congrArg Prod.fst em,show m.2.1=v from congrArg Prod.snd em] at this
   exact this
  walk_at "v"
  refine Vv rfl hv ?_
  refine⟨_,rfl,rfl, ?_⟩
  rw[qi hwj,List.map_append]
  rfl
 ·rintro acc M2 ⟨rfl,rfl⟩
  rw[List.length_map,show fiveK.length=5 from rfl, <-h5,List.take_length]
  walk_at "v"
  refine kX (ns:=ws) (ms:=ws) ?_
  simpa using q
def kf (K:PySem.W.Frag) (tb:Addr):Sp:=fun vs H Q _=>∃(a:Addr) (ns:List Int),vs=[.ref a]/\SqL K H a (ns.map V.int)/\ns.length<=63/\H tb=some (.tbl #[])/\∀H',Q (.bl true) H'
theorem law_okT {st:Stmt} {f tb:Addr} {fd:FuncData} {N:List Str} {k:Nat} (F:Fun K "law" "law" st f fd) (S:FnScope N ["script"] (qg st)) (hN:2<=N.length)
  (hbody:∀(cdv:Value) (A:Around) (outer:List Env) (s:Shared) (H:Hp) (E:XK),Room k (A.deeper (envOfC "law" (qg st) s.heap.objs.size f cdv)) ->
   ∃tR,QSs (cxOf CX0 P w K mg base N "law" (qg st) f cdv A outer s H E).nox (ve st) (tSeq (tAsg (vK (spBag K) [] E0 (vm (tVar 0) tNil)) (qt 1)) tR)/\∃uR,ZS tR uR/\∀o,BagO o->uR { nx:=fun _ _=>False,rt:=fun z _=>z=.p (.bl true) } (none::some (.m 0)::List.replicate (N.length-2) none) [o, .tab tb kN lamQ]):FnOk P w K mg base CX0 (k+1) f fd ["script"] (kf K tb):=by
 refine F.okQ S (fun vs H Q E h=>?_) (fun cdv A outer s H vs Q E hr h=>?_)
 ·obtain⟨_,_,rfl,_⟩:=h
  rfl
 ·obtain⟨a,ns,rfl,hS,hlen,hT,k⟩:=h
  obtain⟨tR,hT9,uR,hU,hq⟩:=hbody cdv A outer s H E hr
  refine⟨_,hT9, ?_⟩
  have hN2:L2.start N [.ref a]=some (.ref a)::none::List.replicate (N.length-2) none:=by
   unfold L2.start
   obtain⟨m,hm⟩:∃m,N.length=m+2:=⟨N.length-2,by omega⟩
   rw[hm]
   rfl
  rw[hN2]
  simp only[tSeq,tAsg,vK,vm,tNil,tVar,qt,List.getElem?_cons_zero,Option.some.injEq,exists_eq_left',List.append_nil,List.set_cons_zero,List.set_cons_succ]
  refine⟨a,ns,rfl,hS,hlen,fun b H1 hb s1 B1=>?_⟩
  have hT1:=s1 tb _ hT
  have nbt:b≠tb:=fun z=>by rw[z,hT] at hb; cases hb
  obtain⟨c,ns',i,a',st',n,hbb,hcc,r⟩:=id B1.ex
  have ncb:c≠b:=Jp hbb hcc
  have nct:c≠tb:=fun z=>by rw[z,hT1] at hcc; cases hcc
  obtain⟨o,hbo,ro,_⟩:=VF (A:=fun _=>False) (ι:=[b,tb]) B1 ⟨_,hbb⟩ (fun z=>z.elim id fun z=>by
   rcases List.mem_cons.mp z with z|z
   ·exact ncb z
   ·exact nct (List.mem_singleton.mp z))
  have w1:L2.Wd (fun _=>False) [b,tb] H1 [o, .tab tb kN lamQ]:=⟨by simp[nbt],rfl,fun x hx=>hx.elim,fun x _ z=>z,fun k a2 o2 e1 e2=>by
   match k,e1,e2 with
   |0,e1,e2=>cases e1; cases e2; exact ro
   |1,e1,e2=>cases e1; cases e2; exact⟨#[],hT1,⟨trivial,rfl⟩, .inl rfl⟩
   |k+2,e1,_=>simp at e1⟩
  have env:EnvR (fun _=>False) [b,tb] H1 (some (.ref a)::some (.ref b)::List.replicate (N.length-2) none) (none::some (.m 0)::List.replicate (N.length-2) none):=by
   refine .cons (fun u e=>by cases e) (.cons (fun u e=>by cases e; exact⟨_,rfl, .m rfl⟩) ?_)
   generalize N.length-2=m
   induction m with
   |zero=>exact .nil
   |succ m ih=>exact .cons (fun u e=>by cases e) ih
  refine hU.h (fun _=>False) [b,tb] _ H1 _ [o, .tab tb kN lamQ] _ { nx:=fun _ _=>False,rt:=fun z _=>z=.p (.bl true) } w1 env ⟨fun _ _ _ _ _ _ _ _ q=>q.elim,fun ι v H2 u M _ _ ru q=>?_,fun _ _ _ _ _ _ _ _ q=>q.elim,fun _ _ _ _ _ _ _ _ q=>q.elim⟩ (hq o hbo)
  have q:u=.p (.bl true):=q
  subst q
  cases ru with
  |p r=>cases r; exact k H2
theorem vZ {o:MO} {L:List MO} {many:Int} {Q:UK} (B:BagO o) (h0:0<many) (h1:many.natAbs.log2<9000) (q:∀(found:Int) (o':MO),0<=found->found<many->BagO o'->Q (.p (.int found)) (o'::L)):X1 [.m 0, .p (.int many)] (o::L) Q :=
 ⟨0,o,many,rfl,rfl,B,h0,h1,fun f o' f0 f1 B'=>q f o' f0 f1 B'⟩
def lim40 (w:Int):Int:=if(if w>1 then w else 1)<40 then(if w>1 then w else 1) else 40
theorem vk (xs:List T) (lo hi:Option Int):(cutT xs lo hi).length<=xs.length:=by
 unfold cutT
 rw[List.length_take,List.length_drop]
 omega
theorem rot5 {ns:List Int} {t:Int} (h5:ns.length=5) (h0:0<=t) (h1:t<5):∃ns2:List Int,cutT (ns.map T.int) (some t) none++cutT (ns.map T.int) none (some t)=ns2.map T.int/\ns2.length=5:=by
 match ns,h5 with
 | [a,b,c,d,e],_ =>
  rcases(show t=0\/t=1\/t=2\/t=3\/t=4 by omega) with rfl|rfl|rfl|rfl|rfl
  ·exact⟨[a,b,c,d,e],rfl,rfl⟩
  ·exact⟨[b,c,d,e,a],rfl,rfl⟩
  ·exact⟨[c,d,e,a,b],rfl,rfl⟩
  ·exact⟨[d,e,a,b,c],rfl,rfl⟩
  ·exact⟨[e,a,b,c,d],rfl,rfl⟩
abbrev Qk:Stmt:=top 22
theorem scWidths:FnScope ["bag", "bits", "sets", "way", "widths", "turn", "k"] ["bag", "bits"] (qg Qk):=⟨rfl,rfl,rfl,by decide +kernel,rfl,by decide +kernel,by decide +kernel⟩
theorem Xp:(["bag", "bits", "sets", "way", "widths", "turn", "k", "kind"]:List Str).Nodup:=by decide +kernel
theorem Xo:(["bag", "bits", "sets", "way", "widths", "turn", "k", "width"]:List Str).Nodup:=by decide +kernel
def QP:List U->MM->UK->Prop:=fun us M Q=>∃(o:MO) (bits:Int) (L:List MO),us=[.m 0, .p (.int bits)]/\M=o::L/\BagO o/\8<=bits/\bits<=32/\∀(o':MO) (ws:List Int) (L2:List MO),BagO o'->ws.length=5->(∀w∈ws,1<=w/\w<=40)->Q (.p (.lst (ws.map T.int))) (o'::L++L2)
theorem Xd {f:Addr} {fd:FuncData} (F:Fun K "_law_widths" "_law_widths" Qk f fd) (N:Nms mg) (DDraw:Def P w K mg base "_law_draw" 1 ["bag", "many"] (spU X1)) (DKinds:Def P w K mg base "_law_kinds" 1 [] (spU jf)) (DNeeded:Def P w K mg base "_law_needed" 1 ["kind"] (spP xH)):FnOk P w K mg base CX0 2 f fd ["bag", "bits"] (spU QP):=by
 refine F.zU scWidths (fun us M Qu h=>?_) (fun cdv A outer s H E hr=>?_)
 ·obtain⟨_,_,_,rfl,_⟩:=h
  rfl
 refine⟨_,(qd (qR (i:=2) scWidths.nd rfl (Or.inl rfl) (qV (qa_c (qV (qa_c qc (qa_c qc (qa_c qc (qa_c qc (qa_c qc qe)))))) (qa_c (qV (qa_c qc (qa_c qc (qa_c qc (qa_c qc (qa_c qc qe)))))) (qa_c (qV (qa_c qc (qa_c qc (qa_c qc (qa_c qc (qa_c qc qe)))))) (qa_c (qV (qa_c qc (qa_c qc (qa_c qc (qa_c qc (qa_c qc qe)))))) (qa_c (qV (qa_c qc (qa_c qc (qa_c qc (qa_c qc (qa_c qc qe)))))) qe)))))))
  (qd (qR (i:=2) scWidths.nd rfl (Or.inl rfl) (qB Vm (qv 2) (qV (qa_c (qV (qa_c qc (qa_c qc (qa_c qc (qa_c qc (qa_c qc qe)))))) (qa_c (qB op_rep (qV (qa_c qc qe)) qc) qe)))))
  (qd (qR (i:=3) scWidths.nd rfl (Or.inl rfl) (qI DDraw (hr.mono (by first|decide|exact Nat.le_refl _)) (qa_c (qv 0) (qa_c qc qe))))
  (qd (qR (i:=4) scWidths.nd rfl (Or.inl rfl) (xw zY (by rfl) N.list Jr (qa_c (qL (qk (K:=K) rfl) (qv 2) (qI DDraw (hr.mono (by first|decide|exact Nat.le_refl _)) (qa_c (qv 0) (qa_c qc qe))) (fun _ _=>rfl)) qe)))
  (qd (vF (qm Qz (qv 3) qc (qx _))
   (qh (ZV (i:=4) [true,false,false,false,false,false,false] [] scWidths.nd rfl rfl (vV rfl N.range (qa_c qc qe)) (fun _ _ _=>(qU (i:=6) scWidths.nd rfl (Or.inl rfl))) (fun _ _ _=>vz) (fun _ _ _=>(qB vB qc (qI DDraw (hr.mono (by first|decide|exact Nat.le_refl _)) (qa_c (qv 0) (qa_c qc qe)))))))
   qN)
  (qd (vF (qm Qz (qv 3) qc (qx _))
   (qh (ZV (i:=4) [true,false,false,false,false,false,false] [] scWidths.nd rfl rfl (vV rfl N.range (qa_c qc qe)) (fun _ _ _=>(qU (i:=6) scWidths.nd rfl (Or.inl rfl))) (fun _ _ _=>vz) (fun _ _ _=>(qB vB qc (qI DDraw (hr.mono (by first|decide|exact Nat.le_refl _)) (qa_c (qv 0) (qa_c qc qe)))))))
   qN)
  (qd (vF (qm Qz (qv 3) qc (qx _))
   (qh (ZV (i:=4) [true,true,false,false,false,false,false] ["kind"] scWidths.nd rfl rfl (qC (K:=K) rfl (jA DKinds (hr.mono (by first|decide|exact Nat.le_refl _)))) (fun _ _ _=>(qU (i:=7) Xp rfl (Or.inl rfl))) (fun _ _ _=>vz) (fun _ _ _=>(qB zT (qB vB (qB zT (qv 1) (qI DNeeded (hr.mono (by first|decide|exact Nat.le_refl _)) (qa_c (qv 7) qe))) (qI DDraw (hr.mono (by first|decide|exact Nat.le_refl _)) (qa_c (qv 0) (qa_c qc qe)))) qc))))
   qN)
  (qd (qR (i:=5) scWidths.nd rfl (Or.inl rfl) (qI DDraw (hr.mono (by first|decide|exact Nat.le_refl _)) (qa_c (qv 0) (qa_c qc qe))))
  (qd (qR (i:=4) scWidths.nd rfl (Or.inl rfl) (qB Vm (zb (xi (K:=K) rfl) (qv 4) (zG (qv 5)) zH) (zb (xi (K:=K) rfl) (qv 4) zH (zG (qv 5)))))
  (qd (vF (qm op_gt (qv 3) qc (qx _))
   (qd (qR (i:=6) scWidths.nd rfl (Or.inl rfl) (qI DDraw (hr.mono (by first|decide|exact Nat.le_refl _)) (qa_c (qv 0) (qa_c qc qe))))
   (qh (zu (qB vB (qL (qk (K:=K) rfl) (qv 4) (qv 6) (fun _ _=>rfl)) (qL (qk (K:=K) rfl) (qV (qa_c qc (qa_c qc (qa_c qc (qa_c (qe_un un_neg qc) (qa_c qc qe)))))) (qI DDraw (hr.mono (by first|decide|exact Nat.le_refl _)) (qa_c (qv 0) (qa_c qc qe))) (fun _ _=>rfl))) (xX (qv 4) (qv 6) za))))
   qN)
  (qh (qw (zI [false,false,false,false,false,false,false] ["width"] (qC (K:=K) rfl (qv 4)) (fun _ _ _=>(qU (i:=7) Xo rfl (Or.inl rfl))) (fun _ _ _=>vz) (fun _ _ _=>(qQ (Jm rfl) (by rfl) N.min b_min (qa_c qc (qa_c (qQ (Jn rfl) (by rfl) N.max b_max (qa_c qc (qa_c (qv 7) qe))) qe))))))))))))))))),_,(qj (qG (vf (qa (vf (qa (ce_c (.int _)) (qa (ce_c (.int _)) (qa (ce_c (.int _)) (qa (ce_c (.int _)) (qa (ce_c (.int _)) qf)))))) (qa (vf (qa (ce_c (.int _)) (qa (ce_c (.int _)) (qa (ce_c (.int _)) (qa (ce_c (.int _)) (qa (ce_c (.int _)) qf)))))) (qa (vf (qa (ce_c (.int _)) (qa (ce_c (.int _)) (qa (ce_c (.int _)) (qa (ce_c (.int _)) (qa (ce_c (.int _)) qf)))))) (qa (vf (qa (ce_c (.int _)) (qa (ce_c (.int _)) (qa (ce_c (.int _)) (qa (ce_c (.int _)) (qa (ce_c (.int _)) qf)))))) (qa (vf (qa (ce_c (.int _)) (qa (ce_c (.int _)) (qa (ce_c (.int _)) (qa (ce_c (.int _)) (qa (ce_c (.int _)) qf)))))) qf)))))) (qo 2))
   (qj (qG (qr Qw (qb 2) (vf (qa (vf (qa (ce_c (.int _)) (qa (ce_c (.int _)) (qa (ce_c (.int _)) (qa (ce_c (.int _)) (qa (ce_c (.int _)) qf)))))) (qa (qr opl_rep (vf (qa (ce_c (.int _)) qf)) (ce_c (.int _))) qf)))) (qo 2))
   (qj (qG (qD (qa (qb 0) (qa (ce_c (.int _)) qf))) (qo 3))
   (qj (qG (ce_listN (qa (vH (qb 2) (qD (qa (qb 0) (qa (ce_c (.int _)) qf)))) qf)) (qo 4))
   (qj (vJ (qp (qr kw (qb 3) (ce_c (.int _))))
   (qG (jS (xR (qa (ce_c (.int _)) qf)) (qZ 6) v3 (qr (qA fun _ _=>.int _) (ce_c (.int _)) (qD (qa (qb 0) (qa (ce_c (.int _)) qf))))) (qo 4))
   qT)
   (qj (vJ (qp (qr kw (qb 3) (ce_c (.int _))))
   (qG (jS (xR (qa (ce_c (.int _)) qf)) (qZ 6) v3 (qr (qA fun _ _=>.int _) (ce_c (.int _)) (qD (qa (qb 0) (qa (ce_c (.int _)) qf))))) (qo 4))
   qT)
   (qj (vJ (qp (qr kw (qb 3) (ce_c (.int _))))
   (qG (jS (qW (qD qf)) (qZ 7) v3 (qr (qA fun _ _=>.int _) (qr (qA fun _ _=>.int _) (qr (qA fun _ _=>.int _) (qb 1) (vc (qa (qb 7) qf))) (qD (qa (qb 0) (qa (ce_c (.int _)) qf)))) (ce_c (.int _)))) (qo 4))
   qT)
   (qj (qG (qD (qa (qb 0) (qa (ce_c (.int _)) qf))) (qo 5))
   (qj (qG (ce_catN (ce_sl (qb 4) (jQ (qb 5)) jR) (ce_sl (qb 4) jR (jQ (qb 5)))) (qo 4))
   (qj (vJ (qp (qr (qA fun _ _=>.bl _) (qb 3) (ce_c (.int _))))
   (qj (qG (qD (qa (qb 0) (qa (ce_c (.int _)) qf))) (qo 6))
   (qG (qr (qA fun _ _=>.int _) (vH (qb 4) (qb 6)) (vH (vf (qa (ce_c (.int _)) (qa (ce_c (.int _)) (qa (ce_c (.int _)) (qa (ce_neg (ce_c (.int _))) (qa (ce_c (.int _)) qf)))))) (qD (qa (qb 0) (qa (ce_c (.int _)) qf))))) (cg_sub (qb 4) (qb 6))))
   qT)
   (qF (vg (qW (qb 4)) (qZ 7) v3 (Q0 cbl_min (qa (ce_c (.int _)) (qa (Q0 cbl_max (qa (ce_c (.int _)) (qa (qb 7) qf))) qf))))))))))))))),fun us M Qu h=>?_⟩
 obtain⟨o,bits,L,rfl,rfl,B,hb8,hb32,q⟩:=h
 walk_at "v"
 refine⟨_,_,rfl,rfl,by decide,by decide,by rw[sizeLine_eq]; decide, ?_⟩
 refine⟨by rw[sizeLine_eq]; decide, ?_⟩
 walk_at "v"
 refine vZ (many:=5) B (by decide) (by decide) fun way o1 w0 w1 B1=>?_
 walk_at "v"
 simp only[Zn]
 walk_at "v"
 have FIN:∀(o:MO) (L3:List MO) (j:Nat) (ns:List Int),BagO o->ns.length=5->(o::(L++L3))[j]?=some (.lst ((ns.map T.int).map U.p))->IterS (o::(L++L3)) (.m j) fun it M1=>UComp it (VJ 7) (fun _ M Q=>Q true M) (uCb sMin (Qf (uC (T.int 40)) (Qf (uCb sMax (Qf (uC (T.int 1)) (Qf (uVar 7) uNil))) uNil))) [none,none,none,none,none,none,none,none] M1 Qu:=fun o L3 j ns Bo h5 hj=>by
  refine jG hj ?_
  refine xo (ts:=ns.map T.int) (by rw[List.length_map,h5,sizeLine_eq]; decide) (fun i acc M2=>M2=o::(L++L3)/\acc=((ns.take i).map lim40).map T.int) ⟨rfl,rfl⟩ (fun i acc M2 h=>by rw[h.1]; exact hj) ?_ ?_
  ·rintro i x acc M2 hx _ ⟨rfl,rfl⟩
   obtain⟨v,hv,rfl⟩:=qP hx
   walk_at "v"
   rw[qi hv,List.map_append,List.map_append]
   rfl
  ·rintro acc M2 ⟨rfl,rfl⟩
   rw[List.length_map,List.take_length]
   exact q o (ns.map lim40) L3 Bo (by rw[List.length_map]; exact h5) fun w hw=>by
    obtain⟨v,_,rfl⟩:=List.mem_map.mp hw
    unfold lim40
    split<;>split<;>omega
 refine vZ (many:=7) B1 (by decide) (by decide) fun d1 o2 d0 d1' B2=>?_
 obtain⟨ns,hns,hn5⟩:∃ns:List Int,atI [T.lst [T.int 1,T.int 2,T.int 3,T.int 4,T.int 4],T.lst [T.int 2,T.int 2,T.int 2,T.int 3,T.int 3],T.lst [T.int 1,T.int 3,T.int 3,T.int 3,T.int 3],T.lst [T.int 1,T.int 2,T.int 3,T.int 4,T.int 3],T.lst [T.int 2,T.int 2,T.int 2,T.int 3,T.int 2],T.lst [T.int 1,T.int 1,T.int 9,T.int 9,T.int 9],T.lst (List.replicate (Int.toNat 5) [T.int 3]).flatten] d1=some (.lst (ns.map T.int))/\ns.length=5:=by
  rcases(show d1=0\/d1=1\/d1=2\/d1=3\/d1=4\/d1=5\/d1=6 by omega) with rfl|rfl|rfl|rfl|rfl|rfl|rfl
  ·exact⟨[1,2,3,4,4],rfl,rfl⟩
  ·exact⟨[2,2,2,3,3],rfl,rfl⟩
  ·exact⟨[1,3,3,3,3],rfl,rfl⟩
  ·exact⟨[1,2,3,4,3],rfl,rfl⟩
  ·exact⟨[2,2,2,3,2],rfl,rfl⟩
  ·exact⟨[1,1,9,9,9],rfl,rfl⟩
  ·exact⟨[3,3,3,3,3],rfl,rfl⟩
 refine vO hns ?_
 refine⟨_,_,rfl, .inl rfl, ?_⟩
 rcases(show way=0\/way=1\/way=2\/way=3\/way=4 by omega) with rfl|rfl|rfl|rfl|rfl
 ·walk_at "v"
  simp only[j3]
  walk_at "v"
  refine⟨5,rfl,by decide,by decide, ?_⟩
  refine⟨by show 5<=sizeLine; rw[sizeLine_eq]; decide,fun i acc M2=>∃(o:MO) (ms:List Int),BagO o/\ms.length=i/\acc=ms.map T.int/\M2=o::(L++[MO.lst ((ns.map T.int).map U.p)]),⟨o2, [],B2,rfl,rfl,rfl⟩, ?_, ?_⟩
  ·rintro i acc M2 hi _ ⟨o',ms,Bo,hl,rfl,rfl⟩
   refine⟨trivial,fun u hu=>?_⟩
   subst hu
   walk_at "v"
   refine vZ (many:=5) Bo (by decide) (by decide) fun dd o6 f0 f1 B6=>?_
   walk_at "v"
   exact⟨o6,ms++[1+dd],B6,by rw[List.length_append,hl]; rfl,by rw[List.map_append]; rfl,rfl⟩
  rintro acc M2 ⟨o9,nz,B9,hl5,rfl,rfl⟩
  refine⟨trivial, ?_⟩
  have hl5:nz.length=5:=hl5
  walk_at "v"
  repeat (rw[if_neg (by decide)]; walk_at "v")
  refine vZ (many:=5) B9 (by decide) (by decide) fun turn o3 t0 t1 B3=>?_
  walk_at "v"
  simp only[VL]
  have hj:∀o:MO,(o::(L++[MO.lst ((ns.map T.int).map U.p)]++[MO.lst ((nz.map T.int).map U.p)]))[(L++[MO.lst ((ns.map T.int).map U.p)]).length+1]?=some (.lst ((nz.map T.int).map U.p)):=fun o=>by simp
  obtain⟨ns2,e2,h25⟩:=rot5 hl5 t0 t1
  have c1:=vk (nz.map T.int) (some turn) none
  have c2:=vk (nz.map T.int) none (some turn)
  rw[List.length_map] at c1 c2
  walk_at "v"
  refine zj (hj _) ?_
  walk_at "v"
  refine zj (hj _) ?_
  refine⟨_,_,rfl,rfl,by rw[List.length_map,List.length_map,sizeLine_eq]; omega, ?_⟩
  rw[<-List.map_append,e2]
  walk_at "v"
  rw[if_neg (by decide)]
  have fin:=FIN o3 ([MO.lst ((ns.map T.int).map U.p)]++[MO.lst ((nz.map T.int).map U.p)]++[MO.lst ((ns2.map T.int).map U.p)]) ((L++[MO.lst ((ns.map T.int).map U.p)]++[MO.lst ((nz.map T.int).map U.p)]).length+1) ns2 B3 h25 (by simp)
  rw[<-List.append_assoc, <-List.append_assoc] at fin
  exact fin
 ·walk_at "v"
  repeat (rw[if_neg (by decide)]; walk_at "v")
  simp only[j3]
  walk_at "v"
  refine⟨5,rfl,by decide,by decide, ?_⟩
  refine⟨by show 5<=sizeLine; rw[sizeLine_eq]; decide,fun i acc M2=>∃(o:MO) (ms:List Int),BagO o/\ms.length=i/\acc=ms.map T.int/\M2=o::(L++[MO.lst ((ns.map T.int).map U.p)]),⟨o2, [],B2,rfl,rfl,rfl⟩, ?_, ?_⟩
  ·rintro i acc M2 hi _ ⟨o',ms,Bo,hl,rfl,rfl⟩
   refine⟨trivial,fun u hu=>?_⟩
   subst hu
   walk_at "v"
   refine vZ (many:=40) Bo (by decide) (by decide) fun dd o6 f0 f1 B6=>?_
   walk_at "v"
   exact⟨o6,ms++[1+dd],B6,by rw[List.length_append,hl]; rfl,by rw[List.map_append]; rfl,rfl⟩
  rintro acc M2 ⟨o9,nz,B9,hl5,rfl,rfl⟩
  refine⟨trivial, ?_⟩
  have hl5:nz.length=5:=hl5
  walk_at "v"
  repeat (rw[if_neg (by decide)]; walk_at "v")
  refine vZ (many:=5) B9 (by decide) (by decide) fun turn o3 t0 t1 B3=>?_
  walk_at "v"
  simp only[VL]
  have hj:∀o:MO,(o::(L++[MO.lst ((ns.map T.int).map U.p)]++[MO.lst ((nz.map T.int).map U.p)]))[(L++[MO.lst ((ns.map T.int).map U.p)]).length+1]?=some (.lst ((nz.map T.int).map U.p)):=fun o=>by simp
  obtain⟨ns2,e2,h25⟩:=rot5 hl5 t0 t1
  have c1:=vk (nz.map T.int) (some turn) none
  have c2:=vk (nz.map T.int) none (some turn)
  rw[List.length_map] at c1 c2
  walk_at "v"
  refine zj (hj _) ?_
  walk_at "v"
  refine zj (hj _) ?_
  refine⟨_,_,rfl,rfl,by rw[List.length_map,List.length_map,sizeLine_eq]; omega, ?_⟩
  rw[<-List.map_append,e2]
  walk_at "v"
  rw[if_neg (by decide)]
  have fin:=FIN o3 ([MO.lst ((ns.map T.int).map U.p)]++[MO.lst ((nz.map T.int).map U.p)]++[MO.lst ((ns2.map T.int).map U.p)]) ((L++[MO.lst ((ns.map T.int).map U.p)]++[MO.lst ((nz.map T.int).map U.p)]).length+1) ns2 B3 h25 (by simp)
  rw[<-List.append_assoc, <-List.append_assoc] at fin
  exact fin
 ·walk_at "v"
  repeat (rw[if_neg (by decide)]; walk_at "v")
  simp only[j3]
  walk_at "v"
  refine⟨rfl, ?_⟩
  refine jG (us:=(fiveK.map T.str).map U.p) (by simp) ?_
  refine⟨by show 5<=sizeLine; rw[sizeLine_eq]; decide,fun i acc M2=>∃(o:MO) (ms:List Int),BagO o/\ms.length=i/\acc=ms.map T.int/\M2=o::(L++[MO.lst ((ns.map T.int).map U.p)]++[MO.lst ((fiveK.map T.str).map U.p)]),⟨o2, [],B2,rfl,rfl,rfl⟩, ?_, ?_⟩
  ·rintro i acc M2 hi _ ⟨o',ms,Bo,hl,rfl,rfl⟩
   refine⟨by show ql _ _=_; simp[ql],fun u hu=>?_⟩
   obtain⟨kd,hkd,rfl⟩:∃kd:Str,kd∈fiveK/\u=.p (.str kd):=by
    have hu:((fiveK.map T.str).map U.p)[i]?=some u:=hu
    obtain⟨t,ht,rfl⟩:=qP hu
    obtain⟨kd,hk,rfl⟩:=qP ht
    exact⟨kd,List.mem_of_getElem? hk,rfl⟩
   walk_at "v"
   refine⟨kd,rfl,hkd, ?_⟩
   walk_at "v"
   refine vZ (many:=3) Bo (by decide) (by decide) fun dd o6 f0 f1 B6=>?_
   walk_at "v"
   exact⟨o6,ms++[bits-need kd+dd-1],B6,by rw[List.length_append,hl]; rfl,by rw[List.map_append]; rfl,rfl⟩
  rintro acc M2 ⟨o9,nz,B9,hl5,rfl,rfl⟩
  refine⟨by show ql _ _=_; simp[ql], ?_⟩
  have hl5:nz.length=5:=hl5
  walk_at "v"
  refine vZ (many:=5) B9 (by decide) (by decide) fun turn o3 t0 t1 B3=>?_
  walk_at "v"
  simp only[VL]
  have hj:∀o:MO,(o::(L++[MO.lst ((ns.map T.int).map U.p)]++[MO.lst ((fiveK.map T.str).map U.p)]++[MO.lst ((nz.map T.int).map U.p)]))[(L++[MO.lst ((ns.map T.int).map U.p)]++[MO.lst ((fiveK.map T.str).map U.p)]).length+1]?=some (.lst ((nz.map T.int).map U.p)):=fun o=>by simp
  obtain⟨ns2,e2,h25⟩:=rot5 hl5 t0 t1
  have c1:=vk (nz.map T.int) (some turn) none
  have c2:=vk (nz.map T.int) none (some turn)
  rw[List.length_map] at c1 c2
  walk_at "v"
  refine zj (hj _) ?_
  walk_at "v"
  refine zj (hj _) ?_
  refine⟨_,_,rfl,rfl,by rw[List.length_map,List.length_map,sizeLine_eq]; omega, ?_⟩
  rw[<-List.map_append,e2]
  walk_at "v"
  rw[if_neg (by decide)]
  have fin:=FIN o3 ([MO.lst ((ns.map T.int).map U.p)]++[MO.lst ((fiveK.map T.str).map U.p)]++[MO.lst ((nz.map T.int).map U.p)]++[MO.lst ((ns2.map T.int).map U.p)]) ((L++[MO.lst ((ns.map T.int).map U.p)]++[MO.lst ((fiveK.map T.str).map U.p)]++[MO.lst ((nz.map T.int).map U.p)]).length+1) ns2 B3 h25 (by simp)
  rw[<-List.append_assoc, <-List.append_assoc, <-List.append_assoc] at fin
  exact fin
 ·walk_at "v"
  repeat (rw[if_neg (by decide)]; walk_at "v")
  refine vZ (many:=5) B2 (by decide) (by decide) fun turn o3 t0 t1 B3=>?_
  walk_at "v"
  simp only[VL]
  have hj:∀o:MO,(o::(L++[MO.lst ((ns.map T.int).map U.p)]))[L.length+1]?=some (.lst ((ns.map T.int).map U.p)):=fun o=>by simp
  obtain⟨ns2,e2,h25⟩:=rot5 hn5 t0 t1
  have c1:=vk (ns.map T.int) (some turn) none
  have c2:=vk (ns.map T.int) none (some turn)
  rw[List.length_map] at c1 c2
  walk_at "v"
  refine zj (hj _) ?_
  walk_at "v"
  refine zj (hj _) ?_
  refine⟨_,_,rfl,rfl,by rw[List.length_map,List.length_map,sizeLine_eq]; omega, ?_⟩
  rw[<-List.map_append,e2]
  walk_at "v"
  rw[if_pos (by decide)]
  walk_at "v"
  refine vZ (many:=5) B3 (by decide) (by decide) fun kx o4 k0 k1 B4=>?_
  obtain⟨k,rfl⟩:∃k:Nat,kx=(k:Int):=⟨kx.toNat,by omega⟩
  walk_at "v"
  have hj2:∀o:MO,(o::(L++[MO.lst ((ns.map T.int).map U.p)]++[MO.lst ((ns2.map T.int).map U.p)]))[(L++[MO.lst ((ns.map T.int).map U.p)]).length+1]?=some (.lst ((ns2.map T.int).map U.p)):=fun o=>by simp
  have ka:ns2[k]?=some (ns2[k]'(by omega)):=List.getElem?_eq_getElem _
  generalize ns2[k]'(by omega)=a at ka
  refine XN (us:=(ns2.map T.int).map U.p) (by simp[ql]) (jT (v7 (v:=T.int a) (by rw[List.getElem?_map,ka]; rfl))) ?_
  refine vZ (many:=5) B4 (by decide) (by decide) fun d6 o5 e0 e1 B5=>?_
  obtain⟨dv,hdv⟩:∃dv:Int,atI [T.int 0,T.int 0,T.int 1,T.int (-1),T.int 5] d6=some (.int dv):=by
   rcases(show d6=0\/d6=1\/d6=2\/d6=3\/d6=4 by omega) with rfl|rfl|rfl|rfl|rfl
   ·exact⟨0,rfl⟩
   ·exact⟨0,rfl⟩
   ·exact⟨1,rfl⟩
   ·exact⟨-1,rfl⟩
   ·exact⟨5,rfl⟩
  refine vO hdv ?_
  walk_at "v"
  refine⟨_,_,_,k,rfl,hj2 _,rfl,XQ (by rw[List.length_map,List.length_map]; omega), ?_⟩
  rw[show(((ns2.map T.int).map U.p).set k (U.p (T.int (a+dv))))=((ns2.set k (a+dv)).map T.int).map U.p by rw[List.map_set,List.map_set]]
  have eM:∀Y:MO,(o5::(L++[MO.lst ((ns.map T.int).map U.p)]++[MO.lst ((ns2.map T.int).map U.p)])).set ((L++[MO.lst ((ns.map T.int).map U.p)]).length+1) Y=o5::(L++[MO.lst ((ns.map T.int).map U.p),Y]):=fun Y=>by simp
  rw[eM]
  exact FIN o5 _ _ (ns2.set k (a+dv)) B5 (by rw[List.length_set]; exact h25) (by simp)
 ·walk_at "v"
  repeat (rw[if_neg (by decide)]; walk_at "v")
  refine vZ (many:=5) B2 (by decide) (by decide) fun turn o3 t0 t1 B3=>?_
  walk_at "v"
  simp only[VL]
  have hj:∀o:MO,(o::(L++[MO.lst ((ns.map T.int).map U.p)]))[L.length+1]?=some (.lst ((ns.map T.int).map U.p)):=fun o=>by simp
  obtain⟨ns2,e2,h25⟩:=rot5 hn5 t0 t1
  have c1:=vk (ns.map T.int) (some turn) none
  have c2:=vk (ns.map T.int) none (some turn)
  rw[List.length_map] at c1 c2
  walk_at "v"
  refine zj (hj _) ?_
  walk_at "v"
  refine zj (hj _) ?_
  refine⟨_,_,rfl,rfl,by rw[List.length_map,List.length_map,sizeLine_eq]; omega, ?_⟩
  rw[<-List.map_append,e2]
  walk_at "v"
  rw[if_pos (by decide)]
  walk_at "v"
  refine vZ (many:=5) B3 (by decide) (by decide) fun kx o4 k0 k1 B4=>?_
  obtain⟨k,rfl⟩:∃k:Nat,kx=(k:Int):=⟨kx.toNat,by omega⟩
  walk_at "v"
  have hj2:∀o:MO,(o::(L++[MO.lst ((ns.map T.int).map U.p)]++[MO.lst ((ns2.map T.int).map U.p)]))[(L++[MO.lst ((ns.map T.int).map U.p)]).length+1]?=some (.lst ((ns2.map T.int).map U.p)):=fun o=>by simp
  have ka:ns2[k]?=some (ns2[k]'(by omega)):=List.getElem?_eq_getElem _
  generalize ns2[k]'(by omega)=a at ka
  refine XN (us:=(ns2.map T.int).map U.p) (by simp[ql]) (jT (v7 (v:=T.int a) (by rw[List.getElem?_map,ka]; rfl))) ?_
  refine vZ (many:=5) B4 (by decide) (by decide) fun d6 o5 e0 e1 B5=>?_
  obtain⟨dv,hdv⟩:∃dv:Int,atI [T.int 0,T.int 0,T.int 1,T.int (-1),T.int 5] d6=some (.int dv):=by
   rcases(show d6=0\/d6=1\/d6=2\/d6=3\/d6=4 by omega) with rfl|rfl|rfl|rfl|rfl
   ·exact⟨0,rfl⟩
   ·exact⟨0,rfl⟩
   ·exact⟨1,rfl⟩
   ·exact⟨-1,rfl⟩
   ·exact⟨5,rfl⟩
  refine vO hdv ?_
  walk_at "v"
  refine⟨_,_,_,k,rfl,hj2 _,rfl,XQ (by rw[List.length_map,List.length_map]; omega), ?_⟩
  rw[show(((ns2.map T.int).map U.p).set k (U.p (T.int (a+dv))))=((ns2.set k (a+dv)).map T.int).map U.p by rw[List.map_set,List.map_set]]
  have eM:∀Y:MO,(o5::(L++[MO.lst ((ns.map T.int).map U.p)]++[MO.lst ((ns2.map T.int).map U.p)])).set ((L++[MO.lst ((ns.map T.int).map U.p)]).length+1) Y=o5::(L++[MO.lst ((ns.map T.int).map U.p),Y]):=fun Y=>by simp
  rw[eM]
  exact FIN o5 _ _ (ns2.set k (a+dv)) B5 (by rw[List.length_set]; exact h25) (by simp)
def X0 (tb:Addr):List U->MM->UK->Prop:=fun us M Q=>∃(bits:Int) (ws:List Int) (k:Nat),us=[.p (.int bits), .p (.lst (ws.map T.int))]/\ws.length=5/\M[k]?=some (.tab tb kN lamQ)/\(goB bits ws=false->Q (.p .non) M)/\(goB bits ws=true->∀ms,MadeM ws ms->Q (.m (M.length+1)) (M++[.lst ((ms.map vo).map U.p)]++[.tup [.p (.int bits), .m M.length]]))
theorem ok_madeM {kindsA c tb:Addr} {f:Addr} {fd:FuncData} (F:Fun K "made" "made" sMade f fd) (N:Nms mg) (TKinds:Tup5 K mg "KINDS" kindsA "small" "far" "pair" "sign" "one") (hcode:fd.code=.ref c) (hC:PySem.W.CodeHd base c tb) (hB:base.BuiltinsAt mg tb) (DKindsOn:Def P w K mg base "kinds_on" 1 ["marks", "word"] (spP jK)) (DWidthsGo:Def P w K mg base "widths_go" 2 ["bits", "widths"] (spP xG)):FnOk P w K mg base CX0 3 f fd ["bits", "widths"] (spU (X0 tb)):=by
 refine F.zUC scMade (fun us M Qu h=>?_) (fun cdv A outer s H E hcv hr=>?_)
 ·obtain⟨_,_,_,rfl,_⟩:=h
  rfl
 have hcv:cdv=.ref c:=hcv.symm.trans hcode
 have LAM:LamC (cxOf CX0 P w K mg base ["bits", "widths", "marks", "kind", "width", "pattern"] "made" (qg sMade) f cdv A outer s H E).nox c tb:=⟨hcv,hC,hB⟩
 refine⟨_,(qd (vF (vU (vT (qI DWidthsGo (hr.mono (by first|decide|exact Nat.le_refl _)) (qa_c (qv 0) (qa_c (qv 1) qe)))))
   (qh (qw xu))
   qN)
  (qd (qR (i:=2) scMade.nd rfl (Or.inl rfl) (qV qe))
  (qd (zS PassesOwn.never rfl (qC (K:=K) rfl (VR (K:=K) rfl rfl LAM (hr.mono (by decide)) N.sorted N.zip (qa_c (ZW (v:=.ref kindsA) rfl TKinds.mg rfl) (qa_c (qv 1) qe)))) (xt (K:=K) (i:=3) (j:=4) rfl scMade.nd rfl rfl rfl (Or.inl rfl) (Or.inl rfl) (Or.inl rfl) (Or.inl rfl))
   (qd (qR (i:=5) scMade.nd rfl (Or.inl rfl) qc)
   (qd (Vh PassesOwn.never (ZU (K:=K) rfl (qI DKindsOn (hr.mono (by first|decide|exact Nat.le_refl _)) (qa_c (qv 2) (qa_c (qv 5) qe))) (fun _=>rfl))
    (qh (qs_aug (i:=5) scMade.nd rfl (Or.inl rfl) qc ip_add)))
   (qh (xr (qe_lm PySem.F.slot_list_append PySem.F.type_list_append zy (qv 2) (qa_c (vW (qa_c (qv 3) (qa_c (qv 4) (qa_c (qv 5) qe)))) qe)))))))
  (qh (qw (vW (qa_c (qv 0) (qa_c (qv 2) qe)))))))),_,(qj (vJ (v5 (ct_b (vc (qa (qb 0) (qa (qb 1) qf)))))
   (qF (ce_c .non))
   qT)
   (qj (qG (VC qf) (qo 2))
   (qj (xN (qW (Zc (ns:=fiveK) TKinds.kt (qb 1))) (zi 3 4)
   (qj (qG (ce_c (.int _)) (qo 5))
   (qj (Vw (ct_truC (qa (qb 2) (qa (qb 5) qf)))
   (cs_aug (ce_c (.int _))))
   (xO (ce_me zM (qb 2) (qa (zm (qa (qb 3) (qa (qb 4) (qa (qb 5) qf)))) qf))))))
   (qF (ce_newT (qa (qb 0) (qa (qb 2) qf))))))),fun us M1 Qu h=>?_⟩
 obtain⟨bits,ws,k,rfl,h5,hk,qn,qy⟩:=h
 walk_at "v"
 refine⟨bits,ws,rfl,h5,_,rfl, ?_⟩
 cases hg:goB bits ws with
 |false =>
  refine ity rfl ?_
  exact qn hg
 |true =>
 have qy:=qy hg
 refine itn rfl ?_
 have hgg:=hg
 simp only[goB,Bool.and_eq_true,decide_eq_true_eq,List.all_eq_true] at hgg
 obtain⟨⟨hb,hall⟩,hsum⟩:=hgg
 have hw:∀p∈fiveK.zip ws,1<=p.2/\p.2<=bits-1:=fun p hp=>by
  have:=hall p hp
  simp only[okW,Bool.and_eq_true,decide_eq_true_eq] at this
  exact this.1
 refine useq ?_
 walk_at "v"
 simp only[jn]
 walk_at "v"
 refine⟨k,ws,rfl,by rw[h5]; rfl,by rw[h5]; decide,by rw[h5]; decide, ?_,fun out op pw=>?_⟩
 ·rw[List.getElem?_append_left (List.getElem?_eq_some_iff.mp hk).1]
  exact hk
 have hol:out.length=5:=by rw[op.length_eq,List.length_zip,h5]; rfl
 refine⟨_,rfl, ?_⟩
 refine xn (fun i ρ M=>∃(ms:List Mk3) (x y z:Option U),ρ=[some (.p (.int bits)),some (.p (.lst (ws.map T.int))),some (.m M1.length),x,y,z]/\M=M1++[.lst ((ms.map vo).map U.p)]/\(ms.map fun m=>(m.1,m.2.1))=out.take i/\LeastP ms) ⟨[],none,none,none,rfl,rfl,rfl,fun i m e=>by simp at e⟩ ?_ ?_
 ·rintro i x ρ M hx ⟨ms,x1,x2,x3,rfl,rfl,hms,hlp⟩
  obtain⟨⟨n,v⟩,hm,rfl⟩:=qP hx
  obtain⟨xx,x0,x32,hun⟩:=XD hb hw op h5 hsum hm hms
  have hmw:Wd ms:=fun m hmm=>by
   have:(m.1,m.2.1)∈out.take i:=hms▸List.mem_map_of_mem (f:=fun m:Mk3=>(m.1,m.2.1)) hmm
   have:=hw _ (op.subset (List.mem_of_mem_take this))
   show 0<=m.2.1/\m.2.1<=1000
   have h1:1<=m.2.1/\m.2.1<=bits-1:=this
   omega
  have hml:ms.length<=5:=by
   have:=congrArg List.length hms
   rw[List.length_map,List.length_take] at this
   omega
  walk_at "v"
  have hlen:(M1++[MO.lst ((ms.map vo).map U.p)])[M1.length]?=some (.lst ((ms.map vo).map U.p)):=by simp
  refine⟨fun m ρ M=>∃p:Int,m=(xx-p).toNat/\0<=p/\p<=xx/\ρ=[some (.p (.int bits)),some (.p (.lst (ws.map T.int))),some (.m M1.length),some (.p (.str n)),some (.p (.int v)),some (.p (.int p))]/\M=M1++[.lst ((ms.map vo).map U.p)]/\∀p':Int,0<=p'->p'<p->∃m'∈ms,on p' m'=true,⟨_,0,rfl,by omega,x0,rfl,rfl,fun p' h1 h2=>by omega⟩, ?_⟩
  rintro m ρ M ⟨p,rfl,p0,px,rfl,rfl,hlow⟩
  simp only[uTruC]
  walk_at "v"
  refine⟨[.lst (ms.map vo), .int p], ?_, ?_⟩
  ·have e9:sn (M1++[MO.lst ((ms.map vo).map U.p)]) (.m M1.length)=some (.lst (ms.map vo)):=by
    simp only[sn,hlen,zd,Option.map_some]
   simp only[sns,e9]
   rfl
  refine⟨ms,p,rfl,hmw,by omega,_,rfl, ?_⟩
  rw[List.isEmpty_map,List.isEmpty_map]
  cases he:(ms.filter (on p)).isEmpty with
  |false =>
   refine ity rfl ?_
   obtain⟨m',hm'⟩:∃m',m'∈ms.filter (on p):=by
    cases hf:ms.filter (on p) with
    |nil=>rw[hf] at he; cases he
    |cons a l=>exact⟨a, .head _⟩
   obtain⟨hm1,hm2⟩:=List.mem_filter.mp hm'
   have hpx:p≠xx:=fun e=>by rw[e,hun m' hm1] at hm2; cases hm2
   refine⟨fun ρ M=>ρ=[some (.p (.int bits)),some (.p (.lst (ws.map T.int))),some (.m M1.length),some (.p (.str n)),some (.p (.int v)),some (.p (.int (p+1)))]/\M=M1++[.lst ((ms.map vo).map U.p)], ?_, ?_⟩
   ·rintro ρ' M' ⟨rfl,rfl⟩
    refine⟨(xx-(p+1)).toNat,by omega,p+1,rfl,by omega,by omega,rfl,rfl,fun p' h1 h2=>?_⟩
    by_cases h3:p'<p
    ·exact hlow p' h1 h3
    ·have:p'=p:=by omega
     rw[this]; exact⟨m',hm1,hm2⟩
   ·simp only[uAug]
    walk_at "v"
    exact⟨p,rfl,1,rfl,rfl⟩
  |true =>
   refine itn rfl ?_
   have hfree:∀m∈ms,on p m=false:=fun m hmm=>by
    cases ho:on p m with
    |false=>rfl
    |true =>
     have:m∈ms.filter (on p):=List.mem_filter.mpr ⟨hmm,ho⟩
     rw[List.isEmpty_iff.mp he] at this
     cases this
   walk_at "v"
   refine⟨_,rfl,⟨_,hlen⟩, ?_⟩
   walk_at "v"
   refine⟨_,hlen, ?_, ?_⟩
   ·rw[List.length_map,List.length_map,sizeLine_eq]; omega
   refine⟨ms++[(n,v,p)],_,_,_,rfl, ?_, ?_,fun j m e=>?_⟩
   ·simp[vo]
   ·rw[List.map_append,hms,qi hm]
    rfl
   ·by_cases hj:j<ms.length
    ·rw[List.getElem?_append_left hj] at e
     rw[List.take_append_of_le_length (by omega)]
     exact hlp j m e
    ·rw[List.getElem?_append_right (by omega)] at e
     have hj2:j-ms.length=0:=by
      have:=(List.getElem?_eq_some_iff.mp e).1
      simp at this; omega
     rw[hj2] at e
     cases e
     have:j=ms.length:=by omega
     rw[this,List.take_left' rfl]
     exact⟨p0,hfree,hlow⟩
 ·rintro ρ M ⟨ms,x1,x2,x3,rfl,rfl,hms,hlp⟩
  walk_at "v"
  have hm2:MadeM ws ms:=by
   have e:out.take (out.map fun p=>T.tup [.str p.1, .int p.2]).length=out:=by rw[List.length_map,List.take_length]
   rw[e] at hms
   refine⟨hms▸op, ?_,hlp⟩
   have:=hms▸pw
   exact(List.pairwise_map (f:=fun m:Mk3=>(m.1,m.2.1)) (R:=fun p q=>p.2<=q.2)).mp this
  have z:=qy ms hm2
  rw[show M1.length+1=(M1++[MO.lst ((ms.map vo).map U.p)]).length by simp] at z
  exact z
theorem X2 {M:MM} {k j:Nat} {bits:Int} {ms:List Mk3} {a b:T} (h1:M[k]?=some (.tup [.p (.int bits), .m j])) (h2:M[j]?=some (.lst ((ms.map vo).map U.p))):frzs (frzN 6 M) [.m k, .p a, .p b]=some [layT bits ms,a,b]:=by
 simp only[frzs,frzN,h1,h2]
 rw[jM (fun t=>rfl)]
 rfl
theorem gt1 {A B:List MO} {X Y o t:MO}:(o::t::(A++[X]++[Y]++B))[A.length+1+1+1]?=some Y:=by
 show(A++[X]++[Y]++B)[A.length+1]?=some Y
 rw[List.append_assoc (A++[X]),List.getElem?_append_right (by simp)]
 simp
theorem gt0 {A B:List MO} {X Y o t:MO}:(o::t::(A++[X]++[Y]++B))[A.length+1+1]?=some X:=by
 show(A++[X]++[Y]++B)[A.length]?=some X
 rw[List.append_assoc,List.append_assoc,List.getElem?_append_right (Nat.le_refl _)]
 simp
theorem gs1 {A:List MO} {X Y o t:MO}:(o::t::(A++[X]++[Y]))[A.length+1+1+1]?=some Y:=by
 have:=gt1 (A:=A) (B:=[]) (X:=X) (Y:=Y) (o:=o) (t:=t)
 rw[List.append_nil] at this
 exact this
theorem gs0 {A:List MO} {X Y o t:MO}:(o::t::(A++[X]++[Y]))[A.length+1+1]?=some X:=by
 have:=gt0 (A:=A) (B:=[]) (X:=X) (Y:=Y) (o:=o) (t:=t)
 rw[List.append_nil] at this
 exact this
abbrev sLaw:Stmt:=top 25
theorem scLaw:FnScope ["script", "bag", "turn", "bits", "widths", "handed", "found"] ["script"] (qg sLaw):=⟨rfl,rfl,rfl,by decide +kernel,rfl,by decide +kernel,by decide +kernel⟩
theorem ok_lawU {f tb:Addr} {fd:FuncData} (F:Fun K "law" "law" sLaw f fd) (N:Nms mg) (DBag:Def P w K mg base "_law_bag" 1 ["script"] (spBag K)) (DDraw:Def P w K mg base "_law_draw" 1 ["bag", "many"] (spU X1)) (DWidths:Def P w K mg base "_law_widths" 2 ["bag", "bits"] (spU QP)) (DMade:Def P w K mg base "made" 3 ["bits", "widths"] (spU (X0 tb))) (DPlaced:Def P w K mg base "_law_placed" 2 ["bits", "widths"] (spU QQ)) (DKept:Def P w K mg base "_law_kept" 4 ["laying", "bits", "widths"] (spP gKept)):FnOk P w K mg base CX0 5 f fd ["script"] (kf K tb):=by
 refine law_okT F scLaw (by decide) (fun cdv A outer s H E hr=>?_)
 refine⟨_,(qd (qR (i:=1) scLaw.nd rfl (Or.inl rfl) (qI DBag (hr.mono (by first|decide|exact Nat.le_refl _)) (qa_c (qv 0) qe)))
  (qd (zS PassesOwn.never rfl (vV rfl N.range (qa_c (qB vB qc (qI DDraw (hr.mono (by first|decide|exact Nat.le_refl _)) (qa_c (qv 1) (qa_c qc qe)))) qe)) (qU (i:=2) scLaw.nd rfl (Or.inl rfl))
   (qd (qR (i:=3) scLaw.nd rfl (Or.inl rfl) (qL (qk (K:=K) rfl) (qV (qa_c qc (qa_c qc (qa_c qc (qa_c (qB vB qc (qI DDraw (hr.mono (by first|decide|exact Nat.le_refl _)) (qa_c (qv 1) (qa_c qc qe)))) (qa_c qc qe)))))) (qI DDraw (hr.mono (by first|decide|exact Nat.le_refl _)) (qa_c (qv 1) (qa_c qc qe))) (fun _ _=>rfl)))
   (qd (qR (i:=4) scLaw.nd rfl (Or.inl rfl) (qI DWidths (hr.mono (by first|decide|exact Nat.le_refl _)) (qa_c (qv 1) (qa_c (qv 3) qe))))
   (qd (qR (i:=5) scLaw.nd rfl (Or.inl rfl) (xw zY (by rfl) N.list Jr (qa_c (qv 4) qe)))
   (qd (qR (i:=6) scLaw.nd rfl (Or.inl rfl) (qI DMade (hr.mono (by first|decide|exact Nat.le_refl _)) (qa_c (qv 3) (qa_c (qv 5) qe))))
   (qd (vF (qm (xB (K:=K) rfl hr.units) (qv 5) (qv 4) (qx _))
    (qh (qw zJ))
    qN)
   (qh (vF (qm op_isN (qI DPlaced (hr.mono (by first|decide|exact Nat.le_refl _)) (qa_c (qv 3) (qa_c (qv 4) qe))) xu (qx _))
    (qh (vF (qm Z9 (qv 6) xu (qx _))
     (qh (qw zJ))
     qN))
    (qd (vF (vU (vT (qI DKept (hr.mono (by first|decide|exact Nat.le_refl _)) (qa_c (qv 6) (qa_c (qv 3) (qa_c (qv 4) qe))))))
     (qh (qw zJ))
     qN)
    (qd (xr (qe_bm0 PySem.F.plainAttrs_list PySem.F.slot_list_clear PySem.F.type_list_clear mt_clear (qL (va (K:=K) rfl) (qv 6) qc (fun _ _=>rfl))))
    (qh (vF (vU (vT (qI DKept (hr.mono (by first|decide|exact Nat.le_refl _)) (qa_c (qI DMade (hr.mono (by first|decide|exact Nat.le_refl _)) (qa_c (qv 3) (qa_c (qv 5) qe))) (qa_c (qv 3) (qa_c (qv 4) qe))))))
     (qh (qw zJ))
     qN))))))))))))
  (qh (qw zJ)))),_,(qj (xN (xR (qa (qr (qA fun _ _=>.int _) (ce_c (.int _)) (qD (qa (qb 1) (qa (ce_c (.int _)) qf)))) qf)) (qo 2)
   (qj (qG (vH (vf (qa (ce_c (.int _)) (qa (ce_c (.int _)) (qa (ce_c (.int _)) (qa (qr (qA fun _ _=>.int _) (ce_c (.int _)) (qD (qa (qb 1) (qa (ce_c (.int _)) qf)))) (qa (ce_c (.int _)) qf)))))) (qD (qa (qb 1) (qa (ce_c (.int _)) qf)))) (qo 3))
   (qj (qG (qD (qa (qb 1) (qa (qb 3) qf))) (qo 4))
   (qj (qG (Q0 cbl_list (qa (qb 4) qf)) (qo 5))
   (qj (qG (qD (qa (qb 3) (qa (qb 5) qf))) (qo 6))
   (qj (vJ (qp (qr xA (qb 5) (qb 4)))
   (qF (ce_c (.bl _)))
   qT)
   (vJ (qp (ce_isN (qD (qa (qb 3) (qa (qb 4) qf)))))
   (vJ (qp (Jg (qb 6)))
   (qF (ce_c (.bl _)))
   qT)
   (qj (vJ (v5 (ct_b (VE (qa (qb 6) (qa (qb 3) (qa (qb 4) qf))))))
   (qF (ce_c (.bl _)))
   qT)
   (qj (xO (ce_me0 Xv (vC (qb 6) (ce_c (.int _)))))
   (vJ (v5 (ct_b (VE (qa (qD (qa (qb 3) (qa (qb 5) qf))) (qa (qb 3) (qa (qb 4) qf))))))
   (qF (ce_c (.bl _)))
   qT))))))))))
   (qF (ce_c (.bl _)))),fun o hB=>?_⟩
 show uSeq _ _ _ [none,some (.m 0),none,none,none,none,none] _
 walk_at "v"
 refine vZ hB (by decide) (by decide) fun d0 o0 d00 d01 B0=>?_
 walk_at "v"
 refine⟨1+d0,rfl,by omega,by omega, ?_⟩
 refine jm (fun i ρ M=>∃(o:MO) (L:List MO) (x2 x3 x4 x5 x6:Option U),BagO o/\ρ=[none,some (.m 0),x2,x3,x4,x5,x6]/\M=o :: .tab tb kN lamQ::L) ⟨o0, [],_,_,_,_,_,B0,rfl,rfl⟩ ?_ ?_
 ·rintro i ρ M hi ⟨o1,L,x2,x3,x4,x5,x6,B1,rfl,rfl⟩
  walk_at "v"
  refine vZ (many:=25) B1 (by decide) (by decide) fun e1 o2 e10 e11 B2=>?_
  walk_at "v"
  refine vZ (many:=5) B2 (by decide) (by decide) fun e2 o3 e20 e21 B3=>?_
  obtain⟨bits,hbits,hb8,hb32⟩:∃bits:Int,atI [T.int 8, .int 9, .int 10, .int (8+e1), .int 32] e2=some (.int bits)/\8<=bits/\bits<=32:=by
   rcases(show e2=0\/e2=1\/e2=2\/e2=3\/e2=4 by omega) with rfl|rfl|rfl|rfl|rfl
   ·exact⟨_,rfl,by decide,by decide⟩
   ·exact⟨_,rfl,by decide,by decide⟩
   ·exact⟨_,rfl,by decide,by decide⟩
   ·exact⟨_,rfl,by omega,by omega⟩
   ·exact⟨_,rfl,by decide,by decide⟩
  refine vO hbits ?_
  walk_at "v"
  refine⟨o3,bits,_,rfl,rfl,B3,hb8,hb32,fun o4 ws L2 B4 w5 hw=>?_⟩
  walk_at "v"
  refine⟨_,_,rfl,rfl, ?_⟩
  walk_at "v"
  refine⟨bits,ws,1,rfl,w5,rfl,fun hg=>?_,fun hg ms hms=>?_⟩
  ·walk_at "v"
   refine kX (ns:=ws) (ms:=ws) ?_
   walk_at "v"
   exact⟨bits,ws,rfl,hb8,hb32,w5,fun w h=>by have:=hw w h; omega,fun _ L3=>ity rfl ⟨_,_,_,_,_,_,_,B4,rfl,rfl⟩,fun h=>absurd (hg.symm.trans h) (by decide)⟩
  ·walk_at "v"
   refine kX (ns:=ws) (ms:=ws) ?_
   walk_at "v"
   have hm5:ms.length=5:=by
    have:=hms.1.length_eq
    rw[List.length_map,List.length_zip,w5] at this
    exact this
   refine⟨bits,ws,rfl,hb8,hb32,w5,fun w h=>by have:=hw w h; omega,fun h=>absurd (hg.symm.trans h) (by decide),fun _ L3 j=>?_⟩
   refine itn rfl ?_
   walk_at "v"
   simp only[Q8]
   walk_at "v"
   refine⟨_,X2 (ms:=ms) gt1 gt0, ?_⟩
   refine⟨bits,ms,ws,rfl,jc w5 hg hms,hm5,hms.1,w5, .inl ⟨_,rfl⟩, ?_⟩
   walk_at "v"
   simp only[uMe0]
   walk_at "v"
   refine XN (us:=[.p (.int bits), .m ((L++L2).length+1+1)]) (by simp only[vh,gt1]) at1 ?_
   refine⟨_,_,rfl,gt0,rfl, ?_⟩
   simp only[List.set_cons_succ]
   generalize List.set (L++L2++_++_++L3) _ _=L9
   simp only[Q8]
   walk_at "v"
   refine⟨bits,ws,1,rfl,w5,rfl,fun h=>absurd (hg.symm.trans h) (by decide),fun _ ms2 hms2=>?_⟩
   have hm52:ms2.length=5:=by
    have:=hms2.1.length_eq
    rw[List.length_map,List.length_zip,w5] at this
    exact this
   walk_at "v"
   refine⟨_,X2 (ms:=ms2) gs1 gs0, ?_⟩
   refine⟨bits,ms2,ws,rfl,jc w5 hg hms2,hm52,hms2.1,w5, .inl ⟨_,rfl⟩, ?_⟩
   walk_at "v"
   exact⟨_,_,_,_,_,_,_,B4,rfl,rfl⟩
 ·rintro ρ M ⟨o1,L,x2,x3,x4,x5,x6,B1,rfl,rfl⟩
  walk_at "v"
end
end Mw
local macro_rules | `(tactic| walk_at "fk") => `(tactic| (refine' L2.fun_mk ?l ?c ?k; (case l=>k_is); (case c=>k_is); (case k=>k_is)))
local macro_rules | `(tactic| walk_at "fg") => `(tactic| (refine' ⟨?n, ?m⟩; (case n=>show _=_; k_is); (case m=>walk_at "fk")))
namespace Mw
open PySem L2
structure FG (K:PySem.W.Frag) (x:Str) (s:Stmt) (f:Addr) (d:FuncData):Prop where
 a:PySem.W.nsIn K mainGlobals x=some (some (.ref f))
 F:Fun K x x s f d
theorem ln1 {α:Type}:∀{l:List α},l.length=1->∃a,l=[a]
 | [a],_=>⟨a,rfl⟩
theorem ln2 {α:Type}:∀{l:List α},l.length=2->∃a b,l=[a,b]
 | [a,b],_=>⟨a,b,rfl⟩
theorem ln3 {α:Type}:∀{l:List α},l.length=3->∃a b c,l=[a,b,c]
 | [a,b,c],_=>⟨a,b,c,rfl⟩
theorem ln4 {α:Type}:∀{l:List α},l.length=4->∃a b c d,l=[a,b,c,d]
 | [a,b,c,d],_=>⟨a,b,c,d,rfl⟩
theorem ln5 {α:Type}:∀{l:List α},l.length=5->∃a b c d e,l=[a,b,c,d,e]
 | [a,b,c,d,e],_=>⟨a,b,c,d,e,rfl⟩
theorem all_mk {l:PySem.W.OpenLaw} {w:World} {K:PySem.W.Frag} {h:Heap} {mg:Str->Option Value} {fa f1 f2 f3 f4 f5 f6 f7 f8 f9 f10 f11 f12 f13 f14 f15 f16 f17 f18 f19  : Addr} (X:K.In h) (G:h.Ns mainGlobals mg) {kc tb:Addr} (hfa:mg "law" = some (.ref fa))
  {d1 d2 d3 d4 d5 d6 d7 d8 d9 d10 d11 d12 d13 d14 d15 d16 d17 d18 d19:FuncData} {ft1:Addr} {tn1:Nat} {tsl1:Array (Option Value)} {tk1_0 tk1_1 tk1_2 tk1_3 tk1_4:Tok} {gk1:Tok} {gk2:Tok} {fd_1:Addr} {ke1:Nat} {ka1_0 kb1_0 ka1_1 kb1_1 ka1_2 kb1_2 ka1_3 kb1_3 ka1_4 kb1_4:Tok}
  (A1:FG K "_law_bag" sBag f1 d1)
  (A2:FG K "_law_draw" sDraw f2 d2)
  (A3:FG K "kinds_on" ju f3 d3)
  (A4:FG K "bits_go" Qn f4 d4)
  (A5:FG K "width_goes" zE f5 d5)
  (A6:FG K "load_goes" xq f6 d6)
  (A7:FG K "words_go" jt f7 d7)
  (A8:FG K "widths_go" xp f8 d8)
  (A9:FG K "made" sMade f9 d9)
  (A10:FG K "_law_kinds" ZF f10 d10)
  (A11:FG K "_law_needed" Qm f11 d11)
  (A12:FG K "_law_placed" Ql f12 d12)
  (A13:FG K "_law_form" sForm f13 d13)
  (A14:FG K "_law_two" sTwo f14 d14)
  (A15:FG K "_law_fault" ZH f15 d15)
  (A16:FG K "_law_widths" Qk f16 d16)
  (A17:FG K "_law_whole" ZD f17 d17)
  (A18:FG K "_law_kept" sKept f18 d18)
  (A19:FG K "law" sLaw f19 d19)
  (z1:PySem.W.nsIn K mainGlobals "abs" = some none)
  (z2:PySem.W.nsIn K mainGlobals "len" = some none)
  (z3:PySem.W.nsIn K mainGlobals "min" = some none)
  (z4:PySem.W.nsIn K mainGlobals "max" = some none)
  (z5:PySem.W.nsIn K mainGlobals "sum" = some none)
  (z6:PySem.W.nsIn K mainGlobals "sorted" = some none)
  (z7:PySem.W.nsIn K mainGlobals "all" = some none)
  (z8:PySem.W.nsIn K mainGlobals "any" = some none)
  (z9:PySem.W.nsIn K mainGlobals "isinstance" = some none)
  (z10:PySem.W.nsIn K mainGlobals "range" = some none)
  (z11:PySem.W.nsIn K mainGlobals "int" = some none)
  (z12:PySem.W.nsIn K mainGlobals "list" = some none)
  (z13:PySem.W.nsIn K mainGlobals "str" = some none)
  (z14:PySem.W.nsIn K mainGlobals "bool" = some none)
  (z15:PySem.W.nsIn K mainGlobals "tuple" = some none)
  (z16:PySem.W.nsIn K mainGlobals "zip" = some none)
  (z17:PySem.W.nsIn K mainGlobals "enumerate" = some none)
  (z18:PySem.W.nsIn K mainGlobals "dict" = some none)
  (p1:PySem.W.nsIn K mainGlobals "KINDS" = some (some (.ref ft1)))
  (q1:K.lookup ft1=some ⟨.type "tuple", none, .seq #[.str "small" tk1_0, .str "far" tk1_1, .str "pair" tk1_2, .str "sign" tk1_3, .str "one" tk1_4] tn1,tsl1⟩)
  (g1:PySem.W.nsIn K mainGlobals "FEWEST_BITS" = some (some (.int 8 gk1)))
  (g2:PySem.W.nsIn K mainGlobals "MOST_BITS" = some (some (.int 32 gk2)))
  (kg1:PySem.W.nsIn K mainGlobals "LEAST_LOAD_BITS" = some (some (.ref fd_1)))
  (kl1:K.lookup fd_1=some ⟨.type "dict", none, .dict (([("small", ka1_0, .int 2 kb1_0),("far", ka1_1, .int 3 kb1_1),("pair", ka1_2, .int 3 kb1_2),("sign", ka1_3, .int 7 kb1_3),("one", ka1_4, .int 2 kb1_4)]:List (Str×Tok×Value)).map (entD w.params)).toArray ke1, #[]⟩)
  (hcode:d9.code=.ref kc) :
  ∃fd:FuncData,(∀(s:Shared) (v:Value),BindsTo s fd ⟨[v], []⟩ [("script", v)])/\∀base:Heap,K.In base->base.Ns mainGlobals mg->PySem.W.CodeHd base kc tb->base.BuiltinsAt mg tb->FnOk l.prog w K mg base CX0 5 fa fd ["script"] (kf K tb):=by
 have e:=hfa.symm.trans (PySem.W.mg_of X G A19.a)
 cases e
 have mo:=fun {x:Str} {v:Value} (a:PySem.W.nsIn K mainGlobals x=some (some v))=>PySem.W.mg_of X G a
 have mn:=fun {x:Str} (a:PySem.W.nsIn K mainGlobals x=some none)=>PySem.W.mg_none_of X G a
 have N:Nms mg:=⟨mn z1,mn z2,mn z3,mn z4,mn z5,mn z6,mn z7,mn z8,mn z9,mn z10,mn z11,mn z12,mn z13,mn z14,mn z15,mn z16,mn z17,mn z18⟩
 have TKinds:Tup5 K mg "KINDS" ft1 "small" "far" "pair" "sign" "one" := ⟨mo p1,_,_,_,_,_,_,_,q1⟩
 have GFew:GInt mg "FEWEST_BITS" 8:=⟨_,mo g1⟩
 have GMost:GInt mg "MOST_BITS" 32:=⟨_,mo g2⟩
 have DLeast:KDi K w mg "LEAST_LOAD_BITS" fd_1 XE:=⟨mo kg1,_,_,kl1,by show(["small", "far", "pair", "sign", "one"]:List Str).Nodup; decide +kernel, .cons ⟨rfl,_,rfl⟩ (.cons ⟨rfl,_,rfl⟩ (.cons ⟨rfl,_,rfl⟩ (.cons ⟨rfl,_,rfl⟩ (.cons ⟨rfl,_,rfl⟩ (.nil)))))⟩
 have b1:=A1.F.binds (ps:=["script"]) fun _ _ _ _ _ _ _ h=>by obtain⟨_,rfl⟩:=ln1 h; rfl
 have b2:=A2.F.binds (ps:=["bag", "many"]) fun _ _ _ _ _ _ _ h=>by obtain⟨_,_,rfl⟩:=ln2 h; rfl
 have b3:=A3.F.binds (ps:=["marks", "word"]) fun _ _ _ _ _ _ _ h=>by obtain⟨_,_,rfl⟩:=ln2 h; rfl
 have b4:=A4.F.binds (ps:=["bits"]) fun _ _ _ _ _ _ _ h=>by obtain⟨_,rfl⟩:=ln1 h; rfl
 have b5:=A5.F.binds (ps:=["bits", "width"]) fun _ _ _ _ _ _ _ h=>by obtain⟨_,_,rfl⟩:=ln2 h; rfl
 have b6:=A6.F.binds (ps:=["bits", "kind", "width"]) fun _ _ _ _ _ _ _ h=>by obtain⟨_,_,_,rfl⟩:=ln3 h; rfl
 have b7:=A7.F.binds (ps:=["bits", "widths"]) fun _ _ _ _ _ _ _ h=>by obtain⟨_,_,rfl⟩:=ln2 h; rfl
 have b8:=A8.F.binds (ps:=["bits", "widths"]) fun _ _ _ _ _ _ _ h=>by obtain⟨_,_,rfl⟩:=ln2 h; rfl
 have b9:=A9.F.binds (ps:=["bits", "widths"]) fun _ _ _ _ _ _ _ h=>by obtain⟨_,_,rfl⟩:=ln2 h; rfl
 have b10:=A10.F.binds (ps:=[]) fun _ _ _ _ _ _ us hl=>match us,hl with | [],_=>rfl
 have b11:=A11.F.binds (ps:=["kind"]) fun _ _ _ _ _ _ _ h=>by obtain⟨_,rfl⟩:=ln1 h; rfl
 have b12:=A12.F.binds (ps:=["bits", "widths"]) fun _ _ _ _ _ _ _ h=>by obtain⟨_,_,rfl⟩:=ln2 h; rfl
 have b13:=A13.F.binds (ps:=["laying"]) fun _ _ _ _ _ _ _ h=>by obtain⟨_,rfl⟩:=ln1 h; rfl
 have b14:=A14.F.binds (ps:=["marks"]) fun _ _ _ _ _ _ _ h=>by obtain⟨_,rfl⟩:=ln1 h; rfl
 have b15:=A15.F.binds (ps:=["laying"]) fun _ _ _ _ _ _ _ h=>by obtain⟨_,rfl⟩:=ln1 h; rfl
 have b16:=A16.F.binds (ps:=["bag", "bits"]) fun _ _ _ _ _ _ _ h=>by obtain⟨_,_,rfl⟩:=ln2 h; rfl
 have b17:=A17.F.binds (ps:=["found"]) fun _ _ _ _ _ _ _ h=>by obtain⟨_,rfl⟩:=ln1 h; rfl
 have b18:=A18.F.binds (ps:=["laying", "bits", "widths"]) fun _ _ _ _ _ _ _ h=>by obtain⟨_,_,_,rfl⟩:=ln3 h; rfl
 refine⟨d19,fun s v=>?_,fun base _ _ hC hB=>?_⟩
 ·obtain⟨_,_,_,_,_,_,_,_,_,rfl,_⟩:=A19.F.ex
  exact .of_eq rfl
 have DBag:Def l.prog w K mg base "_law_bag" 1 ["script"] (spBag K):=⟨f1,_,mo A1.a,A1.F.kp,b1,ok_bag A1.F N⟩
 have DDraw:Def l.prog w K mg base "_law_draw" 1 ["bag", "many"] (spU X1):=⟨f2,_,mo A2.a,A2.F.kp,b2,ok_drawU A2.F N⟩
 have DKindsOn:Def l.prog w K mg base "kinds_on" 1 ["marks", "word"] (spP jK):=⟨f3,_,mo A3.a,A3.F.kp,b3,kD A3.F⟩
 have DBitsGo:Def l.prog w K mg base "bits_go" 1 ["bits"] (spP QU):=⟨f4,_,mo A4.a,A4.F.kp,b4,Xi A4.F GFew GMost⟩
 have DWidthGoes:Def l.prog w K mg base "width_goes" 1 ["bits", "width"] (spP zN):=⟨f5,_,mo A5.a,A5.F.kp,b5,kB A5.F⟩
 have DLoadGoes:Def l.prog w K mg base "load_goes" 1 ["bits", "kind", "width"] (spP xI):=⟨f6,_,mo A6.a,A6.F.kp,b6,QD A6.F DLeast⟩
 have DWordsGo:Def l.prog w K mg base "words_go" 1 ["bits", "widths"] (spP jH):=⟨f7,_,mo A7.a,A7.F.kp,b7,VW A7.F N⟩
 have DWidthsGo:Def l.prog w K mg base "widths_go" 2 ["bits", "widths"] (spP xG):=⟨f8,_,mo A8.a,A8.F.kp,b8,QC A8.F N TKinds DBitsGo DWidthGoes DLoadGoes DWordsGo⟩
 have DMade:Def l.prog w K mg base "made" 3 ["bits", "widths"] (spU (X0 tb)):=⟨f9,_,mo A9.a,A9.F.kp,b9,ok_madeM A9.F N TKinds hcode hC hB DKindsOn DWidthsGo⟩
 have DKinds:Def l.prog w K mg base "_law_kinds" 1 [] (spU jf):=⟨f10,_,mo A10.a,A10.F.kp,b10,Xg A10.F⟩
 have DNeeded:Def l.prog w K mg base "_law_needed" 1 ["kind"] (spP xH):=⟨f11,_,mo A11.a,A11.F.kp,b11,Xf A11.F⟩
 have DPlaced:Def l.prog w K mg base "_law_placed" 2 ["bits", "widths"] (spU QQ):=⟨f12,_,mo A12.a,A12.F.kp,b12,Xe A12.F N DKinds DNeeded⟩
 have DForm:Def l.prog w K mg base "_law_form" 2 ["laying"] (spP gForm):=⟨f13,_,mo A13.a,A13.F.kp,b13,ok_form A13.F N DKinds⟩
 have DTwo:Def l.prog w K mg base "_law_two" 1 ["marks"] (spP gTwo):=⟨f14,_,mo A14.a,A14.F.kp,b14,ok_two A14.F N⟩
 have DFault:Def l.prog w K mg base "_law_fault" 3 ["laying"] (spP QR):=⟨f15,_,mo A15.a,A15.F.kp,b15,Xh A15.F N DForm DTwo DNeeded⟩
 have DWidths:Def l.prog w K mg base "_law_widths" 2 ["bag", "bits"] (spU QP):=⟨f16,_,mo A16.a,A16.F.kp,b16,Xd A16.F N DDraw DKinds DNeeded⟩
 have DWhole:Def l.prog w K mg base "_law_whole" 1 ["found"] (spP XZ):=⟨f17,_,mo A17.a,A17.F.kp,b17,ok_whole A17.F N⟩
 have DKept:Def l.prog w K mg base "_law_kept" 4 ["laying", "bits", "widths"] (spP gKept):=⟨f18,_,mo A18.a,A18.F.kp,b18,ok_kept A18.F N DFault DWhole DKinds⟩
 exact ok_lawU A19.F N DBag DDraw DWidths DMade DPlaced DKept
theorem walk {l:PySem.W.OpenLaw} {q:Program} {loose:List Str} {XP:(Str->Option Value)->Heap->Prop} {YP:World->Heap->Prop} {d dm:DefRec} {K:Params->PySem.W.Frag} (hn:l.most=some 63) (hdf:d.params.defaults=[])
  (hY:∀(w:World) (h:Heap),YP w h->(K w.params).In h)
  (hdm:(PyProof.Rows.recsOf q).find? (fun e=>e.name==("made" : Str))=some dm) (c T:Addr) (hc:∀w:World,PySem.W.tabIn (K w.params) "made" = some (c,T)) (hK:∀w:World,PySem.W.noTabs (K w.params)=true)
  (F:∀(w:World) (mg:Str->Option Value) (fa:Addr) (h:Heap),(K w.params).In h->h.Ns mainGlobals mg->mg d.name=some (.ref fa) ->
   ∃fd:FuncData,(∀(s:Shared) (u:Value),BindsTo s fd ⟨[u], []⟩ [("script", u)])/\∀base:Heap,(K w.params).In base->base.Ns mainGlobals mg->PySem.W.CodeHd base c T->base.BuiltinsAt mg T->FnOk l.prog w (K w.params) mg base CX0 5 fa fd ["script"] (kf (K w.params) T)) :
  PySem.W.WalkO q loose XP YP l.row.toRowW d [] (fun f vs=>PySem.call f vs) :=
 L2.walk_ofT (y := "made") (n:=63) (k:=5) (x := "script") (CX:=fun _=>CX0) (sp:=fun w tb=>kf (K w.params) tb) hn (by decide) hdf ⟨rfl,by decide,by decide,rfl⟩ hY hdm c T hc hK F (fun _ _ a ns hl hT hS=>⟨a,ns,rfl,hS,hl,hT,fun _=>rfl⟩) fun _ _ _ _ _ z=>z
end Mw
theorem PySem.W.Fast.te16148747032443467598:True:=True.intro
namespace Mw
open PySem PySem.W PySem.Calls PyProof.Rows L2
abbrev kC (n q:Str) (t l a:Nat) (x7:Int) (r8:Nat) (b9:Bool) (r11:Nat) (v12 v13 v14:Value) (r15 t16 t18:Nat):Obj:=⟨.type "code", none,(.fields #[.str n t, .str q (t+1), .str "/claim/cut.py" (t+2), .int l 0, .int a 0, .int 0 0, .int 0 0, .int x7 0, .ref r8, .bool b9, .int 181 0, .ref r11,v12,v13,v14, .ref r15, .int t16 0, .int l 0, .str "/claim/cut.py" t18]), #[]⟩
abbrev kF (n q:Str) (s:Stmt) (m:Value) (c:Nat):Obj:=⟨.type "function", none,(.func (PySem.W.fnOf n q (xL s) (ve s) (qg s) .none .none .none m none (.ref c) .none)), #[]⟩
abbrev kT (l:List Value):Obj:=⟨.type "tuple", none,(.seq l.toArray 0), #[]⟩
abbrev oE (P:Params) (n:Str) (t:Nat) (v:Value):DictEntry:=⟨PyData.keyHash P n, .str n t,v⟩
noncomputable def K:Params->Frag:=fun P =>
(nat_lit 2,⟨.none,none,(.dict #[] 0), #[]⟩) ::
(nat_lit 3,⟨.type "dict", none,(.dict [oE P "__name__" 165 (.str "law_markwords_k14_layings_made" 275),oE P "__doc__" 166 (.none),oE P "__package__" 167 (.none),oE P "__loader__" 168 (.builtin "__main__.__loader__#opaque"),oE P "__spec__" 169 (.none),oE P "__annotations__" 170 (.ref 6),oE P "__builtins__" 171 (.ref 4),oE P "__file__" 173 (.str "/claim/cut.py" 172),oE P "__cached__" 174 (.none),oE P "KINDS" 194 (.ref 15),oE P "LEAST_LOAD_BITS" 210 (.ref 16),oE P "FEWEST_BITS" 212 (.int (8) 211),oE P "MOST_BITS" 214 (.int (32) 213),oE P "bits_go" 221 (.ref 23),oE P "width_goes" 229 (.ref 30),oE P "load_goes" 238 (.ref 37),oE P "kinds_on" 244 (.ref 42),oE P "words_go" 252 (.ref 47),oE P "widths_go" 262 (.ref 54),oE P "made" 274 (.ref 61),oE P "_law_bag" 282 (.ref 66),oE P "_law_draw" 291 (.ref 73),oE P "_law_kinds" 297 (.ref 80),oE P "_law_needed" 304 (.ref 87),oE P "_law_form" 310 (.ref 92),oE P "_law_two" 321 (.ref 99),oE P "_law_fault" 327 (.ref 104),oE P "_law_placed" 333 (.ref 109),oE P "_law_widths" 339 (.ref 114),oE P "_law_whole" 346 (.ref 121),oE P "_law_kept" 352 (.ref 126),oE P "law" 365 (.ref 133)].toArray 32), #[]⟩) ::
(nat_lit 15,⟨.type "tuple", none,(.seq #[.str "small" 189, .str "far" 190, .str "pair" 191, .str "sign" 192, .str "one" 193] 0), #[]⟩) ::
(nat_lit 16,⟨.type "dict", none,(.dict [oE P "small" 195 (.int (2) 196),oE P "far" 197 (.int (3) 198),oE P "pair" 199 (.int (3) 200),oE P "sign" 201 (.int (7) 202),oE P "one" 203 (.int (2) 204)].toArray 5), #[]⟩) ::
(nat_lit 22,kC "bits_go" "bits_go" 215 6 1 3 17 true 18 .none (.ref 19) (.ref 20) 21 219 220) ::
(nat_lit 23,kF "bits_go" "bits_go" (top 5) (.str "markwords.layings" 187) 22) ::
(nat_lit 29,kC "width_goes" "width_goes" 222 8 2 3 24 true 25 .none (.ref 26) (.ref 27) 28 227 228) ::
(nat_lit 30,kF "width_goes" "width_goes" (top 6) (.str "markwords.layings" 187) 29) ::
(nat_lit 36,kC "load_goes" "load_goes" 230 10 3 3 31 true 32 .none (.ref 33) (.ref 34) 35 236 237) ::
(nat_lit 37,kF "load_goes" "load_goes" (top 7) (.str "markwords.layings" 187) 36) ::
(nat_lit 41,kC "kinds_on" "kinds_on" 239 12 2 3 38 true 39 .none .none .none 40 242 243) ::
(nat_lit 42,kF "kinds_on" "kinds_on" (top 8) (.str "markwords.layings" 187) 41) ::
(nat_lit 46,kC "words_go" "words_go" 247 15 2 3 43 true 44 .none .none .none 45 250 251) ::
(nat_lit 47,kF "words_go" "words_go" (top 10) (.str "markwords.choices" 245) 46) ::
(nat_lit 53,kC "widths_go" "widths_go" 253 17 2 3 48 true 49 .none (.ref 50) (.ref 51) 52 260 261) ::
(nat_lit 54,kF "widths_go" "widths_go" (top 11) (.str "markwords.choices" 245) 53) ::
(nat_lit 60,kC "made" "made" 263 24 2 3 55 true 56 .none (.ref 57) (.ref 58) 59 272 273) ::
(nat_lit 61,kF "made" "made" (top 12) (.str "markwords.choices" 245) 60) ::
(nat_lit 65,kC "_law_bag" "_law_bag" 277 35 1 3 62 true 63 .none .none .none 64 280 281) ::
(nat_lit 66,kF "_law_bag" "_law_bag" (top 14) (.str "law_markwords_k14_layings_made" 275) 65) ::
(nat_lit 72,kC "_law_draw" "_law_draw" 283 40 2 3 67 true 68 .none (.ref 69) (.ref 70) 71 289 290) ::
(nat_lit 73,kF "_law_draw" "_law_draw" (top 15) (.str "law_markwords_k14_layings_made" 275) 72) ::
(nat_lit 79,kC "_law_kinds" "_law_kinds" 292 51 0 3 74 true 75 .none (.ref 76) (.ref 77) 78 295 296) ::
(nat_lit 80,kF "_law_kinds" "_law_kinds" (top 16) (.str "law_markwords_k14_layings_made" 275) 79) ::
(nat_lit 86,kC "_law_needed" "_law_needed" 298 53 1 3 81 true 82 .none (.ref 83) (.ref 84) 85 302 303) ::
(nat_lit 87,kF "_law_needed" "_law_needed" (top 17) (.str "law_markwords_k14_layings_made" 275) 86) ::
(nat_lit 91,kC "_law_form" "_law_form" 305 55 1 3 88 true 89 .none .none .none 90 308 309) ::
(nat_lit 92,kF "_law_form" "_law_form" (top 18) (.str "law_markwords_k14_layings_made" 275) 91) ::
(nat_lit 98,kC "_law_two" "_law_two" 311 64 1 3 93 true 94 .none (.ref 95) (.ref 96) 97 319 320) ::
(nat_lit 99,kF "_law_two" "_law_two" (top 19) (.str "law_markwords_k14_layings_made" 275) 98) ::
(nat_lit 103,kC "_law_fault" "_law_fault" 322 72 1 3 100 true 101 .none .none .none 102 325 326) ::
(nat_lit 104,kF "_law_fault" "_law_fault" (top 20) (.str "law_markwords_k14_layings_made" 275) 103) ::
(nat_lit 108,kC "_law_placed" "_law_placed" 328 81 2 3 105 true 106 .none .none .none 107 331 332) ::
(nat_lit 109,kF "_law_placed" "_law_placed" (top 21) (.str "law_markwords_k14_layings_made" 275) 108) ::
(nat_lit 113,kC "_law_widths" "_law_widths" 334 96 2 3 110 true 111 .none .none .none 112 337 338) ::
(nat_lit 114,kF "_law_widths" "_law_widths" (top 22) (.str "law_markwords_k14_layings_made" 275) 113) ::
(nat_lit 120,kC "_law_whole" "_law_whole" 340 113 1 3 115 true 116 .none (.ref 117) (.ref 118) 119 344 345) ::
(nat_lit 121,kF "_law_whole" "_law_whole" (top 23) (.str "law_markwords_k14_layings_made" 275) 120) ::
(nat_lit 125,kC "_law_kept" "_law_kept" 347 115 3 3 122 true 123 .none .none .none 124 350 351) ::
(nat_lit 126,kF "_law_kept" "_law_kept" (top 24) (.str "law_markwords_k14_layings_made" 275) 125) ::
(nat_lit 132,kC "law" "law" 353 125 1 3 127 true 128 .none (.ref 129) (.ref 130) 131 363 364) ::
(nat_lit 133,kF "law" "law" (top 25) (.str "law_markwords_k14_layings_made" 275) 132) ::
[]
def KA:List Addr:=[2,3,15,16,22,23,29,30,36,37,41,42,46,47,53,54,60,61,65,66,72,73,79,80,86,87,91,92,98,99,103,104,108,109,113,114,120,121,125,126,132,133]
theorem K_as:∀P,KA=(K P).map (·.1):=fun _=>by kernel_rfl
noncomputable def vw:Program:=PySem.W.view PySem.Challenge.pw_markwords_k14_layings_made [1,2,3,4,5,6,7,8,10,11,12,14,15,16,17,18,19,20,21,22,23,24,25]
def ls:List Str:=["LEAST_LOAD_BITS"]
def lv:List (Str×WData):=[]
noncomputable def Xt (s:Shared):Bool:=xlAt vw lv s&&recOk (RowW.records (OpenRow.toRowW (OpenLaw.row PySem.Challenge.rw_markwords_k14_layings_made))) s
noncomputable def Lf (w:World) (os:OsState):=(Hd.topT treeTable PySem.Challenge.pw_markwords_k14_layings_made w 11 (some (.ref 6)) 1514 (Hd.S0 w os) (topStub PySem.Challenge.pw_markwords_k14_layings_made)).map (fun s=>Hd.Look PySem.Challenge.pw_markwords_k14_layings_made vw ls Xt (kHook K KA K_as).obs w s.abs)
noncomputable def Rt (w:World) (_:OsState):=some (true,openGood vw ls,(kHook K KA K_as).val w)
theorem Lf_is:Lf=Lf:=rfl
theorem Rt_is:Rt=Rt:=rfl
name_quick MwLq for Lf by Lf_is
name_quick MwRq for Rt by Rt_is
theorem run0 (w:World):(fun os=>Lf (World.withFollow w "special-get-raises" false) os)=fun os=>Rt (World.withFollow w "special-get-raises" false) os :=
 (congrFun PySem.W.Fast.MwLq_eq (World.withFollow w "special-get-raises" false)).trans (Eq.trans (by kernel_rfl:PySem.W.Fast.MwLq (World.withFollow w "special-get-raises" false)=PySem.W.Fast.MwRq (World.withFollow w "special-get-raises" false)) (congrFun PySem.W.Fast.MwRq_eq (World.withFollow w "special-get-raises" false)).symm)
theorem run1 (w:World):(fun os=>Lf (World.withFollow w "special-get-raises" true) os)=fun os=>Rt (World.withFollow w "special-get-raises" true) os :=
 (congrFun PySem.W.Fast.MwLq_eq (World.withFollow w "special-get-raises" true)).trans (Eq.trans (by kernel_rfl:PySem.W.Fast.MwLq (World.withFollow w "special-get-raises" true)=PySem.W.Fast.MwRq (World.withFollow w "special-get-raises" true)) (congrFun PySem.W.Fast.MwRq_eq (World.withFollow w "special-get-raises" true)).symm)
theorem run (w:World):(fun os=>Lf w os)=fun os=>Rt w os:=byRow2 "special-get-raises" (P:=fun w=>(fun os=>Lf w os)=fun os=>Rt w os) run0 run1 w
theorem hLf9:LeftO PySem.Challenge.pw_markwords_k14_layings_made vw ls Xt (kHook K KA K_as).obs (kHook K KA K_as).val 1514 :=
 Hd.left_of (M:=1514) (by kernel_rfl) (by decide) (fun _=>by kernel_rfl) (by decide) (fun w os=>congrFun (run w) os) Hd.boot_main
end Mw
open PySem PySem.W PyProof.Rows
set_option maxRecDepth 100000 in
set_option maxHeartbeats 0 in
theorem PySem.Challenge.cw_markwords_k14_layings_made_holds : PySem.Challenge.rw_markwords_k14_layings_made.Holds := by
 w_on; o_law
 refine Hd.close (q:=Mw.vw) (loose:=Mw.ls) (lv:=Mw.lv) (H:=kHook Mw.K Mw.KA Mw.K_as) (N:=1514) Mw.hLf9 (by rfl) (by rfl) (by rfl) (by rfl) (by assumption) (by decide +kernel) ⟨rfl,rfl,rfl,rfl,rfl,by decide +kernel⟩ ?hw ?hc
 case hw=>w_witness2
 k_fill
 refine Mw.walk (l:=PySem.Challenge.rw_markwords_k14_layings_made) rfl rfl (fun w h Y=>PySem.W.kIn_of Y) rfl 60 56 ?zc ?zk ?F
 case zc=>intro w; kernel_rfl
 case zk=>intro w; kernel_rfl
 case F =>
  intro w mg fa h KX G hmg
  refine' Mw.all_mk KX G hmg ?A1 ?A2 ?A3 ?A4 ?A5 ?A6 ?A7 ?A8 ?A9 ?A10 ?A11 ?A12 ?A13 ?A14 ?A15 ?A16 ?A17 ?A18 ?A19 ?z1 ?z2 ?z3 ?z4 ?z5 ?z6 ?z7 ?z8 ?z9 ?z10 ?z11 ?z12 ?z13 ?z14 ?z15 ?z16 ?z17 ?z18 ?p1 ?q1 ?g1 ?g2 ?kg1 ?kl1 ?hcode
  (case A1=>walk_at "fg")
  (case A2=>walk_at "fg")
  (case A3=>walk_at "fg")
  (case A4=>walk_at "fg")
  (case A5=>walk_at "fg")
  (case A6=>walk_at "fg")
  (case A7=>walk_at "fg")
  (case A8=>walk_at "fg")
  (case A9=>walk_at "fg")
  (case A10=>walk_at "fg")
  (case A11=>walk_at "fg")
  (case A12=>walk_at "fg")
  (case A13=>walk_at "fg")
  (case A14=>walk_at "fg")
  (case A15=>walk_at "fg")
  (case A16=>walk_at "fg")
  (case A17=>walk_at "fg")
  (case A18=>walk_at "fg")
  (case A19=>walk_at "fg")
  (case z1=>k_is)
  (case z2=>k_is)
  (case z3=>k_is)
  (case z4=>k_is)
  (case z5=>k_is)
  (case z6=>k_is)
  (case z7=>k_is)
  (case z8=>k_is)
  (case z9=>k_is)
  (case z10=>k_is)
  (case z11=>k_is)
  (case z12=>k_is)
  (case z13=>k_is)
  (case z14=>k_is)
  (case z15=>k_is)
  (case z16=>k_is)
  (case z17=>k_is)
  (case z18=>k_is)
  (case p1=>k_is)
  (case q1=>k_is)
  (case g1=>k_is)
  (case g2=>k_is)
  (case kg1=>k_is)
  (case kl1=>k_is)
  (case hcode=>rfl)
