import PyProof.Rows.All
import Wide.All
import OpenK.AllK
import Wide.FinOn
import Lean
import PyProof.EqAt
import PyProof.EqKinds
import PyProof.TupleCall
import PyProof.NeKinds
import PyProof.RulesTry
import PyProof.ExcArgsOwn
import PyProof.InstStoreFacts
import PyProof.ExcInit
import PyProof.ExcClass3
import KE.KTryMore
import PyProof.NsDelKeeps
import PyProof.RulesAs
import PyProof.InstEq
import PyProof.Rows.EqMixed
import PyProof.FactsAll.tuple_1
import PySem.Challenge.RW_markwords_k72_texts_that_are_no_images
set_option Elab.async false
set_option linter.all false
set_option maxRecDepth 100000
set_option maxHeartbeats 8000000
namespace L2
open PySem PySem.Spec PyProof.Rows
abbrev Key:=Sum Int Str
def keyIs:Key->Value->Bool
 |.inl k,v=>Value.isInt k v
 |.inr x,v=>Value.isStrOf x v
def keyH (w:World):Key->Int
 |.inl k=>hashInt k
 |.inr x=>hashStr w x
theorem vj:∀{k:Key} {v:Value},keyIs k v=true->(∃i t,k=Sum.inl i/\v=Value.int i t)\/(∃x t,k=Sum.inr x/\v=Value.str x t)
 |.inl i,v,h=>by
  obtain⟨t,e⟩:=Value.isInt_shape (k:=i) (v:=v) h
  exact .inl ⟨i,t,rfl,e⟩
 |.inr x,v,h=>by
  obtain⟨t,e⟩:=Value.isStrOf_shape (x:=x) (v:=v) h
  exact .inr ⟨x,t,rfl,e⟩
theorem key_ll (a b:Int):decide ((Sum.inl a:Key)=Sum.inl b)=(a==b):=by
 by_cases e:a=b
 ·subst e; simp
 ·have h:¬(Sum.inl a:Key)=Sum.inl b:=fun q=>e (Sum.inl.inj q)
  rw[decide_eq_false h]
  exact(beq_eq_false_iff_ne.mpr e).symm
theorem key_rr (a b:Str):decide ((Sum.inr a:Key)=Sum.inr b)=decide (a=b):=by
 by_cases e:a=b
 ·subst e; simp
 ·have h:¬(Sum.inr a:Key)=Sum.inr b:=fun q=>e (Sum.inr.inj q)
  rw[decide_eq_false h,decide_eq_false e]
theorem key_lr (a:Int) (b:Str):decide ((Sum.inl a:Key)=Sum.inr b)=false:=decide_eq_false (fun q=>nomatch q)
theorem key_rl (a:Str) (b:Int):decide ((Sum.inr a:Key)=Sum.inl b)=false:=decide_eq_false (fun q=>nomatch q)
def J4 (prog:Program) (w:World):PySem.KeyKind prog w Key where
 is:=keyIs
 hash:=keyH w
 inj:=fun v a b ha hb=>by
  rcases vj ha with⟨i,t,rfl,rfl⟩|⟨x,t,rfl,rfl⟩
  ·rcases vj hb with⟨j,u,rfl,e⟩|⟨y,u,rfl,e⟩
   ·injection e with e1 _; rw[e1]
   ·exact nomatch e
  ·rcases vj hb with⟨j,u,rfl,e⟩|⟨y,u,rfl,e⟩
   ·exact nomatch e
   ·injection e with e1 _; rw[e1]
 byValue:=fun k v h=>by
  rcases vj h with⟨i,t,rfl,rfl⟩|⟨x,t,rfl,rfl⟩<;>rfl
 pyHash:=fun hv h=>by
  rcases vj hv with⟨i,t,rfl,rfl⟩|⟨x,t,rfl,rfl⟩
  ·exact wpAny_pyHash_int h
  ·exact wpAny_pyHash_str h
 eqBool:=fun hu hv h=>by
  rcases vj hu with⟨i,t,rfl,rfl⟩|⟨x,t,rfl,rfl⟩
  ·rcases vj hv with⟨j,u,rfl,rfl⟩|⟨y,u,rfl,rfl⟩
   ·rw[key_ll] at h; exact wpAny_eqBool_int h
   ·rw[key_lr] at h; exact SeqAt.EqAt.int_str i t y u _ _ _ _ h
  ·rcases vj hv with⟨j,u,rfl,rfl⟩|⟨y,u,rfl,rfl⟩
   ·rw[key_rl] at h; exact SeqAt.EqAt.str_int x t j u _ _ _ _ h
   ·rw[key_rr] at h; exact wpAny_eqBool_str h
 «strs»:=fun k x t v h=>by
  rcases vj h with⟨i,u,rfl,e⟩|⟨y,u,rfl,e⟩
  ·exact nomatch e
  ·injection e with e1 _
   subst e1
   cases v<;>rfl
inductive V where
 |non|bl (b:Bool)|int (i:Int)|str (x:Str)|byt (b:Array UInt8)|flt (b:UInt64)|ref (a:Addr)|ty (n:String)
 deriving DecidableEq
def RelV:V->Value->Prop
 |.non,u=>u=Value.none
 |.bl b,u=>u=Value.bool b
 |.int i,u=>∃t,u=Value.int i t
 |.str x,u=>∃t,u=Value.str x t
 |.byt b,u=>∃t,u=Value.bytes b t
 |.flt b,u=>∃t,u=Value.float b t
 |.ref a,u=>u=Value.ref a
 |.ty n,u=>u=Value.type n
abbrev Vals:List V->List Value->Prop:=Paired RelV
theorem Vals.length {xs:List V} {us:List Value} (r:Vals xs us):xs.length=us.length:=Paired.length r
theorem Vals.get:∀{xs:List V} {us:List Value} {i:Nat} {x:V},Vals xs us->xs[i]?=some x->∃u,us[i]?=some u/\RelV x u
 |_,_,_,_, .nil,e=>by simp at e
 |_,_,0,_, .cons r _,e=>by simp at e; subst e; exact⟨_,rfl,r⟩
 |_,_,i+1,x, .cons _ t,e=>by
  obtain⟨u,h1,h2⟩:=Vals.get (i:=i) (x:=x) t (by simpa using e)
  exact⟨u,by simpa using h1,h2⟩
theorem Vals.set {x:V} {u:Value} (r:RelV x u):∀{xs:List V} {us:List Value} (i:Nat),Vals xs us->Vals (xs.set i x) (us.set i u)
 |_,_,_, .nil=>.nil
 |_,_,0, .cons _ t=>.cons r t
 |_,_,i+1, .cons q t=>.cons q (Vals.set r i t)
theorem Vals.append:∀{xs ys:List V} {us ws:List Value},Vals xs us->Vals ys ws->Vals (xs++ys) (us++ws)
 |_,_,_,_, .nil,s=>s
 |_,_,_,_, .cons r t,s=>.cons r (Vals.append t s)
theorem Vals.take:∀{xs:List V} {us:List Value} (n:Nat),Vals xs us->Vals (xs.take n) (us.take n)
 |_,_,0,_=>.nil
 |_,_,_+1, .nil=>.nil
 |_,_,n+1, .cons r t=>.cons r (Vals.take n t)
theorem Vals.drop:∀{xs:List V} {us:List Value} (n:Nat),Vals xs us->Vals (xs.drop n) (us.drop n)
 |_,_,0,r=>r
 |_,_,_+1, .nil=>.nil
 |_,_,n+1, .cons _ t=>Vals.drop n t
def RelO:Option V->Option Value->Prop
 |some v,some u=>RelV v u
 |none,none=>True
 |_,_=>False
def KV {κ:Type}:List (κ×V)->List (κ×Value)->Prop:=Paired fun(p:κ×V) (q:κ×Value)=>p.1=q.1/\RelV p.2 q.2
def kV:Key->V
 |.inl i=>.int i
 |.inr x=>.str x
inductive HO where
  |lst (xs:List V)
  |tup (xs:List V)
  |dK (kvs:List (Key×V))|dT (kvs:List (List Key×V))
  |set (S:Int->Bool) (n:Nat)
  |ins (C dx:Addr) (fs:List (Str×V))
  |own (x:Addr)
  |xd (fs:List (Str×V))
  |met (f x:Addr)
  |rng (lo hi:Int)
  |frz (o:Obj) (u:HO)
  |tbl (ps:Array Value)
  |ext (φ:Heap->Prop)
abbrev Hp:=Addr->Option HO
def upd (H:Hp) (a:Addr) (o:HO):Hp:=fun b=>if b=a then some o else H b
theorem upd_same {H:Hp} {a:Addr} {o:HO}:upd H a o a=some o:=by unfold upd; rw[if_pos rfl]
theorem upd_ne {H:Hp} {a b:Addr} {o:HO} (h:b≠a):upd H a o b=H b:=by unfold upd; rw[if_neg h]
theorem qT {H:Hp} {a b:Addr} {o:HO} (h:H a=some o) (h':H b=none):a≠b:=by
 intro e; subst e; rw[h] at h'; cases h'
section
variable (P:Program) (w:World)
def ObjOk (H:Hp) (h:Heap) (a:Addr):HO->Prop
 |.lst xs=>xs.length<=sizeLine/\∃(its:List Value) (n:Nat),Vals xs its/\h.get? a=some { cls:=.type "list", data:=.seq its.toArray n }
 |.tup xs=>xs.length<=sizeLine/\∃its:List Value,Vals xs its/\IsTup h a its.toArray
 |.dK kvs=>kvs.length<=sizeLine/\(a==sysModules)=false/\∃vs,KV kvs vs/\h.DictOf (J4 P w) a vs
 |.dT kvs=>kvs.length<=sizeLine/\(a==sysModules)=false/\∃xs:List (List Key×Addr×Value),
   Paired (fun(p:List Key×V) (q:List Key×Addr×Value)=>p.1=q.1/\H q.2.1=some (.tup (p.1.map kV))/\RelV p.2 q.2.2) kvs xs /\
   ∃o es ep,h.get? a=some o/\o.ExactDict/\o.data=.dict es ep/\es.toList=xs.map (entryOfKey (tupleKind (J4 P w)))/\(xs.map (·.1)).Nodup
 |.set S n=>h.SetOf (intKind P w) a S n
 |.ins C dx fs=>H dx=some (.own a)/\fs.length<=1000/\dx≠a/\h.get? a=some (PySem.W.instObj C dx) /\
   ∃mA,h.Ns1 dx mA/\(∀f,RelO (fs.lookup f) (mA f))/\PySem.Within mA (fs.map (·.1))
 |.own _=>∃o,h.get? a=some o
 |.xd fs=>∃mA,h.Ns1 a mA/\∀f,RelO (fs.lookup f) (mA f)
 |.rng lo hi=>∃t u v,h.get? a=some { cls:=.type "range", data:=.fields #[.int lo t, .int hi u, .int 1 v] }
 |.frz o u=>h.get? a=some o/\ObjOk H h a u
 |.tbl ps=>h.get? a=some { cls:=.none,data:=.fields ps }
 |.met f x=>h.get? a=some (PySem.W.methodObj (.ref f) (.ref x))
 |.ext φ=>φ h/\(∃o,h.get? a=some o)/\∀h1 h2:Heap,φ h1->(∀o,h1.get? a=some o->h2.get? a=some o)->φ h2
def HOk (H:Hp) (h:Heap):Prop:=∀a o,H a=some o->ObjOk P w H h a o
end
section
variable {P:Program} {w:World} {H H':Hp} {h h':Heap} {a:Addr} {o:HO}
theorem ObjOk.lt (x:ObjOk P w H h a o):a<h.objs.size:=by
 cases o with
 |lst xs=>obtain⟨_,_,_,_,e⟩:=x; exact Heap.lt_size e
 |tup xs=>obtain⟨_,_,_,p⟩:=x; exact p.lt
 |dK kvs=>obtain⟨_,_,_,_,o,_,_,e,_⟩:=x; exact Heap.lt_size e
 |dT kvs=>obtain⟨_,_,_,_,o,_,_,e,_⟩:=x; exact Heap.lt_size e
 |set S n=>obtain⟨o,_,_,_,e,_⟩:=x; exact Heap.lt_size e
 |ins C dx fs=>obtain⟨_,_,_,e,_⟩:=x; exact Heap.lt_size e
 |own y=>obtain⟨_,e⟩:=x; exact Heap.lt_size e
 |xd fs=>obtain⟨_,⟨_,_,_,e,_⟩,_⟩:=x; exact Heap.lt_size e
 |rng lo hi=>obtain⟨_,_,_,e⟩:=x; exact Heap.lt_size e
 |frz ob u=>obtain⟨e,_⟩:=x; exact Heap.lt_size e
 |tbl ps=>exact Heap.lt_size (show h.get? a=some _ from x)
 |met f y=>exact Heap.lt_size (show h.get? a=some _ from x)
 |ext φ=>obtain⟨_,⟨_,e⟩,_⟩:=x; exact Heap.lt_size e
theorem Paired.mapP {α β:Type} {F G:α->β->Prop}:∀{l₁:List α} {l₂:List β},Paired F l₁ l₂->(∀a b,F a b->G a b)->Paired G l₁ l₂
 |_,_, .nil,_=>.nil
 |_,_, .cons r t,f=>.cons (f _ _ r) (Paired.mapP t f)
theorem ObjOk.stay (x:ObjOk P w H h a o) (k:∀b u,(b=a\/H b=some (.own a))->h.get? b=some u->h'.get? b=some u)
  (ho:∀b,H b=some (.own a)->H' b=some (.own a)) (ht:∀b xs,H b=some (.tup xs)->H' b=some (.tup xs)):ObjOk P w H' h' a o:=by
 induction o with
 |lst xs=>obtain⟨z,its,n,r,e⟩:=x; exact⟨z,its,n,r,k _ _ (.inl rfl) e⟩
 |tup xs=>obtain⟨z,its,r,ob,e,c⟩:=x; exact⟨z,its,r,ob,k _ _ (.inl rfl) e,c⟩
 |dK kvs=>obtain⟨z,y,vs,r,ob,es,ep,e,c⟩:=x; exact⟨z,y,vs,r,ob,es,ep,k _ _ (.inl rfl) e,c⟩
 |dT kvs =>
  obtain⟨z,y,xs,r,ob,es,ep,e,c⟩:=x
  exact⟨z,y,xs,Paired.mapP r fun p q z=>⟨z.1,ht _ _ z.2.1,z.2.2⟩,ob,es,ep,k _ _ (.inl rfl) e,c⟩
 |set S n=>obtain⟨ob,es,ep,t,e,c⟩:=x; exact⟨ob,es,ep,t,k _ _ (.inl rfl) e,c⟩
 |ins C dx fs =>
  obtain⟨d,z,ne,e,mA,⟨od,es,ep,e2,c⟩,r⟩:=x
  exact⟨ho _ d,z,ne,k _ _ (.inl rfl) e,mA,⟨od,es,ep,k _ _ (.inr d) e2,c⟩,r⟩
 |own y=>obtain⟨ob,e⟩:=x; exact⟨ob,k _ _ (.inl rfl) e⟩
 |xd fs=>obtain⟨mA,⟨od,es,ep,e,c⟩,r⟩:=x; exact⟨mA,⟨od,es,ep,k _ _ (.inl rfl) e,c⟩,r⟩
 |rng lo hi=>obtain⟨t,u,v,e⟩:=x; exact⟨t,u,v,k _ _ (.inl rfl) e⟩
 |frz ob u ih=>obtain⟨e,q⟩:=x; exact⟨k _ _ (.inl rfl) e,ih q⟩
 |tbl ps =>
  have e:h.get? a=some { cls:=.none,data:=.fields ps }:=x
  show h'.get? a=some { cls:=.none,data:=.fields ps }
  exact k a _ (.inl rfl) e
 |met f y =>
  have e:h.get? a=some (PySem.W.methodObj (.ref f) (.ref y)):=x
  show h'.get? a=some (PySem.W.methodObj (.ref f) (.ref y))
  exact k a _ (.inl rfl) e
 |ext φ=>obtain⟨p,⟨o,e⟩,st⟩:=x; exact⟨st _ _ p fun o q=>k _ _ (.inl rfl) q,⟨o,k _ _ (.inl rfl) e⟩,st⟩
theorem HOk.lt (x:HOk P w H h) (e:H a=some o):a<h.objs.size:=(x a o e).lt
theorem HOk.fresh (x:HOk P w H h) (e:h.objs.size<=a):H a=none:=by
 cases q:H a with
 |none=>rfl
 |some u=>exact absurd (Nat.lt_of_lt_of_le (x.lt q) e) (Nat.lt_irrefl _)
theorem HOk.kept (x:HOk P w H h) (k:∀b u,h.get? b=some u->h'.get? b=some u):HOk P w H h':=fun a o e =>
 (x a o e).stay (fun b u _ q=>k b u q) (fun _ q=>q) fun _ _ q=>q
theorem HOk.laid (x:HOk P w H h) (k:∀b u,h.get? b=some u->h'.get? b=some u) (hp:h.objs.size<=a) (new:ObjOk P w (upd H a o) h' a o):HOk P w (upd H a o) h':=fun b u e=>by
 have hn:=x.fresh hp
 by_cases hb:b=a
 ·subst hb; rw[upd_same] at e; cases e; exact new
 ·rw[upd_ne hb] at e
  exact(x b u e).stay (fun c v _ q=>k c v q) (fun c q=>by rw[upd_ne (qT q hn)]; exact q) fun c xs q=>by rw[upd_ne (qT q hn)]; exact q
end
def Rd (H:Hp) (a:Addr) (u:HO):Prop:=H a=some u\/∃o,H a=some (.frz o u)
theorem Rd.ok {P:Program} {w:World} {H:Hp} {h:Heap} {a:Addr} {u:HO} (r:Rd H a u) (x:HOk P w H h):ObjOk P w H h a u:=by
 rcases r with r|⟨o,r⟩
 ·exact x a u r
 ·obtain⟨_,q⟩:=x a _ r
  exact q
def Mut:Option HO->Prop
 |some (.lst _)=>True
 |some (.dK _)=>True
 |some (.dT _)=>True
 |some (.set _ _)=>True
 |some (.ins _ _ _)=>True
 |some (.ext _)=>True
 |_=>False
section
variable {P:Program} {w:World} {H:Hp} {h h':Heap} {x e:Addr} {o':HO}
theorem HOk.write (ok:HOk P w H h) (mu:Mut (H x)) (he:e=x\/H e=some (.own x)) (k:∀b u,b≠e->h.get? b=some u->h'.get? b=some u) (heo:∃u,h'.get? e=some u)
  (new:ObjOk P w (upd H x o') h' x o'):HOk P w (upd H x o') h':=fun b u q=>by
 have nown:∀c y,H c=some (.own y)->c≠x:=fun c y r z=>by subst z; rw[r] at mu; exact mu
 have ntup:∀c xs,H c=some (.tup xs)->c≠x:=fun c xs r z=>by subst z; rw[r] at mu; exact mu
 by_cases hb:b=x
 ·subst hb; rw[upd_same] at q; cases q; exact new
 ·rw[upd_ne hb] at q
  by_cases hbe:b=e
  ·have q':H b=some (.own x):=by
    rcases he with z|z
    ·exact absurd (hbe.trans z) hb
    ·rw[hbe]; exact z
   rw[q] at q'; cases q'
   obtain⟨v,hv⟩:=heo
   exact⟨v,by rw[hbe]; exact hv⟩
  ·refine(ok b u q).stay (fun c v hc r=>k c v ?_ r) (fun c r=>by rw[upd_ne (nown c b r)]; exact r) fun c xs r=>by rw[upd_ne (ntup c xs r)]; exact r
   rcases hc with rfl|hc
   ·exact hbe
   ·rintro rfl
    rcases he with z|z
    ·exact nown c b hc z
    ·rw[hc] at z; cases z; exact hb rfl
end
structure Un (fs ex:List Addr) (H H':Hp) (h h':Heap):Prop where
 keep:∀b o,h.get? b=some o->H b=none->b∉fs->b∉ex->h'.get? b=some o
 slot:∀b o,h.get? b=some o->H b=none->b∈fs->b∉ex->∃sl,h'.get? b=some { o with slots:=sl }
 free:∀b o,h.get? b=some o->H b=none->b∉ex->H' b=none
 there:∀b o,h.get? b=some o->b∉ex->∃o',h'.get? b=some o'
 tups:∀b xs,H b=some (.tup xs)->H' b=some (.tup xs)
 frzs:∀b o u,H b=some (.frz o u)->H' b=some (.frz o u)
 tbls:∀b ps,H b=some (.tbl ps)->∃more,H' b=some (.tbl (ps++more))
section
variable {fs ex:List Addr} {H H1 H2:Hp} {h h1 h2 h':Heap} {a x e:Addr} {o:HO}
theorem Un.any (u:Un fs ex H H1 h h1) {b:Addr} {ob:Obj} (q:h.get? b=some ob) (n:H b=none) (hx:b∉ex):∃sl,h1.get? b=some { ob with slots:=sl }:=by
 by_cases hb:b∈fs
 ·exact u.slot b ob q n hb hx
 ·exact⟨ob.slots,u.keep b ob q n hb hx⟩
theorem Un.trans (a:Un fs ex H H1 h h1) (b:Un fs ex H1 H2 h1 h2):Un fs ex H H2 h h2 where
 keep:=fun c ob q n hc hx=>b.keep c ob (a.keep c ob q n hc hx) (a.free c ob q n hx) hc hx
 slot:=fun c ob q n hc hx=>by
  obtain⟨sl,e1⟩:=a.slot c ob q n hc hx
  obtain⟨sl',e2⟩:=b.slot c _ e1 (a.free c ob q n hx) hc hx
  exact⟨sl',e2⟩
 free:=fun c ob q n hx=>by
  obtain⟨o',e1⟩:=a.there c ob q hx
  exact b.free c o' e1 (a.free c ob q n hx) hx
 there:=fun c ob q hx=>by
  obtain⟨o',e1⟩:=a.there c ob q hx
  exact b.there c o' e1 hx
 tups:=fun c xs q=>b.tups c xs (a.tups c xs q)
 frzs:=fun c ob xs q=>b.frzs c ob xs (a.frzs c ob xs q)
 tbls:=fun c ps q=>by
  obtain⟨m1,e1⟩:=a.tbls c ps q
  obtain⟨m2,e2⟩:=b.tbls c _ e1
  exact⟨m1++m2,by rw[e2,Array.append_assoc]⟩
theorem Un.kept (k:∀b u,h.get? b=some u->h'.get? b=some u):Un fs ex H H h h' :=
 ⟨fun b ob q _ _ _=>k b ob q,fun b ob q _ _ _=>⟨ob.slots,k b ob q⟩,fun _ _ _ n _=>n,fun b ob q _=>⟨ob,k b ob q⟩,fun _ _ q=>q,fun _ _ _ q=>q,fun _ ps q=>⟨#[],by rw[q]; simp⟩⟩
theorem Un.refl:Un fs ex H H h h:=Un.kept fun _ _ q=>q
theorem Un.laid (k:∀b u,h.get? b=some u->h'.get? b=some u) (hp:h.objs.size<=a) (hn:H a=none):Un fs ex H (upd H a o) h h' where
 keep:=fun b u q _ _ _=>k b u q
 slot:=fun b u q _ _ _=>⟨u.slots,k b u q⟩
 free:=fun b u q n _=>by rw[upd_ne (Nat.ne_of_lt (Nat.lt_of_lt_of_le (Heap.lt_size q) hp))]; exact n
 there:=fun b u q _=>⟨u,k b u q⟩
 tups:=fun b xs q=>by rw[upd_ne (qT q hn)]; exact q
 frzs:=fun b u xs q=>by rw[upd_ne (qT q hn)]; exact q
 tbls:=fun b ps q=>⟨#[],by rw[upd_ne (qT q hn),q]; simp⟩
theorem Un.write (mu:Mut (H x)) (he:e=x\/H e=some (.own x)) (k:∀b u,b≠e->h.get? b=some u->h'.get? b=some u) (heo:∃u,h'.get? e=some u):Un fs ex H (upd H x o) h h':=by
 have hx:∀b,H b=none->b≠x:=fun b n z=>by subst z; rw[n] at mu; exact mu
 have hb:∀b,H b=none->b≠e:=fun b n z=>by
  subst z
  rcases he with r|r
  ·exact hx b n r
  ·rw[n] at r; cases r
 have hm:∀b u,H b=some u->¬Mut (some u)->b≠x:=fun b u q nm z=>by subst z; rw[q] at mu; exact nm mu
 refine⟨fun b u q n _ _=>k b u (hb b n) q,fun b u q n _ _=>⟨u.slots,k b u (hb b n) q⟩,fun b u q n _=>by rw[upd_ne (hx b n)]; exact n,fun b u q _=>?_,
  fun b xs q=>by rw[upd_ne (hm b _ q fun z=>z)]; exact q,fun b u xs q=>by rw[upd_ne (hm b _ q fun z=>z)]; exact q,fun b ps q=>⟨#[],by rw[upd_ne (hm b _ q fun z=>z),q]; simp⟩⟩
 by_cases hbe:b=e
 ·subst hbe; exact heo
 ·exact⟨u,k b u hbe q⟩
end
def trk (h:Heap) (H:Hp):List Addr:=(List.range h.objs.size).filter fun a=>(H a).isSome
def hidT (h:Heap) (H:Hp):Heap:=PySem.W.hideAll h (trk h H)
theorem Kk (h:Heap) (H:Hp):(hidT h H).objs.size=h.objs.size:=PySem.W.hideAll_size _ _
theorem hidT_get {h:Heap} {H:Hp} {b:Addr} {o:Obj} (e:h.get? b=some o) (n:H b=none):(hidT h H).get? b=some o :=
 PySem.W.hideAll_get _ e fun hm=>by
  have q:(H b).isSome=true:=(List.mem_filter.mp hm).2
  rw[n] at q; simp at q
theorem of_hidT {h:Heap} {H:Hp} {b:Addr} {o:Obj} (e:(hidT h H).get? b=some o):h.get? b=some o/\H b=none:=by
 have e':h.get? b=some o:=PySem.W.of_hideAll (trk h H) e
 refine⟨e', ?_⟩
 cases q:H b with
 |none=>rfl
 |some x =>
  have hm:b∈trk h H:=List.mem_filter.mpr ⟨List.mem_range.mpr (Heap.lt_size e'),by simp[q]⟩
  have z:(hidT h H).get? b=none:=PySem.W.hideAll_none (trk h H) hm
  rw[z] at e; cases e
structure Mod (K:PySem.W.Frag) (mg:Str->Option Value) (base:Heap):Prop where
 kin:K.In base
 glob:base.Ns mainGlobals mg
 blt:∃mb,base.Ns builtinsNs mb/\∀x:Str,x ≠ "__name__" -> mb x=bootBuiltins x
 nolimit:base.NoLimit
structure Cx where
 prog:Program
 w:World
 K:PySem.W.Frag
 mg:Str->Option Value
 base:Heap
 A:Around
 N:List Str
 s₀:Shared
 H₀:Hp
 env:Env
 outer:List Env
 stack:List Env
 ex:List Addr
 fn:Str->Bool
 calm:Bool
 pn:List (Addr×Obj)
 xe:Value->Shared->Prop
def frs (l:List Env):List Addr:=l.filterMap (·.frame)
abbrev Cx.fs (X:Cx):List Addr:=frs X.outer
def Vis (sc:Scope) (x:Str):Prop:=sc.names.lookup x=some .local\/sc.names.lookup x=some .cell\/sc.names.lookup x=some .free
def Loc (sc:Scope) (x:Str):Prop:=sc.names.lookup x=some .local\/sc.names.lookup x=some .cell
def Look (env:Env) (h:Heap) (m:Str->Option Value) (x:Str) (u:Value):Prop :=
 (env.kindOf x=some .local/\m x=some u)\/((env.kindOf x=some .cell\/env.kindOf x=some .free)/\∃c,env.cells.lookup x=some c/\h.IsCell c (some u))
structure Cx.Ok (X:Cx):Prop where
 mod:Mod X.K X.mg X.base
 kind:X.env.scope.kind=.function
 glob:X.env.globals=mainGlobals
 blt:X.env.builtins=builtinsNs
 above:X.s₀.heap.objs.size<=X.env.locals
 inj:∀x y c,X.env.cells.lookup x=some c->X.env.cells.lookup y=some c->x=y
 has:∀x,(X.env.kindOf x=some .cell\/X.env.kindOf x=some .free)->∃c,X.env.cells.lookup x=some c
 cab:∀x c,X.fn x=true->X.env.cells.lookup x=some c->X.s₀.heap.objs.size<=c
 hd:X.calm=true->X.A.handled=none
 frames:X.A.frames=some X.stack
 stk:X.stack=X.outer\/(X.stack=X.env::X.outer/\X.env.frame=some X.env.locals)
 exf:∀b∈X.ex,b≠X.env.locals/\∀x c,X.env.cells.lookup x=some c->c≠b
 bs:∀b o,X.base.get? b=some o->X.s₀.heap.get? b=some o/\X.H₀ b=none
 bsz:X.base.objs.size<=X.s₀.heap.objs.size
 noex:∀b o,X.base.get? b=some o->b∉X.ex
 exfs:∀b∈X.ex,b∉X.fs
 funs:X.s₀.heap.FunFrames X.base X.outer
 frf:∀b∈X.fs,X.H₀ b=none
structure Inv (X:Cx) (pins:List (Addr×Obj)) (σ:List (Option V)) (H:Hp) (s:Shared):Prop where
 ok:X.Ok
 os:s.os=X.s₀.os
 bare:AllBare s.gens
 base:Un X.fs X.ex X.H₀ H X.s₀.heap s.heap
 loc:∃m,s.heap.Ns X.env.locals m/\∀(i:Nat) (x:Str) (v:V),X.N[i]?=some x->σ[i]?=some (some v)->Vis X.env.scope x->∃u,RelV v u/\Look X.env s.heap m x u
 cell:∀x c,X.env.cells.lookup x=some c->∃v,s.heap.IsCell c v
 free:H X.env.locals=none
 freeC:∀x c,X.env.cells.lookup x=some c->H c=none
 pin:∀p∈X.pn++pins,s.heap.get? p.1=some p.2/\H p.1=none/\p.1≠X.env.locals/\p.1∉X.fs/\∀v,p.2.data ≠ .cell v
 hok:HOk X.prog X.w H s.heap
 len:σ.length=X.N.length
section
variable {X:Cx} {pins:List (Addr×Obj)} {σ:List (Option V)} {H H':Hp} {s:Shared} {h':Heap}
theorem Cx.Ok.nofr (ok:X.Ok) {b:Addr} {o:Obj} (e:X.base.get? b=some o):b∉X.fs:=fun hb=>by
 have:=(ok.funs.mem hb).1
 rw[e] at this; cases this
theorem Inv.bs (I:Inv X pins σ H s):∀b o,X.base.get? b=some o->s.heap.get? b=some o/\H b=none:=fun b o e =>
 ⟨I.base.keep b o (I.ok.bs b o e).1 (I.ok.bs b o e).2 (I.ok.nofr e) (I.ok.noex b o e),I.base.free b o (I.ok.bs b o e).1 (I.ok.bs b o e).2 (I.ok.noex b o e)⟩
theorem Inv.bk (I:Inv X pins σ H s):∀b o,X.base.get? b=some o->s.heap.get? b=some o:=fun b o e=>(I.bs b o e).1
theorem Inv.mod (I:Inv X pins σ H s):Mod X.K X.mg X.base:=I.ok.mod
theorem Inv.kIn (I:Inv X pins σ H s):X.K.In s.heap:=I.ok.mod.kin.keeps I.bk
theorem Inv.fr (I:Inv X pins σ H s):∃m,Fr X.base X.env.locals s.heap m :=
 let⟨m,hn,_⟩:=I.loc
 ⟨m,hn,I.bk,Nat.le_trans I.ok.bsz I.ok.above⟩
theorem Inv.lt (I:Inv X pins σ H s):X.env.locals<s.heap.objs.size:=let⟨_,hn,_⟩:=I.loc; hn.lt
theorem Inv.sz (I:Inv X pins σ H s):X.s₀.heap.objs.size<=s.heap.objs.size:=Nat.le_trans I.ok.above (Nat.le_of_lt I.lt)
theorem Inv.nofs (I:Inv X pins σ H s) {a:Addr} (h:s.heap.objs.size<=a):a∉X.fs:=fun hb=>by
 obtain⟨_,o,ho,_⟩:=I.ok.funs.mem hb
 exact absurd (Nat.lt_of_lt_of_le (Heap.lt_size ho) (Nat.le_trans I.sz h)) (Nat.lt_irrefl _)
theorem Inv.cne (I:Inv X pins σ H s):∀x c,X.env.cells.lookup x=some c->c≠X.env.locals:=fun x c e z=>by
 obtain⟨v,o,ho,hd⟩:=I.cell x c e
 obtain⟨m,⟨o',es,ep,ho',hd',_⟩,_⟩:=I.loc
 rw[z,ho'] at ho; cases ho; rw[hd'] at hd; cases hd
theorem Inv.funs (I:Inv X pins σ H s):s.heap.FunFrames X.base X.outer:=by
 have all:∀(l:List Env),(∀b∈frs l,b∈X.fs)->X.s₀.heap.FunFrames X.base l->s.heap.FunFrames X.base l:=by
  intro l
  induction l with
  |nil=>intro _ _; trivial
  |cons env r ih =>
   intro hs hl
   obtain⟨hk,⟨L,o,hf,hn,ho,hd⟩,hr⟩:=hl
   have hL:L∈X.fs:=hs L (by unfold frs; rw[List.filterMap_cons,hf]; exact List.mem_cons_self)
   obtain⟨sl,e⟩:=I.base.slot L o ho (I.ok.frf L hL) hL fun z=>I.ok.exfs L z hL
   exact⟨hk,⟨L,_,hf,hn,e,hd⟩,ih (fun b hb=>hs b (by unfold frs; rw[List.filterMap_cons,hf]; exact List.mem_cons_of_mem _ hb)) hr⟩
 exact all X.outer (fun _ hb=>hb) I.ok.funs
theorem Inv.stack (I:Inv X pins σ H s):s.heap.FunFrames X.base X.stack:=by
 rcases I.ok.stk with e|⟨e,hf⟩
 ·rw[e]; exact I.funs
 ·rw[e]
  obtain⟨m,hn,_⟩:=I.loc
  refine .cons (by rw[I.ok.kind]; decide) hf hn ?_ I.funs
  exact Heap.get?_none_of_le (Nat.le_trans I.ok.bsz I.ok.above)
theorem Inv.stkSub (I:Inv X pins σ H s):∀b∈frs X.stack,b∈X.env.locals::X.fs:=fun b hb=>by
 rcases I.ok.stk with e|⟨e,hf⟩
 ·rw[e] at hb; exact List.mem_cons_of_mem _ hb
 ·rw[e] at hb
  unfold frs at hb
  rw[List.filterMap_cons,hf] at hb
  exact hb
theorem Inv.stkFree (I:Inv X pins σ H s):∀b∈frs X.stack,H b=none:=fun b hb=>by
 rcases List.mem_cons.mp (I.stkSub b hb) with e|hb
 ·rw[e]; exact I.free
 ·obtain⟨_,o,ho,_⟩:=I.ok.funs.mem hb
  exact I.base.free b o ho (I.ok.frf b hb) fun z=>I.ok.exfs b z hb
theorem Inv.step {g':Array GenState} {t':Nat} {d':Drawn} {ch:List Addr} (I:Inv X pins σ H s)
  (hch:∀b∈ch,(b∈X.ex\/X.s₀.heap.objs.size<=b)/\b≠X.env.locals/\(∀x c,X.env.cells.lookup x=some c->c≠b)/\∀p∈X.pn++pins,p.1≠b)
  (keep:∀b o,b≠X.env.locals->b∉X.fs->b∉ch->s.heap.get? b=some o->H b=none->h'.get? b=some o)
  (slot:∀b o,b≠X.env.locals->b∈X.fs->b∉ch->s.heap.get? b=some o->H b=none->∃sl,h'.get? b=some { o with slots:=sl }) (free:∀b o,b∉ch->s.heap.get? b=some o->H b=none->H' b=none)
  (there:∀b o,b∉ch->s.heap.get? b=some o->∃o',h'.get? b=some o')
  (tups:∀b xs,H b=some (.tup xs)->H' b=some (.tup xs)) (frzs:∀b o u,H b=some (.frz o u)->H' b=some (.frz o u)) (tbls:∀b ps,H b=some (.tbl ps)->∃more,H' b=some (.tbl (ps++more)))
  (ns:∀m,s.heap.Ns X.env.locals m->h'.Ns X.env.locals m) (hok:HOk X.prog X.w H' h') (hg:AllBare g') :
  Inv X pins σ H' { s with heap:=h',gens:=g',drawn:=d',toks:=t' }:=by
 have neL:∀b o,X.s₀.heap.get? b=some o->b≠X.env.locals:=fun b o e=>Nat.ne_of_lt (Nat.lt_of_lt_of_le (Heap.lt_size e) I.ok.above)
 have neC:∀b o,X.s₀.heap.get? b=some o->b∉X.ex->b∉ch:=fun b o e hx hb=>by
  rcases(hch b hb).1 with z|z
  ·exact hx z
  ·exact absurd (Nat.lt_of_lt_of_le (Heap.lt_size e) z) (Nat.lt_irrefl _)
 have cellK:∀x c,X.env.cells.lookup x=some c->∀v,s.heap.IsCell c v->h'.IsCell c v:=fun x c e v ⟨o,ho,hd⟩=>by
  have nch:c∉ch:=fun z=>(hch c z).2.2.1 x c e rfl
  by_cases hc:c∈X.fs
  ·obtain⟨sl,q⟩:=slot c o (I.cne x c e) hc nch ho (I.freeC x c e)
   exact⟨_,q,hd⟩
  ·exact⟨o,keep c o (I.cne x c e) hc nch ho (I.freeC x c e),hd⟩
 refine⟨I.ok,I.os,hg,⟨fun b o e n hb hx=>?_,fun b o e n hb hx=>?_,fun b o e n hx=>?_,fun b o e hx=>?_,fun b xs e=>tups b xs (I.base.tups b xs e),fun b o xs e=>frzs b o xs (I.base.frzs b o xs e),fun b ps e=>?_⟩, ?_,fun x c e=>?_, ?_,fun x c e=>?_,fun p hp=>?_,hok,I.len⟩
 ·exact keep b o (neL b o e) hb (neC b o e hx) (I.base.keep b o e n hb hx) (I.base.free b o e n hx)
 ·obtain⟨sl,e1⟩:=I.base.slot b o e n hb hx
  obtain⟨sl',e2⟩:=slot b _ (neL b o e) hb (neC b o e hx) e1 (I.base.free b o e n hx)
  exact⟨sl',e2⟩
 ·obtain⟨o',e1⟩:=I.base.there b o e hx
  exact free b o' (neC b o e hx) e1 (I.base.free b o e n hx)
 ·obtain⟨o',e1⟩:=I.base.there b o e hx
  exact there b o' (neC b o e hx) e1
 ·obtain⟨m1,e1⟩:=I.base.tbls b ps e
  obtain⟨m2,e2⟩:=tbls b _ e1
  exact⟨m1++m2,by rw[e2,Array.append_assoc]⟩
 ·obtain⟨m,hn,hl⟩:=I.loc
  refine⟨m,ns m hn,fun i x v e1 e2 e3=>?_⟩
  obtain⟨u,r,l⟩:=hl i x v e1 e2 e3
  refine⟨u,r, ?_⟩
  rcases l with l|⟨k,c,e,z⟩
  ·exact .inl l
  ·exact .inr ⟨k,c,e,cellK x c e _ z⟩
 ·obtain⟨v,z⟩:=I.cell x c e
  exact⟨v,cellK x c e v z⟩
 ·obtain⟨m,⟨o,_,_,ho,_⟩,_⟩:=I.loc
  exact free _ o (fun z=>(hch _ z).2.1 rfl) ho I.free
 ·obtain⟨v,o,ho,hd⟩:=I.cell x c e
  exact free c o (fun z=>(hch c z).2.2.1 x c e rfl) ho (I.freeC x c e)
 ·obtain⟨e,n,ne,nf,d⟩:=I.pin p hp
  have nch:p.1∉ch:=fun z=>(hch p.1 z).2.2.2 p hp rfl
  exact⟨keep p.1 p.2 ne nf nch e n,free p.1 p.2 nch e n,ne,nf,d⟩
theorem Inv.un {t':Nat} (I:Inv X pins σ H s) (u:Un X.fs [] H H' s.heap h') (hok:HOk X.prog X.w H' h'):Inv X pins σ H' { s with heap:=h',toks:=t' }:=by
 obtain⟨m,⟨o,es,ep,ho,r⟩,_⟩:=id I.loc
 obtain⟨sl,hL⟩:=u.any ho I.free (by simp)
 exact I.step (g':=s.gens) (d':=s.drawn) (ch:=[]) (fun _ z=>nomatch z) (fun b o _ hb _ e n=>u.keep b o e n hb (by simp)) (fun b o _ hb _ e n=>u.slot b o e n hb (by simp)) (fun b o _ e n=>u.free b o e n (by simp)) (fun b o _ e=>u.there b o e (by simp)) u.tups u.frzs u.tbls (fun m' hm=>by
  obtain⟨o',es',ep',ho',r'⟩:=hm
  rw[ho] at ho'; cases ho'
  exact⟨_,es',ep',hL,r'⟩) hok I.bare
theorem Inv.call {g':Array GenState} {t':Nat} {d':Drawn} {ch:List Addr} (I:Inv X pins σ H s) (u:Un (frs X.stack) ch H H' s.heap h') (hok:HOk X.prog X.w H' h') (hg:AllBare g')
  (hch:∀b∈ch,(b∈X.ex\/X.s₀.heap.objs.size<=b)/\b≠X.env.locals/\(∀x c,X.env.cells.lookup x=some c->c≠b)/\∀p∈X.pn++pins,p.1≠b) :
  Inv X pins σ H' { s with heap:=h',gens:=g',drawn:=d',toks:=t' }:=by
 obtain⟨m,⟨o,es,ep,ho,r⟩,_⟩:=id I.loc
 obtain⟨sl,hL⟩:=u.any ho I.free fun z=>(hch _ z).2.1 rfl
 exact I.step (ch:=ch) hch (fun b o hL hb hc e n=>u.keep b o e n (fun z=>(List.mem_cons.mp (I.stkSub b z)).elim hL hb) hc) (fun b o _ _ hc e n=>u.any e n hc) (fun b o hc e n=>u.free b o e n hc) (fun b o hc e=>u.there b o e hc) u.tups u.frzs u.tbls (fun m' hm=>by
  obtain⟨o',es',ep',ho',r'⟩:=hm
  rw[ho] at ho'; cases ho'
  exact⟨_,es',ep',hL,r'⟩) hok hg
theorem Inv.turned {t':Nat} {it:Addr} (I:Inv X pins σ H s) (k:∀b o,b≠it->s.heap.get? b=some o->h'.get? b=some o) (hn:H it=none) (hL:it≠X.env.locals)
  (h1:it∈X.ex\/X.s₀.heap.objs.size<=it) (h2:∀x c,X.env.cells.lookup x=some c->c≠it) (h3:∀p∈X.pn++pins,p.1≠it):Inv X pins σ H { s with heap:=h',toks:=t' }:=by
 have nit:∀b u,H b=some u->b≠it:=fun b u e z=>by rw[z,hn] at e; cases e
 refine I.step (g':=s.gens) (d':=s.drawn) (ch:=[it]) (fun b hb=>?_) (fun b o _ _ hc e _=>k b o (fun z=>hc (by simp[z])) e) (fun b o _ _ hc e _=>⟨o.slots,k b o (fun z=>hc (by simp[z])) e⟩) (fun _ _ _ _ n=>n)
  (fun b o hc e=>⟨o,k b o (fun z=>hc (by simp[z])) e⟩) (fun _ _ e=>e) (fun _ _ _ e=>e) (fun b ps e=>⟨#[],by rw[e]; simp⟩) (fun m hm=>?_) (fun b u e=>?_) I.bare
 ·have e:b=it:=by simpa using hb
  subst e
  exact⟨h1,hL,h2,h3⟩
 ·obtain⟨o,es,ep,ho,r⟩:=hm
  exact⟨o,es,ep,k _ o (Ne.symm hL) ho,r⟩
 ·refine(I.hok b u e).stay (fun c v hc q=>k c v ?_ q) (fun _ q=>q) fun _ _ q=>q
  rcases hc with z|z
  ·rw[z]; exact nit b u e
  ·exact nit c _ z
theorem Inv.tok (I:Inv X pins σ H s) (t:Nat):Inv X pins σ H { s with toks:=t }:=I.un (h':=s.heap) (t':=t) Un.refl I.hok
theorem Inv.kept {t':Nat} (I:Inv X pins σ H s) (k:∀b u,s.heap.get? b=some u->h'.get? b=some u):Inv X pins σ H { s with heap:=h',toks:=t' }:=I.un (Un.kept k) (I.hok.kept k)
theorem Inv.laid {a:Addr} {o:HO} {t':Nat} (I:Inv X pins σ H s) (k:∀b u,s.heap.get? b=some u->h'.get? b=some u) (hp:s.heap.objs.size<=a) (new:ObjOk X.prog X.w (upd H a o) h' a o) :
  Inv X pins σ (upd H a o) { s with heap:=h',toks:=t' }:=I.un (Un.laid k hp (I.hok.fresh hp)) (I.hok.laid k hp new)
theorem Inv.write {x e:Addr} {o:HO} {t':Nat} (I:Inv X pins σ H s) (mu:Mut (H x)) (he:e=x\/H e=some (.own x)) (k:∀b u,b≠e->s.heap.get? b=some u->h'.get? b=some u) (heo:∃u,h'.get? e=some u)
  (new:ObjOk X.prog X.w (upd H x o) h' x o):Inv X pins σ (upd H x o) { s with heap:=h',toks:=t' }:=I.un (Un.write mu he k heo) (I.hok.write mu he k heo new)
theorem Inv.weak {σ':List (Option V)} (I:Inv X pins σ H s) (hl:σ'.length=σ.length) (w:∀(i:Nat) v,σ'[i]?=some (some v)->σ[i]?=some (some v)):Inv X pins σ' H s :=
 ⟨I.ok,I.os,I.bare,I.base,let⟨m,hn,hl'⟩:=I.loc; ⟨m,hn,fun i x v e1 e2 e3=>hl' i x v e1 (w i v e2) e3⟩,I.cell,I.free,I.freeC,I.pin,I.hok,hl.trans I.len⟩
theorem Inv.pins_of {pins':List (Addr×Obj)} (I:Inv X pins σ H s) (h:∀p∈pins',s.heap.get? p.1=some p.2/\H p.1=none/\p.1≠X.env.locals/\p.1∉X.fs/\∀v,p.2.data ≠ .cell v):Inv X pins' σ H s :=
 ⟨I.ok,I.os,I.bare,I.base,I.loc,I.cell,I.free,I.freeC,fun p hp=>(List.mem_append.mp hp).elim (fun z=>I.pin p (List.mem_append_left _ z)) (h p),I.hok,I.len⟩
theorem QJ {N:List Str} (hN:N.Nodup) {i j:Nat} {x:Str} (a:N[i]?=some x) (b:N[j]?=some x):i=j:=by
 obtain⟨h1,e1⟩:=List.getElem?_eq_some_iff.mp a
 obtain⟨h2,e2⟩:=List.getElem?_eq_some_iff.mp b
 exact(List.getElem_inj hN).mp (e1.trans e2.symm)
theorem Vf {M:Model} {A:Around} {E:Value->Shared->Prop} {i:Nat} {x:Str} {v:V} {u:Value} {Q:Unit->Shared->Prop} (I:Inv X pins σ H s) (hN:X.N.Nodup) (hi:X.N[i]?=some x) (hx:Loc X.env.scope x) (r:RelV v u)
  (h:∀s',Inv X pins (σ.set i (some v)) H s'->(∃a,Heap.SameBut a s.heap s'.heap/\(a=X.env.locals\/X.env.cells.lookup x=some a))->Q () s') (hf:X.fn x=true\/X.env.scope.names.lookup x=some .local:=by first|exact .inl rfl|exact .inr rfl|assumption):wpAny M A (storeName X.env x u) Q E s:=by
 obtain⟨m,hn,hl⟩:=id I.loc
 have hcls:(X.env.scope.kind == .class||(X.env.scope.kind == .module&&X.env.locals != X.env.globals))=false:=by rw[I.ok.kind]; rfl
 have hiσ:i<σ.length:=by rw[I.len]; exact(List.getElem?_eq_some_iff.mp hi).1
 have cne:=I.cne
 have tracked:∀{a:Addr} {h':Heap},(∃o,s.heap.get? a=some o/\H a=none)->Heap.SameBut a s.heap h'->HOk X.prog X.w H h':=fun {a h'} ha hs b ob e=>by
  obtain⟨_,_,hfree⟩:=ha
  refine(I.hok b ob e).stay (fun c w' hc q=>(hs.2 c ?_).trans q) (fun _ q=>q) fun _ _ q=>q
  rintro rfl
  rcases hc with rfl|hc
  ·rw[hfree] at e; cases e
  ·rw[hfree] at hc; cases hc
 rcases hx with hk|hk
 ·refine wpAny_storeName_local hk hn (fun h' hn' hs=>?_) hcls
  obtain⟨oL,_,_,hoL,_⟩:=id hn
  refine h _ ⟨I.ok,I.os,I.bare,⟨fun b o e n hb hx=>?_,fun b o e n hb hx=>?_,I.base.free,fun b o e hx=>?_,I.base.tups,I.base.frzs,I.base.tbls⟩,⟨_,hn',fun j y v' e1 e2 e3=>?_⟩,fun y c e=>?_,I.free,I.freeC,fun p hp=>?_,tracked ⟨oL,hoL,I.free⟩ hs,by simpa using I.len⟩ ⟨_,hs, .inl rfl⟩
  ·exact(hs.2 b (Nat.ne_of_lt (Nat.lt_of_lt_of_le (Heap.lt_size e) I.ok.above))).trans (I.base.keep b o e n hb hx)
  ·obtain⟨sl,e1⟩:=I.base.slot b o e n hb hx
   exact⟨sl,(hs.2 b (Nat.ne_of_lt (Nat.lt_of_lt_of_le (Heap.lt_size e) I.ok.above))).trans e1⟩
  ·obtain⟨o',e1⟩:=I.base.there b o e hx
   exact⟨o',(hs.2 b (Nat.ne_of_lt (Nat.lt_of_lt_of_le (Heap.lt_size e) I.ok.above))).trans e1⟩
  ·by_cases hj:j=i
   ·subst hj
    rw[hi] at e1; cases e1
    rw[List.getElem?_set_self hiσ] at e2
    cases e2
    exact⟨u,r, .inl ⟨hk,by simp⟩⟩
   ·rw[List.getElem?_set_ne (Ne.symm hj)] at e2
    obtain⟨u',r',q⟩:=hl j y v' e1 e2 e3
    refine⟨u',r', ?_⟩
    rcases q with⟨k,e⟩|⟨k,c,e,z⟩
    ·refine .inl ⟨k, ?_⟩
     have:y≠x:=fun e=>hj (QJ hN e1 (e▸hi))
     simp[this,e]
    ·exact .inr ⟨k,c,e,z.sameBut hs (cne y c e)⟩
  ·obtain⟨w',z⟩:=I.cell y c e
   exact⟨w',z.sameBut hs (cne y c e)⟩
  ·obtain⟨e,n,ne,nf,d⟩:=I.pin p hp
   exact⟨(hs.2 p.1 ne).trans e,n,ne,nf,d⟩
 ·have hfn:X.fn x=true:=by
   rcases hf with z|z
   ·exact z
   ·rw[z] at hk; cases hk
  obtain⟨c,hc⟩:=I.ok.has x (.inl hk)
  obtain⟨w',z⟩:=I.cell x c hc
  refine wpAny_storeName_cell I.ok.kind hk hc z (fun h' hc' hs=>?_)
  obtain⟨oc,hoc,hocd⟩:=id z
  refine h { s with heap:=h' } ⟨I.ok,I.os,I.bare,⟨fun b o e n hb hx=>?_,fun b o e n hb hx=>?_,I.base.free,fun b o e hx=>?_,I.base.tups,I.base.frzs,I.base.tbls⟩,⟨m,hn.sameBut hs (Ne.symm (cne x c hc)),fun j y v' e1 e2 e3=>?_⟩,fun y c' e=>?_,I.free,I.freeC,fun p hp=>?_,tracked ⟨oc,hoc,I.freeC x c hc⟩ hs,by simpa using I.len⟩ ⟨c,hs, .inr hc⟩
  ·exact(hs.2 b (Nat.ne_of_lt (Nat.lt_of_lt_of_le (Heap.lt_size e) (I.ok.cab x c hfn hc)))).trans (I.base.keep b o e n hb hx)
  ·obtain⟨sl,e1⟩:=I.base.slot b o e n hb hx
   exact⟨sl,(hs.2 b (Nat.ne_of_lt (Nat.lt_of_lt_of_le (Heap.lt_size e) (I.ok.cab x c hfn hc)))).trans e1⟩
  ·obtain⟨o',e1⟩:=I.base.there b o e hx
   exact⟨o',(hs.2 b (Nat.ne_of_lt (Nat.lt_of_lt_of_le (Heap.lt_size e) (I.ok.cab x c hfn hc)))).trans e1⟩
  ·by_cases hj:j=i
   ·subst hj
    rw[hi] at e1; cases e1
    rw[List.getElem?_set_self hiσ] at e2
    cases e2
    exact⟨u,r, .inr ⟨.inl hk,c,hc,hc'⟩⟩
   ·rw[List.getElem?_set_ne (Ne.symm hj)] at e2
    obtain⟨u',r',q⟩:=hl j y v' e1 e2 e3
    refine⟨u',r', ?_⟩
    rcases q with q|⟨k,c',e,z'⟩
    ·exact .inl q
    ·refine .inr ⟨k,c',e,z'.sameBut hs ?_⟩
     rintro rfl
     exact hj (QJ hN e1 (I.ok.inj _ _ _ e hc▸hi))
  ·by_cases hcc:c'=c
   ·subst hcc; exact⟨_,hc'⟩
   ·obtain⟨w2,z2⟩:=I.cell y c' e
    exact⟨w2,z2.sameBut hs hcc⟩
  ·obtain⟨e,n,ne,nf,d⟩:=I.pin p hp
   refine⟨(hs.2 p.1 ?_).trans e,n,ne,nf,d⟩
   intro q
   rw[q,hoc] at e
   have q':oc=p.2:=Option.some.inj e
   exact d w' (by rw[<-q']; exact hocd)
theorem jb {M:Model} {A:Around} {E:Value->Shared->Prop} {i:Nat} {x:Str} {v:V} {u:Value} {Q:Unit->Shared->Prop} (I:Inv X pins σ H s) (hN:X.N.Nodup) (hi:X.N[i]?=some x) (hx:Loc X.env.scope x) (r:RelV v u)
  (h:∀s',Inv X pins (σ.set i (some v)) H s'->Q () s') (hf:X.fn x=true\/X.env.scope.names.lookup x=some .local:=by first|exact .inl rfl|exact .inr rfl|assumption):wpAny M A (storeName X.env x u) Q E s :=
 Vf I hN hi hx r (fun s' I' _=>h s' I') hf
theorem Inv.call' {s':Shared} {ch:List Addr} (I:Inv X pins σ H s) (ho:s'.os=s.os) (u:Un (frs X.stack) ch H H' s.heap s'.heap) (hok:HOk X.prog X.w H' s'.heap) (hg:AllBare s'.gens)
  (hch:∀b∈ch,(b∈X.ex\/X.s₀.heap.objs.size<=b)/\b≠X.env.locals/\(∀x c,X.env.cells.lookup x=some c->c≠b)/\∀p∈X.pn++pins,p.1≠b):Inv X pins σ H' s':=by
 obtain⟨h',g',d',t',o'⟩:=s'
 have e:o'=s.os:=ho
 subst e
 exact I.call (g':=g') (t':=t') (d':=d') u hok hg hch
end
abbrev XK:=Value->Option Addr->Hp->Prop
abbrev St:=List (Option V)
abbrev VK:=V->Hp->Prop
abbrev TE:=St->Hp->VK->Prop
abbrev TT:=St->Hp->(Bool->Hp->Prop)->Prop
abbrev TA:=St->Hp->(List V->Hp->Prop)->Prop
structure Ends where
 nx:St->Hp->Prop
 rt:VK
 bk:St->Hp->Prop:=fun _ _=>False
 ct:St->Hp->Prop:=fun _ _=>False
abbrev TS:=Ends->St->Hp->Prop
def EP (X:Cx) (pins:List (Addr×Obj)) (σ:St) (Q:VK) (u:Value) (s':Shared):Prop:=∃v H',Inv X pins σ H' s'/\RelV v u/\Q v H'
def TP (X:Cx) (pins:List (Addr×Obj)) (σ:St) (Q:Bool->Hp->Prop) (b:Bool) (s':Shared):Prop:=∃H',Inv X pins σ H' s'/\Q b H'
def AP (X:Cx) (pins:List (Addr×Obj)) (σ:St) (Q:List V->Hp->Prop) (us:List Value) (s':Shared):Prop:=∃vs H',Inv X pins σ H' s'/\Vals vs us/\Q vs H'
def SP (X:Cx) (pins:List (Addr×Obj)) (D:Ends) (f:Flow) (s':Shared):Prop :=
 match f with
 |.next=>∃σ' H',Inv X pins σ' H' s'/\D.nx σ' H'
 |.brk=>∃σ' H',Inv X pins σ' H' s'/\D.bk σ' H'
 |.cont=>∃σ' H',Inv X pins σ' H' s'/\D.ct σ' H'
 |.ret u=>∃v σ' H',Inv X pins σ' H' s'/\RelV v u/\D.rt v H'
def PE (X:Cx) (e:Expr) (t:TE):Prop :=
 ∀(pins:List (Addr×Obj)) (s:Shared) (σ:St) (H:Hp) (Q:VK),Inv X pins σ H s->t σ H Q->wpAny (model X.prog X.w) X.A (eval e X.env) (EP X pins σ Q) X.xe s
def PT (X:Cx) (e:Expr) (t:TT):Prop :=
 ∀(pins:List (Addr×Obj)) (s:Shared) (σ:St) (H:Hp) (Q:Bool->Hp->Prop),Inv X pins σ H s->t σ H Q->wpAny (model X.prog X.w) X.A (isTrue e X.env (eval e X.env)) (TP X pins σ Q) X.xe s
def PW (X:Cx) (e:Expr) (t:TT):Prop :=
 ∀(whole:Sem Value) (pins:List (Addr×Obj)) (s:Shared) (σ:St) (H:Hp) (Q:Bool->Hp->Prop),Inv X pins σ H s->t σ H Q->wpAny (model X.prog X.w) X.A (isTrue e X.env whole) (TP X pins σ Q) X.xe s
theorem PW.pt {X:Cx} {e:Expr} {t:TT} (h:PW X e t):PT X e t:=h _
def PA (X:Cx) (es:List Expr) (t:TA):Prop :=
 ∀(pos:Pos) (pins:List (Addr×Obj)) (s:Shared) (σ:St) (H:Hp) (Q:List V->Hp->Prop),Inv X pins σ H s->t σ H Q->wpAny (model X.prog X.w) X.A (spliced (backTo pos (starEach es X.env))) (AP X pins σ Q) X.xe s
def PS (X:Cx) (st:Stmt) (t:TS):Prop :=
 ∀(pins:List (Addr×Obj)) (s:Shared) (σ:St) (H:Hp) (D:Ends),Inv X pins σ H s->t D σ H->wpAny (model X.prog X.w) X.A (exec st X.env) (SP X pins D) X.xe s
def PSs (X:Cx) (st:List Stmt) (t:TS):Prop :=
 ∀(pins:List (Addr×Obj)) (s:Shared) (σ:St) (H:Hp) (D:Ends),Inv X pins σ H s->t D σ H->wpAny (model X.prog X.w) X.A (execs st X.env) (SP X pins D) X.xe s
theorem thn {α:Type} {t:Sem α} {Q Q':α->Shared->Prop} {M:Model} {A:Around} {E:Value->Shared->Prop} {s:Shared} (h:wpAny M A t Q E s) (hQ:∀a s,Q a s->Q' a s):wpAny M A t Q' E s:=wpAny_mono h hQ fun _ _ x=>x
section
variable {X:Cx}
theorem bin {a b:Expr} {ta tb:TE} (ha:PE X a ta) (hb:PE X b tb) {pins:List (Addr×Obj)} {s:Shared} {σ:St} {H:Hp} {R:V->V->Hp->Prop} (I:Inv X pins σ H s) (h:ta σ H fun x H1=>tb σ H1 fun y H2=>R x y H2)
  {α:Type} {Q:α->Shared->Prop} {f:Value->Value->Sem α}
  (hf:∀v u s2 x y H2,Inv X pins σ H2 s2->RelV x v->RelV y u->R x y H2->wpAny (model X.prog X.w) X.A (f v u) Q X.xe s2) :
  wpAny (model X.prog X.w) X.A (eval a X.env) (fun v s₁=>wpAny (model X.prog X.w) X.A (eval b X.env) (fun u s₂=>wpAny (model X.prog X.w) X.A (f v u) Q X.xe s₂) X.xe s₁) X.xe s:=by
 refine thn (ha pins s σ H _ I h) fun v s1 ⟨x,H1,I1,r1,q1⟩=>?_
 refine thn (hb pins s1 σ H1 _ I1 q1) fun u s2 ⟨y,H2,I2,r2,q2⟩=>?_
 exact hf v u s2 x y H2 I2 r1 r2 q2
def tVar (i:Nat):TE:=fun σ H Q=>∃v,σ[i]?=some (some v)/\Q v H
def tC (v:V):TE:=fun _ H Q=>Q v H
theorem pe_var {i:Nat} {x:Str} {pos:Pos} (hN:X.N[i]?=some x) (hv:Vis X.env.scope x) (hd:(x==("__debug__" : Str))=false:=by decide) (hcd:(x==("__classdict__" : Str))=false:=by decide):PE X (.Name x pos) (tVar i):=by
 intro pins s σ H Q I h
 obtain⟨v,e,h⟩:=h
 obtain⟨m,hn,hl⟩:=I.loc
 obtain⟨u,r,l⟩:=hl i x v hN e hv
 have fin:EP X pins σ Q u s:=⟨v,H,I,r,h⟩
 rcases l with⟨hk,hm⟩|⟨hk,c,hc,hcell⟩
 ·exact wpAny_Name (wpAny_loadName_local I.ok.kind hk hn hm fin) hd
 ·rcases hk with hk|hk
  ·exact wpAny_Name (wpAny_loadName_cell I.ok.kind hk hc hcell fin) hd
  ·exact wpAny_Name (wpAny_loadName_free I.ok.kind hk hc hcell fin hcd) hd
theorem pe_int {i j pos}:PE X (.Constant (.int i) j pos) (tC (.int i)):=fun _ _ _ H _ I h=>wpAny_Constant_int ⟨.int i,H,I.tok _,⟨_,rfl⟩,h⟩
theorem pe_bl {b j pos}:PE X (.Constant (.bool b) j pos) (tC (.bl b)):=fun _ _ _ H _ I h=>Constant_bool ⟨.bl b,H,I,rfl,h⟩
theorem pe_non {j pos}:PE X (.Constant .none j pos) (tC .non):=fun _ _ _ H _ I h=>Constant_none ⟨.non,H,I,rfl,h⟩
theorem pe_str {x j pos}:PE X (.Constant (.str x) j pos) (tC (.str x)):=fun _ _ _ H _ I h=>Calls.Constant_str ⟨.str x,H,I.tok _,⟨_,rfl⟩,h⟩
def Gl (X:Cx) (x:Str):Prop:=X.env.kindOf x=some .globalImplicit
theorem kB {E:Value->Shared->Prop} {pins:List (Addr×Obj)} {s:Shared} {σ:St} {H:Hp} {x:Str} {u:Value} {pos:Pos} {Q:Value->Shared->Prop} (I:Inv X pins σ H s) (hg:Gl X x) (hm:X.mg x=some u) (h:Q u s)
  (hd:(x==("__debug__" : Str))=false:=by decide):wpAny (model X.prog X.w) X.A (eval (.Name x pos) X.env) Q E s :=
 Calls.Name_function_global I.ok.kind hg (Calls.loadGlobal_global (by rw[I.ok.glob]; exact I.mod.glob.keeps I.bk) hm h) hd
theorem Z3 {E:Value->Shared->Prop} {pins:List (Addr×Obj)} {s:Shared} {σ:St} {H:Hp} {x:Str} {u:Value} {pos:Pos} {Q:Value->Shared->Prop} (I:Inv X pins σ H s) (hg:Gl X x) (hm:X.mg x=none) (hv:bootBuiltins x=some u) (h:Q u s)
  (hn:x ≠ "__name__" := by decide) (hd:(x==("__debug__" : Str))=false:=by decide):wpAny (model X.prog X.w) X.A (eval (.Name x pos) X.env) Q E s:=by
 obtain⟨mb,h1,h2⟩:=I.mod.blt
 exact Calls.Name_function_global I.ok.kind hg (Calls.loadGlobal_builtin (by rw[I.ok.glob]; exact I.mod.glob.keeps I.bk) hm (by rw[I.ok.blt]; exact h1.keeps I.bk) ((h2 x hn).trans hv) h) hd
theorem Ze {x:Str} {v:V} {u:Value} {pos:Pos} (hg:Gl X x) (hm:X.mg x=some u) (r:RelV v u) (hd:(x==("__debug__" : Str))=false:=by decide):PE X (.Name x pos) (tC v) :=
 fun _ _ _ H _ I h=>kB I hg hm ⟨v,H,I,r,h⟩ hd
theorem pe_bltn {x:Str} {v:V} {u:Value} {pos:Pos} (hg:Gl X x) (hm:X.mg x=none) (hv:bootBuiltins x=some u) (r:RelV v u) (hn:x ≠ "__name__" := by decide) (hd:(x==("__debug__" : Str))=false:=by decide):PE X (.Name x pos) (tC v) :=
 fun _ _ _ H _ I h=>Z3 I hg hm hv ⟨v,H,I,r,h⟩ hn hd
variable {a b:Expr} {ta tb:TE} {pos:Pos}
def PC (X:Cx) (op:CmpOp) (a b:Expr) (t:TE):Prop :=
 ∀(pins:List (Addr×Obj)) (s:Shared) (σ:St) (H:Hp) (Q:VK),Inv X pins σ H s->t σ H Q ->
  wpAny (model X.prog X.w) X.A (eval a X.env) (fun v s₁=>wpAny (model X.prog X.w) X.A (eval b X.env) (fun u s₂=>wpAny (model X.prog X.w) X.A (compareOp op v u) (EP X pins σ Q) X.xe s₂) X.xe s₁) X.xe s
def tB (t:TE):TT:=fun σ H Q=>t σ H fun x H1=>∃c,x=.bl c/\Q c H1
theorem pt_cmp {op:CmpOp} {t:TE} (h:PC X op a b t) (h1:behindInMarks op b=false:=by first|exact nobehind _ (by decide) (by decide)|rfl):PT X (.Compare a [op] [b] pos) (tB t):=by
 intro pins s σ H Q I hw
 refine wpAny_isTrue_Compare1 (thn (h pins s σ H _ I hw) fun v s1 h1=>thn h1 fun u s2 h2=>thn h2 fun c s3 ⟨x,H1,I1,r1,q1⟩=>?_) h1
 obtain⟨d,rfl,q⟩:=q1
 cases r1
 exact wpAny_truthy_bool ⟨H1,I1,q⟩
theorem pt_val {e:Expr} {t:TE} (h:PE X e t) (he:∀whole,isTrue e X.env whole=(do let v <-whole; standAt e.pos; holding [v] (truthy v)):=by intro _; rfl):PT X e (tB t):=by
 intro pins s σ H Q I hw
 refine isTrue_plain (thn (h pins s σ H _ I hw) fun v s1 ⟨x,H1,I1,r1,q1⟩=>?_) (he _)
 obtain⟨d,rfl,q⟩:=q1
 cases r1
 exact wpAny_truthy_bool ⟨H1,I1,q⟩
variable {tA tB':TT} {rest:List Expr}
def tAnd (t u:TT):TT:=fun σ H Q=>t σ H fun c H1=>if c=true then u σ H1 Q else Q false H1
def tOr (t u:TT):TT:=fun σ H Q=>t σ H fun c H1=>if c=true then Q true H1 else u σ H1 Q
def tNot (t:TT):TT:=fun σ H Q=>t σ H fun c H1=>Q (!c) H1
theorem pw_and1 (ha:PT X a tA):PW X (.BoolOp .And [a] pos) tA:=by
 intro wh pins s σ H Q I h
 refine isTrue_and (thn (ha pins s σ H Q I h) fun c s1 e=>?_)
 cases c with
 |true=>exact isTrue_and_nil e
 |false=>exact e
theorem pw_or1 (ha:PT X a tA):PW X (.BoolOp .Or [a] pos) tA:=by
 intro wh pins s σ H Q I h
 refine isTrue_or (thn (ha pins s σ H Q I h) fun c s1 e=>?_)
 cases c with
 |false=>exact isTrue_or_nil e
 |true=>exact e
theorem pw_and (ha:PT X a tA) (hb:PW X (.BoolOp .And (b::rest) pos) tB'):PW X (.BoolOp .And (a::b::rest) pos) (tAnd tA tB'):=by
 intro wh pins s σ H Q I h
 refine isTrue_and (thn (ha pins s σ H _ I h) fun c s1 ⟨H1,I1,q1⟩=>?_)
 cases c with
 |true=>exact hb wh pins s1 σ H1 Q I1 q1
 |false=>exact⟨H1,I1,q1⟩
theorem pw_or (ha:PT X a tA) (hb:PW X (.BoolOp .Or (b::rest) pos) tB'):PW X (.BoolOp .Or (a::b::rest) pos) (tOr tA tB'):=by
 intro wh pins s σ H Q I h
 refine isTrue_or (thn (ha pins s σ H _ I h) fun c s1 ⟨H1,I1,q1⟩=>?_)
 cases c with
 |true=>exact⟨H1,I1,q1⟩
 |false=>exact hb wh pins s1 σ H1 Q I1 q1
theorem pt_not (ha:PT X a tA):PT X (.UnaryOp .Not a pos) (tNot tA):=by
 intro pins s σ H Q I h
 exact isTrue_not (ha pins s σ H (fun c H1=>Q (!c) H1) I h)
def Vc (ta tb:TE):TE:=fun σ H Q=>ta σ H fun x H1=>∃c,x=.bl c/\if c=true then tb σ H1 Q else Q (.bl false) H1
def tOrV (ta tb:TE):TE:=fun σ H Q=>ta σ H fun x H1=>∃c,x=.bl c/\if c=true then Q (.bl true) H1 else tb σ H1 Q
def tNotV (ta:TE):TE:=fun σ H Q=>ta σ H fun x H1=>∃c,x=.bl c/\Q (.bl (!c)) H1
theorem pe_one {op} {t:TE} (h:PE X a t):PE X (.BoolOp op [a] pos) t:=fun pins s σ H Q I hw=>BoolOp_one (h pins s σ H Q I hw)
theorem pe_and (ha:PE X a ta) (hb:PE X (.BoolOp .And (b::rest) pos) tb):PE X (.BoolOp .And (a::b::rest) pos) (Vc ta tb):=by
 intro pins s σ H Q I h
 refine BoolOp_and (thn (ha pins s σ H _ I h) fun v s1 ⟨x,H1,I1,r1,q1⟩=>?_)
 obtain⟨c,rfl,q1⟩:=q1
 cases r1
 refine wpAny_truthy_bool ?_
 cases c with
 |true=>exact hb pins s1 σ H1 Q I1 q1
 |false=>exact⟨.bl false,H1,I1,rfl,q1⟩
def tIf (t:TT) (ta tb:TE):TE:=fun σ H Q=>t σ H fun c H1=>if c=true then ta σ H1 Q else tb σ H1 Q
theorem pe_ifExp {c:Expr} (hc:PT X c tA) (ha:PE X a ta) (hb:PE X b tb):PE X (.IfExp c a b pos) (tIf tA ta tb):=by
 intro pins s σ H Q I h
 refine wpAny_IfExp (thn (hc pins s σ H _ I h) fun d s1 ⟨H1,I1,q1⟩=>?_)
 cases d with
 |true=>exact ha pins s1 σ H1 Q I1 q1
 |false=>exact hb pins s1 σ H1 Q I1 q1
end
def SqL (K:PySem.W.Frag) (H:Hp) (a:Addr) (xs:List V):Prop :=
 Rd H a (.lst xs) \/
  ∃(o:Obj) (its:Array Value) (n:Nat),K.lookup a=some o/\o.cls=.type "list" /\ o.dict=none/\o.data=.seq its n/\its.size<=sizeLine/\Vals xs its.toList
def SqT (K:PySem.W.Frag) (H:Hp) (a:Addr) (xs:List V):Prop :=
 Rd H a (.tup xs) \/
  ∃(o:Obj) (its:Array Value) (n:Nat),K.lookup a=some o/\o.cls=.type "tuple" /\ o.data=.seq its n/\its.size<=sizeLine/\Vals xs its.toList
def absV:Value->Option V
 |.none=>some .non
 |.bool b=>some (.bl b)
 |.int i _=>some (.int i)
 |.str x _=>some (.str x)
 |.bytes b _=>some (.byt b)
 |.float b _=>some (.flt b)
 |.ref a=>some (.ref a)
 |.type n=>some (.ty n)
 |_=>none
theorem RelV.abs {x:V} {u:Value} (r:RelV x u):absV u=some x:=by
 cases x with
 |non=>cases r; rfl
 |bl _=>cases r; rfl
 |int _=>obtain⟨t,rfl⟩:=r; rfl
 |str _=>obtain⟨t,rfl⟩:=r; rfl
 |byt _=>obtain⟨t,rfl⟩:=r; rfl
 |flt _=>obtain⟨t,rfl⟩:=r; rfl
 |ref _=>cases r; rfl
 |ty _=>cases r; rfl
theorem RelV.inj {x y:V} {u:Value} (r:RelV x u) (q:RelV y u):x=y:=Option.some.inj (r.abs.symm.trans q.abs)
theorem Vals.inj:∀{xs ys:List V} {us:List Value},Vals xs us->Vals ys us->xs=ys
 |_,_,_, .nil, .nil=>rfl
 |_,_,_, .cons r t, .cons r' t'=>by rw[r.inj r',Vals.inj t t']
section
variable {X:Cx} {pins:List (Addr×Obj)} {σ:St} {H:Hp} {s:Shared} {a:Addr} {xs ys:List V}
theorem SqL.of {K:PySem.W.Frag} (h:H a=some (.lst xs)):SqL K H a xs:=.inl (.inl h)
theorem SqT.of {K:PySem.W.Frag} (h:H a=some (.tup xs)):SqT K H a xs:=.inl (.inl h)
theorem Inv.list (I:Inv X pins σ H s) (h:SqL X.K H a xs):∃its:List Value,Vals xs its/\PlainL s.heap a its.toArray/\xs.length<=sizeLine:=by
 rcases h with h|⟨o,its,n,hk,hc,hd,hs,hz,r⟩
 ·obtain⟨z,its,n,r,e⟩:=h.ok I.hok
  exact⟨its,r,⟨_,n,e,rfl,rfl,rfl⟩,z⟩
 ·refine⟨its.toList,r,⟨o,n,I.kIn a o hk,hc,hd,by simpa using hs⟩, ?_⟩
  have e:=r.length
  simp only[Array.length_toList] at e
  omega
theorem Inv.tuple (I:Inv X pins σ H s) (h:SqT X.K H a xs):∃its:List Value,Vals xs its/\IsTup s.heap a its.toArray/\xs.length<=sizeLine:=by
 rcases h with h|⟨o,its,n,hk,hc,hs,hz,r⟩
 ·obtain⟨z,its,r,p⟩:=h.ok I.hok
  exact⟨its,r,p,z⟩
 ·refine⟨its.toList,r,⟨o,I.kIn a o hk,hc,n,by simpa using hs⟩, ?_⟩
  have e:=r.length
  simp only[Array.length_toList] at e
  omega
theorem Inv.list_inj (I:Inv X pins σ H s) (h:SqL X.K H a xs) (h':SqL X.K H a ys):xs=ys:=by
 obtain⟨its,r,⟨o,n,e,_,_,d⟩,_⟩:=I.list h
 obtain⟨its',r',⟨o',n',e',_,_,d'⟩,_⟩:=I.list h'
 rw[e] at e'; cases e'
 rw[d] at d'
 injection d' with d1 _
 have:its=its':=by simpa using congrArg Array.toList d1
 subst this
 exact r.inj r'
end
abbrev Cx.wish (X:Cx) (E:Value->Shared->Prop):Cx:={ X with xe:=E }
abbrev Cx.nox (X:Cx):Cx:=X.wish fun _ _=>False
theorem Cx.Ok.wish {X:Cx} (ok:X.Ok) (E:Value->Shared->Prop):(X.wish E).Ok :=
 ⟨ok.mod,ok.kind,ok.glob,ok.blt,ok.above,ok.inj,ok.has,ok.cab,ok.hd,ok.frames,ok.stk,ok.exf,ok.bs,ok.bsz,ok.noex,ok.exfs,ok.funs,ok.frf⟩
theorem Cx.Ok.unwish {X:Cx} {E:Value->Shared->Prop} (ok:(X.wish E).Ok):X.Ok :=
 ⟨ok.mod,ok.kind,ok.glob,ok.blt,ok.above,ok.inj,ok.has,ok.cab,ok.hd,ok.frames,ok.stk,ok.exf,ok.bs,ok.bsz,ok.noex,ok.exfs,ok.funs,ok.frf⟩
section
variable {X:Cx} {pins:List (Addr×Obj)} {σ:St} {H:Hp} {s:Shared} {E:Value->Shared->Prop}
theorem Inv.wish (I:Inv X pins σ H s) (E:Value->Shared->Prop):Inv (X.wish E) pins σ H s:=⟨I.ok.wish E,I.os,I.bare,I.base,I.loc,I.cell,I.free,I.freeC,I.pin,I.hok,I.len⟩
theorem Inv.unwish (I:Inv (X.wish E) pins σ H s):Inv X pins σ H s:=⟨I.ok.unwish,I.os,I.bare,I.base,I.loc,I.cell,I.free,I.freeC,I.pin,I.hok,I.len⟩
theorem SP.unwish {D:Ends} {f:Flow} {s':Shared} (h:SP (X.wish E) pins D f s'):SP X pins D f s':=by
 cases f with
 |next=>obtain⟨σ',H',I,q⟩:=h; exact⟨σ',H',I.unwish,q⟩
 |brk=>obtain⟨σ',H',I,q⟩:=h; exact⟨σ',H',I.unwish,q⟩
 |cont=>obtain⟨σ',H',I,q⟩:=h; exact⟨σ',H',I.unwish,q⟩
 |ret u=>obtain⟨v,σ',H',I,r,q⟩:=h; exact⟨v,σ',H',I.unwish,r,q⟩
theorem PT.nox {e:Expr} {t:TT} (h:PT X.nox e t):PT X e t:=fun pins s σ H Q I hw =>
 wpAny_mono (h pins s σ H Q (I.wish _) hw) (fun _ _ ⟨H',I',q⟩=>⟨H',I'.unwish,q⟩) fun _ _ z=>False.elim z
theorem PSs.nox {st:List Stmt} {t:TS} (h:PSs X.nox st t):PSs X st t:=fun pins s σ H D I hw =>
 wpAny_mono (h pins s σ H D (I.wish _) hw) (fun _ _ q=>q.unwish) fun _ _ z=>False.elim z
end
section
variable {X:Cx} {st:Stmt} {rest:List Stmt} {t u:TS} {e:Expr} {te:TE} {pos:Pos}
def Qj:TS:=fun D σ H=>D.nx σ H
def tSeq (t u:TS):TS:=fun D σ H=>t { D with nx:=u D } σ H
theorem pss_nil:PSs X [] Qj:=fun _ _ σ H _ I h=>wpAny_execs_nil ⟨σ,H,I,h⟩
theorem pss_cons (h1:PS X st t) (h2:PSs X rest u):PSs X (st::rest) (tSeq t u):=by
 intro pins s σ H D I h
 refine wpAny_execs_cons (thn (h1 pins s σ H { D with nx:=u D } I h) fun f s1 q=>?_)
 cases f with
 |next =>
  obtain⟨σ',H',I',q⟩:=q
  exact h2 pins s1 σ' H' D I' q
 |ret v=>exact q
 |brk=>exact q
 |cont=>exact q
theorem pss_one (h1:PS X st t):PSs X [st] t:=by
 intro pins s σ H D I h
 refine wpAny_execs_cons (thn (h1 pins s σ H D I h) fun f s1 q=>?_)
 cases f with
 |next=>exact wpAny_execs_nil q
 |ret v=>exact q
 |brk=>exact q
 |cont=>exact q
theorem Inv.quiet {pins:List (Addr×Obj)} {σ:St} {H:Hp} {s:Shared} (I:Inv X pins σ H s):interactive X.env=false:=by simp[interactive,I.ok.kind]
def Vb (te:TE):TS:=fun D σ H=>te σ H fun _ H1=>D.nx σ H1
theorem ps_expr (he:PE X e te) (hs:swapsWith e none pos.line X.env=pure false:=by rfl):PS X (.Expr e pos) (Vb te):=by
 intro pins s σ H D I h
 exact wpAny_Expr_any (thn (he pins s σ H _ I h) fun v s1 ⟨x,H1,I1,r1,q1⟩=>⟨σ,H1,I1,q1⟩) I.quiet hs
def tRet (te:TE):TS:=fun D σ H=>te σ H D.rt
theorem ps_ret (he:PE X e te):PS X (.Return (some e) pos) (tRet te):=by
 intro pins s σ H D I h
 exact wpAny_Return_some (thn (he pins s σ H _ I h) fun v s1 ⟨x,H1,I1,r1,q1⟩=>⟨x,σ,H1,I1,r1,q1⟩)
def tRetN:TS:=fun D _ H=>D.rt .non H
def tIfS (c:TT) (t u:TS):TS:=fun D σ H=>c σ H fun b H1=>if b=true then t D σ H1 else u D σ H1
theorem ps_if {c:Expr} {a b:List Stmt} {tc:TT} (hc:PT X c tc) (ha:PSs X a t) (hb:PSs X b u):PS X (.If c a b pos) (tIfS tc t u):=by
 intro pins s σ H D I h
 refine wpAny_If (thn (hc pins s σ H _ I h) fun d s1 ⟨H1,I1,q1⟩=>?_)
 cases d with
 |true=>exact ha pins s1 σ H1 D I1 q1
 |false=>exact hb pins s1 σ H1 D I1 q1
end
abbrev TG:=V->St->Hp->(St->Hp->Prop)->Prop
abbrev TGs:=List V->St->Hp->(St->Hp->Prop)->Prop
def PG (X:Cx) (target:Expr) (t:TG):Prop :=
 ∀(pins:List (Addr×Obj)) (s:Shared) (σ:St) (H:Hp) (v:V) (u:Value) (Q:St->Hp->Prop),Inv X pins σ H s->RelV v u->t v σ H Q ->
  wpAny (model X.prog X.w) X.A (assign target X.env u) (fun _ s'=>∃σ' H',Inv X pins σ' H' s'/\Q σ' H') X.xe s
def PGs (X:Cx) (ts:List Expr) (t:TGs):Prop :=
 ∀(pins:List (Addr×Obj)) (s:Shared) (σ:St) (H:Hp) (vs:List V) (us:List Value) (Q:St->Hp->Prop),Inv X pins σ H s->Vals vs us->t vs σ H Q ->
  wpAny (model X.prog X.w) X.A (assignInOrder ((assignEach ts X.env).map (·.2)) us) (fun _ s'=>∃σ' H',Inv X pins σ' H' s'/\Q σ' H') X.xe s
abbrev TSet:=V->V->V->Hp->(Hp->Prop)->Prop
def PSet (X:Cx) (t:TSet):Prop :=
 ∀(pins:List (Addr×Obj)) (s:Shared) (σ:St) (H:Hp) (o i v:V) (ov iv u:Value) (Q:Hp->Prop),Inv X pins σ H s->RelV o ov->RelV i iv->RelV v u->t o i v H Q ->
  wpAny (model X.prog X.w) X.A (setItem ov iv u) (fun _ s'=>∃H',Inv X pins σ H' s'/\Q H') X.xe s
section
variable {X:Cx} {pos:Pos}
def qS (i:Nat):TG:=fun v σ H Q=>Q (σ.set i (some v)) H
theorem jt {i:Nat} {x:Str} (hN:X.N.Nodup) (hi:X.N[i]?=some x) (hx:Loc X.env.scope x) (hf:X.fn x=true\/X.env.scope.names.lookup x=some .local:=by first|exact .inl rfl|exact .inr rfl|assumption):PG X (.Name x pos) (qS i):=by
 intro pins s σ H v u Q I r h
 exact wpAny_assign_Name (jb I hN hi hx r (fun s' I'=>⟨_,H,I',h⟩) hf)
def gNil:TGs:=fun vs σ H Q=>vs=[]/\Q σ H
def vh (t:TG) (u:TGs):TGs:=fun vs σ H Q=>∃v r,vs=v::r/\t v σ H fun σ' H'=>u r σ' H' Q
theorem Zd:PGs X [] gNil:=by
 intro pins s σ H vs us Q I r h
 obtain⟨e,h⟩:=h
 subst e
 cases r
 exact assignInOrder_nil ⟨σ,H,I,h⟩
theorem xC {e:Expr} {es:List Expr} {t:TG} {u:TGs} (h1:PG X e t) (h2:PGs X es u)
  (hs:(assignEach (e::es) X.env).map (·.2)=assign e X.env::(assignEach es X.env).map (·.2):=by rfl):PGs X (e::es) (vh t u):=by
 intro pins s σ H vs us Q I r h
 obtain⟨v,vr,e1,h⟩:=h
 subst e1
 cases r with
 |cons r rr =>
  rw[hs]
  refine assignInOrder_cons (thn (h1 pins s σ H _ _ _ I r h) fun _ s1 ⟨σ1,H1,I1,q1⟩=>?_)
  exact h2 pins s1 σ1 H1 _ _ Q I1 rr q1
def gTup (K:PySem.W.Frag) (n:Nat) (t:TGs):TG:=fun v σ H Q=>∃a xs,v=.ref a/\SqT K H a xs/\xs.length=n/\t xs σ H Q
theorem Jw {es:List Expr} {k:Nat} {t:TGs} {n:Nat} (hc:X.calm=true) (h:PGs X es t)
  (hn:(assignEach es X.env).length=n:=by rfl) (hst:(assignEach es X.env).findIdx? (·.1)=none:=by rfl):PG X (.Tuple es k pos) (gTup X.K n t):=by
 intro pins s σ H v u Q I r hw
 obtain⟨a,xs,e1,hq,hl,hw⟩:=hw
 subst e1
 cases r
 obtain⟨its,rv,ht,hz⟩:=I.tuple hq
 refine assign_Tuple_tuple (I.ok.hd hc) ht (by simp[hn, <-hl,rv.length]) hst fun h' hx=>?_
 have I1:Inv X pins σ H { s with heap:=h' }:=I.kept (t':=s.toks) fun b o e=>hx b o (Nat.ne_of_lt (Heap.lt_size e)) e
 exact h pins _ σ H xs _ Q I1 (by simpa using rv) hw
def gSub (to ti:TE) (t:TSet):TG:=fun v σ H Q=>to σ H fun o H1=>ti σ H1 fun i H2=>t o i v H2 fun H3=>Q σ H3
theorem pg_sub {o i:Expr} {to ti:TE} {t:TSet} (ho:PE X o to) (hi:PE X i ti) (hs:PSet X t)
  (ha:∀v,assign (.Subscript o i pos) X.env v=(do
   let ov <-holding [v] (eval o X.env)
   let iv <-holding [v,ov] (eval i X.env)
   standAt pos
   holding [v,ov,iv] (setItem ov iv v)
   release [v,ov,iv] []):=by intro _; rfl):PG X (.Subscript o i pos) (gSub to ti t):=by
 intro pins s σ H v u Q I r h
 rw[ha]
 refine wpAny_bind (wpAny_holding (thn (ho pins s σ H _ I h) fun ov s1 ⟨x,H1,I1,r1,q1⟩=>?_))
 refine wpAny_bind (wpAny_holding (thn (hi pins s1 σ H1 _ I1 q1) fun iv s2 ⟨y,H2,I2,r2,q2⟩=>?_))
 refine wpAny_bind (wpAny_standAt (wpAny_bind (wpAny_holding (thn (hs pins s2 σ H2 x y v ov iv u _ I2 r1 r2 r q2) fun _ s3 ⟨H3,I3,q3⟩=>?_))))
 exact wpAny_release ⟨σ,H3,I3,q3⟩
def tAsg (te:TE) (g:TG):TS:=fun D σ H=>te σ H fun x H1=>g x σ H1 D.nx
theorem ps_asg {tg e:Expr} {te:TE} {g:TG} (he:PE X e te) (hg:PG X tg g) (hs:swapsWithSole [tg] e pos.line X.env=pure false:=by rfl) (hw:swappedStores [tg] e X.env=pure none:=by rfl)
  (h1:(assignEach [tg] X.env).map (·.2)=[assign tg X.env]:=by rfl):PS X (.Assign [tg] e pos) (tAsg te g):=by
 intro pins s σ H D I h
 refine wpAny_Assign_stores (thn (he pins s σ H _ I h) fun v s1 ⟨x,H1,I1,r1,q1⟩=>?_) hs hw
 rw[h1]
 exact thn (hg pins s1 σ H1 x v _ I1 r1 q1) fun _ s2 q=>q
theorem ps_set {i:Nat} {x:Str} {e:Expr} {te:TE} {pos':Pos} (hN:X.N.Nodup) (hi:X.N[i]?=some x) (hx:Loc X.env.scope x) (he:PE X e te) (hs:swapsWith e (some (.Name x pos')) pos.line X.env=pure false:=by rfl) (hf:X.fn x=true\/X.env.scope.names.lookup x=some .local:=by first|exact .inl rfl|exact .inr rfl|assumption) :
  PS X (.Assign [.Name x pos'] e pos) (tAsg te (qS i)):=by
 intro pins s σ H D I h
 refine wpAny_Assign_Name (thn (he pins s σ H _ I h) fun v s1 ⟨y,H1,I1,r1,q1⟩=>?_) hs
 exact jb I1 hN hi hx r1 (fun s2 I2=>⟨_,H1,I2,q1⟩) hf
end
structure It where
 go:Nat->Hp->Prop
 yld:Nat->Hp->V->Hp->Prop
 stop:Nat->Hp->Prop
def FpOk (X:Cx) (pins:List (Addr×Obj)) (H:Hp) (b:Addr):Prop :=
 H b=none/\b≠X.env.locals/\b∉X.fs/\(b∈X.ex\/X.s₀.heap.objs.size<=b)/\(∀x c,X.env.cells.lookup x=some c->c≠b)/\∀p∈X.pn++pins,p.1≠b
theorem Inv.fpOk {X:Cx} {pins:List (Addr×Obj)} {σ:St} {H H':Hp} {s:Shared} {b:Addr} (I:Inv X pins σ H s) (hb:s.heap.objs.size<=b) (hn:H' b=none):FpOk X pins H' b:=by
 refine⟨hn,Nat.ne_of_gt (Nat.lt_of_lt_of_le I.lt hb),I.nofs hb, .inr (Nat.le_trans I.sz hb),fun x c e z=>?_,fun p hp z=>?_⟩
 ·obtain⟨v,q⟩:=I.cell x c e
  exact absurd (Nat.lt_of_lt_of_le q.lt (by rw[z]; exact hb)) (Nat.lt_irrefl _)
 ·exact absurd (Nat.lt_of_lt_of_le (Heap.lt_size (I.pin p hp).1) (by rw[z]; exact hb)) (Nat.lt_irrefl _)
structure Turn (P:Program) (w:World) (K:PySem.W.Frag) (tg:Expr) (J:It) (fp:List Addr) (it:Addr) (tn:Nat->Heap->Prop):Prop where
 mem:it∈fp
 obj:∀i h,tn i h->∀b∈fp,∃o,h.get? b=some o/\∀v,o.data ≠ .cell v
 keep:∀i h h',tn i h->(∀b∈fp,∀o,h.get? b=some o->h'.get? b=some o)->tn i h'
 item:∀(X:Cx),X.prog=P->X.w=w->X.K=K->X.calm=true->∀(i:Nat) (pins:List (Addr×Obj)) (s:Shared) (σ:St) (H:Hp) (E:Value->Shared->Prop),Inv X pins σ H s->(∀b∈fp,FpOk X pins H b)->tn i s.heap->J.go i H ->
  wpAny (model P w) X.A (pyNext (.ref it)) (fun r s1=>∃u,r=some u /\
   wpAny (model P w) X.A (letOwnedTupleGo tg (.ref it) u) (fun _ s2=>∃x H',Inv X pins σ H' s2/\RelV x u/\J.yld i H x H'/\tn (i+1) s2.heap/\∀b∈fp,H' b=none) E s1) E s
 done:∀(X:Cx),X.prog=P->X.w=w->X.K=K->X.calm=true->∀(i:Nat) (pins:List (Addr×Obj)) (s:Shared) (σ:St) (H:Hp) (E:Value->Shared->Prop),Inv X pins σ H s->(∀b∈fp,FpOk X pins H b)->tn i s.heap->J.stop i H ->
  wpAny (model P w) X.A (pyNext (.ref it)) (fun r s1=>r=none/\Inv X pins σ H s1) E s
 self:∀(A:Around) (i:Nat) (s:Shared) (Q:Value->Shared->Prop) (E:Value->Shared->Prop),tn i s.heap->Q (.ref it) s->wpAny (model P w) A (pyIter (.ref it)) Q E s
abbrev TI:=St->Hp->(It->Hp->Prop)->Prop
def PIE (X:Cx) (pins:List (Addr×Obj)) (σ:St) (tg:Expr) (R:It->Hp->Prop) (itv:Value) (s2:Shared):Prop :=
 ∃(it:Addr) (fp:List Addr) (tn:Nat->Heap->Prop) (J:It) (H':Hp),itv=.ref it/\Inv X pins σ H' s2/\Turn X.prog X.w X.K tg J fp it tn/\tn 0 s2.heap/\(∀b∈fp,FpOk X pins H' b)/\R J H'
def PI (X:Cx) (tg iter:Expr) (wi:TI):Prop :=
 ∀(pins:List (Addr×Obj)) (s:Shared) (σ:St) (H:Hp) (R:It->Hp->Prop),Inv X pins σ H s->wi σ H R ->
  wpAny (model X.prog X.w) X.A (eval iter X.env) (fun v s1=>wpAny (model X.prog X.w) X.A (pyIter v) (PIE X pins σ tg R) X.xe s1) X.xe s
theorem go_of {M:Model} {A:Around} {E:Value->Shared->Prop} {s:Shared} {tg:Expr} {it:Addr} {u:Value} {o:Obj} {n:String} {vs:Array Value} {Q:Unit->Shared->Prop} (ho:s.heap.get? it=some o) (hc:o.cls=.type n) (hd:o.data=.fields vs)
  (hn:["enumerate", "zip", "dict_itemiterator", "dict_reverseitemiterator", "odict_iterator", "itertools.zip_longest", "itertools.pairwise"].contains n=false) (hQ:Q () s):wpAny M A (letOwnedTupleGo tg (.ref it) u) Q E s:=by
 unfold letOwnedTupleGo
 cases tg<;>first
  |exact wpAny_pure hQ
  | (cases u<;>first
    |exact wpAny_pure hQ
    | (refine wpAny_bind (wpAny_load ho ?_)
       rw[hc,hd]
       show wpAny M A (if(["enumerate", "zip", "dict_itemiterator", "dict_reverseitemiterator", "odict_iterator", "itertools.zip_longest", "itertools.pairwise"].contains n&&vs[0]?==some (rawInt _))=true then _ else _) Q E s
       rw[if_neg (by intro h; rw[hn,Bool.false_and] at h; cases h)]
       exact wpAny_pure hQ))
def Itl (K:PySem.W.Frag) (a:Addr):It :=
 ⟨fun i H=>∃xs x,SqL K H a xs/\xs[i]?=some x,fun i H x H'=>H'=H/\∀xs,SqL K H a xs->xs[i]?=some x,fun i H=>∃xs,SqL K H a xs/\xs.length<=i⟩
def Itr (lo:Int) (n:Nat):It:=⟨fun i _=>i<n,fun i H x H'=>H'=H/\x=.int (lo+i),fun i _=>n<=i⟩
theorem Q8 {P:Program} {w:World} {K:PySem.W.Frag} {tg:Expr} (a it:Addr):Turn P w K tg (Itl K a) [it] it (fun i h=>h.IsListIter it a i) where
 mem:=by simp
 obj:=fun i h st b hb=>by
  have e:b=it:=by simpa using hb
  subst e
  obtain⟨o,e,c,d⟩:=st
  exact⟨o,e,fun v z=>by rw[d] at z; cases z⟩
 keep:=fun i h h' st k=>st.at fun o e=>k it (by simp) o e
 item:=by
  intro X hP hw hK hc i pins s σ H E I hf st hg
  subst hP hw hK
  obtain⟨xs,x,hq,hx⟩:=hg
  obtain⟨its,rv,p,hz⟩:=I.list hq
  obtain⟨u,hu,ru⟩:=rv.get hx
  obtain⟨f0,f1,f2,f3,f4,f5⟩:=hf it (by simp)
  refine wpAny_pyNext_list_item st p.isList (x:=u) (by simpa using hu) fun h' st' sb=>?_
  have I1:Inv X pins σ H { s with heap:=h' }:=I.turned (t':=s.toks) (fun b o hb e=>(sb.2 b hb).trans e) f0 f1 f3 f4 f5
  obtain⟨o,e,c,d⟩:=id st'
  exact⟨u,rfl,go_of (s:={ s with heap:=h' }) e c d (by decide) ⟨x,H,I1,ru,⟨rfl,fun ys hy=>by rw[I.list_inj hy hq]; exact hx⟩,st',fun b hb=>(hf b hb).1⟩⟩
 done:=by
  intro X hP hw hK hc i pins s σ H E I hf st hg
  subst hP hw hK
  obtain⟨xs,hq,hx⟩:=hg
  obtain⟨its,rv,p,hz⟩:=I.list hq
  obtain⟨f0,f1,f2,f3,f4,f5⟩:=hf it (by simp)
  have hl:=rv.length
  exact wpAny_pyNext_list_end (I.ok.hd hc) st p.isList (by simp; omega) fun h' eb=>⟨rfl,I.turned (t':=s.toks) (fun b o hb e=>eb b o hb e) f0 f1 f3 f4 f5⟩
 self:=fun _ _ _ _ _ st h=>wpAny_pyIter_listiter st h
theorem Xx {P:Program} {w:World} {K:PySem.W.Frag} {tg:Expr} (it:Addr) (lo:Int) (n:Nat):Turn P w K tg (Itr lo n) [it] it (fun i h=>IsRangeIter h it (lo+(i:Nat)*1) ((n:Int)-(i:Nat)) 1) where
 mem:=by simp
 obj:=fun i h st b hb=>by
  have e:b=it:=by simpa using hb
  subst e
  exact⟨_,st,fun v z=>by
   have z':Data.fields _=Data.cell v:=z
   cases z'⟩
 keep:=fun i h h' st k=>k it (by simp) _ st
 item:=by
  intro X hP hw hK hc i pins s σ H E I hf st hg
  subst hP hw hK
  obtain⟨f0,f1,f2,f3,f4,f5⟩:=hf it (by simp)
  have W:=Walks.range (prog:=X.prog) (w:=X.w) (I.ok.hd hc) it lo 1 n
  refine W.item i s _ _ hg st fun v h' tk hv st' kk=>?_
  obtain⟨t,rfl⟩:=hv
  have I1:Inv X pins σ H { s with heap:=h',toks:=tk }:=I.turned (fun b o hb e=>kk b o (by simpa using hb) e) f0 f1 f3 f4 f5
  refine⟨_,rfl,go_of (s:={ s with heap:=h',toks:=tk }) (n := "range_iterator") st' rfl rfl (by decide) ⟨.int (lo+i),H,I1,⟨t, ?_⟩,⟨rfl,rfl⟩,st',fun b hb=>(hf b hb).1⟩⟩
  rw[Int.mul_one]
 done:=by
  intro X hP hw hK hc i pins s σ H E I hf st hg
  subst hP hw hK
  obtain⟨f0,f1,f2,f3,f4,f5⟩:=hf it (by simp)
  exact wpAny_pyNext_range_end (I.ok.hd hc) st (by have:n<=i:=hg; omega) fun h' eb=>⟨rfl,I.turned (t':=s.toks) (fun b o hb e=>eb b o hb e) f0 f1 f3 f4 f5⟩
 self:=fun _ _ _ _ _ st h=>wpAny_pyIter_rangeiter st h
section
variable {X:Cx} {tg:Expr}
def XN (K:PySem.W.Frag) (tl:TE):TI:=fun σ H R=>tl σ H fun x H1=>∃a,x=.ref a/\(∃xs,SqL K H1 a xs)/\R (Itl K a) H1
theorem pi_list {l:Expr} {tl:TE} (hl:PE X l tl):PI X tg l (XN X.K tl):=by
 intro pins s σ H R I h
 refine thn (hl pins s σ H _ I h) fun v s1 ⟨x,H1,I1,r1,q1⟩=>?_
 obtain⟨a,e,⟨xs,hq⟩,q⟩:=q1
 subst e
 cases r1
 obtain⟨its,rv,p,hz⟩:=I1.list hq
 refine wpAny_pyIter_list p.isList ?_
 refine⟨s1.heap.objs.size, [s1.heap.objs.size],_,_,H1,rfl,I1.kept (t':=s1.toks) fun b o e=>Heap.get?_push_of_some _ e,Q8 a _,⟨_,Heap.get?_push_size _ rfl,rfl,rfl⟩,fun b hb=>?_,q⟩
 have e:b=s1.heap.objs.size:=by simpa using hb
 subst e
 exact I1.fpOk (Nat.le_refl _) (I1.hok.fresh (Nat.le_refl _))
theorem range_it {pins:List (Addr×Obj)} {σ:St} {H:Hp} {s:Shared} {R:It->Hp->Prop} {E:Value->Shared->Prop} {lo hi:Int} {t u v:Tok} {tk:Nat} (I:Inv X pins σ H s) (h1 : -(2^62)<=lo) (h2:lo<2^62) (h3 : -(2^62)<=hi) (h4:hi<2^62)
  (q:R (Itr lo (hi-lo).toNat) H):wpAny (model X.prog X.w) X.A (pyIter (.ref s.heap.objs.size)) (PIE X pins σ tg R) E { s with heap:=s.heap.push { cls:=.type "range", data:=.fields #[.int lo t, .int hi u, .int 1 v] },toks:=tk }:=by
 refine wpAny_pyIter_range (IsRange.new ..) (small_one h1 h2 h3 h4) ?_
 have I1:Inv X pins σ H { s with heap:=s.heap.push { cls:=.type "range", data:=.fields #[.int lo t, .int hi u, .int 1 v] },toks:=tk }:=I.kept fun b o e=>Heap.get?_push_of_some _ e
 refine⟨(s.heap.push { cls:=.type "range", data:=.fields #[.int lo t, .int hi u, .int 1 v] }).objs.size, [(s.heap.push { cls:=.type "range", data:=.fields #[.int lo t, .int hi u, .int 1 v] }).objs.size],_,_,H,rfl,
  I1.kept (t':=tk) fun b o e=>Heap.get?_push_of_some _ e,Xx _ lo (hi-lo).toNat, ?_,fun b hb=>?_,q⟩
 ·have e1:lo+((0:Nat):Int)*1=lo:=by simp
  have e2:(((hi-lo).toNat:Nat):Int)-((0:Nat):Int)=Builtin.Range.rangeSize lo hi 1:=by rw[rangeSize_one]; split<;>omega
  show IsRangeIter _ _ (lo+((0:Nat):Int)*1) ((((hi-lo).toNat:Nat):Int)-((0:Nat):Int)) 1
  rw[e1,e2]
  exact Heap.get?_push_size _ rfl
 ·have e:b=(s.heap.push { cls:=.type "range", data:=.fields #[.int lo t, .int hi u, .int 1 v] }).objs.size:=by simpa using hb
  subst e
  exact I1.fpOk (Nat.le_refl _) (I1.hok.fresh (Nat.le_refl _))
def Kj (ta:TA):TI:=fun σ H R=>ta σ H fun vs H1=>∃j:Int,vs=[.int j] /\ -(2^62)<=j/\j<2^62/\R (Itr 0 j.toNat) H1
theorem Jv {a:Expr} {ta:TA} {p pos:Pos} (hg:Gl X "range") (hm:X.mg "range" = none) (ha:PA X [a] ta) (hs:starEach [a] X.env=[(false,eval a X.env)]:=by rfl):PI X tg (.Call (.Name "range" p) [a] [] pos) (Kj ta):=by
 intro pins s σ H R I h
 refine Call_ (Z3 I hg hm boot_range (PyProof.Rows.callWith_type1 (thn (ha pos pins s σ H _ I h) fun us s1 ⟨vs,H1,I1,r1,q1⟩=>?_) hs rfl))
 obtain⟨j,e,q1,q2,q⟩:=q1
 subst e
 cases r1 with
 |cons r rr =>
  cases rr
  obtain⟨t,rfl⟩:=r
  exact call_range_1 (range_it I1 (by omega) (by omega) q1 q2 (by simpa using q))
def tFor (wi:TI) (g:TG) (tb:TS):TS:=fun D σ H=>wi σ H fun J H1=>∃W:Nat->Nat->St->Hp->Prop,(∃m,W 0 m σ H1)/\∀i m σ H,W i m σ H ->
 (J.stop i H/\D.nx σ H)\/(J.go i H/\∃N:St->Hp->Prop,(∀σ' H',N σ' H'->∃m',m'<m/\W (i+1) m' σ' H')/\∀x H',J.yld i H x H'->g x σ H' fun σ2 H2=>tb { D with nx:=N,ct:=N,bk:=D.nx } σ2 H2)
def kU (fp:List Addr) (h:Heap):List (Addr×Obj):=fp.filterMap fun b=>(h.get? b).map fun o=>(b,o)
theorem zh {fp:List Addr} {h:Heap} {b:Addr} {o:Obj} (hb:b∈fp) (e:h.get? b=some o):(b,o)∈kU fp h:=List.mem_filterMap.mpr ⟨b,hb,by rw[e]; rfl⟩
theorem JP {fp:List Addr} {h:Heap} {p:Addr×Obj} (hp:p∈kU fp h):p.1∈fp/\h.get? p.1=some p.2:=by
 obtain⟨b,hb,e⟩:=List.mem_filterMap.mp hp
 cases q:h.get? b with
 |none=>rw[q] at e; cases e
 |some o =>
  rw[q] at e
  have e':(b,o)=p:=Option.some.inj e
  subst e'
  exact⟨hb,q⟩
theorem Inv.pinned {pins:List (Addr×Obj)} {σ:St} {H:Hp} {s:Shared} {fp:List Addr} (I:Inv X pins σ H s) (hf:∀b∈fp,FpOk X pins H b) (ho:∀b∈fp,∃o,s.heap.get? b=some o/\∀v,o.data ≠ .cell v):Inv X (pins++kU fp s.heap) σ H s :=
 I.pins_of fun p hp=>(List.mem_append.mp hp).elim (fun z=>I.pin p (List.mem_append_right _ z)) fun z=>by
  obtain⟨hb,e⟩:=JP z
  obtain⟨f0,f1,f2,_⟩:=hf p.1 hb
  obtain⟨o,e',d⟩:=ho p.1 hb
  rw[e] at e'; cases e'
  exact⟨e,f0,f1,f2,d⟩
theorem Inv.unpinned {pins pl:List (Addr×Obj)} {σ:St} {H:Hp} {s:Shared} (I:Inv X (pins++pl) σ H s):Inv X pins σ H s:=I.pins_of fun p hp=>I.pin p (List.mem_append_right _ (List.mem_append_left _ hp))
theorem ps_for {iter:Expr} {body:List Stmt} {wi:TI} {g:TG} {tb:TS} {pos:Pos} (hp:PassesOwn (model X.prog X.w) X.A X.env X.xe) (hc:X.calm=true) (hi:PI X tg iter wi) (hg:PG X tg g) (hb:PSs X body tb)
  (hs:∀x,foldedSetIterable iter X.env x=pure x:=by intro _; rfl):PS X (.For tg iter body [] pos) (tFor wi g tb):=by
 intro pins s σ H D I h
 refine wpAny_For (thn (hi pins s σ H _ I h) fun v s1 h1=>thn h1 fun itv s2 h2=>?_) hs
 obtain⟨it,fp,tn,J,H2,e,I2,T,st2,f2,W,⟨m0,w0⟩,turn⟩:=h2
 subst e
 -- what stays true of the iterator's objects through the loop
 have stat:∀{H':Hp},(∀b∈fp,H' b=none)->∀b∈fp,FpOk X pins H' b:=fun hn b hb=>⟨hn b hb,(f2 b hb).2⟩
 refine codeAny_forLoop_any (fun n s'=>∃i σ' H',Inv X pins σ' H' s'/\tn i s'.heap/\(∀b∈fp,H' b=none)/\W i n σ' H') ?_ m0 ⟨0,σ,H2,I2,st2,fun b hb=>(f2 b hb).1,w0⟩
 rintro n s3 ⟨i,σ3,H3,I3,st3,fr3,w3⟩
 rcases turn i n σ3 H3 w3 with⟨stop,qn⟩|⟨go,N,hN,step⟩
 ·refine wpAny_passesOwn hp (thn (T.done X rfl rfl rfl hc i pins s3 σ3 H3 X.xe I3 (stat fr3) st3 stop) fun r s4 ⟨hr,I4⟩=>?_)
  subst hr
  exact wpAny_execs_nil ⟨σ3,H3,I4,qn⟩
 ·refine wpAny_passesOwn hp (thn (T.item X rfl rfl rfl hc i pins s3 σ3 H3 X.xe I3 (stat fr3) st3 go) fun r s4 ⟨u,hr,h4⟩=>?_)
  subst hr
  refine wpAny_passesOwn hp (thn h4 fun _ s5 ⟨x,H5,I5,r5,y5,st5,fr5⟩=>?_)
  have I5':=I5.pinned (stat fr5) (T.obj _ _ st5)
  refine wpAny_passesOwn hp (thn (hg _ s5 σ3 H5 x u _ I5' r5 (step x H5 y5)) fun _ s6 ⟨σ6,H6,I6,q6⟩=>?_)
  refine wpAny_passesOwn hp (thn (hb _ s6 σ6 H6 _ I6 q6) fun f s7 q7=>?_)
  have again:∀{σ7:St} {H7:Hp},Inv X (pins++kU fp s5.heap) σ7 H7 s7->N σ7 H7->∃m,m<n/\∃i σ' H',Inv X pins σ' H' s7/\tn i s7.heap/\(∀b∈fp,H' b=none)/\W i m σ' H':=fun {σ7 H7} I7 n7=>by
   obtain⟨m',hm,w7⟩:=hN σ7 H7 n7
   refine⟨m',hm,i+1,σ7,H7,I7.unpinned,T.keep _ _ _ st5 fun b hb o e=>(I7.pin (b,o) (List.mem_append_right _ (List.mem_append_right _ (zh hb e)))).1,fun b hb=>?_,w7⟩
   obtain⟨o,e,d⟩:=T.obj _ _ st5 b hb
   exact(I7.pin (b,o) (List.mem_append_right _ (List.mem_append_right _ (zh hb e)))).2.1
  cases f with
  |next=>obtain⟨σ7,H7,I7,n7⟩:=q7; exact again I7 n7
  |cont=>obtain⟨σ7,H7,I7,n7⟩:=q7; exact again I7 n7
  |brk=>obtain⟨σ7,H7,I7,q7⟩:=q7; exact⟨σ7,H7,I7.unpinned,q7⟩
  |ret v=>obtain⟨x7,σ7,H7,I7,r7,q7⟩:=q7; exact⟨x7,σ7,H7,I7.unpinned,r7,q7⟩
end
theorem for_list {K:PySem.W.Frag} {a:Addr} {xs:List V} {g:TG} {tb:TS} {D:Ends} {σ:St} {H:Hp} (Pv:Nat->St->Hp->Prop) (h0:Pv 0 σ H) (hl:∀i σ H,i<=xs.length->Pv i σ H->SqL K H a xs)
  (hs:∀i x σ H,xs[i]?=some x->Pv i σ H->g x σ H fun σ2 H2=>tb { D with nx:=Pv (i+1),ct:=Pv (i+1),bk:=D.nx } σ2 H2) (hd:∀σ H,Pv xs.length σ H->D.nx σ H) :
  ∃W:Nat->Nat->St->Hp->Prop,(∃m,W 0 m σ H)/\∀i m σ H,W i m σ H ->
   ((Itl K a).stop i H/\D.nx σ H)\/((Itl K a).go i H/\∃N:St->Hp->Prop,(∀σ' H',N σ' H'->∃m',m'<m/\W (i+1) m' σ' H')/\∀x H',(Itl K a).yld i H x H'->g x σ H' fun σ2 H2=>tb { D with nx:=N,ct:=N,bk:=D.nx } σ2 H2):=by
 refine⟨fun i m σ H=>m=xs.length-i/\i<=xs.length/\Pv i σ H,⟨xs.length,by simp,Nat.zero_le _,h0⟩, ?_⟩
 rintro i m σ H ⟨rfl,hi,p⟩
 have q:=hl i σ H hi p
 by_cases hlt:i<xs.length
 ·refine .inr ⟨⟨xs,xs[i],q,by simp[hlt]⟩,Pv (i+1),fun σ' H' p'=>⟨xs.length-(i+1),by omega,rfl,hlt,p'⟩,fun x H' y=>?_⟩
  obtain⟨e,y⟩:=y
  subst e
  exact hs i x σ _ (y xs q) p
 ·have e:i=xs.length:=by omega
  subst e
  exact .inl ⟨⟨xs,q,Nat.le_refl _⟩,hd σ H p⟩
abbrev R2:=V->V->Hp->VK->Prop
def OpR (X:Cx) (f:Value->Value->Sem Value) (r:R2):Prop :=
 ∀(pins:List (Addr×Obj)) (s:Shared) (σ:St) (H:Hp) (x y:V) (v u:Value) (Q:VK),Inv X pins σ H s->RelV x v->RelV y u->r x y H Q ->
  wpAny (model X.prog X.w) X.A (f v u) (EP X pins σ Q) X.xe s
def UnR (X:Cx) (f:Value->Sem Value) (r:V->Hp->VK->Prop):Prop :=
 ∀(pins:List (Addr×Obj)) (s:Shared) (σ:St) (H:Hp) (x:V) (v:Value) (Q:VK),Inv X pins σ H s->RelV x v->r x H Q ->
  wpAny (model X.prog X.w) X.A (f v) (EP X pins σ Q) X.xe s
def zK (X:Cx) (f:Value) (r:List V->Hp->VK->Prop):Prop :=
 ∀(pins:List (Addr×Obj)) (s:Shared) (σ:St) (H:Hp) (xs:List V) (us:List Value) (Q:VK),Inv X pins σ H s->Vals xs us->r xs H Q ->
  wpAny (model X.prog X.w) X.A (call f us) (EP X pins σ Q) X.xe s
def tOp (r:R2) (ta tb:TE):TE:=fun σ H Q=>ta σ H fun x H1=>tb σ H1 fun y H2=>r x y H2 Q
def tUn (r:V->Hp->VK->Prop) (ta:TE):TE:=fun σ H Q=>ta σ H fun x H1=>r x H1 Q
def rI (C:Int->Int->Prop) (g:Int->Int->V):R2:=fun x y H Q=>∃i j,x=.int i/\y=.int j/\C i j/\Q (g i j) H
def rI0 (g:Int->Int->V):R2:=fun x y H Q=>∃i j,x=.int i/\y=.int j/\Q (g i j) H
def rU (g:Int->V):V->Hp->VK->Prop:=fun x H Q=>∃i,x=.int i/\Q (g i) H
section
variable {X:Cx} {a b:Expr} {ta tb:TE} {pos:Pos}
theorem binT (ha:PE X a ta) (hb:PE X b tb) {pins:List (Addr×Obj)} {s:Shared} {σ:St} {H:Hp} {R:V->V->Hp->Prop} (I:Inv X pins σ H s)
  (h:ta σ H fun x H1=>tb σ H1 fun y H2=>R x y H2) {Q:Value->Shared->Prop} {f:Value->Value->Sem Value}
  (hf:∀v u s2 x y H2,Inv X pins σ H2 s2->RelV x v->RelV y u->R x y H2->wpAny (model X.prog X.w) X.A (f v u) Q X.xe s2) :
  wpAny (model X.prog X.w) X.A (eval a X.env) (fun v s₁=>wpAny (model X.prog X.w) X.A (eval b X.env) (fun u s₂=>wpAny (model X.prog X.w) X.A (f v u) Q X.xe s₂) X.xe s₁) X.xe s:=by
 refine thn (ha pins s σ H _ I h) fun v s1 ⟨x,H1,I1,r1,q1⟩=>?_
 refine thn (hb pins s1 σ H1 _ I1 q1) fun u s2 ⟨y,H2,I2,r2,q2⟩=>?_
 exact hf v u s2 x y H2 I2 r1 r2 q2
theorem pe_op {op:Operator} {r:R2} (ho:OpR X (binaryOp op) r) (ha:PE X a ta) (hb:PE X b tb):PE X (.BinOp a op b pos) (tOp r ta tb):=by
 intro pins s σ H Q I h
 exact wpAny_BinOp (binT ha hb I h fun v u s2 x y H2 I2 rx ry q=>ho pins s2 σ H2 x y v u Q I2 rx ry q)
theorem pe_un {op:UnaryOp} {r:V->Hp->VK->Prop} (ho:UnR X (unaryOp op) r) (ha:PE X a ta):PE X (.UnaryOp op a pos) (tUn r ta):=by
 intro pins s σ H Q I h
 exact UnaryOp_ (thn (ha pins s σ H _ I h) fun v s1 ⟨x,H1,I1,r1,q1⟩=>ho pins s1 σ H1 x v Q I1 r1 q1)
theorem opI {f:Value->Value->Sem Value} {C:Int->Int->Prop} {g:Int->Int->Int}
  (rule:∀(i j:Int) (t u:Tok) (s:Shared) (Q:Value->Shared->Prop) (E:Value->Shared->Prop),C i j->Q (.int (g i j) s.toks) { s with toks:=s.toks+1 }->wpAny (model X.prog X.w) X.A (f (.int i t) (.int j u)) Q E s) :
  OpR X f (rI C fun i j=>.int (g i j)):=by
 intro pins s σ H x y v u Q I rx ry h
 obtain⟨i,j,rfl,rfl,hc,q⟩:=h
 obtain⟨t,rfl⟩:=rx
 obtain⟨t',rfl⟩:=ry
 exact rule i j t t' s _ _ hc ⟨.int (g i j),H,I.tok _,⟨_,rfl⟩,q⟩
theorem opI0 {f:Value->Value->Sem Value} {g:Int->Int->Int}
  (rule:∀(i j:Int) (t u:Tok) (s:Shared) (Q:Value->Shared->Prop) (E:Value->Shared->Prop),Q (.int (g i j) s.toks) { s with toks:=s.toks+1 }->wpAny (model X.prog X.w) X.A (f (.int i t) (.int j u)) Q E s) :
  OpR X f (rI0 fun i j=>.int (g i j)):=by
 intro pins s σ H x y v u Q I rx ry h
 obtain⟨i,j,rfl,rfl,q⟩:=h
 obtain⟨t,rfl⟩:=rx
 obtain⟨t',rfl⟩:=ry
 exact rule i j t t' s _ _ ⟨.int (g i j),H,I.tok _,⟨_,rfl⟩,q⟩
theorem opB0 {f:Value->Value->Sem Value} {g:Int->Int->Bool}
  (rule:∀(i j:Int) (t u:Tok) (s:Shared) (Q:Value->Shared->Prop) (E:Value->Shared->Prop),Q (.bool (g i j)) s->wpAny (model X.prog X.w) X.A (f (.int i t) (.int j u)) Q E s) :
  OpR X f (rI0 fun i j=>.bl (g i j)):=by
 intro pins s σ H x y v u Q I rx ry h
 obtain⟨i,j,rfl,rfl,q⟩:=h
 obtain⟨t,rfl⟩:=rx
 obtain⟨t',rfl⟩:=ry
 exact rule i j t t' s _ _ ⟨.bl (g i j),H,I,rfl,q⟩
def CPow (i j:Int):Prop:=0<=j/\j<=1000000/\i.natAbs<2^64
def CMul (i j:Int):Prop:=(-(2^64)<i/\i<2^64)\/(-(2^64)<j/\j<2^64)
theorem CMul.ok {i j:Int} (h:CMul i j):IntMulOk i j:=by
 rcases h with⟨h1,h2⟩|⟨h1,h2⟩
 ·exact .of_left (intBits_le_64 h1 h2)
 ·exact .of_right (intBits_le_64 h1 h2)
theorem vC:OpR X (binaryOp .Add) (rI0 fun i j=>.int (i+j)):=opI0 fun _ _ _ _ _ _ _ q=>add_int q
theorem JD:OpR X (binaryOp .Sub) (rI0 fun i j=>.int (i-j)):=opI0 fun _ _ _ _ _ _ _ q=>sub_int q
theorem kW:OpR X (binaryOp .Mult) (rI CMul fun i j=>.int (i*j)):=opI fun _ _ _ _ _ _ _ hc q=>mul_int q hc.ok
theorem zq:OpR X (binaryOp .Mod) (rI (fun _ j=>0<j) fun i j=>.int (i % j)):=opI fun i j _ _ _ _ _ hc q=>by
 have h1:(0:Int)<j:=hc
 exact mod_int' (by omega) (by rw[Int.fmod_eq_emod_of_nonneg i (by omega)]; exact q)
theorem ZY:OpR X (binaryOp .Pow) (rI CPow fun i j=>.int (i^j.toNat)):=opI fun _ _ _ _ _ _ _ hc q=>pow_int_small hc.1 hc.2.1 hc.2.2 q
theorem op_shl:OpR X (binaryOp .LShift) (rI CPow fun i j=>.int (i*2^j.toNat)):=opI fun _ _ _ _ _ _ _ hc q=>lshift_int_small hc.1 hc.2.1 hc.2.2 q
theorem unI {f:Value->Sem Value} {g:Int->Int}
  (rule:∀(i:Int) (t:Tok) (s:Shared) (Q:Value->Shared->Prop) (E:Value->Shared->Prop),Q (.int (g i) s.toks) { s with toks:=s.toks+1 }->wpAny (model X.prog X.w) X.A (f (.int i t)) Q E s) :
  UnR X f (rU fun i=>.int (g i)):=by
 intro pins s σ H x v Q I rx h
 obtain⟨i,rfl,q⟩:=h
 obtain⟨t,rfl⟩:=rx
 exact rule i t s _ _ ⟨.int (g i),H,I.tok _,⟨_,rfl⟩,q⟩
theorem Q5:UnR X (unaryOp .USub) (rU fun i=>.int (-i)):=unI fun _ _ _ _ _ q=>neg_int q
end
def scal:V->V->Bool
 |.non, .non=>true | .non, .int _=>true | .int _, .non=>true | .non, .bl _=>true | .bl _, .non=>true | .non, .str _=>true | .str _, .non=>true
 |.int _, .int _=>true | .bl _, .bl _=>true | .str _, .str _=>true | .byt _, .byt _=>true
 |.int _, .str _=>true | .str _, .int _=>true | .bl _, .str _=>true | .str _, .bl _=>true
 |_,_=>false
def rEq:R2:=fun x y H Q=>scal x y=true/\Q (.bl (decide (x=y))) H
def rNe:R2:=fun x y H Q=>scal x y=true/\Q (.bl (!decide (x=y))) H
theorem KB {i j:Int}:decide (V.int i=V.int j)=(i==j):=by
 rw[Bool.eq_iff_iff]
 simp
theorem dec_bl {i j:Bool}:decide (V.bl i=V.bl j)=(i==j):=by
 rw[Bool.eq_iff_iff]
 simp
theorem Kz {i j:Str}:decide (V.str i=V.str j)=(i==j):=by
 rw[Bool.eq_iff_iff]
 simp
theorem KC {i j:Array UInt8}:decide (V.byt i=V.byt j)=(i.toList==j.toList):=by
 rw[Bool.eq_iff_iff]
 cases i
 cases j
 simp
section
variable {X:Cx} {a b c:Expr} {ta tb tc:TE} {pos:Pos}
theorem qW {pins:List (Addr×Obj)} {σ:St} {H:Hp} {s:Shared} {Q:VK} {k k':Bool} (I:Inv X pins σ H s) (q:Q (.bl k) H) (e:k=k'):EP X pins σ Q (.bool k') s:=by
 subst e
 exact⟨.bl k,H,I,rfl,q⟩
theorem vW:OpR X (compareOp .Eq) rEq:=by
 intro pins s σ H x y v u Q I rx ry h
 obtain⟨hs,q⟩:=h
 cases x with
 |non =>
  cases rx
  cases y with
  |non=>cases ry; exact PySem.EqNone.eq_none_none (qW I q (by simp))
  |bl j=>cases ry; exact PySem.EqNone.eq_none_bool (qW I q (by simp))
  |int j=>obtain⟨t',rfl⟩:=ry; exact PySem.EqNone.eq_none_int (qW I q (by simp))
  |str j=>obtain⟨t',rfl⟩:=ry; exact PySem.EqNone.eq_none_str (qW I q (by simp))
  |_=>exact absurd (show false=true from hs) Bool.false_ne_true
 |bl i =>
  cases rx
  cases y with
  |non=>cases ry; exact PySem.EqNone.eq_bool_none (qW I q (by simp))
  |bl j=>cases ry; exact eq_bool (qW I q dec_bl)
  |str j=>obtain⟨t',rfl⟩:=ry; exact PySem.EqMixed.eq_bool_str (qW I q (by simp))
  |_=>exact absurd (show false=true from hs) Bool.false_ne_true
 |int i =>
  obtain⟨t,rfl⟩:=rx
  cases y with
  |non=>cases ry; exact PySem.EqNone.eq_int_none (qW I q (by simp))
  |int j=>obtain⟨t',rfl⟩:=ry; exact eq_int (qW I q KB)
  |str j=>obtain⟨t',rfl⟩:=ry; exact PySem.EqMixed.eq_int_str (qW I q (by simp))
  |_=>exact absurd (show false=true from hs) Bool.false_ne_true
 |str i =>
  obtain⟨t,rfl⟩:=rx
  cases y with
  |non=>cases ry; exact PySem.EqNone.eq_str_none (qW I q (by simp))
  |bl j=>cases ry; exact PySem.EqMixed.eq_str_bool (qW I q (by simp))
  |int j=>obtain⟨t',rfl⟩:=ry; exact PySem.EqMixed.eq_str_int (qW I q (by simp))
  |str j=>obtain⟨t',rfl⟩:=ry; exact eq_str (qW I q Kz)
  |_=>exact absurd (show false=true from hs) Bool.false_ne_true
 |byt i =>
  obtain⟨t,rfl⟩:=rx
  cases y with
  |byt j=>obtain⟨t',rfl⟩:=ry; exact PySem.W.eq_bytes (qW I q KC)
  |_=>exact absurd (show false=true from hs) Bool.false_ne_true
 |_=>cases y<;>exact absurd (show false=true from hs) Bool.false_ne_true
theorem jU:OpR X (compareOp .NotEq) rNe:=by
 intro pins s σ H x y v u Q I rx ry h
 obtain⟨hs,q⟩:=h
 cases x with
 |non =>
  cases rx
  cases y with
  |non=>cases ry; exact PySem.EqNone.ne_none_none (qW I q (by simp))
  |bl j=>cases ry; exact PySem.EqNone.ne_none_bool (qW I q (by simp))
  |int j=>obtain⟨t',rfl⟩:=ry; exact PySem.EqNone.ne_none_int (qW I q (by simp))
  |str j=>obtain⟨t',rfl⟩:=ry; exact PySem.EqNone.ne_none_str (qW I q (by simp))
  |_=>exact absurd (show false=true from hs) Bool.false_ne_true
 |bl i =>
  cases rx
  cases y with
  |non=>cases ry; exact PySem.EqNone.ne_bool_none (qW I q (by simp))
  |bl j=>cases ry; exact ne_bool (qW I q (congrArg not dec_bl))
  |str j=>obtain⟨t',rfl⟩:=ry; exact PySem.EqMixed.ne_bool_str (qW I q (by simp))
  |_=>exact absurd (show false=true from hs) Bool.false_ne_true
 |int i =>
  obtain⟨t,rfl⟩:=rx
  cases y with
  |non=>cases ry; exact PySem.EqNone.ne_int_none (qW I q (by simp))
  |int j=>obtain⟨t',rfl⟩:=ry; exact ne_int (qW I q (congrArg not KB))
  |str j=>obtain⟨t',rfl⟩:=ry; exact PySem.EqMixed.ne_int_str (qW I q (by simp))
  |_=>exact absurd (show false=true from hs) Bool.false_ne_true
 |str i =>
  obtain⟨t,rfl⟩:=rx
  cases y with
  |non=>cases ry; exact PySem.EqNone.ne_str_none (qW I q (by simp))
  |bl j=>cases ry; exact PySem.EqMixed.ne_str_bool (qW I q (by simp))
  |int j=>obtain⟨t',rfl⟩:=ry; exact PySem.EqMixed.ne_str_int (qW I q (by simp))
  |str j=>obtain⟨t',rfl⟩:=ry; exact ne_str (qW I q (congrArg not Kz))
  |_=>exact absurd (show false=true from hs) Bool.false_ne_true
 |byt i =>
  obtain⟨t,rfl⟩:=rx
  cases y with
  |byt j=>obtain⟨t',rfl⟩:=ry; exact PySem.W.ne_bytes (qW I q (congrArg not KC))
  |_=>exact absurd (show false=true from hs) Bool.false_ne_true
 |_=>cases y<;>exact absurd (show false=true from hs) Bool.false_ne_true
theorem JF:OpR X (compareOp .Lt) (rI0 fun i j=>.bl (decide (i<j))):=opB0 fun _ _ _ _ _ _ _ q=>lt_int q
theorem op_le:OpR X (compareOp .LtE) (rI0 fun i j=>.bl (decide (i<=j))):=opB0 fun _ _ _ _ _ _ _ q=>le_int q
theorem op_gt:OpR X (compareOp .Gt) (rI0 fun i j=>.bl (decide (j<i))):=opB0 fun _ _ _ _ _ _ _ q=>gt_int q
theorem JH:OpR X (compareOp .In) (fun x y H Q=>∃i j,x=.str i/\y=.str j/\Q (.bl (!(Builtin.Str.occurrences j i 0 j.length 1).isEmpty)) H):=by
 intro pins s σ H x y v u Q I rx ry h
 obtain⟨i,j,rfl,rfl,q⟩:=h
 obtain⟨t,rfl⟩:=rx
 obtain⟨t',rfl⟩:=ry
 exact in_str (qW I q rfl)
theorem JG:OpR X (compareOp .Is) (fun x y H Q=>y=.non/\Q (.bl (decide (x=.non))) H):=by
 intro pins s σ H x y v u Q I rx ry h
 obtain⟨rfl,q⟩:=h
 cases ry
 refine is_none_gen (qW I q ?_)
 cases x<;>first
  | (cases rx; rfl)
  | (obtain⟨t,rfl⟩:=rx; rfl)
theorem Vl:OpR X (compareOp .NotIn) (fun x y H Q=>∃i j,x=.str i/\y=.str j/\Q (.bl (!(!(Builtin.Str.occurrences j i 0 j.length 1).isEmpty))) H):=by
 intro pins s σ H x y v u Q I rx ry h
 obtain⟨i,j,rfl,rfl,q⟩:=h
 obtain⟨t,rfl⟩:=rx
 obtain⟨t',rfl⟩:=ry
 exact notIn_str (qW I q rfl)
theorem qF (b:Expr) {op:CmpOp} (h:op ≠ .In:=by decide) (h2:op ≠ .NotIn:=by decide):behindInMarks op b=false:=by
 have e1:(op==CmpOp.In)=false:=by cases op<;>first|rfl|exact absurd rfl h
 have e2:(op==CmpOp.NotIn)=false:=by cases op<;>first|rfl|exact absurd rfl h2
 cases b<;>simp[behindInMarks,e1,e2]
theorem pe_cmpR {op:CmpOp} {r:R2} (ho:OpR X (compareOp op) r) (ha:PE X a ta) (hb:PE X b tb) (hm:behindInMarks op b=false):PE X (.Compare a [op] [b] pos) (tOp r ta tb):=by
 intro pins s σ H Q I h
 exact wpAny_Compare1 (binT ha hb I h fun v u s2 x y H2 I2 rx ry q=>ho pins s2 σ H2 x y v u Q I2 rx ry q) hm
def ki (t:TE):TT:=fun σ H Q=>t σ H fun x H'=>∃k,x=.bl k/\Q k H'
theorem pt_cmpR {op:CmpOp} {r:R2} (ho:OpR X (compareOp op) r) (ha:PE X a ta) (hb:PE X b tb) (hm:behindInMarks op b=false):PT X (.Compare a [op] [b] pos) (ki (tOp r ta tb)):=by
 intro pins s σ H Q I h
 refine wpAny_isTrue_Compare1 (thn (ha pins s σ H _ I h) fun v s1 ⟨x,H1,I1,r1,q1⟩=>thn (hb pins s1 σ H1 _ I1 q1) fun u s2 ⟨y,H2,I2,r2,q2⟩ =>
  thn (ho pins s2 σ H2 x y v u _ I2 r1 r2 q2) fun c s3 ⟨z,H3,I3,r3,k,e,q3⟩=>?_) hm
 subst e
 cases r3
 exact wpAny_truthy_bool ⟨H3,I3,q3⟩
def jH (r r':R2) (ta tb tc:TE):TE:=fun σ H Q=>ta σ H fun x H1=>tb σ H1 fun y H2=>r x y H2 fun z H3=>∃k,z=.bl k /\
 (if k=true then tc σ H3 fun w' H4=>r' y w' H4 Q else Q (.bl false) H3)
theorem pt_chain {op op':CmpOp} {r r':R2} (ho:OpR X (compareOp op) r) (ho':OpR X (compareOp op') r') (ha:PE X a ta) (hb:PE X b tb) (hc:PE X c tc)
  (hm:lastMarks [op,op'] [b,c]=false:=by with_unfolding_all rfl):PT X (.Compare a [op,op'] [b,c] pos) (ki (jH r r' ta tb tc)):=by
 intro pins s σ H Q I h
 refine isTrue_chain (thn (ha pins s σ H _ I h) fun v s1 ⟨x,H1,I1,r1,q1⟩=>test_link (thn (hb pins s1 σ H1 _ I1 q1) fun u s2 ⟨y,H2,I2,r2,q2⟩ =>
  thn (ho pins s2 σ H2 x y v u _ I2 r1 r2 q2) fun d s3 ⟨z,H3,I3,r3,k,e,q3⟩=>?_)) hm
 subst e
 cases r3
 refine wpAny_truthy_bool ?_
 cases k with
 |false =>
  obtain⟨k',e',q'⟩:=q3
  cases e'
  exact ite_ff ⟨H3,I3,q'⟩
 |true =>
  refine ite_tt (test_last (thn (hc pins s3 σ H3 _ I3 q3) fun w' s4 ⟨z',H4,I4,r4,q4⟩=>thn (ho' pins s4 σ H4 y z' u w' _ I4 r2 r4 q4) fun d' s5 ⟨z2,H5,I5,r5,k2,e2,q5⟩=>?_))
  subst e2
  cases r5
  exact wpAny_truthy_bool ⟨H5,I5,q5⟩
def TruV (K:PySem.W.Frag) (x:V) (H:Hp) (k:Bool):Prop :=
 match x with
 |.non=>k=false
 |.bl b=>k=b
 |.int i=>k=(i != 0)
 |.str y=>y.length<=sizeLine/\k=((y.length:Int) != 0)
 |.byt y=>y.size<=sizeLine/\k=((y.size:Int) != 0)
 |.ref p=>(∃xs,SqL K H p xs/\k = !xs.isEmpty)\/(∃xs,SqT K H p xs/\k = !xs.isEmpty)\/∃kvs,H p=some (.dK kvs)/\k = !kvs.isEmpty
 |_=>False
theorem Qa:(sizeLine:Nat)<2^63:=by rw[sizeLine_eq]; decide
theorem qH:OpR X (binaryOp .Add) (fun x y H Q=>∃i j,x=.str i/\y=.str j/\i.length+j.length<=sizeLine/\Q (.str (i++j)) H):=by
 intro pins s σ H x y v u Q I rx ry h
 obtain⟨i,j,rfl,rfl,hz,q⟩:=h
 obtain⟨t,rfl⟩:=rx
 obtain⟨t',rfl⟩:=ry
 exact add_str (fun t' tk=>⟨.str (i++j),H,I.tok _,⟨_,rfl⟩,q⟩) hz
theorem jk {x:V} {us:List Value} (r:Vals [x] us):∃u,us=[u]/\RelV x u:=by
 cases r with
 |cons r1 r2=>cases r2; exact⟨_,rfl,r1⟩
theorem vals2 {x y:V} {us:List Value} (r:Vals [x,y] us):∃u w',us=[u,w']/\RelV x u/\RelV y w':=by
 cases r with
 |cons r1 r2 =>
  cases r2 with
  |cons r3 r4=>cases r4; exact⟨_,_,rfl,r1,r3⟩
theorem call_abs:zK X (.builtin "abs") (fun xs H Q=>∃i,xs=[.int i]/\Q (.int (if i<0 then -i else i)) H):=by
 intro pins s σ H xs us Q I r h
 obtain⟨i,rfl,q⟩:=h
 obtain⟨u,rfl,t,rfl⟩:=jk r
 exact call_abs_int fun u tk=>⟨.int (if i<0 then -i else i),H,I.tok _,⟨_,rfl⟩,q⟩
theorem VN:zK X (.type "int") (fun xs H Q=>(∃i,xs=[.int i]/\Q (.int i) H)\/∃k,xs=[.bl k]/\Q (.int (if k then 1 else 0)) H):=by
 intro pins s σ H xs us Q I r h
 rcases h with⟨i,rfl,q⟩|⟨k,rfl,q⟩
 ·obtain⟨u,rfl,t,rfl⟩:=jk r
  exact call_int_int ⟨.int i,H,I,⟨_,rfl⟩,q⟩
 ·obtain⟨u,rfl,r1⟩:=jk r
  cases r1
  exact call_int_bool ⟨.int (if k then 1 else 0),H,I.tok _,⟨_,rfl⟩,q⟩
end
structure ObjM (h:Heap) (x dx C:Addr) (mA:Str->Option Value):Prop where
 obj:h.get? x=some (PySem.W.instObj C dx)
 ns:h.Ns1 dx mA
 ne:dx≠x
theorem Vx {h:Heap} {dx:Addr} {mA:Str->Option Value} (n:h.Ns1 dx mA):∃od,h.get? dx=some od/\∀name,PySem.W.lookIn name od=some (mA name):=by
 obtain⟨o,es,ep,ho,hd,hk,_,hm⟩:=n
 refine⟨o,ho,fun name=>?_⟩
 have e:=hm name
 unfold nsFind findBy at e
 rw[<-Array.find?_toList] at e
 unfold PySem.W.lookIn
 rw[hd]
 dsimp only
 split
 ·rename_i y q
  rw[q] at e
  exact congrArg some e
 ·rename_i q
  rw[q] at e
  have a:es.toList.any (·.refKey)=false:=by
   rw[List.any_eq_false]
   intro y hy
   obtain⟨z,t,hkey⟩:=hk y (Array.mem_toList_iff.mp hy)
   simp[DictEntry.refKey,hkey]
  have a':¬es.toList.any (·.refKey)=true:=by rw[a]; exact Bool.false_ne_true
  rw[if_neg a']
  exact congrArg some e
theorem ObjM.look {h:Heap} {x dx C:Addr} {mA:Str->Option Value} (I:ObjM h x dx C mA):∃od,PySem.W.InstAt h x (PySem.W.instObj C dx) C (some od)/\∀name,PySem.W.lookIn name od=some (mA name) :=
 let⟨od,ho,hl⟩:=Vx I.ns
 ⟨od,⟨I.obj,rfl,rfl,ho⟩,hl⟩
section
variable {P:Program} {w:World} {H:Hp} {h:Heap} {a C dx:Addr} {fs:List (Str×V)}
theorem ins_get (hok:HOk P w H h) (e:H a=some (.ins C dx fs)):∃mA,ObjM h a dx C mA/\(∀f,RelO (fs.lookup f) (mA f))/\PySem.Within mA (fs.map (·.1))/\fs.length<=1000/\H dx=some (.own a):=by
 obtain⟨d,z,ne,ob,mA,n,r,q⟩:=(show ObjOk P w H h a (.ins C dx fs) from hok a _ e)
 exact⟨mA,⟨ob,n,ne⟩,r,q,z,d⟩
end
structure Cls (K:PySem.W.Frag) (C:Addr):Prop where
 pg:PySem.W.plainGet K C Str.empty=true
 hd:PySem.W.hasDictIn K C=true
 po:PySem.W.plainOver K C=true
 sa:PySem.W.findIn K (.ref C) "__setattr__" = some (some (.builtin "object.__setattr__"))
theorem Cls.get {K:PySem.W.Frag} {C:Addr} (c:Cls K C) (f:Str):PySem.W.plainGet K C f=true:=c.pg
def NoAttr (K:PySem.W.Frag) (C:Addr) (f:Str):Prop:=PySem.W.findIn K (.ref C) f=some none
section
variable {X:Cx} {pins:List (Addr×Obj)} {σ:St} {H:Hp} {s:Shared} {A:Around} {E:Value->Shared->Prop} {Q:Value->Shared->Prop} {c:Value} {b:Bool}
inductive TyOf (K:PySem.W.Frag) (H:Hp):V->Value->Prop where
 |non:TyOf K H .non (.type "NoneType")
 |bl (x:Bool):TyOf K H (.bl x) (.type "bool")
 |int (i:Int):TyOf K H (.int i) (.type "int")
 |str (x:Str):TyOf K H (.str x) (.type "str")
 |flt (x:UInt64):TyOf K H (.flt x) (.type "float")
 |lst {a:Addr} {xs:List V} (e:H a=some (.lst xs)):TyOf K H (.ref a) (.type "list")
 |frz {a:Addr} {o:Obj} {xs:List V} (e:H a=some (.frz o (.lst xs))):TyOf K H (.ref a) (.type "list")
 |tup {a:Addr} {xs:List V} (e:H a=some (.tup xs)):TyOf K H (.ref a) (.type "tuple")
 |dK {a:Addr} {kvs:List (Key×V)} (e:H a=some (.dK kvs)):TyOf K H (.ref a) (.type "dict")
 |dT {a:Addr} {kvs:List (List Key×V)} (e:H a=some (.dT kvs)):TyOf K H (.ref a) (.type "dict")
 |ins {a C dx:Addr} {fs:List (Str×V)} (e:H a=some (.ins C dx fs)) (cl:Cls K C) (ha:PySem.W.findIn K (.ref C) "__class__" = some (some (.builtin "object.__class__")))
   (hn:PySem.W.specialIn K (.builtin "object.__class__") "__get__" = some (some (.builtin "getset_descriptor.__get__"))) (htk:PySem.W.takesIn K (.builtin "object.__class__")=some true)
   (hm:PySem.W.mroIn K C (.type "object")=some true):TyOf K H (.ref a) (.ref C)
theorem Kg {x:V} {u t:Value} (I:Inv X pins σ H s) (rx:RelV x u) (ty:TyOf X.K H x t) (e:PySem.W.kitOne X.K t c=some b) (h:∀tk,Q (.bool b) { s with toks:=tk }) :
  wpAny (model X.prog X.w) A (call (.builtin "isinstance") [u,c]) Q E s:=by
 cases ty with
 |non=>cases(show u=Value.none from rx); exact PySem.W.kia_one PySem.W.kitx_none I.kIn True.intro e (fun z=>nomatch z) h
 |bl y=>cases(show u=Value.bool y from rx); exact PySem.W.kia_one PySem.W.kitx_bool I.kIn True.intro e (fun z=>nomatch z) h
 |int i=>obtain⟨t,q⟩:=(show ∃t,u=Value.int i t from rx); cases q; exact PySem.W.kia_one PySem.W.kitx_int I.kIn True.intro e (fun z=>nomatch z) h
 |str y=>obtain⟨t,q⟩:=(show ∃t,u=Value.str y t from rx); cases q; exact PySem.W.kia_one PySem.W.kitx_str I.kIn True.intro e (fun z=>nomatch z) h
 |flt y=>obtain⟨t,q⟩:=(show ∃t,u=Value.float y t from rx); cases q; exact PySem.W.kia_one PySem.W.kitx_float I.kIn True.intro e (fun z=>nomatch z) h
 | @lst a xs ea =>
  cases(show u=Value.ref a from rx)
  obtain⟨_,_,n,_,h1⟩:=(show ObjOk X.prog X.w H s.heap a (.lst xs) from I.hok a _ ea)
  exact PySem.W.kia_one PySem.W.kitx_list I.kIn ⟨_,h1,rfl⟩ e (fun z=>nomatch z) h
 | @frz a ob xs ea =>
  cases(show u=Value.ref a from rx)
  obtain⟨_,_,_,n,_,h1⟩:=(show ObjOk X.prog X.w H s.heap a (.frz ob (.lst xs)) from I.hok a _ ea)
  exact PySem.W.kia_one PySem.W.kitx_list I.kIn ⟨_,h1,rfl⟩ e (fun z=>nomatch z) h
 | @tup a xs ea =>
  cases(show u=Value.ref a from rx)
  obtain⟨_,_,_,p⟩:=(show ObjOk X.prog X.w H s.heap a (.tup xs) from I.hok a _ ea)
  obtain⟨o,h1,h2,_⟩:=p
  exact PySem.W.kia_one PySem.W.kitx_tuple I.kIn ⟨o,h1,h2⟩ e (fun z=>nomatch z) h
 | @dK a kvs ea =>
  cases(show u=Value.ref a from rx)
  obtain⟨_,_,vs,_,p⟩:=(show ObjOk X.prog X.w H s.heap a (.dK kvs) from I.hok a _ ea)
  obtain⟨o,es,ep,h1,h2,_⟩:=p
  exact PySem.W.kia_one PySem.W.kitx_dict I.kIn ⟨o,h1,h2.1⟩ e (fun z=>nomatch z) h
 | @dT a kvs ea =>
  cases(show u=Value.ref a from rx)
  obtain⟨_,_,xs,_,o,es,ep,h1,h2,_⟩:=(show ObjOk X.prog X.w H s.heap a (.dT kvs) from I.hok a _ ea)
  exact PySem.W.kia_one PySem.W.kitx_dict I.kIn ⟨o,h1,h2.1⟩ e (fun z=>nomatch z) h
 | @ins a C dx fs ea cl ha hn htk hm =>
  cases(show u=Value.ref a from rx)
  obtain⟨mA,O,_⟩:=ins_get I.hok ea
  obtain⟨od,J,_⟩:=O.look
  exact PySem.W.kia_one (PySem.W.kitx_own (cl.get _) cl.hd ha hn htk hm) I.kIn J e (fun z=>nomatch z) h
end
structure Room (k:Nat) (A:Around):Prop where
 hd:A.handled=none
 dp:A.depth+3*k+5<recursionLimit
 un:A.units+16*k+200<cLine
 gd:A.guards=some []
theorem Room.mono {j k:Nat} {A:Around} (r:Room k A) (h:j<=k):Room j A:=⟨r.hd,by have:=r.dp; omega,by have:=r.un; omega,r.gd⟩
theorem Room.deeper {k:Nat} {A:Around} (r:Room (k+1) A) (env:Env):Room k (A.deeper env) :=
 ⟨r.hd,by have:=r.dp; show A.depth+1+3*k+5<_; omega,by have:=r.un; show A.units+3+16*k+200<_; omega,r.gd⟩
theorem Room.depth {k:Nat} {A:Around} (r:Room k A):A.depth<recursionLimit:=by have:=r.dp; omega
theorem Room.units {k:Nat} {A:Around} (r:Room k A):A.units+64<cLine:=by have:=r.un; omega
def tNil:TA:=fun _ H Q=>Q [] H
def xI (ta:TE) (tr:TA):TA:=fun σ H Q=>ta σ H fun x H1=>tr σ H1 fun xs H2=>Q (x::xs) H2
section
variable {X:Cx} {e:Expr} {es:List Expr} {te:TE} {t:TA} {pos:Pos}
theorem pa_nil:PA X [] tNil:=fun _ _ _ _ H Q I h=>Calls.spliced_nil ⟨[],H,I, .nil,h⟩
theorem pa_cons (ha:PE X e te) (hr:PA X es t) (hs:starEach (e::es) X.env=(false,eval e X.env)::starEach es X.env:=by rfl):PA X (e::es) (xI te t):=by
 intro pos pins s σ H Q I h
 rw[hs]
 show wpAny _ _ (spliced ((false,eval e X.env)::backTo pos (starEach es X.env))) _ _ s
 refine Calls.spliced_cons (thn (ha pins s σ H _ I h) fun u s1 ⟨x,H1,I1,r1,q1⟩=>?_)
 exact thn (hr pos pins s1 σ H1 _ I1 q1) fun us s2 ⟨xs,H2,I2,r2,q2⟩=>⟨x::xs,H2,I2, .cons r1 r2,q2⟩
def tTup (t:TA):TE:=fun σ H Q=>t σ H fun xs H1=>xs.length<=sizeLine/\∀p,H1 p=none->Q (.ref p) (upd H1 p (.tup xs))
def tLst (t:TA):TE:=fun σ H Q=>t σ H fun xs H1=>xs.length<=sizeLine/\∀p,H1 p=none->Q (.ref p) (upd H1 p (.lst xs))
theorem pe_tup {x1} (h:PA X es t):PE X (.Tuple es x1 pos) (tTup t):=by
 intro pins s σ H Q I hq
 refine wpAny_Tuple_spliced (thn (h pos pins s σ H _ I hq) fun us s1 ⟨xs,H1,I1,r,z,q⟩=>⟨by rw[<-r.length]; exact z, ?_⟩)
 have hf:H1 s1.heap.objs.size=none:=I1.hok.fresh (Nat.le_refl _)
 refine⟨.ref s1.heap.objs.size,upd H1 s1.heap.objs.size (.tup xs),I1.laid (t':=s1.toks) (fun b u e=>Heap.get?_push_of_some _ e) (Nat.le_refl _) ?_,rfl,q _ hf⟩
 exact⟨z,us,r,⟨_,Heap.get?_push_size _ rfl,rfl,_,rfl⟩⟩
theorem pe_lst (h:PA X es t):PE X (.List es pos) (tLst t):=by
 intro pins s σ H Q I hq
 refine wpAny_List_spliced (thn (h pos pins s σ H _ I hq) fun us s1 ⟨xs,H1,I1,r,z,q⟩=>⟨by rw[<-r.length]; exact z, ?_⟩)
 have hf:H1 s1.heap.objs.size=none:=I1.hok.fresh (Nat.le_refl _)
 refine⟨.ref s1.heap.objs.size,upd H1 s1.heap.objs.size (.lst xs),I1.laid (t':=s1.toks) (fun b u e=>Heap.get?_push_of_some _ e) (Nat.le_refl _) ?_,rfl,q _ hf⟩
 exact⟨z,us,0,r,Heap.get?_push_size _ rfl⟩
end
abbrev Sp:=List V->Hp->VK->XK->Prop
abbrev CXT:=List Env->Hp->Shared->XK->Value->Shared->Prop
structure Env0 (P:Program) (w:World) (K:PySem.W.Frag) (mg:Str->Option Value) (base:Heap) (A:Around) (outer:List Env) (s:Shared) (H:Hp):Prop where
 frames:A.frames=some outer
 mod:Mod K mg base
 bs:∀b o,base.get? b=some o->s.heap.get? b=some o/\H b=none
 bsz:base.objs.size<=s.heap.objs.size
 funs:s.heap.FunFrames base outer
 frf:∀b∈frs outer,H b=none
 hok:HOk P w H s.heap
 bare:AllBare s.gens
def CE (outer:List Env) (P:Program) (w:World) (H:Hp) (s:Shared) (Q:VK) (u:Value) (s':Shared):Prop :=
 ∃v H',s'.os=s.os/\AllBare s'.gens/\Un (frs outer) [] H H' s.heap s'.heap/\HOk P w H' s'.heap/\RelV v u/\Q v H'
def CR (CX:CXT) (outer:List Env) (P:Program) (w:World) (H:Hp) (s:Shared) (Q:VK) (E:XK) (r:Result) (s':Shared):Prop :=
 match r with
 |.ok (.ret u)=>CE outer P w H s Q u s'
 |.ok _=>False
 |.error e=>CX outer H s E e s'
structure FnOk (P:Program) (w:World) (K:PySem.W.Frag) (mg:Str->Option Value) (base:Heap) (CX:CXT) (k:Nat) (f:Addr) (fd:FuncData) (ps:List Str) (sp:Sp):Prop where
 len:∀vs H Q E,sp vs H Q E->vs.length=ps.length
 run:∀(A:Around) (outer:List Env) (s:Shared) (H:Hp) (args:Args) (us:List Value) (vs:List V) (Q:VK) (E:XK),Room k A->Env0 P w K mg base A outer s H->BindsTo s fd args (ps.zip us)->Vals vs us->sp vs H Q E ->
  codeAny (model P w) A (.call (.ref f) args) (CR CX outer P w H s Q E) s
theorem FnOk.imp {P:Program} {w:World} {K:PySem.W.Frag} {mg:Str->Option Value} {base:Heap} {CX:CXT} {k:Nat} {f:Addr} {fd:FuncData} {ps:List Str} {sp sp':Sp} (F:FnOk P w K mg base CX k f fd ps sp)
  (h:∀vs H Q E,sp' vs H Q E->sp vs H Q E):FnOk P w K mg base CX k f fd ps sp' :=
 ⟨fun vs H Q E q=>F.len vs H Q E (h _ _ _ _ q),fun A outer s H args us vs Q E hr he hb hv hs=>F.run A outer s H args us vs Q E hr he hb hv (h _ _ _ _ hs)⟩
section
variable {X:Cx} {pins:List (Addr×Obj)} {σ:St} {H:Hp} {s s':Shared}
theorem Inv.env0 (I:Inv X pins σ H s):Env0 X.prog X.w X.K X.mg X.base X.A X.stack s H :=
 ⟨I.ok.frames,I.ok.mod,I.bs,Nat.le_trans I.ok.bsz I.sz,I.stack,I.stkFree,I.hok,I.bare⟩
theorem Inv.after {Q:VK} {u:Value} (I:Inv X pins σ H s) (h:CE X.stack X.prog X.w H s Q u s'):EP X pins σ Q u s':=by
 obtain⟨v,H',os,bare,un,hok,r,q⟩:=h
 obtain⟨hh,g,d,t,os'⟩:=s'
 obtain rfl:os'=s.os:=os
 exact⟨v,H',I.call (h':=hh) (g':=g) (d':=d) (t':=t) (ch:=[]) un hok bare (fun b z=>absurd z (by simp)),r,q⟩
end
def jo (sp:Sp) (dvs:List V) (E:XK) (t:TA):TE:=fun σ H Q=>t σ H fun vs H1=>sp (vs++dvs) H1 Q E
def Binds (K:PySem.W.Frag) (fd:FuncData) (ps:List Str) (ds:List Value):Prop :=
 ∀(s:Shared) (us:List Value),K.In s.heap->(us++ds).length=ps.length->BindsTo s fd ⟨us, []⟩ (ps.zip (us++ds))
theorem Binds.all {K:PySem.W.Frag} {fd:FuncData} {ps:List Str} (h:∀us:List Value,us.length=ps.length->bindArgs fd ⟨us, []⟩=pure (ps.zip us)):Binds K fd ps []:=fun s us _ hl=>by
 rw[List.append_nil] at hl ⊢
 exact .of_eq (h us hl)
def K0 (CX:CXT) (X:Cx) (E:XK):Prop:=∀(pins:List (Addr×Obj)) (σ:St) (H:Hp) (s:Shared) (e:Value) (s':Shared),Inv X pins σ H s->CX X.stack H s E e s'->X.xe e s'
section
variable {X:Cx} {CX:CXT} {k:Nat} {f:Addr} {fd:FuncData} {ps:List Str} {sp:Sp} {dvs:List V} {ds:List Value} {E:XK} {x:Str} {p pos:Pos} {e:Expr} {es:List Expr} {t:TA}
theorem run_fn {pins:List (Addr×Obj)} {σ:St} {H:Hp} {s:Shared} {Q:VK} {us:List Value} {vs:List V} (F:FnOk X.prog X.w X.K X.mg X.base CX k f fd ps sp) (hr:Room k X.A) (hb:Binds X.K fd ps ds) (hd:Vals dvs ds) (hx:K0 CX X E)
  (I:Inv X pins σ H s) (r:Vals vs us) (h:sp (vs++dvs) H Q E):wpAny (model X.prog X.w) X.A (call (.ref f) us) (EP X pins σ Q) X.xe s:=by
 have r2:Vals (vs++dvs) (us++ds):=r.append hd
 have hl:(us++ds).length=ps.length:=by rw[<-r2.length]; exact F.len _ _ _ _ h
 refine wpAny_call (codeAny_mono (F.run X.A X.stack s H ⟨us, []⟩ (us++ds) (vs++dvs) Q E hr I.env0 (hb s us I.kIn hl) r2 h) fun r s' hq=>?_)
 cases r with
 |error e=>exact hx pins σ H s e s' I hq
 |ok fl =>
  cases fl with
  |ret u=>exact I.after hq
  |next=>exact False.elim hq
  |brk=>exact False.elim hq
  |cont=>exact False.elim hq
theorem pe_call (F:FnOk X.prog X.w X.K X.mg X.base CX k f fd ps sp) (hr:Room k X.A) (hg:Gl X x) (hm:X.mg x=some (.ref f)) (hk:PySem.W.keepIn X.K (.ref f)=true) (hb:Binds X.K fd ps ds) (hd:Vals dvs ds) (hx:K0 CX X E)
  (ha:PA X (e::es) t) (hdb:(x==("__debug__" : Str))=false:=by decide) (he:starEach (e::es) X.env=(false,eval e X.env)::starEach es X.env:=by rfl) (hpl:(backTo pos (starEach es X.env)).any (·.1)=false:=by rfl) :
  PE X (.Call (.Name x p) (e::es) [] pos) (jo sp dvs E t):=by
 intro pins s σ H Q I h
 refine wpAny_Call_Name_kw (kB I hg hm ?_ hdb)
 refine PySem.W.callWith_K (h₀:=X.base) I.ok.mod.kin hk (thn (ha pos pins s σ H _ I h) fun us s1 ⟨vs,H1,I1,r,q⟩=>⟨I1.kIn, ?_⟩) he hpl
 exact run_fn F hr hb hd hx I1 r q
end
structure FnScope (N P:List Str) (sc:Scope):Prop where
 kind:sc.kind=.function
 co:sc.isCoroutine=false
 gen:sc.isGenerator=false
 nd:N.Nodup
 pre:N.take P.length=P
 par:∀x∈P,sc.names.lookup x=some .local\/sc.names.lookup x=some .cell
 nofree:∀y∈sc.names,y.2 ≠ .free
theorem VO {kindOf:Str->Option NameKind} {x:Str}:∀{binds:List (Str×Value)} {m:Str->Option Value},(∀v,(x,v)∉binds)->bindL kindOf binds m x=m x
 | [],_,_=>rfl
 | (n,v)::r,m,h=>by
  unfold bindL
  rw[VO fun w hw=>h w (List.mem_cons_of_mem _ hw)]
  split
  ·have:x≠n:=by rintro rfl; exact h v List.mem_cons_self
   simp[this]
  ·rfl
theorem VQ {kindOf:Str->Option NameKind} {x:Str}:∀{binds:List (Str×Value)} {m:Str->Option Value},(∀v,(x,v)∉binds)->bindC kindOf binds m x=m x
 | [],_,_=>rfl
 | (n,v)::r,m,h=>by
  unfold bindC
  rw[VQ fun w hw=>h w (List.mem_cons_of_mem _ hw)]
  split
  ·rfl
  ·have:x≠n:=by rintro rfl; exact h v List.mem_cons_self
   simp[this]
theorem VP {kindOf:Str->Option NameKind} {x:Str} {v:Value}:∀{P:List Str} {vs:List Value} {i:Nat} {m:Str->Option Value},P.Nodup->P[i]?=some x->vs[i]?=some v->kindOf x=some .local ->
  bindL kindOf (P.zip vs) m x=some v
 | [],_,_,_,_,h,_,_=>by simp at h
 |_::_, [],_,_,_,_,h,_=>by simp at h
 |p::P,w::vs,0,m,nd,h1,h2,hk=>by
  simp at h1 h2; subst h1; subst h2
  show bindL kindOf ((p,w)::P.zip vs) m p=_
  unfold bindL
  rw[VO fun v hv=>(List.nodup_cons.mp nd).1 (List.of_mem_zip hv).1,if_pos hk]
  simp
 |p::P,w::vs,i+1,m,nd,h1,h2,hk=>by
  show bindL kindOf ((p,w)::P.zip vs) m x=_
  unfold bindL
  exact VP (i:=i) (List.nodup_cons.mp nd).2 (by simpa using h1) (by simpa using h2) hk
theorem VR {kindOf:Str->Option NameKind} {x:Str} {v:Value}:∀{P:List Str} {vs:List Value} {i:Nat} {m:Str->Option Value},P.Nodup->P[i]?=some x->vs[i]?=some v->kindOf x≠some .local ->
  bindC kindOf (P.zip vs) m x=some v
 | [],_,_,_,_,h,_,_=>by simp at h
 |_::_, [],_,_,_,_,h,_=>by simp at h
 |p::P,w::vs,0,m,nd,h1,h2,hk=>by
  simp at h1 h2; subst h1; subst h2
  show bindC kindOf ((p,w)::P.zip vs) m p=_
  unfold bindC
  rw[VQ fun v hv=>(List.nodup_cons.mp nd).1 (List.of_mem_zip hv).1,if_neg hk]
  simp
 |p::P,w::vs,i+1,m,nd,h1,h2,hk=>by
  show bindC kindOf ((p,w)::P.zip vs) m x=_
  unfold bindC
  exact VR (i:=i) (List.nodup_cons.mp nd).2 (by simpa using h1) (by simpa using h2) hk
def start (N:List Str) (vs:List V):St:=vs.map some++List.replicate (N.length-vs.length) none
def cxOf (CX:CXT) (P:Program) (w:World) (K:PySem.W.Frag) (mg:Str->Option Value) (base:Heap) (N:List Str) (qual:Str) (scope:Scope) (f:Addr) (cd:Value) (A:Around) (outer:List Env) (s:Shared) (H:Hp) (E:XK):Cx where
 prog:=P
 w:=w
 K:=K
 mg:=mg
 base:=base
 A:=A.deeper (envOfC qual scope s.heap.objs.size f cd)
 N:=N
 s₀:=s
 H₀:=H
 env:=envOfC qual scope s.heap.objs.size f cd
 outer:=outer
 stack:=envOfC qual scope s.heap.objs.size f cd::outer
 ex:=[]
 calm:=true
 fn:=fun _=>true
 pn:=[]
 xe:=fun e s'=>wpAny (model P w) (A.deeper (envOfC qual scope s.heap.objs.size f cd)) (leaving (envOfC qual scope s.heap.objs.size f cd) e) (fun _ s''=>CX outer H s E e s'') (fun e' s''=>CX outer H s E e' s'') s'
theorem Xl {sc:Scope} {n:Nat} {x:Str} (h:sc.names.lookup x=some .cell):∃c,(cellsFrom n sc.names []).lookup x=some c:=by
 have q:=PySem.W.cellsFrom_some sc.names n [] (.inl h)
 exact Option.isSome_iff_exists.mp q
theorem Ki {CX:CXT} {P:Program} {w:World} {K:PySem.W.Frag} {mg:Str->Option Value} {base:Heap} {N ps:List Str} {qual:Str} {scope:Scope} {f:Addr} {cd:Value} {A:Around} {outer:List Env} {s s1:Shared} {H:Hp} {E:XK} {us:List Value} {vs:List V}
  (S:FnScope N ps scope) (hd:A.handled=none) (e0:Env0 P w K mg base A outer s H) (hl:vs.length=ps.length) (r:Vals vs us)
  (x:InCallC s s.heap.objs.size (bindL (envOfC qual scope s.heap.objs.size f cd).kindOf (ps.zip us) fun _=>none) (cellsFrom (s.heap.objs.size+1) scope.names []) (bindC (envOfC qual scope s.heap.objs.size f cd).kindOf (ps.zip us) fun _=>none) s1) :
  Inv (cxOf CX P w K mg base N qual scope f cd A outer s H E) [] (start N vs) H s1:=by
 have hpl:ps.length<=N.length:=by have:=congrArg List.length S.pre; rw[List.length_take] at this; omega
 obtain⟨h1,tk,rfl,hk⟩:=x.done
 have noA:∀b:Addr,b∉(cxOf CX P w K mg base N qual scope f cd A outer s H E).ex:=fun b z=>absurd (show b∈([]:List Addr) from z) (by simp)
 refine⟨⟨e0.mod,S.kind,rfl,rfl,Nat.le_refl _,fun y z c h1 h2=>?_,fun y hy=>?_,fun y c _ h=>?_,fun _=>hd,Around.frames_deeper e0.frames, .inr ⟨rfl,rfl⟩,fun b z=>absurd z (noA b),e0.bs,e0.bsz,fun b _ _=>noA b,fun b z=>absurd z (noA b),e0.funs,e0.frf⟩,
  rfl,e0.bare,Un.kept hk,⟨_,x.toInCall.ns,fun i y v h1 h2 h3=>?_⟩,fun y c h=>⟨_,x.cell y c h⟩,e0.hok.fresh (Nat.le_refl _),fun y c h=>?_,fun p hp=>absurd (show p∈([]:List (Addr×Obj)) from hp) (by simp),e0.hok.kept hk, ?_⟩
 ·exact name_of_addr x.apart (PySem.mem_of_lookup h1) (PySem.mem_of_lookup h2)
 ·have hy:scope.names.lookup y=some .cell\/scope.names.lookup y=some .free:=hy
  rcases hy with hy|hy
  ·exact Xl hy
  ·exact absurd rfl (S.nofree _ (PySem.mem_of_lookup hy))
 ·exact Nat.le_of_lt (x.above y c (PySem.mem_of_lookup h))
 ·have hi:i<vs.length:=by
   unfold start at h2
   by_cases hi:i<vs.length
   ·exact hi
   ·rw[List.getElem?_append_right (by simpa using hi)] at h2
    rw[List.getElem?_replicate] at h2
    split at h2<;>cases h2
  have ha:vs[i]?=some v:=by
   unfold start at h2
   rw[List.getElem?_append_left (by simpa using hi),List.getElem?_map] at h2
   cases e:vs[i]? with
   |none=>rw[e] at h2; cases h2
   |some a=>rw[e] at h2; cases h2; rfl
  obtain⟨u,hu,rv⟩:=r.get ha
  have hp:ps[i]?=some y:=by
   rw[<-S.pre,List.getElem?_take_of_lt (by omega)]; exact h1
  have ndP:ps.Nodup:=by rw[<-S.pre]; exact S.nd.sublist (List.take_sublist _ _)
  refine⟨u,rv, ?_⟩
  rcases S.par y (List.mem_of_getElem? hp) with k|k
  ·exact .inl ⟨k,VP ndP hp hu k⟩
  ·obtain⟨c,e⟩:=Xl (n:=s.heap.objs.size+1) k
   refine .inr ⟨.inl k,c,e, ?_⟩
   have q:=x.cell y c e
   rw[VR ndP hp hu (by show scope.names.lookup y≠_; rw[k]; decide)] at q
   exact q
 ·exact e0.hok.fresh (Nat.le_of_lt (x.above y c (PySem.mem_of_lookup h)))
 ·unfold start
  show _=N.length
  rw[List.length_append,List.length_map,List.length_replicate]
  omega
theorem fn_of {CX:CXT} {P:Program} {w:World} {K:PySem.W.Frag} {mg:Str->Option Value} {base:Heap} {k:Nat} {f:Addr} {name qual:Str} {params:Arguments} {body:List Stmt} {scope:Scope} {dV kV doc pm cdv ct oc:Value} {an od:Option Addr}
  {osl:Array (Option Value)} {N ps:List Str} {sp:Sp} (lk:K.lookup f=some ⟨oc,od, .func (PySem.W.fnOf name qual params body scope dV kV doc pm an cdv ct),osl⟩) (hcd:PySem.W.codeIn K cdv qual=true) (S:FnScope N ps scope)
  (len:∀vs H Q E,sp vs H Q E->vs.length=ps.length)
  (hbody:∀(A:Around) (outer:List Env) (s:Shared) (H:Hp) (vs:List V) (Q:VK) (E:XK),Room k (A.deeper (envOfC qual scope s.heap.objs.size f cdv))->sp vs H Q E ->
   ∃t,PSs (cxOf CX P w K mg base N qual scope f cdv A outer s H E) body t/\t { nx:=fun _ H'=>Q .non H',rt:=Q } (start N vs) H) :
  FnOk P w K mg base CX (k+1) f (PySem.W.fnOf name qual params body scope dV kV doc pm an cdv ct) ps sp:=by
 refine⟨len,fun A outer s H args us vs Q E hr e0 hb r hsp=>?_⟩
 have hl:=len _ _ _ _ hsp
 have KX:K.In s.heap:=e0.mod.kin.keeps fun b o e=>(e0.bs b o e).1
 have lim:s.heap.NoLimit:=e0.mod.nolimit.keeps fun b o e=>(e0.bs b o e).1
 have hkind:∀y∈ps.zip us,scope.names.lookup y.1=some .local\/(scope.names.lookup y.1=some .cell/\((cellsFrom (s.heap.objs.size+1) scope.names []).lookup y.1).isSome=true):=fun⟨n,v⟩ hy=>by
  rcases S.par n (List.of_mem_zip hy).1 with q|q
  ·exact .inl q
  ·exact .inr ⟨q,PySem.W.cellsFrom_some _ _ _ (.inl q)⟩
 refine codeAny_call_function hr.depth (KX _ _ lk) rfl S.co S.gen rfl (PySem.W.codeRec_of KX hcd) (hb _ _ _ _ ?_)
 refine wpAny_newFunctionEnv_cells S.kind hkind fun env he s1 x=>?_
 subst he
 refine⟨lim.keeps x.toInCall.keep,codeAny_func ?_⟩
 obtain⟨t,ht,hq⟩:=hbody A outer s H vs Q E (hr.deeper _) hsp
 have I:Inv (cxOf CX P w K mg base N qual scope f cdv A outer s H E) [] (start N vs) H s1:=Ki S hr.hd e0 hl r x
 refine wpAny_mono (ht [] s1 (start N vs) H _ I hq) (fun fl s' hs=>?_) fun e s' hs=>hs
 have fin:∀{σ':St} {H':Hp} {v:V} {u:Value},Inv (cxOf CX P w K mg base N qual scope f cdv A outer s H E) [] σ' H' s'->RelV v u->Q v H'->CE outer P w H s Q u s' :=
  fun {σ' H' v u} J rv q=>⟨v,H',J.os,J.bare,J.base,J.hok,rv,q⟩
 cases fl with
 |ret u =>
  obtain⟨v,σ',H',J,rv,q⟩:=hs
  exact fin J rv q
 |next =>
  obtain⟨σ',H',J,q⟩:=hs
  exact fin (v:=V.non) (u:=Value.none) J rfl q
 |brk =>
  obtain⟨_,_,_,q⟩:=hs
  exact False.elim q
 |cont =>
  obtain⟨_,_,_,q⟩:=hs
  exact False.elim q
section
variable {X:Cx} {x:Str} {p pos:Pos} {e:Expr} {es:List Expr} {t:TA} {id T:String} {r:List V->Hp->VK->Prop}
def tCB (r:List V->Hp->VK->Prop) (t:TA):TE:=fun σ H Q=>t σ H fun vs H1=>r vs H1 Q
theorem pe_callB (hc:zK X (.builtin id) r) (hg:Gl X x) (hm:X.mg x=none) (hv:bootBuiltins x=some (.builtin id)) (ha:PA X (e::es) t) (hn:x ≠ "__name__" := by decide) (hdb:(x==("__debug__" : Str))=false:=by decide)
  (he:starEach (e::es) X.env=(false,eval e X.env)::starEach es X.env:=by rfl) (hpl:(backTo pos (starEach es X.env)).any (·.1)=false:=by rfl):PE X (.Call (.Name x p) (e::es) [] pos) (tCB r t):=by
 intro pins s σ H Q I h
 refine wpAny_Call_Name_kw (Z3 I hg hm hv ?_ hn hdb)
 exact PyProof.Rows.callWith_builtin1 (thn (ha pos pins s σ H _ I h) fun us s1 ⟨vs,H1,I1,r1,q1⟩=>hc pins s1 σ H1 vs us Q I1 r1 q1) he hpl
theorem Jx (hc:zK X (.type T) r) (hg:Gl X x) (hm:X.mg x=none) (hv:bootBuiltins x=some (.type T)) (ha:PA X (e::es) t) (hn:x ≠ "__name__" := by decide) (hdb:(x==("__debug__" : Str))=false:=by decide)
  (he:starEach (e::es) X.env=(false,eval e X.env)::starEach es X.env:=by rfl) (hpl:(backTo pos (starEach es X.env)).any (·.1)=false:=by rfl):PE X (.Call (.Name x p) (e::es) [] pos) (tCB r t):=by
 intro pins s σ H Q I h
 refine wpAny_Call_Name_kw (Z3 I hg hm hv ?_ hn hdb)
 exact PyProof.Rows.callWith_type1 (thn (ha pos pins s σ H _ I h) fun us s1 ⟨vs,H1,I1,r1,q1⟩=>hc pins s1 σ H1 vs us Q I1 r1 q1) he hpl
end
end L2
namespace HT
open PySem PyProof.Rows
section
def sIx (n d:Nat):Option Int->Nat
 |none=>d
 |some v=>if v<0 then(v+(n:Int)).toNat else min v.toNat n
theorem sIx_none (n d:Nat):sIx n d none=d:=rfl
theorem sIx_nat (n d k:Nat):sIx n d (some (k:Int))=min k n:=by
 show(if(k:Int)<0 then((k:Int)+(n:Int)).toNat else min (k:Int).toNat n)=min k n
 rw[if_neg (by omega),Int.toNat_natCast]
end
end HT
namespace L2
open PySem PySem.Spec PyProof.Rows
abbrev TO:=St->Hp->(Option Int->Hp->Prop)->Prop
def PO (X:Cx) (e:Option Expr) (t:TO):Prop :=
 ∀(pins:List (Addr×Obj)) (s:Shared) (σ:St) (H:Hp) (Q:Option Int->Hp->Prop),Inv X pins σ H s->t σ H Q ->
  wpAny (model X.prog X.w) X.A (evalPart e X.env) (fun u s'=>∃o H',Inv X pins σ H' s'/\IsPart u o/\Q o H') X.xe s
def xa:TO:=fun _ H Q=>Q none H
def Va (t:TE):TO:=fun σ H Q=>t σ H fun x H1=>∃i,x=.int i/\Q (some i) H1
section
variable {X:Cx} {e:Expr} {te:TE} {lo hi:Option Expr} {tl th:TO} {pos p2:Pos}
theorem po_none:PO X none xa:=by
 intro pins s σ H Q I h
 rw[evalPart_none]
 exact wpAny_pure ⟨none,H,I, .none,h⟩
theorem Js (h:PE X e te):PO X (some e) (Va te):=by
 intro pins s σ H Q I hw
 rw[evalPart_some]
 refine thn (h pins s σ H _ I hw) fun u s1 ⟨x,H1,I1,r1,q1⟩=>?_
 obtain⟨i,rfl,q⟩:=q1
 obtain⟨t,rfl⟩:=r1
 exact⟨some i,H1,I1, .int i t,q⟩
def SlR (X:Cx) (r:V->Option Int->Option Int->Hp->VK->Prop):Prop :=
 ∀(pins:List (Addr×Obj)) (s:Shared) (σ:St) (H:Hp) (x:V) (v vl vu:Value) (lo hi:Option Int) (sl:Addr) (Q:VK),Inv X pins σ H s->RelV x v->s.heap.IsSliceOf sl vl vu .none->IsPart vl lo->IsPart vu hi->r x lo hi H Q ->
  ∃T id,typeLookup (.type T) "__getitem__" = pure (some (.builtin id))/\s.TypeIs v T/\wpAny (model X.prog X.w) X.A (getItem v (.ref sl)) (EP X pins σ Q) X.xe s
def tSl (r:V->Option Int->Option Int->Hp->VK->Prop) (te:TE) (tl th:TO):TE:=fun σ H Q=>te σ H fun x H1=>tl σ H1 fun l H2=>th σ H2 fun u H3=>r x l u H3 Q
theorem pe_slice {r:V->Option Int->Option Int->Hp->VK->Prop} (hr:SlR X r) (he:PE X e te) (hl:PO X lo tl) (hu:PO X hi th):PE X (.Subscript e (.Slice lo hi none p2) pos) (tSl r te tl th):=by
 intro pins s σ H Q I h
 refine Subscript_ (thn (he pins s σ H _ I h) fun v s1 ⟨x,H1,I1,r1,q1⟩=>?_)
 refine wpAny_Slice (thn (hl pins s1 σ H1 _ I1 q1) fun vl s2 ⟨l,H2,I2,pl,q2⟩=>thn (hu pins s2 σ H2 _ I2 q2) fun vu s3 ⟨u,H3,I3,pu,q3⟩=>?_)
 rw[evalPart_none]
 refine wpAny_pure ?_
 have I4:Inv X pins σ H3 { s3 with heap:=s3.heap.push { cls:=.type "slice", data:=.fields #[vl,vu, .none] } }:=I3.kept (t':=s3.toks) fun b ob q=>Heap.get?_push_of_some _ q
 obtain⟨T,id,hT,ht,hg⟩:=hr pins { s3 with heap:=s3.heap.push { cls:=.type "slice", data:=.fields #[vl,vu, .none] } } σ H3 x v vl vu l u s3.heap.objs.size Q I4 r1 (Heap.IsSliceOf.new ..) pl pu q3
 show wpAny (model X.prog X.w) X.A (subscriptTail e (.Slice lo hi none p2) v (.ref s3.heap.objs.size)) (EP X pins σ Q) X.xe { s3 with heap:=s3.heap.push { cls:=.type "slice", data:=.fields #[vl,vu, .none] } }
 exact tail_any (ops:=[.ref s3.heap.objs.size,v]) ht hT hg (by with_unfolding_all rfl)
def cutV (xs:List V) (lo hi:Option Int):List V:=(xs.drop (HT.sIx xs.length 0 lo)).take (HT.sIx xs.length xs.length hi-HT.sIx xs.length 0 lo)
theorem Zx (xs:List V) (lo hi:Option Int):(cutV xs lo hi).length<=xs.length:=by
 unfold cutV
 rw[List.length_take,List.length_drop]
 omega
end
def ixN (n:Nat) (i:Int):Option Nat:=if 0<=i then(if i<n then some i.toNat else none) else if -(n:Int)<=i then some (i+n).toNat else none
def atI {α:Type} (xs:List α) (i:Int):Option α:=(ixN xs.length i).bind fun j=>xs[j]?
theorem Ke {n:Nat} {i:Int} {j:Nat} (h:ixN n i=some j):seqIndex? i n=some j/\j<n /\ -(n:Int)<=i/\i<n:=by
 unfold ixN at h
 by_cases h0:0<=i
 ·rw[if_pos h0] at h
  by_cases h1:i<n
  ·rw[if_pos h1] at h
   have e:i.toNat=j:=Option.some.inj h
   exact⟨by rw[seqIndex_of h0 h1,e],by omega,by omega,h1⟩
  ·rw[if_neg h1] at h; cases h
 ·rw[if_neg h0] at h
  by_cases h1 : -(n:Int)<=i
  ·rw[if_pos h1] at h
   have e:(i+n).toNat=j:=Option.some.inj h
   exact⟨by rw[seqIndex_neg (by omega) h1,e],by omega,h1,by omega⟩
  ·rw[if_neg h1] at h; cases h
theorem ZF {α:Type} {xs:List α} {i:Int} {v:α} (h:atI xs i=some v):∃j,seqIndex? i xs.length=some j/\xs[j]?=some v/\j<xs.length /\ -(xs.length:Int)<=i/\i<xs.length:=by
 unfold atI at h
 cases e:ixN xs.length i with
 |none=>rw[e] at h; cases h
 |some j =>
  rw[e] at h
  obtain⟨h1,h2,h3,h4⟩:=Ke e
  exact⟨j,h1,h,h2,h3,h4⟩
theorem v8 {α:Type} {xs:List α} {j:Nat} {v:α} (h:xs[j]?=some v):atI xs (j:Int)=some v:=by
 have hj:j<xs.length:=(List.getElem?_eq_some_iff.mp h).1
 have e:ixN xs.length (j:Int)=some j:=by
  unfold ixN
  rw[if_pos (by omega),if_pos (by omega)]; simp
 unfold atI; rw[e]; exact h
def KZ (b:Expr):Prop:=∀o i,subscripted b false o i=operate [o,i] (getItem o i)
def IxR (X:Cx) (r:R2):Prop :=
 ∀(value slice:Expr) (pins:List (Addr×Obj)) (s:Shared) (σ:St) (H:Hp) (x y:V) (v u:Value) (Q:VK),Inv X pins σ H s->RelV x v->RelV y u->r x y H Q ->
  subscripted slice false v u=operate [v,u] (getItem v u)->wpAny (model X.prog X.w) X.A (subscriptTail value slice v u) (EP X pins σ Q) X.xe s
def MtR (X:Cx) (id:String) (r:V->List V->Hp->VK->Prop):Prop :=
 ∀(pins:List (Addr×Obj)) (s:Shared) (σ:St) (H:Hp) (x:V) (xs:List V) (v:Value) (us:List Value) (Q:VK),Inv X pins σ H s->RelV x v->Vals xs us->r x xs H Q ->
  wpAny (model X.prog X.w) X.A (call (.builtin id) (v::us)) (EP X pins σ Q) X.xe s
section
variable {X:Cx} {a b:Expr} {ta tb:TE} {pos:Pos}
theorem IxR.or {r r':R2} (h:IxR X r) (h':IxR X r'):IxR X (fun x y H Q=>r x y H Q\/r' x y H Q):=by
 intro value slice pins s σ H x y v u Q I rx ry q hs
 rcases q with q|q
 ·exact h value slice pins s σ H x y v u Q I rx ry q hs
 ·exact h' value slice pins s σ H x y v u Q I rx ry q hs
theorem pe_ix {r:R2} (hr:IxR X r) (ha:PE X a ta) (hb:PE X b tb) (hs:KZ b):PE X (.Subscript a b pos) (tOp r ta tb):=by
 intro pins s σ H Q I h
 exact Subscript_ (binT ha hb I h fun v u s2 x y H2 I2 rx ry q=>hr a b pins s2 σ H2 x y v u Q I2 rx ry q (hs _ _))
def rIxL (K:PySem.W.Frag):R2:=fun x y H Q=>∃p xs i v,x=.ref p/\y=.int i/\SqL K H p xs/\atI xs i=some v/\Q v H
def rIxT (K:PySem.W.Frag):R2:=fun x y H Q=>∃p xs i v,x=.ref p/\y=.int i/\SqT K H p xs/\atI xs i=some v/\Q v H
def rIxS:R2:=fun x y H Q=>∃z i c,x=.str z/\y=.int i/\z.length<=sizeLine/\atI z.cps.toList i=some c/\Q (.str ⟨#[c]⟩) H
theorem ix_list:IxR X (rIxL X.K):=by
 intro value slice pins s σ H x y v u Q I rx ry h hs
 obtain⟨p,xs,i,z,rfl,rfl,hq,he,q⟩:=h
 cases rx
 obtain⟨t,rfl⟩:=ry
 obtain⟨its,r,pl,hz⟩:=I.list hq
 obtain⟨j,h1,h2,h3,h4,h5⟩:=ZF he
 obtain⟨w,ew,rw'⟩:=r.get h2
 have hl:=r.length
 have hn:=Qa
 have fin:EP X pins σ Q w s:=⟨z,H,I,rw',q⟩
 by_cases h0:0<=i
 ·have hj:i.toNat=j:=by
   rw[seqIndex_of h0 h5] at h1
   exact Option.some.inj h1
  exact item_listR pl.isList h0 (by omega) (by rw[hj]; simpa using ew) fin hs
 ·have hj:(i+(its.toArray.size:Int)).toNat=j:=by
   rw[seqIndex_neg (by omega) h4] at h1
   rw[List.size_toArray, <-hl]
   exact Option.some.inj h1
  exact subscriptTail_builtinR (x:=w) pl.isList.typeIs slot_list_getitem.lookup
   (wpAny_getItem_list_neg (Q:=fun r s'=>r=w/\EP X pins σ Q r s') pl.isList (by omega) (by rw[List.size_toArray]<;>omega) (by omega) (by rw[hj]; simpa using ew) ⟨rfl,fin⟩) hs
theorem ix_tup:IxR X (rIxT X.K):=by
 intro value slice pins s σ H x y v u Q I rx ry h hs
 obtain⟨p,xs,i,z,rfl,rfl,hq,he,q⟩:=h
 cases rx
 obtain⟨t,rfl⟩:=ry
 obtain⟨its,r,pl,hz⟩:=I.tuple hq
 obtain⟨j,h1,h2,h3,h4,h5⟩:=ZF he
 obtain⟨w,ew,rw'⟩:=r.get h2
 have hl:=r.length
 have hn:=Qa
 have fin:EP X pins σ Q w s:=⟨z,H,I,rw',q⟩
 exact subscriptTail_builtinR (x:=w) pl.typeIs slot_tuple_getitem.lookup
  (getItem_tuple (j:=j) (Q:=fun r s'=>r=w/\EP X pins σ Q r s') pl (by omega) (by omega) (by rw[List.size_toArray, <-hl]; exact h1) (by simpa using ew) ⟨rfl,fin⟩) hs
theorem Qb:IxR X rIxS:=by
 intro value slice pins s σ H x y v u Q I rx ry h hs
 obtain⟨z,i,c,rfl,rfl,hz,he,q⟩:=h
 obtain⟨t,rfl⟩:=rx
 obtain⟨t',rfl⟩:=ry
 obtain⟨j,h1,h2,h3,h4,h5⟩:=ZF he
 have hl:z.cps.toList.length=z.length:=by simp[Str.length]
 rw[hl] at h1 h4 h5
 have hn:=Qa
 exact tail_any (typeIs_str s z t) slot_str_getitem.lookup (getItem_str (c:=c) (by
  have e1:decide (i < -(2^63:Int))=false:=decide_eq_false (by omega)
  have e2:decide (i≥2^63)=false:=decide_eq_false (by omega)
  rw[e1,e2,Bool.or_false]) (by rw[h1]; simpa using h2) ⟨.str ⟨#[c]⟩,H,I.tok _,⟨_,rfl⟩,q⟩) hs
theorem XI (its:List Value) (n j:Nat) (u:Value):Obj.mapSeq (·.setIfInBounds j u) { cls:=.type "list", data:=.seq its.toArray n }={ cls:=.type "list", data:=.seq (its.set j u).toArray n }:=by
 simp[Obj.mapSeq]
theorem Inv.lst {pins:List (Addr×Obj)} {σ:St} {H:Hp} {s:Shared} {p:Addr} {xs:List V} (I:Inv X pins σ H s) (h:H p=some (.lst xs)) :
  ∃(its:List Value) (n:Nat),Vals xs its/\s.heap.get? p=some { cls:=.type "list", data:=.seq its.toArray n }/\xs.length<=sizeLine:=by
 obtain⟨z,its,n,r,e⟩:=I.hok p _ h
 exact⟨its,n,r,e,z⟩
theorem Inv.lstUpd {pins:List (Addr×Obj)} {σ:St} {H:Hp} {s:Shared} {p:Addr} {xs ys:List V} {its its':List Value} {n n':Nat} {f:Obj->Obj} (I:Inv X pins σ H s) (h:H p=some (.lst xs))
  (ho:s.heap.get? p=some { cls:=.type "list", data:=.seq its.toArray n }) (hf:f { cls:=.type "list", data:=.seq its.toArray n }={ cls:=.type "list", data:=.seq its'.toArray n' }) (r:Vals ys its') (hz:ys.length<=sizeLine) (t:Nat) :
  Inv X pins σ (upd H p (.lst ys)) { s with heap:=s.heap.update p f,toks:=t }:=by
 have e:(s.heap.update p f).get? p=some { cls:=.type "list", data:=.seq its'.toArray n' }:=by
  rw[Heap.get?_update_self f ho (by rw[hf]<;>rfl),hf]
 refine I.write (x:=p) (e:=p) (by rw[h]; trivial) (.inl rfl) (fun b u hb q=>(Heap.get?_update_other _ _ (Ne.symm hb)).trans q) ⟨_,e⟩ ?_
 exact⟨hz,its',n',r,e⟩
def rSetL:V->V->V->Hp->(Hp->Prop)->Prop:=fun o i v H Q=>∃p xs k j,o=.ref p/\i=.int k/\H p=some (.lst xs)/\ixN xs.length k=some j/\Q (upd H p (.lst (xs.set j v)))
theorem zt:PSet X rSetL:=by
 intro pins s σ H o i v ov iv u Q I ro ri rv h
 obtain⟨p,xs,k,j,rfl,rfl,hp,hj,q⟩:=h
 cases ro
 obtain⟨t,rfl⟩:=ri
 obtain⟨its,n,r,ho,hz⟩:=I.lst hp
 obtain⟨h1,h2,h3,h4⟩:=Ke hj
 have hl:=r.length
 have hn:=Qa
 have I':Inv X pins σ (upd H p (.lst (xs.set j v))) { s with heap:=s.heap.update p (Obj.mapSeq (·.setIfInBounds j u)) } :=
  I.lstUpd hp ho (XI its n j u) (r.set rv j) (by rw[List.length_set]; exact hz) s.toks
 by_cases h0:0<=k
 ·have hk:k.toNat=j:=by
   rw[seqIndex_of h0 h4] at h1
   exact Option.some.inj h1
  exact PySem.W.ki_setAt ho h0 (by omega) (by rw[List.size_toArray, <-hl]; exact h4) (by rw[hk]; exact⟨_,I',q⟩)
 ·have hk:(k+(its.toArray.size:Int)).toNat=j:=by
   rw[seqIndex_neg (by omega) h3] at h1
   rw[List.size_toArray, <-hl]
   exact Option.some.inj h1
  exact PySem.W.ki_setBack ho (by omega) (by rw[List.size_toArray, <-hl]; exact h3) (by omega) (by rw[hk]; exact⟨_,I',q⟩)
theorem Vg (lo hi:Option Int) (n:Nat):(sliceBounds lo hi none n).1=((HT.sIx n 0 lo:Nat):Int)/\(sliceBounds lo hi none n).2.1=((HT.sIx n n hi:Nat):Int)/\(sliceBounds lo hi none n).2.2=1:=by
 refine⟨?_, ?_,rfl⟩
 ·cases lo with
  |none=>simp[sliceBounds,HT.sIx]
  |some i =>
   simp only[sliceBounds,HT.sIx,Option.getD_none,show(1:Int)>0 by decide,if_true]
   by_cases h:i<0
   ·simp only[h,if_true]<;>omega
   ·simp only[h,if_false]<;>omega
 ·cases hi with
  |none=>simp[sliceBounds,HT.sIx]
  |some i =>
   simp only[sliceBounds,HT.sIx,Option.getD_none,show(1:Int)>0 by decide,if_true]
   by_cases h:i<0
   ·simp only[h,if_true]<;>omega
   ·simp only[h,if_false]<;>omega
theorem Qo (its:List Value) (lo hi:Option Int):slicePick its.toArray lo hi none=((its.drop (HT.sIx its.length 0 lo)).take (HT.sIx its.length its.length hi-HT.sIx its.length 0 lo)).toArray:=by
 obtain⟨h1,h2,h3⟩:=Vg lo hi its.toArray.size
 unfold slicePick
 rw[h1,h2,h3]
 simp only[sliceRange_one,pick_run,List.size_toArray]<;>rfl
def rSlL (K:PySem.W.Frag):V->Option Int->Option Int->Hp->VK->Prop:=fun x lo hi H Q=>∃a xs,x=.ref a/\SqL K H a xs/\∀p,H p=none->Q (.ref p) (upd H p (.lst (cutV xs lo hi)))
theorem sl_list:SlR X (rSlL X.K):=by
 intro pins s σ H x v vl vu lo hi sl Q I rx hs pl pu h
 obtain⟨a,xs,rfl,hx,q⟩:=h
 cases rx
 obtain⟨its,r,ht,hz⟩:=I.list hx
 have hlen:=r.length
 refine⟨"list", _,slot_list_getitem.lookup,ht.isList.typeIs, ?_⟩
 refine wpAny_getItem_list_slice ht.isList hs pl pu .none (by simp) ?_ (by rw[List.size_toArray]<;>omega)
 rw[Qo, <-hlen]
 refine⟨.ref s.heap.objs.size,_,I.laid (t':=s.toks) (o:=.lst (cutV xs lo hi)) (fun b ob q=>Heap.get?_push_of_some _ q) (Nat.le_refl _) ?_,rfl,q _ (I.hok.fresh (Nat.le_refl _))⟩
 exact⟨Nat.le_trans (Zx xs lo hi) hz,_,0,(r.drop (HT.sIx xs.length 0 lo)).take (HT.sIx xs.length xs.length hi-HT.sIx xs.length 0 lo),Heap.get?_push_size _ rfl⟩
def Ku:V->Bool
 |.non=>true
 |.bl _=>true
 |.int _=>true
 |.str _=>true
 |_=>false
def eqV:V->V->Bool
 |.non, .non=>true
 |.bl a, .bl b=>a==b
 |.bl a, .int b=>(if a then 1 else 0)==b
 |.int a, .bl b=>a==(if b then 1 else 0)
 |.int a, .int b=>a==b
 |.str a, .str b=>a==b
 |_,_=>false
theorem eqAt_V {A:Around} {s:Shared} {y x:V} {u v:Value} (ry:RelV y u) (rx:RelV x v) (fy:Ku y=true) (fx:Ku x=true):SeqAt.EqAt A s u v (eqV y x):=by
 cases y with
 |non =>
  cases ry
  cases x with
  |non=>cases rx; exact SeqAt.EqAt.same _
  |bl b=>cases rx; exact SeqAt.EqAt.none_bool b
  |int b=>obtain⟨t,rfl⟩:=rx; exact SeqAt.EqAt.none_int b t
  |str b=>obtain⟨t,rfl⟩:=rx; exact SeqAt.EqAt.none_str b t
  |_=>exact absurd (show false=true from fx) Bool.false_ne_true
 |bl a =>
  cases ry
  cases x with
  |non=>cases rx; exact SeqAt.EqAt.bool_none a
  |bl b=>cases rx; exact SeqAt.EqAt.bool_bool a b
  |int b=>obtain⟨t,rfl⟩:=rx; exact SeqAt.EqAt.bool_int a b t
  |str b=>obtain⟨t,rfl⟩:=rx; exact SeqAt.EqAt.bool_str a b t
  |_=>exact absurd (show false=true from fx) Bool.false_ne_true
 |int a =>
  obtain⟨t',rfl⟩:=ry
  cases x with
  |non=>cases rx; exact SeqAt.EqAt.int_none a t'
  |bl b=>cases rx; exact SeqAt.EqAt.int_bool a t' b
  |int b=>obtain⟨t,rfl⟩:=rx; exact SeqAt.EqAt.int_int a t' b t
  |str b=>obtain⟨t,rfl⟩:=rx; exact SeqAt.EqAt.int_str a t' b t
  |_=>exact absurd (show false=true from fx) Bool.false_ne_true
 |str a =>
  obtain⟨t',rfl⟩:=ry
  cases x with
  |non=>cases rx; exact SeqAt.EqAt.str_none a t'
  |bl b=>cases rx; exact SeqAt.EqAt.str_bool a t' b
  |int b=>obtain⟨t,rfl⟩:=rx; exact SeqAt.EqAt.str_int a t' b t
  |str b=>obtain⟨t,rfl⟩:=rx; exact SeqAt.EqAt.str_str a t' b t
  |_=>exact absurd (show false=true from fx) Bool.false_ne_true
 |_=>exact absurd (show false=true from fy) Bool.false_ne_true
def inV (x:V) (xs:List V):Bool:=xs.any fun y=>eqV y x
theorem jQ:zK X (.builtin "len") (fun xs H Q=>∃p ys,xs=[.ref p]/\(SqL X.K H p ys\/SqT X.K H p ys)/\Q (.int ys.length) H):=by
 intro pins s σ H xs us Q I r h
 obtain⟨p,ys,rfl,hq,q⟩:=h
 obtain⟨u,rfl,rx⟩:=jk r
 cases rx
 have hn:=Qa
 rcases hq with hq|hq
 ·obtain⟨its,r',pl,hz⟩:=I.list hq
  have hlen:=r'.length
  exact Calls.call_len_list pl.isList (by simp only[List.size_toArray]<;>omega) ⟨.int ys.length,H,I.tok _,⟨s.toks+1,by rw[List.size_toArray,hlen]⟩,q⟩
 ·obtain⟨its,r',pl,hz⟩:=I.tuple hq
  have hlen:=r'.length
  exact len_tuple pl (by simp only[List.size_toArray]<;>omega) ⟨.int ys.length,H,I.tok _,⟨s.toks+1,by rw[List.size_toArray,hlen]⟩,q⟩
theorem VI:zK X (.builtin "len") (fun xs H Q=>∃z,xs=[.str z]/\z.length<=sizeLine/\Q (.int z.length) H):=by
 intro pins s σ H xs us Q I r h
 obtain⟨z,rfl,hz,q⟩:=h
 obtain⟨u,rfl,t,rfl⟩:=jk r
 have hn:=Qa
 exact len_str (by omega) ⟨.int z.length,H,I.tok _,⟨_,rfl⟩,q⟩
def tyV (K:PySem.W.Frag) (T:String) (x:V) (H:Hp):Prop:=match x with
 |.str _=>T = "str"
 |.int _=>T = "int"
 |.ref p=>(T = "list" /\ ∃xs,SqL K H p xs)\/(T = "tuple" /\ ∃o,K.lookup p=some o/\o.cls=.type "tuple" /\ o.dict=none) \/
   (T = "dict" /\ ((∃kvs,H p=some (.dK kvs))\/∃kvs,H p=some (.dT kvs)))\/(T = "set" /\ ∃S n,H p=some (.set S n))
 |_=>False
theorem X5 {pins:List (Addr×Obj)} {σ:St} {H:Hp} {s:Shared} {T:String} {x:V} {v:Value} (I:Inv X pins σ H s) (r:RelV x v) (ty:tyV X.K T x H) :
  s.TypeIs v T/\∀a,v=.ref a->∃ob,s.heap.get? a=some ob/\ob.dict=none:=by
 cases x with
 |str z =>
  obtain⟨t,rfl⟩:=r
  cases(show T = "str" from ty)
  exact⟨typeIs_str s z t,fun _ e=>nomatch e⟩
 |int i =>
  obtain⟨t,rfl⟩:=r
  cases(show T = "int" from ty)
  exact⟨typeIs_int s i t,fun _ e=>nomatch e⟩
 |ref p =>
  cases r
  rcases ty with⟨rfl,xs,hq⟩|⟨rfl,o,hk,hc,hd⟩|⟨rfl,hk⟩|⟨rfl,S,n,hk⟩
  ·obtain⟨its,_,pl,_⟩:=I.list hq
   refine⟨pl.isList.typeIs,fun a e=>?_⟩
   cases e
   obtain⟨o,n,e,c,hd,_⟩:=pl
   exact⟨o,e,hd⟩
  ·refine⟨⟨o,I.kIn p o hk,hc⟩,fun a e=>?_⟩
   cases e
   exact⟨o,I.kIn _ o hk,hd⟩
  ·have z:∃o,s.heap.get? p=some o/\o.ExactDict:=by
    rcases hk with⟨kvs,hk⟩|⟨kvs,hk⟩
    ·obtain⟨_,_,_,_,o,_,_,e,ex,_⟩:=I.hok p _ hk
     exact⟨o,e,ex⟩
    ·obtain⟨_,_,_,_,o,_,_,e,ex,_⟩:=I.hok p _ hk
     exact⟨o,e,ex⟩
   obtain⟨o,e,ex⟩:=z
   refine⟨⟨o,e,ex.1⟩,fun a e2=>?_⟩
   cases e2
   exact⟨o,e,ex.2.1⟩
  ·obtain⟨o,_,_,_,e,ex,_⟩:=I.hok p _ hk
   refine⟨⟨o,e,ex.1⟩,fun a e2=>?_⟩
   cases e2
   exact⟨o,e,ex.2.1⟩
 |_=>exact False.elim ty
def tBM0 (K:PySem.W.Frag) (T:String) (r:V->List V->Hp->VK->Prop) (to:TE):TE:=fun σ H Q=>to σ H fun x H1=>tyV K T x H1/\r x [] H1 Q
def tBM (K:PySem.W.Frag) (T:String) (r:V->List V->Hp->VK->Prop) (to:TE) (t:TA):TE:=fun σ H Q=>to σ H fun x H1=>tyV K T x H1/\t σ H1 fun xs H2=>r x xs H2 Q
variable {o e:Expr} {es:List Expr} {to:TE} {t:TA} {name:Str} {apos cpos:Pos} {T id:String} {r:V->List V->Hp->VK->Prop}
theorem pe_bm0 (pa:PlainAttrs T) (slot:Slot T name id) (hty:typeOf (.builtin id)=pure (.type "method_descriptor")) (hm:MtR X id r) (ho:PE X o to)
  (hbase:attributeBase o name X.env (eval o X.env)=eval o X.env:=by rfl) (hline:(apos.endLine==cpos.line)=true:=by rfl):PE X (.Call (.Attribute o name apos) [] [] cpos) (tBM0 X.K T r to):=by
 intro pins s σ H Q I h
 refine wpAny_Call_method0_late hbase hline (thn (ho pins s σ H _ I h) fun v s1 ⟨x,H1,I1,r1,ty,q1⟩=>?_)
 obtain⟨h1,h2⟩:=X5 I1 r1 ty
 exact⟨T,id,pa,slot,hty,h1,h2,Calls.callWith_builtin rfl (PySem.evalArgs_none (hm pins s1 σ H1 x [] v [] Q I1 r1 .nil q1))⟩
theorem pe_bm (pa:PlainAttrs T) (slot:Slot T name id) (hty:typeOf (.builtin id)=pure (.type "method_descriptor")) (hm:MtR X id r) (ho:PE X o to) (ha:PA X (e::es) t)
  (hbase:attributeBase o name X.env (eval o X.env)=eval o X.env:=by rfl)
  (hfew:((backTo cpos (starEach (e::es) X.env)).all (fun x => !x.1)&&(backToKw cpos (keywordEach [] X.env)).all (fun x=>x.1.isSome)
   && decide ((e::es).length+([]:List Keyword).length+(if([]:List Keyword).isEmpty then 0 else 1)<30))=true:=by rfl)
  (hline:(apos.endLine==cpos.line)=true:=by rfl) (hs:starEach (e::es) X.env=(false,eval e X.env)::starEach es X.env:=by rfl) (hplain:(backTo cpos (starEach es X.env)).any (·.1)=false:=by rfl) :
  PE X (.Call (.Attribute o name apos) (e::es) [] cpos) (tBM X.K T r to t):=by
 intro pins s σ H Q I h
 refine wpAny_Call_method_late hbase hfew hline rfl (thn (ho pins s σ H _ I h) fun v s1 ⟨x,H1,I1,r1,ty,q1⟩=>?_)
 obtain⟨h1,h2⟩:=X5 I1 r1 ty
 refine⟨T,id,pa,slot,hty,h1,h2, ?_⟩
 have hA:=ha cpos pins s1 σ H1 _ I1 q1
 rw[hs] at hA ⊢
 refine Calls.callWith_builtin (by show(false||(backTo cpos (starEach es X.env)).any (·.1))=false; rw[hplain]<;>rfl) (Calls.evalArgs_plain ?_)
 exact thn hA fun us s2 ⟨vs,H2,I2,r2,q2⟩=>hm pins s2 σ H2 x vs v us Q I2 r1 r2 q2
end
def MtM (X:Cx) (id:String) (r:V->List V->Hp->VK->Prop):Prop :=
 ∀(pins:List (Addr×Obj)) (s:Shared) (σ:St) (H:Hp) (x:V) (xs:List V) (v:Value) (us:List Value) (Q:VK),Inv X pins σ H s->RelV x v->Vals xs us->r x xs H Q ->
  wpAny (model X.prog X.w) X.A (call (.builtin id) (v::us)) (EP X pins σ Q) X.xe s
theorem Vals.one:∀{x:V} {us:List Value},Vals [x] us->∃u,us=[u]/\RelV x u
 |_,_, .cons r .nil=>⟨_,rfl,r⟩
section
variable {X:Cx} {pins:List (Addr×Obj)} {σ:St} {H:Hp} {s:Shared} {l:Addr} {xs ys:List V}
theorem Inv.lset {its its':List Value} {n:Nat} {f:Array Value->Array Value} {t':Nat} (I:Inv X pins σ H s) (hH:H l=some (.lst xs))
  (e:s.heap.get? l=some { cls:=.type "list", data:=.seq its.toArray n }) (hf:f its.toArray=its'.toArray) (hv:Vals ys its') (hz:ys.length<=sizeLine) :
  Inv X pins σ (upd H l (.lst ys)) { s with heap:=s.heap.update l (Obj.mapSeq f),toks:=t' }:=by
 have q:=PySem.IsL.update e f
 rw[hf] at q
 refine I.write (x:=l) (e:=l) (by rw[hH]; exact trivial) (.inl rfl) (fun b' u hb hu=>(Heap.get?_update_other s.heap (Obj.mapSeq f) (Ne.symm hb)).trans hu) ⟨_,q⟩ ?_
 exact⟨hz,its',_,hv,q⟩
theorem Inv.lnew {its:List Value} {t':Nat} (I:Inv X pins σ H s) (hv:Vals ys its) (hz:ys.length<=sizeLine) :
  Inv X pins σ (upd H s.heap.objs.size (.lst ys)) { s with heap:=s.heap.push { cls:=.type "list", data:=.seq its.toArray },toks:=t' } :=
 I.laid (fun _ _ q=>Heap.get?_push_of_some _ q) (Nat.le_refl _) ⟨hz,its,0,hv,Heap.get?_push_size _ rfl⟩
theorem Inv.fresh (I:Inv X pins σ H s):H s.heap.objs.size=none:=I.hok.fresh (Nat.le_refl _)
theorem Inv.lstM (I:Inv X pins σ H s) (hH:H l=some (.lst xs)):xs.length<=sizeLine/\∃(its:List Value) (n:Nat),Vals xs its/\xs.length=its.length/\s.heap.get? l=some { cls:=.type "list", data:=.seq its.toArray n }:=by
 obtain⟨z,its,n,r,e⟩:=I.hok l _ hH
 exact⟨z,its,n,r,r.length,e⟩
theorem notLongL {n:Nat} (h:n<=sizeLine):Builtin.List.listTooLong n=false:=by
 unfold Builtin.List.listTooLong
 exact decide_eq_false (by omega)
end
section
variable {X:Cx}
def Jl:V->List V->Hp->VK->Prop:=fun x vs H Q=>∃l xs y,x=.ref l/\vs=[y]/\H l=some (.lst xs)/\xs.length<sizeLine/\Q .non (upd H l (.lst (xs++[y])))
theorem vK:MtM X "list.append" Jl:=by
 intro pins s σ H x vs v us Q I rx rv h
 obtain⟨l,xs,y,rfl,rfl,hH,hz,q⟩:=h
 cases rx
 obtain⟨u,rfl,ru⟩:=rv.one
 obtain⟨z,its,n,r,hl,e⟩:=I.lstM hH
 refine call_meets F.slot_list_append ⟨_,e,rfl⟩ F.entry_list_append (F.args_list_append_2 _ _) (PySem.list_append l its.toArray n u (by rw[List.size_toArray]; omega)) ⟨e, ?_⟩
 refine⟨.non,_,I.lset (its':=its++[u]) hH e (by simp) (r.append (.cons ru .nil)) ?_,rfl,q⟩
 rw[List.length_append,List.length_singleton]
 omega
def rExtend:V->List V->Hp->VK->Prop:=fun x vs H Q=>∃l b xs zs,x=.ref l/\vs=[.ref b]/\H l=some (.lst xs)/\H b=some (.lst zs)/\xs.length+zs.length<=sizeLine/\Q .non (upd H l (.lst (xs++zs)))
theorem mt_extend:MtM X "list.extend" rExtend:=by
 intro pins s σ H x vs v us Q I rx rv h
 obtain⟨l,b,xs,zs,rfl,rfl,hH,hB,hz,q⟩:=h
 cases rx
 obtain⟨u,rfl,ru⟩:=rv.one
 cases ru
 obtain⟨z,its,n,r,hl,e⟩:=I.lstM hH
 obtain⟨z2,its2,n2,r2,hl2,e2⟩:=I.lstM hB
 have hsz:its.toArray.size+its2.toArray.size<=sizeLine:=by rw[List.size_toArray,List.size_toArray]; omega
 have hlong:¬(!its.toArray.isEmpty&&Builtin.List.listTooLong (its.toArray.size+its2.toArray.size))=true:=by
  rw[notLongL hsz,Bool.and_false]
  exact Bool.false_ne_true
 refine call_meets F.slot_list_extend ⟨_,e,rfl⟩ F.entry_list_extend (F.args_list_extend_2 _ _)
  (AutoSeq1.list_extend_list_list_0 l its.toArray n b its2.toArray n2 hlong (by rw[List.size_toArray]; omega) (by omega)) ⟨e,e2, ?_⟩
 refine⟨.non,_,I.lset (its':=its++its2) hH e (by simp) (r.append r2) ?_,rfl,q⟩
 rw[List.length_append]
 omega
def rCat:R2:=fun x y H Q=>∃l b xs zs,x=.ref l/\y=.ref b/\H l=some (.lst xs)/\H b=some (.lst zs)/\xs.length+zs.length<=sizeLine/\∀p,H p=none->Q (.ref p) (upd H p (.lst (xs++zs)))
theorem vZ:OpR X (binaryOp .Add) rCat:=by
 intro pins s σ H x y v u Q I rx ry h
 obtain⟨l,b,xs,zs,rfl,rfl,hH,hB,hz,q⟩:=h
 cases rx
 cases ry
 obtain⟨z,its,n,r,hl,e⟩:=I.lstM hH
 obtain⟨z2,its2,n2,r2,hl2,e2⟩:=I.lstM hB
 refine PySem.P.add_list e e2 ?_ (by rw[List.size_toArray,List.size_toArray]; omega)
 have ea:its.toArray++its2.toArray=(its++its2).toArray:=by simp
 rw[ea]
 exact⟨.ref _,_,I.lnew (t':=s.toks) (r.append r2) (by rw[List.length_append]; omega),rfl,q _ I.fresh⟩
end
end L2
namespace Att
open PySem PySem.W PySem.Calls PyProof.Rows
theorem kD {P:Params} {h:Heap}:∀(ns:List Int) (vs:List Value),WellAll P h vs (ns.map WData.int)->IntsAre vs ns:=by
 intro ns
 induction ns with
 |nil =>
  intro vs w
  rw[List.map_nil] at w
  cases w
  exact .nil
 |cons n ns ih =>
  intro vs w
  rw[List.map_cons] at w
  cases w with
  |cons a b =>
   cases a
   exact .cons _ _ (ih _ b)
theorem Ja {l:OpenLaw} {n:Nat} (hn:l.most=some n) {P:Params} {h:Heap} {args:List WData} {vals:List Value}
  (hpre:l.row.toRowW.claim.pre args=true) (hwl:WellAll P h vals args) :
  ∃a vs ns,vals=[Value.ref a]/\args=[WData.list (ns.map WData.int)]/\h.get? a=some { cls:=.type "list", data:=.seq vs.toArray }/\IntsAre vs ns/\ns.length<=n:=by
 have hsh:WShape.hasAll [] args [.list .int]=true:=(pre_splitW hpre).1
 have hc:l.pre.holds [] { args:=args }=true:=(pre_splitW hpre).2
 obtain⟨d,r,rfl,h1,h2⟩:=hasAllW_cons hsh
 obtain rfl:=hasAllW_nil h2
 obtain⟨xs,rfl,h3⟩:=hasW_list h1
 obtain⟨ns,rfl⟩:=items_int h3
 have hlen:ns.length<=n:=by
  unfold OpenLaw.pre at hc
  have h4:(WTm.not (.lt (.lit (.int (n:Int))) (.len (.arg 0)))).holds [] { args:=[.list (ns.map .int)] }=true:=by
   have h4:=(holds_andW hc).1
   rw[hn] at h4
   exact h4
  have h5:=condW_of h4 (w_not (w_lt w_lit (w_len_list (w_arg rfl))))
  rw[List.length_map] at h5
  refine Nat.le_of_not_lt fun q=>?_
  have q':(n:Int)<((ns.length:Nat):Int):=by omega
  first
   | (rw[decide_eq_true q'] at h5; exact absurd h5 (by decide))
   | (simp at h5; omega)
 cases hwl with
 |cons w1 w2 =>
  cases w2
  cases w1 with
  |list ho hall=>exact⟨_,_,ns,rfl,rfl,ho,kD ns _ hall,hlen⟩
theorem Jr (l:OpenLaw) (args:List WData):l.row.toRowW.claim.post args (.bool true) args=true :=
 postW_of (r:=l.row.toRowW) (X:=(true==true))
  (show WShape.has [] (.bool true) .bool=true by first|rfl|decide|simp[WShape.has,WShape.arms,WShape.armsAll])
  (show(WTm.eq .res (.lit (.bool true))).value [] { args:=args,res:=some (.bool true),after:=args }=some (.bool (true==true)) from w_eq_bool (w_res rfl) w_lit) rfl
theorem attach_call {l:OpenLaw} {n:Nat} {q:Program} {loose:List Str} {XP:(Str->Option Value)->Heap->Prop} {YP:World->Heap->Prop} {d:DefRec}
  (hn:l.most=some n) (hdf:d.params.defaults=[])
  (call:∀(w:World) (s₀ s₁:Shared) (mg mb:Str->Option Value) (fa:Addr) (o:Obj) (pm cd doc:Value) (a:Addr) (vs:List Value) (ns:List Int),
   Ground q loose [] XP w s₀ mg mb s₁.heap->YP w s₁.heap ->
   s₁.heap.get? fa=some o->o.data=.func (docDef d.name d.params d.body d.scope pm cd doc)->s₁.heap.CodeRec cd d.name->mg d.name=some (.ref fa) ->
   s₁.heap.get? a=some { cls:=.type "list", data:=.seq vs.toArray }->IntsAre vs ns->ns.length<=n->s₁.gens=#[] ->
   codeAny (model l.prog w) callerA (.call (.ref fa) ⟨[.ref a], []⟩) (fun r s'=>r=.ok (.ret (.bool true))/\OldK s₁.heap s'.heap/\s'.os=s₁.os/\AllBare s'.gens) s₁) :
  WalkO q loose XP YP l.row.toRowW d [] (fun f vs=>PySem.call f vs):=by
 intro w s₀ s₁ mg mb G Y fa o pm cd doc dV kV ho hd hcd hD hmg hg args vals as hpre hlay hrd hwl hlo
 obtain rfl:dV=.none:=Dflts.none hD hdf
 obtain rfl:kV=.none:=Dflts.noKw hD
 obtain⟨a,vs,ns,rfl,rfl,hobj,hints,hlen⟩:=Ja hn hpre hwl
 refine enter_call (codeAny_mono (call w s₀ s₁ mg mb fa o pm cd doc a vs ns G Y ho (fd_plain hd) hcd hmg hobj hints hlen hg) fun r s' hq=>?_)
 obtain⟨rfl,h2,h3,h4⟩:=hq
 exact⟨.inl ⟨.bool true, .bool true, [],rfl,fun _=>rfl, .bool true,Jr l _,fun _=>⟨List.Pairwise.nil,fun _ hm=>(nomatch hm)⟩⟩,h2,h3,h4⟩
end Att
namespace L2
open PySem PySem.Spec PyProof.Rows
theorem Q4:∀{vs:List Value} {ns:List Int},IntsAre vs ns->Vals (ns.map V.int) vs
 |_,_, .nil=>.nil
 |_,_, .cons n t h=>.cons ⟨t,rfl⟩ (Q4 h)
def Only (H:Hp):Prop:=∀b,H b=none\/∃o xs,H b=some (.frz o (.lst xs))
theorem law_call {P:Program} {w:World} {K:PySem.W.Frag} {mg mb:Str->Option Value} {CX:CXT} {k:Nat} {fa a:Addr} {fd:FuncData} {x:Str} {sp:Sp} {s₁:Shared} {vs:List Value} {ns:List Int}
  (KX:K.In s₁.heap) (hns:s₁.heap.Ns mainGlobals mg) (hb:s₁.heap.Ns builtinsNs mb) (hbb:∀x:Str,x ≠ "__name__" -> mb x=bootBuiltins x) (hlim:s₁.heap.NoLimit) (hg:s₁.gens=#[])
  (ha:s₁.heap.get? a=some { cls:=.type "list", data:=.seq vs.toArray }) (hi:IntsAre vs ns) (hl:ns.length<=sizeLine) (hr:Room k callerA)
  (F:∀base:Heap,K.In base->base.Ns mainGlobals mg->FnOk P w K mg base CX k fa fd [x] sp) (hbind:∀(s:Shared) (u:Value),BindsTo s fd ⟨[u], []⟩ [(x,u)])
  (hsp:∀H:Hp,Only H->SqL K H a (ns.map V.int)->sp [.ref a] H (fun v _=>v=.bl true) fun _ _ _=>False)
  (hCX:∀H e s',CX [] H s₁ (fun _ _ _=>False) e s'->False) :
  codeAny (model P w) callerA (.call (.ref fa) ⟨[.ref a], []⟩) (fun r s'=>r=.ok (.ret (.bool true))/\OldK s₁.heap s'.heap/\s'.os=s₁.os/\AllBare s'.gens) s₁:=by
 have rv:=Q4 hi
 have lenV:=hi.length
 -- from an abstract heap in which nothing but the script may be tracked
 have core:∀H:Hp,Only H->SqL K H a (ns.map V.int)->HOk P w H s₁.heap->(∀b,H b≠none->b=a)->(H a≠none->K.lookup a=none) ->
   codeAny (model P w) callerA (.call (.ref fa) ⟨[.ref a], []⟩) (fun r s'=>r=.ok (.ret (.bool true))/\OldK s₁.heap s'.heap/\s'.os=s₁.os/\AllBare s'.gens) s₁:=by
  intro H hO hS hok hA hK
  have base_of:∀{b:Addr} {o:Obj},s₁.heap.get? b=some o->H b=none->(hidT s₁.heap H).get? b=some o:=fun e n=>hidT_get e n
  have noA:∀{b:Addr} {o:Obj} {es:Array DictEntry} {ep:Nat},s₁.heap.get? b=some o->o.data=.dict es ep->H b=none:=fun {b o es ep} e d=>by
   cases q:H b with
   |none=>rfl
   |some u =>
    have e':b=a:=hA b (by rw[q]; simp)
    subst e'
    rw[ha] at e; cases e
    have d':Data.seq vs.toArray _=Data.dict es ep:=d
    cases d'
  have nsK:∀{b:Addr} {m:Str->Option Value},s₁.heap.Ns b m->(hidT s₁.heap H).Ns b m:=fun {b m} ⟨o,es,ep,e,d,r⟩=>⟨o,es,ep,base_of e (noA e d),d,r⟩
  have hKb:K.In (hidT s₁.heap H):=fun b o e=>base_of (KX b o e) (by
   cases q:H b with
   |none=>rfl
   |some u =>
    have e':b=a:=hA b (by rw[q]; simp)
    subst e'
    rw[hK (by rw[q]; simp)] at e; cases e)
  have hM:Mod K mg (hidT s₁.heap H):=⟨hKb,nsK hns,⟨mb,nsK hb,hbb⟩,let⟨mc,h1,h2⟩:=hlim; ⟨mc,nsK h1,h2⟩⟩
  have e0:Env0 P w K mg (hidT s₁.heap H) callerA [] s₁ H:=⟨rfl,hM,fun b o e=>of_hidT e,Nat.le_of_eq (Kk _ _),trivial,fun b hb=>absurd (show b∈([]:List Addr) from hb) (by simp),hok, .of_eq hg⟩
  refine codeAny_mono ((F _ hKb (nsK hns)).run callerA [] s₁ H ⟨[.ref a], []⟩ [.ref a] [.ref a] _ _ hr e0 (hbind s₁ (.ref a)) (.cons rfl .nil) (hsp H hO hS)) fun r s' h=>?_
  cases r with
  |error e=>exact(hCX H e s' h).elim
  |ok fl =>
   cases fl with
   |next=>exact False.elim h
   |brk=>exact False.elim h
   |cont=>exact False.elim h
   |ret u =>
    obtain⟨v,H',os,bare,un,hok',r',q⟩:=h
    have q':v=.bl true:=q
    subst q'
    obtain rfl:u=Value.bool true:=r'
    refine⟨rfl,OldK.of_keep fun b o e=>?_,os,bare⟩
    cases q:H b with
    |none=>exact un.keep b o e q (by intro z; exact absurd (show b∈([]:List Addr) from z) (by simp)) (by simp)
    |some u =>
     rcases hO b with z|⟨ob,xs,z⟩
     ·rw[q] at z; cases z
     ·have z2:=un.frzs b ob _ z
      obtain⟨e1,_⟩:=hok b _ z
      obtain⟨e2,_⟩:=hok' b _ z2
      rw[e] at e1; cases e1
      exact e2
 cases hk:K.lookup a with
 |some o =>
  -- the script is one of the module's own objects
  have e:=KX a o hk
  rw[ha] at e
  cases e
  refine core (fun _=>none) (fun _=>.inl rfl) (.inr ⟨_,vs.toArray,_,hk,rfl,rfl,rfl,by rw[List.size_toArray,lenV]; exact hl,by simpa using rv⟩) (fun b u z=>by have z':(none:Option HO)=some u:=z; cases z') (fun b z=>absurd rfl z) fun z=>absurd rfl z
 |none =>
  refine core (fun b=>if b=a then some (.frz { cls:=.type "list", data:=.seq vs.toArray } (.lst (ns.map V.int))) else none) (fun b=>?_) (.inl (.inr ⟨{ cls:=.type "list", data:=.seq vs.toArray },if_pos rfl⟩)) (fun b u z=>?_) (fun b z=>?_) fun _=>hk
  ·by_cases hb:b=a
   ·exact .inr ⟨_,_,if_pos hb⟩
   ·exact .inl (if_neg hb)
  ·by_cases hb:b=a
   ·have z':=(if_pos hb).symm.trans z
    cases z'
    subst hb
    exact⟨ha,by rw[List.length_map]; exact hl,vs,_,rv,ha⟩
   ·have z':=(if_neg hb).symm.trans z
    cases z'
  ·by_cases hb:b=a
   ·exact hb
   ·exact absurd (if_neg hb) z
theorem walk_of {l:PySem.W.OpenLaw} {n k:Nat} {q:Program} {loose:List Str} {XP:(Str->Option Value)->Heap->Prop} {YP:World->Heap->Prop} {d:DefRec} {K:Params->PySem.W.Frag} {CX:World->CXT} {sp:World->Sp} {x:Str}
  (hn:l.most=some n) (hn2:n<=sizeLine) (hdf:d.params.defaults=[]) (hr:Room k callerA)
  (hY:∀(w:World) (h:Heap),YP w h->(K w.params).In h)
  (F:∀(w:World) (mg:Str->Option Value) (fa:Addr) (h:Heap),(K w.params).In h->h.Ns mainGlobals mg->mg d.name=some (.ref fa) ->
   ∃fd:FuncData,(∀(s:Shared) (u:Value),BindsTo s fd ⟨[u], []⟩ [(x,u)]) /\
    ∀base:Heap,(K w.params).In base->base.Ns mainGlobals mg->FnOk l.prog w (K w.params) mg base (CX w) k fa fd [x] (sp w))
  (hsp:∀(w:World) (H:Hp) (a:Addr) (ns:List Int),ns.length<=n->Only H->SqL (K w.params) H a (ns.map V.int)->sp w [.ref a] H (fun v _=>v=.bl true) fun _ _ _=>False)
  (hCX:∀(w:World) (H:Hp) (s:Shared) (e:Value) (s':Shared),CX w [] H s (fun _ _ _=>False) e s'->False) :
  PySem.W.WalkO q loose XP YP l.row.toRowW d [] (fun f vs=>PySem.call f vs):=by
 refine Att.attach_call hn hdf fun w s₀ s₁ mg mb fa o pm cd doc a vs ns G Y ho hd hcd hmg hobj hints hlen hg=>?_
 have KX:=hY w _ Y
 obtain⟨fd,hb,hF⟩:=F w mg fa _ KX G.T.g hmg
 exact law_call KX G.T.g G.T.b G.T.builtins G.T.nolimit hg hobj hints (Nat.le_trans hlen hn2) hr hF hb (fun H hO hS=>hsp w H a ns hlen hO hS) fun H e s'=>hCX w H s₁ e s'
def jx (s:Stmt) (j:Nat):Stmt:=match s with
 |.ClassDef _ _ _ body _ _ _ _ _ _ _=>body.getD j (.Pass ⟨0,0,0,0⟩)
 |_=>.Pass ⟨0,0,0,0⟩
def qm (s:Stmt):Arguments:=match s with
 |.FunctionDef _ a _ _ _ _ _ _ _ _=>a
 |_=>{ posonlyargs:=[],args:=[],vararg:=none,kwonlyargs:=[],kw_defaults:=[],kwarg:=none,defaults:=[] }
def qi (s:Stmt):List Stmt:=match s with
 |.FunctionDef _ _ b _ _ _ _ _ _ _=>b
 |_=>[]
def qc (s:Stmt):Scope:=match s with
 |.FunctionDef _ _ _ _ _ _ sc _ _ _=>sc
 |_=>{ kind:=.function,names:=[],isGenerator:=false,isCoroutine:=false }
abbrev CX0:CXT:=fun _ _ _ _ _ _=>False
abbrev E0:XK:=fun _ _ _=>False
theorem pass0 {X:Cx}:K0 CX0 X E0:=fun _ _ _ _ _ _ _ h=>h.elim
structure Fun (K:PySem.W.Frag) (x qual:Str) (st:Stmt) (f:Addr) (fd:FuncData):Prop where
 ex:∃(oc:Value) (od:Option Addr) (kV doc pm:Value) (an:Option Addr) (cdv ct:Value) (osl:Array (Option Value)),
  fd=PySem.W.fnOf x qual (qm st) (qi st) (qc st) .none kV doc pm an cdv ct/\K.lookup f=some ⟨oc,od, .func fd,osl⟩/\PySem.W.codeIn K cdv qual=true
 kp:PySem.W.keepIn K (.ref f)=true
section
variable {P:Program} {w:World} {K:PySem.W.Frag} {mg:Str->Option Value} {base:Heap}
theorem Fun.ok {x qual:Str} {st:Stmt} {f:Addr} {fd:FuncData} {N ps:List Str} {k:Nat} {sp:Sp} (F:Fun K x qual st f fd) (S:FnScope N ps (qc st)) (len:∀vs H Q E,sp vs H Q E->vs.length=ps.length)
  (hbody:∀(cdv:Value) (A:Around) (outer:List Env) (s:Shared) (H:Hp) (vs:List V) (Q:VK) (E:XK),Room k (A.deeper (envOfC qual (qc st) s.heap.objs.size f cdv))->sp vs H Q E ->
   ∃t,PSs (cxOf CX0 P w K mg base N qual (qc st) f cdv A outer s H E).nox (qi st) t/\t { nx:=fun _ H'=>Q .non H',rt:=Q } (start N vs) H):FnOk P w K mg base CX0 (k+1) f fd ps sp:=by
 obtain⟨oc,od,kV,doc,pm,an,cdv,ct,osl,rfl,lk,hcd⟩:=F.ex
 refine fn_of lk hcd S len fun A outer s H vs Q E hr hsp=>?_
 obtain⟨t,h,q⟩:=hbody cdv A outer s H vs Q E hr hsp
 exact⟨t,h.nox,q⟩
theorem Fun.binds {x qual:Str} {st:Stmt} {f:Addr} {fd:FuncData} {ps:List Str} (F:Fun K x qual st f fd)
  (h:∀(kV doc pm:Value) (an:Option Addr) (cdv ct:Value) (us:List Value),us.length=ps.length->bindArgs (PySem.W.fnOf x qual (qm st) (qi st) (qc st) .none kV doc pm an cdv ct) ⟨us, []⟩=pure (ps.zip us)):Binds K fd ps []:=by
 obtain⟨oc,od,kV,doc,pm,an,cdv,ct,osl,rfl,lk,hcd⟩:=F.ex
 exact .all (h kV doc pm an cdv ct)
theorem vf {x qual:Str} {st:Stmt} {f:Addr} {oc:Value} {od an:Option Addr} {osl:Array (Option Value)} {kV doc pm cdv ct:Value} (l:K.lookup f=some ⟨oc,od, .func (PySem.W.fnOf x qual (qm st) (qi st) (qc st) .none kV doc pm an cdv ct),osl⟩)
  (c:PySem.W.codeIn K cdv qual=true) (k:PySem.W.keepIn K (.ref f)=true):Fun K x qual st f (PySem.W.fnOf x qual (qm st) (qi st) (qc st) .none kV doc pm an cdv ct):=⟨⟨oc,od,kV,doc,pm,an,cdv,ct,osl,rfl,l,c⟩,k⟩
end
theorem hu_of {A:Around} {k:Nat} (hr:Room k A):A.units+1<cLine:=Nat.lt_of_le_of_lt (Nat.add_le_add_left (by decide:1<=64) _) hr.units
theorem qL {n:Nat} (h:n<=1000):n<sizeLine:=Nat.lt_of_le_of_lt h (by decide)
section
variable {X:Cx}
theorem pv (i:Nat) {x:Str} {pos:Pos} (hN:X.N[i]?=some x:=by rfl) (hv:Vis X.env.scope x:=by first|exact Or.inl rfl|exact Or.inr (Or.inl rfl)|exact Or.inr (Or.inr rfl)) (hd:(x==("__debug__" : Str))=false:=by decide)
  (hcd:(x==("__classdict__" : Str))=false:=by decide):PE X (.Name x pos) (tVar i):=pe_var hN hv hd hcd
end
theorem ite2 {c A B:Prop} [Decidable c] (h1:c->A) (h2:¬c->B):if c then A else B:=by
 by_cases h:c
 ·rw[if_pos h]
  exact h1 h
 ·rw[if_neg h]
  exact h2 h
def Same (H H':Hp):Prop:=∀b o,H b=some o->H' b=some o
theorem Same.refl (H:Hp):Same H H:=fun _ _ h=>h
theorem Same.trans {H H1 H2:Hp} (a:Same H H1) (b:Same H1 H2):Same H H2:=fun c o h=>b c o (a c o h)
theorem Same.free {H H':Hp} (e:Same H H') {l:Addr} (h:H' l=Option.none):H l=Option.none:=by
 cases q:H l with
 |none=>rfl
 |some o =>
  rw[e l o q] at h
  cases h
theorem Same.seq {K:PySem.W.Frag} {H H':Hp} {a:Addr} {xs:List V} (e:Same H H') (h:SqL K H a xs):SqL K H' a xs:=by
 rcases h with(h|⟨o,h⟩)|h
 ·exact .inl (.inl (e _ _ h))
 ·exact .inl (.inr ⟨o,e _ _ h⟩)
 ·exact .inr h
section
variable {κ:Type} [DecidableEq κ]
def valV (kvs:List (κ×V)) (k:κ):Option V:=(kvs.find? fun kv=>decide (kv.1=k)).map (·.2)
def putK (kvs:List (κ×V)) (k:κ) (v:V):List (κ×V) :=
 if(kvs.any fun kv=>decide (kv.1=k))=true then kvs.map (fun kv=>if kv.1=k then(kv.1,v) else kv) else kvs++[(k,v)]
def dropK (kvs:List (κ×V)) (k:κ):List (κ×V):=kvs.filter fun kv=>decide (kv.1≠k)
theorem KV.any {kvs:List (κ×V)} {vs:List (κ×Value)} (r:KV kvs vs) (k:κ):(kvs.any fun kv=>decide (kv.1=k))=vs.any fun kv=>decide (kv.1=k):=by
 unfold KV at r
 induction r with
 |nil=>rfl
 |cons h t ih=>rw[List.any_cons,List.any_cons,ih,h.1]
theorem KV.drop {kvs:List (κ×V)} {vs:List (κ×Value)} (r:KV kvs vs) (k:κ):KV (dropK kvs k) (without vs k):=by
 unfold KV at r ⊢
 unfold dropK without
 induction r with
 |nil=>exact .nil
 | @cons p q ps qs h t ih =>
  obtain⟨h1,h2⟩:=h
  rw[List.filter_cons,List.filter_cons]
  by_cases e:p.1=k
  ·have a:¬decide (p.1≠k)=true:=by simp[e]
   have b:¬decide (q.1≠k)=true:=by simp[h1.symm.trans e]
   rw[if_neg a,if_neg b]; exact ih
  ·have e':¬q.1=k:=fun z=>e (h1.trans z)
   have a:decide (p.1≠k)=true:=by simp[e]
   have b:decide (q.1≠k)=true:=by simp[e']
   rw[if_pos a,if_pos b]; exact .cons ⟨h1,h2⟩ ih
theorem KV.length {kvs:List (κ×V)} {vs:List (κ×Value)} (r:KV kvs vs):kvs.length=vs.length:=Paired.length r
end
def DGet (H:Hp) (a:Addr) (y:V) (r:Option V):Prop :=
 (∃kvs k,Rd H a (.dK kvs)/\y=kV k/\r=valV kvs k)\/∃kvs k b,Rd H a (.dT kvs)/\y=.ref b/\H b=some (.tup (k.map kV))/\r=valV kvs k
def DPut (H:Hp) (a:Addr) (y v:V) (H':Hp):Prop :=
 (∃kvs k,H a=some (.dK kvs)/\y=kV k/\kvs.length<sizeLine/\H'=upd H a (.dK (putK kvs k v))) \/
 ∃kvs k b,H a=some (.dT kvs)/\y=.ref b/\H b=some (.tup (k.map kV))/\kvs.length<sizeLine/\H'=upd H a (.dT (putK kvs k v))
theorem DGet.k {H:Hp} {a:Addr} {kvs:List (Key×V)} {k:Key} (e:H a=some (.dK kvs)):DGet H a (kV k) (valV kvs k):=.inl ⟨kvs,k, .inl e,rfl,rfl⟩
theorem DGet.t {H:Hp} {a b:Addr} {kvs:List (List Key×V)} {k:List Key} (e:H a=some (.dT kvs)) (eb:H b=some (.tup (k.map kV))):DGet H a (.ref b) (valV kvs k):=.inr ⟨kvs,k,b, .inl e,rfl,eb,rfl⟩
theorem DPut.k {H:Hp} {a:Addr} {kvs:List (Key×V)} {k:Key} {v:V} (e:H a=some (.dK kvs)) (hl:kvs.length<sizeLine):DPut H a (kV k) v (upd H a (.dK (putK kvs k v))):=.inl ⟨kvs,k,e,rfl,hl,rfl⟩
theorem DPut.t {H:Hp} {a b:Addr} {kvs:List (List Key×V)} {k:List Key} {v:V} (e:H a=some (.dT kvs)) (eb:H b=some (.tup (k.map kV))) (hl:kvs.length<sizeLine) :
  DPut H a (.ref b) v (upd H a (.dT (putK kvs k v))):=.inr ⟨kvs,k,b,e,rfl,eb,hl,rfl⟩
structure M2 (X:Cx) (o:Expr) (m:Str) (apos:Pos) (e f:Expr) (cpos:Pos):Prop where
 base:attributeBase o m X.env (eval o X.env)=eval o X.env
 few:((backTo cpos (starEach [e,f] X.env)).all (fun x => !x.1)&&(backToKw cpos (keywordEach [] X.env)).all (fun x=>x.1.isSome)
  && decide (([e,f]:List Expr).length+([]:List Keyword).length+(if([]:List Keyword).isEmpty then 0 else 1)<30))=true
 line:(apos.endLine==cpos.line)=true
 trees:backTo cpos (starEach [e,f] X.env)=[(false,eval e X.env),(false,eval f X.env)]
def cxC (X:Cx) (scope:Scope) (cl:List (Str×Addr)) (M:List Str) (fp:List Addr) (s:Shared) (H:Hp):Cx :=
 { X with N:=M,s₀:=s,H₀:=H,env:=compEnvC scope cl s.heap.objs.size X.env,outer:=X.stack,stack:=X.stack,ex:=fp,fn:=fun _=>false,pn:=[],xe:=fun _ _=>False }
def v3 (bs:List Bool) (n:Nat) (σ:St):St:=(bs.zip σ).map (fun p=>if p.1 then p.2 else none)++List.replicate n none
def ExtS (σ τ:St):Prop:=∀(i:Nat) v,σ[i]?=some (some v)->τ[i]?=some (some v)
theorem ExtS.refl (σ:St):ExtS σ σ:=fun _ _ h=>h
theorem ExtS.trans {a b c:St} (h:ExtS a b) (k:ExtS b c):ExtS a c:=fun i v e=>k i v (h i v e)
theorem ExtS.put {σ τ:St} {i:Nat} {v:V} (h:ExtS σ τ) (e:σ[i]?=some none):ExtS σ (τ.set i (some v)):=fun j w q=>by
 by_cases hj:i=j
 ·subst hj; rw[e] at q; cases q
 ·rw[List.getElem?_set_ne hj]; exact h j w q
def XU (J:It) (acc:Addr) (g:TG) (tt:TT) (te:TE) (σ0:St) (H1:Hp) (Q:VK):Prop:=∃W:Nat->Nat->Hp->Prop,(∃m,W 0 m (upd H1 acc (.lst []))) /\
 ∀i m H2,W i m H2->(J.stop i H2/\Q (.ref acc) H2)\/(J.go i H2/\∃N:Hp->Prop,(∀H',N H'->∃m',m'<m/\W (i+1) m' H')/\∀x H3,J.yld i H2 x H3->g x σ0 H3 fun σ4 H4=>(ExtS σ0 σ4/\σ4.length=σ0.length)/\tt σ4 H4 fun b H5 =>
  if b=true then te σ4 H5 fun v H6=>∃ys,H6 acc=some (.lst ys)/\ys.length<sizeLine/\N (upd H6 acc (.lst (ys++[v]))) else N H5)
def ja (wi:TI) (bs:List Bool) (n:Nat) (g:TG) (tt:TT) (te:TE):TE:=fun σ H Q=>wi σ H fun J H1=>∀acc,H1 acc=none->XU J acc g tt te (v3 bs n σ) H1 Q
def PTs (X:Cx) (ifs:List Expr) (t:TT):Prop :=
 ∀(pins:List (Addr×Obj)) (s:Shared) (σ:St) (H:Hp) (Q:Bool->Hp->Prop),Inv X pins σ H s->t σ H Q ->
  wpAny (model X.prog X.w) X.A (forIn ifs true fun c r=>if r=true then do let ok <-isTrue c X.env (eval c X.env); pure (ForInStep.yield ok) else pure (ForInStep.yield r)) (TP X pins σ Q) X.xe s
def tYes:TT:=fun _ H Q=>Q true H
theorem pts_nil {X:Cx}:PTs X [] tYes:=fun _ _ _ H _ I h=>wpAny_tests_nil ⟨H,I,h⟩
theorem pts_one {X:Cx} {c:Expr} {t:TT} (h:PT X c t):PTs X [c] t:=fun pins s σ H Q I q=>wpAny_tests_one (h pins s σ H Q I q)
structure CompS (X:Cx) (scope:Scope) (cl:List (Str×Addr)) (bs:List Bool) (ext:List Str):Prop where
 clos:closureFor scope X.env=pure cl
 cell:∀y∈scope.names,y.2 ≠ .cell
 kind:scope.kind=.function
 names:∀y∈scope.names,y.2=.local->scope.names.lookup y.1=some .local
 sub:∀x c,cl.lookup x=some c->X.env.cells.lookup x=some c
 has:∀x,((relabel scope X.env).names.lookup x=some .cell\/(relabel scope X.env).names.lookup x=some .free)->∃c,cl.lookup x=some c
 len:bs.length=X.N.length
 vis:∀(i:Nat) x,X.N[i]?=some x->bs[i]?=some true->Vis (relabel scope X.env) x->(relabel scope X.env).names.lookup x≠some .local/\(X.env.kindOf x=some .cell\/X.env.kindOf x=some .free)/\Vis X.env.scope x
theorem J6 {bs:List Bool} {n:Nat} {σ:St} (h:bs.length=σ.length):(v3 bs n σ).length=σ.length+n:=by
 unfold v3; simp[h]
theorem J7 {bs:List Bool} {n:Nat} {σ:St} (h:bs.length=σ.length) {i:Nat} {v:V} (e:(v3 bs n σ)[i]?=some (some v)):i<σ.length/\bs[i]?=some true/\σ[i]?=some (some v):=by
 unfold v3 at e
 by_cases hi:i<σ.length
 ·rw[List.getElem?_append_left (by simp[h]; exact hi),List.getElem?_map] at e
  have hb:i<bs.length:=by omega
  rw[List.getElem?_eq_getElem (by simp[h]; exact hi)] at e
  simp only[List.getElem_zip,Option.map_some] at e
  split at e
  ·rename_i hb2
   refine⟨hi, ?_, ?_⟩
   ·rw[List.getElem?_eq_getElem hb]; rw[hb2]
   ·rw[List.getElem?_eq_getElem hi]; exact e
  ·cases e
 ·rw[List.getElem?_append_right (by simp[h]; omega),List.getElem?_replicate] at e
  split at e<;>cases e
section
variable {X:Cx} {pins:List (Addr×Obj)} {σ:St} {H:Hp} {s:Shared}
theorem cxC_ok {scope:Scope} {cl:List (Str×Addr)} {bs:List Bool} {ext:List Str} {fp:List Addr} (S:CompS X scope cl bs ext) (I:Inv X pins σ H s) (hf:∀b∈fp,FpOk X pins H b) (hfs:∀b∈fp,b<s.heap.objs.size) :
  (cxC X scope cl (X.N++ext) fp s H).Ok where
 mod:=I.ok.mod
 kind:=S.kind
 glob:=I.ok.glob
 blt:=I.ok.blt
 above:=Nat.le_refl _
 inj:=fun x y c a b=>I.ok.inj x y c (S.sub x c a) (S.sub y c b)
 has:=S.has
 cab:=fun x c h=>nomatch h
 hd:=I.ok.hd
 frames:=I.ok.frames
 stk:=.inl rfl
 exf:=fun b hb=>⟨Nat.ne_of_lt (hfs b hb),fun x c e=>(hf b hb).2.2.2.2.1 x c (S.sub x c e)⟩
 bs:=I.bs
 bsz:=Nat.le_trans I.ok.bsz I.sz
 noex:=fun b o e hb=>by
  rcases(hf b hb).2.2.2.1 with z|z
  ·exact I.ok.noex b o e z
  ·exact absurd (Nat.lt_of_lt_of_le (Nat.lt_of_lt_of_le (Heap.lt_size e) I.ok.bsz) z) (Nat.lt_irrefl _)
 exfs:=fun b hb z=>by
  rcases List.mem_cons.mp (I.stkSub b z) with q|q
  ·exact(hf b hb).2.1 q
  ·exact(hf b hb).2.2.1 q
 funs:=I.stack
 frf:=I.stkFree
theorem VF {scope:Scope} {cl:List (Str×Addr)} {bs:List Bool} {ext:List Str} {fp:List Addr} {h1:Heap} {t':Nat} (S:CompS X scope cl bs ext) (I:Inv X pins σ H s) (hf:∀b∈fp,FpOk X pins H b) (hfs:∀b∈fp,b<s.heap.objs.size)
  (hn:h1.Ns s.heap.objs.size (fun _=>none)) (k:∀b o,s.heap.get? b=some o->h1.get? b=some o) :
  Inv (cxC X scope cl (X.N++ext) fp s H) [] (v3 bs ext.length σ) H { s with heap:=h1,toks:=t' }:=by
 have hl:bs.length=σ.length:=S.len.trans I.len.symm
 have cellk:∀c v,s.heap.IsCell c v->h1.IsCell c v:=fun c v ⟨o,ho,hd⟩=>⟨o,k c o ho,hd⟩
 refine⟨cxC_ok S I hf hfs,rfl,I.bare,Un.kept k,⟨_,hn,fun i x v e1 e2 e3=>?_⟩,fun x c e=>?_,I.hok.fresh (Nat.le_refl _),fun x c e=>I.freeC x c (S.sub x c e),fun p hp=>absurd hp (by simp[cxC]),I.hok.kept k, ?_⟩
 ·obtain⟨hi,hb,hs⟩:=J7 hl e2
  have e1':X.N[i]?=some x:=by
   have e1'':(X.N++ext)[i]?=some x:=e1
   rwa [List.getElem?_append_left (by have:=I.len; omega)] at e1''
  obtain⟨nl,kk,vv⟩:=S.vis i x e1' hb e3
  obtain⟨m,_,hloc⟩:=I.loc
  obtain⟨u,r,l⟩:=hloc i x v e1' hs vv
  refine⟨u,r, .inr ⟨?_, ?_⟩⟩
  ·rcases e3 with z|z|z
   ·exact absurd z nl
   ·exact .inl z
   ·exact .inr z
  ·have hc:=S.has x (by
    rcases e3 with z|z|z
    ·exact absurd z nl
    ·exact .inl z
    ·exact .inr z)
   obtain⟨c,hc⟩:=hc
   rcases l with⟨kl,_⟩|⟨_,c',hc',hcell⟩
   ·rcases kk with z|z<;>(rw[kl] at z; cases z)
   ·rw[S.sub x c hc] at hc'
    cases hc'
    exact⟨c,hc,cellk c _ hcell⟩
 ·obtain⟨v,z⟩:=I.cell x c (S.sub x c e)
  exact⟨v,cellk c v z⟩
 ·rw[J6 hl,I.len]; show _=(X.N++ext).length; simp
theorem Q1 {scope:Scope} {cl:List (Str×Addr)} {ext:List Str} {fp:List Addr} {σ':St} {H':Hp} {s':Shared} {h':Heap} {pins':List (Addr×Obj)} (I:Inv X pins σ H s) (hf:∀b∈fp,FpOk X pins H b)
  (J:Inv (cxC X scope cl (X.N++ext) fp s H) pins' σ' H' s') (sb:Heap.SameBut s.heap.objs.size s'.heap h'):Inv X pins σ H' { s' with heap:=h' }:=by
 have B:Un (frs X.stack) fp H H' s.heap s'.heap:=J.base
 have nC:∀b o,s.heap.get? b=some o->b≠s.heap.objs.size:=fun b o e=>Nat.ne_of_lt (Heap.lt_size e)
 refine I.call' (ch:=fp) (s':={ s' with heap:=h' }) J.os ⟨fun b o e n hb hx=>?_,fun b o e n hb hx=>?_,fun b o e n hx=>B.free b o e n hx,fun b o e hx=>?_,B.tups,B.frzs,B.tbls⟩ ?_ J.bare fun b hb=>⟨(hf b hb).2.2.2.1,(hf b hb).2.1,(hf b hb).2.2.2.2.1,(hf b hb).2.2.2.2.2⟩
 ·exact sb.extBut b o (nC b o e) (B.keep b o e n hb hx)
 ·obtain⟨sl,q⟩:=B.slot b o e n hb hx
  exact⟨sl,sb.extBut b _ (nC b o e) q⟩
 ·obtain⟨o',q⟩:=B.there b o e hx
  exact⟨o',sb.extBut b o' (nC b o e) q⟩
 ·intro a o e
  have fr:H' s.heap.objs.size=none:=J.free
  refine(J.hok a o e).stay (fun b u hb q=>sb.extBut b u ?_ q) (fun _ q=>q) fun _ _ q=>q
  rcases hb with z|z
  ·subst z; intro z; rw[z,fr] at e; cases e
  ·intro z2; rw[z2,fr] at z; cases z
end
section
variable {X:Cx} {elt tg iter:Expr} {ifs:List Expr} {scope:Scope} {cl:List (Str×Addr)} {bs:List Bool} {ext:List Str} {pos:Pos} {wi:TI} {g:TG} {tt:TT} {te:TE}
theorem Xg {use:Option (Value->Sem Unit)} {pins:List (Addr×Obj)} {s:Shared} {σ:St} {H:Hp} {Q:VK} {RR:Value->Shared->Prop} (S:CompS X scope cl bs ext) (hc:X.calm=true) (hi:PI X tg iter wi)
  (hg:∀fp s H,PG (cxC X scope cl (X.N++ext) fp s H) tg g) (ht:∀fp s H,PTs (cxC X scope cl (X.N++ext) fp s H) ifs tt) (he:∀fp s H,PE (cxC X scope cl (X.N++ext) fp s H) elt te)
  (hs:∀x,foldedSetIterable iter X.env x=pure x) (I:Inv X pins σ H s) (h:ja wi bs ext.length g tt te σ H Q) (ep:Pos)
  (hend:∀(acc:Addr) (s2:Shared) (H2:Hp) (fp:List Addr) (σ':St) (H':Hp) (s':Shared),Inv X pins σ H2 s2->(∀b∈fp,FpOk X pins H2 b)->Inv (cxC X scope cl (X.N++ext) fp s2 H2) [] σ' H' s'->Q (.ref acc) H' ->
   compPost (model X.prog X.w) X.A X.xe use RR (.ref acc) s2.heap.objs.size (.ok .next) s') :
  wpAny (model X.prog X.w) X.A (comprehension (.ListComp elt [⟨tg,iter,ifs,0⟩] scope pos) scope X.env ep (newList []) false (eval iter X.env) use) RR X.xe s:=by
 refine wpAny_comprehension_free (use:=use) rfl hs S.clos S.kind S.names (thn (hi pins s σ H _ I h) fun v s1 h1=>thn h1 fun itv s2 h2=>?_)
 obtain⟨it,fp,tn,J,H2,e,I2,T,st2,f2,hW⟩:=h2
 subst e
 refine wpAny_newList ?_ (by decide)
 have hn2:H2 s2.heap.objs.size=none:=I2.hok.fresh (Nat.le_refl _)
 obtain⟨W,⟨m0,w0⟩,turn⟩:=hW s2.heap.objs.size hn2
 have I3:=I2.lnew (its:=[]) (ys:=[]) (t':=s2.toks) .nil (Nat.zero_le _)
 generalize hs3:({ s2 with heap:=s2.heap.push { cls:=.type "list", data:=.seq ([]:List Value).toArray },toks:=s2.toks }:Shared)=s3 at I3
 have hsz3:s3.heap.objs.size=s2.heap.objs.size+1:=by rw[<-hs3]; exact Heap.size_push ..
 have k3:∀b o,s2.heap.get? b=some o->s3.heap.get? b=some o:=fun b o e=>by rw[<-hs3]; exact Heap.get?_push_of_some _ e
 have fpo:∀b∈fp,b<s2.heap.objs.size:=fun b hb=>by obtain⟨o,e,_⟩:=T.obj _ _ st2 b hb; exact Heap.lt_size e
 have f3:∀b∈fp,FpOk X pins (upd H2 s2.heap.objs.size (.lst [])) b:=fun b hb=>⟨by rw[upd_ne (Nat.ne_of_lt (fpo b hb))]; exact(f2 b hb).1,(f2 b hb).2⟩
 have fps:∀b∈fp,b<s3.heap.objs.size:=fun b hb=>by rw[hsz3]; exact Nat.lt_succ_of_lt (fpo b hb)
 have st3:tn 0 s3.heap:=T.keep _ _ _ st2 fun b hb o e=>k3 b o e
 refine wpAny_newFunctionEnv S.cell (by intro y hy; simp at hy) (fun h4 hns4 hsb4=>?_) S.kind
 have k4:∀b o,s3.heap.get? b=some o->h4.get? b=some o:=fun b o e=>hsb4.extBut b o (Nat.ne_of_lt (Heap.lt_size e)) (Heap.get?_push_of_some _ e)
 have I4:=VF (ext:=ext) (t':=s3.toks+([]:List (Str×Value)).length) S I3 f3 fps (h1:=h4) hns4 k4
 have st4:tn 0 h4:=T.keep _ _ _ st3 fun b hb o e=>k4 b o e
 generalize hs4:({ s3 with heap:=h4,toks:=s3.toks+([]:List (Str×Value)).length }:Shared)=s4 at I4 ⊢
 have st4':tn 0 s4.heap:=by rw[<-hs4]; exact st4
 -- the block
 generalize hY:cxC X scope cl (X.N++ext) fp s3 (upd H2 s2.heap.objs.size (.lst []))=Y at I4
 have hYs:∀{H':Hp},(∀b∈fp,H' b=none)->∀b∈fp,FpOk Y [] H' b:=fun hn b hb=>by
  subst hY
  refine⟨hn b hb,Nat.ne_of_lt (fps b hb),fun z=>?_, .inl hb,fun x c e=>(f3 b hb).2.2.2.2.1 x c (S.sub x c e),fun p hp=>absurd hp (by simp[cxC])⟩
  rcases List.mem_cons.mp (I3.stkSub b z) with q|q
  ·exact(f3 b hb).2.1 q
  ·exact(f3 b hb).2.2.1 q
 have hgY:PG Y tg g:=by subst hY; exact hg _ _ _
 have htY:PTs Y ifs tt:=by subst hY; exact ht _ _ _
 have heY:PE Y elt te:=by subst hY; exact he _ _ _
 have hYc:Y.calm=true:=by subst hY; exact hc
 have hYm:Y.prog=X.prog/\Y.w=X.w/\Y.K=X.K/\Y.A=X.A/\Y.env=compEnvC scope cl s3.heap.objs.size X.env/\Y.xe=fun _ _=>False:=by subst hY; exact⟨rfl,rfl,rfl,rfl,rfl,rfl⟩
 obtain⟨e1,e2,e3,e4,e5,e6⟩:=hYm
 have never:∀{α:Type} {t:Sem α} {Q:α->Shared->Prop} {s:Shared} {E:Value->Shared->Prop},wpAny (model Y.prog Y.w) Y.A t Q Y.xe s->wpAny (model X.prog X.w) X.A t Q E s:=fun {α t Q s E} q=>by
  rw[e1,e2,e4,e6] at q
  exact wpAny_mono q (fun _ _ z=>z) fun _ _ z=>z.elim
 have loop:codeAny (model X.prog X.w) X.A (.compLoop (.ListComp elt [⟨tg,iter,ifs,0⟩] scope pos) 0 (.ref it) (.ref s2.heap.objs.size) (compEnvC scope cl s3.heap.objs.size X.env))
   (compPost (model X.prog X.w) X.A X.xe use RR (.ref s2.heap.objs.size) s3.heap.objs.size) s4:=by
  refine codeAny_loop rfl (fun n s'=>∃i H',Inv Y [] (v3 bs ext.length σ) H' s'/\tn i s'.heap/\(∀b∈fp,H' b=none)/\W i n H') (fun n s5 hI=>?_) m0 ⟨0,_,I4,st4',fun b hb=>(f3 b hb).1,w0⟩
  obtain⟨i,H5,I5,st5,fr5,w5⟩:=hI
  show wpAny _ X.A ((compTurn (.ListComp elt [⟨tg,iter,ifs,0⟩] scope pos) 0 (.ref it) (.ref s2.heap.objs.size) (compEnvC scope cl s3.heap.objs.size X.env)).onRaise (fun x=>do noteFrame x (compEnvC scope cl s3.heap.objs.size X.env); theTreesLotGoes x)) _ _ s5
  refine wpAny_noted ?_
  rw[compTurn_list]
  rcases turn i n H5 w5 with⟨stop,qn⟩|⟨go,N,hN,step⟩
  ·refine wpAny_bind (wpAny_standAt (wpAny_bind ?_))
   have hd:=T.done Y e1 e2 e3 hYc i [] s5 _ H5 (fun _ _=>False) I5 (hYs fr5) st5 stop
   rw[e4] at hd
   refine wpAny_mono hd (fun r s6 ⟨hr,I6⟩=>?_) fun _ _ z=>z.elim
   subst hr
   subst hY
   exact wpAny_pure (hend s2.heap.objs.size s3 _ fp _ H5 s6 I3 f3 I6 qn)
  ·refine wpAny_bind (wpAny_standAt (wpAny_bind ?_))
   have hd:=T.item Y e1 e2 e3 hYc i [] s5 _ H5 (fun _ _=>False) I5 (hYs fr5) st5 go
   rw[e4] at hd
   refine wpAny_mono hd (fun r s6 ⟨u,hr,h6⟩=>?_) fun _ _ z=>z.elim
   subst hr
   refine wpAny_bind (wpAny_mono h6 (fun _ s7 ⟨x,H7,I7,r7,y7,st7,fr7⟩=>?_) fun _ _ z=>z.elim)
   have I7':=I7.pinned (hYs fr7) (T.obj _ _ st7)
   rw[<-e5]
   refine wpAny_bind (never (thn (hgY _ s7 _ H7 x u _ I7' r7 (step x H7 y7)) fun _ s8 ⟨σ8,H8,I8,⟨hx8,hl8⟩,q8⟩=>?_))
   refine wpAny_bind (never (thn (htY _ s8 σ8 H8 _ I8 q8) fun b s9 ⟨H9,I9,q9⟩=>?_))
   have again:∀{H10:Hp} {s10:Shared} {m':Nat},Inv Y ([]++kU fp s7.heap) σ8 H10 s10->m'<n->W (i+1) m' H10->∃m,m<n/\∃i H',Inv Y [] (v3 bs ext.length σ) H' s10/\tn i s10.heap/\(∀b∈fp,H' b=none)/\W i m H':=fun {H10 s10 m'} I10 hm w10=>by
    refine⟨m',hm,i+1,H10,(I10.unpinned).weak hl8.symm hx8,T.keep _ _ _ st7 fun b hb o e=>(I10.pin (b,o) (List.mem_append_right _ (List.mem_append_right _ (zh hb e)))).1,fun b hb=>?_,w10⟩
    obtain⟨o,e,d⟩:=T.obj _ _ st7 b hb
    exact(I10.pin (b,o) (List.mem_append_right _ (List.mem_append_right _ (zh hb e)))).2.1
   cases b with
   |false =>
    rw[if_neg Bool.false_ne_true] at q9
    obtain⟨m',hm,w9⟩:=hN _ q9
    exact wpAny_pure ⟨by rw[e5],again I9 hm w9⟩
   |true =>
    rw[if_pos rfl] at q9
    refine wpAny_bind (wpAny_bind (never (thn (heY _ s9 σ8 H9 _ I9 q9) fun xv s10 ⟨y,H10,I10,r10,ys,hys,hz,n10⟩=>?_)))
    obtain⟨m',hm,w10⟩:=hN _ n10
    refine wpAny_bind (never (thn (vK (X:=Y) _ s10 σ8 H10 (.ref s2.heap.objs.size) [y] (.ref s2.heap.objs.size) [xv] (fun _ H=>∃m',m'<n/\W (i+1) m' H) I10 rfl (.cons r10 .nil) ⟨_,ys,y,rfl,rfl,hys,hz,m',hm,w10⟩) fun _ s11 ⟨_,H11,I11,_,m2,hm2,w11⟩=>?_))
    exact wpAny_pure (wpAny_pure ⟨by rw[e5],again I11 hm2 w11⟩)
 exact codeAny_compStart_list loop (T.self X.A 0 s4 _ _ st4' loop)
theorem pe_comp (S:CompS X scope cl bs ext) (hc:X.calm=true) (hi:PI X tg iter wi)
  (hg:∀fp s H,PG (cxC X scope cl (X.N++ext) fp s H) tg g) (ht:∀fp s H,PTs (cxC X scope cl (X.N++ext) fp s H) ifs tt) (he:∀fp s H,PE (cxC X scope cl (X.N++ext) fp s H) elt te)
  (hs:∀x,foldedSetIterable iter X.env x=pure x:=by intro _; rfl):PE X (.ListComp elt [⟨tg,iter,ifs,0⟩] scope pos) (ja wi bs ext.length g tt te):=by
 intro pins s σ H Q I h
 rw[eval_ListComp]
 refine Xg (use:=none) S hc hi hg ht he hs I h _ fun acc s2 H2 fp σ' H' s' I2 f2 J q=>?_
 obtain⟨m,hn,_⟩:=J.loc
 exact⟨m,hn,fun h' sb=>⟨.ref acc,H',Q1 I2 f2 J sb,rfl,q⟩⟩
theorem ps_comp {i:Nat} {x:Str} {pos' spos:Pos} (S:CompS X scope cl bs ext) (hc:X.calm=true) (hN:X.N.Nodup) (hix:X.N[i]?=some x) (hx:X.env.scope.names.lookup x=some .local) (hi:PI X tg iter wi)
  (hg:∀fp s H,PG (cxC X scope cl (X.N++ext) fp s H) tg g) (ht:∀fp s H,PTs (cxC X scope cl (X.N++ext) fp s H) ifs tt) (he:∀fp s H,PE (cxC X scope cl (X.N++ext) fp s H) elt te)
  (hsw:swapsWith (.ListComp elt [⟨tg,iter,ifs,0⟩] scope pos) (some (.Name x pos')) spos.line X.env=pure true)
  (hs:∀x,foldedSetIterable iter X.env x=pure x:=by intro _; rfl):PS X (.Assign [.Name x pos'] (.ListComp elt [⟨tg,iter,ifs,0⟩] scope pos) spos) (tAsg (ja wi bs ext.length g tt te) (qS i)):=by
 intro pins s σ H D I h
 rw[exec_Assign_Name_used _ _ _ _ hsw]
 refine wpAny_bind (wpAny_standAt (wpAny_bind ?_))
 show wpAny _ X.A (do let _ <-comprehension (.ListComp elt [⟨tg,iter,ifs,0⟩] scope pos) scope X.env _ (newList []) false (eval iter X.env) (some (assign (.Name x pos') X.env))) _ _ s
 refine wpAny_bind (wpAny_mono (Xg (use:=some (assign (.Name x pos') X.env)) (RR:=fun _ s'=>SP X pins D .next s') S hc hi hg ht he hs I h _ fun acc s2 H2 fp σ' H' s' I2 f2 J q=>?_) (fun _ s' hq=>wpAny_pure (wpAny_pure hq)) fun _ _ e=>e)
 have I5:Inv X pins σ H' s':=by
  have:=Q1 (h':=s'.heap) I2 f2 J (.refl ..)
  exact this
 show wpAny _ X.A (assign (.Name x pos') X.env (.ref acc)) _ _ s'
 obtain⟨m,hn,_⟩:=J.loc
 have hCL:s2.heap.objs.size≠X.env.locals:=Nat.ne_of_gt I2.lt
 have nC:∀b o,s2.heap.get? b=some o->b≠s2.heap.objs.size:=fun b o e=>Nat.ne_of_lt (Heap.lt_size e)
 have cC:∀y c,X.env.cells.lookup y=some c->c≠s2.heap.objs.size:=fun y c e=>by
  obtain⟨v,o,ho,_⟩:=I2.cell y c e
  exact nC c o ho
 refine wpAny_assign_Name (Vf I5 hN hix (.inl hx) (v:=.ref acc) rfl (fun s6 I6 k6=>?_) (.inr hx))
 obtain⟨a,sb6,ha⟩:=k6
 have haC:a≠s2.heap.objs.size:=by
  rcases ha with z|z
  ·rw[z]; exact hCL.symm
  ·exact cC x a z
 refine⟨m,hn.sameBut sb6 haC.symm,fun h' sb=>?_⟩
 refine⟨_,H',I6.turned (t':=s6.toks) (it:=s2.heap.objs.size) (fun b o hb e=>sb.extBut b o hb e) ?_ hCL (.inr (Nat.le_trans I2.ok.above (Nat.le_of_lt I2.lt))) cC fun p hp=>?_,q⟩
 ·have fr:H' s2.heap.objs.size=none:=J.free
  exact fr
 ·exact nC p.1 p.2 (I2.pin p hp).1
end
theorem KF {K:PySem.W.Frag} {a acc:Addr} {xs:List V} {g:TG} {tt:TT} {te:TE} {σ0:St} {H1:Hp} {Q:VK} (Pv:Nat->Hp->Prop) (h0:Pv 0 (upd H1 acc (.lst []))) (hl:∀i H,i<=xs.length->Pv i H->SqL K H a xs)
  (hs:∀i x H,xs[i]?=some x->Pv i H->g x σ0 H fun σ4 H4=>(ExtS σ0 σ4/\σ4.length=σ0.length)/\tt σ4 H4 fun b H5 =>
   if b=true then te σ4 H5 fun v H6=>∃ys,H6 acc=some (.lst ys)/\ys.length<sizeLine/\Pv (i+1) (upd H6 acc (.lst (ys++[v]))) else Pv (i+1) H5)
  (hd:∀H,Pv xs.length H->Q (.ref acc) H):XU (Itl K a) acc g tt te σ0 H1 Q:=by
 refine⟨fun i m H=>m=xs.length-i/\i<=xs.length/\Pv i H,⟨xs.length,by simp,Nat.zero_le _,h0⟩, ?_⟩
 rintro i m H ⟨rfl,hi,p⟩
 have q:=hl i H hi p
 by_cases hlt:i<xs.length
 ·refine .inr ⟨⟨xs,xs[i],q,by simp[hlt]⟩,Pv (i+1),fun H' p'=>⟨xs.length-(i+1),by omega,rfl,hlt,p'⟩,fun x H' y=>?_⟩
  obtain⟨e,y⟩:=y
  subst e
  exact hs i x _ (y xs q) p
 ·have e:i=xs.length:=by omega
  subst e
  exact .inl ⟨⟨xs,q,Nat.le_refl _⟩,hd H p⟩
theorem XQ {acc:Addr} {lo:Int} {n:Nat} {g:TG} {tt:TT} {te:TE} {σ0:St} {H1:Hp} {Q:VK} (Pv:Nat->Hp->Prop) (h0:Pv 0 (upd H1 acc (.lst [])))
  (hs:∀(i:Nat) H,i<n->Pv i H->g (.int (lo+i)) σ0 H fun σ4 H4=>(ExtS σ0 σ4/\σ4.length=σ0.length)/\tt σ4 H4 fun b H5 =>
   if b=true then te σ4 H5 fun v H6=>∃ys,H6 acc=some (.lst ys)/\ys.length<sizeLine/\Pv (i+1) (upd H6 acc (.lst (ys++[v]))) else Pv (i+1) H5)
  (hd:∀H,Pv n H->Q (.ref acc) H):XU (Itr lo n) acc g tt te σ0 H1 Q:=by
 refine⟨fun i m H=>m=n-i/\i<=n/\Pv i H,⟨n,by simp,Nat.zero_le _,h0⟩, ?_⟩
 rintro i m H ⟨rfl,hi,p⟩
 by_cases hlt:i<n
 ·refine .inr ⟨hlt,Pv (i+1),fun H' p'=>⟨n-(i+1),by omega,rfl,hlt,p'⟩,fun x H' y=>?_⟩
  obtain⟨e,y⟩:=y
  subst e y
  exact hs i _ hlt p
 ·have e:i=n:=by omega
  subst e
  exact .inl ⟨Nat.le_refl _,hd H p⟩
def clOf (env:Env):List (Str×NameKind)->List (Str×Addr)->List (Str×Addr)
 | [],cs=>cs
 | (n,k)::r,cs=>clOf env r (if(k==NameKind.free)=true then(n,(env.cells.lookup n).getD 0)::cs else cs)
theorem clos_eq {env:Env} (scope:Scope) (h:∀p∈scope.names,p.2=.free->∃c,env.cells.lookup p.1=some c):closureFor scope env=pure (clOf env scope.names []):=by
 unfold closureFor
 generalize([]:List (Str×Addr))=cs0
 generalize scope.names=ns at h
 have key:∀(ns:List (Str×NameKind)) (cs:List (Str×Addr)),(∀p∈ns,p.2=.free->∃c,env.cells.lookup p.1=some c) ->
   (forIn ns cs fun(x:Str×NameKind) (r:List (Str×Addr))=>(match x with|(name,kind)=>if(kind==NameKind.free)=true then do let c <-cellOf env name; pure (ForInStep.yield ((name,c)::r)) else pure (ForInStep.yield r):Sem (ForInStep (List (Str×Addr)))))=pure (clOf env ns cs):=by
  intro ns
  induction ns with
  |nil=>intro cs _; rfl
  |cons p r ih =>
   intro cs hp
   obtain⟨n,k⟩:=p
   rw[List.forIn_cons]
   by_cases hk:(k==NameKind.free)=true
   ·obtain⟨c,hc⟩:=hp (n,k) List.mem_cons_self (by simpa using hk)
    have hcell:cellOf env n=pure c:=by unfold cellOf; rw[hc]
    simp only[hk,if_true,hcell,pure_bind]
    rw[ih _ fun q hq=>hp q (List.mem_cons_of_mem _ hq)]
    have hc':List.lookup n env.cells=some c:=hc
    simp[clOf,hk,hc']
   ·simp only[hk,Bool.false_eq_true,if_false,pure_bind]
    rw[ih _ fun q hq=>hp q (List.mem_cons_of_mem _ hq)]
    simp[clOf,hk]
 have:=key ns cs0 h
 rw[show(do
   let mut cs:=cs0
   for (name,kind) in ns do
    if kind == .free then cs:=(name, <-cellOf env name)::cs
   return cs:Sem (List (Str×Addr)))=(forIn ns cs0 fun(x:Str×NameKind) (r:List (Str×Addr))=>(match x with|(name,kind)=>if(kind==NameKind.free)=true then do let c <-cellOf env name; pure (ForInStep.yield ((name,c)::r)) else pure (ForInStep.yield r):Sem (ForInStep (List (Str×Addr))))) >>= pure from rfl]
 rw[this,pure_bind]
theorem Xi {env:Env}:∀(ns:List (Str×NameKind)) (cs:List (Str×Addr)),(∀p∈ns,p.2=.free->∃c,env.cells.lookup p.1=some c)->(∀x c,cs.lookup x=some c->env.cells.lookup x=some c)->∀x c,(clOf env ns cs).lookup x=some c->env.cells.lookup x=some c
 | [],cs,_,h,x,c,e=>h x c e
 | (n,k)::r,cs,hp,h,x,c,e=>by
  refine Xi r _ (fun q hq=>hp q (List.mem_cons_of_mem _ hq)) (fun y d e'=>?_) x c e
  split at e'
  ·rename_i hk
   obtain⟨c',hc⟩:=hp (n,k) List.mem_cons_self (by simpa using hk)
   rw[List.lookup_cons] at e'
   have hc':List.lookup n env.cells=some c':=hc
   rw[hc'] at e'
   split at e'
   ·rename_i hy
    have hy':y=n:=by simpa using hy
    subst hy'
    rw[<-e']; exact hc'
   ·exact h y d e'
  ·exact h y d e'
theorem Xj {env:Env}:∀(ns:List (Str×NameKind)) (cs:List (Str×Addr)) (x:Str),((x,NameKind.free)∈ns\/∃c,cs.lookup x=some c)->∃c,(clOf env ns cs).lookup x=some c
 | [],cs,x,h=>by
  rcases h with h|h
  ·cases h
  ·exact h
 | (n,k)::r,cs,x,h=>by
  refine Xj r _ x ?_
  rcases h with h|⟨c,h⟩
  ·rcases List.mem_cons.mp h with h|h
   ·injection h with h1 h2
    subst h1 h2
    right
    exact⟨_,by simp[List.lookup_cons]; rfl⟩
   ·exact .inl h
  ·right
   split
   ·rw[List.lookup_cons]
    split
    ·exact⟨_,rfl⟩
    ·exact⟨c,h⟩
   ·exact⟨c,h⟩
def xr (scope:Scope) (env:Env) (N:List Str) (bs:List Bool):Bool :=
 scope.names.all (fun p=>p.2 != .cell)&&(scope.kind == .function)&&scope.names.all (fun p=>p.2 != .local||scope.names.lookup p.1==some .local)&&(bs.length==N.length)
  && scope.names.all (fun p=>p.2 != .free||(env.kindOf p.1==some .cell||env.kindOf p.1==some .free))&&(N.zip bs).all (fun p => !p.2||scope.names.lookup p.1==some .free)
theorem mem_of_lookup {β:Type} {x:Str} {b:β}:∀{l:List (Str×β)},l.lookup x=some b->(x,b)∈l
 | [],h=>by simp at h
 | (y,c)::r,h=>by
  rw[List.lookup_cons] at h
  split at h
  ·rename_i hy
   have:x=y:=by simpa using hy
   subst this; cases h; exact List.mem_cons_self
  ·exact List.mem_cons_of_mem _ (mem_of_lookup h)
theorem vL {env:Env}:∀{names:List (Str×NameKind)} {x:Str} {k:NameKind},
  (names.map fun(n,k)=>if(k==NameKind.free&&env.scope.kind == .function&&env.kindOf n==some .cell) then(n,NameKind.cell) else(n,k)).lookup x=some k->names.lookup x=some k\/(k=.cell/\names.lookup x=some .free)
 | [],_,_,h=>by simp at h
 | (n,k')::r,x,k,h=>by
  have ih:=@vL env r x k
  have h':List.lookup x ((if(k'==NameKind.free&&env.scope.kind == .function&&env.kindOf n==some .cell)=true then(n,NameKind.cell) else(n,k'))::(r.map fun(n,k)=>if(k==NameKind.free&&env.scope.kind == .function&&env.kindOf n==some .cell) then(n,NameKind.cell) else(n,k)))=some k:=h
  by_cases hc:(k'==NameKind.free&&env.scope.kind == .function&&env.kindOf n==some .cell)=true
  ·rw[if_pos hc,List.lookup_cons] at h'
   rw[List.lookup_cons]
   have hf:k'=.free:=by
    cases k'<;>first|rfl|(exfalso; revert hc; simp)
   split at h'
   ·right
    injection h' with h'
    rw[hf]
    exact⟨h'.symm,rfl⟩
   ·exact ih h'
  ·rw[if_neg hc,List.lookup_cons] at h'
   rw[List.lookup_cons]
   split at h'
   ·exact .inl h'
   ·exact ih h'
theorem CompS.of {X:Cx} {scope:Scope} {bs:List Bool} {ext:List Str} {pins:List (Addr×Obj)} {σ:St} {H:Hp} {s:Shared} (I:Inv X pins σ H s) (h:xr scope X.env X.N bs=true):CompS X scope (clOf X.env scope.names []) bs ext:=by
 unfold xr at h
 simp only[Bool.and_eq_true,List.all_eq_true] at h
 obtain⟨⟨⟨⟨⟨h1,h2⟩,h3⟩,h4⟩,h5⟩,h6⟩:=h
 have hc:∀p∈scope.names,p.2=.free->∃c,X.env.cells.lookup p.1=some c:=fun p hp hf=>by
  have:=h5 p hp
  rw[hf] at this
  refine I.ok.has p.1 ?_
  simpa using this
 have nocell:∀{x:Str},scope.names.lookup x≠some .cell:=fun {x} e=>by
  have:=h1 _ (mem_of_lookup e)
  simp at this
 refine⟨clos_eq scope hc,fun y hy=>by simpa using h1 y hy,by simpa using h2,fun y hy hl=>?_,fun x c e=>Xi scope.names [] hc (fun _ _ z=>by simp at z) x c e,fun x hx=>?_,by simpa using h4,fun i x hN hb hv=>?_⟩
 ·have:=h3 y hy
  rw[hl] at this
  simpa using this
 ·refine Xj scope.names [] x (.inl ?_)
  rcases hx with hx|hx
  ·rcases vL hx with z|⟨_,z⟩
   ·exact absurd z nocell
   ·exact mem_of_lookup z
  ·rcases vL hx with z|⟨z,_⟩
   ·exact mem_of_lookup z
   ·cases z
 ·have hz:(x,true)∈X.N.zip bs:=by
   have:(X.N.zip bs)[i]?=some (x,true):=by
    rw[List.getElem?_zip_eq_some]; exact⟨hN,hb⟩
   exact List.mem_of_getElem? this
  have hf:=h6 _ hz
  have hf:scope.names.lookup x=some .free:=by simpa using hf
  have hk:=h5 _ (mem_of_lookup hf)
  have hk:X.env.kindOf x=some .cell\/X.env.kindOf x=some .free:=by simpa using hk
  refine⟨fun z=>?_,hk, ?_⟩
  ·rcases vL z with q|⟨q,_⟩
   ·rw[hf] at q; cases q
   ·cases q
  ·rcases hk with q|q
   ·exact .inr (.inl q)
   ·exact .inr (.inr q)
section
variable {X:Cx} {elt tg iter:Expr} {ifs:List Expr} {scope:Scope} {bs:List Bool} {ext:List Str} {pos:Pos} {wi:TI} {g:TG} {tt:TT} {te:TE}
abbrev cxB (X:Cx) (scope:Scope) (ext:List Str) (fp:List Addr) (s:Shared) (H:Hp):Cx:=cxC X scope (clOf X.env scope.names []) (X.N++ext) fp s H
theorem pe_lc (bs:List Bool) (ext:List Str) (hi:PI X tg iter wi) (hg:∀fp s H,PG (cxB X scope ext fp s H) tg g) (ht:∀fp s H,PTs (cxB X scope ext fp s H) ifs tt) (he:∀fp s H,PE (cxB X scope ext fp s H) elt te)
  (hk:xr scope X.env X.N bs=true:=by rfl) (hc:X.calm=true:=by rfl) (hs:∀x,foldedSetIterable iter X.env x=pure x:=by intro _; rfl) :
  PE X (.ListComp elt [⟨tg,iter,ifs,0⟩] scope pos) (ja wi bs ext.length g tt te):=fun pins s σ H Q I h=>pe_comp (CompS.of I hk) hc hi hg ht he hs pins s σ H Q I h
theorem ps_lc {i:Nat} {x:Str} {pos' spos:Pos} (bs:List Bool) (ext:List Str) (hN:X.N.Nodup) (hix:X.N[i]?=some x) (hx:X.env.scope.names.lookup x=some .local) (hi:PI X tg iter wi) (hg:∀fp s H,PG (cxB X scope ext fp s H) tg g) (ht:∀fp s H,PTs (cxB X scope ext fp s H) ifs tt) (he:∀fp s H,PE (cxB X scope ext fp s H) elt te)
  (hk:xr scope X.env X.N bs=true:=by rfl) (hc:X.calm=true:=by rfl)
  (hsw:swapsWith (.ListComp elt [⟨tg,iter,ifs,0⟩] scope pos) (some (.Name x pos')) spos.line X.env=pure true:=by rfl) (hs:∀x,foldedSetIterable iter X.env x=pure x:=by intro _; rfl) :
  PS X (.Assign [.Name x pos'] (.ListComp elt [⟨tg,iter,ifs,0⟩] scope pos) spos) (tAsg (ja wi bs ext.length g tt te) (qS i)):=fun pins s σ H D I h=>ps_comp (CompS.of I hk) hc hN hix hx hi hg ht he hsw hs pins s σ H D I h
end
def CDivB (i j:Int):Prop:=0<j/\j.natAbs.log2<9000
theorem noPyl {i j:Int} (h:CDivB i j):Builtin.divisionGoesByPylong i j=false:=PyProof.noPylong_of_log2 h.2
theorem je {X:Cx}:OpR X (binaryOp .FloorDiv) (rI CDivB fun i j=>.int (i / j)):=opI fun i j _ _ _ _ _ hc q=>by
 refine floordiv_int (by have:=hc.1; omega) ?_ (.inl (noPyl hc))
 rw[Int.fdiv_eq_ediv_of_nonneg _ (by have:=hc.1; omega)]
 exact q
section
variable {σ:St} {H:Hp} {Q:VK}
theorem rd_I {C:Int->Int->Prop} {g:Int->Int->V} {i j:Int}:rI C g (.int i) (.int j) H Q=(C i j/\Q (g i j) H) :=
 propext ⟨fun⟨_,_,e1,e2,h⟩=>by cases e1; cases e2; exact h,fun h=>⟨i,j,rfl,rfl,h⟩⟩
theorem rd_I0 {g:Int->Int->V} {i j:Int}:rI0 g (.int i) (.int j) H Q=Q (g i j) H :=
 propext ⟨fun⟨_,_,e1,e2,h⟩=>by cases e1; cases e2; exact h,fun h=>⟨i,j,rfl,rfl,h⟩⟩
theorem rd_U {g:Int->V} {i:Int}:rU g (.int i) H Q=Q (g i) H :=
 propext ⟨fun⟨_,e1,h⟩=>by cases e1; exact h,fun h=>⟨i,rfl,h⟩⟩
theorem Qw {t:TE} {R:Bool->Hp->Prop}:ki t σ H R=t σ H fun x H'=>∃k,x=.bl k/\R k H':=rfl
theorem rd_bl {k:Bool} {R:Bool->Prop}:(∃k',V.bl k=.bl k'/\R k')=R k:=propext ⟨fun⟨_,e,h⟩=>by cases e; exact h,fun h=>⟨k,rfl,h⟩⟩
theorem rd_l1 {i:Int} {R:Int->Prop}:(∃j,([V.int i]:List V)=[V.int j]/\R j)=R i:=propext ⟨fun⟨_,e,h⟩=>by cases e; exact h,fun h=>⟨i,rfl,h⟩⟩
theorem rd_l2 {a b:Int} {R:Int->Int->Prop}:(∃i j,([V.int a,V.int b]:List V)=[V.int i,V.int j]/\R i j)=R a b:=propext ⟨fun⟨_,_,e,h⟩=>by cases e; exact h,fun h=>⟨a,b,rfl,h⟩⟩
theorem rd_lr {a:Addr} {R:Addr->List V->Prop}:(∃p ys,([V.ref a]:List V)=[V.ref p]/\R p ys)=∃ys,R a ys:=propext ⟨fun⟨_,ys,e,h⟩=>by cases e; exact⟨ys,h⟩,fun⟨ys,h⟩=>⟨a,ys,rfl,h⟩⟩
theorem vQ {p x:Addr} {o o':HO} (hp:H p=none) (h:H x=some o):upd H p o' x=some o:=by rw[upd_ne (qT h hp)]; exact h
theorem jX {p x:Addr} {o o':HO} (hn:x≠p) (h:H x=some o):upd H p o' x=some o:=by rw[upd_ne hn]; exact h
theorem QZ {p x:Addr} {o':HO} (h:upd H p o' x=none):H x=none/\x≠p:=by
 have hx:x≠p:=fun e=>by subst e; rw[upd_same] at h; cases h
 rw[upd_ne hx] at h
 exact⟨h,hx⟩
theorem Same.upd {H1:Hp} {p:Addr} {o:HO} (s:Same H H1) (h:H p=none):Same H (upd H1 p o):=fun b o' e=>by
 rw[upd_ne (qT e h)]; exact s b o' e
theorem ExtS.nl:ExtS [] []:=fun _ _ h=>h
theorem ExtS.no {a b:St} {x:Option V} (h:ExtS a b):ExtS (none::a) (x::b):=fun i v e=>by
 cases i with
 |zero=>simp at e
 |succ i=>simpa using h i v (by simpa using e)
theorem ExtS.sm {a b:St} {x:Option V} (h:ExtS a b):ExtS (x::a) (x::b):=fun i v e=>by
 cases i with
 |zero=>simpa using e
 |succ i=>simpa using h i v (by simpa using e)
end
structure Def (P:Program) (w:World) (K:PySem.W.Frag) (mg:Str->Option Value) (base:Heap) (x:Str) (k:Nat) (ps:List Str) (sp:Sp):Prop where
 ex:∃(f:Addr) (fd:FuncData),mg x=some (.ref f)/\PySem.W.keepIn K (.ref f)=true/\Binds K fd ps []/\FnOk P w K mg base CX0 k f fd ps sp
section
variable {X:Cx} {x:Str} {k:Nat} {ps:List Str} {sp:Sp} {p pos:Pos} {e:Expr} {es:List Expr} {t:TA}
theorem pe_def (D:Def X.prog X.w X.K X.mg X.base x k ps sp) (hr:Room k X.A) (ha:PA X (e::es) t) (hg:Gl X x:=by rfl) (hdb:(x==("__debug__" : Str))=false:=by decide) (he:starEach (e::es) X.env=(false,eval e X.env)::starEach es X.env:=by rfl) (hpl:(backTo pos (starEach es X.env)).any (·.1)=false:=by rfl) :
  PE X (.Call (.Name x p) (e::es) [] pos) (jo sp [] E0 t):=by
 obtain⟨f,fd,h1,h2,h3,h4⟩:=D.ex
 exact pe_call h4 hr hg h1 h2 h3 .nil pass0 ha hdb he hpl
end
def rIsi (K:PySem.W.Frag):List V->Hp->VK->Prop:=fun xs H Q=>∃x n t b,xs=[x, .ty n]/\TyOf K H x (.type t)/\PySem.W.kitOne K (.type t) (.type n)=some b/\Q (.bl b) H
theorem call_isi {X:Cx}:zK X (.builtin "isinstance") (rIsi X.K):=by
 intro pins s σ H xs us Q I r h
 obtain⟨x,n,t,b,rfl,ty,e,q⟩:=h
 obtain⟨u,v,rfl,ru,rv⟩:=vals2 r
 obtain rfl:v=Value.type n:=rv
 exact Kg I ru ty e fun tk=>⟨.bl b,H,I.tok tk,rfl,q⟩
inductive DE (K:PySem.W.Frag) (H:Hp):Nat->V->V->Bool->Prop
 |flat {n:Nat} {x y:V}:Ku x=true->Ku y=true->DE K H n x y (eqV x y)
 |same {n:Nat} {a:Addr}:DE K H n (.ref a) (.ref a) true
 |tup {n:Nat} {a b:Addr} {xs ys:List V} {e:Nat->Bool}:a≠b->SqT K H a xs->SqT K H b ys->(∀(j:Nat) x y,xs[j]?=some x->ys[j]?=some y->DE K H n x y (e j))->DE K H (n+1) (.ref a) (.ref b) ((List.range (min xs.length ys.length)).all e&&xs.length==ys.length)
 |lst {n:Nat} {a b:Addr} {xs ys:List V} {e:Nat->Bool}:a≠b->SqL K H a xs->SqL K H b ys->xs.length=ys.length->(∀(j:Nat) x y,xs[j]?=some x->ys[j]?=some y->DE K H n x y (e j))->DE K H (n+1) (.ref a) (.ref b) ((List.range xs.length).all e)
 |lstN {n:Nat} {a b:Addr} {xs ys:List V}:a≠b->SqL K H a xs->SqL K H b ys->xs.length≠ys.length->DE K H (n+1) (.ref a) (.ref b) false
theorem jg {A:Around}:A.in1.units=A.units+1:=rfl
theorem DE.eqAt {X:Cx} {pins:List (Addr×Obj)} {σ:St} {H:Hp} {s:Shared} (I:Inv X pins σ H s) {n:Nat} {x y:V} {b:Bool} (d:DE X.K H n x y b):∀{A:Around} {u v:Value},A.units+n<cLine->RelV x u->RelV y v->SeqAt.EqAt A s u v b:=by
 induction d with
 |flat f g=>intro A u v _ rx ry; exact eqAt_V rx ry f g
 |same =>
  intro A u v _ rx ry
  obtain rfl:u=_:=rx
  obtain rfl:v=_:=ry
  exact SeqAt.EqAt.same _
 | @tup n a b xs ys e ne ha hb _ ih =>
  intro A u v hu rx ry
  obtain rfl:u=Value.ref a:=rx
  obtain rfl:v=Value.ref b:=ry
  obtain⟨its,r1,p1,_⟩:=I.tuple ha
  obtain⟨its2,r2,p2,_⟩:=I.tuple hb
  have:=SeqAt.RcAt.tuples (A:=A) (e:=e) p1 p2 (by omega) fun j h1 h2=>by
   have l1:j<xs.length:=by rw[r1.length]; simpa using h1
   have l2:j<ys.length:=by rw[r2.length]; simpa using h2
   obtain⟨u1,q1,s1⟩:=r1.get (List.getElem?_eq_getElem l1)
   obtain⟨u2,q2,s2⟩:=r2.get (List.getElem?_eq_getElem l2)
   have e1:its.toArray[j]=u1:=by
    have:=List.getElem?_eq_some_iff.mp q1
    obtain⟨_,z⟩:=this
    simpa using z
   have e2:its2.toArray[j]=u2:=by
    have:=List.getElem?_eq_some_iff.mp q2
    obtain⟨_,z⟩:=this
    simpa using z
   rw[e1,e2]
   exact ih j _ _ (List.getElem?_eq_getElem l1) (List.getElem?_eq_getElem l2) (by rw[jg]; omega) s1 s2
  rw[List.size_toArray,List.size_toArray, <-r1.length, <-r2.length] at this
  exact .of_refs ne this
 | @lst n a b xs ys e ne ha hb hl _ ih =>
  intro A u v hu rx ry
  obtain rfl:u=Value.ref a:=rx
  obtain rfl:v=Value.ref b:=ry
  obtain⟨its,r1,p1,_⟩:=I.list ha
  obtain⟨its2,r2,p2,_⟩:=I.list hb
  have:=SeqAt.RcAt.lists (A:=A) (e:=e) p1.isList p2.isList (by simp[<-r1.length, <-r2.length,hl]) (by omega) fun j h1 h2=>by
   have l1:j<xs.length:=by rw[r1.length]; simpa using h1
   have l2:j<ys.length:=by rw[r2.length]; simpa using h2
   obtain⟨u1,q1,s1⟩:=r1.get (List.getElem?_eq_getElem l1)
   obtain⟨u2,q2,s2⟩:=r2.get (List.getElem?_eq_getElem l2)
   have e1:its.toArray[j]=u1:=by
    have:=List.getElem?_eq_some_iff.mp q1
    obtain⟨_,z⟩:=this
    simpa using z
   have e2:its2.toArray[j]=u2:=by
    have:=List.getElem?_eq_some_iff.mp q2
    obtain⟨_,z⟩:=this
    simpa using z
   rw[e1,e2]
   exact ih j _ _ (List.getElem?_eq_getElem l1) (List.getElem?_eq_getElem l2) (by rw[jg]; omega) s1 s2
  rw[List.size_toArray, <-r1.length] at this
  exact .of_refs ne this
 | @lstN n a b xs ys ne ha hb hl =>
  intro A u v hu rx ry
  obtain rfl:u=Value.ref a:=rx
  obtain rfl:v=Value.ref b:=ry
  obtain⟨its,r1,p1,_⟩:=I.list ha
  obtain⟨its2,r2,p2,_⟩:=I.list hb
  exact .of_refs ne (SeqAt.RcAt.lists_lengths p1.isList p2.isList (by simp[<-r1.length, <-r2.length,hl]) (by omega))
structure Nms (mg:Str->Option Value):Prop where
 abs:mg "abs" = none
 len:mg "len" = none
 min:mg "min" = none
 max:mg "max" = none
 sum:mg "sum" = none
 sorted:mg "sorted" = none
 all:mg "all" = none
 any:mg "any" = none
 isinstance:mg "isinstance" = none
 range:mg "range" = none
 int:mg "int" = none
 list:mg "list" = none
 str:mg "str" = none
 bool:mg "bool" = none
 tuple:mg "tuple" = none
 zip:mg "zip" = none
 enumerate:mg "enumerate" = none
 dict:mg "dict" = none
theorem b_abs:bootBuiltins "abs" = some (.builtin "abs"):=by decide +kernel
theorem zb:bootBuiltins "len" = some (.builtin "len"):=by decide +kernel
theorem b_all:bootBuiltins "all" = some (.builtin "all"):=by decide +kernel
theorem qK:bootBuiltins "isinstance" = some (.builtin "isinstance"):=by decide +kernel
theorem XS:bootBuiltins "int" = some (.type "int"):=by decide +kernel
theorem Xv:bootBuiltins "list" = some (.type "list"):=by decide +kernel
theorem ZC:bootBuiltins "str" = some (.type "str"):=by decide +kernel
theorem b_bool:bootBuiltins "bool" = some (.type "bool"):=by decide +kernel
theorem KS:bootBuiltins "tuple" = some (.type "tuple"):=by decide +kernel
def SameB (b:Addr) (H H':Hp):Prop:=∀x o,H x=some o->x≠b->H' x=some o
theorem SameB.trans {b:Addr} {H H1 H2:Hp} (h:SameB b H H1) (k:SameB b H1 H2):SameB b H H2:=fun x o e n=>k x o (h x o e n) n
theorem SameB.upd {b p:Addr} {H H1:Hp} {o:HO} (s:SameB b H H1) (h:H p=none\/p=b):SameB b H (upd H1 p o):=fun x o' e n=>by
 have:x≠p:=by
  rcases h with h|h
  ·exact qT e h
  ·rw[h]; exact n
 rw[upd_ne this]; exact s x o' e n
def rLenL:List V->Hp->VK->Prop:=fun vs H Q=>∃p ys,vs=[.ref p]/\H p=some (.lst ys)/\Q (.int ys.length) H
theorem vg {X:Cx}:zK X (.builtin "len") rLenL:=by
 intro pins s σ H xs us Q I r h
 obtain⟨p,ys,e,h,q⟩:=h
 exact jQ pins s σ H xs us Q I r ⟨p,ys,e, .inl (SqL.of h),q⟩
section
variable {K:PySem.W.Frag} {H:Hp} {Q:VK} {p:Addr} {xs:List V} {v:V} {i:Int}
theorem Kf (h:H p=some (.lst xs)) (e:atI xs i=some v) (q:Q v H):rIxL K (.ref p) (.int i) H Q:=⟨p,xs,i,v,rfl,rfl,SqL.of h,e,q⟩
theorem ixT_at (h:H p=some (.tup xs)) (e:atI xs i=some v) (q:Q v H):rIxT K (.ref p) (.int i) H Q:=⟨p,xs,i,v,rfl,rfl,SqT.of h,e,q⟩
theorem at0 {α:Type} {x:α} {l:List α}:atI (x::l) 0=some x:=v8 (j:=0) rfl
theorem at1 {α:Type} {x y:α} {l:List α}:atI (x::y::l) 1=some y:=v8 (j:=1) rfl
theorem setL_at {j:Nat} {R:Hp->Prop} (h:H p=some (.lst xs)) (e:ixN xs.length i=some j) (q:R (upd H p (.lst (xs.set j v)))):rSetL (.ref p) (.int i) v H R:=⟨p,xs,i,j,rfl,rfl,h,e,q⟩
theorem Kv {x y:V} (h:scal x y=true) (q:Q (.bl (decide (x=y))) H):rEq x y H Q:=⟨h,q⟩
theorem ne_at {x y:V} (h:scal x y=true) (q:Q (.bl (!decide (x=y))) H):rNe x y H Q:=⟨h,q⟩
theorem len_at (h:H p=some (.lst xs)) (q:Q (.int xs.length) H):rLenL [.ref p] H Q:=⟨p,xs,rfl,h,q⟩
theorem Z9 {σ:St} {x y:V} {i j:Nat} {R:St->Hp->Prop} (h:H p=some (.tup [x,y])) (q:R ((σ.set i (some x)).set j (some y)) H):gTup K 2 (vh (qS i) (vh (qS j) gNil)) (.ref p) σ H R :=
 ⟨p,_,rfl,SqT.of h,rfl,_,_,rfl,_,_,rfl,rfl,q⟩
theorem Z8 {σ:St} {x y z:V} {i j k:Nat} {R:St->Hp->Prop} (h:H p=some (.tup [x,y,z])) (q:R (((σ.set i (some x)).set j (some y)).set k (some z)) H):gTup K 3 (vh (qS i) (vh (qS j) (vh (qS k) gNil))) (.ref p) σ H R :=
 ⟨p,_,rfl,SqT.of h,rfl,_,_,rfl,_,_,rfl,_,_,rfl,rfl,q⟩
theorem xG {i j:Int}:(V.int i=V.int j)=(i=j):=propext ⟨fun h=>by cases h; rfl,fun h=>by rw[h]⟩
theorem xF {i j:Str}:(V.str i=V.str j)=(i=j):=propext ⟨fun h=>by cases h; rfl,fun h=>by rw[h]⟩
end
section
variable {X:Cx} {i j k:Nat} {x y z:Str} {px py pz pos:Pos} {kk:Nat}
theorem pg_t2 (hN:X.N.Nodup) (hc:X.calm=true) (hi:X.N[i]?=some x) (hj:X.N[j]?=some y) (lx:Loc X.env.scope x) (ly:Loc X.env.scope y)
  (fx:X.fn x=true\/X.env.scope.names.lookup x=some .local) (fy:X.fn y=true\/X.env.scope.names.lookup y=some .local) :
  PG X (.Tuple [.Name x px, .Name y py] kk pos) (gTup X.K 2 (vh (qS i) (vh (qS j) gNil))):=Jw hc (xC (jt hN hi lx fx) (xC (jt hN hj ly fy) Zd))
theorem pg_t3 (hN:X.N.Nodup) (hc:X.calm=true) (hi:X.N[i]?=some x) (hj:X.N[j]?=some y) (hk:X.N[k]?=some z) (lx:Loc X.env.scope x) (ly:Loc X.env.scope y) (lz:Loc X.env.scope z)
  (fx:X.fn x=true\/X.env.scope.names.lookup x=some .local) (fy:X.fn y=true\/X.env.scope.names.lookup y=some .local) (fz:X.fn z=true\/X.env.scope.names.lookup z=some .local) :
  PG X (.Tuple [.Name x px, .Name y py, .Name z pz] kk pos) (gTup X.K 3 (vh (qS i) (vh (qS j) (vh (qS k) gNil)))):=Jw hc (xC (jt hN hi lx fx) (xC (jt hN hj ly fy) (xC (jt hN hk lz fz) Zd)))
end
section
variable {X:Cx} {K:PySem.W.Frag}
theorem qh (h:X.K=K):IxR X (rIxL K):=h▸ix_list
theorem Zl (h:X.K=K):IxR X (rIxT K):=h▸ix_tup
theorem pi_listK {tg l:Expr} {tl:TE} (h:X.K=K) (hl:PE X l tl):PI X tg l (XN K tl):=h▸pi_list hl
theorem qR (h:X.K=K):SlR X (rSlL K):=h▸sl_list
theorem v6 (h:X.K=K):zK X (.builtin "isinstance") (rIsi K):=h▸call_isi
def tTru (K:PySem.W.Frag) (ta:TE):TT:=fun σ H Q=>ta σ H fun x H'=>∃k,TruV K x H' k/\Q k H'
theorem pg_t2K {i j:Nat} {x y:Str} {px py pos:Pos} {kk:Nat} (h:X.K=K) (hN:X.N.Nodup) (hc:X.calm=true) (hi:X.N[i]?=some x) (hj:X.N[j]?=some y) (lx:Loc X.env.scope x) (ly:Loc X.env.scope y)
  (fx:X.fn x=true\/X.env.scope.names.lookup x=some .local) (fy:X.fn y=true\/X.env.scope.names.lookup y=some .local) :
  PG X (.Tuple [.Name x px, .Name y py] kk pos) (gTup K 2 (vh (qS i) (vh (qS j) gNil))):=h▸pg_t2 hN hc hi hj lx ly fx fy
theorem pg_t3K {i j k:Nat} {x y z:Str} {px py pz pos:Pos} {kk:Nat} (h:X.K=K) (hN:X.N.Nodup) (hc:X.calm=true) (hi:X.N[i]?=some x) (hj:X.N[j]?=some y) (hk:X.N[k]?=some z) (lx:Loc X.env.scope x) (ly:Loc X.env.scope y) (lz:Loc X.env.scope z)
  (fx:X.fn x=true\/X.env.scope.names.lookup x=some .local) (fy:X.fn y=true\/X.env.scope.names.lookup y=some .local) (fz:X.fn z=true\/X.env.scope.names.lookup z=some .local) :
  PG X (.Tuple [.Name x px, .Name y py, .Name z pz] kk pos) (gTup K 3 (vh (qS i) (vh (qS j) (vh (qS k) gNil)))):=h▸pg_t3 hN hc hi hj hk lx ly lz fx fy fz
def LmStep (x:V) (H:Hp) (k:Prop):Prop:=∃p xs,x=.ref p/\H p=some (.lst xs)/\k
theorem lm_at {p:Addr} {xs:List V} {H:Hp} {k:Prop} (h:H p=some (.lst xs)) (q:k):LmStep (.ref p) H k:=⟨p,xs,rfl,h,q⟩
def tLM (r:V->List V->Hp->VK->Prop) (to:TE) (t:TA):TE:=fun σ H Q=>to σ H fun x H1=>LmStep x H1 (t σ H1 fun vs H2=>r x vs H2 Q)
theorem pe_lm {o e:Expr} {es:List Expr} {to:TE} {t:TA} {name:Str} {apos cpos:Pos} {id:String} {r:V->List V->Hp->VK->Prop} (slot:Slot "list" name id) (hty:typeOf (.builtin id)=pure (.type "method_descriptor")) (hm:MtR X id r) (ho:PE X o to) (ha:PA X (e::es) t)
  (hbase:attributeBase o name X.env (eval o X.env)=eval o X.env:=by rfl)
  (hfew:((backTo cpos (starEach (e::es) X.env)).all (fun x => !x.1)&&(backToKw cpos (keywordEach [] X.env)).all (fun x=>x.1.isSome)
   && decide ((e::es).length+([]:List Keyword).length+(if([]:List Keyword).isEmpty then 0 else 1)<30))=true:=by rfl)
  (hline:(apos.endLine==cpos.line)=true:=by rfl) (hs:starEach (e::es) X.env=(false,eval e X.env)::starEach es X.env:=by rfl) (hplain:(backTo cpos (starEach es X.env)).any (·.1)=false:=by rfl) :
  PE X (.Call (.Attribute o name apos) (e::es) [] cpos) (tLM r to t):=by
 intro pins s σ H Q I h
 refine wpAny_Call_method_late hbase hfew hline rfl (thn (ho pins s σ H _ I h) fun v s1 ⟨x,H1,I1,r1,p,xs,ex,hp,q1⟩=>?_)
 subst ex
 obtain⟨h1,h2⟩:=X5 (T := "list") I1 r1 (.inl ⟨rfl,xs,SqL.of hp⟩)
 refine⟨"list", id,PySem.F.plainAttrs_list,slot,hty,h1,h2, ?_⟩
 have hA:=ha cpos pins s1 σ H1 _ I1 q1
 rw[hs] at hA ⊢
 refine Calls.callWith_builtin (by show(false||(backTo cpos (starEach es X.env)).any (·.1))=false; rw[hplain]<;>rfl) (Calls.evalArgs_plain ?_)
 exact thn hA fun us s2 ⟨vs,H2,I2,r2,q2⟩=>hm pins s2 σ H2 (.ref p) vs v us Q I2 r1 r2 q2
end
def ForW (J:It) (g:TG) (tb:TS) (D:Ends) (σ:St) (H1:Hp):Prop:=∃W:Nat->Nat->St->Hp->Prop,(∃m,W 0 m σ H1)/\∀i m σ H,W i m σ H ->
 (J.stop i H/\D.nx σ H)\/(J.go i H/\∃N:St->Hp->Prop,(∀σ' H',N σ' H'->∃m',m'<m/\W (i+1) m' σ' H')/\∀x H',J.yld i H x H'->g x σ H' fun σ2 H2=>tb { D with nx:=N,ct:=N,bk:=D.nx } σ2 H2)
theorem ZR {wi:TI} {g:TG} {tb:TS} {D:Ends} {σ:St} {H:Hp}:tFor wi g tb D σ H=wi σ H fun J H1=>ForW J g tb D σ H1:=rfl
def ItStep (K:PySem.W.Frag) (x:V) (H:Hp) (R:It->Hp->Prop):Prop:=∃a,x=.ref a/\(∃xs,SqL K H a xs)/\R (Itl K a) H
theorem j3 {K:PySem.W.Frag} {tl:TE} {σ:St} {H:Hp} {R:It->Hp->Prop}:XN K tl σ H R=tl σ H fun x H1=>ItStep K x H1 R:=rfl
theorem it_at {K:PySem.W.Frag} {p:Addr} {xs:List V} {H:Hp} {R:It->Hp->Prop} (h:H p=some (.lst xs)) (q:R (Itl K p) H):ItStep K (.ref p) H R:=⟨p,rfl,⟨xs,SqL.of h⟩,q⟩
def RgStep (vs:List V) (H:Hp) (R:It->Hp->Prop):Prop:=∃j:Int,vs=[.int j] /\ -(2^62)<=j/\j<2^62/\R (Itr 0 j.toNat) H
theorem j2 {ta:TA} {σ:St} {H:Hp} {R:It->Hp->Prop}:Kj ta σ H R=ta σ H fun vs H1=>RgStep vs H1 R:=rfl
theorem rg_at {j:Int} {H:Hp} {R:It->Hp->Prop} (h1 : -(2^62)<=j) (h2:j<2^62) (q:R (Itr 0 j.toNat) H):RgStep [.int j] H R:=⟨j,rfl,h1,h2,q⟩
theorem rd_pi {k:Int} {R:Int->Prop}:(∃i,V.int k=.int i/\R i)=R k:=propext ⟨fun⟨_,e,h⟩=>by cases e; exact h,fun h=>⟨k,rfl,h⟩⟩
theorem jP {K:PySem.W.Frag} {H:Hp} {Q:VK} {x:V} {n t:String} {b:Bool} (ty:TyOf K H x (.type t)) (e:PySem.W.kitOne K (.type t) (.type n)=some b) (q:Q (.bl b) H):rIsi K [x, .ty n] H Q:=⟨x,n,t,b,rfl,ty,e,q⟩
def rIsiT (K:PySem.W.Frag):List V->Hp->VK->Prop:=fun xs H Q=>∃(x:V) (p:Addr) (ns:List String) (t:String) (b:Bool),xs=[x, .ref p]/\H p=some (.tup (ns.map V.ty))/\TyOf K H x (.type t)/\PySem.W.kitAny K (.type t) (ns.map Value.type)=some b/\Q (.bl b) H
theorem XW:∀{ns:List String} {us:List Value},Vals (ns.map V.ty) us->us=ns.map Value.type
 | [],_,h=>by cases h; rfl
 |n::ns,_,h=>by
  cases h with
  |cons r t =>
   have:=XW t
   subst this
   obtain rfl:=(show _=Value.type n from r)
   rfl
theorem VJ {X:Cx} {K:PySem.W.Frag} (hK:X.K=K):zK X (.builtin "isinstance") (rIsiT K):=by
 subst hK
 intro pins s σ H xs us Q I r h
 obtain⟨x,p,ns,t,b,rfl,hp,ty,e,q⟩:=h
 obtain⟨u,v,rfl,ru,rv⟩:=vals2 r
 obtain rfl:v=Value.ref p:=rv
 obtain⟨_,its,r1,o,ho,hc,n,hd⟩:=(show ObjOk X.prog X.w H s.heap p (.tup (ns.map V.ty)) from I.hok p _ hp)
 obtain rfl:=XW r1
 obtain⟨c,dd,dt,sl⟩:=o
 simp only at hc hd
 subst hc hd
 have fin:∀tk,EP X pins σ Q (.bool b) { s with toks:=tk }:=fun tk=>⟨.bl b,H,I.tok tk,rfl,q⟩
 cases ty with
 |non=>cases(show u=Value.none from ru); exact PySem.W.kia_tup PySem.W.kitx_none I.kIn True.intro ho e (fun z=>nomatch z) fin
 |bl y=>cases(show u=Value.bool y from ru); exact PySem.W.kia_tup PySem.W.kitx_bool I.kIn True.intro ho e (fun z=>nomatch z) fin
 |int i=>obtain⟨t,q'⟩:=(show ∃t,u=Value.int i t from ru); cases q'; exact PySem.W.kia_tup PySem.W.kitx_int I.kIn True.intro ho e (fun z=>nomatch z) fin
 |str y=>obtain⟨t,q'⟩:=(show ∃t,u=Value.str y t from ru); cases q'; exact PySem.W.kia_tup PySem.W.kitx_str I.kIn True.intro ho e (fun z=>nomatch z) fin
 |flt y=>obtain⟨t,q'⟩:=(show ∃t,u=Value.float y t from ru); cases q'; exact PySem.W.kia_tup PySem.W.kitx_float I.kIn True.intro ho e (fun z=>nomatch z) fin
 | @lst a xs ea =>
  cases(show u=Value.ref a from ru)
  obtain⟨_,_,n,_,h1⟩:=(show ObjOk X.prog X.w H s.heap a (.lst xs) from I.hok a _ ea)
  exact PySem.W.kia_tup PySem.W.kitx_list I.kIn ⟨_,h1,rfl⟩ ho e (fun z=>nomatch z) fin
 | @frz a ob xs ea =>
  cases(show u=Value.ref a from ru)
  obtain⟨_,_,_,n,_,h1⟩:=(show ObjOk X.prog X.w H s.heap a (.frz ob (.lst xs)) from I.hok a _ ea)
  exact PySem.W.kia_tup PySem.W.kitx_list I.kIn ⟨_,h1,rfl⟩ ho e (fun z=>nomatch z) fin
 | @tup a xs ea =>
  cases(show u=Value.ref a from ru)
  obtain⟨_,_,_,o2,h1,h2,_⟩:=(show ObjOk X.prog X.w H s.heap a (.tup xs) from I.hok a _ ea)
  exact PySem.W.kia_tup PySem.W.kitx_tuple I.kIn ⟨o2,h1,h2⟩ ho e (fun z=>nomatch z) fin
 | @dK a kvs ea =>
  cases(show u=Value.ref a from ru)
  obtain⟨_,_,vs,_,p2⟩:=(show ObjOk X.prog X.w H s.heap a (.dK kvs) from I.hok a _ ea)
  obtain⟨o2,es,ep,h1,h2,_⟩:=p2
  exact PySem.W.kia_tup PySem.W.kitx_dict I.kIn ⟨o2,h1,h2.1⟩ ho e (fun z=>nomatch z) fin
 | @dT a kvs ea =>
  cases(show u=Value.ref a from ru)
  obtain⟨_,_,xs,_,o2,es,ep,h1,h2,_⟩:=(show ObjOk X.prog X.w H s.heap a (.dT kvs) from I.hok a _ ea)
  exact PySem.W.kia_tup PySem.W.kitx_dict I.kIn ⟨o2,h1,h2.1⟩ ho e (fun z=>nomatch z) fin
structure Tup3 (K:PySem.W.Frag) (mg:Str->Option Value) (nm:Str) (p:Addr) (x y z:Str):Prop where
 mg:mg nm=some (.ref p)
 lk:∃(a b c:Tok) (n:Nat) (sl:Array (Option Value)),K.lookup p=some ⟨.type "tuple", none, .seq #[.str x a, .str y b, .str z c] n,sl⟩
theorem Tup3.ty {K:PySem.W.Frag} {mg:Str->Option Value} {nm:Str} {p:Addr} {x y z:Str} (T:Tup3 K mg nm p x y z) (H:Hp):tyV K "tuple" (.ref p) H:=by
 obtain⟨a,b,c,n,sl,e⟩:=T.lk
 exact .inr (.inl ⟨rfl,_,e,rfl,rfl⟩)
def h00:Heap:={}
def kX (h:Heap) (L:Addr):List (Addr×Obj):=(List.range h.objs.size).filterMap fun a=>if a=L then none else(h.get? a).map fun o=>(a,o)
theorem QN (a:Addr):h00.get? a=none:=Heap.get?_none_of_le (Nat.zero_le _)
theorem Z1 {h:Heap} {L b:Addr} {o:Obj} (e:h.get? b=some o) (n:b≠L):(b,o)∈kX h L:=by
 refine List.mem_filterMap.mpr ⟨b,List.mem_range.mpr (Heap.lt_size e), ?_⟩
 rw[if_neg n,e]
 rfl
theorem JV {h:Heap} {L:Addr}:News h00 L h (kX h L):=fun p hp=>by
 obtain⟨a,_,e⟩:=List.mem_filterMap.mp hp
 by_cases n:a=L
 ·rw[if_pos n] at e; cases e
 ·rw[if_neg n] at e
  cases q:h.get? a with
  |none=>rw[q] at e; cases e
  |some o=>rw[q] at e; cases e; exact⟨q,n,QN _⟩
theorem Inv.ledger {X:Cx} {pins:List (Addr×Obj)} {σ:St} {H:Hp} {s:Shared} (I:Inv X pins σ H s):∃m,Fr h00 X.env.locals s.heap m/\News h00 X.env.locals s.heap (kX s.heap X.env.locals) /\
  ∀(h':Heap) (tk:Nat),Fr h00 X.env.locals h' m->News h00 X.env.locals h' (kX s.heap X.env.locals)->Inv X pins σ H { s with heap:=h',toks:=tk }:=by
 obtain⟨m,hn,_⟩:=I.loc
 refine⟨m,⟨hn,fun b o e=>(by rw[QN] at e; cases e),Nat.zero_le _⟩,JV,fun h' tk F W=>?_⟩
 have kp:∀b o,b≠X.env.locals->s.heap.get? b=some o->h'.get? b=some o:=fun b o n e=>(W _ (Z1 e n)).1
 refine I.step (ch:=[]) (H':=H) (fun b hb=>nomatch hb) (fun b o n _ _ e _=>kp b o n e) (fun b o n _ _ e _=>⟨o.slots,kp b o n e⟩) (fun b o _ _ z=>z) (fun b o _ e=>?_) (fun _ _ z=>z) (fun _ _ _ z=>z) (fun b ps z=>⟨#[],by simpa using z⟩) (fun m' hm'=>?_) (fun a o e=>?_) I.bare
 ·by_cases n:b=X.env.locals
  ·subst n
   obtain⟨o',_,_,e',_⟩:=F.ns
   exact⟨o',e'⟩
  ·exact⟨o,kp b o n e⟩
 ·have:m'=m:=funext fun x=>by
   obtain⟨o,es,ep,e1,e2,e3,e4⟩:=hm'
   obtain⟨o',es',ep',f1,f2,f3,f4⟩:=hn
   rw[e1] at f1; cases f1
   rw[e2] at f2; cases f2
   rw[<-e4, <-f4]
  rw[this]
  exact F.ns
 ·refine(I.hok a o e).stay (fun b u hb q=>kp b u ?_ q) (fun _ q=>q) fun _ _ q=>q
  intro z
  subst z
  have:=I.free
  rcases hb with hb|hb
  ·subst hb; rw[e] at this; cases this
  ·rw[hb] at this; cases this
theorem Xr:∀{bs:List Bool} {us:List Value},Vals (bs.map V.bl) us->LSm.BoolsAre us bs
 | [],_,h=>by cases h; exact .nil
 |b::bs,_,h=>by
  cases h with
  |cons r t =>
   obtain rfl:=(show _=Value.bool b from r)
   exact .cons b (Xr t)
def rAll:List V->Hp->VK->Prop:=fun xs H Q=>∃(l:Addr) (bs:List Bool),xs=[.ref l]/\H l=some (.lst (bs.map V.bl))/\Q (.bl (bs.all id)) H
theorem Xq {X:Cx} (hc:X.calm=true):zK X (.builtin "all") rAll:=by
 intro pins s σ H xs us Q I r h
 obtain⟨l,bs,rfl,hl,q⟩:=h
 obtain⟨u,rfl,rx⟩:=jk r
 cases rx
 obtain⟨its,r',pl,hz⟩:=I.list (SqL.of hl)
 obtain⟨m,F,W,fin⟩:=I.ledger
 exact LSm.all_bools F W (I.ok.hd hc) pl.isList (Xr r') fun h' tk F' W'=>⟨.bl _,H,fin h' tk F' W',rfl,q⟩
def rIxA (K:PySem.W.Frag):R2:=fun x y H Q=>rIxL K x y H Q\/rIxT K x y H Q
theorem Kc {X:Cx} {K:PySem.W.Frag} (h:X.K=K):IxR X (rIxA K):=(qh h).or (Zl h)
def rLenA (K:PySem.W.Frag):List V->Hp->VK->Prop:=fun xs H Q=>∃p ys,xs=[.ref p]/\(SqL K H p ys\/SqT K H p ys)/\Q (.int ys.length) H
theorem jB {X:Cx} {K:PySem.W.Frag} (h:X.K=K):zK X (.builtin "len") (rLenA K):=h▸jQ
structure GInt (mg:Str->Option Value) (nm:Str) (n:Int):Prop where
 ex:∃t,mg nm=some (.int n t)
theorem pe_gint {X:Cx} {x:Str} {n:Int} {pos:Pos} (G:GInt X.mg x n) (hg:Gl X x) (hd:(x==("__debug__" : Str))=false:=by decide):PE X (.Name x pos) (tC (.int n)):=by
 obtain⟨t,e⟩:=G.ex
 exact Ze hg e ⟨t,rfl⟩ hd
def Bt (n:Nat) (i:Int):Prop:=i.natAbs<2^n
theorem Bt.bits {n:Nat} {i:Int} (h:Bt n i):Builtin.Int.intBits i<=n:=intBits_le_iff.mpr h
def Itv (K:PySem.W.Frag) (a:Addr) (n:Nat):It :=
 ⟨fun i H=>i<n/\∃xs,SqL K H a xs/\xs.length=n,fun i H x H'=>H'=H/\∀xs,SqL K H a xs->xs[n-1-i]?=some x,fun i H=>n=i⟩
def RvStep (K:PySem.W.Frag) (vs:List V) (H:Hp) (R:It->Hp->Prop):Prop:=∃a xs,vs=[.ref a]/\SqL K H a xs/\R (Itv K a xs.length) H
def iRev (K:PySem.W.Frag) (ta:TA):TI:=fun σ H R=>ta σ H fun vs H1=>RvStep K vs H1 R
theorem Qx {K:PySem.W.Frag} {ta:TA} {σ:St} {H:Hp} {R:It->Hp->Prop}:iRev K ta σ H R=ta σ H fun vs H1=>RvStep K vs H1 R:=rfl
def Ite (K:PySem.W.Frag) (a:Addr):It :=
 ⟨fun i H=>∃xs x,SqL K H a xs/\xs[i]?=some x,fun i H x H'=>∃(p:Addr) (v:V),x=.ref p/\H p=none/\H'=upd H p (.tup [.int i,v])/\∀xs,SqL K H a xs->xs[i]?=some v,fun i H=>∃xs,SqL K H a xs/\xs.length<=i⟩
def EnStep (K:PySem.W.Frag) (vs:List V) (H:Hp) (R:It->Hp->Prop):Prop:=∃a xs,vs=[.ref a]/\SqL K H a xs/\R (Ite K a) H
def iEnum (K:PySem.W.Frag) (ta:TA):TI:=fun σ H R=>ta σ H fun vs H1=>EnStep K vs H1 R
theorem j4 {K:PySem.W.Frag} {ta:TA} {σ:St} {H:Hp} {R:It->Hp->Prop}:iEnum K ta σ H R=ta σ H fun vs H1=>EnStep K vs H1 R:=rfl
def rNeL (K:PySem.W.Frag):R2:=fun x y H Q=>∃a b xs ys,x=.ref a/\y=.ref b/\SqL K H a xs/\SqL K H b ys/\((xs.length≠ys.length/\Q (.bl true) H)\/(xs.length=ys.length/\∃e:Nat->Bool,(∀(j:Nat) x y,xs[j]?=some x->ys[j]?=some y->DE K H 20 x y (e j))/\Q (.bl (!(List.range xs.length).all e)) H))
def rEqL (K:PySem.W.Frag):R2:=fun x y H Q=>∃a b xs ys,x=.ref a/\y=.ref b/\SqL K H a xs/\SqL K H b ys/\((xs.length≠ys.length/\Q (.bl false) H)\/(xs.length=ys.length/\∃e:Nat->Bool,(∀(j:Nat) x y,xs[j]?=some x->ys[j]?=some y->DE K H 20 x y (e j))/\Q (.bl ((List.range xs.length).all e)) H))
theorem JE {X:Cx} {K:PySem.W.Frag} (hK:X.K=K) (hu:X.A.units+64<cLine):OpR X (compareOp .NotEq) (rNeL K):=by
 subst hK
 intro pins s σ H x y v u Q I rx ry h
 obtain⟨a,b,xs,ys,rfl,rfl,ha,hb,h⟩:=h
 obtain rfl:v=Value.ref a:=rx
 obtain rfl:u=Value.ref b:=ry
 obtain⟨its,r1,p1,_⟩:=I.list ha
 obtain⟨its2,r2,p2,_⟩:=I.list hb
 rcases h with⟨hl,q⟩|⟨hl,e,he,q⟩
 ·exact EqBoolInt.of_rcne (SeqAt.RcNeAt.lists_lengths (A:=X.A) p1.isList p2.isList (by simp[<-r1.length, <-r2.length,hl]) (by omega)) ⟨.bl _,H,I,rfl,q⟩
 ·refine EqBoolInt.of_rcne (SeqAt.RcNeAt.lists (A:=X.A) (e:=e) p1.isList p2.isList (by simp[<-r1.length, <-r2.length,hl]) (by omega) fun j h1 h2=>?_) ⟨.bl _,H,I,rfl, ?_⟩
  ·have l1:j<xs.length:=by rw[r1.length]; simpa using h1
   have l2:j<ys.length:=by rw[r2.length]; simpa using h2
   obtain⟨u1,q1,s1⟩:=r1.get (List.getElem?_eq_getElem l1)
   obtain⟨u2,q2,s2⟩:=r2.get (List.getElem?_eq_getElem l2)
   have e1:its.toArray[j]=u1:=by
    obtain⟨_,z⟩:=List.getElem?_eq_some_iff.mp q1
    simpa using z
   have e2:its2.toArray[j]=u2:=by
    obtain⟨_,z⟩:=List.getElem?_eq_some_iff.mp q2
    simpa using z
   rw[e1,e2]
   exact(he j _ _ (List.getElem?_eq_getElem l1) (List.getElem?_eq_getElem l2)).eqAt I (by rw[jg]; omega) s1 s2
  ·rw[List.size_toArray, <-r1.length]
   exact q
theorem JI {X:Cx} {K:PySem.W.Frag} (hK:X.K=K) (hu:X.A.units+64<cLine):OpR X (compareOp .Eq) (rEqL K):=by
 subst hK
 intro pins s σ H x y v u Q I rx ry h
 obtain⟨a,b,xs,ys,rfl,rfl,ha,hb,h⟩:=h
 obtain rfl:v=Value.ref a:=rx
 obtain rfl:u=Value.ref b:=ry
 obtain⟨its,r1,p1,_⟩:=I.list ha
 obtain⟨its2,r2,p2,_⟩:=I.list hb
 rcases h with⟨hl,q⟩|⟨hl,e,he,q⟩
 ·exact EqBoolInt.of_rc (SeqAt.RcAt.lists_lengths (A:=X.A) p1.isList p2.isList (by simp[<-r1.length, <-r2.length,hl]) (by omega)) ⟨.bl _,H,I,rfl,q⟩
 ·refine EqBoolInt.of_rc (SeqAt.RcAt.lists (A:=X.A) (e:=e) p1.isList p2.isList (by simp[<-r1.length, <-r2.length,hl]) (by omega) fun j h1 h2=>?_) ⟨.bl _,H,I,rfl, ?_⟩
  ·have l1:j<xs.length:=by rw[r1.length]; simpa using h1
   have l2:j<ys.length:=by rw[r2.length]; simpa using h2
   obtain⟨u1,q1,s1⟩:=r1.get (List.getElem?_eq_getElem l1)
   obtain⟨u2,q2,s2⟩:=r2.get (List.getElem?_eq_getElem l2)
   have e1:its.toArray[j]=u1:=by
    obtain⟨_,z⟩:=List.getElem?_eq_some_iff.mp q1
    simpa using z
   have e2:its2.toArray[j]=u2:=by
    obtain⟨_,z⟩:=List.getElem?_eq_some_iff.mp q2
    simpa using z
   rw[e1,e2]
   exact(he j _ _ (List.getElem?_eq_getElem l1) (List.getElem?_eq_getElem l2)).eqAt I (by rw[jg]; omega) s1 s2
  ·rw[List.size_toArray, <-r1.length]
   exact q
theorem KW {α:Type} [DecidableEq α] {ns ms:List α} (hl:ns.length=ms.length):(List.range ns.length).all (fun j=>ns[j]?==ms[j]?)=decide (ns=ms):=by
 rw[Bool.eq_iff_iff,decide_eq_true_iff,List.all_eq_true]
 constructor
 ·intro h
  refine List.ext_getElem? fun j=>?_
  by_cases hj:j<ns.length
  ·exact eq_of_beq (h j (List.mem_range.mpr hj))
  ·rw[List.getElem?_eq_none (by omega),List.getElem?_eq_none (by omega)]
 ·rintro rfl j _
  simp
def Zm (n:Nat):List Nat:=sliceRange (sliceBounds none none (some (-1)) n).1 (sliceBounds none none (some (-1)) n).2.1 (sliceBounds none none (some (-1)) n).2.2
theorem Kd (n:Nat):(Zm n).length<=n:=by
 unfold Zm sliceRange sliceBounds
 simp only[Option.getD_some,List.length_map,List.length_range]
 split
 ·omega
 ·split<;>simp<;>omega
def Ju (xs:List V):List V:=(Zm xs.length).filterMap fun i=>xs[i]?
theorem Jt (xs:List V):(Ju xs).length<=xs.length:=Nat.le_trans (List.length_filterMap_le _ _) (Kd _)
theorem kt {xs:List V} {us:List Value} (h:Vals xs us):∀I:List Nat,Vals (I.filterMap fun i=>xs[i]?) (I.filterMap fun i=>us[i]?)
 | []=>.nil
 |i::I=>by
  cases e:xs[i]? with
  |none =>
   have e2:us[i]?=none:=by
    rw[List.getElem?_eq_none_iff] at e ⊢
    rw[<-h.length]; exact e
   rw[List.filterMap_cons,List.filterMap_cons,e,e2]
   exact kt h I
  |some x =>
   obtain⟨u,e2,r⟩:=h.get e
   rw[List.filterMap_cons,List.filterMap_cons,e,e2]
   exact .cons r (kt h I)
def RevStep (K:PySem.W.Frag) (x:V) (H:Hp) (Q:VK):Prop:=∃a xs,x=.ref a/\SqL K H a xs/\∀r,H r=none->Q (.ref r) (upd H r (.lst (Ju xs)))
def tRev (K:PySem.W.Frag) (te:TE):TE:=fun σ H Q=>te σ H fun x H1=>RevStep K x H1 Q
theorem pe_rev {X:Cx} {K:PySem.W.Frag} {e:Expr} {te:TE} {j:Nat} {p1 p2 p3 pos:Pos} (hK:X.K=K) (he:PE X e te):PE X (.Subscript e (.Slice none none (some (.UnaryOp .USub (.Constant (.int 1) j p1) p3)) p2) pos) (tRev K te):=by
 subst hK
 intro pins s σ H Q I h
 refine Subscript_ (thn (he pins s σ H _ I h) fun v s1 ⟨x,H1,I1,r1,q1⟩=>?_)
 refine wpAny_Slice ?_
 rw[evalPart_none]
 refine wpAny_pure ?_
 refine wpAny_pure ?_
 refine thn ((Js (pe_un Q5 pe_int)) pins s1 σ H1 (fun o H2=>o=some (-1)/\H2=H1) I1 ?_) fun u s2 ⟨o,H2,I2,pu,q2⟩=>?_
 ·exact⟨_,rfl,_,rfl,rfl,rfl⟩
 obtain⟨rfl,rfl⟩:=q2
 obtain⟨a,xs,rfl,hx,q⟩:=q1
 cases r1
 have I4:Inv X pins σ H2 { s2 with heap:=s2.heap.push { cls:=.type "slice", data:=.fields #[.none, .none,u] } }:=I2.kept (t':=s2.toks) fun b ob q=>Heap.get?_push_of_some _ q
 obtain⟨its,r,ht,hz⟩:=I4.list hx
 show wpAny (model X.prog X.w) X.A (subscriptTail e (.Slice none none (some (.UnaryOp .USub (.Constant (.int 1) j p1) p3)) p2) (.ref a) (.ref s2.heap.objs.size)) (EP X pins σ Q) X.xe { s2 with heap:=s2.heap.push { cls:=.type "slice", data:=.fields #[.none, .none,u] } }
 refine tail_any (ops:=[.ref a, .ref s2.heap.objs.size]) ht.isList.typeIs slot_list_getitem.lookup (wpAny_getItem_list_slice (st:=some (-1)) ht.isList (Heap.IsSliceOf.new ..) .none .none pu (by decide) ?_ (by rw[List.size_toArray, <-r.length]; exact hz)) (by with_unfolding_all rfl)
 have hpk:slicePick its.toArray none none (some (-1))=((Zm xs.length).filterMap fun i=>its[i]?).toArray:=by
  unfold slicePick Zm
  rw[List.size_toArray, <-r.length]
  simp
 rw[hpk]
 exact⟨.ref _,_,I4.laid (t':=s2.toks) (o:=.lst (Ju xs)) (fun b ob q=>Heap.get?_push_of_some _ q) (Nat.le_refl _) ⟨Nat.le_trans (Jt xs) hz,_,0,kt r _,Heap.get?_push_size _ rfl⟩,rfl,q _ (I4.hok.fresh (Nat.le_refl _))⟩
def JT:Expr->Bool
 |.Starred _ _=>false
 |_=>true
theorem X8 {e:Expr} {es:List Expr} {env:Env} (h:JT e=true):starEach (e::es) env=(false,eval e env)::starEach es env:=by
 cases e<;>first|rfl|cases h
theorem pa_c {X:Cx} {e:Expr} {es:List Expr} {te:TE} {t:TA} (ha:PE X e te) (hr:PA X es t) (h:JT e=true:=by rfl):PA X (e::es) (xI te t):=pa_cons ha hr (X8 h)
structure QE (X:Cx) (e:Expr) (t:TE):Prop where
 h:PE X e t
structure QT (X:Cx) (e:Expr) (t:TT):Prop where
 h:PT X e t
structure QW (X:Cx) (e:Expr) (t:TT):Prop where
 h:PW X e t
structure QA (X:Cx) (e:List Expr) (t:TA):Prop where
 h:PA X e t
structure QS (X:Cx) (e:Stmt) (t:TS):Prop where
 h:PS X e t
structure QSs (X:Cx) (e:List Stmt) (t:TS):Prop where
 h:PSs X e t
structure QG (X:Cx) (e:Expr) (t:TG):Prop where
 h:PG X e t
structure QGs (X:Cx) (e:List Expr) (t:TGs):Prop where
 h:PGs X e t
structure QTs (X:Cx) (e:List Expr) (t:TT):Prop where
 h:PTs X e t
structure QO (X:Cx) (e:Option Expr) (t:TO):Prop where
 h:PO X e t
structure QI (X:Cx) (tg e:Expr) (t:TI):Prop where
 h:PI X tg e t
section
variable {X:Cx}
theorem qQ  : QSs X [] Qj:=⟨pss_nil ⟩
end
section
variable {X:Cx} {st:Stmt} {t:TS}
theorem qp (h1:QS X st t):QSs X [st] t:=⟨pss_one h1.h⟩
end
section
variable {X:Cx} {st:Stmt} {rest:List Stmt} {t u:TS}
theorem qg (h1:QS X st t) (h2:QSs X rest u):QSs X (st::rest) (tSeq t u):=⟨pss_cons h1.h h2.h⟩
end
section
variable {X:Cx} {elt tg iter:Expr} {ifs:List Expr} {scope:Scope} {bs:List Bool} {ext:List Str} {pos:Pos} {wi:TI} {g:TG} {tt:TT} {te:TE}
theorem qs_lc {i:Nat} {x:Str} {pos' spos:Pos} (bs:List Bool) (ext:List Str) (hN:X.N.Nodup) (hix:X.N[i]?=some x) (hx:X.env.scope.names.lookup x=some .local) (hi:QI X tg iter wi) (hg:∀fp s H,QG (cxB X scope ext fp s H) tg g) (ht:∀fp s H,QTs (cxB X scope ext fp s H) ifs tt) (he:∀fp s H,QE (cxB X scope ext fp s H) elt te) (hk:xr scope X.env X.N bs=true:=by rfl) (hc:X.calm=true:=by rfl) (hsw:swapsWith (.ListComp elt [⟨tg,iter,ifs,0⟩] scope pos) (some (.Name x pos')) spos.line X.env=pure true:=by rfl) (hs:∀x,foldedSetIterable iter X.env x=pure x:=by intro _; rfl):QS X (.Assign [.Name x pos'] (.ListComp elt [⟨tg,iter,ifs,0⟩] scope pos) spos) (tAsg (ja wi bs ext.length g tt te) (qS i)):=⟨ps_lc bs ext hN hix hx hi.h (fun fp s H=>(hg fp s H).h) (fun fp s H=>(ht fp s H).h) (fun fp s H=>(he fp s H).h) hk hc hsw hs⟩
end
section
variable {X:Cx} {pos:Pos}
theorem qC {i:Nat} {x:Str} {e:Expr} {te:TE} {pos':Pos} (hN:X.N.Nodup) (hi:X.N[i]?=some x) (hx:Loc X.env.scope x) (he:QE X e te) (hs:swapsWith e (some (.Name x pos')) pos.line X.env=pure false:=by rfl) (hf:X.fn x=true\/X.env.scope.names.lookup x=some .local:=by first|exact .inl rfl|exact .inr rfl|assumption):QS X (.Assign [.Name x pos'] e pos) (tAsg te (qS i)):=⟨ps_set hN hi hx he.h hs hf⟩
end
section
variable {X:Cx} {pos:Pos}
theorem xM {tg e:Expr} {te:TE} {g:TG} (he:QE X e te) (hg:QG X tg g) (hs:swapsWithSole [tg] e pos.line X.env=pure false:=by rfl) (hw:swappedStores [tg] e X.env=pure none:=by rfl) (h1:(assignEach [tg] X.env).map (·.2)=[assign tg X.env]:=by rfl):QS X (.Assign [tg] e pos) (tAsg te g):=⟨ps_asg he.h hg.h hs hw h1⟩
end
section
variable {X:Cx} {e:Expr} {te:TE} {pos:Pos}
theorem qM (he:QE X e te):QS X (.Return (some e) pos) (tRet te):=⟨ps_ret he.h⟩
end
section
variable {X:Cx} {t u:TS} {pos:Pos}
theorem vG {c:Expr} {a b:List Stmt} {tc:TT} (hc:QT X c tc) (ha:QSs X a t) (hb:QSs X b u):QS X (.If c a b pos) (tIfS tc t u):=⟨ps_if hc.h ha.h hb.h⟩
end
section
variable {X:Cx} {tg:Expr}
theorem jM {iter:Expr} {body:List Stmt} {wi:TI} {g:TG} {tb:TS} {pos:Pos} (hp:PassesOwn (model X.prog X.w) X.A X.env X.xe) (hc:X.calm=true) (hi:QI X tg iter wi) (hg:QG X tg g) (hb:QSs X body tb) (hs:∀x,foldedSetIterable iter X.env x=pure x:=by intro _; rfl):QS X (.For tg iter body [] pos) (tFor wi g tb):=⟨ps_for hp hc hi.h hg.h hb.h hs⟩
end
section
variable {X:Cx} {e:Expr} {te:TE} {pos:Pos}
theorem xR (he:QE X e te) (hs:swapsWith e none pos.line X.env=pure false:=by rfl):QS X (.Expr e pos) (Vb te):=⟨ps_expr he.h hs⟩
end
section
variable {X:Cx} {tg:Expr}
theorem vH {a:Expr} {ta:TA} {p pos:Pos} (hg:Gl X "range") (hm:X.mg "range" = none) (ha:QA X [a] ta) (hs:starEach [a] X.env=[(false,eval a X.env)]:=by rfl):QI X tg (.Call (.Name "range" p) [a] [] pos) (Kj ta):=⟨Jv hg hm ha.h hs⟩
end
section
variable {X:Cx} {K:PySem.W.Frag}
theorem vY {tg l:Expr} {tl:TE} (h:X.K=K) (hl:QE X l tl):QI X tg l (XN K tl):=⟨pi_listK h hl.h⟩
end
section
variable {X:Cx} {pos:Pos}
theorem qV {i:Nat} {x:Str} (hN:X.N.Nodup) (hi:X.N[i]?=some x) (hx:Loc X.env.scope x) (hf:X.fn x=true\/X.env.scope.names.lookup x=some .local:=by first|exact .inl rfl|exact .inr rfl|assumption):QG X (.Name x pos) (qS i):=⟨jt hN hi hx hf⟩
end
section
variable {X:Cx} {K:PySem.W.Frag}
theorem qg_t2K {i j:Nat} {x y:Str} {px py pos:Pos} {kk:Nat} (h:X.K=K) (hN:X.N.Nodup) (hc:X.calm=true) (hi:X.N[i]?=some x) (hj:X.N[j]?=some y) (lx:Loc X.env.scope x) (ly:Loc X.env.scope y) (fx:X.fn x=true\/X.env.scope.names.lookup x=some .local) (fy:X.fn y=true\/X.env.scope.names.lookup y=some .local):QG X (.Tuple [.Name x px, .Name y py] kk pos) (gTup K 2 (vh (qS i) (vh (qS j) gNil))):=⟨pg_t2K h hN hc hi hj lx ly fx fy⟩
end
section
variable {X:Cx} {K:PySem.W.Frag}
theorem qg_t3K {i j k:Nat} {x y z:Str} {px py pz pos:Pos} {kk:Nat} (h:X.K=K) (hN:X.N.Nodup) (hc:X.calm=true) (hi:X.N[i]?=some x) (hj:X.N[j]?=some y) (hk:X.N[k]?=some z) (lx:Loc X.env.scope x) (ly:Loc X.env.scope y) (lz:Loc X.env.scope z) (fx:X.fn x=true\/X.env.scope.names.lookup x=some .local) (fy:X.fn y=true\/X.env.scope.names.lookup y=some .local) (fz:X.fn z=true\/X.env.scope.names.lookup z=some .local):QG X (.Tuple [.Name x px, .Name y py, .Name z pz] kk pos) (gTup K 3 (vh (qS i) (vh (qS j) (vh (qS k) gNil)))):=⟨pg_t3K h hN hc hi hj hk lx ly lz fx fy fz⟩
end
section
variable {X:Cx} {pos:Pos}
theorem qg_tup {es:List Expr} {k:Nat} {t:TGs} {n:Nat} (hc:X.calm=true) (h:QGs X es t) (hn:(assignEach es X.env).length=n:=by rfl) (hst:(assignEach es X.env).findIdx? (·.1)=none:=by rfl):QG X (.Tuple es k pos) (gTup X.K n t):=⟨Jw hc h.h hn hst⟩
end
section
variable {X:Cx}
theorem qgs_nil  : QGs X [] gNil:=⟨Zd ⟩
end
section
variable {X:Cx}
theorem j5 {e:Expr} {es:List Expr} {t:TG} {u:TGs} (h1:QG X e t) (h2:QGs X es u) (hs:(assignEach (e::es) X.env).map (·.2)=assign e X.env::(assignEach es X.env).map (·.2):=by rfl):QGs X (e::es) (vh t u):=⟨xC h1.h h2.h hs⟩
end
section
variable {X:Cx} {pos:Pos}
theorem jN {o i:Expr} {to ti:TE} {t:TSet} (ho:QE X o to) (hi:QE X i ti) (hs:PSet X t) (ha:∀v,assign (.Subscript o i pos) X.env v=(do
   let ov <-holding [v] (eval o X.env)
   let iv <-holding [v,ov] (eval i X.env)
   standAt pos
   holding [v,ov,iv] (setItem ov iv v)
   release [v,ov,iv] []):=by intro _; rfl):QG X (.Subscript o i pos) (gSub to ti t):=⟨pg_sub ho.h hi.h hs ha⟩
end
section
theorem v7 {X:Cx}:QTs X [] tYes:=⟨pts_nil ⟩
end
section
theorem Za {X:Cx} {c:Expr} {t:TT} (h:QT X c t):QTs X [c] t:=⟨pts_one h.h⟩
end
section
theorem qa_c {X:Cx} {e:Expr} {es:List Expr} {te:TE} {t:TA} (ha:QE X e te) (hr:QA X es t) (h:JT e=true:=by rfl):QA X (e::es) (xI te t):=⟨pa_c ha.h hr.h h⟩
end
section
variable {X:Cx}
theorem qd  : QA X [] tNil:=⟨pa_nil ⟩
end
section
variable {X:Cx} {a b:Expr} {ta tb:TE} {pos:Pos}
theorem qt {op:CmpOp} {r:R2} (ho:OpR X (compareOp op) r) (ha:QE X a ta) (hb:QE X b tb) (hm:behindInMarks op b=false):QT X (.Compare a [op] [b] pos) (ki (tOp r ta tb)):=⟨pt_cmpR ho ha.h hb.h hm⟩
end
section
variable {X:Cx} {a b c:Expr} {ta tb tc:TE} {pos:Pos}
theorem ZW {op op':CmpOp} {r r':R2} (ho:OpR X (compareOp op) r) (ho':OpR X (compareOp op') r') (ha:QE X a ta) (hb:QE X b tb) (hc:QE X c tc) (hm:lastMarks [op,op'] [b,c]=false:=by with_unfolding_all rfl):QT X (.Compare a [op,op'] [b,c] pos) (ki (jH r r' ta tb tc)):=⟨pt_chain ho ho' ha.h hb.h hc.h hm⟩
end
section
theorem kn {X:Cx} {e:Expr} {t:TT} (h:QW X e t):QT X e t:=⟨PW.pt h.h⟩
end
section
variable {X:Cx}
variable {a b:Expr} {pos:Pos}
variable {tA tB':TT} {rest:List Expr}
theorem Jm (ha:QT X a tA) (hb:QW X (.BoolOp .And (b::rest) pos) tB'):QW X (.BoolOp .And (a::b::rest) pos) (tAnd tA tB'):=⟨pw_and ha.h hb.h⟩
end
section
variable {X:Cx}
variable {a:Expr} {pos:Pos}
variable {tA:TT}
theorem V9 (ha:QT X a tA):QW X (.BoolOp .And [a] pos) tA:=⟨pw_and1 ha.h⟩
end
section
variable {X:Cx}
variable {a b:Expr} {pos:Pos}
variable {tA tB':TT} {rest:List Expr}
theorem jT (ha:QT X a tA) (hb:QW X (.BoolOp .Or (b::rest) pos) tB'):QW X (.BoolOp .Or (a::b::rest) pos) (tOr tA tB'):=⟨pw_or ha.h hb.h⟩
end
section
variable {X:Cx}
variable {a:Expr} {pos:Pos}
variable {tA:TT}
theorem jL (ha:QT X a tA):QW X (.BoolOp .Or [a] pos) tA:=⟨pw_or1 ha.h⟩
end
section
variable {X:Cx}
variable {a:Expr} {pos:Pos}
variable {tA:TT}
theorem kq (ha:QT X a tA):QT X (.UnaryOp .Not a pos) (tNot tA):=⟨pt_not ha.h⟩
end
section
variable {X:Cx}
variable {pos:Pos}
theorem ko {e:Expr} {t:TE} (h:QE X e t) (he:∀whole,isTrue e X.env whole=(do let v <-whole; standAt e.pos; holding [v] (truthy v)):=by intro _; rfl):QT X e (tB t):=⟨pt_val h.h he⟩
end
section
variable {X:Cx}
theorem zw {j pos}:QE X (.Constant .none j pos) (tC .non):=⟨pe_non ⟩
end
section
variable {X:Cx}
theorem Vk {b j pos}:QE X (.Constant (.bool b) j pos) (tC (.bl b)):=⟨pe_bl ⟩
end
section
variable {X:Cx}
theorem qe {i j pos}:QE X (.Constant (.int i) j pos) (tC (.int i)):=⟨pe_int ⟩
end
section
variable {X:Cx}
theorem ql {x j pos}:QE X (.Constant (.str x) j pos) (tC (.str x)):=⟨pe_str ⟩
end
section
variable {X:Cx}
theorem qv (i:Nat) {x:Str} {pos:Pos} (hN:X.N[i]?=some x:=by rfl) (hv:Vis X.env.scope x:=by first|exact Or.inl rfl|exact Or.inr (Or.inl rfl)|exact Or.inr (Or.inr rfl)) (hd:(x==("__debug__" : Str))=false:=by decide) (hcd:(x==("__classdict__" : Str))=false:=by decide):QE X (.Name x pos) (tVar i):=⟨pv i hN hv hd hcd⟩
end
section
variable {X:Cx} {a:Expr} {ta:TE} {pos:Pos}
theorem qe_un {op:UnaryOp} {r:V->Hp->VK->Prop} (ho:UnR X (unaryOp op) r) (ha:QE X a ta):QE X (.UnaryOp op a pos) (tUn r ta):=⟨pe_un ho ha.h⟩
end
section
variable {X:Cx} {a b:Expr} {ta tb:TE} {pos:Pos}
theorem qw {op:Operator} {r:R2} (ho:OpR X (binaryOp op) r) (ha:QE X a ta) (hb:QE X b tb):QE X (.BinOp a op b pos) (tOp r ta tb):=⟨pe_op ho ha.h hb.h⟩
end
section
variable {X:Cx} {a b:Expr} {ta tb:TE} {pos:Pos}
theorem xm {op:CmpOp} {r:R2} (ho:OpR X (compareOp op) r) (ha:QE X a ta) (hb:QE X b tb) (hm:behindInMarks op b=false):QE X (.Compare a [op] [b] pos) (tOp r ta tb):=⟨pe_cmpR ho ha.h hb.h hm⟩
end
section
variable {X:Cx}
variable {a:Expr} {pos:Pos}
theorem Jo {op} {t:TE} (h:QE X a t):QE X (.BoolOp op [a] pos) t:=⟨pe_one h.h⟩
end
section
variable {X:Cx}
variable {a b:Expr} {ta tb:TE} {pos:Pos}
variable {rest:List Expr}
theorem Jq (ha:QE X a ta) (hb:QE X (.BoolOp .And (b::rest) pos) tb):QE X (.BoolOp .And (a::b::rest) pos) (Vc ta tb):=⟨pe_and ha.h hb.h⟩
end
section
variable {X:Cx}
variable {a b:Expr} {ta tb:TE} {pos:Pos}
variable {tA:TT}
theorem xB {c:Expr} (hc:QT X c tA) (ha:QE X a ta) (hb:QE X b tb):QE X (.IfExp c a b pos) (tIf tA ta tb):=⟨pe_ifExp hc.h ha.h hb.h⟩
end
section
variable {X:Cx} {es:List Expr} {t:TA} {pos:Pos}
theorem qZ (h:QA X es t):QE X (.List es pos) (tLst t):=⟨pe_lst h.h⟩
end
section
variable {X:Cx} {es:List Expr} {t:TA} {pos:Pos}
theorem zG {x1} (h:QA X es t):QE X (.Tuple es x1 pos) (tTup t):=⟨pe_tup h.h⟩
end
section
theorem qe_rev {X:Cx} {K:PySem.W.Frag} {e:Expr} {te:TE} {j:Nat} {p1 p2 p3 pos:Pos} (hK:X.K=K) (he:QE X e te):QE X (.Subscript e (.Slice none none (some (.UnaryOp .USub (.Constant (.int 1) j p1) p3)) p2) pos) (tRev K te):=⟨pe_rev hK he.h⟩
end
section
variable {X:Cx} {e:Expr} {te:TE} {lo hi:Option Expr} {tl th:TO} {pos p2:Pos}
theorem qE {r:V->Option Int->Option Int->Hp->VK->Prop} (hr:SlR X r) (he:QE X e te) (hl:QO X lo tl) (hu:QO X hi th):QE X (.Subscript e (.Slice lo hi none p2) pos) (tSl r te tl th):=⟨pe_slice hr he.h hl.h hu.h⟩
end
section
variable {X:Cx} {e:Expr} {te:TE}
theorem qG (h:QE X e te):QO X (some e) (Va te):=⟨Js h.h⟩
end
section
variable {X:Cx}
theorem qN  : QO X none xa:=⟨po_none ⟩
end
section
variable {X:Cx} {a b:Expr} {ta tb:TE} {pos:Pos}
theorem qD {r:R2} (hr:IxR X r) (ha:QE X a ta) (hb:QE X b tb) (hs:KZ b):QE X (.Subscript a b pos) (tOp r ta tb):=⟨pe_ix hr ha.h hb.h hs⟩
end
section
variable {X:Cx} {elt tg iter:Expr} {ifs:List Expr} {scope:Scope} {bs:List Bool} {ext:List Str} {pos:Pos} {wi:TI} {g:TG} {tt:TT} {te:TE}
theorem kr (bs:List Bool) (ext:List Str) (hi:QI X tg iter wi) (hg:∀fp s H,QG (cxB X scope ext fp s H) tg g) (ht:∀fp s H,QTs (cxB X scope ext fp s H) ifs tt) (he:∀fp s H,QE (cxB X scope ext fp s H) elt te) (hk:xr scope X.env X.N bs=true:=by rfl) (hc:X.calm=true:=by rfl) (hs:∀x,foldedSetIterable iter X.env x=pure x:=by intro _; rfl):QE X (.ListComp elt [⟨tg,iter,ifs,0⟩] scope pos) (ja wi bs ext.length g tt te):=⟨pe_lc bs ext hi.h (fun fp s H=>(hg fp s H).h) (fun fp s H=>(ht fp s H).h) (fun fp s H=>(he fp s H).h) hk hc hs⟩
end
section
variable {X:Cx} {x:Str} {k:Nat} {ps:List Str} {sp:Sp} {p pos:Pos} {e:Expr} {es:List Expr} {t:TA}
theorem qB (D:Def X.prog X.w X.K X.mg X.base x k ps sp) (hr:Room k X.A) (ha:QA X (e::es) t) (hg:Gl X x:=by rfl) (hdb:(x==("__debug__" : Str))=false:=by decide) (he:starEach (e::es) X.env=(false,eval e X.env)::starEach es X.env:=by rfl) (hpl:(backTo pos (starEach es X.env)).any (·.1)=false:=by rfl):QE X (.Call (.Name x p) (e::es) [] pos) (jo sp [] E0 t):=⟨pe_def D hr ha.h hg hdb he hpl⟩
end
section
variable {X:Cx} {x:Str} {p pos:Pos} {e:Expr} {es:List Expr} {t:TA} {id:String} {r:List V->Hp->VK->Prop}
theorem qr (hc:zK X (.builtin id) r) (hg:Gl X x) (hm:X.mg x=none) (hv:bootBuiltins x=some (.builtin id)) (ha:QA X (e::es) t) (hn:x ≠ "__name__" := by decide) (hdb:(x==("__debug__" : Str))=false:=by decide) (he:starEach (e::es) X.env=(false,eval e X.env)::starEach es X.env:=by rfl) (hpl:(backTo pos (starEach es X.env)).any (·.1)=false:=by rfl):QE X (.Call (.Name x p) (e::es) [] pos) (tCB r t):=⟨pe_callB hc hg hm hv ha.h hn hdb he hpl⟩
end
section
variable {X:Cx} {x:Str} {p pos:Pos} {e:Expr} {es:List Expr} {t:TA} {T:String} {r:List V->Hp->VK->Prop}
theorem vI (hc:zK X (.type T) r) (hg:Gl X x) (hm:X.mg x=none) (hv:bootBuiltins x=some (.type T)) (ha:QA X (e::es) t) (hn:x ≠ "__name__" := by decide) (hdb:(x==("__debug__" : Str))=false:=by decide) (he:starEach (e::es) X.env=(false,eval e X.env)::starEach es X.env:=by rfl) (hpl:(backTo pos (starEach es X.env)).any (·.1)=false:=by rfl):QE X (.Call (.Name x p) (e::es) [] pos) (tCB r t):=⟨Jx hc hg hm hv ha.h hn hdb he hpl⟩
end
section
variable {X:Cx}
theorem vV {x:Str} {v:V} {u:Value} {pos:Pos} (hg:Gl X x) (hm:X.mg x=none) (hv:bootBuiltins x=some u) (r:RelV v u) (hn:x ≠ "__name__" := by decide) (hd:(x==("__debug__" : Str))=false:=by decide):QE X (.Name x pos) (tC v):=⟨pe_bltn hg hm hv r hn hd⟩
end
section
variable {X:Cx}
variable {o e:Expr} {es:List Expr} {to:TE} {t:TA} {name:Str} {apos cpos:Pos} {T id:String} {r:V->List V->Hp->VK->Prop}
theorem xJ (pa:PlainAttrs T) (slot:Slot T name id) (hty:typeOf (.builtin id)=pure (.type "method_descriptor")) (hm:MtR X id r) (ho:QE X o to) (ha:QA X (e::es) t) (hbase:attributeBase o name X.env (eval o X.env)=eval o X.env:=by rfl) (hfew:((backTo cpos (starEach (e::es) X.env)).all (fun x => !x.1)&&(backToKw cpos (keywordEach [] X.env)).all (fun x=>x.1.isSome)
   && decide ((e::es).length+([]:List Keyword).length+(if([]:List Keyword).isEmpty then 0 else 1)<30))=true:=by rfl) (hline:(apos.endLine==cpos.line)=true:=by rfl) (hs:starEach (e::es) X.env=(false,eval e X.env)::starEach es X.env:=by rfl) (hplain:(backTo cpos (starEach es X.env)).any (·.1)=false:=by rfl):QE X (.Call (.Attribute o name apos) (e::es) [] cpos) (tBM X.K T r to t):=⟨pe_bm pa slot hty hm ho.h ha.h hbase hfew hline hs hplain⟩
end
section
variable {X:Cx}
variable {o:Expr} {to:TE} {name:Str} {apos cpos:Pos} {T id:String} {r:V->List V->Hp->VK->Prop}
theorem qe_bm0 (pa:PlainAttrs T) (slot:Slot T name id) (hty:typeOf (.builtin id)=pure (.type "method_descriptor")) (hm:MtR X id r) (ho:QE X o to) (hbase:attributeBase o name X.env (eval o X.env)=eval o X.env:=by rfl) (hline:(apos.endLine==cpos.line)=true:=by rfl):QE X (.Call (.Attribute o name apos) [] [] cpos) (tBM0 X.K T r to):=⟨pe_bm0 pa slot hty hm ho.h hbase hline⟩
end
section
variable {X:Cx}
theorem Zb {o e:Expr} {es:List Expr} {to:TE} {t:TA} {name:Str} {apos cpos:Pos} {id:String} {r:V->List V->Hp->VK->Prop} (slot:Slot "list" name id) (hty:typeOf (.builtin id)=pure (.type "method_descriptor")) (hm:MtR X id r) (ho:QE X o to) (ha:QA X (e::es) t) (hbase:attributeBase o name X.env (eval o X.env)=eval o X.env:=by rfl) (hfew:((backTo cpos (starEach (e::es) X.env)).all (fun x => !x.1)&&(backToKw cpos (keywordEach [] X.env)).all (fun x=>x.1.isSome)
   && decide ((e::es).length+([]:List Keyword).length+(if([]:List Keyword).isEmpty then 0 else 1)<30))=true:=by rfl) (hline:(apos.endLine==cpos.line)=true:=by rfl) (hs:starEach (e::es) X.env=(false,eval e X.env)::starEach es X.env:=by rfl) (hplain:(backTo cpos (starEach es X.env)).any (·.1)=false:=by rfl):QE X (.Call (.Attribute o name apos) (e::es) [] cpos) (tLM r to t):=⟨pe_lm slot hty hm ho.h ha.h hbase hfew hline hs hplain⟩
end
section
theorem Zc {X:Cx} {x:Str} {n:Int} {pos:Pos} (G:GInt X.mg x n) (hg:Gl X x) (hd:(x==("__debug__" : Str))=false:=by decide):QE X (.Name x pos) (tC (.int n)):=⟨pe_gint G hg hd⟩
end
section
variable {X:Cx} {pos:Pos}
theorem js {x:Str} {v:V} {u:Value} {pos:Pos} (hg:Gl X x) (hm:X.mg x=some u) (r:RelV v u) (hd:(x==("__debug__" : Str))=false:=by decide):QE X (.Name x pos) (tC v):=⟨Ze hg hm r hd⟩
end
def Obk (h h':Heap):Prop:=∀(b:Nat) (o:Obj),h.objs[b]?=some o->∃o',h'.objs[b]?=some o'/\o'.dict=o.dict
theorem Obk.refl (h:Heap):Obk h h:=fun b o e=>⟨o,e,rfl⟩
theorem Obk.trans {h h' h'':Heap} (x:Obk h h') (y:Obk h' h''):Obk h h'':=fun b o e=>by
 obtain⟨o',e',d'⟩:=x b o e
 obtain⟨o2,e2,d2⟩:=y b o' e'
 exact⟨o2,e2,d2.trans d'⟩
theorem Obk.push (h:Heap) (o:Obj):Obk h (h.push o):=fun b u e=>⟨u,by
 have hb:b<h.objs.size:=(Array.getElem?_eq_some_iff.mp e).1
 cases h
 simp only[Heap.push] at e hb ⊢
 rw[Array.getElem?_push,if_neg (Nat.ne_of_lt hb)]; exact e,rfl⟩
theorem Obk.update (h:Heap) (a:Addr) {f:Obj->Obj} (hf:∀o,(f o).dict=o.dict):Obk h (h.update a f):=fun b u e=>by
 cases h
 simp only[Heap.update] at e ⊢
 rw[Array.getElem?_modify]
 split
 ·exact⟨f u,by rw[e]; rfl,hf u⟩
 ·exact⟨u,e,rfl⟩
theorem Obk.get {h h':Heap} {a d:Addr} {o o':Obj} (x:Obk h h') (e:h.get? a=some o) (e':h'.get? a=some o'):o'.dict=o.dict:=by
 obtain⟨u,eu,du⟩:=x a o (Heap.get?_some_iff.mp e).1
 rw[(Heap.get?_some_iff.mp e').1] at eu
 cases eu
 exact du
def DK {α:Type}:Sem α->Prop
 |.pure _=>True
 |.raise _=>True
 |.unsupported _=>True
 |.finish _=>True
 |.rule _ k=>DK (k ())
 |.at _ k=>DK (k ())
 |.load _ _ k=>∀o,DK (k o)
 |.update _ _ f k=>(∀o,(f o).dict=o.dict)/\DK (k ())
 |.alloc _ k=>∀a,DK (k a)
 |.loadIfAlive _ k=>∀o,DK (k o)
 |.point _ k=>DK (k ())
 |.register _ _=>True
 |.fresh k=>∀t,DK (k t)
 |.ask k=>∀x,DK (k x)
 |.choose _ _ k=>∀n,DK (k n)
 |.os _ _ k=>∀r,DK (k r)
 |.call _ _ _ _ _=>False
 |.handled _ k=>∀x,DK (k x)
 |.newGen _ k=>∀n,DK (k n)
 |.genState _ k=>∀x,DK (k x)
 |.resume _ _ _ _=>False
 |.yield _ _ _ _=>True
 |.stack k=>∀l,DK (k l)
 |.fork _ _=>True
 |.thread k=>∀n,DK (k n)
 |.await _ _ _ _ _=>True
theorem DK.wp {α:Type} {M:Model} {Γ:PySem.Ctx}:∀{t:Sem α} {Q:α->Pos->Shared->Prop} {E:Value->Pos->Shared->Prop} {p:Pos} {s:Shared},DK t->Sem.wp M Γ t Q E p s ->
  Sem.wp M Γ t (fun a p' s'=>Q a p' s'/\Obk s.heap s'.heap) (fun e p' s'=>E e p' s'/\Obk s.heap s'.heap) p s:=by
 intro t
 induction t with
 |pure a=>intro Q E p s _ h; rw[Sem.wp] at h ⊢; exact⟨h, .refl _⟩
 |raise e=>intro Q E p s _ h; rw[Sem.wp] at h ⊢; exact⟨h, .refl _⟩
 |unsupported x=>intro Q E p s _ h; rw[Sem.wp] at h; exact h.elim
 |finish x=>intro Q E p s _ h; rw[Sem.wp] at h; exact h.elim
 |rule x k ih=>intro Q E p s d h; rw[Sem.wp] at h ⊢; exact ih () d h
 | «at» x k ih=>intro Q E p s d h; rw[Sem.wp] at h ⊢; exact ih () d h
 |load a x k ih=>intro Q E p s d h; rw[Sem.wp] at h ⊢; obtain⟨o,e,h⟩:=h; exact⟨o,e,ih o (d o) h⟩
 |update a x f k ih =>
  intro Q E p s d h; rw[Sem.wp] at h ⊢
  refine⟨h.1,Sem.wp_mono M Γ _ (fun a p' s' z=>⟨z.1,(Obk.update _ _ d.1).trans z.2⟩) (fun a p' s' z=>⟨z.1,(Obk.update _ _ d.1).trans z.2⟩) _ _ (ih () d.2 h.2)⟩
 |alloc o k ih =>
  intro Q E p s d h; rw[Sem.wp] at h ⊢
  exact Sem.wp_mono M Γ _ (fun a p' s' z=>⟨z.1,(Obk.push _ _).trans z.2⟩) (fun a p' s' z=>⟨z.1,(Obk.push _ _).trans z.2⟩) _ _ (ih _ (d _) h)
 |loadIfAlive a k ih=>intro Q E p s d h; rw[Sem.wp] at h ⊢; exact ih _ (d _) h
 |point x k ih=>intro Q E p s d h; rw[Sem.wp] at h ⊢; exact ih () d h
 |register a k ih=>intro Q E p s d h; rw[Sem.wp] at h; exact h.elim
 |fresh k ih=>intro Q E p s d h; rw[Sem.wp] at h ⊢; exact ih _ (d _) h
 |ask k ih=>intro Q E p s d h; rw[Sem.wp] at h ⊢; exact ih _ (d _) h
 |choose x n k ih=>intro Q E p s d h; rw[Sem.wp] at h ⊢; exact⟨h.1,ih _ (d _) h.2⟩
 |os q l k ih=>intro Q E p s d h; rw[Sem.wp] at h ⊢; exact ih _ (d _) h
 |call c x g l k ih=>intro Q E p s d h; exact d.elim
 |handled x k ih=>intro Q E p s d h; rw[Sem.wp] at h ⊢; exact ih _ (d _) h
 |newGen c k ih=>intro Q E p s d h; rw[Sem.wp] at h ⊢; exact ih _ (d _) h
 |genState g k ih=>intro Q E p s d h; rw[Sem.wp] at h ⊢; obtain⟨o,e,h⟩:=h; exact⟨o,e,ih _ (d _) h⟩
 |resume g r l k ih=>intro Q E p s d h; exact d.elim
 |yield v g l k ih=>intro Q E p s d h; rw[Sem.wp] at h; exact h.elim
 |stack k ih=>intro Q E p s d h; rw[Sem.wp] at h ⊢; exact ih _ (d _) h
 |fork c k ih=>intro Q E p s d h; rw[Sem.wp] at h; exact h.elim
 |thread k ih=>intro Q E p s d h; rw[Sem.wp] at h ⊢; exact ih _ (d _) h
 |await a f b l k ih=>intro Q E p s d h; rw[Sem.wp] at h; exact h.elim
theorem DK.any {α:Type} {M:Model} {A:Around} {t:Sem α} {Q:α->Shared->Prop} {E:Value->Shared->Prop} {s:Shared} (d:DK t) (h:wpAny M A t Q E s) :
  wpAny M A t (fun a s'=>Q a s'/\Obk s.heap s'.heap) (fun e s'=>E e s'/\Obk s.heap s'.heap) s:=fun Γ p hΓ=>DK.wp d (h Γ p hΓ)
theorem DK.bind {α β:Type} {f:α->Sem β}:∀{m:Sem α},DK m->(∀a,DK (f a))->DK (m >>= f):=by
 intro m
 show DK m->_->DK (m.bind f)
 induction m with
 |pure a=>intro _ h; exact h a
 |update a x g k ih=>intro d h; exact⟨d.1,ih () d.2 h⟩
 |raise e=>intro _ _; trivial
 |unsupported x=>intro _ _; trivial
 |finish x=>intro _ _; trivial
 |rule x k ih=>intro d h; exact ih () d h
 | «at» x k ih=>intro d h; exact ih () d h
 |load a x k ih=>intro d h o; exact ih o (d o) h
 |alloc o k ih=>intro d h o; exact ih o (d o) h
 |loadIfAlive a k ih=>intro d h o; exact ih o (d o) h
 |point x k ih=>intro d h; exact ih () d h
 |register a k ih=>intro _ _; trivial
 |fresh k ih=>intro d h o; exact ih o (d o) h
 |ask k ih=>intro d h o; exact ih o (d o) h
 |choose x n k ih=>intro d h o; exact ih o (d o) h
 |os q l k ih=>intro d h o; exact ih o (d o) h
 |call c x g l k ih=>intro d h; exact d.elim
 |handled x k ih=>intro d h o; exact ih o (d o) h
 |newGen c k ih=>intro d h o; exact ih o (d o) h
 |genState g k ih=>intro d h o; exact ih o (d o) h
 |resume g r l k ih=>intro d h; exact d.elim
 |yield v g l k ih=>intro _ _; trivial
 |stack k ih=>intro d h o; exact ih o (d o) h
 |fork c k ih=>intro _ _; trivial
 |thread k ih=>intro d h o; exact ih o (d o) h
 |await a f b l k ih=>intro _ _; trivial
theorem Zu (a:Addr):DK (load a):=fun _=>trivial
theorem dk_stack:DK stack:=fun _=>trivial
theorem VC (a:Addr) {f:Obj->Obj} (h:∀o,(f o).dict=o.dict):DK (update a f):=⟨h,trivial⟩
theorem VE (f:Array Value->Array Value) (o:Obj):(Obj.mapFields f o).dict=o.dict:=by
 unfold Obj.mapFields
 split<;>rfl
theorem Zv (v:Value):DK (fieldsOf v):=by
 unfold fieldsOf
 split
 ·refine(Zu _).bind fun o=>?_
  split<;>trivial
 ·trivial
theorem j8 (v:Value) (i:Nat):DK (field v i):=by
 unfold field
 refine(Zv v).bind fun o=>?_
 split<;>trivial
theorem xS (v:Value) (i:Nat) (x:Value):DK (setField v i x):=by
 unfold setField
 split
 ·unfold updateField
  refine(Zu _).bind fun o=>?_
  split
  ·split
   ·exact VC _ (VE _)
   ·trivial
  ·trivial
 ·trivial
theorem xp (e:Value) (f:Option Addr):DK (setFlight e f):=by
 unfold setFlight
 refine(j8 _ _).bind fun o=>?_
 split
 ·exact xS _ _ _
 ·trivial
theorem VD (ty:String) (vs:List Value):DK (newFields ty vs):=by
 unfold newFields newObj
 dsimp only
 split
 ·trivial
 ·unfold newObjAsIs
  exact fun a=>trivial
theorem Kx (env:Env) (l:List Env):DK (behindIsImport env l):=by
 unfold behindIsImport
 split
 ·trivial
 ·split
  ·trivial
  ·exact(j8 _ _).bind fun _=>trivial
theorem dk_kept (env:Env) (b:Bool) (l:List Env):DK (keptBack env b l):=by
 unfold keptBack
 split
 ·split
  ·trivial
  ·unfold underTheClaimsCaller
   exact DK.bind (dk_stack.bind fun _=>trivial) fun _=>trivial
 ·trivial
theorem Xf:∀l:List Env,DK (readyFrames l)
 | []=>by unfold readyFrames; trivial
 |env::outer=>by
  unfold readyFrames
  split
  ·refine(Zu _).bind fun o=>?_
   split
   ·trivial
   ·refine(Kx _ _).bind fun _=>(dk_kept _ _ _).bind fun _=>DK.bind ?_ fun _=>Xf outer
    exact VC _ fun o=>rfl
  ·trivial
theorem XO (env:Env):DK (PySem.frameOf env):=by
 unfold PySem.frameOf frameEnvs
 refine DK.bind (dk_stack.bind fun _=>trivial) fun l=>DK.bind ?_ fun x=>?_
 ·unfold frameObject
  split
  ·trivial
  ·exact(Xf _).bind fun _=>trivial
 ·split<;>trivial
theorem dk_place (f:Addr) (b:Bool):DK (entryPlaceOf f b):=by
 unfold entryPlaceOf
 refine dk_stack.bind fun l=>?_
 split<;>trivial
theorem Zt (e:Value) (env:Env):DK (noteFrame e env):=by
 unfold noteFrame
 have k:∀f head,DK (do setField e 1 (<-EntryCells.newEntry head (<-PySem.frameOf env) .none (rawInt f) .none (<-entryPlaceOf f (head != .none))):Sem Unit):=fun f head =>
  (XO _).bind fun _=>(dk_place _ _).bind fun _=>DK.bind (by unfold EntryCells.newEntry; exact VD _ _) fun _=>xS _ _ _
 split
 ·refine(j8 _ _).bind fun head=>?_
  split
  ·refine(j8 _ _).bind fun _=>?_
   split
   ·trivial
   ·exact(xS _ _ _).bind fun _=>k _ _
  ·exact k _ _
 ·trivial
theorem jA (env:Env) (e:Value):DK (leaving env e):=by
 unfold leaving
 exact(Zt _ _).bind fun _=>xp _ _
end L2
namespace PySem.W
section
variable {C:Addr}
abbrev excOb (C:Addr) (d:Option Addr) (t:Addr):Obj:={ cls:=.ref C,dict:=d,data:=.fields #[.ref t, .none, .none, .none, .bool false, .none] }
end
end PySem.W
namespace L2
open PySem PySem.Spec PyProof.Rows
def ExcAt (a C:Addr) (d:Option Addr):Heap->Prop:=fun h=>∃t,h.get? a=some (PySem.W.excOb C d t)
abbrev excO (a C:Addr) (d:Option Addr):HO:=.ext (ExcAt a C d)
theorem excO_ok {P:Program} {w:World} {H:Hp} {h:Heap} {a C:Addr} {d:Option Addr} {t:Addr} (e:h.get? a=some (PySem.W.excOb C d t)):ObjOk P w H h a (excO a C d) :=
 ⟨⟨t,e⟩,⟨_,e⟩,fun h1 h2 ⟨t',e'⟩ k=>⟨t',k _ e'⟩⟩
theorem excO_get {P:Program} {w:World} {H:Hp} {h:Heap} {a C:Addr} {d:Option Addr} (x:HOk P w H h) (e:H a=some (excO a C d)):∃t,h.get? a=some (PySem.W.excOb C d t):=(x a _ e).1
section
variable {P:Program} {w:World} {H:Hp} {h h':Heap}
theorem HOk.tracked (x:HOk P w H h) (k:∀b u,H b≠none->h.get? b=some u->h'.get? b=some u):HOk P w H h':=fun a o e =>
 (x a o e).stay (fun b u hb q=>k b u (hb.elim (fun z=>by rw[z,e]; simp) fun z=>by rw[z]; simp) q) (fun _ q=>q) fun _ _ q=>q
end
structure Fli (P:Program) (w:World) (outer:List Env) (H:Hp) (s:Shared) (a:Addr) (C:Value) (d:Option Addr) (H':Hp) (s':Shared):Prop where
 own:∀o,s'.heap.get? a=some o->o.dict=d
 os:s'.os=s.os
 bare:AllBare s'.gens
 fly:∃(B:Heap) (a0:Value),Heap.FlyingW B outer a C a0 s'.heap/\HOk P w H' B/\(∀b∈frs outer,B.get? b=none)/\(∀b o,s.heap.get? b=some o->H b=none->b∉frs outer->B.get? b=some o) /\
  ∀b o,s.heap.get? b=some o->H b≠none->∃o',B.get? b=some o'
 up:∀b o,s.heap.get? b=some o->H b=none->b∈frs outer->∃sl,s'.heap.get? b=some { o with slots:=sl }
 free:∀b o,s.heap.get? b=some o->H b=none->H' b=none
 tups:∀b xs,H b=some (.tup xs)->H' b=some (.tup xs)
 frzs:∀b o u,H b=some (.frz o u)->H' b=some (.frz o u)
 tbls:∀b ps,H b=some (.tbl ps)->∃more,H' b=some (.tbl (ps++more))
def CXe (P:Program) (w:World):CXT:=fun outer H s E e s'=>∃a C d H',e=.ref a/\Fli P w outer H s a C d H' s'/\E C d H'
theorem CXe.mono {P:Program} {w:World} {outer:List Env} {H:Hp} {s s':Shared} {E E':XK} {e:Value} (h:CXe P w outer H s E e s') (k:∀C d H',E C d H'->E' C d H'):CXe P w outer H s E' e s':=by
 obtain⟨a,C,d,H',e1,f,q⟩:=h
 exact⟨a,C,d,H',e1,f,k C d H' q⟩
structure Body (X:Cx) (outer:List Env):Prop where
 stk:X.stack=X.env::outer
 out:X.outer=outer
 fr:X.env.frame=some X.env.locals
 ex:X.ex=[]
section
variable {X:Cx} {outer:List Env} {pins:List (Addr×Obj)} {σ:St} {H:Hp} {s:Shared}
theorem Inv.old (I:Inv X pins σ H s) {b:Addr} {o:Obj} (q:X.s₀.heap.get? b=some o):b≠X.env.locals:=fun z=>by
 subst z
 exact absurd (Heap.lt_size q) (Nat.not_lt.mpr I.ok.above)
theorem Body.mem (Y:Body X outer) {b:Addr} (hb:b∈frs X.stack):b=X.env.locals\/b∈frs outer:=by
 rw[Y.stk] at hb
 obtain⟨env,he,hf⟩:=List.mem_filterMap.mp hb
 rcases List.mem_cons.mp he with rfl|he
 ·rw[Y.fr] at hf; exact .inl (Option.some.inj hf).symm
 ·exact .inr (List.mem_filterMap.mpr ⟨env,he,hf⟩)
theorem Body.in_ (Y:Body X outer) {b:Addr} (hb:b∈frs outer):b∈frs X.stack:=by
 rw[Y.stk]
 obtain⟨env,he,hf⟩:=List.mem_filterMap.mp hb
 exact List.mem_filterMap.mpr ⟨env, .tail _ he,hf⟩
def untr (H:Hp) (a:Addr):Hp:=fun b=>if b=a then none else H b
theorem jl {H:Hp} {a b:Addr} (h:b≠a):untr H a b=H b:=by unfold untr; rw[if_neg h]
theorem XY {H:Hp} {a:Addr}:untr H a a=none:=by unfold untr; rw[if_pos rfl]
theorem HOk.untr {P:Program} {w:World} {H:Hp} {h h':Heap} {a:Addr} {φ:Heap->Prop} (x:HOk P w H h) (ea:H a=some (.ext φ)) (k:∀b u,b≠a->H b≠none->h.get? b=some u->h'.get? b=some u):HOk P w (untr H a) h':=fun b o e=>by
 have hb:b≠a:=fun z=>by rw[z,XY] at e; cases e
 rw[jl hb] at e
 refine(x b o e).stay (fun c u hc q=>?_) (fun c hc=>?_) fun c xs hc=>?_
 ·rcases hc with rfl|hc
  ·exact k _ u hb (by rw[e]; simp) q
  ·exact k c u (fun z=>by rw[z,ea] at hc; cases hc) (by rw[hc]; simp) q
 ·rw[jl fun z=>by rw[z,ea] at hc; cases hc]; exact hc
 ·rw[jl fun z=>by rw[z,ea] at hc; cases hc]; exact hc
theorem kz (Y:Body X outer) (I:Inv X pins σ H s) {e C:Addr} {d:Option Addr} {E:XK} {R:Value->Shared->Prop} {M:Model} {A:Around} (hA:A.frames=some X.stack) (hx:H e=some (excO e C d)) (he0:X.s₀.heap.get? e=none) (hE:E (.ref C) d (untr H e)) :
  wpAny M A (leaving X.env (.ref e)) (fun _ s''=>CXe X.prog X.w outer X.H₀ X.s₀ E (.ref e) s'') R s:=by
 obtain⟨t0,hge⟩:=excO_get I.hok hx
 have hin:∀env∈X.stack,∀b,env.frame=some b->b∈e::frs X.stack:=fun env he b hb=>.tail _ (List.mem_filterMap.mpr ⟨env,he,hb⟩)
 have hl:s.heap.FunFrames (PySem.W.hideAll s.heap (e::frs X.stack)) X.stack:=PySem.W.funFrames_hide I.stack hin
 rw[Y.stk] at hA
 have ob:∀b o,X.s₀.heap.get? b=some o->b∉frs outer->b∉e::frs X.stack:=fun b o q n z=>by
  rcases List.mem_cons.mp z with rfl|z
  ·rw[he0] at q; cases q
  ·rcases Y.mem z with z|z
   ·exact I.old q z
   ·exact n z
 have nx:∀b,b∉X.ex:=fun b=>by rw[Y.ex]; simp
 have fs:∀b,b∈frs outer↔b∈X.fs:=fun b=>by show _↔b∈frs X.outer; rw[Y.out]
 refine wpAny_mono (DK.any (jA _ _) (wpAny_leaving_firstW (base:=PySem.W.hideAll s.heap (e::frs X.stack)) hA (by rw[<-Y.stk]; exact hl) Y.fr hge (fun b o q=>PySem.W.of_hideAll _ q) (PySem.W.hideAll_none _ (.head _)) rfl rfl rfl (Q:=fun _ s'=>Heap.LeftW (PySem.W.hideAll s.heap (e::frs X.stack)) (X.env::outer) e (.ref C) (.ref t0) s.heap s'.heap/\∃h',s'={ s with heap:=h' }) fun h' q=>⟨q,h',rfl⟩)) (fun _ s' q=>?_) fun _ _ q=>q.1
 obtain⟨⟨⟨k1,⟨_,_,k2⟩,k3,k4⟩,h',rfl⟩,kd⟩:=q
 refine⟨e, .ref C,d,untr H e,rfl,⟨?_,I.os,I.bare,⟨_, .ref t0,⟨k1,PySem.W.hideAll_none _ (.head _),k2,k3⟩, ?_, ?_, ?_, ?_⟩, ?_, ?_, ?_, ?_, ?_⟩,hE⟩
 ·exact fun o q=>(kd.get (d:=0) hge q)
 ·exact I.hok.untr hx fun b u hb hb0 q=>PySem.W.hideAll_get _ q fun hm=>by
   rcases List.mem_cons.mp hm with z|hm
   ·exact hb z
   ·exact hb0 (I.stkFree b hm)
 ·exact fun b hb=>PySem.W.hideAll_none _ (.tail _ (Y.in_ hb))
 ·exact fun b o q n hb=>PySem.W.hideAll_get _ (I.base.keep b o q n (fun z=>hb ((fs b).mpr z)) (nx b)) (ob b o q hb)
 ·intro b o q n
  obtain⟨o',e1⟩:=I.base.there b o q (nx b)
  refine⟨o',PySem.W.hideAll_get _ e1 (ob b o q fun z=>n (I.ok.frf b ((fs b).mp z)))⟩
 ·intro b o q n hb
  obtain⟨sl,e1⟩:=I.base.slot b o q n ((fs b).mp hb) (nx b)
  obtain⟨_,o',ho',hd⟩:=I.ok.funs.mem (show b∈X.outer.filterMap (·.frame) from(fs b).mp hb)
  rw[q] at ho'; cases ho'
  obtain⟨sl2,e2⟩:=k4 b _ e1 hd
  exact⟨sl2,e2⟩
 ·intro b o q n
  have:=I.base.free b o q n (nx b)
  unfold untr
  split
  ·rfl
  ·exact this
 ·intro b xs q
  have:=I.base.tups b xs q
  rw[jl fun z=>by rw[z,hx] at this; cases this]; exact this
 ·intro b o u q
  have:=I.base.frzs b o u q
  rw[jl fun z=>by rw[z,hx] at this; cases this]; exact this
 ·intro b ps q
  obtain⟨m,this⟩:=I.base.tbls b ps q
  exact⟨m,by rw[jl fun z=>by rw[z,hx] at this; cases this]; exact this⟩
theorem Vn (Y:Body X outer) (I:Inv X pins σ H s) {e:Value} {s':Shared} {E:XK} {R:Value->Shared->Prop} {M:Model} {A:Around} (hA:A.frames=some X.stack) (hx:CXe X.prog X.w X.stack H s E e s') :
  wpAny M A (leaving X.env e) (fun _ s''=>CXe X.prog X.w outer X.H₀ X.s₀ E e s'') R s':=by
 obtain⟨a,C,d,H',rfl,F,hE⟩:=hx
 obtain⟨B,a0,fl,hok,nb,kp,th⟩:=F.fly
 have ob:∀b o,X.s₀.heap.get? b=some o->b∉frs outer->b∉frs X.stack:=fun b o q n z=>by
  rcases Y.mem z with z|z
  ·exact I.old q z
  ·exact n z
 have nx:∀b,b∉X.ex:=fun b=>by rw[Y.ex]; simp
 have fs:∀b,b∈frs outer↔b∈X.fs:=fun b=>by show _↔b∈frs X.outer; rw[Y.out]
 rw[Y.stk] at hA fl
 refine wpAny_mono (DK.any (jA _ _) (wpAny_leaves_onW hA Y.fr fl (Q:=fun _ s2=>(Heap.FlyingW B outer a C a0 s2.heap/\s'.heap.UpToSlots s2.heap)/\∃h',s2={ s' with heap:=h' }) fun h' x1 x4=>⟨⟨x1,x4⟩,h',rfl⟩)) (fun _ s2 z=>?_) fun _ _ q=>q.1
 obtain⟨⟨⟨x1,x4⟩,h',rfl⟩,kd⟩:=z
 refine⟨a,C,d,H',rfl,⟨?_,F.os.trans I.os,F.bare,⟨B,a0,x1,hok,fun b hb=>nb b (Y.in_ hb), ?_, ?_⟩, ?_, ?_,fun b xs q=>F.tups b xs (I.base.tups b xs q),fun b o u q=>F.frzs b o u (I.base.frzs b o u q), ?_⟩,hE⟩
 ·obtain⟨o1,e1,_⟩:=fl.there
  exact fun o q=>(kd.get (d:=0) e1 q).trans (F.own o1 e1)
 ·exact fun b o q n hb=>kp b o (I.base.keep b o q n (fun z=>hb ((fs b).mpr z)) (nx b)) (I.base.free b o q n (nx b)) (ob b o q hb)
 ·intro b o q n
  obtain⟨o',e1⟩:=I.base.there b o q (nx b)
  cases hb:H b with
  |none=>exact⟨o',kp b o' e1 hb (ob b o q fun z=>n (I.ok.frf b ((fs b).mp z)))⟩
  |some u=>exact th b o' e1 (by rw[hb]; simp)
 ·intro b o q n hb
  obtain⟨sl,e1⟩:=I.base.slot b o q n ((fs b).mp hb) (nx b)
  obtain⟨sl',e2⟩:=F.up b _ e1 (I.base.free b o q n (nx b)) (Y.in_ hb)
  obtain⟨_,o',ho',hd⟩:=I.ok.funs.mem (show b∈X.outer.filterMap (·.frame) from(fs b).mp hb)
  rw[q] at ho'; cases ho'
  obtain⟨sl2,e3⟩:=x4 b _ e2 hd
  exact⟨sl2,e3⟩
 ·intro b o q n
  obtain⟨o',e1⟩:=I.base.there b o q (nx b)
  exact F.free b o' e1 (I.base.free b o q n (nx b))
 ·intro b ps q
  obtain⟨m1,e1⟩:=I.base.tbls b ps q
  obtain⟨m2,e2⟩:=F.tbls b _ e1
  exact⟨m1++m2,by rw[e2,Array.append_assoc]⟩
end
def pV:Option Int->V
 |none=>.non
 |some n=>.int n
theorem pV_inj {p q:Option Int} (h:pV p=pV q):p=q:=by
 cases p<;>cases q<;>first|rfl|cases h
 rfl
def PartIs (d:Option Addr) (H:Hp):Option Int->Prop
 |none=>d=none
 |some n=>∃x,d=some x/\H x=some (.xd [("part", .int n)])
def EX (mg:Str->Option Value) (D:Ends) (σ:St):XK:=fun C d H'=>∃nm p,mg nm=some C/\PartIs d H' p/\D.bk (some (.str nm)::some (pV p)::σ) H'
def Cmp (X:Cx) (E:XK) (σ:St):Prop:=∀pins H s e s',Inv X pins σ H s->CXe X.prog X.w X.stack H s E e s'->X.xe e s'
def CmpD (r:Prop) (X:Cx) (D:Ends):Prop:=(∀σ,Cmp X (EX X.mg D σ) σ)/\(r->∀pins σ H s e C d,Inv X pins σ H s->H e=some (excO e C d)->X.s₀.heap.get? e=none->EX X.mg D σ (.ref C) d (untr H e)->X.xe (.ref e) s)
structure QX (r:Prop) (X:Cx) (st:Stmt) (t:TS):Prop where
 h:∀pins s σ H D,CmpD r X D->Inv X pins σ H s->t D σ H->wpAny (model X.prog X.w) X.A (exec st X.env) (SP X pins D) X.xe s
structure QXs (r:Prop) (X:Cx) (st:List Stmt) (t:TS):Prop where
 h:∀pins s σ H D,CmpD r X D->Inv X pins σ H s->t D σ H->wpAny (model X.prog X.w) X.A (execs st X.env) (SP X pins D) X.xe s
abbrev TX:=St->Hp->VK->XK->Prop
structure QXe (X:Cx) (e:Expr) (t:TX):Prop where
 h:∀pins s σ H Q E,Cmp X E σ->Inv X pins σ H s->t σ H Q E->wpAny (model X.prog X.w) X.A (eval e X.env) (EP X pins σ Q) X.xe s
section
variable {r:Prop} {X:Cx} {st:Stmt} {rest:List Stmt} {t u:TS} {e:Expr} {tx:TX} {pos:Pos}
theorem zu (h1:QX r X st t) (h2:QXs r X rest u):QXs r X (st::rest) (tSeq t u):=⟨fun pins s σ H D c I h=>by
 refine wpAny_execs_cons (thn (h1.h pins s σ H { D with nx:=u D } c I h) fun f s1 q=>?_)
 cases f with
 |next =>
  obtain⟨σ',H',I',q⟩:=q
  exact h2.h pins s1 σ' H' D c I' q
 |ret v=>exact q
 |brk=>exact q
 |cont=>exact q⟩
theorem xQ:QXs r X [] Qj:=⟨fun pins s σ H D c I h=>wpAny_execs_nil ⟨σ,H,I,h⟩⟩
theorem vU (h1:QX r X st t):QXs r X [st] t:=⟨fun pins s σ H D c I h=>by
 refine wpAny_execs_cons (thn (h1.h pins s σ H D c I h) fun f s1 q=>?_)
 cases f with
 |next=>exact wpAny_execs_nil q
 |ret v=>exact q
 |brk=>exact q
 |cont=>exact q⟩
theorem Vj (h:QS X.nox st t):QX r X st t:=⟨fun pins s σ H D _ I q=>wpAny_mono (h.h pins s σ H D (I.wish _) q) (fun _ _ z=>z.unwish) fun _ _ z=>False.elim z⟩
theorem V8 {c:Expr} {a b:List Stmt} {tc:TT} (hc:QT X.nox c tc) (ha:QXs r X a t) (hb:QXs r X b u):QX r X (.If c a b pos) (tIfS tc t u):=⟨fun pins s σ H D k I h=>by
 refine wpAny_If (thn (hc.h.nox pins s σ H _ I h) fun d s1 ⟨H1,I1,q1⟩=>?_)
 cases d with
 |true=>exact ha.h pins s1 σ H1 D k I1 q1
 |false=>exact hb.h pins s1 σ H1 D k I1 q1⟩
def tRetX (tx:TX) (mg:Str->Option Value):TS:=fun D σ H=>tx σ H D.rt (EX mg D σ)
theorem qx_ret (he:QXe X e tx):QX r X (.Return (some e) pos) (tRetX tx X.mg):=⟨fun pins s σ H D k I h =>
 wpAny_Return_some (thn (he.h pins s σ H _ _ (k.1 σ) I h) fun v s1 ⟨x,H1,I1,r1,q1⟩=>⟨x,σ,H1,I1,r1,q1⟩)⟩
def tSetX (i:Nat) (tx:TX) (mg:Str->Option Value):TS:=fun D σ H=>tx σ H (fun v H1=>D.nx (σ.set i (some v)) H1) (EX mg D σ)
theorem qx_set {i:Nat} {x:Str} {pos':Pos} (hN:X.N.Nodup) (hi:X.N[i]?=some x) (hx:Loc X.env.scope x) (he:QXe X e tx) (hs:swapsWith e (some (.Name x pos')) pos.line X.env=pure false:=by rfl) (hf:X.fn x=true\/X.env.scope.names.lookup x=some .local:=by first|exact .inl rfl|exact .inr rfl|assumption) :
  QX r X (.Assign [.Name x pos'] e pos) (tSetX i tx X.mg):=⟨fun pins s σ H D k I h=>by
 refine wpAny_Assign_Name (thn (he.h pins s σ H _ _ (k.1 σ) I h) fun v s1 ⟨y,H1,I1,r1,q1⟩=>?_) hs
 exact jb I1 hN hi hx r1 (fun s2 I2=>⟨_,H1,I2,q1⟩) hf⟩
theorem run_fnX {k:Nat} {f:Addr} {fd:FuncData} {ps:List Str} {sp:Sp} {pins:List (Addr×Obj)} {σ:St} {H:Hp} {s:Shared} {Q:VK} {E:XK} {us:List Value} {vs:List V} (F:FnOk X.prog X.w X.K X.mg X.base (CXe X.prog X.w) k f fd ps sp) (hr:Room k X.A) (hb:Binds X.K fd ps []) (hx:Cmp X E σ)
  (I:Inv X pins σ H s) (rv:Vals vs us) (h:sp vs H Q E):wpAny (model X.prog X.w) X.A (call (.ref f) us) (EP X pins σ Q) X.xe s:=by
 have hl:us.length=ps.length:=by rw[<-rv.length]; exact F.len _ _ _ _ h
 refine wpAny_call (codeAny_mono (F.run X.A X.stack s H ⟨us, []⟩ us vs Q E hr I.env0 (by simpa using hb s us I.kIn (by simpa using hl)) rv h) fun rr s' hq=>?_)
 cases rr with
 |error e=>exact hx pins H s e s' I hq
 |ok fl =>
  cases fl with
  |ret u=>exact I.after hq
  |next=>exact False.elim hq
  |brk=>exact False.elim hq
  |cont=>exact False.elim hq
structure DefX (P:Program) (w:World) (K:PySem.W.Frag) (mg:Str->Option Value) (base:Heap) (x:Str) (k:Nat) (ps:List Str) (sp:Sp):Prop where
 ex:∃(f:Addr) (fd:FuncData),mg x=some (.ref f)/\PySem.W.keepIn K (.ref f)=true/\Binds K fd ps []/\FnOk P w K mg base (CXe P w) k f fd ps sp
def tCallX (sp:Sp) (t:TA):TX:=fun σ H Q E=>t σ H fun vs H1=>sp vs H1 Q E
theorem vF {x:Str} {k:Nat} {ps:List Str} {sp:Sp} {p:Pos} {es:List Expr} {ta:TA} (D:DefX X.prog X.w X.K X.mg X.base x k ps sp) (hr:Room k X.A) (ha:QA X.nox (e::es) ta) (hg:Gl X x:=by rfl)
  (hdb:(x==("__debug__" : Str))=false:=by decide) (he:starEach (e::es) X.env=(false,eval e X.env)::starEach es X.env:=by rfl) (hpl:(backTo pos (starEach es X.env)).any (·.1)=false:=by rfl) :
  QXe X (.Call (.Name x p) (e::es) [] pos) (tCallX sp ta):=⟨fun pins s σ H Q E hx I h=>by
 obtain⟨f,fd,hm,hk,hb,F⟩:=D.ex
 refine wpAny_Call_Name_kw (kB I hg hm ?_ hdb)
 refine PySem.W.callWith_K (h₀:=X.base) I.ok.mod.kin hk (wpAny_mono (ha.h pos pins s σ H _ (I.wish _) h) (fun us s1 ⟨vs,H1,I1,r,q⟩=>⟨I1.unwish.kIn, ?_⟩) fun _ _ z=>False.elim z) he hpl
 exact run_fnX F hr hb hx I1.unwish r q⟩
end
theorem own_obj {K:PySem.W.Frag} {h:Heap} {C:Addr} {bmB:List Value} {newId:String} (X:K.In h) (q:PySem.W.excIn K C bmB newId=true) :
  ∃bm N nm qn bs hdct sn sub ab col dd k0 k1 k2 k3 k5 mN,h.get? C=some (excClassObj nm qn C N bs bm hdct sn sub ab col dd k0 k1 k2 k3 k5 newId)/\h.Ns N mN/\mN "__init__" = none/\OwnTail h bmB bm:=by
 unfold PySem.W.excIn at q
 split at q
 ·rename_i dd cd sl ho
  split at q
  ·rename_i C' bm k0 k1 k2 k3 n k5 hm hs
   obtain⟨nm,bs,mro,ns,qn,hd,sn,sub,ab,col,del⟩:=cd
   simp only[Bool.and_eq_true,beq_iff_eq,Bool.not_eq_true'] at q hm
   obtain⟨⟨⟨⟨⟨z1,z2⟩,z3⟩,z4⟩,z5⟩,z6⟩:=q
   subst z1; subst z2; subst hm; subst z3
   obtain⟨l⟩:=sl
   have hs:l=_:=hs
   subst hs
   exact⟨bm,ns,nm,qn,bs,hd,sn,sub,ab,col,dd,k0,k1,k2,k3,k5,_,X _ _ ho, .of_isNs (PySem.W.isNs_of_in X z5),PySem.W.nsMap_none_of_in X z5 z6,PySem.W.tail_of_in X z4⟩
  ·cases q
 ·cases q
structure ExcC (K:PySem.W.Frag) (mg:Str->Option Value) (x:Str) (C:Addr):Prop where
 b:mg x=some (.ref C)
 o:PySem.W.excIn K C [.type "ValueError", .type "Exception", .type "BaseException", .type "object"] "ValueError.__new__" = true
theorem untr_upd {H:Hp} {a:Addr} {o:HO} (h:H a=none):untr (upd H a o) a=H:=by
 funext b
 unfold untr upd
 split
 ·rename_i q; rw[q,h]
 ·rfl
theorem Inv.none0 {X:Cx} {pins:List (Addr×Obj)} {σ:St} {H:Hp} {s:Shared} {e:Addr} (I:Inv X pins σ H s) (hx:e∉X.ex) (h:s.heap.get? e=none):X.s₀.heap.get? e=none:=by
 cases z:X.s₀.heap.get? e with
 |none=>rfl
 |some o =>
  obtain⟨o',q⟩:=I.base.there e o z hx
  rw[h] at q; cases q
theorem ObjOk.here {P:Program} {w:World} {H:Hp} {h:Heap} {a:Addr} {o:HO} (x:ObjOk P w H h a o):∃u,h.get? a=some u:=by
 cases o with
 |lst xs=>obtain⟨_,_,_,_,e⟩:=x; exact⟨_,e⟩
 |tup xs=>obtain⟨_,_,_,o,e,_⟩:=x; exact⟨o,e⟩
 |dK kvs=>obtain⟨_,_,_,_,o,_,_,e,_⟩:=x; exact⟨_,e⟩
 |dT kvs=>obtain⟨_,_,_,_,o,_,_,e,_⟩:=x; exact⟨_,e⟩
 |set S n=>obtain⟨o,_,_,_,e,_⟩:=x; exact⟨_,e⟩
 |ins C dx fs=>obtain⟨_,_,_,e,_⟩:=x; exact⟨_,e⟩
 |own y=>obtain⟨_,e⟩:=x; exact⟨_,e⟩
 |xd fs=>obtain⟨_,⟨_,_,_,e,_⟩,_⟩:=x; exact⟨_,e⟩
 |rng lo hi=>obtain⟨_,_,_,e⟩:=x; exact⟨_,e⟩
 |frz ob u=>obtain⟨e,_⟩:=x; exact⟨_,e⟩
 |tbl ps=>exact⟨_,(show h.get? a=some _ from x)⟩
 |met f y=>exact⟨_,(show h.get? a=some _ from x)⟩
 |ext φ=>obtain⟨_,⟨o,e⟩,_⟩:=x; exact⟨o,e⟩
theorem Inv.exc {X:Cx} {pins:List (Addr×Obj)} {σ:St} {H:Hp} {s:Shared} {e C:Addr} {args:List Value} {h1:Heap} (I:Inv X pins σ H s) (hm:Heap.MadeExcOf s.heap h1 e (.ref C) args):H e=none/\Inv X pins σ (upd H e (excO e C none)) { s with heap:=h1 }:=by
 obtain⟨k,hn,t,ht,_⟩:=hm
 have fr:H e=none:=by
  cases z:H e with
  |none=>rfl
  |some o =>
   obtain⟨u,q⟩:=(I.hok e o z).here
   rw[hn] at q; cases q
 refine⟨fr, ?_⟩
 refine I.un (h':=h1) (t':=s.toks) ⟨fun b u q _ _ _=>k b u q,fun b u q _ _ _=>⟨u.slots,k b u q⟩,fun b u q n _=>?_,fun b u q _=>⟨u,k b u q⟩,fun b xs q=>?_,fun b u xs q=>?_,fun b ps q=>⟨#[], ?_⟩⟩ fun b u q=>?_
 ·rw[upd_ne fun z=>by rw[z,hn] at q; cases q]; exact n
 ·rw[upd_ne (qT q fr)]; exact q
 ·rw[upd_ne (qT q fr)]; exact q
 ·rw[upd_ne (qT q fr),q]; simp
 ·by_cases hb:b=e
  ·subst hb; rw[upd_same] at q; cases q; exact excO_ok (t:=t) ht
  ·rw[upd_ne hb] at q
   exact(I.hok b u q).stay (fun c v _ q=>k c v q) (fun c q=>by rw[upd_ne (qT q fr)]; exact q) fun c xs q=>by rw[upd_ne (qT q fr)]; exact q
def tRaise (x:Str) (t:TA):TS:=fun D σ H=>t σ H fun vs H1=>vs.length<=sizeLine/\D.bk (some (.str x)::some .non::σ) H1
theorem zL {X:Cx} {x:Str} {C:Addr} {np cpos pos:Pos} {e:Expr} {es:List Expr} {ta:TA} (hc:X.calm=true) (hx:X.ex=[]) (O:ExcC X.K X.mg x C) (ha:QA X.nox (e::es) ta) (hg:Gl X x:=by rfl)
  (hdb:(x==("__debug__" : Str))=false:=by decide) (he:starEach (e::es) X.env=(false,eval e X.env)::starEach es X.env:=by rfl) (hpl:(backTo cpos (starEach es X.env)).any (·.1)=false:=by rfl) :
  QX True X (.Raise (some (.Call (.Name x np) (e::es) [] cpos)) none pos) (tRaise x ta):=⟨fun pins s σ H D k I h=>by
 obtain⟨bm,N,nm,qn,bs,hdct,sn,sub,ab,col,dd,k0,k1,k2,k3,k5,mN,hC,hN,hni,T⟩:=own_obj I.mod.kin O.o
 have hh:=I.ok.hd hc
 refine wpAny_Raise_call_subU (C:=C) (nm:=nm) (q:=qn) (N:=N) (bs:=bs) (bm:=bm) (hdct:=hdct) (sn:=sn) (sub:=sub) (ab:=ab) (col:=col) (dd:=dd) (k0:=k0) (k1:=k1) (k2:=k2) (k3:=k3) (k5:=k5)
  PySem.F.excBase_ValueError (by decide) PySem.F.excBase_ValueError (mN:=mN) (T.hasType PySem.F.excBase_ValueError.hasBase) hh (by rw[he]; show(false||(backTo cpos (starEach es X.env)).any (·.1))=false; rw[hpl]; rfl) hni (kB I hg O.b ⟨rfl, ?_⟩ hdb)
 have h1:=ha.h cpos pins s σ H _ (I.wish _) h
 rw[he] at h1 ⊢
 refine Calls.evalArgs_plain (wpAny_mono h1 (fun vs s₂ ⟨xs,H1,I1,r,hl,q⟩=>?_) fun _ _ z=>False.elim z)
 have I2:=I1.unwish
 refine⟨rfl,by rw[<-r.length]; exact hl,I2.bk _ _ hC,hN.keeps I2.bk,T.keeps I2.bk,fun h' e' hm=>?_⟩
 obtain⟨fr,J⟩:=I2.exc hm
 refine k.2 trivial pins σ _ _ e' C none J upd_same (I2.none0 (by rw[hx]; simp) hm.new) ⟨x,none,O.b,rfl, ?_⟩
 rw[untr_upd fr]
 exact q⟩
abbrev smallI (n:Int):Prop:=n.natAbs.log2<1920/\(Str.ofString (toString n)).length<=10000
section
variable {P:Program} {w:World} {K:PySem.W.Frag} {mg:Str->Option Value} {base:Heap}
def bkX (n:Nat) (mg:Str->Option Value) (E:XK):St->Hp->Prop:=fun τ H'=>∃nm p σ',τ=some (.str nm)::some (pV p)::σ'/\σ'.length=n/\∀C d,mg nm=some C->PartIs d H' p->E C d H'
theorem bkX.ex {n:Nat} {E:XK} {Q:VK} {nx:St->Hp->Prop} {σ:St} {C:Value} {H':Hp} {d:Option Addr} (h:EX mg { nx:=nx,rt:=Q,bk:=bkX n mg E } σ C d H'):E C d H':=by
 obtain⟨nm,p,hm,hp,nm',p',σ',e,_,k⟩:=h
 simp only[List.cons.injEq,Option.some.injEq,V.str.injEq] at e
 exact k C d (e.1▸hm) (pV_inj e.2.1▸hp)
theorem Fun.okX {x qual:Str} {st:Stmt} {f:Addr} {fd:FuncData} {N ps:List Str} {k:Nat} {sp:Sp} (F:Fun K x qual st f fd) (S:FnScope N ps (qc st)) (len:∀vs H Q E,sp vs H Q E->vs.length=ps.length)
  (hbody:∀(cdv:Value) (A:Around) (outer:List Env) (s:Shared) (H:Hp) (vs:List V) (Q:VK) (E:XK),Room k (A.deeper (envOfC qual (qc st) s.heap.objs.size f cdv))->sp vs H Q E ->
   ∃t,QXs True (cxOf (CXe P w) P w K mg base N qual (qc st) f cdv A outer s H E) (qi st) t/\t { nx:=fun _ H'=>Q .non H',rt:=Q,bk:=bkX N.length mg E } (start N vs) H):FnOk P w K mg base (CXe P w) (k+1) f fd ps sp:=by
 obtain⟨oc,od,kV,doc,pm,an,cdv,ct,osl,rfl,lk,hcd⟩:=F.ex
 refine fn_of lk hcd S len fun A outer s H vs Q E hr hsp=>?_
 obtain⟨t,h,q⟩:=hbody cdv A outer s H vs Q E hr hsp
 refine⟨fun D σ H1=>D={ nx:=fun _ H'=>Q .non H',rt:=Q }/\t { nx:=fun _ H'=>Q .non H',rt:=Q,bk:=bkX N.length mg E } σ H1,fun pins s1 σ H1 D I hd=>?_,rfl,q⟩
 obtain⟨rfl,hd⟩:=hd
 have Y:Body (cxOf (CXe P w) P w K mg base N qual (qc st) f cdv A outer s H E) outer:=⟨rfl,rfl,rfl,rfl⟩
 refine wpAny_mono (h.h pins s1 σ H1 _ ⟨fun σ pins H s e s' I hx=>?_,fun _ pins σ H s e C d I hm h0 hx=>?_⟩ I hd) (fun fl s' z=>?_) fun _ _ z=>z
 ·exact Vn Y I I.ok.frames (hx.mono fun C d H' z=>bkX.ex z)
 ·exact kz Y I I.ok.frames hm h0 (bkX.ex hx)
 ·cases fl with
  |next=>exact z
  |ret u=>exact z
  |cont=>exact z
  |brk =>
   obtain⟨σ',H',I',nm,p,σ'',e,hl,_⟩:=z
   have:=I'.len
   rw[e,List.length_cons,List.length_cons,hl] at this
   exact absurd this (by show N.length+1+1≠N.length; omega)
end
section
variable {P:Program} {w:World} {outer:List Env} {H H':Hp} {s s':Shared} {a:Addr} {C:Value} {d:Option Addr}
theorem Fli.un (F:Fli P w outer H s a C d H' s'):Un (frs outer) [] H H' s.heap s'.heap/\HOk P w H' s'.heap:=by
 obtain⟨B,a0,fl,hok,nb,kp,th⟩:=F.fly
 refine⟨⟨fun b o q n hb _=>fl.1 b o (kp b o q n hb),fun b o q n hb _=>F.up b o q n hb,fun b o q n _=>F.free b o q n,fun b o q _=>?_,F.tups,F.frzs,F.tbls⟩,hok.kept fl.1⟩
 cases hb:H b with
 |some u =>
  obtain⟨o',e⟩:=th b o q (by rw[hb]; simp)
  exact⟨o',fl.1 b o' e⟩
 |none =>
  by_cases hf:b∈frs outer
  ·obtain⟨sl,e⟩:=F.up b o q hb hf
   exact⟨_,e⟩
  ·exact⟨o,fl.1 b o (kp b o q hb hf)⟩
theorem Fli.inv {X:Cx} {pins:List (Addr×Obj)} {σ:St} (I:Inv X pins σ H s) (F:Fli X.prog X.w X.stack H s a C d H' s'):Inv X pins σ H' s' :=
 I.call' F.os F.un.1 F.un.2 F.bare (ch:=[]) fun b z=>absurd z (by simp)
theorem Fli.step (F:Fli P w outer H s a C d H' s'):∃B a0,Heap.FlyingW B outer a C a0 s'.heap/\∀h',Heap.FlyingW B outer a C a0 h'->s'.heap.UpToSlots h'->Obk s'.heap h'->Fli P w outer H s a C d H' { s' with heap:=h' }:=by
 obtain⟨B,a0,fl,hok,nb,kp,th⟩:=F.fly
 refine⟨B,a0,fl,fun h' fl' up kd=>⟨fun o q=>by
  obtain⟨o1,e1,_⟩:=fl.there
  exact(kd.get (d:=0) e1 q).trans (F.own o1 e1),F.os,F.bare,⟨B,a0,fl',hok,nb,kp,th⟩,fun b o q n hb=>?_,F.free,F.tups,F.frzs,F.tbls⟩⟩
 obtain⟨sl,e⟩:=F.up b o q n hb
 obtain⟨_,o',ho',hd⟩:=fl.2.2.1.mem (show b∈outer.filterMap (·.frame) from hb)
 rw[e] at ho'; cases ho'
 obtain⟨sl2,e2⟩:=up b _ e hd
 exact⟨sl2,e2⟩
theorem Fli.ty {M:Model} (F:Fli P w outer H s a C d H' s'):PySem.W.Looks M s'.heap (typeOf (.ref a)) C:=by
 obtain⟨B,a0,fl,_⟩:=F.fly
 obtain⟨ob,hob,hc⟩:=fl.there
 subst hc
 exact(PySem.W.Looks.ld hob).andThen .now
end
abbrev Cx.caught (X:Cx) (a:Addr):Cx:={ X with A:=X.A.mark (some (.ref a)),calm:=false,xe:=fun _ _=>False }
section
variable {X:Cx} {pins:List (Addr×Obj)} {σ:St} {H:Hp} {s:Shared} {a:Addr}
theorem Inv.caught (I:Inv X pins σ H s) (a:Addr):Inv (X.caught a) pins σ H s :=
 ⟨⟨I.ok.mod,I.ok.kind,I.ok.glob,I.ok.blt,I.ok.above,I.ok.inj,I.ok.has,I.ok.cab,(fun z=>nomatch z),I.ok.frames,I.ok.stk,I.ok.exf,I.ok.bs,I.ok.bsz,I.ok.noex,I.ok.exfs,I.ok.funs,I.ok.frf⟩,I.os,I.bare,I.base,I.loc,I.cell,I.free,I.freeC,I.pin,I.hok,I.len⟩
abbrev Cx.tried (X:Cx) (pins:List (Addr×Obj)) (xe:Value->Shared->Prop):Cx:={ X with pn:=X.pn++pins,xe:=xe }
theorem Inv.tried (I:Inv X pins σ H s) (xe:Value->Shared->Prop):Inv (X.tried pins xe) [] σ H s :=
 ⟨⟨I.ok.mod,I.ok.kind,I.ok.glob,I.ok.blt,I.ok.above,I.ok.inj,I.ok.has,I.ok.cab,I.ok.hd,I.ok.frames,I.ok.stk,I.ok.exf,I.ok.bs,I.ok.bsz,I.ok.noex,I.ok.exfs,I.ok.funs,I.ok.frf⟩,I.os,I.bare,I.base,I.loc,I.cell,I.free,I.freeC,fun p hp=>I.pin p (by simpa using hp),I.hok,I.len⟩
theorem Inv.untried {pins':List (Addr×Obj)} {xe:Value->Shared->Prop} (ok:X.Ok) (I:Inv (X.tried pins xe) pins' σ H s):Inv X pins σ H s :=
 ⟨ok,I.os,I.bare,I.base,I.loc,I.cell,I.free,I.freeC,fun p hp=>I.pin p (List.mem_append_left _ hp),I.hok,I.len⟩
end
structure QH (X:Cx) (hs:List ExceptHandler) (C:Value) (q:Option Int) (t:TS):Prop where
 h:∀pins σ H1 s1 d H' s a D,Inv X pins σ H1 s1->Fli X.prog X.w X.stack H1 s1 a C d H' s->PartIs d H' q->t D σ H'->wpAny (model X.prog X.w) X.A (handleBy (.ref a) X.env hs) (SP X pins D) X.xe s
def tTry (n:Nat) (tb:TS) (l:List (Str×(Option Int->TS))):TS:=fun D σ H=>tb { D with bk:=fun τ H'=>∃nm p σ' t,τ=some (.str nm)::some (pV p)::σ'/\σ'.length=n/\l.lookup nm=some t/\t p D σ' H' } σ H
theorem qs_try {X:Cx} {outer:List Env} {body:List Stmt} {h0:ExceptHandler} {hs:List ExceptHandler} {pos:Pos} {tb:TS} {l:List (Str×(Option Int->TS))} (Y:Body X outer) (hb:∀pins xe,QXs False (X.tried pins xe) body tb)
  (hh:∀nm t C,l.lookup nm=some t->X.mg nm=some C->∀p,QH X (h0::hs) C p (t p)):QS X (.Try body (h0::hs) [] [] pos) (tTry X.N.length tb l):=⟨fun pins s σ H D I h=>by
 refine wpAny_Try_except ?_
 refine wpAny_mono ((hb pins fun e s1=>wpAny (model X.prog X.w) X.A (noteFrame e X.env) (fun _ s₂=>wpAny (model X.prog X.w) X.A (setFlight e none) (fun _ s₃=>wpAny (model X.prog X.w) X.A (handleBy e X.env (h0::hs)) (SP X pins D) X.xe s₃) X.xe s₂) X.xe s1).h [] s σ H _ ⟨fun σ1 pins' H1 s1 e s' IY hx=>?_,fun z=>z.elim⟩ (I.tried _) h) (fun f s1 q=>?_) fun _ _ z=>z
 ·obtain⟨a,C,d,H',rfl,F,nm,p,hm,hp,nm',p',σ',t,e,hl,ht,q⟩:=hx
  simp only[List.cons.injEq,Option.some.injEq,V.str.injEq] at e
  obtain⟨rfl,ep,rfl⟩:=e
  obtain rfl:=pV_inj ep
  have I1:Inv X pins σ1 H1 s1:=IY.untried I.ok
  have F:Fli X.prog X.w X.stack H1 s1 a C d H' s':=F
  obtain⟨B,a0,fl,st⟩:=F.step
  have hA:X.A.frames=some (X.env::outer):=by rw[<-Y.stk]; exact I.ok.frames
  rw[Y.stk] at fl
  refine wpAny_mono (DK.any (Zt _ _) (wpAny_looks_onW hA Y.fr fl (Q:=fun _ s2=>(Heap.HeldW B (X.env::outer) a C a0 X.env.locals s2.heap/\s'.heap.UpToSlots s2.heap)/\∃h',s2={ s' with heap:=h' }) (E:=fun _ _=>False) fun h' x1 x4=>⟨⟨x1,x4⟩,h',rfl⟩)) (fun _ s2 z=>?_) fun _ _ q=>q.1.elim
  obtain⟨⟨⟨held,up1⟩,h1,rfl⟩,kd1⟩:=z
  refine wpAny_mono (DK.any (xp _ _) (wpAny_landsW (s:={ s' with heap:=h1 }) held (Q:=fun _ s2=>(Heap.FlyingW B (X.env::outer) a C a0 s2.heap/\h1.UpToSlots s2.heap)/\∃h',s2={ s' with heap:=h' }) (E:=fun _ _=>False) fun h' x1 x4=>⟨⟨x1,x4⟩,h',rfl⟩)) (fun _ s2 z=>?_) fun _ _ q=>q.1.elim
  obtain⟨⟨⟨fl2,up2⟩,h2,rfl⟩,kd2⟩:=z
  exact(hh nm t C ht hm p).h pins σ1 H1 s1 d H' _ a D I1 (st h2 (by rw[Y.stk]; exact fl2) (up1.trans up2) (kd1.trans kd2)) hp q
 ·cases f with
  |next=>obtain⟨σ',H2,I2,q⟩:=q; exact wpAny_execs_nil ⟨σ',H2,I2.untried I.ok,q⟩
  |cont=>obtain⟨σ',H2,I2,q⟩:=q; exact⟨σ',H2,I2.untried I.ok,q⟩
  |ret u=>obtain⟨v,σ',H2,I2,r,q⟩:=q; exact⟨v,σ',H2,I2.untried I.ok,r,q⟩
  |brk =>
   obtain⟨σ',H2,I2,nm,p,σ'',t,e,hl,_⟩:=q
   have:=I2.len
   rw[e,List.length_cons,List.length_cons,hl] at this
   exact absurd this (by show X.N.length+1+1≠X.N.length; omega)⟩
section
variable {X:Cx} {pins:List (Addr×Obj)} {σ:St} {H:Hp} {s:Shared}
theorem ky {M:Model} {A:Around} {E:Value->Shared->Prop} {i:Nat} {x:Str} {pos:Pos} {Q:Unit->Shared->Prop} (I:Inv X pins σ H s) (hN:X.N.Nodup) (hi:X.N[i]?=some x) (hk:X.env.scope.names.lookup x=some .local)
  (h:∀s',Inv X pins (σ.set i none) H s'->Q () s'):wpAny M A (do bindName X.env x .none; unbindBehindTheSuite X.env x pos) Q E s:=by
 obtain⟨m,hn,hl⟩:=id I.loc
 have hcls:(X.env.scope.kind == .class||(X.env.scope.kind == .module&&X.env.locals != X.env.globals))=false:=by rw[I.ok.kind]; rfl
 have cne:=I.cne
 obtain⟨oL,_,_,hoL,_⟩:=id hn
 refine wpAny_nameGoes_keeps hk hn hcls fun h' v hn' hs=>h _ ⟨I.ok,I.os,I.bare,⟨fun b o e n hb hx=>?_,fun b o e n hb hx=>?_,I.base.free,fun b o e hx=>?_,I.base.tups,I.base.frzs,I.base.tbls⟩,⟨_,hn',fun j y v' e1 e2 e3=>?_⟩,fun y c e=>?_,I.free,I.freeC,fun p hp=>?_,fun b ob e=>?_,by simpa using I.len⟩
 ·exact(hs.2 b (Nat.ne_of_lt (Nat.lt_of_lt_of_le (Heap.lt_size e) I.ok.above))).trans (I.base.keep b o e n hb hx)
 ·obtain⟨sl,e1⟩:=I.base.slot b o e n hb hx
  exact⟨sl,(hs.2 b (Nat.ne_of_lt (Nat.lt_of_lt_of_le (Heap.lt_size e) I.ok.above))).trans e1⟩
 ·obtain⟨o',e1⟩:=I.base.there b o e hx
  exact⟨o',(hs.2 b (Nat.ne_of_lt (Nat.lt_of_lt_of_le (Heap.lt_size e) I.ok.above))).trans e1⟩
 ·have hj:j≠i:=fun z=>by
   subst z
   rw[List.getElem?_set] at e2
   simp only[if_true] at e2
   split at e2<;>cases e2
  rw[List.getElem?_set_ne (Ne.symm hj)] at e2
  obtain⟨u',r',q⟩:=hl j y v' e1 e2 e3
  refine⟨u',r', ?_⟩
  rcases q with⟨k,e⟩|⟨k,c,e,z⟩
  ·refine .inl ⟨k, ?_⟩
   have:y≠x:=fun e=>hj (QJ hN e1 (e▸hi))
   simp[this,e]
  ·exact .inr ⟨k,c,e,z.sameBut hs (cne y c e)⟩
 ·obtain⟨w',z⟩:=I.cell y c e
  exact⟨w',z.sameBut hs (cne y c e)⟩
 ·obtain⟨e,n,ne,nf,d⟩:=I.pin p hp
  exact⟨(hs.2 p.1 ne).trans e,n,ne,nf,d⟩
 ·refine(I.hok b ob e).stay (fun c w' hc q=>(hs.2 c ?_).trans q) (fun _ q=>q) fun _ _ q=>q
  rintro rfl
  have hfree:=I.free
  rcases hc with rfl|hc
  ·rw[hfree] at e; cases e
  ·rw[hfree] at hc; cases hc
theorem Fli.new {H1 H':Hp} {s1 s':Shared} {a:Addr} {C:Value} {d:Option Addr} (F:Fli X.prog X.w X.stack H1 s1 a C d H' s'):s1.heap.get? a=none/\H' a=none/\∃oe vs,s'.heap.get? a=some oe/\oe.cls=C/\oe.dict=d/\oe.data=.fields vs:=by
 obtain⟨B,a0,fl,hok,nb,kp,th⟩:=F.fly
 obtain⟨oe,vs,T,oT,ts,he,hc,hd,_⟩:=fl.2.2.2
 refine⟨?_, ?_,oe,vs,he,hc.1,F.own oe he,hd⟩
 ·cases z:s1.heap.get? a with
  |none=>rfl
  |some o =>
   exfalso
   have hn:=fl.2.1
   by_cases hH:H1 a=none
   ·by_cases hf:a∈frs X.stack
    ·obtain⟨_,o',ho',hd'⟩:=fl.2.2.1.mem (show a∈X.stack.filterMap (·.frame) from hf)
     rw[he] at ho'; cases ho'
     exact hd' vs hd
    ·rw[kp a o z hH hf] at hn; cases hn
   ·obtain⟨o',q⟩:=th a o z hH
    rw[q] at hn; cases hn
 ·cases z:H' a with
  |none=>rfl
  |some u =>
   obtain⟨o,q⟩:=(hok a u z).here
   rw[fl.2.1] at q; cases q
theorem Fli.pinned {outer:List Env} {H1 H':Hp} {s1 s':Shared} {a:Addr} {C:Value} {d:Option Addr} {oe:Obj} {vs:Array Value} (Y:Body X outer) (I:Inv X pins σ H1 s1) (F:Fli X.prog X.w X.stack H1 s1 a C d H' s') (he:s'.heap.get? a=some oe) (hd:oe.data=.fields vs):Inv X (pins++[(a,oe)]) σ H' s':=by
 have J:=F.inv I
 obtain⟨n1,n2,_⟩:=F.new
 refine J.pins_of fun p hp=>?_
 rcases List.mem_append.mp hp with hp|hp
 ·exact J.pin p (List.mem_append_right _ hp)
 ·obtain rfl:=List.mem_singleton.mp hp
  refine⟨he,n2,fun z=>?_,fun z=>?_,fun v z=>?_⟩
  ·obtain⟨m,⟨o,_,_,ho,_⟩,_⟩:=I.loc
   have z:a=X.env.locals:=z
   rw[<-z,n1] at ho; cases ho
  ·obtain⟨_,o',ho',_⟩:=I.ok.funs.mem (show a∈X.outer.filterMap (·.frame) from z)
   obtain⟨o2,q⟩:=I.base.there a o' ho' (by rw[Y.ex]; simp)
   rw[n1] at q; cases q
  ·have z:oe.data=.cell v:=z
   rw[hd] at z; cases z
end
end L2
namespace PySem
theorem Paired.of_get {α β:Type} {F:α->β->Prop}:∀{l:List α} {m:List β},l.length=m.length->(∀(i:Nat) x y,l[i]?=some x->m[i]?=some y->F x y)->Paired F l m
 | [], [],_,_=>.nil
 | [],_::_,h,_=>by simp at h
 |_::_, [],h,_=>by simp at h
 |x::l,y::m,h,r=>.cons (r 0 x y rfl rfl) (Paired.of_get (by simpa using h) fun i a b ha hb=>r (i+1) a b (by simpa using ha) (by simpa using hb))
theorem Paired.len {α β:Type} {F:α->β->Prop}:∀{l:List α} {m:List β},Paired F l m->l.length=m.length
 |_,_, .nil=>rfl
 |_,_, .cons _ t=>by rw[List.length_cons,List.length_cons,Paired.len t]
theorem Paired.get2 {α β:Type} {F:α->β->Prop}:∀{l:List α} {m:List β} {i:Nat} {x:α} {y:β},Paired F l m->l[i]?=some x->m[i]?=some y->F x y
 |_,_,_,_,_, .nil,h,_=>by simp at h
 |_,_,0,_,_, .cons r _,h,k=>by simp at h k; subst h k; exact r
 |_,_,i+1,_,_, .cons _ t,h,k=>Paired.get2 (i:=i) t (by simpa using h) (by simpa using k)
theorem Paired.getR {α β:Type} {F:α->β->Prop} {l:List α} {m:List β} {i:Nat} {y:β} (h:Paired F l m) (e:m[i]?=some y):∃x,l[i]?=some x/\F x y:=by
 have hl:=h.len
 have hi:=(List.getElem?_eq_some_iff.mp e).1
 have hx:l[i]?=some (l[i]'(by omega)):=List.getElem?_eq_getElem (by omega)
 exact⟨_,hx,h.get2 hx e⟩
theorem Paired.getL {α β:Type} {F:α->β->Prop} {l:List α} {m:List β} {i:Nat} {x:α} (h:Paired F l m) (e:l[i]?=some x):∃y,m[i]?=some y/\F x y:=by
 have hl:=h.len
 have hi:=(List.getElem?_eq_some_iff.mp e).1
 have hx:m[i]?=some (m[i]'(by omega)):=List.getElem?_eq_getElem (by omega)
 exact⟨_,hx,h.get2 e hx⟩
theorem Paired.app {α β:Type} {F:α->β->Prop}:∀{l l':List α} {m m':List β},Paired F l m->Paired F l' m'->Paired F (l++l') (m++m')
 |_,_,_,_, .nil,h=>h
 |_,_,_,_, .cons r t,h=>.cons r (Paired.app t h)
theorem Paired.put {α β:Type} {F:α->β->Prop} {x:α} {y:β} (r:F x y):∀{l:List α} {m:List β} (i:Nat),Paired F l m->Paired F (l.set i x) (m.set i y)
 |_,_,_, .nil=>.nil
 |_,_,0, .cons _ t=>.cons r t
 |_,_,i+1, .cons q t=>.cons q (Paired.put r i t)
theorem Paired.tk {α β:Type} {F:α->β->Prop}:∀{l:List α} {m:List β} (n:Nat),Paired F l m->Paired F (l.take n) (m.take n)
 |_,_,0,_=>.nil
 |_,_,_+1, .nil=>.nil
 |_,_,n+1, .cons r t=>.cons r (Paired.tk n t)
theorem Paired.dr {α β:Type} {F:α->β->Prop}:∀{l:List α} {m:List β} (n:Nat),Paired F l m->Paired F (l.drop n) (m.drop n)
 |_,_,0,r=>r
 |_,_,_+1, .nil=>.nil
 |_,_,n+1, .cons _ t=>Paired.dr n t
theorem Paired.mapR {α β γ:Type} {F:α->β->Prop} {G:α->γ->Prop} {f:β->γ} (h:∀a b,F a b->G a (f b)):∀{l:List α} {m:List β},Paired F l m->Paired G l (m.map f)
 |_,_, .nil=>.nil
 |_,_, .cons r t=>.cons (h _ _ r) (Paired.mapR h t)
theorem Paired.unmapR {α β γ:Type} {F:α->β->Prop} {G:α->γ->Prop} {f:β->γ} (h:∀a b,G a (f b)->F a b):∀{m:List β} {l:List α},Paired G l (m.map f)->Paired F l m
 | [],_, .nil=>.nil
 |_::m,_, .cons r t=>.cons (h _ _ r) (Paired.unmapR h (m:=m) t)
end PySem
namespace L2
open PySem PySem.Spec PyProof.Rows
inductive T where
 |non|bl (b:Bool)|int (i:Int)|str (x:Str)|tup (xs:List T)|lst (xs:List T)
inductive U where
 |p (t:T)|m (k:Nat)|x (a:Addr) (d:Option Addr) (q:Option Int)
inductive MO where
 |lst (us:List U)|tup (us:List U)|ins (C:Addr) (fs:List (Str×U))|dK (kvs:List (Key×U))
abbrev MM:=List MO
abbrev UEnv:=List (Option U)
inductive RepT (A:Addr->Prop) (H:Hp):V->T->Prop
 |non:RepT A H .non .non
 |bl (b:Bool):RepT A H (.bl b) (.bl b)
 |int (i:Int):RepT A H (.int i) (.int i)
 |str (x:Str):RepT A H (.str x) (.str x)
 |tup {p:Addr} {vs:List V} {ts:List T} (na:¬A p) (e:H p=some (.tup vs)) (l:vs.length=ts.length) (r:∀(i:Nat) v t,vs[i]?=some v->ts[i]?=some t->RepT A H v t):RepT A H (.ref p) (.tup ts)
 |lst {p:Addr} {vs:List V} {ts:List T} (na:¬A p) (e:H p=some (.lst vs)) (l:vs.length=ts.length) (r:∀(i:Nat) v t,vs[i]?=some v->ts[i]?=some t->RepT A H v t):RepT A H (.ref p) (.lst ts)
section
variable {A A':Addr->Prop} {H H':Hp} {v:V} {t:T} {ι ι':List Addr} {M:MM} {u:U} {σ:St} {ρ:UEnv}
abbrev RepTs (A:Addr->Prop) (H:Hp):List V->List T->Prop:=Paired (RepT A H)
theorem RepT.tupP {p:Addr} {vs:List V} {ts:List T} (na:¬A p) (e:H p=some (.tup vs)) (r:RepTs A H vs ts):RepT A H (.ref p) (.tup ts):=.tup na e r.len fun i v t h k=>r.get2 h k
theorem RepT.lstP {p:Addr} {vs:List V} {ts:List T} (na:¬A p) (e:H p=some (.lst vs)) (r:RepTs A H vs ts):RepT A H (.ref p) (.lst ts):=.lst na e r.len fun i v t h k=>r.get2 h k
theorem RepT.mono (h:∀x o,¬A x->H x=some o->H' x=some o/\¬A' x) (r:RepT A H v t):RepT A' H' v t:=by
 induction r with
 |non=>exact .non
 |bl b=>exact .bl b
 |int i=>exact .int i
 |str x=>exact .str x
 |tup na e l r ih=>exact .tup (h _ _ na e).2 (h _ _ na e).1 l ih
 |lst na e l r ih=>exact .lst (h _ _ na e).2 (h _ _ na e).1 l ih
theorem RepT.tup_inv {ts:List T} (r:RepT A H v (.tup ts)):∃p vs,v=.ref p/\¬A p/\H p=some (.tup vs)/\RepTs A H vs ts:=by
 cases r with
 |tup na e l r=>exact⟨_,_,rfl,na,e,Paired.of_get l r⟩
theorem RepT.lst_inv {ts:List T} (r:RepT A H v (.lst ts)):∃p vs,v=.ref p/\¬A p/\H p=some (.lst vs)/\RepTs A H vs ts:=by
 cases r with
 |lst na e l r=>exact⟨_,_,rfl,na,e,Paired.of_get l r⟩
def Av (A:Addr->Prop) (ι:List Addr):Addr->Prop:=fun x=>A x\/x∈ι
def PartX (ι:List Addr) (H:Hp) (d:Option Addr):Option Int->Prop
 |none=>d=none
 |some n=>∃x0,d=some x0/\x0∉ι/\H x0=some (.xd [("part", .int n)])
inductive RepU (A:Addr->Prop) (ι:List Addr) (H:Hp):V->U->Prop
 |p {v:V} {t:T} (r:RepT (Av A ι) H v t):RepU A ι H v (.p t)
 |m {k:Nat} {a:Addr} (e:ι[k]?=some a):RepU A ι H (.ref a) (.m k)
 |x {a:Addr} {d:Option Addr} {q:Option Int} (h:PartX ι H d q):RepU A ι H (.ref a) (.x a d q)
abbrev RepUs (A:Addr->Prop) (ι:List Addr) (H:Hp):List V->List U->Prop:=Paired (RepU A ι H)
def ObjR (A:Addr->Prop) (ι:List Addr) (H:Hp) (a:Addr):MO->Prop
 |.lst us=>∃vs,H a=some (.lst vs)/\RepUs A ι H vs us
 |.tup us=>∃vs,H a=some (.tup vs)/\RepUs A ι H vs us
 |.ins C fs=>∃dx gs,H a=some (.ins C dx gs)/\H dx=some (.own a)/\dx∉ι/\Paired (fun(g:Str×V) (f:Str×U)=>g.1=f.1/\RepU A ι H g.2 f.2) gs fs
 |.dK kvs=>∃gs,H a=some (.dK gs)/\Paired (fun(g:Key×V) (f:Key×U)=>g.1=f.1/\RepU A ι H g.2 f.2) gs kvs
structure Wd (A:Addr->Prop) (ι:List Addr) (H:Hp) (M:MM):Prop where
 nd:ι.Nodup
 len:ι.length=M.length
 dom:∀x,A x->H x≠none
 na:∀x∈ι,¬A x
 obj:∀(k:Nat) a o,ι[k]?=some a->M[k]?=some o->ObjR A ι H a o
structure Le (ι:List Addr) (H:Hp) (ι':List Addr) (H':Hp):Prop where
 ext:∃n,ι'=ι++n/\∀x∈n,H x=none
 fr:∀x o,H x=some o->x∉ι->H' x=some o
 al:∀x,H x≠none->H' x≠none
theorem Le.refl (ι:List Addr) (H:Hp):Le ι H ι H:=⟨⟨[],by simp,by simp⟩,fun _ _ h _=>h,fun _ h=>h⟩
theorem Le.trans {ι2:List Addr} {H2:Hp} (a:Le ι H ι' H') (b:Le ι' H' ι2 H2):Le ι H ι2 H2:=by
 obtain⟨n,rfl,hn⟩:=a.ext
 obtain⟨m,rfl,hm⟩:=b.ext
 have key:∀x,H x≠none->x∉ι->x∉ι++n:=fun x hx h z=>by
  rcases List.mem_append.mp z with z|z
  ·exact h z
  ·exact hx (hn x z)
 refine⟨⟨n++m,by rw[List.append_assoc],fun x hx=>?_⟩,fun x o e h=>b.fr x o (a.fr x o e h) (key x (by rw[e]; simp) h),fun x h=>b.al x (a.al x h)⟩
 rcases List.mem_append.mp hx with z|z
 ·exact hn x z
 ·cases q:H x with
  |none=>rfl
  |some o=>exact absurd (hm x z) (a.al x (by rw[q]; simp))
theorem Le.av (l:Le ι H ι' H') {x:Addr} {o:HO} (h:¬Av A ι x) (e:H x=some o):H' x=some o/\¬Av A ι' x:=by
 obtain⟨n,rfl,hn⟩:=l.ext
 refine⟨l.fr x o e fun z=>h (.inr z),fun z=>?_⟩
 rcases z with z|z
 ·exact h (.inl z)
 ·rcases List.mem_append.mp z with z|z
  ·exact h (.inr z)
  ·rw[hn x z] at e; cases e
theorem RepT.le (l:Le ι H ι' H') (r:RepT (Av A ι) H v t):RepT (Av A ι') H' v t:=r.mono fun _ _ h e=>l.av h e
theorem PartX.le {d:Option Addr} {q:Option Int} (l:Le ι H ι' H') (h:PartX ι H d q):PartX ι' H' d q:=by
 cases q with
 |none=>exact h
 |some n =>
  obtain⟨x0,e,ni,hx⟩:=h
  obtain⟨m,rfl,hm⟩:=l.ext
  refine⟨x0,e,fun z=>?_,l.fr x0 _ hx ni⟩
  rcases List.mem_append.mp z with z|z
  ·exact ni z
  ·rw[hm x0 z] at hx; cases hx
theorem RepU.le (l:Le ι H ι' H') (r:RepU A ι H v u):RepU A ι' H' v u:=by
 cases r with
 |p r=>exact .p (r.le l)
 |m e =>
  obtain⟨n,rfl,_⟩:=l.ext
  exact .m (by rw[List.getElem?_append_left (List.getElem?_eq_some_iff.mp e).1]; exact e)
 |x h=>exact .x (h.le l)
theorem RepUs.le {vs:List V} {us:List U} (l:Le ι H ι' H') (r:RepUs A ι H vs us):RepUs A ι' H' vs us:=Paired.mapP r fun _ _ q=>q.le l
theorem ObjR.some {a:Addr} {o:MO} (r:ObjR A ι H a o):∃h,H a=some h:=by
 cases o with
 |lst=>obtain⟨vs,e,_⟩:=r; exact⟨_,e⟩
 |tup=>obtain⟨vs,e,_⟩:=r; exact⟨_,e⟩
 |ins=>obtain⟨_,_,e,_⟩:=r; exact⟨_,e⟩
 |dK=>obtain⟨_,e,_⟩:=r; exact⟨_,e⟩
theorem ObjR.le' {a:Addr} {o:MO} (l:Le ι H ι' H') (ea:H' a=H a) (eo:∀x,H x=Option.some (.own a)->H' x=H x) (r:ObjR A ι H a o):ObjR A ι' H' a o:=by
 cases o with
 |lst=>obtain⟨vs,e,r⟩:=r; exact⟨vs,by rw[ea]; exact e,Paired.mapP r fun _ _ q=>q.le l⟩
 |tup=>obtain⟨vs,e,r⟩:=r; exact⟨vs,by rw[ea]; exact e,Paired.mapP r fun _ _ q=>q.le l⟩
 |ins =>
  obtain⟨dx,gs,e,ed,nd,r⟩:=r
  obtain⟨n,rfl,hn⟩:=l.ext
  refine⟨dx,gs,by rw[ea]; exact e,by rw[eo dx ed]; exact ed,fun z=>?_,Paired.mapP r fun _ _ q=>⟨q.1,q.2.le l⟩⟩
  rcases List.mem_append.mp z with z|z
  ·exact nd z
  ·rw[hn dx z] at ed; cases ed
 |dK=>obtain⟨gs,e,r⟩:=r; exact⟨gs,by rw[ea]; exact e,Paired.mapP r fun _ _ q=>⟨q.1,q.2.le l⟩⟩
theorem Wd.al (w:Wd A ι H M) {k:Nat} {a:Addr} (e:ι[k]?=some a):∃o,M[k]?=some o/\ObjR A ι H a o:=by
 have h:=(List.getElem?_eq_some_iff.mp e).1
 have e2:M[k]?=some (M[k]'(by rw[<-w.len]; exact h)):=List.getElem?_eq_getElem _
 exact⟨_,e2,w.obj k a _ e e2⟩
theorem Wd.at (w:Wd A ι H M) {k:Nat} {o:MO} (e:M[k]?=some o):∃a,ι[k]?=some a/\ObjR A ι H a o:=by
 have h:=(List.getElem?_eq_some_iff.mp e).1
 have e2:ι[k]?=some (ι[k]'(by rw[w.len]; exact h)):=List.getElem?_eq_getElem _
 exact⟨_,e2,w.obj k _ _ e2 e⟩
theorem Wd.mem_some (w:Wd A ι H M) {a:Addr} (h:a∈ι):∃o,H a=some o:=by
 obtain⟨k,e⟩:=List.getElem?_of_mem h
 obtain⟨o,_,r⟩:=w.al e
 exact r.some
theorem Wd.not_own (w:Wd A ι H M) {a x:Addr} (h:a∈ι):H a≠some (.own x):=fun z=>by
 obtain⟨k,e⟩:=List.getElem?_of_mem h
 obtain⟨o,_,r⟩:=w.al e
 cases o with
 |lst=>obtain⟨vs,e,_⟩:=r; rw[z] at e; cases e
 |tup=>obtain⟨vs,e,_⟩:=r; rw[z] at e; cases e
 |ins=>obtain⟨_,_,e,_⟩:=r; rw[z] at e; cases e
 |dK=>obtain⟨_,e,_⟩:=r; rw[z] at e; cases e
theorem Le.fresh {p:Addr} {o:HO} (h:H p=none):Le ι H ι (upd H p o):=⟨⟨[],by simp,by simp⟩,fun x o' e _=>vQ h e,fun x e=>by
 by_cases z:x=p
 ·subst z; rw[upd_same]; simp
 ·rw[upd_ne z]; exact e⟩
theorem Le.push {p:Addr} {o:HO} (h:H p=none):Le ι H (ι++[p]) (upd H p o):=⟨⟨[p],rfl,fun x hx=>by rw[List.mem_singleton.mp hx]; exact h⟩,(Le.fresh (ι:=ι) h).fr,(Le.fresh (ι:=ι) h).al⟩
theorem Le.put {p:Addr} {o:HO} (h:p∈ι):Le ι H ι (upd H p o):=⟨⟨[],by simp,by simp⟩,fun x o' e n=>by rw[upd_ne (fun z=>n (by rw[z]; exact h))]; exact e,fun x e=>by
 by_cases z:x=p
 ·subst z; rw[upd_same]; simp
 ·rw[upd_ne z]; exact e⟩
theorem Wd.fresh (w:Wd A ι H M) {p:Addr} {o:HO} (h:H p=none):Wd A ι (upd H p o) M :=
 ⟨w.nd,w.len,fun x hx=>(Le.fresh (ι:=ι) h).al x (w.dom x hx),w.na,fun k a ob e1 e2=>(w.obj k a ob e1 e2).le' (.fresh h) (upd_ne fun z=>by
  obtain⟨q,hq⟩:=w.mem_some (List.mem_of_getElem? e1)
  rw[z,h] at hq; cases hq) fun x ex=>upd_ne fun z=>by rw[z,h] at ex; cases ex⟩
theorem Wd.nin (w:Wd A ι H M) {p:Addr} (h:H p=none):p∉ι:=fun z=>by
 obtain⟨q,hq⟩:=w.mem_some z
 rw[h] at hq; cases hq
theorem Wd.nA (w:Wd A ι H M) {p:Addr} (h:H p=none):¬Av A ι p:=fun z=>z.elim (fun z=>w.dom p z h) (w.nin h)
theorem Wd.push (w:Wd A ι H M) {p:Addr} {o:HO} {mo:MO} (h:H p=none) (new:ObjR A (ι++[p]) (upd H p o) p mo):Wd A (ι++[p]) (upd H p o) (M++[mo]):=by
 have np:=w.nin h
 refine⟨List.nodup_append.mpr ⟨w.nd,by simp,fun a ha b hb=>?_⟩,by simp[w.len],fun x hx=>(Le.fresh (ι:=ι) h).al x (w.dom x hx),fun x hx=>?_,fun k a ob e1 e2=>?_⟩
 ·rw[List.mem_singleton.mp hb]; exact fun z=>np (by rw[<-z]; exact ha)
 ·rcases List.mem_append.mp hx with z|z
  ·exact w.na x z
  ·rw[List.mem_singleton.mp z]; exact fun z=>w.dom p z h
 ·by_cases hk:k<ι.length
  ·rw[List.getElem?_append_left hk] at e1
   rw[List.getElem?_append_left (by rw[<-w.len]; exact hk)] at e2
   exact(w.obj k a ob e1 e2).le' (.push h) (upd_ne fun z=>np (by rw[<-z]; exact List.mem_of_getElem? e1)) fun x ex=>upd_ne fun z=>by rw[z,h] at ex; cases ex
  ·have hk2:=(List.getElem?_eq_some_iff.mp e1).1
   rw[List.length_append,List.length_singleton] at hk2
   have:k=ι.length:=by omega
   subst this
   rw[List.getElem?_append_right (Nat.le_refl _),Nat.sub_self] at e1
   rw[w.len,List.getElem?_append_right (Nat.le_refl _),Nat.sub_self] at e2
   simp at e1 e2
   subst e1 e2
   exact new
theorem Wd.put (w:Wd A ι H M) {k:Nat} {p:Addr} {o:HO} {mo:MO} (e:ι[k]?=some p) (new:ObjR A ι (upd H p o) p mo):Wd A ι (upd H p o) (M.set k mo):=by
 have hp:=List.mem_of_getElem? e
 refine⟨w.nd,by rw[List.length_set]; exact w.len,fun x hx=>(Le.put hp).al x (w.dom x hx),w.na,fun j a ob e1 e2=>?_⟩
 by_cases hj:k=j
 ·subst hj
  rw[e] at e1; cases e1
  rw[List.getElem?_set_self (by rw[<-w.len]; exact(List.getElem?_eq_some_iff.mp e).1)] at e2
  cases e2
  exact new
 ·rw[List.getElem?_set_ne hj] at e2
  have na:a≠p:=fun z=>by
   subst z
   have h1:=List.getElem?_eq_some_iff.mp e
   have h2:=List.getElem?_eq_some_iff.mp e1
   exact hj ((List.getElem_inj w.nd).mp (h1.2.trans h2.2.symm))
  exact(w.obj j a ob e1 e2).le' (.put hp) (upd_ne na) fun x ex=>upd_ne fun z=>by
   rw[z] at ex; exact w.not_own hp ex
def EnvR (A:Addr->Prop) (ι:List Addr) (H:Hp):St->UEnv->Prop:=Paired fun(s:Option V) (r:Option U)=>∀u,r=some u->∃v,s=some v/\RepU A ι H v u
theorem EnvR.le (l:Le ι H ι' H') (r:EnvR A ι H σ ρ):EnvR A ι' H' σ ρ:=Paired.mapP r fun _ _ q u e=>by
 obtain⟨v,h1,h2⟩:=q u e
 exact⟨v,h1,h2.le l⟩
theorem EnvR.get (r:EnvR A ι H σ ρ) {i:Nat} {u:U} (e:ρ[i]?=some (some u)):∃v,σ[i]?=some (some v)/\RepU A ι H v u:=by
 obtain⟨s,h1,h2⟩:=Paired.getR r e
 obtain⟨v,rfl,h3⟩:=h2 u rfl
 exact⟨v,h1,h3⟩
theorem EnvR.put (r:EnvR A ι H σ ρ) (i:Nat) (q:RepU A ι H v u):EnvR A ι H (σ.set i (some v)) (ρ.set i (some u)):=Paired.put (fun w e=>by cases e; exact⟨v,rfl,q⟩) i r
def Vv (bs:List Bool) (n:Nat) (ρ:UEnv):UEnv:=(bs.zip ρ).map (fun p=>if p.1 then p.2 else none)++List.replicate n none
theorem EnvR.mask {bs:List Bool} {n:Nat} (r:EnvR A ι H σ ρ):EnvR A ι H (v3 bs n σ) (Vv bs n ρ):=by
 refine Paired.app ?_ ?_
 ·induction r generalizing bs with
  |nil=>simp; exact .nil
  |cons q t ih =>
   cases bs with
   |nil=>exact .nil
   |cons b bs =>
    refine .cons ?_ ih
    cases b
    ·intro u e; simp at e
    ·simpa using q
 ·induction n with
  |zero=>exact .nil
  |succ n ih=>exact .cons (fun u e=>by cases e) ih
end
abbrev UK:=U->MM->Prop
abbrev UE:=UEnv->MM->UK->Prop
abbrev UT:=UEnv->MM->(Bool->MM->Prop)->Prop
abbrev UA:=UEnv->MM->(List U->MM->Prop)->Prop
def LE (te:TE) (ue:UE):Prop:=∀(A:Addr->Prop) (ι:List Addr) (σ:St) (H:Hp) (ρ:UEnv) (M:MM) (Qu:UK) (Q:VK),Wd A ι H M->EnvR A ι H σ ρ->ue ρ M Qu ->
 (∀u M' ι' v H',Le ι H ι' H'->Wd A ι' H' M'->RepU A ι' H' v u->Qu u M'->Q v H')->te σ H Q
def LT (tt:TT) (ut:UT):Prop:=∀(A:Addr->Prop) (ι:List Addr) (σ:St) (H:Hp) (ρ:UEnv) (M:MM) (Qu:Bool->MM->Prop) (Q:Bool->Hp->Prop),Wd A ι H M->EnvR A ι H σ ρ->ut ρ M Qu ->
 (∀b M' ι' H',Le ι H ι' H'->Wd A ι' H' M'->Qu b M'->Q b H')->tt σ H Q
def LA (n:Nat) (ta:TA) (ua:UA):Prop:=∀(A:Addr->Prop) (ι:List Addr) (σ:St) (H:Hp) (ρ:UEnv) (M:MM) (Qu:List U->MM->Prop) (Q:List V->Hp->Prop),Wd A ι H M->EnvR A ι H σ ρ->ua ρ M Qu ->
 (∀us M' ι' vs H',Le ι H ι' H'->Wd A ι' H' M'->us.length=n->RepUs A ι' H' vs us->Qu us M'->Q vs H')->ta σ H Q
section
variable {ta tb tc:TE} {ua ub uc:UE} {tt tt':TT} {ut ut':UT} {tl:TA} {ul:UA} {n:Nat}
def uVar (i:Nat):UE:=fun ρ M Q=>∃u,ρ[i]?=some (some u)/\Q u M
theorem le_var (i:Nat):LE (tVar i) (uVar i):=fun A ι σ H ρ M Qu Q w e ⟨u,h,q⟩ k=>by
 obtain⟨v,h1,h2⟩:=e.get h
 exact⟨v,h1,k u M ι v H (.refl _ _) w h2 q⟩
inductive Sc:V->T->Prop
 |non:Sc .non .non
 |bl (b:Bool):Sc (.bl b) (.bl b)
 |int (i:Int):Sc (.int i) (.int i)
 |str (x:Str):Sc (.str x) (.str x)
theorem Sc.rep {A:Addr->Prop} {H:Hp} {v:V} {t:T} (h:Sc v t):RepT A H v t:=by cases h<;>constructor
def uC (t:T):UE:=fun _ M Q=>Q (.p t) M
theorem le_c {v:V} {t:T} (h:Sc v t):LE (tC v) (uC t):=fun A ι σ H ρ M Qu Q w e q k=>k _ M ι v H (.refl _ _) w (.p h.rep) q
def uNil:UA:=fun _ M Q=>Q [] M
def uCons (ua:UE) (ul:UA):UA:=fun ρ M Q=>ua ρ M fun x M1=>ul ρ M1 fun xs M2=>Q (x::xs) M2
theorem la_nil:LA 0 tNil uNil:=fun A ι σ H ρ M Qu Q w e q k=>k [] M ι [] H (.refl _ _) w rfl .nil q
theorem la_cons (ha:LE ta ua) (hl:LA n tl ul):LA (n+1) (xI ta tl) (uCons ua ul):=fun A ι σ H ρ M Qu Q w e q k =>
 ha A ι σ H ρ M _ _ w e q fun x M1 ι1 v H1 l1 w1 r1 q1=>hl A ι1 σ H1 ρ M1 _ _ w1 (e.le l1) q1 fun xs M2 ι2 vs H2 l2 w2 hn r2 q2 =>
  k (x::xs) M2 ι2 (v::vs) H2 (l1.trans l2) w2 (by rw[List.length_cons,hn]) (.cons (r1.le l2) r2) q2
def v9:List U->Option (List T)
 | []=>some []
 |.p t::r=>(v9 r).map (t :: ·)
 |.m _::_=>none
 |.x _ _ _::_=>none
@[simp] theorem zH:∀ts:List T,v9 (ts.map U.p)=some ts
 | []=>rfl
 |t::r=>by simp[v9,zH r]
theorem zo:∀{us:List U} {ts:List T},v9 us=some ts->us=ts.map U.p
 | [],_,h=>by simp[v9] at h; subst h; rfl
 |.p t::r,ts,h=>by
  simp[v9] at h
  obtain⟨a,h1,rfl⟩:=h
  rw[List.map_cons, <-zo h1]
 |.m _::_,_,h=>by simp[v9] at h
 |.x _ _ _::_,_,h=>by simp[v9] at h
def sn (M:MM):U->Option T
 |.p t=>some t
 |.m k=>match M[k]? with
  |some (.lst us)=>(v9 us).map T.lst
  |some (.tup us)=>(v9 us).map T.tup
  |_=>none
 |.x _ _ _=>none
def sns (M:MM):List U->Option (List T)
 | []=>some []
 |u::r=>match sn M u,sns M r with
  |some t,some ts=>some (t::ts)
  |_,_=>none
inductive RepV (A:Addr->Prop) (H:Hp):V->T->Prop
 |of {v:V} {t:T} (r:RepT A H v t):RepV A H v t
 |lst {p:Addr} {vs:List V} {ts:List T} (e:H p=some (.lst vs)) (r:RepTs A H vs ts):RepV A H (.ref p) (.lst ts)
 |tup {p:Addr} {vs:List V} {ts:List T} (e:H p=some (.tup vs)) (r:RepTs A H vs ts):RepV A H (.ref p) (.tup ts)
variable {A:Addr->Prop} {H H':Hp} {ι:List Addr} {M:MM} {v:V} {u:U} {t:T}
theorem RepV.lst_inv {ts:List T} (r:RepV A H v (.lst ts)):∃p vs,v=.ref p/\H p=some (.lst vs)/\RepTs A H vs ts:=by
 cases r with
 |of r=>obtain⟨p,vs,h1,_,h2,h3⟩:=r.lst_inv; exact⟨p,vs,h1,h2,h3⟩
 |lst e r=>exact⟨_,_,rfl,e,r⟩
theorem RepV.tup_inv {ts:List T} (r:RepV A H v (.tup ts)):∃p vs,v=.ref p/\H p=some (.tup vs)/\RepTs A H vs ts:=by
 cases r with
 |of r=>obtain⟨p,vs,h1,_,h2,h3⟩:=r.tup_inv; exact⟨p,vs,h1,h2,h3⟩
 |tup e r=>exact⟨_,_,rfl,e,r⟩
theorem RepV.int_inv {i:Int} (r:RepV A H v (.int i)):v=.int i:=by cases r with|of r=>cases r; rfl
theorem RepV.bl_inv {i:Bool} (r:RepV A H v (.bl i)):v=.bl i:=by cases r with|of r=>cases r; rfl
theorem RepV.str_inv {i:Str} (r:RepV A H v (.str i)):v=.str i:=by cases r with|of r=>cases r; rfl
theorem RepV.non_inv (r:RepV A H v .non):v=.non:=by cases r with|of r=>cases r; rfl
theorem RepUs.pures {vs:List V} {ts:List T} (r:RepUs A ι H vs (ts.map U.p)):RepTs (Av A ι) H vs ts:=Paired.unmapR (fun a b q=>by cases q with|p r=>exact r) r
theorem RepTs.ups {vs:List V} {ts:List T} (r:RepTs (Av A ι) H vs ts):RepUs A ι H vs (ts.map U.p):=Paired.mapR (fun a b q=>.p q) r
theorem RepU.sn (w:Wd A ι H M) (r:RepU A ι H v u) (e:sn M u=some t):RepV (Av A ι) H v t:=by
 cases r with
 |p r=>simp[L2.sn] at e; subst e; exact .of r
 |m q =>
  obtain⟨o,h1,h2⟩:=w.al q
  simp only[L2.sn,h1] at e
  cases o with
  |lst us =>
   simp at e
   obtain⟨ts,e1,rfl⟩:=e
   obtain⟨vs,h3,h4⟩:=h2
   rw[zo e1] at h4
   exact .lst h3 h4.pures
  |tup us =>
   simp at e
   obtain⟨ts,e1,rfl⟩:=e
   obtain⟨vs,h3,h4⟩:=h2
   rw[zo e1] at h4
   exact .tup h3 h4.pures
  |ins=>simp at e
  |dK=>simp at e
 |x h=>simp[L2.sn] at e
theorem RepUs.sns (w:Wd A ι H M):∀{vs:List V} {us:List U} {ts:List T},RepUs A ι H vs us->sns M us=some ts->Paired (RepV (Av A ι) H) vs ts
 |_,_,ts, .nil,e=>by simp[L2.sns] at e; subst e; exact .nil
 |_,_,ts, .cons r q,e=>by
  simp only[L2.sns] at e
  split at e
  ·rename_i h1 h2
   simp at e; subst e
   exact .cons (r.sn w h1) (RepUs.sns w q h2)
  ·cases e
def OpL (r:R2) (s:T->T->(T->Prop)->Prop):Prop:=∀(A:Addr->Prop) (ι:List Addr) (H:Hp) (M:MM) (x y:V) (a b:T) (Qs:T->Prop) (Q:VK),Wd A ι H M->RepV (Av A ι) H x a->RepV (Av A ι) H y b->s a b Qs ->
 (∀t ι' v H',Le ι H ι' H'->Wd A ι' H' M->RepT (Av A ι') H' v t->Qs t->Q v H')->r x y H Q
def uOp (s:T->T->(T->Prop)->Prop) (ua ub:UE):UE:=fun ρ M Q=>ua ρ M fun x M1=>ub ρ M1 fun y M2=>∃a b,sn M2 x=some a/\sn M2 y=some b/\s a b fun t=>Q (.p t) M2
theorem le_op {r:R2} {s:T->T->(T->Prop)->Prop} (h:OpL r s) (ha:LE ta ua) (hb:LE tb ub):LE (tOp r ta tb) (uOp s ua ub):=fun A ι σ H ρ M Qu Q w e q k =>
 ha A ι σ H ρ M _ _ w e q fun x M1 ι1 v H1 l1 w1 r1 q1=>hb A ι1 σ H1 ρ M1 _ _ w1 (e.le l1) q1 fun y M2 ι2 v2 H2 l2 w2 r2 ⟨a,b,e1,e2,q2⟩ =>
  h A ι2 H2 M2 v v2 a b _ Q w2 ((r1.le l2).sn w2 e1) (r2.sn w2 e2) q2 fun t ι3 z H3 l3 w3 r3 q3=>k _ M2 ι3 z H3 ((l1.trans l2).trans l3) w3 (.p r3) q3
def sI (C:Int->Int->Prop) (g:Int->Int->T):T->T->(T->Prop)->Prop:=fun a b Q=>∃i j,a=.int i/\b=.int j/\C i j/\Q (g i j)
def sI0 (g:Int->Int->T):T->T->(T->Prop)->Prop:=fun a b Q=>∃i j,a=.int i/\b=.int j/\Q (g i j)
theorem zT {C:Int->Int->Prop} {gv:Int->Int->V} {g:Int->Int->T} (hg:∀i j,Sc (gv i j) (g i j)):OpL (rI C gv) (sI C g):=fun A ι H M x y a b Qs Q w r1 r2 ⟨i,j,ea,eb,c,q⟩ k=>by
 subst ea eb
 exact⟨i,j,r1.int_inv,r2.int_inv,c,k _ ι _ H (.refl _ _) w (hg i j).rep q⟩
theorem ve {gv:Int->Int->V} {g:Int->Int->T} (hg:∀i j,Sc (gv i j) (g i j)):OpL (rI0 gv) (sI0 g):=fun A ι H M x y a b Qs Q w r1 r2 ⟨i,j,ea,eb,q⟩ k=>by
 subst ea eb
 exact⟨i,j,r1.int_inv,r2.int_inv,k _ ι _ H (.refl _ _) w (hg i j).rep q⟩
def vt:T->Option V
 |.non=>some .non
 |.bl b=>some (.bl b)
 |.int i=>some (.int i)
 |.str x=>some (.str x)
 |_=>none
theorem ZJ {x:V} (e:vt t=some x):Sc x t:=by
 cases t<;>simp[vt] at e<;>subst e<;>constructor
theorem RepV.sc {x y:V} (r:RepV A H v t) (e:vt t=some x):v=x:=by
 cases ZJ e with
 |non=>exact r.non_inv
 |bl=>exact r.bl_inv
 |int=>exact r.int_inv
 |str=>exact r.str_inv
def sEq (neg:Bool):T->T->(T->Prop)->Prop:=fun a b Q=>∃x y,vt a=some x/\vt b=some y/\scal x y=true/\Q (.bl (if neg then !decide (x=y) else decide (x=y)))
theorem vn:OpL rEq (sEq false):=fun A ι H M x y a b Qs Q w r1 r2 ⟨x',y',e1,e2,sc,q⟩ k=>by
 cases r1.sc (y:=.non) e1; cases r2.sc (y:=.non) e2
 exact⟨sc,k _ ι _ H (.refl _ _) w (.bl _) q⟩
theorem jO:OpL rNe (sEq true):=fun A ι H M x y a b Qs Q w r1 r2 ⟨x',y',e1,e2,sc,q⟩ k=>by
 cases r1.sc (y:=.non) e1; cases r2.sc (y:=.non) e2
 exact⟨sc,k _ ι _ H (.refl _ _) w (.bl _) q⟩
def sStr:T->T->(T->Prop)->Prop:=fun a b Q=>∃i j,a=.str i/\b=.str j/\i.length+j.length<=sizeLine/\Q (.str (i++j))
theorem vi:OpL (fun x y H Q=>∃i j,x=.str i/\y=.str j/\i.length+j.length<=sizeLine/\Q (.str (i++j)) H) sStr:=fun A ι H M x y a b Qs Q w r1 r2 ⟨i,j,ea,eb,c,q⟩ k=>by
 subst ea eb
 exact⟨i,j,r1.str_inv,r2.str_inv,c,k _ ι _ H (.refl _ _) w (.str _) q⟩
theorem xo (w:Wd A ι H M) {p:Addr} {vs:List V} {ts:List T} (h:H p=none) (r:RepTs (Av A ι) H vs ts):RepT (Av A ι) (upd H p (.lst vs)) (.ref p) (.lst ts) :=
 .lstP (w.nA h) upd_same (Paired.mapP r fun _ _ q=>q.le (.fresh h))
theorem VB (w:Wd A ι H M) {p:Addr} {vs:List V} {ts:List T} (h:H p=none) (r:RepTs (Av A ι) H vs ts):RepT (Av A ι) (upd H p (.tup vs)) (.ref p) (.tup ts) :=
 .tupP (w.nA h) upd_same (Paired.mapP r fun _ _ q=>q.le (.fresh h))
def sCat:T->T->(T->Prop)->Prop:=fun a b Q=>∃xs ys,a=.lst xs/\b=.lst ys/\xs.length+ys.length<=sizeLine/\Q (.lst (xs++ys))
theorem vo:OpL rCat sCat:=fun A ι H M x y a b Qs Q w r1 r2 ⟨xs,ys,ea,eb,hz,q⟩ k=>by
 subst ea eb
 obtain⟨p,vs,rfl,h1,q1⟩:=r1.lst_inv
 obtain⟨p2,vs2,rfl,h2,q2⟩:=r2.lst_inv
 exact⟨p,p2,vs,vs2,rfl,rfl,h1,h2,by rw[q1.len,q2.len]; exact hz,fun p hp=>k _ ι _ _ (.fresh hp) (w.fresh hp) (xo w hp (q1.app q2)) q⟩
def Zn:U->Bool
 |.p .non=>true
 |_=>false
theorem Kh (r:RepU A ι H v u):decide (v=.non)=Zn u:=by
 cases r with
 |p r=>cases r<;>simp[Zn]
 |m e=>simp[Zn]
 |x h=>simp[Zn]
def uIsN (neg:Bool) (ua:UE):UE:=fun ρ M Q=>ua ρ M fun x M1=>Q (.p (.bl (if neg then !Zn x else Zn x))) M1
theorem le_isN (ha:LE ta ua):LE (tOp (fun x y H Q=>y=.non/\Q (.bl (decide (x=.non))) H) ta (tC .non)) (uIsN false ua):=fun A ι σ H ρ M Qu Q w e q k =>
 ha A ι σ H ρ M _ _ w e q fun x M1 ι1 v H1 l1 w1 r1 q1=>⟨rfl,by rw[Kh r1]; exact k _ M1 ι1 _ H1 l1 w1 (.p (.bl _)) q1⟩
def uNeg (ua:UE):UE:=fun ρ M Q=>ua ρ M fun x M1=>∃i,x=.p (.int i)/\Q (.p (.int (-i))) M1
theorem le_neg (ha:LE ta ua):LE (tUn (rU fun i=>.int (-i)) ta) (uNeg ua):=fun A ι σ H ρ M Qu Q w e q k =>
 ha A ι σ H ρ M _ _ w e q fun x M1 ι1 v H1 l1 w1 r1 ⟨i,ex,q1⟩=>by
  subst ex
  cases r1 with
  |p r=>cases r; exact⟨i,rfl,k _ M1 ι1 _ H1 l1 w1 (.p (.int _)) q1⟩
def uB (ua:UE):UT:=fun ρ M Q=>ua ρ M fun x M1=>∃b,x=.p (.bl b)/\Q b M1
theorem lt_b (ha:LE ta ua):LT (tB ta) (uB ua):=fun A ι σ H ρ M Qu Q w e q k =>
 ha A ι σ H ρ M _ _ w e q fun x M1 ι1 v H1 l1 w1 r1 ⟨b,ex,q1⟩=>by
  subst ex
  cases r1 with
  |p r=>cases r; exact⟨b,rfl,k b M1 ι1 H1 l1 w1 q1⟩
theorem lt_test (ha:LE ta ua):LT (ki ta) (uB ua):=lt_b ha
def truU (M:MM):U->Option Bool
 |.p .non=>some false
 |.p (.bl b)=>some b
 |.p (.int i)=>some (i != 0)
 |.p (.lst ts)=>some (!ts.isEmpty)
 |.p (.tup ts)=>some (!ts.isEmpty)
 |.m k=>match M[k]? with
  |some (.lst us)=>some (!us.isEmpty)
  |some (.tup us)=>some (!us.isEmpty)
  |some (.dK us)=>some (!us.isEmpty)
  |_=>none
 |_=>none
def uAnd (t s:UT):UT:=fun ρ M Q=>t ρ M fun c M1=>if c=true then s ρ M1 Q else Q false M1
def uOr (t s:UT):UT:=fun ρ M Q=>t ρ M fun c M1=>if c=true then Q true M1 else s ρ M1 Q
def uNot (t:UT):UT:=fun ρ M Q=>t ρ M fun c M1=>Q (!c) M1
theorem lt_and (ha:LT tt ut) (hb:LT tt' ut'):LT (tAnd tt tt') (uAnd ut ut'):=fun A ι σ H ρ M Qu Q w e q k =>
 ha A ι σ H ρ M _ _ w e q fun c M1 ι1 H1 l1 w1 q1=>by
  cases c with
  |false=>exact k false M1 ι1 H1 l1 w1 q1
  |true=>exact hb A ι1 σ H1 ρ M1 _ _ w1 (e.le l1) q1 fun b M2 ι2 H2 l2 w2 q2=>k b M2 ι2 H2 (l1.trans l2) w2 q2
theorem lt_or (ha:LT tt ut) (hb:LT tt' ut'):LT (tOr tt tt') (uOr ut ut'):=fun A ι σ H ρ M Qu Q w e q k =>
 ha A ι σ H ρ M _ _ w e q fun c M1 ι1 H1 l1 w1 q1=>by
  cases c with
  |true=>exact k true M1 ι1 H1 l1 w1 q1
  |false=>exact hb A ι1 σ H1 ρ M1 _ _ w1 (e.le l1) q1 fun b M2 ι2 H2 l2 w2 q2=>k b M2 ι2 H2 (l1.trans l2) w2 q2
theorem lt_not (ha:LT tt ut):LT (tNot tt) (uNot ut):=fun A ι σ H ρ M Qu Q w e q k =>
 ha A ι σ H ρ M _ _ w e q fun c M1 ι1 H1 l1 w1 q1=>k _ M1 ι1 H1 l1 w1 q1
def uAndV (ua ub:UE):UE:=fun ρ M Q=>ua ρ M fun x M1=>∃c,x=.p (.bl c)/\if c=true then ub ρ M1 Q else Q (.p (.bl false)) M1
def uOrV (ua ub:UE):UE:=fun ρ M Q=>ua ρ M fun x M1=>∃c,x=.p (.bl c)/\if c=true then Q (.p (.bl true)) M1 else ub ρ M1 Q
def uNotV (ua:UE):UE:=fun ρ M Q=>ua ρ M fun x M1=>∃c,x=.p (.bl c)/\Q (.p (.bl (!c))) M1
theorem le_andV (ha:LE ta ua) (hb:LE tb ub):LE (Vc ta tb) (uAndV ua ub):=fun A ι σ H ρ M Qu Q w e q k =>
 ha A ι σ H ρ M _ _ w e q fun x M1 ι1 v H1 l1 w1 r1 ⟨c,ex,q1⟩=>by
  subst ex
  cases r1 with
  |p r =>
   cases r
   refine⟨c,rfl, ?_⟩
   cases c with
   |false=>exact k _ M1 ι1 _ H1 l1 w1 (.p (.bl _)) q1
   |true=>exact hb A ι1 σ H1 ρ M1 _ _ w1 (e.le l1) q1 fun b M2 ι2 v2 H2 l2 w2 r2 q2=>k b M2 ι2 v2 H2 (l1.trans l2) w2 r2 q2
def uIf (t:UT) (ua ub:UE):UE:=fun ρ M Q=>t ρ M fun c M1=>if c=true then ua ρ M1 Q else ub ρ M1 Q
theorem le_if (hc:LT tt ut) (ha:LE ta ua) (hb:LE tb ub):LE (tIf tt ta tb) (uIf ut ua ub):=fun A ι σ H ρ M Qu Q w e q k =>
 hc A ι σ H ρ M _ _ w e q fun c M1 ι1 H1 l1 w1 q1=>by
  cases c with
  |true=>exact ha A ι1 σ H1 ρ M1 _ _ w1 (e.le l1) q1 fun b M2 ι2 v2 H2 l2 w2 r2 q2=>k b M2 ι2 v2 H2 (l1.trans l2) w2 r2 q2
  |false=>exact hb A ι1 σ H1 ρ M1 _ _ w1 (e.le l1) q1 fun b M2 ι2 v2 H2 l2 w2 r2 q2=>k b M2 ι2 v2 H2 (l1.trans l2) w2 r2 q2
def ZK (s s':T->T->(T->Prop)->Prop) (ua ub uc:UE):UE:=fun ρ M Q=>ua ρ M fun x M1=>ub ρ M1 fun y M2=>∃a b,sn M2 x=some a/\sn M2 y=some b/\s a b fun z=>∃k,z=.bl k /\
 if k=true then uc ρ M2 fun c M3=>∃b' c',sn M3 y=some b'/\sn M3 c=some c'/\s' b' c' fun t=>Q (.p t) M3 else Q (.p (.bl false)) M2
theorem le_chain {r r':R2} {s s':T->T->(T->Prop)->Prop} (h:OpL r s) (h':OpL r' s') (ha:LE ta ua) (hb:LE tb ub) (hc:LE tc uc):LE (jH r r' ta tb tc) (ZK s s' ua ub uc):=by
 intro A ι σ H ρ M Qu Q w e q k
 refine ha A ι σ H ρ M _ _ w e q fun x M1 ι1 v H1 l1 w1 r1 q1=>?_
 refine hb A ι1 σ H1 ρ M1 _ _ w1 (e.le l1) q1 fun y M2 ι2 v2 H2 l2 w2 r2 q2=>?_
 obtain⟨a,b,e1,e2,q2⟩:=q2
 refine h A ι2 H2 M2 v v2 a b _ _ w2 ((r1.le l2).sn w2 e1) (r2.sn w2 e2) q2 fun t ι3 z H3 l3 w3 r3 q3=>?_
 obtain⟨kk,et,q3⟩:=q3
 subst et
 cases r3
 refine⟨kk,rfl, ?_⟩
 cases kk with
 |false=>exact k _ M2 ι3 _ H3 ((l1.trans l2).trans l3) w3 (.p (.bl _)) q3
 |true =>
  refine hc A ι3 σ H3 ρ M2 _ _ w3 (e.le ((l1.trans l2).trans l3)) q3 fun c M4 ι4 v4 H4 l4 w4 r4 q4=>?_
  obtain⟨b',c',e3,e4,q4⟩:=q4
  exact h' A ι4 H4 M4 v2 v4 b' c' _ Q w4 ((r2.le (l3.trans l4)).sn w4 e3) (r4.sn w4 e4) q4 fun t ι5 z H5 l5 w5 r5 q5=>k _ M4 ι5 z H5 ((((l1.trans l2).trans l3).trans l4).trans l5) w5 (.p r5) q5
def uTup (ul:UA):UE:=fun ρ M Q=>ul ρ M fun us M1=>∃ts,v9 us=some ts/\Q (.p (.tup ts)) M1
def uLst (ul:UA):UE:=fun ρ M Q=>ul ρ M fun us M1=>∃ts,v9 us=some ts/\Q (.p (.lst ts)) M1
def uNew (ul:UA):UE:=fun ρ M Q=>ul ρ M fun us M1=>Q (.m M1.length) (M1++[.lst us])
def uNewT (ul:UA):UE:=fun ρ M Q=>ul ρ M fun us M1=>Q (.m M1.length) (M1++[.tup us])
theorem le_tup (ha:LA n tl ul) (hn:n<=1000:=by decide):LE (tTup tl) (uTup ul):=fun A ι σ H ρ M Qu Q w e q k =>
 ha A ι σ H ρ M _ _ w e q fun us M1 ι1 vs H1 l1 w1 hl r1 ⟨ts,et,q1⟩=>by
  have r2:=r1
  rw[zo et] at r2
  exact⟨by rw[r1.len,hl]; exact Nat.le_of_lt (qL hn),fun p hp=>k _ M1 ι1 _ _ (l1.trans (.fresh hp)) (w1.fresh hp) (.p (VB w1 hp r2.pures)) q1⟩
theorem le_lst (ha:LA n tl ul) (hn:n<=1000:=by decide):LE (tLst tl) (uLst ul):=fun A ι σ H ρ M Qu Q w e q k =>
 ha A ι σ H ρ M _ _ w e q fun us M1 ι1 vs H1 l1 w1 hl r1 ⟨ts,et,q1⟩=>by
  have r2:=r1
  rw[zo et] at r2
  exact⟨by rw[r1.len,hl]; exact Nat.le_of_lt (qL hn),fun p hp=>k _ M1 ι1 _ _ (l1.trans (.fresh hp)) (w1.fresh hp) (.p (xo w1 hp r2.pures)) q1⟩
theorem QR {α:Type} {l:List α} {x:α}:(l++[x])[l.length]?=some x:=by rw[List.getElem?_append_right (Nat.le_refl _),Nat.sub_self]; rfl
theorem JX (w:Wd A ι H M) {p:Addr} {vs:List V} {us:List U} (h:H p=none) (r:RepUs A ι H vs us):Wd A (ι++[p]) (upd H p (.lst vs)) (M++[.lst us])/\RepU A (ι++[p]) (upd H p (.lst vs)) (.ref p) (.m M.length) :=
 ⟨w.push h ⟨vs,upd_same,r.le (.push h)⟩, .m (by rw[<-w.len]; exact QR)⟩
theorem JW (w:Wd A ι H M) {p:Addr} {vs:List V} {us:List U} (h:H p=none) (r:RepUs A ι H vs us):Wd A (ι++[p]) (upd H p (.tup vs)) (M++[.tup us])/\RepU A (ι++[p]) (upd H p (.tup vs)) (.ref p) (.m M.length) :=
 ⟨w.push h ⟨vs,upd_same,r.le (.push h)⟩, .m (by rw[<-w.len]; exact QR)⟩
theorem le_new (ha:LA n tl ul) (hn:n<=1000:=by decide):LE (tLst tl) (uNew ul):=fun A ι σ H ρ M Qu Q w e q k =>
 ha A ι σ H ρ M _ _ w e q fun us M1 ι1 vs H1 l1 w1 hl r1 q1=>⟨by rw[r1.len,hl]; exact Nat.le_of_lt (qL hn),fun p hp=>k _ _ _ _ _ (l1.trans (.push hp)) (JX w1 hp r1).1 (JX w1 hp r1).2 q1⟩
theorem le_newT (ha:LA n tl ul) (hn:n<=1000:=by decide):LE (tTup tl) (uNewT ul):=fun A ι σ H ρ M Qu Q w e q k =>
 ha A ι σ H ρ M _ _ w e q fun us M1 ι1 vs H1 l1 w1 hl r1 q1=>⟨by rw[r1.len,hl]; exact Nat.le_of_lt (qL hn),fun p hp=>k _ _ _ _ _ (l1.trans (.push hp)) (JW w1 hp r1).1 (JW w1 hp r1).2 q1⟩
def va (M:MM):U->Option (List U)
 |.p (.lst ts)=>some (ts.map .p)
 |.m k=>match M[k]? with
  |some (.lst us)=>some us
  |_=>none
 |_=>none
def vP (M:MM):U->Option (List U)
 |.p (.tup ts)=>some (ts.map .p)
 |.m k=>match M[k]? with
  |some (.tup us)=>some us
  |_=>none
 |_=>none
theorem zi {us:List U} (w:Wd A ι H M) (r:RepU A ι H v u) (e:va M u=some us):∃p vs,v=.ref p/\H p=some (.lst vs)/\RepUs A ι H vs us:=by
 cases r with
 |p r =>
  cases r with
  |lst na e1 l r=>simp[va] at e; subst e; exact⟨_,_,rfl,e1,RepTs.ups (Paired.of_get l r)⟩
  |_=>simp[va] at e
 |m q =>
  obtain⟨o,h1,h2⟩:=w.al q
  simp only[va,h1] at e
  cases o with
  |lst us=>simp at e; subst e; obtain⟨vs,h3,h4⟩:=h2; exact⟨_,_,rfl,h3,h4⟩
  |_=>simp at e
 |x h=>simp[va] at e
theorem xE {us:List U} (w:Wd A ι H M) (r:RepU A ι H v u) (e:vP M u=some us):∃p vs,v=.ref p/\H p=some (.tup vs)/\RepUs A ι H vs us:=by
 cases r with
 |p r =>
  cases r with
  |tup na e1 l r=>simp[vP] at e; subst e; exact⟨_,_,rfl,e1,RepTs.ups (Paired.of_get l r)⟩
  |_=>simp[vP] at e
 |m q =>
  obtain⟨o,h1,h2⟩:=w.al q
  simp only[vP,h1] at e
  cases o with
  |tup us=>simp at e; subst e; obtain⟨vs,h3,h4⟩:=h2; exact⟨_,_,rfl,h3,h4⟩
  |_=>simp at e
 |x h=>simp[vP] at e
theorem KT {vs:List V} {us:List U} {i:Int} {z:U} (r:RepUs A ι H vs us) (e:atI us i=some z):∃x,atI vs i=some x/\RepU A ι H x z:=by
 unfold atI at e ⊢
 rw[r.len]
 cases q:ixN us.length i with
 |none=>rw[q] at e; cases e
 |some j =>
  rw[q] at e
  exact Paired.getR r e
def uIx (it:MM->U->Option (List U)) (ua ub:UE):UE:=fun ρ M Q=>ua ρ M fun x M1=>ub ρ M1 fun y M2=>∃us i z,it M2 x=some us/\y=.p (.int i)/\atI us i=some z/\Q z M2
theorem le_ixL {K:PySem.W.Frag} (ha:LE ta ua) (hb:LE tb ub):LE (tOp (rIxL K) ta tb) (uIx va ua ub):=fun A ι σ H ρ M Qu Q w e q k =>
 ha A ι σ H ρ M _ _ w e q fun x M1 ι1 v H1 l1 w1 r1 q1=>hb A ι1 σ H1 ρ M1 _ _ w1 (e.le l1) q1 fun y M2 ι2 v2 H2 l2 w2 r2 ⟨us,i,z,e1,e2,e3,q2⟩=>by
  subst e2
  obtain⟨p,vs,rfl,h1,h2⟩:=zi w2 (r1.le l2) e1
  obtain⟨x',h3,h4⟩:=KT h2 e3
  cases r2 with
  |p r=>cases r; exact⟨p,vs,i,x',rfl,rfl,SqL.of h1,h3,k z M2 ι2 x' H2 (l1.trans l2) w2 h4 q2⟩
theorem le_ixT {K:PySem.W.Frag} (ha:LE ta ua) (hb:LE tb ub):LE (tOp (rIxT K) ta tb) (uIx vP ua ub):=fun A ι σ H ρ M Qu Q w e q k =>
 ha A ι σ H ρ M _ _ w e q fun x M1 ι1 v H1 l1 w1 r1 q1=>hb A ι1 σ H1 ρ M1 _ _ w1 (e.le l1) q1 fun y M2 ι2 v2 H2 l2 w2 r2 ⟨us,i,z,e1,e2,e3,q2⟩=>by
  subst e2
  obtain⟨p,vs,rfl,h1,h2⟩:=xE w2 (r1.le l2) e1
  obtain⟨x',h3,h4⟩:=KT h2 e3
  cases r2 with
  |p r=>cases r; exact⟨p,vs,i,x',rfl,rfl,SqT.of h1,h3,k z M2 ι2 x' H2 (l1.trans l2) w2 h4 q2⟩
def CbL (r:List V->Hp->VK->Prop) (s:List T->(T->Prop)->Prop):Prop:=∀(A:Addr->Prop) (ι:List Addr) (H:Hp) (M:MM) (vs:List V) (ts:List T) (Qs:T->Prop) (Q:VK),Wd A ι H M->Paired (RepV (Av A ι) H) vs ts->s ts Qs ->
 (∀t ι' v H',Le ι H ι' H'->Wd A ι' H' M->RepT (Av A ι') H' v t->Qs t->Q v H')->r vs H Q
def uCb (s:List T->(T->Prop)->Prop) (ul:UA):UE:=fun ρ M Q=>ul ρ M fun us M1=>∃ts,sns M1 us=some ts/\s ts fun t=>Q (.p t) M1
theorem le_cb {r:List V->Hp->VK->Prop} {s:List T->(T->Prop)->Prop} (h:CbL r s) (ha:LA n tl ul):LE (tCB r tl) (uCb s ul):=fun A ι σ H ρ M Qu Q w e q k =>
 ha A ι σ H ρ M _ _ w e q fun us M1 ι1 vs H1 l1 w1 hl r1 ⟨ts,e1,q1⟩=>h A ι1 H1 M1 vs ts _ Q w1 (r1.sns w1 e1) q1 fun t ι2 z H2 l2 w2 r2 q2=>k _ M1 ι2 z H2 (l1.trans l2) w2 (.p r2) q2
theorem pv1 {vs:List V} {t:T} (r:Paired (RepV A H) vs [t]):∃v,vs=[v]/\RepV A H v t:=by
 cases r with
 |cons r q=>cases q; exact⟨_,rfl,r⟩
def sAbs:List T->(T->Prop)->Prop:=fun ts Q=>∃i,ts=[.int i]/\Q (.int (if i<0 then -i else i))
def sMin:List T->(T->Prop)->Prop:=fun ts Q=>∃i j,ts=[.int i, .int j]/\Q (.int (if j<i then j else i))
def sMax:List T->(T->Prop)->Prop:=fun ts Q=>∃i j,ts=[.int i, .int j]/\Q (.int (if j>i then j else i))
def sInt:List T->(T->Prop)->Prop:=fun ts Q=>(∃i,ts=[.int i]/\Q (.int i))\/∃k,ts=[.bl k]/\Q (.int (if k then 1 else 0))
theorem KM:CbL (fun xs H Q=>(∃i,xs=[.int i]/\Q (.int i) H)\/∃k,xs=[.bl k]/\Q (.int (if k then 1 else 0)) H) sInt:=fun A ι H M vs ts Qs Q w r h k=>by
 rcases h with⟨i,e,q⟩|⟨b,e,q⟩
 ·subst e
  obtain⟨v,ev,r1⟩:=pv1 r
  subst ev
  cases r1.int_inv
  exact .inl ⟨i,rfl,k _ ι _ H (.refl _ _) w (.int _) q⟩
 ·subst e
  obtain⟨v,ev,r1⟩:=pv1 r
  subst ev
  cases r1.bl_inv
  exact .inr ⟨b,rfl,k _ ι _ H (.refl _ _) w (.int _) q⟩
def bls:List T->Option (List Bool)
 | []=>some []
 |.bl b::r=>(bls r).map (b :: ·)
 |_=>none
@[simp] theorem KP:∀bs:List Bool,bls (bs.map T.bl)=some bs
 | []=>rfl
 |b::r=>by simp[bls,KP r]
theorem KO:∀{vs:List V} {ts:List T} {bs:List Bool},RepTs A H vs ts->bls ts=some bs->vs=bs.map V.bl
 |_,_,_, .nil,e=>by simp[bls] at e; subst e; rfl
 |_,_,_, .cons r q,e=>by
  cases r<;>simp[bls] at e
  obtain⟨a,h1,rfl⟩:=e
  rw[List.map_cons,KO q h1]
def sAll:List T->(T->Prop)->Prop:=fun ts Q=>∃xs bs,ts=[.lst xs]/\bls xs=some bs/\Q (.bl (bs.all id))
theorem cbl_all:CbL rAll sAll:=fun A ι H M vs ts Qs Q w r ⟨xs,bs,e,eb,q⟩ k=>by
 subst e
 obtain⟨v,ev,r1⟩:=pv1 r
 subst ev
 obtain⟨p,zs,rfl,h1,h2⟩:=r1.lst_inv
 exact⟨p,bs,rfl,by rw[h1,KO h2 eb],k _ ι _ H (.refl _ _) w (.bl _) q⟩
def uLen (it:MM->U->Option (List U)) (ul:UA):UE:=fun ρ M Q=>ul ρ M fun us M1=>∃x ys,us=[x]/\it M1 x=some ys/\Q (.p (.int ys.length)) M1
theorem le_len (ha:LA n tl ul):LE (tCB rLenL tl) (uLen va ul):=fun A ι σ H ρ M Qu Q w e q k =>
 ha A ι σ H ρ M _ _ w e q fun us M1 ι1 vs H1 l1 w1 hl r1 ⟨x,ys,e1,e2,q1⟩=>by
  subst e1
  cases r1 with
  |cons r q =>
   cases q
   obtain⟨p,zs,rfl,h1,h2⟩:=zi w1 r e2
   exact⟨p,zs,rfl,h1,by rw[h2.len]; exact k _ M1 ι1 _ H1 l1 w1 (.p (.int _)) q1⟩
def uBits (ua:UE):UE:=fun ρ M Q=>ua ρ M fun x M1=>∃i,x=.p (.int i)/\Q (.p (.int (Builtin.Int.intBits i))) M1
def cutT (xs:List T) (lo hi:Option Int):List T:=(xs.drop (HT.sIx xs.length 0 lo)).take (HT.sIx xs.length xs.length hi-HT.sIx xs.length 0 lo)
theorem cut_rep {vs:List V} {ts:List T} {lo hi:Option Int} (r:RepTs A H vs ts):RepTs A H (cutV vs lo hi) (cutT ts lo hi):=by
 unfold cutV cutT
 rw[r.len]
 exact(r.dr _).tk _
abbrev UO:=UEnv->MM->(Option Int->MM->Prop)->Prop
def LO (to:TO) (uo:UO):Prop:=∀(A:Addr->Prop) (ι:List Addr) (σ:St) (H:Hp) (ρ:UEnv) (M:MM) (Qu:Option Int->MM->Prop) (Q:Option Int->Hp->Prop),Wd A ι H M->EnvR A ι H σ ρ->uo ρ M Qu ->
 (∀b M' ι' H',Le ι H ι' H'->Wd A ι' H' M'->Qu b M'->Q b H')->to σ H Q
def VX:UO:=fun _ M Q=>Q none M
def uPart (ua:UE):UO:=fun ρ M Q=>ua ρ M fun x M1=>∃i,x=.p (.int i)/\Q (some i) M1
theorem lo_none:LO xa VX:=fun A ι σ H ρ M Qu Q w e q k=>k _ M ι H (.refl _ _) w q
theorem lo_some (ha:LE ta ua):LO (Va ta) (uPart ua):=fun A ι σ H ρ M Qu Q w e q k =>
 ha A ι σ H ρ M _ _ w e q fun x M1 ι1 v H1 l1 w1 r1 ⟨i,ex,q1⟩=>by
  subst ex
  cases r1 with
  |p r=>cases r; exact⟨i,rfl,k _ M1 ι1 H1 l1 w1 q1⟩
def uSl (ua:UE) (ul uh:UO):UE:=fun ρ M Q=>ua ρ M fun x M1=>ul ρ M1 fun l M2=>uh ρ M2 fun h M3=>∃ts,sn M3 x=some (.lst ts)/\Q (.p (.lst (cutT ts l h))) M3
theorem le_sl {K:PySem.W.Frag} {t1 t2:TO} {u1 u2:UO} (ha:LE ta ua) (h1:LO t1 u1) (h2:LO t2 u2):LE (tSl (rSlL K) ta t1 t2) (uSl ua u1 u2):=fun A ι σ H ρ M Qu Q w e q k =>
 ha A ι σ H ρ M _ _ w e q fun x M1 ι1 v H1 l1 w1 r1 q1=>h1 A ι1 σ H1 ρ M1 _ _ w1 (e.le l1) q1 fun lo M2 ι2 H2 l2 w2 q2=>h2 A ι2 σ H2 ρ M2 _ _ w2 (e.le (l1.trans l2)) q2 fun hi M3 ι3 H3 l3 w3 ⟨ts,es,q3⟩=>by
  obtain⟨p,vs,rfl,h4,h5⟩:=((r1.le (l2.trans l3)).sn w3 es).lst_inv
  exact⟨p,vs,rfl,SqL.of h4,fun r hr=>k _ M3 ι3 _ _ (((l1.trans l2).trans l3).trans (.fresh hr)) (w3.fresh hr) (.p (xo w3 hr (cut_rep h5))) q3⟩
end
section
variable {te ta tb:TE} {ue ua ub:UE} {tt:TT} {ut:UT} {tl:TA} {ul:UA} {n:Nat} {A A' A2:Addr->Prop} {H H' H1 H2:Hp} {ι ι' ι1 ι2:List Addr} {M M':MM} {v:V} {u:U} {t:T} {σ:St} {ρ:UEnv} {K:PySem.W.Frag}
structure Lea (A:Addr->Prop) (ι:List Addr) (H:Hp) (A':Addr->Prop) (ι':List Addr) (H':Hp):Prop where
 ext:∃n,ι'=ι++n
 av:∀x o,¬Av A ι x->H x=some o->H' x=some o/\¬Av A' ι' x
 xd:∀x fs,x∉ι->H x=some (.xd fs)->x∉ι'/\H' x=some (.xd fs)
theorem Le.xd (l:Le ι H ι' H'):∀x fs,x∉ι->H x=some (.xd fs)->x∉ι'/\H' x=some (.xd fs):=fun x fs hx e=>by
 obtain⟨m,rfl,hm⟩:=l.ext
 refine⟨fun z=>?_,l.fr x _ e hx⟩
 rcases List.mem_append.mp z with z|z
 ·exact hx z
 ·rw[hm x z] at e; cases e
theorem Le.lea (l:Le ι H ι' H'):Lea A ι H A ι' H':=⟨let⟨n,e,_⟩:=l.ext; ⟨n,e⟩,fun _ _ h e=>l.av h e,l.xd⟩
theorem Lea.trans (a:Lea A ι H A' ι' H') (b:Lea A' ι' H' A2 ι2 H2):Lea A ι H A2 ι2 H2:=by
 obtain⟨n,rfl⟩:=a.ext
 obtain⟨m,rfl⟩:=b.ext
 exact⟨⟨n++m,by rw[List.append_assoc]⟩,fun x o h e=>b.av x o (a.av x o h e).2 (a.av x o h e).1,fun x fs h e=>b.xd x fs (a.xd x fs h e).1 (a.xd x fs h e).2⟩
theorem RepU.lea (l:Lea A ι H A' ι' H') (r:RepU A ι H v u):RepU A' ι' H' v u:=by
 cases r with
 |p r=>exact .p (r.mono l.av)
 |m e =>
  obtain⟨n,rfl⟩:=l.ext
  exact .m (by rw[List.getElem?_append_left (List.getElem?_eq_some_iff.mp e).1]; exact e)
 | @x a d q h =>
  refine .x ?_
  cases q with
  |none=>exact h
  |some n =>
   obtain⟨x0,e,ni,hx⟩:=h
   have:=l.xd x0 _ ni hx
   exact⟨x0,e,this.1,this.2⟩
theorem EnvR.lea (l:Lea A ι H A' ι' H') (r:EnvR A ι H σ ρ):EnvR A' ι' H' σ ρ:=Paired.mapP r fun _ _ q u e=>by
 obtain⟨v,h1,h2⟩:=q u e
 exact⟨v,h1,h2.lea l⟩
structure UIt where
 n:Nat
 ok:MM->Prop
 item:Nat->U->Prop
def ItR (A:Addr->Prop) (ι1:List Addr) (H1:Hp) (J:It) (it:UIt):Prop:=∀(A':Addr->Prop) (ι:List Addr) (H:Hp) (M:MM) (i:Nat),Lea A ι1 H1 A' ι H->Wd A' ι H M->it.ok M ->
 (i<it.n->J.go i H/\∀x H',J.yld i H x H'->∃u,it.item i u/\Le ι H ι H'/\Wd A' ι H' M/\RepU A' ι H' x u)/\(i=it.n->J.stop i H)
abbrev UI:=UEnv->MM->(UIt->MM->Prop)->Prop
def LI (wi:TI) (ui:UI):Prop:=∀(A:Addr->Prop) (ι:List Addr) (σ:St) (H:Hp) (ρ:UEnv) (M:MM) (Qu:UIt->MM->Prop) (R:It->Hp->Prop),Wd A ι H M->EnvR A ι H σ ρ->ui ρ M Qu ->
 (∀it M' ι' J H',Le ι H ι' H'->Wd A ι' H' M'->ItR A ι' H' J it->Qu it M'->R J H')->wi σ H R
def uIter (ua:UE):UI:=fun ρ M Q=>ua ρ M fun x M1=>∃us,va M1 x=some us/\Q ⟨us.length,fun M=>va M x=some us,fun i z=>us[i]?=some z⟩ M1
theorem li_list (ha:LE ta ua):LI (XN K ta) (uIter ua):=fun A ι σ H ρ M Qu R w e q k =>
 ha A ι σ H ρ M _ _ w e q fun x M1 ι1 v H1 l1 w1 r1 ⟨us,eu,q1⟩=>by
  obtain⟨p,vs,rfl,h1,h2⟩:=zi w1 r1 eu
  refine⟨p,rfl,⟨vs,SqL.of h1⟩,k _ M1 ι1 _ H1 l1 w1 ?_ q1⟩
  intro A' ι2 H2 M2 i l w2 ok
  obtain⟨p',vs2,e2,h3,h4⟩:=zi w2 (r1.lea l) ok
  cases e2
  have hl:=h4.len
  refine⟨fun hi=>?_,fun hi=>⟨vs2,SqL.of h3,by rw[hl]; exact Nat.le_of_eq hi.symm⟩⟩
  have hx:vs2[i]?=some (vs2[i]'(by rw[hl]; exact hi)):=List.getElem?_eq_getElem _
  refine⟨⟨vs2,_,SqL.of h3,hx⟩,fun x H' y=>?_⟩
  obtain⟨rfl,y⟩:=y
  have hx2:=y vs2 (SqL.of h3)
  obtain⟨z,hz,rz⟩:=Paired.getL h4 hx2
  exact⟨z,hz, .refl _ _,w2,rz⟩
def uRev (ul:UA):UI:=fun ρ M Q=>ul ρ M fun xs M1=>∃x us,xs=[x]/\va M1 x=some us/\Q ⟨us.length,fun M=>va M x=some us,fun i z=>us[us.length-1-i]?=some z⟩ M1
def uRng1 (ul:UA):UI:=fun ρ M Q=>ul ρ M fun xs M1=>∃j:Int,xs=[.p (.int j)] /\ -(2^62)<=j/\j<2^62/\Q ⟨j.toNat,fun _=>True,fun i z=>z=.p (.int i)⟩ M1
theorem itr_ok {lo:Int} {n:Nat}:ItR A ι H (Itr lo n) ⟨n,fun _=>True,fun i z=>z=.p (.int (lo+i))⟩:=fun A' ι2 H2 M2 i l w2 _ =>
 ⟨fun hi=>⟨hi,fun x H' y=>by
  obtain⟨rfl,rfl⟩:=y
  exact⟨_,rfl, .refl _ _,w2, .p (.int _)⟩⟩,fun hi=>Nat.le_of_eq hi.symm⟩
theorem li_rng1 (ha:LA n tl ul):LI (Kj tl) (uRng1 ul):=fun A ι σ H ρ M Qu R w e q k =>
 ha A ι σ H ρ M _ _ w e q fun xs M1 ι1 vs1 H1 l1 w1 hn r0 ⟨j,ex,j0,j1,q1⟩=>by
  subst ex
  cases r0 with
  |cons r1 r0 =>
  cases r0
  cases r1 with
  |p r =>
  cases r
  have:=itr_ok (A:=A) (ι:=ι1) (H:=H1) (lo:=0) (n:=j.toNat)
  simp only[Int.zero_add] at this
  exact⟨j,rfl,j0,j1,k _ M1 ι1 _ H1 l1 w1 this q1⟩
abbrev UG:=U->UEnv->MM->(UEnv->MM->Prop)->Prop
def LG (g:TG) (ug:UG):Prop:=∀(A:Addr->Prop) (ι:List Addr) (σ:St) (H:Hp) (ρ:UEnv) (M:MM) (v:V) (u:U) (Qu:UEnv->MM->Prop) (Q:St->Hp->Prop),Wd A ι H M->EnvR A ι H σ ρ->RepU A ι H v u->ug u ρ M Qu ->
 (∀ρ' M' ι' σ' H',Le ι H ι' H'->Wd A ι' H' M'->EnvR A ι' H' σ' ρ'->Qu ρ' M'->Q σ' H')->g v σ H Q
def X2 (i:Nat):UG:=fun u ρ M Q=>Q (ρ.set i (some u)) M
def X1 (i j:Nat):UG:=fun u ρ M Q=>∃a b,vP M u=some [a,b]/\Q ((ρ.set i (some a)).set j (some b)) M
def X0 (i j k:Nat):UG:=fun u ρ M Q=>∃a b c,vP M u=some [a,b,c]/\Q (((ρ.set i (some a)).set j (some b)).set k (some c)) M
theorem lg_name (i:Nat):LG (qS i) (X2 i):=fun A ι σ H ρ M v u Qu Q w e r q k=>k _ M ι _ H (.refl _ _) w (e.put i r) q
theorem rep2 {vs:List V} {a b:U} (r:RepUs A ι H vs [a,b]):∃x y,vs=[x,y]/\RepU A ι H x a/\RepU A ι H y b:=by
 cases r with
 |cons r q=>cases q with|cons r2 q=>cases q; exact⟨_,_,rfl,r,r2⟩
theorem rep3 {vs:List V} {a b c:U} (r:RepUs A ι H vs [a,b,c]):∃x y z,vs=[x,y,z]/\RepU A ι H x a/\RepU A ι H y b/\RepU A ι H z c:=by
 cases r with
 |cons r q =>
  obtain⟨y,z,rfl,r2,r3⟩:=rep2 q
  exact⟨_,_,_,rfl,r,r2,r3⟩
theorem lg_name2 (i j:Nat):LG (gTup K 2 (vh (qS i) (vh (qS j) gNil))) (X1 i j):=fun A ι σ H ρ M v u Qu Q w e r ⟨a,b,ei,q⟩ k=>by
 obtain⟨p,vs,rfl,h1,h2⟩:=xE w r ei
 obtain⟨x,y,rfl,r1,r2⟩:=rep2 h2
 exact Z9 h1 (k _ M ι _ H (.refl _ _) w ((e.put i r1).put j r2) q)
theorem lg_name3 (i j l:Nat):LG (gTup K 3 (vh (qS i) (vh (qS j) (vh (qS l) gNil)))) (X0 i j l):=fun A ι σ H ρ M v u Qu Q w e r ⟨a,b,c,ei,q⟩ k=>by
 obtain⟨p,vs,rfl,h1,h2⟩:=xE w r ei
 obtain⟨x,y,z,rfl,r1,r2,r3⟩:=rep3 h2
 exact Z8 h1 (k _ M ι _ H (.refl _ _) w (((e.put i r1).put j r2).put l r3) q)
def uSub (uo ui:UE):UG:=fun u ρ M Q=>uo ρ M fun o M1=>ui ρ M1 fun i M2=>∃k us z j,o=.m k/\M2[k]?=some (.lst us)/\i=.p (.int z)/\ixN us.length z=some j/\Q ρ (M2.set k (.lst (us.set j u)))
theorem lg_sub (ha:LE ta ua) (hb:LE tb ub):LG (gSub ta tb rSetL) (uSub ua ub):=fun A ι σ H ρ M v u Qu Q w e r q k =>
 ha A ι σ H ρ M _ _ w e q fun o M1 ι1 v1 H1 l1 w1 r1 q1=>hb A ι1 σ H1 ρ M1 _ _ w1 (e.le l1) q1 fun i M2 ι2 v2 H2 l2 w2 r2 ⟨kk,us,z,j,eo,em,ei,ej,q2⟩=>by
  subst eo ei
  cases r2 with
  |p r2 =>
  cases r2
  have r1':=r1.le l2
  cases r1' with
  |m ek =>
  obtain⟨vs,h1,h2⟩:=w2.obj kk _ _ ek em
  have hm:=List.mem_of_getElem? ek
  refine⟨_,vs,z,j,rfl,rfl,h1,by rw[h2.len]; exact ej,k _ _ ι2 _ _ ((l1.trans l2).trans (.put hm)) (w2.put (mo:=.lst (us.set j u)) ek ⟨_,upd_same, ?_⟩) (e.le ((l1.trans l2).trans (.put hm))) q2⟩
  exact RepUs.le (.put hm) (Paired.put (r.le (l1.trans l2)) j h2)
def ZM (bs:List Bool) (n i:Nat):Bool:=match bs[i]? with
 |some b => !b
 |none=>decide (i<bs.length+n)
theorem J5 {bs:List Bool} {n i:Nat} {σ:St} (hl:σ.length=bs.length) (h:ZM bs n i=true):(v3 bs n σ)[i]?=some none:=by
 unfold ZM at h
 unfold v3
 have hz:((bs.zip σ).map (fun p=>if p.1 then p.2 else none)).length=bs.length:=by simp[hl]
 cases e:bs[i]? with
 |some b =>
  rw[e] at h
  have hi:=(List.getElem?_eq_some_iff.mp e).1
  rw[List.getElem?_append_left (by rw[hz]; exact hi),List.getElem?_map]
  have hb:b=false:=by simpa using h
  have e2:(bs.zip σ)[i]?=some (b,σ[i]'(by omega)):=by
   rw[List.getElem?_eq_getElem (by simp[hl]; exact hi)]
   simp
   exact(List.getElem?_eq_some_iff.mp e).2
  rw[e2,hb]
  rfl
 |none =>
  rw[e] at h
  have hi:=List.getElem?_eq_none_iff.mp e
  simp at h
  rw[List.getElem?_append_right (by rw[hz]; exact hi),hz,List.getElem?_replicate]
  rw[if_pos (by omega)]
def LGx (bs:List Bool) (n:Nat) (g:TG) (ug:UG):Prop:=∀(A:Addr->Prop) (ι:List Addr) (σ:St) (H:Hp) (ρ:UEnv) (M:MM) (v:V) (u:U) (Qu:UEnv->MM->Prop) (Q:St->Hp->Prop),σ.length=bs.length->Wd A ι H M->EnvR A ι H (v3 bs n σ) ρ->RepU A ι H v u->ug u ρ M Qu ->
 (∀ρ' σ',EnvR A ι H σ' ρ'->ExtS (v3 bs n σ) σ'->σ'.length=(v3 bs n σ).length->Qu ρ' M->Q σ' H)->g v (v3 bs n σ) H Q
theorem lgx_name {bs:List Bool} (i:Nat) (h:ZM bs n i=true:=by rfl):LGx bs n (qS i) (X2 i):=fun A ι σ H ρ M v u Qu Q hl w e r q k =>
 k _ _ (e.put i r) ((ExtS.refl _).put (J5 hl h)) (by simp) q
theorem lt_yes:LT tYes (fun _ M Q=>Q true M):=fun A ι σ H ρ M Qu Q w e q k=>k true M ι H (.refl _ _) w q
abbrev uYes:UT:=fun _ M Q=>Q true M
def XT (it:UIt) (ug:UG) (ut:UT) (ue:UE) (ρ0:UEnv) (M1:MM) (Q:UK):Prop:=it.n<=sizeLine/\∃Iv:Nat->List T->MM->Prop,Iv 0 [] M1 /\
 (∀i acc M2,i<it.n->acc.length<=i->Iv i acc M2->it.ok M2/\∀u,it.item i u->ug u ρ0 M2 fun ρ4 M4=>ut ρ4 M4 fun b M5=>if b=true then ue ρ4 M5 fun z M6=>∃t,z=.p t/\Iv (i+1) (acc++[t]) M6 else Iv (i+1) acc M5) /\
 (∀acc M2,Iv it.n acc M2->it.ok M2/\Q (.p (.lst acc)) M2)
def jS (ui:UI) (bs:List Bool) (n:Nat) (ug:UG) (ut:UT) (ue:UE):UE:=fun ρ M Q=>ui ρ M fun it M1=>ρ.length=bs.length/\XT it ug ut ue (Vv bs n ρ) M1 Q
theorem Wd.addA (w:Wd A ι H M) {p:Addr} {o:HO} (h:H p=none):Wd (fun x=>A x\/x=p) ι (upd H p o) M:=by
 have w2:=w.fresh (o:=o) h
 have hm:∀x o',¬Av A ι x->(upd H p o) x=some o'->H x≠none->(upd H p o) x=some o'/\¬Av (fun x=>A x\/x=p) ι x:=fun x o' hx e hs=>⟨e,fun z=>by
  rcases z with(z|z)|z
  ·exact hx (.inl z)
  ·subst z; exact hs h
  ·exact hx (.inr z)⟩
 have hl:Lea A ι H (fun x=>A x\/x=p) ι (upd H p o):=⟨⟨[],by simp⟩,fun x o' hx e=>hm x o' hx (vQ h e) (by rw[e]; simp),fun x fs hx e=>⟨hx,vQ h e⟩⟩
 refine⟨w.nd,w.len,fun x hx=>?_,fun x hx z=>?_,fun k a ob e1 e2=>?_⟩
 ·rcases hx with hx|hx
  ·exact w2.dom x hx
  ·rw[hx,upd_same]; simp
 ·rcases z with z|z
  ·exact w.na x hx z
  ·exact w.nin h (by rw[<-z]; exact hx)
 ·have r:=w.obj k a ob e1 e2
  have ea:upd H p o a=H a:=upd_ne fun z=>by
   obtain⟨q,hq⟩:=r.some
   rw[z,h] at hq; cases hq
  cases ob with
  |lst=>obtain⟨vs,e,r⟩:=r; exact⟨vs,by rw[ea]; exact e,Paired.mapP r fun _ _ q=>q.lea hl⟩
  |tup=>obtain⟨vs,e,r⟩:=r; exact⟨vs,by rw[ea]; exact e,Paired.mapP r fun _ _ q=>q.lea hl⟩
  |ins =>
   obtain⟨dx,gs,e,ed,nd,r⟩:=r
   exact⟨dx,gs,by rw[ea]; exact e,vQ h ed,nd,Paired.mapP r fun _ _ q=>⟨q.1,q.2.lea hl⟩⟩
  |dK=>obtain⟨gs,e,r⟩:=r; exact⟨gs,by rw[ea]; exact e,Paired.mapP r fun _ _ q=>⟨q.1,q.2.lea hl⟩⟩
theorem Wd.lessA (w:Wd A' ι H M) (h:∀x,A x->A' x):Wd A ι H M:=by
 have hl:Lea A' ι H A ι H:=⟨⟨[],by simp⟩,fun x o hx e=>⟨e,fun z=>hx (z.elim (fun z=>.inl (h x z)) .inr)⟩,fun x fs hx e=>⟨hx,e⟩⟩
 refine⟨w.nd,w.len,fun x hx=>w.dom x (h x hx),fun x hx z=>w.na x hx (h x z),fun k a ob e1 e2=>?_⟩
 have r:=w.obj k a ob e1 e2
 cases ob with
 |lst=>obtain⟨vs,e,r⟩:=r; exact⟨vs,e,Paired.mapP r fun _ _ q=>q.lea hl⟩
 |tup=>obtain⟨vs,e,r⟩:=r; exact⟨vs,e,Paired.mapP r fun _ _ q=>q.lea hl⟩
 |ins=>obtain⟨dx,gs,e,ed,nd,r⟩:=r; exact⟨dx,gs,e,ed,nd,Paired.mapP r fun _ _ q=>⟨q.1,q.2.lea hl⟩⟩
 |dK=>obtain⟨gs,e,r⟩:=r; exact⟨gs,e,Paired.mapP r fun _ _ q=>⟨q.1,q.2.lea hl⟩⟩
theorem Wd.updA (w:Wd A ι H M) {p:Addr} {o:HO} {ys:List V} (ha:A p) (hp:H p=some (.lst ys)):Lea A ι H A ι (upd H p o)/\Wd A ι (upd H p o) M:=by
 have hl:Lea A ι H A ι (upd H p o):=⟨⟨[],by simp⟩,fun x o' hx e=>⟨by rw[upd_ne fun z=>hx (.inl (by rw[z]; exact ha))]; exact e,hx⟩,fun x fs hx e=>⟨hx,by rw[upd_ne fun z=>by rw[z,hp] at e; cases e]; exact e⟩⟩
 refine⟨hl,w.nd,w.len,fun x hx=>?_,w.na,fun k a ob e1 e2=>?_⟩
 ·by_cases z:x=p
  ·rw[z,upd_same]; simp
  ·rw[upd_ne z]; exact w.dom x hx
 ·have r:=w.obj k a ob e1 e2
  have ea:upd H p o a=H a:=upd_ne fun z=>w.na a (List.mem_of_getElem? e1) (by rw[z]; exact ha)
  cases ob with
  |lst=>obtain⟨vs,e,r⟩:=r; exact⟨vs,by rw[ea]; exact e,Paired.mapP r fun _ _ q=>q.lea hl⟩
  |tup=>obtain⟨vs,e,r⟩:=r; exact⟨vs,by rw[ea]; exact e,Paired.mapP r fun _ _ q=>q.lea hl⟩
  |ins =>
   obtain⟨dx,gs,e,ed,nd,r⟩:=r
   exact⟨dx,gs,by rw[ea]; exact e,by rw[upd_ne fun z=>by rw[z,hp] at ed; cases ed]; exact ed,nd,Paired.mapP r fun _ _ q=>⟨q.1,q.2.lea hl⟩⟩
  |dK=>obtain⟨gs,e,r⟩:=r; exact⟨gs,by rw[ea]; exact e,Paired.mapP r fun _ _ q=>⟨q.1,q.2.lea hl⟩⟩
theorem Le.updF {p:Addr} {o:HO} (l:Le ι H ι' H') (h:H p=none):Le ι H ι' (upd H' p o):=⟨l.ext,fun x o' e n=>by rw[upd_ne (qT e h)]; exact l.fr x o' e n,fun x e=>by
 by_cases z:x=p
 ·rw[z,upd_same]; simp
 ·rw[upd_ne z]; exact l.al x e⟩
theorem le_comp {wi:TI} {ui:UI} {bs:List Bool} {g:TG} {ug:UG} (hi:LI wi ui) (hg:LGx bs n g ug) (ht:LT tt ut) (he:LE te ue):LE (ja wi bs n g tt te) (jS ui bs n ug ut ue):=by
 intro A ι σ H ρ M Qu Q w e q k
 refine hi A ι σ H ρ M _ _ w e q fun it M1 ι1 J H1 l1 w1 hJ q1 acc hacc=>?_
 obtain⟨hlen,hsz,Iv,I0,It,Id⟩:=q1
 have hσ:σ.length=bs.length:=by rw[<-hlen]; exact e.len
 have e1:=e.le l1
 have na:¬Av A ι1 acc:=w1.nA hacc
 have key:∀ι2 H2,Le ι1 H1 ι2 H2->(∀x∈ι2,¬(A x\/x=acc))->Lea A ι1 H1 (fun x=>A x\/x=acc) ι2 H2:=fun ι2 H2 l h=>by
  refine⟨let⟨n,e,_⟩:=l.ext; ⟨n,e⟩,fun x o hx ex=>?_,l.xd⟩
  obtain⟨a1,a2⟩:=l.av hx ex
  refine⟨a1,fun z=>?_⟩
  rcases z with(z|z)|z
  ·exact a2 (.inl z)
  ·rw[z,hacc] at ex; cases ex
  ·exact a2 (.inr z)
 refine⟨fun i m H2=>m=it.n-i/\i<=it.n/\∃ι2 M2 at' ys,Le ι1 H1 ι2 H2/\Wd (fun x=>A x\/x=acc) ι2 H2 M2/\H2 acc=some (.lst ys)/\RepTs (Av (fun x=>A x\/x=acc) ι2) H2 ys at'/\at'.length<=i/\Iv i at' M2,
  ⟨it.n,by simp,Nat.zero_le _,ι1,M1, [], [], .fresh hacc,w1.addA hacc,upd_same, .nil,Nat.le_refl _,I0⟩, ?_⟩
 rintro i m H2 ⟨rfl,hin,ι2,M2,at',ys,l2,w2,hys,rys,hat,I2⟩
 have lea:=key ι2 H2 l2 w2.na
 by_cases hlt:i<it.n
 ·obtain⟨ok,step⟩:=It i at' M2 hlt hat I2
  obtain⟨jgo,jy⟩:=(hJ _ ι2 H2 M2 i lea w2 ok).1 hlt
  refine .inr ⟨jgo,fun H'=>∃ι2 M2 at' ys,Le ι1 H1 ι2 H'/\Wd (fun x=>A x\/x=acc) ι2 H' M2/\H' acc=some (.lst ys)/\RepTs (Av (fun x=>A x\/x=acc) ι2) H' ys at'/\at'.length<=i+1/\Iv (i+1) at' M2,fun H' h=>⟨it.n-(i+1),by omega,rfl,hlt,h⟩,fun x H3 y=>?_⟩
  obtain⟨u,hu,l3,w3,r3⟩:=jy x H3 y
  have l13:=l2.trans l3
  have nacc:∀{ι':List Addr} {H':Hp} {M':MM},Wd (fun x=>A x\/x=acc) ι' H' M'->acc∉ι':=fun w z=>w.na acc z (.inr rfl)
  have ys3:H3 acc=some (.lst ys):=l3.fr _ _ hys (nacc w2)
  have env3:EnvR (fun x=>A x\/x=acc) ι2 H3 (v3 bs n σ) (Vv bs n ρ):=(e1.mask).lea (key ι2 H3 l13 w3.na)
  refine hg _ ι2 σ H3 _ M2 x u _ _ hσ w3 env3 r3 (step u hu) fun ρ4 σ4 e4 x4 len4 q4=>⟨⟨x4,len4⟩, ?_⟩
  refine ht _ ι2 σ4 H3 ρ4 M2 _ _ w3 e4 q4 fun b M5 ι5 H5 l5 w5 q5=>?_
  have ys5:H5 acc=some (.lst ys):=l5.fr _ _ ys3 (nacc w3)
  have rys5:RepTs (Av (fun x=>A x\/x=acc) ι5) H5 ys at':=Paired.mapP rys fun _ _ q=>(q.le l3).le l5
  cases b with
  |false=>exact⟨ι5,M5,at',ys,l13.trans l5,w5,ys5,rys5,Nat.le_succ_of_le hat,q5⟩
  |true =>
   refine he _ ι5 σ4 H5 ρ4 M5 _ _ w5 (e4.le l5) q5 fun z M6 ι6 zv H6 l6 w6 r6 q6=>?_
   obtain⟨t,rfl,q6⟩:=q6
   have ys6:H6 acc=some (.lst ys):=l6.fr _ _ ys5 (nacc w5)
   refine⟨ys,ys6, ?_,ι6,M6,at'++[t],ys++[zv],((l13.trans l5).trans l6).updF hacc,(w6.updA (.inr rfl) ys6).2,upd_same, ?_,by rw[List.length_append,List.length_singleton]; omega,q6⟩
   ·rw[rys.len]; omega
   ·have hl:=(w6.updA (o:=.lst (ys++[zv])) (.inr rfl) ys6).1
    cases r6 with
    |p r6=>exact Paired.app (Paired.mapP rys5 fun _ _ q=>(q.le l6).mono hl.av) (.cons (r6.mono hl.av) .nil)
 ·have ei:i=it.n:=by omega
  subst ei
  obtain⟨ok,fin⟩:=Id at' M2 I2
  refine .inl ⟨(hJ _ ι2 H2 M2 _ lea w2 ok).2 rfl,k _ M2 ι2 _ H2 (l1.trans l2) (w2.lessA fun x hx=>.inl hx) (.p (.lstP (fun z=>?_) hys (Paired.mapP rys fun _ _ q=>q.mono fun x o hx ex=>⟨ex,fun z=>hx (z.elim (fun z=>.inl (.inl z)) .inr)⟩))) fin⟩
  rcases z with z|z
  ·exact na (.inl z)
  ·exact w2.na acc z (.inr rfl)
end
section
variable {ta:TE} {ua ub:UE} {tt:TT} {ut:UT} {tl:TA} {ul:UA} {n:Nat} {A:Addr->Prop} {H H' H1 H2:Hp} {ι ι' ι1 ι2:List Addr} {M M':MM} {v:V} {u:U} {t:T} {σ:St} {ρ:UEnv}
structure UEnds where
 nx:UEnv->MM->Prop
 rt:UK
 bk:UEnv->MM->Prop:=fun _ _=>False
 ct:UEnv->MM->Prop:=fun _ _=>False
abbrev US:=UEnds->UEnv->MM->Prop
structure EndsR (A:Addr->Prop) (ι0:List Addr) (H0:Hp) (E:UEnds) (D:Ends):Prop where
 nx:∀ι σ H ρ M,Le ι0 H0 ι H->Wd A ι H M->EnvR A ι H σ ρ->E.nx ρ M->D.nx σ H
 rt:∀ι v H u M,Le ι0 H0 ι H->Wd A ι H M->RepU A ι H v u->E.rt u M->D.rt v H
 bk:∀ι σ H ρ M,Le ι0 H0 ι H->Wd A ι H M->EnvR A ι H σ ρ->E.bk ρ M->D.bk σ H
 ct:∀ι σ H ρ M,Le ι0 H0 ι H->Wd A ι H M->EnvR A ι H σ ρ->E.ct ρ M->D.ct σ H
theorem EndsR.le {E:UEnds} {D:Ends} (l:Le ι H ι' H') (r:EndsR A ι H E D):EndsR A ι' H' E D :=
 ⟨fun _ _ _ _ _ h=>r.nx _ _ _ _ _ (l.trans h),fun _ _ _ _ _ h=>r.rt _ _ _ _ _ (l.trans h),fun _ _ _ _ _ h=>r.bk _ _ _ _ _ (l.trans h),fun _ _ _ _ _ h=>r.ct _ _ _ _ _ (l.trans h)⟩
def LS (ts:TS) (us:US):Prop:=∀(A:Addr->Prop) (ι:List Addr) (σ:St) (H:Hp) (ρ:UEnv) (M:MM) (D:Ends) (E:UEnds),Wd A ι H M->EnvR A ι H σ ρ->EndsR A ι H E D->us E ρ M->ts D σ H
variable {ts ts':TS} {us us':US}
def uNext:US:=fun E ρ M=>E.nx ρ M
def uSeq (a b:US):US:=fun E ρ M=>a { E with nx:=b E } ρ M
def uDrop (ua:UE):US:=fun E ρ M=>ua ρ M fun _ M1=>E.nx ρ M1
def uRet (ua:UE):US:=fun E ρ M=>ua ρ M E.rt
def uRetN:US:=fun E ρ M=>E.rt (.p .non) M
def uIfS (c:UT) (a b:US):US:=fun E ρ M=>c ρ M fun k M1=>if k=true then a E ρ M1 else b E ρ M1
def uAsg (ua:UE) (g:UG):US:=fun E ρ M=>ua ρ M fun x M1=>g x ρ M1 E.nx
theorem ls_next:LS Qj uNext:=fun A ι σ H ρ M D E w e r q=>r.nx ι σ H ρ M (.refl _ _) w e q
theorem ls_seq (ha:LS ts us) (hb:LS ts' us'):LS (tSeq ts ts') (uSeq us us'):=fun A ι σ H ρ M D E w e r q =>
 ha A ι σ H ρ M _ { E with nx:=us' E } w e ⟨fun ι1 σ1 H1 ρ1 M1 l w1 e1 q1=>hb A ι1 σ1 H1 ρ1 M1 D E w1 e1 (r.le l) q1,r.rt,r.bk,r.ct⟩ q
theorem ls_drop (ha:LE ta ua):LS (Vb ta) (uDrop ua):=fun A ι σ H ρ M D E w e r q =>
 ha A ι σ H ρ M _ _ w e q fun x M1 ι1 v H1 l1 w1 r1 q1=>r.nx ι1 σ H1 ρ M1 l1 w1 (e.le l1) q1
theorem ls_ret (ha:LE ta ua):LS (tRet ta) (uRet ua):=fun A ι σ H ρ M D E w e r q =>
 ha A ι σ H ρ M _ _ w e q fun x M1 ι1 v H1 l1 w1 r1 q1=>r.rt ι1 v H1 x M1 l1 w1 r1 q1
theorem ls_if (hc:LT tt ut) (ha:LS ts us) (hb:LS ts' us'):LS (tIfS tt ts ts') (uIfS ut us us'):=fun A ι σ H ρ M D E w e r q =>
 hc A ι σ H ρ M _ _ w e q fun c M1 ι1 H1 l1 w1 q1=>by
  cases c with
  |true=>exact ha A ι1 σ H1 ρ M1 D E w1 (e.le l1) (r.le l1) q1
  |false=>exact hb A ι1 σ H1 ρ M1 D E w1 (e.le l1) (r.le l1) q1
theorem ls_asg {g:TG} {ug:UG} (ha:LE ta ua) (hg:LG g ug):LS (tAsg ta g) (uAsg ua ug):=fun A ι σ H ρ M D E w e r q =>
 ha A ι σ H ρ M _ _ w e q fun x M1 ι1 v H1 l1 w1 r1 q1=>hg A ι1 σ H1 ρ M1 v x _ _ w1 (e.le l1) r1 q1 fun ρ2 M2 ι2 σ2 H2 l2 w2 e2 q2=>r.nx ι2 σ2 H2 ρ2 M2 (l1.trans l2) w2 e2 q2
def UFor (it:UIt) (ug:UG) (ub:US) (E:UEnds) (ρ:UEnv) (M1:MM):Prop:=∃Iv:Nat->UEnv->MM->Prop,Iv 0 ρ M1 /\
 (∀i ρ2 M2,i<it.n->Iv i ρ2 M2->it.ok M2/\∀u,it.item i u->ug u ρ2 M2 fun ρ3 M3=>ub { E with nx:=Iv (i+1),ct:=Iv (i+1),bk:=E.nx } ρ3 M3) /\
 (∀ρ2 M2,Iv it.n ρ2 M2->it.ok M2/\E.nx ρ2 M2)
def uFor (ui:UI) (ug:UG) (ub:US):US:=fun E ρ M=>ui ρ M fun it M1=>UFor it ug ub E ρ M1
theorem ls_for {wi:TI} {ui:UI} {g:TG} {ug:UG} (hi:LI wi ui) (hg:LG g ug) (hb:LS ts us):LS (tFor wi g ts) (uFor ui ug us):=by
 intro A ι σ H ρ M D E w e r q
 refine hi A ι σ H ρ M _ _ w e q fun it M1 ι1 J H1 l1 w1 hJ q1=>?_
 obtain⟨Iv,I0,It,Id⟩:=q1
 have r1:=r.le l1
 refine⟨fun i m σ2 H2=>m=it.n-i/\i<=it.n/\∃ι2 ρ2 M2,Le ι1 H1 ι2 H2/\Wd A ι2 H2 M2/\EnvR A ι2 H2 σ2 ρ2/\Iv i ρ2 M2,⟨it.n,by simp,Nat.zero_le _,ι1,ρ,M1, .refl _ _,w1,e.le l1,I0⟩, ?_⟩
 rintro i m σ2 H2 ⟨rfl,hin,ι2,ρ2,M2,l2,w2,e2,I2⟩
 by_cases hlt:i<it.n
 ·obtain⟨ok,step⟩:=It i ρ2 M2 hlt I2
  obtain⟨jgo,jy⟩:=(hJ A ι2 H2 M2 i l2.lea w2 ok).1 hlt
  refine .inr ⟨jgo,fun σ' H'=>∃ι2 ρ2 M2,Le ι1 H1 ι2 H'/\Wd A ι2 H' M2/\EnvR A ι2 H' σ' ρ2/\Iv (i+1) ρ2 M2,fun σ' H' h=>⟨it.n-(i+1),by omega,rfl,hlt,h⟩,fun x H3 y=>?_⟩
  obtain⟨u,hu,l3,w3,r3⟩:=jy x H3 y
  refine hg A ι2 σ2 H3 ρ2 M2 x u _ _ w3 (e2.le l3) r3 (step u hu) fun ρ4 M4 ι4 σ4 H4 l4 w4 e4 q4=>?_
  have l14:=(l2.trans l3).trans l4
  exact hb A ι4 σ4 H4 ρ4 M4 _ { E with nx:=Iv (i+1),ct:=Iv (i+1),bk:=E.nx } w4 e4 ⟨fun ι5 σ5 H5 ρ5 M5 l5 w5 e5 q5=>⟨ι5,ρ5,M5,l14.trans l5,w5,e5,q5⟩,(r1.le l14).rt,(r1.le l14).nx,fun ι5 σ5 H5 ρ5 M5 l5 w5 e5 q5=>⟨ι5,ρ5,M5,l14.trans l5,w5,e5,q5⟩⟩ q4
 ·have ei:i=it.n:=by omega
  subst ei
  obtain⟨ok,fin⟩:=Id ρ2 M2 I2
  exact .inl ⟨(hJ A ι2 H2 M2 _ l2.lea w2 ok).2 rfl,r1.nx ι2 σ2 H2 ρ2 M2 l2 w2 e2 fin⟩
def MeL (r:V->List V->Hp->VK->Prop) (s:List U->List U->(U->List U->Prop)->Prop):Prop:=∀(A:Addr->Prop) (ι:List Addr) (H:Hp) (M:MM) (k:Nat) (a:Addr) (xs ys:List V) (us ws:List U) (Qs:U->List U->Prop) (Q:VK),Wd A ι H M->ι[k]?=some a->H a=some (.lst xs)->M[k]?=some (.lst us)->RepUs A ι H xs us->RepUs A ι H ys ws->s us ws Qs ->
 (∀z us' v xs',RepUs A ι H xs' us'->RepU A ι H v z->Qs z us'->Q v (upd H a (.lst xs')))->r (.ref a) ys H Q
def uMe (s:List U->List U->(U->List U->Prop)->Prop) (uo:UE) (ul:UA):UE:=fun ρ M Q=>uo ρ M fun o M1=>∃k,o=.m k/\(∃zs,M1[k]?=some (.lst zs))/\ul ρ M1 fun ws M2=>∃us,M2[k]?=some (.lst us)/\s us ws fun z us'=>Q z (M2.set k (.lst us'))
theorem le_me {r:V->List V->Hp->VK->Prop} {s:List U->List U->(U->List U->Prop)->Prop} (h:MeL r s) (ha:LE ta ua) (hl:LA n tl ul):LE (tLM r ta tl) (uMe s ua ul):=fun A ι σ H ρ M Qu Q w e q k =>
 ha A ι σ H ρ M _ _ w e q fun o M1 ι1 v H1 l1 w1 r1 ⟨kk,eo,⟨zs,hz⟩,q1⟩=>by
  subst eo
  cases r1 with
  |m ek =>
  rename_i a
  obtain⟨xs1,h1,_⟩:=w1.obj kk a _ ek hz
  refine⟨a,xs1,rfl,h1,hl A ι1 σ H1 ρ M1 _ _ w1 (e.le l1) q1 fun ws M2 ι2 ys H2 l2 w2 hn r2 q2=>?_⟩
  obtain⟨us,hus,q2⟩:=q2
  have ek2:ι2[kk]?=some a:=by
   obtain⟨nn,rfl,_⟩:=l2.ext
   rw[List.getElem?_append_left (List.getElem?_eq_some_iff.mp ek).1]; exact ek
  obtain⟨xs2,h3,h4⟩:=w2.obj kk a _ ek2 hus
  have hm:=List.mem_of_getElem? ek2
  exact h A ι2 H2 M2 kk a xs2 ys us ws _ Q w2 ek2 h3 hus h4 r2 q2 fun z us' zv xs' rx rz qz=>k z _ ι2 zv _ ((l1.trans l2).trans (.put hm)) (w2.put (mo:=.lst us') ek2 ⟨xs',upd_same,RepUs.le (.put hm) rx⟩) (rz.le (.put hm)) qz
def Jd:List U->List U->(U->List U->Prop)->Prop:=fun us ws Q=>∃y,ws=[y]/\us.length<sizeLine/\Q (.p .non) (us++[y])
theorem vX:MeL Jl Jd:=fun A ι H M k a xs ys us ws Qs Q w ek h1 h2 rx ry ⟨y,ey,hz,q⟩ kk=>by
 subst ey
 cases ry with
 |cons r q' =>
 cases q'
 exact⟨a,xs,_,rfl,rfl,h1,by rw[rx.len]; exact hz,kk _ _ _ _ (rx.app (.cons r .nil)) (.p .non) q⟩
def spU (G:List U->MM->UK->Prop):Sp:=fun vs H Q _=>∃A ι M us Qu,Wd A ι H M/\RepUs A ι H vs us/\G us M Qu/\∀u M' ι' v H',Le ι H ι' H'->Wd A ι' H' M'->RepU A ι' H' v u->Qu u M'->Q v H'
def uCall (G:List U->MM->UK->Prop) (ul:UA):UE:=fun ρ M Q=>ul ρ M fun us M1=>G us M1 Q
theorem le_callU {G:List U->MM->UK->Prop} {E:XK} (ha:LA n tl ul):LE (jo (spU G) [] E tl) (uCall G ul):=fun A ι σ H ρ M Qu Q w e q k =>
 ha A ι σ H ρ M _ _ w e q fun us M1 ι1 vs H1 l1 w1 hn r1 q1=>by
  rw[List.append_nil]
  exact⟨A,ι1,M1,us,_,w1,r1,q1,fun u M2 ι2 v H2 l2 w2 r2 q2=>k u M2 ι2 v H2 (l1.trans l2) w2 r2 q2⟩
def spP (G:List T->(T->Prop)->Prop):Sp:=fun vs H Q _=>∃A ts Qt,(∀x,A x->H x≠none)/\RepTs A H vs ts/\G ts Qt/\∀t v H',Same H H'->RepT A H' v t->Qt t->Q v H'
def X4 (G:List T->(T->Prop)->Prop) (ul:UA):UE:=fun ρ M Q=>ul ρ M fun us M1=>∃ts,v9 us=some ts/\G ts fun t=>Q (.p t) M1
def uCallS (G:List T->(T->Prop)->Prop) (ul:UA):UE:=fun ρ M Q=>ul ρ M fun us M1=>∃ts,sns M1 us=some ts/\G ts fun t=>(∃x,vt t=some x)/\Q (.p t) M1
theorem Same.le (s:Same H H'):Le ι H ι H':=⟨⟨[],by simp,by simp⟩,fun x o e _=>s x o e,fun x e=>by
 cases q:H x with
 |none=>exact absurd q e
 |some o=>rw[s x o q]; simp⟩
theorem Wd.same (w:Wd A ι H M) (s:Same H H'):Wd A ι H' M :=
 ⟨w.nd,w.len,fun x hx=>(Same.le (ι:=ι) s).al x (w.dom x hx),w.na,fun k a ob e1 e2=>(w.obj k a ob e1 e2).le' s.le (by
  obtain⟨o,ho⟩:=(w.obj k a ob e1 e2).some
  rw[ho,s _ _ ho]) fun x ex=>by rw[ex,s _ _ ex]⟩
theorem Wd.domAv (w:Wd A ι H M):∀x,Av A ι x->H x≠none:=fun x h=>by
 rcases h with h|h
 ·exact w.dom x h
 ·obtain⟨o,ho⟩:=w.mem_some h
  rw[ho]; simp
theorem le_callP {G:List T->(T->Prop)->Prop} {E:XK} (ha:LA n tl ul):LE (jo (spP G) [] E tl) (X4 G ul):=fun A ι σ H ρ M Qu Q w e q k =>
 ha A ι σ H ρ M _ _ w e q fun us M1 ι1 vs H1 l1 w1 hn r1 ⟨ts,et,q1⟩=>by
  rw[List.append_nil]
  rw[zo et] at r1
  exact⟨Av A ι1,ts,_,w1.domAv,r1.pures,q1,fun t v H2 s r2 q2=>k _ M1 ι1 v H2 (l1.trans s.le) (w1.same s) (.p r2) q2⟩
def frzs (f:U->Option T):List U->Option (List T)
 | []=>some []
 |u::r=>match f u,frzs f r with
  |some t,some ts=>some (t::ts)
  |_,_=>none
def frzN:Nat->MM->U->Option T
 |_,_, .p t=>some t
 |0,_, .m _=>none
 |_,_, .x _ _ _=>none
 |n+1,M, .m k=>match M[k]? with
  |some (.lst us)=>(frzs (frzN n M) us).map T.lst
  |some (.tup us)=>(frzs (frzN n M) us).map T.tup
  |_=>none
theorem Xc {f:U->Option T} {vs:List V} {us:List U} {ts:List T} (r:RepUs A ι H vs us) (h:∀v u t,RepU A ι H v u->f u=some t->RepT A H v t) (e:frzs f us=some ts):RepTs A H vs ts:=by
 induction r generalizing ts with
 |nil=>simp[frzs] at e; subst e; exact .nil
 |cons r q ih =>
  simp only[frzs] at e
  split at e
  ·rename_i h1 h2
   simp at e; subst e
   exact .cons (h _ _ _ r h1) (ih h2)
  ·cases e
theorem Zr (w:Wd A ι H M):∀{n:Nat} {v:V} {u:U} {t:T},RepU A ι H v u->frzN n M u=some t->RepT A H v t
 |n,v, .p t',t, .p r,e=>by
  cases n<;>simp[frzN] at e<;>subst e<;>exact r.mono fun x o hx ex=>⟨ex,fun z=>hx (.inl z)⟩
 |0,v, .m k,t,r,e=>by simp[frzN] at e
 |n,v, .x a d q,t,r,e=>by cases n<;>simp[frzN] at e
 |n+1,v, .m k,t,r,e=>by
  cases r with
  |m q =>
  obtain⟨o,h1,h2⟩:=w.al q
  have hna:=w.na _ (List.mem_of_getElem? q)
  simp only[frzN,h1] at e
  cases o with
  |lst us =>
   simp at e
   obtain⟨ts,e1,rfl⟩:=e
   obtain⟨vs,h3,h4⟩:=h2
   exact .lstP hna h3 (Xc h4 (fun v u t r e=>Zr w r e) e1)
  |tup us =>
   simp at e
   obtain⟨ts,e1,rfl⟩:=e
   obtain⟨vs,h3,h4⟩:=h2
   exact .tupP hna h3 (Xc h4 (fun v u t r e=>Zr w r e) e1)
  |ins=>simp at e
  |dK=>simp at e
theorem Xd {f:U->Option T} (h:∀t,f (.p t)=some t):∀ts:List T,frzs f (ts.map U.p)=some ts
 | []=>rfl
 |t::r=>by simp[frzs,h t,Xd h r]
@[simp] theorem frzN_p {n:Nat} {M:MM} {t:T}:frzN n M (.p t)=some t:=by cases n<;>rfl
def jd (N:List Str) (us:List U):UEnv:=us.map some++List.replicate (N.length-us.length) none
theorem jc {N:List Str} {vs:List V} {us:List U} (r:RepUs A ι H vs us):EnvR A ι H (start N vs) (jd N us):=by
 unfold start jd
 refine Paired.app ?_ ?_
 ·exact Paired.mapR (f:=some) (F:=fun s u=>∃v,s=some v/\RepU A ι H v u) (fun a b q u e=>by cases e; exact q) (by
   induction r with
   |nil=>exact .nil
   |cons r q ih=>exact .cons ⟨_,rfl,r⟩ ih)
 ·rw[r.len]
  generalize N.length-us.length=m
  induction m with
  |zero=>exact .nil
  |succ m ih=>exact .cons (fun u e=>by cases e) ih
end
section
variable {P:Program} {w:World} {K:PySem.W.Frag} {mg:Str->Option Value} {base:Heap}
theorem Fun.okP {x qual:Str} {st:Stmt} {f:Addr} {fd:FuncData} {N ps:List Str} {k:Nat} {G:List T->(T->Prop)->Prop} (F:Fun K x qual st f fd) (S:FnScope N ps (qc st)) (len:∀ts Qt,G ts Qt->ts.length=ps.length)
  (hbody:∀(cdv:Value) (A:Around) (outer:List Env) (s:Shared) (H:Hp) (E:XK),Room k (A.deeper (envOfC qual (qc st) s.heap.objs.size f cdv)) ->
   ∃t,PSs (cxOf CX0 P w K mg base N qual (qc st) f cdv A outer s H E).nox (qi st) t/\∃u,LS t u/\∀ts Qt,G ts Qt->u { nx:=fun _ _=>Qt .non,rt:=fun z M'=>∃t,frzN 4 M' z=some t/\Qt t } (jd N (ts.map U.p)) []):FnOk P w K mg base CX0 (k+1) f fd ps (spP G):=by
 refine F.ok S (fun vs H Q E h=>?_) (fun cdv A outer s H vs Q E hr h=>?_)
 ·obtain⟨A,ts,Qt,hd,r,g,_⟩:=h
  rw[r.len]; exact len ts Qt g
 ·obtain⟨B,ts,Qt,hd,r,g,kk⟩:=h
  obtain⟨t,ht,u,hu,hb⟩:=hbody cdv A outer s H E hr
  have w0:Wd B [] H []:=⟨List.nodup_nil,rfl,hd,fun x hx=>by simp at hx,fun k a o e _=>by simp at e⟩
  have same:∀{ι1:List Addr} {H1:Hp},Le [] H ι1 H1->Same H H1:=fun l b o e=>l.fr b o e (by simp)
  have r0:RepUs B [] H vs (ts.map U.p):=RepTs.ups (Paired.mapP r fun _ _ q=>q.mono fun x o hx ex=>⟨ex,fun z=>z.elim hx (by simp)⟩)
  refine⟨t,ht,hu B [] _ H _ [] _ { nx:=fun _ _=>Qt .non,rt:=fun z M'=>∃t,frzN 4 M' z=some t/\Qt t } w0 (jc r0) ⟨fun ι1 σ1 H1 ρ1 M1 l1 w1 e1 q1=>kk _ _ H1 (same l1) .non q1,fun ι1 v H1 z M1 l1 w1 r1 ⟨t1,et,q1⟩=>kk t1 v H1 (same l1) (Zr w1 r1 et) q1,fun _ _ _ _ _ _ _ _ q=>q.elim,fun _ _ _ _ _ _ _ _ q=>q.elim⟩ (hb ts Qt g)⟩
end
section
variable {ua ub uc:UE} {ut:UT} {ul:UA} {us us':US} {n:Nat} {M M1:MM} {u:U} {t:T} {ρ:UEnv} {Q:UK} {QB:Bool->MM->Prop} {E:UEnds} {ug:UG}
def OpS (s:T->T->(T->Prop)->Prop) (M:MM) (x y:U) (Q:UK):Prop:=∃a b,sn M x=some a/\sn M y=some b/\s a b fun t=>Q (.p t) M
theorem rd_op {s:T->T->(T->Prop)->Prop}:uOp s ua ub ρ M Q=ua ρ M fun x M1=>ub ρ M1 fun y M2=>OpS s M2 x y Q:=rfl
theorem rd_opS {s:T->T->(T->Prop)->Prop} {a b:T}:OpS s M (.p a) (.p b) Q=s a b fun t=>Q (.p t) M :=
 propext ⟨fun⟨_,_,e1,e2,h⟩=>by cases e1; cases e2; exact h,fun h=>⟨a,b,rfl,rfl,h⟩⟩
theorem rd_sI {C:Int->Int->Prop} {g:Int->Int->T} {i j:Int} {Q:T->Prop}:sI C g (.int i) (.int j) Q=(C i j/\Q (g i j)) :=
 propext ⟨fun⟨_,_,e1,e2,h⟩=>by cases e1; cases e2; exact h,fun h=>⟨i,j,rfl,rfl,h⟩⟩
theorem rd_sI0 {g:Int->Int->T} {i j:Int} {Q:T->Prop}:sI0 g (.int i) (.int j) Q=Q (g i j) :=
 propext ⟨fun⟨_,_,e1,e2,h⟩=>by cases e1; cases e2; exact h,fun h=>⟨i,j,rfl,rfl,h⟩⟩
theorem rd_eqI {i j:Int} {Q:T->Prop}:sEq false (.int i) (.int j) Q=Q (.bl (decide (i=j))):=by
 refine propext ⟨fun⟨x,y,e1,e2,_,h⟩=>?_,fun h=>⟨_,_,rfl,rfl,rfl, ?_⟩⟩
 ·simp[vt] at e1 e2; subst e1 e2; simpa using h
 ·simpa using h
theorem rd_neI {i j:Int} {Q:T->Prop}:sEq true (.int i) (.int j) Q=Q (.bl (!decide (i=j))):=by
 refine propext ⟨fun⟨x,y,e1,e2,_,h⟩=>?_,fun h=>⟨_,_,rfl,rfl,rfl, ?_⟩⟩
 ·simp[vt] at e1 e2; subst e1 e2; simpa using h
 ·simpa using h
theorem rd_eqS {i j:Str} {Q:T->Prop}:sEq false (.str i) (.str j) Q=Q (.bl (decide (i=j))):=by
 refine propext ⟨fun⟨x,y,e1,e2,_,h⟩=>?_,fun h=>⟨_,_,rfl,rfl,rfl, ?_⟩⟩
 ·simp[vt] at e1 e2; subst e1 e2; simpa using h
 ·simpa using h
theorem rd_neS {i j:Str} {Q:T->Prop}:sEq true (.str i) (.str j) Q=Q (.bl (!decide (i=j))):=by
 refine propext ⟨fun⟨x,y,e1,e2,_,h⟩=>?_,fun h=>⟨_,_,rfl,rfl,rfl, ?_⟩⟩
 ·simp[vt] at e1 e2; subst e1 e2; simpa using h
 ·simpa using h
theorem rd_eqB {i j:Bool} {Q:T->Prop}:sEq false (.bl i) (.bl j) Q=Q (.bl (decide (i=j))):=by
 refine propext ⟨fun⟨x,y,e1,e2,_,h⟩=>?_,fun h=>⟨_,_,rfl,rfl,rfl, ?_⟩⟩
 ·simp[vt] at e1 e2; subst e1 e2; simpa using h
 ·simpa using h
theorem rd_neB {i j:Bool} {Q:T->Prop}:sEq true (.bl i) (.bl j) Q=Q (.bl (!decide (i=j))):=by
 refine propext ⟨fun⟨x,y,e1,e2,_,h⟩=>?_,fun h=>⟨_,_,rfl,rfl,rfl, ?_⟩⟩
 ·simp[vt] at e1 e2; subst e1 e2; simpa using h
 ·simpa using h
def VarS (o:Option (Option U)) (M:MM) (Q:UK):Prop:=∃u,o=some (some u)/\Q u M
theorem rd_var {i:Nat}:uVar i ρ M Q=VarS ρ[i]? M Q:=rfl
theorem rd_varS:VarS (some (some u)) M Q=Q u M:=propext ⟨fun⟨_,e,h⟩=>by cases e; exact h,fun h=>⟨u,rfl,h⟩⟩
def IntS (x:U) (R:Int->Prop):Prop:=∃i,x=.p (.int i)/\R i
theorem rd_intS {i:Int} {R:Int->Prop}:IntS (.p (.int i)) R=R i:=propext ⟨fun⟨_,e,h⟩=>by cases e; exact h,fun h=>⟨i,rfl,h⟩⟩
def BlS (x:U) (R:Bool->Prop):Prop:=∃b,x=.p (.bl b)/\R b
theorem rd_blS {b:Bool} {R:Bool->Prop}:BlS (.p (.bl b)) R=R b:=propext ⟨fun⟨_,e,h⟩=>by cases e; exact h,fun h=>⟨b,rfl,h⟩⟩
theorem rd_neg:uNeg ua ρ M Q=ua ρ M fun x M1=>IntS x fun i=>Q (.p (.int (-i))) M1:=rfl
theorem rd_bits:uBits ua ρ M Q=ua ρ M fun x M1=>IntS x fun i=>Q (.p (.int (Builtin.Int.intBits i))) M1:=rfl
theorem rd_b:uB ua ρ M QB=ua ρ M fun x M1=>BlS x fun b=>QB b M1:=rfl
theorem rd_andV:uAndV ua ub ρ M Q=ua ρ M fun x M1=>BlS x fun c=>if c=true then ub ρ M1 Q else Q (.p (.bl false)) M1:=rfl
theorem rd_orV:uOrV ua ub ρ M Q=ua ρ M fun x M1=>BlS x fun c=>if c=true then Q (.p (.bl true)) M1 else ub ρ M1 Q:=rfl
theorem rd_notV:uNotV ua ρ M Q=ua ρ M fun x M1=>BlS x fun c=>Q (.p (.bl (!c))) M1:=rfl
def ChS (s':T->T->(T->Prop)->Prop) (uc:UE) (ρ:UEnv) (M:MM) (y:U) (Q:UK) (z:T):Prop:=∃k,z=.bl k/\if k=true then uc ρ M fun c M3=>OpS s' M3 y c Q else Q (.p (.bl false)) M
theorem rd_chain {s s':T->T->(T->Prop)->Prop}:ZK s s' ua ub uc ρ M Q=ua ρ M fun x M1=>ub ρ M1 fun y M2=>OpS s M2 x y fun z _=>∃t,z=.p t/\ChS s' uc ρ M2 y Q t :=
 propext (by
  have e:∀(x y:U) (M2:MM),(∃a b,sn M2 x=some a/\sn M2 y=some b/\s a b fun z=>∃k,z=.bl k/\if k=true then uc ρ M2 fun c M3=>∃b' c',sn M3 y=some b'/\sn M3 c=some c'/\s' b' c' fun t=>Q (.p t) M3 else Q (.p (.bl false)) M2)=(OpS s M2 x y fun z _=>∃t,z=.p t/\ChS s' uc ρ M2 y Q t):=fun x y M2=>by
   unfold OpS ChS
   have:∀z:T,(∃t,U.p z=.p t/\∃k,t=.bl k/\if k=true then uc ρ M2 fun c M3=>OpS s' M3 y c Q else Q (.p (.bl false)) M2)=(∃k,z=.bl k/\if k=true then uc ρ M2 fun c M3=>∃b' c',sn M3 y=some b'/\sn M3 c=some c'/\s' b' c' fun t=>Q (.p t) M3 else Q (.p (.bl false)) M2):=fun z =>
    propext ⟨fun⟨t,e,h⟩=>by cases e; exact h,fun h=>⟨z,rfl,h⟩⟩
   simp only[this]
  unfold ZK
  simp only[e])
theorem rd_chP {s':T->T->(T->Prop)->Prop} {y:U} {b:Bool}:(∃t,U.p (.bl b)=.p t/\ChS s' uc ρ M y Q t)=if b=true then uc ρ M fun c M3=>OpS s' M3 y c Q else Q (.p (.bl false)) M :=
 propext ⟨fun⟨t,e,k,e2,h⟩=>by cases e; cases e2; exact h,fun h=>⟨_,rfl,b,rfl,h⟩⟩
def PurS (us:List U) (R:List T->Prop):Prop:=∃ts,v9 us=some ts/\R ts
theorem Jf {ts:List T} {R:List T->Prop}:PurS (ts.map U.p) R=R ts:=propext ⟨fun⟨_,e,h⟩=>by rw[zH] at e; cases e; exact h,fun h=>⟨ts,zH ts,h⟩⟩
theorem xh {R:List T->Prop}:PurS [] R=R []:=Jf (ts:=[])
theorem xg {a:T} {us:List U} {R:List T->Prop}:PurS (.p a::us) R=PurS us fun ts=>R (a::ts):=by
 refine propext ⟨fun⟨ts,e,h⟩=>?_,fun⟨ts,e,h⟩=>⟨a::ts,by simp[v9,e],h⟩⟩
 simp[v9] at e
 obtain⟨r,e1,rfl⟩:=e
 exact⟨r,e1,h⟩
theorem rd_tup:uTup ul ρ M Q=ul ρ M fun us M1=>PurS us fun ts=>Q (.p (.tup ts)) M1:=rfl
theorem rd_lst:uLst ul ρ M Q=ul ρ M fun us M1=>PurS us fun ts=>Q (.p (.lst ts)) M1:=rfl
def IxS (it:MM->U->Option (List U)) (M:MM) (x y:U) (Q:UK):Prop:=∃us i z,it M x=some us/\y=.p (.int i)/\atI us i=some z/\Q z M
theorem rd_ix {it:MM->U->Option (List U)}:uIx it ua ub ρ M Q=ua ρ M fun x M1=>ub ρ M1 fun y M2=>IxS it M2 x y Q:=rfl
theorem ix_at {it:MM->U->Option (List U)} {x:U} {us:List U} {i:Int} {z:U} (h1:it M x=some us) (h2:atI us i=some z) (q:Q z M):IxS it M x (.p (.int i)) Q:=⟨us,i,z,h1,rfl,h2,q⟩
theorem KU {ts:List T} {i:Int} {t:T} (h:atI ts i=some t):atI (ts.map U.p) i=some (.p t):=by
 unfold atI at h ⊢
 rw[List.length_map]
 cases e:ixN ts.length i with
 |none=>rw[e] at h; cases h
 |some j=>rw[e] at h; simp at h ⊢; rw[h]
theorem vd {ts:List T} {i:Int} {t:T} (h:atI ts i=some t) (q:Q (.p t) M):IxS va M (.p (.lst ts)) (.p (.int i)) Q:=ix_at rfl (KU h) q
theorem ixt_at {ts:List T} {i:Int} {t:T} (h:atI ts i=some t) (q:Q (.p t) M):IxS vP M (.p (.tup ts)) (.p (.int i)) Q:=ix_at rfl (KU h) q
def SnsS (M:MM) (us:List U) (R:List T->Prop):Prop:=∃ts,sns M us=some ts/\R ts
theorem rd_sns0 {R:List T->Prop}:SnsS M [] R=R []:=propext ⟨fun⟨_,e,h⟩=>by cases e; exact h,fun h=>⟨[],rfl,h⟩⟩
theorem rd_snsC {a:T} {us:List U} {R:List T->Prop}:SnsS M (.p a::us) R=SnsS M us fun ts=>R (a::ts):=by
 refine propext ⟨fun⟨ts,e,h⟩=>?_,fun⟨ts,e,h⟩=>⟨a::ts,by simp[sns,sn,e],h⟩⟩
 simp only[sns,sn] at e
 cases q:sns M us with
 |none=>rw[q] at e; cases e
 |some r=>rw[q] at e; simp at e; subst e; exact⟨r,q,h⟩
theorem rd_cb {s:List T->(T->Prop)->Prop}:uCb s ul ρ M Q=ul ρ M fun us M1=>SnsS M1 us fun ts=>s ts fun t=>Q (.p t) M1:=rfl
theorem rd_abs' {i:Int} {Q:T->Prop}:sAbs [.int i] Q=Q (.int (if i<0 then -i else i)):=propext ⟨fun⟨_,e,h⟩=>by cases e; exact h,fun h=>⟨i,rfl,h⟩⟩
theorem rd_min' {i j:Int} {Q:T->Prop}:sMin [.int i, .int j] Q=Q (.int (if j<i then j else i)):=propext ⟨fun⟨_,_,e,h⟩=>by cases e; exact h,fun h=>⟨i,j,rfl,h⟩⟩
theorem rd_max' {i j:Int} {Q:T->Prop}:sMax [.int i, .int j] Q=Q (.int (if j>i then j else i)):=propext ⟨fun⟨_,_,e,h⟩=>by cases e; exact h,fun h=>⟨i,j,rfl,h⟩⟩
theorem rd_int' {i:Int} {Q:T->Prop}:sInt [.int i] Q=Q (.int i):=by
 refine propext ⟨fun h=>?_,fun h=>Or.inl ⟨i,rfl,h⟩⟩
 rcases h with⟨_,e,h⟩|⟨_,e,h⟩
 ·cases e; exact h
 ·cases e
theorem rd_intB {k:Bool} {Q:T->Prop}:sInt [.bl k] Q=Q (.int (if k then 1 else 0)):=by
 refine propext ⟨fun h=>?_,fun h=>Or.inr ⟨k,rfl,h⟩⟩
 rcases h with⟨_,e,h⟩|⟨_,e,h⟩
 ·cases e
 ·cases e; exact h
def LenS (it:MM->U->Option (List U)) (M:MM) (us:List U) (Q:UK):Prop:=∃x ys,us=[x]/\it M x=some ys/\Q (.p (.int ys.length)) M
theorem rd_len {it:MM->U->Option (List U)}:uLen it ul ρ M Q=ul ρ M fun us M1=>LenS it M1 us Q:=rfl
theorem rd_lenP {ts:List T}:LenS va M [.p (.lst ts)] Q=Q (.p (.int ts.length)) M :=
 propext ⟨fun⟨_,_,e1,e2,h⟩=>by cases e1; cases e2; rw[List.length_map] at h; exact h,fun h=>⟨_,_,rfl,rfl,by rw[List.length_map]; exact h⟩⟩
theorem J8 {k:Nat} {us:List U} (e:M[k]?=some (.lst us)) (h:Q (.p (.int us.length)) M):LenS va M [.m k] Q:=⟨_,_,rfl,by simp[va,e],h⟩
def SlS (M:MM) (x:U) (l h:Option Int) (Q:UK):Prop:=∃ts,sn M x=some (.lst ts)/\Q (.p (.lst (cutT ts l h))) M
theorem rd_sl {u1 u2:UO}:uSl ua u1 u2 ρ M Q=ua ρ M fun x M1=>u1 ρ M1 fun l M2=>u2 ρ M2 fun h M3=>SlS M3 x l h Q:=rfl
theorem rd_slS {ts:List T} {l h:Option Int}:SlS M (.p (.lst ts)) l h Q=Q (.p (.lst (cutT ts l h))) M:=propext ⟨fun⟨_,e,h⟩=>by cases e; exact h,fun h=>⟨ts,rfl,h⟩⟩
theorem rd_part {QO:Option Int->MM->Prop}:uPart ua ρ M QO=ua ρ M fun x M1=>IntS x fun i=>QO (some i) M1:=rfl
theorem Jg {QO:Option Int->MM->Prop}:VX ρ M QO=QO none M:=rfl
theorem rd_cat {xs ys:List T} {Q:T->Prop}:sCat (.lst xs) (.lst ys) Q=(xs.length+ys.length<=sizeLine/\Q (.lst (xs++ys))):=propext ⟨fun⟨_,_,e1,e2,h⟩=>by cases e1; cases e2; exact h,fun h=>⟨xs,ys,rfl,rfl,h⟩⟩
theorem rd_str {i j:Str} {Q:T->Prop}:sStr (.str i) (.str j) Q=(i.length+j.length<=sizeLine/\Q (.str (i++j))):=propext ⟨fun⟨_,_,e1,e2,h⟩=>by cases e1; cases e2; exact h,fun h=>⟨i,j,rfl,rfl,h⟩⟩
def itU (x:U) (us:List U):UIt:=⟨us.length,fun M=>va M x=some us,fun i z=>us[i]?=some z⟩
def IterS (M:MM) (x:U) (R:UIt->MM->Prop):Prop:=∃us,va M x=some us/\R (itU x us) M
theorem rd_iter {R:UIt->MM->Prop}:uIter ua ρ M R=ua ρ M fun x M1=>IterS M1 x R:=rfl
theorem rd_iterP {ts:List T} {R:UIt->MM->Prop}:IterS M (.p (.lst ts)) R=R (itU (.p (.lst ts)) (ts.map U.p)) M:=propext ⟨fun⟨_,e,h⟩=>by cases e; exact h,fun h=>⟨_,rfl,h⟩⟩
def itR0 (n:Nat):UIt:=⟨n,fun _=>True,fun i z=>z=.p (.int i)⟩
def RngS (us:List U) (M:MM) (R:UIt->MM->Prop):Prop:=∃j:Int,us=[.p (.int j)] /\ -(2^62)<=j/\j<2^62/\R (itR0 j.toNat) M
theorem rd_rng1 {R:UIt->MM->Prop}:uRng1 ul ρ M R=ul ρ M fun us M1=>RngS us M1 R:=rfl
theorem jJ {j:Int} {R:UIt->MM->Prop} (h1 : -(2^62)<=j) (h2:j<2^62) (q:R (itR0 j.toNat) M):RngS [.p (.int j)] M R:=⟨j,rfl,h1,h2,q⟩
theorem Q6 {ts:List T} {ub:US} (Iv:Nat->UEnv->MM->Prop) (h0:Iv 0 ρ M) (hs:∀i t ρ2 M2,ts[i]?=some t->Iv i ρ2 M2->ug (.p t) ρ2 M2 fun ρ3 M3=>ub { E with nx:=Iv (i+1),ct:=Iv (i+1),bk:=E.nx } ρ3 M3) (hd:∀ρ2 M2,Iv ts.length ρ2 M2->E.nx ρ2 M2):UFor (itU (.p (.lst ts)) (ts.map U.p)) ug ub E ρ M:=by
 refine⟨Iv,h0,fun i ρ2 M2 hi h=>⟨rfl,fun u hu=>?_⟩,fun ρ2 M2 h=>⟨rfl,hd ρ2 M2 (by simpa[itU] using h)⟩⟩
 have hu:(ts.map U.p)[i]?=some u:=hu
 rw[List.getElem?_map] at hu
 cases e:ts[i]? with
 |none=>rw[e] at hu; cases hu
 |some t=>rw[e] at hu; cases hu; exact hs i t ρ2 M2 e h
theorem jY {m:Nat} {ub:US} (Iv:Nat->UEnv->MM->Prop) (h0:Iv 0 ρ M) (hs:∀(i:Nat) ρ2 M2,i<m->Iv i ρ2 M2->ug (.p (.int i)) ρ2 M2 fun ρ3 M3=>ub { E with nx:=Iv (i+1),ct:=Iv (i+1),bk:=E.nx } ρ3 M3) (hd:∀ρ2 M2,Iv m ρ2 M2->E.nx ρ2 M2):UFor (itR0 m) ug ub E ρ M :=
 ⟨Iv,h0,fun i ρ2 M2 hi h=>⟨trivial,fun u hu=>by cases(show u=_ from hu); exact hs i ρ2 M2 hi h⟩,fun ρ2 M2 h=>⟨trivial,hd ρ2 M2 h⟩⟩
theorem ufor_mut {k:Nat} {xs:List U} {ub:US} (Iv:Nat->UEnv->MM->Prop) (h0:Iv 0 ρ M) (hk:∀i ρ2 M2,Iv i ρ2 M2->M2[k]?=some (.lst xs)) (hs:∀i z ρ2 M2,xs[i]?=some z->Iv i ρ2 M2->ug z ρ2 M2 fun ρ3 M3=>ub { E with nx:=Iv (i+1),ct:=Iv (i+1),bk:=E.nx } ρ3 M3) (hd:∀ρ2 M2,Iv xs.length ρ2 M2->E.nx ρ2 M2):UFor (itU (.m k) xs) ug ub E ρ M :=
 ⟨Iv,h0,fun i ρ2 M2 hi h=>⟨by show va M2 (.m k)=_; simp[va,hk i ρ2 M2 h],fun u hu=>hs i u ρ2 M2 hu h⟩,fun ρ2 M2 h=>⟨by show va M2 (.m k)=_; simp[va,hk _ ρ2 M2 h],hd ρ2 M2 h⟩⟩
theorem zB {ts:List T} {ρ0:UEnv} (hz:ts.length<=sizeLine) (Iv:Nat->List T->MM->Prop) (h0:Iv 0 [] M) (hs:∀i t acc M2,ts[i]?=some t->acc.length<=i->Iv i acc M2->ug (.p t) ρ0 M2 fun ρ4 M4=>ut ρ4 M4 fun b M5=>if b=true then ua ρ4 M5 fun z M6=>∃t,z=.p t/\Iv (i+1) (acc++[t]) M6 else Iv (i+1) acc M5) (hd:∀acc M2,Iv ts.length acc M2->Q (.p (.lst acc)) M2):XT (itU (.p (.lst ts)) (ts.map U.p)) ug ut ua ρ0 M Q:=by
 refine⟨by simpa[itU] using hz,Iv,h0,fun i acc M2 hi ha h=>⟨rfl,fun u hu=>?_⟩,fun acc M2 h=>⟨rfl,hd acc M2 (by simpa[itU] using h)⟩⟩
 have hu:(ts.map U.p)[i]?=some u:=hu
 rw[List.getElem?_map] at hu
 cases e:ts[i]? with
 |none=>rw[e] at hu; cases hu
 |some t=>rw[e] at hu; cases hu; exact hs i t acc M2 e ha h
theorem xX {m:Nat} {ρ0:UEnv} (hz:m<=sizeLine) (Iv:Nat->List T->MM->Prop) (h0:Iv 0 [] M) (hs:∀(i:Nat) acc M2,i<m->acc.length<=i->Iv i acc M2->ug (.p (.int i)) ρ0 M2 fun ρ4 M4=>ut ρ4 M4 fun b M5=>if b=true then ua ρ4 M5 fun z M6=>∃t,z=.p t/\Iv (i+1) (acc++[t]) M6 else Iv (i+1) acc M5) (hd:∀acc M2,Iv m acc M2->Q (.p (.lst acc)) M2):XT (itR0 m) ug ut ua ρ0 M Q :=
 ⟨hz,Iv,h0,fun i acc M2 hi ha h=>⟨trivial,fun u hu=>by cases(show u=_ from hu); exact hs i acc M2 hi ha h⟩,fun acc M2 h=>⟨trivial,hd acc M2 h⟩⟩
def T2S (M:MM) (u:U) (R:U->U->Prop):Prop:=∃a b,vP M u=some [a,b]/\R a b
def T3S (M:MM) (u:U) (R:U->U->U->Prop):Prop:=∃a b c,vP M u=some [a,b,c]/\R a b c
theorem rd_name2 {i j:Nat} {R:UEnv->MM->Prop}:X1 i j u ρ M R=T2S M u fun a b=>R ((ρ.set i (some a)).set j (some b)) M:=rfl
theorem rd_name3 {i j k:Nat} {R:UEnv->MM->Prop}:X0 i j k u ρ M R=T3S M u fun a b c=>R (((ρ.set i (some a)).set j (some b)).set k (some c)) M:=rfl
theorem rd_t2 {a b:T} {R:U->U->Prop}:T2S M (.p (.tup [a,b])) R=R (.p a) (.p b):=propext ⟨fun⟨_,_,e,h⟩=>by cases e; exact h,fun h=>⟨_,_,rfl,h⟩⟩
theorem rd_t3 {a b c:T} {R:U->U->U->Prop}:T3S M (.p (.tup [a,b,c])) R=R (.p a) (.p b) (.p c):=propext ⟨fun⟨_,_,_,e,h⟩=>by cases e; exact h,fun h=>⟨_,_,_,rfl,h⟩⟩
theorem rd_callP {G:List T->(T->Prop)->Prop}:X4 G ul ρ M Q=ul ρ M fun us M1=>PurS us fun ts=>G ts fun t=>Q (.p t) M1:=rfl
theorem rd_callS {G:List T->(T->Prop)->Prop}:uCallS G ul ρ M Q=ul ρ M fun us M1=>SnsS M1 us fun ts=>G ts fun t=>(∃x,vt t=some x)/\Q (.p t) M1:=rfl
theorem rd_callU {G:List U->MM->UK->Prop}:uCall G ul ρ M Q=ul ρ M fun us M1=>G us M1 Q:=rfl
def MeS (s:List U->List U->(U->List U->Prop)->Prop) (ul:UA) (ρ:UEnv) (M:MM) (o:U) (Q:UK):Prop:=∃k,o=.m k/\(∃zs,M[k]?=some (.lst zs))/\ul ρ M fun ws M2=>∃us,M2[k]?=some (.lst us)/\s us ws fun z us'=>Q z (M2.set k (.lst us'))
theorem rd_me {s:List U->List U->(U->List U->Prop)->Prop}:uMe s ua ul ρ M Q=ua ρ M fun o M1=>MeS s ul ρ M1 o Q:=rfl
theorem me_at {s:List U->List U->(U->List U->Prop)->Prop} {k:Nat} {zs:List U} (e:M[k]?=some (.lst zs)) (h:ul ρ M fun ws M2=>∃us,M2[k]?=some (.lst us)/\s us ws fun z us'=>Q z (M2.set k (.lst us'))):MeS s ul ρ M (.m k) Q:=⟨k,rfl,⟨zs,e⟩,h⟩
theorem rd_app {us:List U} {y:U} {Q:U->List U->Prop}:Jd us [y] Q=(us.length<sizeLine/\Q (.p .non) (us++[y])):=propext ⟨fun⟨_,e,h⟩=>by cases e; exact h,fun h=>⟨y,rfl,h⟩⟩
theorem ss {α:Type} {a:α} {R:α->Prop}:(∃x,some a=some x/\R x)=R a:=propext ⟨fun⟨_,e,h⟩=>by cases e; exact h,fun h=>⟨a,rfl,h⟩⟩
end
inductive EqT:Nat->T->T->Bool->Prop
 |flat {n:Nat} {a b:T} {x y:V}:vt a=some x->vt b=some y->EqT n a b (eqV x y)
 |tup {n:Nat} {xs ys:List T} {e:Nat->Bool}:(∀(j:Nat) x y,xs[j]?=some x->ys[j]?=some y->EqT n x y (e j))->EqT (n+1) (.tup xs) (.tup ys) ((List.range (min xs.length ys.length)).all e&&xs.length==ys.length)
 |lst {n:Nat} {xs ys:List T} {e:Nat->Bool}:xs.length=ys.length->(∀(j:Nat) x y,xs[j]?=some x->ys[j]?=some y->EqT n x y (e j))->EqT (n+1) (.lst xs) (.lst ys) ((List.range xs.length).all e)
 |lstN {n:Nat} {xs ys:List T}:xs.length≠ys.length->EqT (n+1) (.lst xs) (.lst ys) false
section
variable {A:Addr->Prop} {H:Hp} {ι:List Addr} {M M':MM} {v:V} {u:U} {t:T} {K:PySem.W.Frag} {n:Nat}
theorem RepT.inj {a b:T} (r:RepT A H v a):RepT A H v b->a=b:=by
 induction r generalizing b with
 |non=>intro q; cases q; rfl
 |bl=>intro q; cases q; rfl
 |int=>intro q; cases q; rfl
 |str=>intro q; cases q; rfl
 |tup na e l r ih =>
  intro q
  cases q with
  |tup na' e' l' r' =>
   rw[e] at e'; cases e'
   congr 1
   refine List.ext_getElem (by omega) fun i h1 h2=>?_
   have h3:=h1
   rw[<-l] at h3
   exact ih i _ _ (List.getElem?_eq_getElem h3) (List.getElem?_eq_getElem h1) (r' i _ _ (List.getElem?_eq_getElem h3) (List.getElem?_eq_getElem h2))
  |lst na' e' l' r'=>rw[e] at e'; cases e'
 |lst na e l r ih =>
  intro q
  cases q with
  |lst na' e' l' r' =>
   rw[e] at e'; cases e'
   congr 1
   refine List.ext_getElem (by omega) fun i h1 h2=>?_
   have h3:=h1
   rw[<-l] at h3
   exact ih i _ _ (List.getElem?_eq_getElem h3) (List.getElem?_eq_getElem h1) (r' i _ _ (List.getElem?_eq_getElem h3) (List.getElem?_eq_getElem h2))
  |tup na' e' l' r'=>rw[e] at e'; cases e'
theorem eqV_self:∀{x:V} {t:T},vt t=some x->eqV x x=true:=fun {x t} h=>by cases ZJ h<;>simp[eqV]
theorem EqT.self {a b:T} {r:Bool} (h:EqT n a b r):a=b->r=true:=by
 induction h with
 |flat h1 h2=>intro e; subst e; rw[h1] at h2; cases h2; exact eqV_self h1
 | @tup n xs ys e hh ih =>
  intro q
  cases q
  simp only[Nat.min_self,beq_self_eq_true,Bool.and_true,List.all_eq_true,List.mem_range]
  intro j hj
  exact ih j _ _ (List.getElem?_eq_getElem hj) (List.getElem?_eq_getElem hj) rfl
 | @lst n xs ys e hl hh ih =>
  intro q
  cases q
  simp only[List.all_eq_true,List.mem_range]
  intro j hj
  exact ih j _ _ (List.getElem?_eq_getElem hj) (List.getElem?_eq_getElem hj) rfl
 |lstN hl=>intro q; cases q; exact absurd rfl hl
theorem EqT.de {a b:T} {r:Bool} (h:EqT n a b r):∀{x y:V},RepT A H x a->RepT A H y b->DE K H n x y r:=by
 induction h with
 | @flat n a b x0 y0 h1 h2 =>
  intro x y r1 r2
  cases(RepV.of r1).sc (y:=.non) h1; cases(RepV.of r2).sc (y:=.non) h2
  exact .flat (by cases ZJ h1<;>rfl) (by cases ZJ h2<;>rfl)
 | @tup n xs ys e hh ih =>
  intro x y r1 r2
  obtain⟨p,vs,rfl,_,h1,q1⟩:=r1.tup_inv
  obtain⟨p2,vs2,rfl,_,h2,q2⟩:=r2.tup_inv
  by_cases hp:p=p2
  ·subst hp
   have:=(EqT.tup (n:=n) hh).self (r1.inj r2)
   rw[this]; exact .same
  ·have:=DE.tup (K:=K) (H:=H) (n:=n) (e:=e) hp (SqT.of h1) (SqT.of h2) fun j x y hx hy=>by
    obtain⟨a,ha,ra⟩:=Paired.getL q1 hx
    obtain⟨b,hb,rb⟩:=Paired.getL q2 hy
    exact ih j a b ha hb ra rb
   rw[q1.len,q2.len] at this
   exact this
 | @lst n xs ys e hl hh ih =>
  intro x y r1 r2
  obtain⟨p,vs,rfl,_,h1,q1⟩:=r1.lst_inv
  obtain⟨p2,vs2,rfl,_,h2,q2⟩:=r2.lst_inv
  by_cases hp:p=p2
  ·subst hp
   have:=(EqT.lst (n:=n) hl hh).self (r1.inj r2)
   rw[this]; exact .same
  ·have:=DE.lst (K:=K) (H:=H) (n:=n) (e:=e) hp (SqL.of h1) (SqL.of h2) (by rw[q1.len,q2.len,hl]) fun j x y hx hy=>by
    obtain⟨a,ha,ra⟩:=Paired.getL q1 hx
    obtain⟨b,hb,rb⟩:=Paired.getL q2 hy
    exact ih j a b ha hb ra rb
   rw[q1.len] at this
   exact this
 | @lstN n xs ys hl =>
  intro x y r1 r2
  obtain⟨p,vs,rfl,_,h1,q1⟩:=r1.lst_inv
  obtain⟨p2,vs2,rfl,_,h2,q2⟩:=r2.lst_inv
  by_cases hp:p=p2
  ·subst hp
   have:=r1.inj r2
   cases this
   exact absurd rfl hl
  ·exact .lstN hp (SqL.of h1) (SqL.of h2) (by rw[q1.len,q2.len]; exact hl)
def sEqL (neg:Bool):T->T->(T->Prop)->Prop:=fun a b Q=>∃xs ys,a=.lst xs/\b=.lst ys/\((xs.length≠ys.length/\Q (.bl neg))\/(xs.length=ys.length/\∃e:Nat->Bool,(∀(j:Nat) x y,xs[j]?=some x->ys[j]?=some y->EqT 20 x y (e j))/\Q (.bl (if neg then !(List.range xs.length).all e else(List.range xs.length).all e))))
theorem JC:OpL (rEqL K) (sEqL false):=fun A ι H M x y a b Qs Q w r1 r2 ⟨xs,ys,ea,eb,h⟩ k=>by
 subst ea eb
 obtain⟨p,vs,rfl,h1,q1⟩:=r1.lst_inv
 obtain⟨p2,vs2,rfl,h2,q2⟩:=r2.lst_inv
 refine⟨p,p2,vs,vs2,rfl,rfl,SqL.of h1,SqL.of h2, ?_⟩
 rcases h with⟨hl,q⟩|⟨hl,e,he,q⟩
 ·exact .inl ⟨by rw[q1.len,q2.len]; exact hl,k _ ι _ H (.refl _ _) w (.bl _) q⟩
 ·refine .inr ⟨by rw[q1.len,q2.len]; exact hl,e,fun j x y hx hy=>?_,by rw[q1.len]; exact k _ ι _ H (.refl _ _) w (.bl _) q⟩
  obtain⟨a,ha,ra⟩:=Paired.getL q1 hx
  obtain⟨b,hb,rb⟩:=Paired.getL q2 hy
  exact(he j a b ha hb).de ra rb
theorem JA:OpL (rNeL K) (sEqL true):=fun A ι H M x y a b Qs Q w r1 r2 ⟨xs,ys,ea,eb,h⟩ k=>by
 subst ea eb
 obtain⟨p,vs,rfl,h1,q1⟩:=r1.lst_inv
 obtain⟨p2,vs2,rfl,h2,q2⟩:=r2.lst_inv
 refine⟨p,p2,vs,vs2,rfl,rfl,SqL.of h1,SqL.of h2, ?_⟩
 rcases h with⟨hl,q⟩|⟨hl,e,he,q⟩
 ·exact .inl ⟨by rw[q1.len,q2.len]; exact hl,k _ ι _ H (.refl _ _) w (.bl _) q⟩
 ·refine .inr ⟨by rw[q1.len,q2.len]; exact hl,e,fun j x y hx hy=>?_,by rw[q1.len]; exact k _ ι _ H (.refl _ _) w (.bl _) q⟩
  obtain⟨a,ha,ra⟩:=Paired.getL q1 hx
  obtain⟨b,hb,rb⟩:=Paired.getL q2 hy
  exact(he j a b ha hb).de ra rb
abbrev vx (ns:List Int):T:=.lst (ns.map T.int)
theorem eqNil {neg:Bool} {xs:List T} {Q:T->Prop} (q:Q (.bl (if neg then !xs.isEmpty else xs.isEmpty))):sEqL neg (.lst xs) (.lst []) Q:=by
 refine⟨_,_,rfl,rfl, ?_⟩
 cases xs with
 |nil=>exact .inr ⟨rfl,fun _=>true,fun j x y hx=>by simp at hx,by simpa using q⟩
 |cons x xs=>exact .inl ⟨by simp,by cases neg<;>simpa using q⟩
def frzB (b:Nat):Nat->MM->U->Option T
 |_,_, .p t=>some t
 |0,_, .m _=>none
 |_,_, .x _ _ _=>none
 |n+1,M, .m k=>if b<=k then match M[k]? with
  |some (.lst us)=>(frzs (frzB b n M) us).map T.lst
  |some (.tup us)=>(frzs (frzB b n M) us).map T.tup
  |_=>none else none
@[simp] theorem Xe {b n:Nat} {M:MM} {t:T}:frzB b n M (.p t)=some t:=by cases n<;>rfl
theorem VA {A':Addr->Prop} {f:U->Option T} {vs:List V} {us:List U} {ts:List T} (r:RepUs A ι H vs us) (h:∀v u t,RepU A ι H v u->f u=some t->RepT A' H v t) (e:frzs f us=some ts):RepTs A' H vs ts:=by
 induction r generalizing ts with
 |nil=>simp[frzs] at e; subst e; exact .nil
 |cons r q ih =>
  simp only[frzs] at e
  split at e
  ·rename_i h1 h2
   simp at e; subst e
   exact .cons (h _ _ _ r h1) (ih h2)
  ·cases e
theorem QY {m:List Addr} (w:Wd A (ι++m) H M):∀{n:Nat} {v:V} {u:U} {t:T},RepU A (ι++m) H v u->frzB ι.length n M u=some t->RepT (Av A ι) H v t
 |n,v, .p t',t, .p r,e=>by
  rw[Xe] at e; cases e
  exact r.mono fun x o hx ex=>⟨ex,fun z=>hx (z.elim .inl fun z=>.inr (List.mem_append_left _ z))⟩
 |0,v, .m k,t,r,e=>by simp[frzB] at e
 |n,v, .x a d q,t,r,e=>by cases n<;>simp[frzB] at e
 |n+1,v, .m k,t,r,e=>by
  cases r with
  |m q =>
  rename_i a
  obtain⟨o,h1,h2⟩:=w.al q
  simp only[frzB,h1] at e
  split at e
  ·rename_i hk
   have hna:¬Av A ι a:=fun z=>by
    rcases z with z|z
    ·exact w.na _ (List.mem_of_getElem? q) z
    ·rw[List.getElem?_append_right hk] at q
     have hd:=(List.nodup_append.mp w.nd).2.2
     exact hd a z a (List.mem_of_getElem? q) rfl
   cases o with
   |lst us =>
    simp at e
    obtain⟨ts,e1,rfl⟩:=e
    obtain⟨vs,h3,h4⟩:=h2
    exact .lstP hna h3 (VA h4 (fun v u t r e=>QY w r e) e1)
   |tup us =>
    simp at e
    obtain⟨ts,e1,rfl⟩:=e
    obtain⟨vs,h3,h4⟩:=h2
    exact .tupP hna h3 (VA h4 (fun v u t r e=>QY w r e) e1)
   |ins=>simp at e
   |dK=>simp at e
  ·cases e
def PurO (o:MO):Prop:=∃ts:List T,o=.lst (ts.map U.p)
def zS (M M':MM):Prop:=∀(i:Nat) o,i<M.length->M'[i]?=some o->M[i]?=some o\/PurO o
theorem RepU.less {m:List Addr} {v0:V} {H0:Hp} (r:RepU A (ι++m) H v u) (r0:RepU A ι H0 v0 u):RepU A ι H v u:=by
 cases r with
 |p r=>exact .p (r.mono fun x o hx ex=>⟨ex,fun z=>hx (z.elim .inl fun z=>.inr (List.mem_append_left _ z))⟩)
 |m e =>
  cases r0 with
  |m e0 =>
   rw[List.getElem?_append_left (List.getElem?_eq_some_iff.mp e0).1] at e
   exact .m e
 | @x a d q h =>
  refine .x ?_
  cases q with
  |none=>exact h
  |some n =>
   obtain⟨x0,e,ni,hx⟩:=h
   exact⟨x0,e,fun z=>ni (List.mem_append_left _ z),hx⟩
theorem zp {α β:Type} {F G L:α->β->Prop} (h:∀a a0 b,F a b->G a0 b->L a b):∀{l l0:List α} {r:List β},Paired F l r->Paired G l0 r->Paired L l r
 |_,_,_, .nil, .nil=>.nil
 |_,_,_, .cons p q, .cons p0 q0=>.cons (h _ _ _ p p0) (zp h q q0)
theorem ObjR.less {m:List Addr} {a a0:Addr} {o:MO} {H0:Hp} (r:ObjR A (ι++m) H a o) (r0:ObjR A ι H0 a0 o):ObjR A ι H a o:=by
 cases o with
 |lst=>obtain⟨vs,e,r⟩:=r; obtain⟨_,_,r0⟩:=r0; exact⟨vs,e,zp (fun _ _ _ p q=>p.less q) r r0⟩
 |tup=>obtain⟨vs,e,r⟩:=r; obtain⟨_,_,r0⟩:=r0; exact⟨vs,e,zp (fun _ _ _ p q=>p.less q) r r0⟩
 |ins=>obtain⟨dx,gs,e,ed,nd,r⟩:=r; obtain⟨_,_,_,_,_,r0⟩:=r0; exact⟨dx,gs,e,ed,fun z=>nd (List.mem_append_left _ z),zp (fun _ _ _ p q=>⟨p.1,p.2.less q.2⟩) r r0⟩
 |dK=>obtain⟨gs,e,r⟩:=r; obtain⟨_,_,r0⟩:=r0; exact⟨gs,e,zp (fun _ _ _ p q=>⟨p.1,p.2.less q.2⟩) r r0⟩
theorem Wd.trim {m:List Addr} {H0:Hp} (w:Wd A (ι++m) H M') (w0:Wd A ι H0 M) (h:zS M M'):Wd A ι H (M'.take M.length):=by
 have hl:M.length<=M'.length:=by
  have:=w.len; rw[List.length_append,w0.len] at this; omega
 refine⟨(List.nodup_append.mp w.nd).1,by rw[List.length_take,Nat.min_eq_left hl]; exact w0.len,w.dom,fun x hx=>w.na x (List.mem_append_left _ hx),fun k a o e1 e2=>?_⟩
 have hk:=(List.getElem?_eq_some_iff.mp e1).1
 rw[List.getElem?_take_of_lt (by rw[<-w0.len]; exact hk)] at e2
 have r:=w.obj k a o (by rw[List.getElem?_append_left hk]; exact e1) e2
 rcases h k o (by rw[<-w0.len]; exact hk) e2 with z|⟨ts,rfl⟩
 ·exact r.less (w0.obj k a o e1 z)
 ·obtain⟨vs,e,q⟩:=r
  refine⟨vs,e, ?_⟩
  have q2:=q.pures
  exact RepTs.ups (Paired.mapP q2 fun _ _ q=>q.mono fun x o hx ex=>⟨ex,fun z=>hx (z.elim .inl fun z=>.inr (List.mem_append_left _ z))⟩)
end
section
variable {P:Program} {w:World} {K:PySem.W.Frag} {mg:Str->Option Value} {base:Heap}
theorem Fun.okV {x qual:Str} {st:Stmt} {f:Addr} {fd:FuncData} {N ps:List Str} {k:Nat} {G:List U->MM->UK->Prop} (F:Fun K x qual st f fd) (S:FnScope N ps (qc st)) (len:∀us M Qu,G us M Qu->us.length=ps.length)
  (hbody:∀(cdv:Value) (A:Around) (outer:List Env) (s:Shared) (H:Hp) (E:XK),Room k (A.deeper (envOfC qual (qc st) s.heap.objs.size f cdv)) ->
   ∃t,PSs (cxOf CX0 P w K mg base N qual (qc st) f cdv A outer s H E).nox (qi st) t/\∃u,LS t u/\∀us M Qu,G us M Qu->u { nx:=fun _ M'=>zS M M'/\Qu (.p .non) (M'.take M.length),rt:=fun z M'=>zS M M'/\∃t,frzB M.length 4 M' z=some t/\Qu (.p t) (M'.take M.length) } (jd N us) M):FnOk P w K mg base CX0 (k+1) f fd ps (spU G):=by
 refine F.ok S (fun vs H Q E h=>?_) (fun cdv A outer s H vs Q E hr h=>?_)
 ·obtain⟨A,ι,M,us,Qu,w1,r,g,_⟩:=h
  rw[r.len]; exact len us M Qu g
 ·obtain⟨B,ι,M,us,Qu,w1,r,g,kk⟩:=h
  obtain⟨t,ht,u,hu,hb⟩:=hbody cdv A outer s H E hr
  have less:∀{ι1:List Addr} {H1:Hp},Le ι H ι1 H1->Le ι H ι H1:=fun l=>⟨⟨[],by simp,by simp⟩,l.fr,l.al⟩
  refine⟨t,ht,hu B ι _ H _ M _ { nx:=fun _ M'=>zS M M'/\Qu (.p .non) (M'.take M.length),rt:=fun z M'=>zS M M'/\∃t,frzB M.length 4 M' z=some t/\Qu (.p t) (M'.take M.length) } w1 (jc r) ⟨fun ι1 σ1 H1 ρ1 M1 l1 w2 e1 q1=>?_,fun ι1 v H1 z M1 l1 w2 r1 q1=>?_,fun _ _ _ _ _ _ _ _ q=>q.elim,fun _ _ _ _ _ _ _ _ q=>q.elim⟩ (hb us M Qu g)⟩
  ·obtain⟨tr,q⟩:=q1
   obtain⟨m,rfl,_⟩:=id l1.ext
   exact kk _ _ ι _ H1 (less l1) (w2.trim w1 tr) (.p .non) q
  ·obtain⟨tr,t1,et,q⟩:=q1
   obtain⟨m,rfl,_⟩:=id l1.ext
   rw[<-w1.len] at et
   exact kk _ _ ι v H1 (less l1) (w2.trim w1 tr) (.p (QY w2 r1 et)) q
end
section
variable {ua ub uc:UE} {ul:UA} {M:MM} {v:V} {ρ:UEnv}
def keyU:Key->U
 |.inl i=>.p (.int i)
 |.inr x=>.p (.str x)
def valU (kvs:List (Key×U)) (k:Key):Option U:=(kvs.find? fun kv=>decide (kv.1=k)).map (·.2)
def putU (kvs:List (Key×U)) (k:Key) (y:U):List (Key×U):=if kvs.any (fun kv=>decide (kv.1=k)) then kvs.map (fun kv=>if kv.1=k then(kv.1,y) else kv) else kvs++[(k,y)]
def uPairs:List (UE×UE)->UEnv->MM->(List (U×U)->MM->Prop)->Prop
 | [],_,M,Q=>Q [] M
 | (k,v)::r,ρ,M,Q=>k ρ M fun x M1=>v ρ M1 fun y M2=>uPairs r ρ M2 fun ps M3=>Q ((x,y)::ps) M3
def DGetS (M:MM) (x y:U) (Q:UK):Prop:=∃k kvs key w,x=.m k/\M[k]?=some (.dK kvs)/\y=keyU key/\valU kvs key=some w/\Q w M
def uDGet (ua ub:UE):UE:=fun ρ M Q=>ua ρ M fun x M1=>ub ρ M1 fun y M2=>DGetS M2 x y Q
theorem rd_dget {Q:UK}:uDGet ua ub ρ M Q=ua ρ M fun x M1=>ub ρ M1 fun y M2=>DGetS M2 x y Q:=rfl
def uIfC (c:UT) (t1 t2:T):UE:=fun ρ M Q=>c ρ M fun b M1=>Q (.p (if b=true then t1 else t2)) M1
theorem iteT_int {c:Prop} [Decidable c] {a b:Int}:(if c then T.int a else T.int b)=T.int (if c then a else b):=by split<;>rfl
theorem iteT_str {c:Prop} [Decidable c] {a b:Str}:(if c then T.str a else T.str b)=T.str (if c then a else b):=by split<;>rfl
def itV (x:U) (us:List U):UIt:=⟨us.length,fun M=>va M x=some us,fun i z=>us[us.length-1-i]?=some z⟩
def RevS (us:List U) (M:MM) (R:UIt->MM->Prop):Prop:=∃x ys,us=[x]/\va M x=some ys/\R (itV x ys) M
theorem rd_rev {R:UIt->MM->Prop}:uRev ul ρ M R=ul ρ M fun us M1=>RevS us M1 R:=rfl
theorem rd_revP {ts:List T} {R:UIt->MM->Prop}:RevS [.p (.lst ts)] M R=R (itV (.p (.lst ts)) (ts.map U.p)) M:=propext ⟨fun⟨_,_,e1,e2,h⟩=>by cases e1; cases e2; exact h,fun h=>⟨_,_,rfl,rfl,h⟩⟩
theorem rd_ch {s':T->T->(T->Prop)->Prop} {y:U} {b:Bool} {Q:UK}:ChS s' uc ρ M y Q (.bl b)=if b=true then uc ρ M fun c M3=>OpS s' M3 y c Q else Q (.p (.bl false)) M :=
 propext ⟨fun⟨k,e,h⟩=>by cases e; exact h,fun h=>⟨b,rfl,h⟩⟩
end
section
variable {ua ub:UE} {ul:UA} {M:MM} {v:V} {t:T} {ρ:UEnv}
def uIxK (ts:List T) (ub:UE):UE:=fun ρ M Q=>ub ρ M fun y M1=>IntS y fun i=>∃t,atI ts i=some t/\Q (.p t) M1
def uInK (neg:Bool) (vs:List V) (ua:UE):UE:=fun ρ M Q=>ua ρ M fun x M1=>∃a,x=.p a/\∃y,vt a=some y/\Q (.p (.bl (if neg then !inV y vs else inV y vs))) M1
inductive TyC where
 |int|bool|str|list|tuple
def TyC.name:TyC->String
 |.int => "int" |.bool => "bool" |.str => "str" |.list => "list" |.tuple => "tuple"
def isT:T->TyC->Bool
 |.int _, .int=>true
 |.bl _, .int=>true
 |.bl _, .bool=>true
 |.str _, .str=>true
 |.lst _, .list=>true
 |.tup _, .tuple=>true
 |_,_=>false
def isU (M:MM):U->TyC->Option Bool
 |.p t,c=>some (isT t c)
 |.m k,c=>match M[k]? with
  |some (.lst _)=>some (isT (.lst []) c)
  |some (.tup _)=>some (isT (.tup []) c)
  |_=>none
 |.x _ _ _,_=>none
def uIsi (c:TyC) (ua:UE):UE:=fun ρ M Q=>ua ρ M fun x M1=>∃b,isU M1 x c=some b/\Q (.p (.bl b)) M1
def uIsi2 (c d:TyC) (ua:UE):UE:=fun ρ M Q=>ua ρ M fun x M1=>∃b,isU M1 x c=some b/\∃b',isU M1 x d=some b'/\Q (.p (.bl (b||b'))) M1
def sEqTu (neg:Bool):T->T->(T->Prop)->Prop:=fun a b Q=>∃xs ys,∃e:Nat->Bool,a=.tup xs/\b=.tup ys/\(∀(j:Nat) x y,xs[j]?=some x->ys[j]?=some y->EqT 20 x y (e j))/\Q (.bl (if neg then !((List.range (min xs.length ys.length)).all e&&xs.length==ys.length) else((List.range (min xs.length ys.length)).all e&&xs.length==ys.length)))
def uDNew:UE:=fun _ M Q=>Q (.m M.length) (M++[.dK []])
def DInS (neg:Bool) (M:MM) (y x:U) (Q:UK):Prop:=∃k kvs key,x=.m k/\M[k]?=some (.dK kvs)/\y=keyU key/\Q (.p (.bl (if neg then !(valU kvs key).isSome else(valU kvs key).isSome))) M
def uDIn (neg:Bool) (ua ub:UE):UE:=fun ρ M Q=>ua ρ M fun y M1=>ub ρ M1 fun x M2=>DInS neg M2 y x Q
def DPutS (M:MM) (x y v:U) (R:MM->Prop):Prop:=∃k kvs key,x=.m k/\M[k]?=some (.dK kvs)/\y=keyU key/\kvs.length<sizeLine/\R (M.set k (.dK (putU kvs key v)))
def uDPut (ud uy uv:UE):US:=fun E ρ M=>uv ρ M fun v M1=>ud ρ M1 fun x M2=>uy ρ M2 fun y M3=>DPutS M3 x y v fun M4=>E.nx ρ M4
theorem rd_din {neg:Bool} {Q:UK}:uDIn neg ua ub ρ M Q=ua ρ M fun y M1=>ub ρ M1 fun x M2=>DInS neg M2 y x Q:=rfl
theorem rd_dput {ud uy uv:UE} {E:UEnds}:uDPut ud uy uv E ρ M=uv ρ M fun v M1=>ud ρ M1 fun x M2=>uy ρ M2 fun y M3=>DPutS M3 x y v fun M4=>E.nx ρ M4:=rfl
def IdxS (us:List U) (xs:List Str) (M:MM) (Q:UK):Prop:=∃(t:Str) (j:Nat),us=[.p (.str t)]/\xs[j]?=some t/\(∀m,m<j->xs[m]?≠some t)/\Q (.p (.int j)) M
def uIdxK (xs:List Str) (ul:UA):UE:=fun ρ M Q=>ul ρ M fun us M1=>IdxS us xs M1 Q
theorem rd_idxK {xs:List Str} {Q:UK}:uIdxK xs ul ρ M Q=ul ρ M fun us M1=>IdxS us xs M1 Q:=rfl
end
section
variable {ul:UA} {n:Nat} {M:MM} {u:U} {ρ:UEnv}
def LRng2S (us:List U) (M:MM) (Q:UK):Prop:=∃(i j:Int) (n:Nat),us=[.p (.int i), .p (.int j)] /\ -(2^62)<=i/\j<2^62/\j=i+n/\n<=1000000/\Q (.p (.lst ((List.range n).map fun k:Nat=>T.int (i+k)))) M
def uLRng2 (ul:UA):UE:=fun ρ M Q=>ul ρ M fun us M1=>LRng2S us M1 Q
theorem rd_lrng2 {Q:UK}:uLRng2 ul ρ M Q=ul ρ M fun us M1=>LRng2S us M1 Q:=rfl
theorem eqBls {neg:Bool} {ns ms:List Bool} {Q:T->Prop} (q:Q (.bl (if neg then !decide (ns=ms) else decide (ns=ms)))):sEqL neg (.lst (ns.map T.bl)) (.lst (ms.map T.bl)) Q:=by
 refine⟨_,_,rfl,rfl, ?_⟩
 simp only[List.length_map]
 by_cases hl:ns.length=ms.length
 ·refine .inr ⟨hl,fun j=>ns[j]?==ms[j]?,fun j x y hx hy=>?_,by rw[KW hl]; exact q⟩
  rw[List.getElem?_map] at hx hy
  cases e1:ns[j]? with
  |none=>rw[e1] at hx; cases hx
  |some i =>
   cases e2:ms[j]? with
   |none=>rw[e2] at hy; cases hy
   |some k =>
    rw[e1] at hx; rw[e2] at hy
    cases hx; cases hy
    have:=EqT.flat (n:=20) (a:=.bl i) (b:=.bl k) rfl rfl
    have e3:eqV (.bl i) (.bl k)=(ns[j]?==ms[j]?):=by rw[e1,e2]; cases i<;>cases k<;>rfl
    rw[e3] at this
    exact this
 ·refine .inl ⟨hl, ?_⟩
  have:decide (ns=ms)=false:=decide_eq_false fun z=>hl (by rw[z])
  rw[this] at q
  cases neg<;>simpa using q
theorem gdIx {it:MM->U->Option (List U)} {x y:U} {Q:UK} (h:IxS it M x y Q):IxS it M x y Q:=h
theorem gdT2 {u:U} {R:U->U->Prop} (h:T2S M u R):T2S M u R:=h
theorem gdT3 {u:U} {R:U->U->U->Prop} (h:T3S M u R):T3S M u R:=h
theorem gdMe {s:List U->List U->(U->List U->Prop)->Prop} {o:U} {Q:UK} (h:MeS s ul ρ M o Q):MeS s ul ρ M o Q:=h
theorem gdLen {it:MM->U->Option (List U)} {us:List U} {Q:UK} (h:LenS it M us Q):LenS it M us Q:=h
end
section
variable {ua ub uv:UE} {ul:UA} {A:Addr->Prop} {H:Hp} {ι:List Addr} {M:MM} {v:V} {u:U} {σ:St} {ρ:UEnv} {K:PySem.W.Frag} {f m:Str} {C:Addr}
def putFU (f:Str) (v:U):List (Str×U)->List (Str×U)
 | []=>[(f,v)]
 | (g,x)::r=>if g=f then(g,v)::r else(g,x)::putFU f v r
def FldS (K:PySem.W.Frag) (f:Str) (x:U) (M:MM) (Q:UK):Prop:=∃k C fs u,x=.m k/\M[k]?=some (.ins C fs)/\Cls K C/\NoAttr K C f/\fs.lookup f=some u/\Q u M
def uFld (K:PySem.W.Frag) (ua:UE) (f:Str):UE:=fun ρ M Q=>ua ρ M fun x M1=>FldS K f x M1 Q
def K2 (K:PySem.W.Frag) (f:Str) (x y:U) (M:MM) (R:MM->Prop):Prop:=∃k C fs,x=.m k/\M[k]?=some (.ins C fs)/\Cls K C/\NoAttr K C f/\fs.length<1000/\R (M.set k (.ins C (putFU f y fs)))
def uFldPut (K:PySem.W.Frag) (ua uv:UE) (f:Str):US:=fun E ρ M=>uv ρ M fun y M1=>ua ρ M1 fun x M2=>K2 K f x y M2 fun M3=>E.nx ρ M3
def MethS (C:Addr) (m:Str) (x:U) (M:MM) (R:Prop):Prop:=∃k fs,x=.m k/\M[k]?=some (.ins C fs)/\fs.lookup m=none/\R
def uMeth (C:Addr) (m:Str) (G:List U->MM->UK->Prop) (ua:UE) (ul:UA):UE:=fun ρ M Q=>ua ρ M fun x M1=>MethS C m x M1 (ul ρ M1 fun us M2=>G (x::us) M2 Q)
def uMake (C:Addr) (G:List U->MM->UK->Prop) (ul:UA):UE:=fun ρ M Q=>ul ρ M fun us M1=>G (.m M1.length::us) (M1++[.ins C []]) fun v M2=>v=.p .non/\Q (.m M1.length) M2
def RepNS (M:MM) (x y:U) (Q:UK):Prop:=∃xs k,x=.p (.lst xs)/\y=.p (.int k) /\ -(2^63)<=k/\k<2^63/\xs.length*k.toNat<=sizeLine/\Q (.m M.length) (M++[.lst ((List.replicate k.toNat xs).flatten.map U.p)])
def uRepNew (ua ub:UE):UE:=fun ρ M Q=>ua ρ M fun x M1=>ub ρ M1 fun y M2=>RepNS M2 x y Q
def SubS (M:MM) (o i u:U) (R:MM->Prop):Prop:=∃k us z j,o=.m k/\M[k]?=some (.lst us)/\i=.p (.int z)/\ixN us.length z=some j/\R (M.set k (.lst (us.set j u)))
theorem rd_sub {Q:UEnv->MM->Prop}:uSub ua ub u ρ M Q=ua ρ M fun o M1=>ub ρ M1 fun i M2=>SubS M2 o i u fun M3=>Q ρ M3:=rfl
theorem rep4 {vs:List V} {a b c d:U} (r:RepUs A ι H vs [a,b,c,d]):∃x y z s,vs=[x,y,z,s]/\RepU A ι H x a/\RepU A ι H y b/\RepU A ι H z c/\RepU A ι H s d:=by
 cases r with
 |cons r q =>
  obtain⟨y,z,s,rfl,r2,r3,r4⟩:=rep3 q
  exact⟨_,_,_,_,rfl,r,r2,r3,r4⟩
def XZ (i j k l:Nat):UG:=fun u ρ M Q=>∃a b c d,vP M u=some [a,b,c,d]/\Q ((((ρ.set i (some a)).set j (some b)).set k (some c)).set l (some d)) M
theorem lg_name4 (i j l o:Nat):LG (gTup K 4 (vh (qS i) (vh (qS j) (vh (qS l) (vh (qS o) gNil))))) (XZ i j l o):=fun A ι σ H ρ M v u Qu Q w e r ⟨a,b,c,d,ei,q⟩ k=>by
 obtain⟨p,vs,rfl,h1,h2⟩:=xE w r ei
 obtain⟨x,y,z,s,rfl,r1,r2,r3,r4⟩:=rep4 h2
 exact⟨p,_,rfl,SqT.of h1,rfl,_,_,rfl,_,_,rfl,_,_,rfl,_,_,rfl,rfl,k _ M ι _ H (.refl _ _) w ((((e.put i r1).put j r2).put l r3).put o r4) q⟩
def T4S (M:MM) (u:U) (R:U->U->U->U->Prop):Prop:=∃a b c d,vP M u=some [a,b,c,d]/\R a b c d
theorem rd_name4 {i j k l:Nat} {R:UEnv->MM->Prop}:XZ i j k l u ρ M R=T4S M u fun a b c d=>R ((((ρ.set i (some a)).set j (some b)).set k (some c)).set l (some d)) M:=rfl
theorem rd_t4 {a b c d:T} {R:U->U->U->U->Prop}:T4S M (.p (.tup [a,b,c,d])) R=R (.p a) (.p b) (.p c) (.p d):=propext ⟨fun⟨_,_,_,_,e,h⟩=>by cases e; exact h,fun h=>⟨_,_,_,_,rfl,h⟩⟩
def P2S (us:List U) (R:U->U->Prop):Prop:=∃a b,us=[a,b]/\R a b
def P3S (us:List U) (R:U->U->U->Prop):Prop:=∃a b c,us=[a,b,c]/\R a b c
def uPar (i j:Nat) (ul:UA):US:=fun E ρ M=>ul ρ M fun us M1=>P2S us fun a b=>E.nx ((ρ.set i (some a)).set j (some b)) M1
def uPar3 (i j k:Nat) (ul:UA):US:=fun E ρ M=>ul ρ M fun us M1=>P3S us fun a b c=>E.nx (((ρ.set i (some a)).set j (some b)).set k (some c)) M1
theorem rd_par {i j:Nat} {E:UEnds}:uPar i j ul E ρ M=ul ρ M fun us M1=>P2S us fun a b=>E.nx ((ρ.set i (some a)).set j (some b)) M1:=rfl
theorem rd_par3 {i j k:Nat} {E:UEnds}:uPar3 i j k ul E ρ M=ul ρ M fun us M1=>P3S us fun a b c=>E.nx (((ρ.set i (some a)).set j (some b)).set k (some c)) M1:=rfl
theorem rd_p2 {a b:U} {R:U->U->Prop}:P2S [a,b] R=R a b:=propext ⟨fun⟨_,_,e,h⟩=>by cases e; exact h,fun h=>⟨a,b,rfl,h⟩⟩
theorem rd_p3 {a b c:U} {R:U->U->U->Prop}:P3S [a,b,c] R=R a b c:=propext ⟨fun⟨_,_,_,e,h⟩=>by cases e; exact h,fun h=>⟨a,b,c,rfl,h⟩⟩
theorem rd_fld {Q:UK}:uFld K ua f ρ M Q=ua ρ M fun x M1=>FldS K f x M1 Q:=rfl
theorem Jh {E:UEnds}:uFldPut K ua uv f E ρ M=uv ρ M fun y M1=>ua ρ M1 fun x M2=>K2 K f x y M2 fun M3=>E.nx ρ M3:=rfl
theorem rd_meth {G:List U->MM->UK->Prop} {Q:UK}:uMeth C m G ua ul ρ M Q=ua ρ M fun x M1=>MethS C m x M1 (ul ρ M1 fun us M2=>G (x::us) M2 Q):=rfl
theorem rd_make {G:List U->MM->UK->Prop} {Q:UK}:uMake C G ul ρ M Q=ul ρ M fun us M1=>G (.m M1.length::us) (M1++[.ins C []]) fun v M2=>v=.p .non/\Q (.m M1.length) M2:=rfl
theorem Je {Q:UK}:uRepNew ua ub ρ M Q=ua ρ M fun x M1=>ub ρ M1 fun y M2=>RepNS M2 x y Q:=rfl
end
section
variable {P:Program} {w:World} {K:PySem.W.Frag} {mg:Str->Option Value} {base:Heap}
def gNo:List U->MM->UK->Prop:=fun _ _ _=>False
theorem FnOk.no {k:Nat} {f:Addr} {fd:FuncData} {ps:List Str}:FnOk P w K mg base CX0 k f fd ps (spU gNo) :=
 ⟨fun vs H Q E ⟨_,_,_,_,_,_,_,h,_⟩=>h.elim,fun _ _ _ _ _ _ _ _ _ _ _ _ _ ⟨_,_,_,_,_,_,_,h,_⟩=>h.elim⟩
end
structure ZE (a:TE) (b:UE):Prop where
 h:LE a b
structure ZT (a:TT) (b:UT):Prop where
 h:LT a b
structure ZA (n:Nat) (a:TA) (b:UA):Prop where
 h:LA n a b
structure ZO (a:TO) (b:UO):Prop where
 h:LO a b
structure ZI (a:TI) (b:UI):Prop where
 h:LI a b
structure ZG (a:TG) (b:UG):Prop where
 h:LG a b
structure ZX (bs:List Bool) (n:Nat) (a:TG) (b:UG):Prop where
 h:LGx bs n a b
structure ZS (a:TS) (b:US):Prop where
 h:LS a b
section
theorem qb (i:Nat):ZE (tVar i) (uVar i):=⟨le_var i⟩
end
section
theorem ce_c {v:V} {t:T} (h:Sc v t):ZE (tC v) (uC t):=⟨le_c h⟩
end
section
theorem qf  : ZA 0 tNil uNil:=⟨la_nil ⟩
end
section
variable {ta:TE} {ua:UE} {tl:TA} {ul:UA} {n:Nat}
theorem qa (ha:ZE ta ua) (hl:ZA n tl ul):ZA (n+1) (xI ta tl) (uCons ua ul):=⟨la_cons ha.h hl.h⟩
end
section
variable {ta tb:TE} {ua ub:UE}
theorem qk {r:R2} {s:T->T->(T->Prop)->Prop} (h:OpL r s) (ha:ZE ta ua) (hb:ZE tb ub):ZE (tOp r ta tb) (uOp s ua ub):=⟨le_op h ha.h hb.h⟩
end
section
variable {ta:TE} {ua:UE}
variable {H:Hp}
theorem KK (ha:ZE ta ua):ZE (tOp (fun x y H Q=>y=.non/\Q (.bl (decide (x=.non))) H) ta (tC .non)) (uIsN false ua):=⟨le_isN ha.h⟩
end
section
variable {ta:TE} {ua:UE}
theorem Xm (ha:ZE ta ua):ZE (tUn (rU fun i=>.int (-i)) ta) (uNeg ua):=⟨le_neg ha.h⟩
end
section
variable {ta:TE} {ua:UE}
theorem ct_b (ha:ZE ta ua):ZT (tB ta) (uB ua):=⟨lt_b ha.h⟩
end
section
variable {ta:TE} {ua:UE}
theorem qx (ha:ZE ta ua):ZT (ki ta) (uB ua):=⟨lt_test ha.h⟩
end
section
variable {tt tt':TT} {ut ut':UT}
theorem ct_and (ha:ZT tt ut) (hb:ZT tt' ut'):ZT (tAnd tt tt') (uAnd ut ut'):=⟨lt_and ha.h hb.h⟩
end
section
variable {tt tt':TT} {ut ut':UT}
theorem kM (ha:ZT tt ut) (hb:ZT tt' ut'):ZT (tOr tt tt') (uOr ut ut'):=⟨lt_or ha.h hb.h⟩
end
section
variable {tt:TT} {ut:UT}
theorem Qc (ha:ZT tt ut):ZT (tNot tt) (uNot ut):=⟨lt_not ha.h⟩
end
section
variable {ta tb:TE} {ua ub:UE}
theorem KL (ha:ZE ta ua) (hb:ZE tb ub):ZE (Vc ta tb) (uAndV ua ub):=⟨le_andV ha.h hb.h⟩
end
section
variable {ta tb:TE} {ua ub:UE} {tt:TT} {ut:UT}
theorem XR (hc:ZT tt ut) (ha:ZE ta ua) (hb:ZE tb ub):ZE (tIf tt ta tb) (uIf ut ua ub):=⟨le_if hc.h ha.h hb.h⟩
end
section
variable {ta tb tc:TE} {ua ub uc:UE}
theorem Xn {r r':R2} {s s':T->T->(T->Prop)->Prop} (h:OpL r s) (h':OpL r' s') (ha:ZE ta ua) (hb:ZE tb ub) (hc:ZE tc uc):ZE (jH r r' ta tb tc) (ZK s s' ua ub uc):=⟨le_chain h h' ha.h hb.h hc.h⟩
end
section
variable {tl:TA} {ul:UA} {n:Nat}
theorem Qe (ha:ZA n tl ul) (hn:n<=1000:=by decide):ZE (tTup tl) (uTup ul):=⟨le_tup ha.h hn⟩
end
section
variable {tl:TA} {ul:UA} {n:Nat}
theorem vq (ha:ZA n tl ul) (hn:n<=1000:=by decide):ZE (tLst tl) (uLst ul):=⟨le_lst ha.h hn⟩
end
section
variable {tl:TA} {ul:UA} {n:Nat}
theorem Qf (ha:ZA n tl ul) (hn:n<=1000:=by decide):ZE (tLst tl) (uNew ul):=⟨le_new ha.h hn⟩
end
section
variable {tl:TA} {ul:UA} {n:Nat}
theorem Zz (ha:ZA n tl ul) (hn:n<=1000:=by decide):ZE (tTup tl) (uNewT ul):=⟨le_newT ha.h hn⟩
end
section
variable {ta tb:TE} {ua ub:UE}
theorem qy {K:PySem.W.Frag} (ha:ZE ta ua) (hb:ZE tb ub):ZE (tOp (rIxL K) ta tb) (uIx va ua ub):=⟨le_ixL ha.h hb.h⟩
end
section
variable {ta tb:TE} {ua ub:UE}
theorem ce_ixT {K:PySem.W.Frag} (ha:ZE ta ua) (hb:ZE tb ub):ZE (tOp (rIxT K) ta tb) (uIx vP ua ub):=⟨le_ixT ha.h hb.h⟩
end
section
variable {tl:TA} {ul:UA} {n:Nat}
theorem zW {r:List V->Hp->VK->Prop} {s:List T->(T->Prop)->Prop} (h:CbL r s) (ha:ZA n tl ul):ZE (tCB r tl) (uCb s ul):=⟨le_cb h ha.h⟩
end
section
variable {tl:TA} {ul:UA} {n:Nat}
theorem zR (ha:ZA n tl ul):ZE (tCB rLenL tl) (uLen va ul):=⟨le_len ha.h⟩
end
section
theorem qP  : ZO xa VX:=⟨lo_none ⟩
end
section
variable {ta:TE} {ua:UE}
theorem qJ (ha:ZE ta ua):ZO (Va ta) (uPart ua):=⟨lo_some ha.h⟩
end
section
variable {ta:TE} {ua:UE}
theorem zJ {K:PySem.W.Frag} {t1 t2:TO} {u1 u2:UO} (ha:ZE ta ua) (h1:ZO t1 u1) (h2:ZO t2 u2):ZE (tSl (rSlL K) ta t1 t2) (uSl ua u1 u2):=⟨le_sl ha.h h1.h h2.h⟩
end
section
variable {ta:TE} {ua:UE} {K:PySem.W.Frag}
theorem xu (ha:ZE ta ua):ZI (XN K ta) (uIter ua):=⟨li_list ha.h⟩
end
section
variable {tl:TA} {ul:UA} {n:Nat}
theorem xt (ha:ZA n tl ul):ZI (Kj tl) (uRng1 ul):=⟨li_rng1 ha.h⟩
end
section
theorem qo (i:Nat):ZG (qS i) (X2 i):=⟨lg_name i⟩
end
section
variable {K:PySem.W.Frag}
theorem Xk (i j:Nat):ZG (gTup K 2 (vh (qS i) (vh (qS j) gNil))) (X1 i j):=⟨lg_name2 i j⟩
end
section
variable {K:PySem.W.Frag}
theorem cg_name3 (i j l:Nat):ZG (gTup K 3 (vh (qS i) (vh (qS j) (vh (qS l) gNil)))) (X0 i j l):=⟨lg_name3 i j l⟩
end
section
variable {ta tb:TE} {ua ub:UE}
theorem KH (ha:ZE ta ua) (hb:ZE tb ub):ZG (gSub ta tb rSetL) (uSub ua ub):=⟨lg_sub ha.h hb.h⟩
end
section
variable {n:Nat}
theorem vy {bs:List Bool} (i:Nat) (h:ZM bs n i=true:=by rfl):ZX bs n (qS i) (X2 i):=⟨lgx_name i h⟩
end
section
variable {M:MM}
theorem xN  : ZT tYes (fun _ M Q=>Q true M):=⟨lt_yes ⟩
end
section
variable {te:TE} {ue:UE} {tt:TT} {ut:UT} {n:Nat}
theorem zr {wi:TI} {ui:UI} {bs:List Bool} {g:TG} {ug:UG} (hi:ZI wi ui) (hg:ZX bs n g ug) (ht:ZT tt ut) (he:ZE te ue):ZE (ja wi bs n g tt te) (jS ui bs n ug ut ue):=⟨le_comp hi.h hg.h ht.h he.h⟩
end
section
theorem qO  : ZS Qj uNext:=⟨ls_next ⟩
end
section
variable {ts ts':TS} {us us':US}
theorem qj (ha:ZS ts us) (hb:ZS ts' us'):ZS (tSeq ts ts') (uSeq us us'):=⟨ls_seq ha.h hb.h⟩
end
section
variable {ta:TE} {ua:UE}
theorem xT (ha:ZE ta ua):ZS (Vb ta) (uDrop ua):=⟨ls_drop ha.h⟩
end
section
variable {ta:TE} {ua:UE}
theorem qU (ha:ZE ta ua):ZS (tRet ta) (uRet ua):=⟨ls_ret ha.h⟩
end
section
variable {tt:TT} {ut:UT}
variable {ts ts':TS} {us us':US}
theorem vD (hc:ZT tt ut) (ha:ZS ts us) (hb:ZS ts' us'):ZS (tIfS tt ts ts') (uIfS ut us us'):=⟨ls_if hc.h ha.h hb.h⟩
end
section
variable {ta:TE} {ua:UE}
theorem qA {g:TG} {ug:UG} (ha:ZE ta ua) (hg:ZG g ug):ZS (tAsg ta g) (uAsg ua ug):=⟨ls_asg ha.h hg.h⟩
end
section
variable {ts:TS} {us:US}
theorem kG {wi:TI} {ui:UI} {g:TG} {ug:UG} (hi:ZI wi ui) (hg:ZG g ug) (hb:ZS ts us):ZS (tFor wi g ts) (uFor ui ug us):=⟨ls_for hi.h hg.h hb.h⟩
end
section
variable {ta:TE} {ua:UE} {tl:TA} {ul:UA} {n:Nat}
theorem ZB {r:V->List V->Hp->VK->Prop} {s:List U->List U->(U->List U->Prop)->Prop} (h:MeL r s) (ha:ZE ta ua) (hl:ZA n tl ul):ZE (tLM r ta tl) (uMe s ua ul):=⟨le_me h ha.h hl.h⟩
end
section
variable {tl:TA} {ul:UA} {n:Nat}
theorem qu {G:List U->MM->UK->Prop} {E:XK} (ha:ZA n tl ul):ZE (jo (spU G) [] E tl) (uCall G ul):=⟨le_callU ha.h⟩
end
section
variable {tl:TA} {ul:UA} {n:Nat}
theorem vb {G:List T->(T->Prop)->Prop} {E:XK} (ha:ZA n tl ul):ZE (jo (spP G) [] E tl) (X4 G ul):=⟨le_callP ha.h⟩
end
section
variable {K:PySem.W.Frag}
theorem cg_name4 (i j l o:Nat):ZG (gTup K 4 (vh (qS i) (vh (qS j) (vh (qS l) (vh (qS o) gNil))))) (XZ i j l o):=⟨lg_name4 i j l o⟩
end
section
variable {P:Program} {w:World} {K:PySem.W.Frag} {mg:Str->Option Value} {base:Heap}
theorem Fun.okQ {x qual:Str} {st:Stmt} {f:Addr} {fd:FuncData} {N ps:List Str} {k:Nat} {sp:Sp} (F:Fun K x qual st f fd) (S:FnScope N ps (qc st)) (len:∀vs H Q E,sp vs H Q E->vs.length=ps.length)
  (hbody:∀(cdv:Value) (A:Around) (outer:List Env) (s:Shared) (H:Hp) (vs:List V) (Q:VK) (E:XK),Room k (A.deeper (envOfC qual (qc st) s.heap.objs.size f cdv))->sp vs H Q E ->
   ∃t,QSs (cxOf CX0 P w K mg base N qual (qc st) f cdv A outer s H E).nox (qi st) t/\t { nx:=fun _ H'=>Q .non H',rt:=Q } (start N vs) H):FnOk P w K mg base CX0 (k+1) f fd ps sp :=
 F.ok S len fun cdv A outer s H vs Q E hr hsp=>by
  obtain⟨t,h,q⟩:=hbody cdv A outer s H vs Q E hr hsp
  exact⟨t,h.h,q⟩
theorem Fun.zV {x qual:Str} {st:Stmt} {f:Addr} {fd:FuncData} {N ps:List Str} {k:Nat} {G:List U->MM->UK->Prop} (F:Fun K x qual st f fd) (S:FnScope N ps (qc st)) (len:∀us M Qu,G us M Qu->us.length=ps.length)
  (hbody:∀(cdv:Value) (A:Around) (outer:List Env) (s:Shared) (H:Hp) (E:XK),Room k (A.deeper (envOfC qual (qc st) s.heap.objs.size f cdv)) ->
   ∃t,QSs (cxOf CX0 P w K mg base N qual (qc st) f cdv A outer s H E).nox (qi st) t/\∃u,ZS t u/\∀us M M1 Qu,M1=M->G us M Qu->u { nx:=fun _ M'=>zS M M'/\Qu (.p .non) (M'.take M.length),rt:=fun z M'=>zS M M'/\∃t,frzB M.length 4 M' z=some t/\Qu (.p t) (M'.take M.length) } (jd N us) M1):FnOk P w K mg base CX0 (k+1) f fd ps (spU G) :=
 F.okV S len fun cdv A outer s H E hr=>by
  obtain⟨t,h,u,hu,q⟩:=hbody cdv A outer s H E hr
  exact⟨t,h.h,u,hu.h,fun us M Qu g=>q us M M Qu rfl g⟩
theorem Fun.zP {x qual:Str} {st:Stmt} {f:Addr} {fd:FuncData} {N ps:List Str} {k:Nat} {G:List T->(T->Prop)->Prop} (F:Fun K x qual st f fd) (S:FnScope N ps (qc st)) (len:∀ts Qt,G ts Qt->ts.length=ps.length)
  (hbody:∀(cdv:Value) (A:Around) (outer:List Env) (s:Shared) (H:Hp) (E:XK),Room k (A.deeper (envOfC qual (qc st) s.heap.objs.size f cdv)) ->
   ∃t,QSs (cxOf CX0 P w K mg base N qual (qc st) f cdv A outer s H E).nox (qi st) t/\∃u,ZS t u/\∀ts Qt,G ts Qt->u { nx:=fun _ _=>Qt .non,rt:=fun z M'=>∃t,frzN 4 M' z=some t/\Qt t } (jd N (ts.map U.p)) []):FnOk P w K mg base CX0 (k+1) f fd ps (spP G) :=
 F.okP S len fun cdv A outer s H E hr=>by
  obtain⟨t,h,u,hu,q⟩:=hbody cdv A outer s H E hr
  exact⟨t,h.h,u,hu.h,q⟩
end
abbrev UX:=Str->Option Int->MM->Prop
def pT:Option Int->T
 |none=>.non
 |some n=>.int n
theorem pT_rep {A:Addr->Prop} {H:Hp}:∀p:Option Int,RepT A H (pV p) (pT p)
 |none=>.non
 |some _=>.int _
theorem Jz {A:Addr->Prop} {H:Hp} {v:V}:∀{p:Option Int},RepT A H v (pT p)->v=pV p
 |none,r=>by cases r; rfl
 |some _,r=>by cases r; rfl
abbrev UXe:=UEnv->MM->UK->UX->Prop
def spX (mg:Str->Option Value) (G:List U->MM->UK->UX->Prop):Sp:=fun vs H Q E=>∃A ι M us Qu Xu,Wd A ι H M/\RepUs A ι H vs us/\G us M Qu Xu /\
 (∀u M' ι' v H',Le ι H ι' H'->Wd A ι' H' M'->RepU A ι' H' v u->Qu u M'->Q v H')/\∀nm p C d M' ι' H',mg nm=some C->PartIs d H' p->Le ι H ι' H'->Wd A ι' H' M'->Xu nm p M'->E C d H'
structure ZXe (mg:Str->Option Value) (tx:TX) (ux:UXe):Prop where
 h:∀(A:Addr->Prop) (ι:List Addr) (σ:St) (H:Hp) (ρ:UEnv) (M:MM) (Qu:UK) (Xu:UX) (Q:VK) (E:XK),Wd A ι H M->EnvR A ι H σ ρ->ux ρ M Qu Xu ->
  (∀u M' ι' v H',Le ι H ι' H'->Wd A ι' H' M'->RepU A ι' H' v u->Qu u M'->Q v H')->(∀nm p C d M' ι' H',mg nm=some C->PartIs d H' p->Le ι H ι' H'->Wd A ι' H' M'->Xu nm p M'->E C d H')->tx σ H Q E
section
variable {mg:Str->Option Value} {tx:TX} {ux:UXe} {ua:UE} {tl:TA} {ul:UA} {n:Nat} {tb:TS} {us ub:US} {C:Addr} {m:Str}
def zC (G:List U->MM->UK->UX->Prop) (ul:UA):UXe:=fun ρ M Q X=>ul ρ M fun us M1=>G us M1 Q X
theorem vM {G:List U->MM->UK->UX->Prop} (ha:ZA n tl ul):ZXe mg (tCallX (spX mg G) tl) (zC G ul):=⟨fun A ι σ H ρ M Qu Xu Q E w e q k kx =>
 ha.h A ι σ H ρ M _ _ w e q fun us M1 ι1 vs H1 l1 w1 hn r1 q1 =>
  ⟨A,ι1,M1,us,_,_,w1,r1,q1,fun u M2 ι2 v H2 l2 w2 r2 q2=>k u M2 ι2 v H2 (l1.trans l2) w2 r2 q2,fun nm p C d M2 ι2 H2 hm hp l2 w2 q2=>kx nm p C d M2 ι2 H2 hm hp (l1.trans l2) w2 q2⟩⟩
def zZ (C:Addr) (m:Str) (G:List U->MM->UK->UX->Prop) (ua:UE) (ul:UA):UXe:=fun ρ M Q X=>ua ρ M fun x M1=>MethS C m x M1 (ul ρ M1 fun us M2=>G (x::us) M2 Q X)
def tagU (nm:Str) (p:Option Int) (ρ:UEnv):UEnv:=some (.p (.str nm))::some (.p (pT p))::ρ
theorem VZ {A:Addr->Prop} {ι:List Addr} {H:Hp} {σ:St} {ρ:UEnv} {nm:Str} {p:Option Int} (e:EnvR A ι H σ ρ):EnvR A ι H (some (.str nm)::some (pV p)::σ) (tagU nm p ρ):=.cons (fun u q=>by cases q; exact⟨_,rfl, .p (.str _)⟩) (.cons (fun u q=>by cases q; exact⟨_,rfl, .p (pT_rep p)⟩) e)
def z0 (ux:UXe):US:=fun E ρ M=>ux ρ M (fun _ M1=>E.nx ρ M1) fun nm p M1=>E.bk (tagU nm p ρ) M1
def jm (ux:UXe):US:=fun E ρ M=>ux ρ M E.rt fun nm p M1=>E.bk (tagU nm p ρ) M1
theorem Q2 (h:ZXe mg tx ux):ZS (tRetX tx mg) (jm ux):=⟨fun A ι σ H ρ M D E w e r q =>
 h.h A ι σ H ρ M _ _ _ _ w e q (fun x M1 ι1 v H1 l1 w1 r1 q1=>r.rt ι1 v H1 x M1 l1 w1 r1 q1) fun nm p C d M1 ι1 H1 hm hp l1 w1 q1=>⟨nm,p,hm,hp,r.bk ι1 _ H1 _ M1 l1 w1 (VZ (e.le l1)) q1⟩⟩
def jR (i:Nat) (ux:UXe):US:=fun E ρ M=>ux ρ M (fun x M1=>E.nx (ρ.set i (some x)) M1) fun nm p M1=>E.bk (tagU nm p ρ) M1
theorem kF {i:Nat} (h:ZXe mg tx ux):ZS (tSetX i tx mg) (jR i ux):=⟨fun A ι σ H ρ M D E w e r q =>
 h.h A ι σ H ρ M _ _ _ _ w e q (fun x M1 ι1 v H1 l1 w1 r1 q1=>r.nx ι1 _ H1 _ M1 l1 w1 ((e.le l1).put i r1) q1) fun nm p C d M1 ι1 H1 hm hp l1 w1 q1=>⟨nm,p,hm,hp,r.bk ι1 _ H1 _ M1 l1 w1 (VZ (e.le l1)) q1⟩⟩
def zQ (x:Str) (ul:UA):US:=fun E ρ M=>ul ρ M fun us M1=>us.length<=sizeLine/\E.bk (tagU x none ρ) M1
theorem zO {x:Str} (h:ZA n tl ul):ZS (tRaise x tl) (zQ x ul):=⟨fun A ι σ H ρ M D E w e r q =>
 h.h A ι σ H ρ M _ _ w e q fun us M1 ι1 vs H1 l1 w1 hn r1 ⟨hl,q1⟩=>⟨by rw[r1.len]; exact hl,r.bk ι1 _ H1 _ M1 l1 w1 (VZ (p:=none) (e.le l1)) q1⟩⟩
def zj (x:Str) (ul:UA):US:=fun E ρ M=>ul ρ M fun us M1=>∃k,us=[.p (.int k)]/\smallI k/\E.bk (tagU x (some k) ρ) M1
def uTry (n:Nat) (ub:US) (l:List (Str×(Option Int->US))):US:=fun E ρ M=>ub { E with bk:=fun τ M'=>∃nm p ρ' u,τ=tagU nm p ρ'/\ρ'.length=n/\l.lookup nm=some u/\u p E ρ' M' } ρ M
structure ZHs (l:List (Str×(Option Int->TS))) (l':List (Str×(Option Int->US))):Prop where
 h:∀nm u,l'.lookup nm=some u->∃t,l.lookup nm=some t/\∀p,LS (t p) (u p)
theorem zh_nil:ZHs [] []:=⟨fun nm u e=>by simp at e⟩
theorem zh_cons {x:Str} {t:Option Int->TS} {u:Option Int->US} {l:List (Str×(Option Int->TS))} {l':List (Str×(Option Int->US))} (h:∀p,ZS (t p) (u p)) (hr:ZHs l l'):ZHs ((x,t)::l) ((x,u)::l'):=⟨fun nm v e=>by
 rw[List.lookup_cons] at e ⊢
 cases hx:(nm==x) with
 |true=>rw[hx] at e; cases e; exact⟨t,rfl,fun p=>(h p).h⟩
 |false=>rw[hx] at e; exact hr.h nm v e⟩
theorem cs_try {l:List (Str×(Option Int->TS))} {l':List (Str×(Option Int->US))} (hb:ZS tb ub) (hl:ZHs l l'):ZS (tTry n tb l) (uTry n ub l'):=⟨fun A ι σ H ρ M D E w e r q =>
 hb.h A ι σ H ρ M _ { E with bk:=fun τ M'=>∃nm p ρ' u,τ=tagU nm p ρ'/\ρ'.length=n/\l'.lookup nm=some u/\u p E ρ' M' } w e ⟨r.nx,r.rt,fun ι1 σ1 H1 ρ1 M1 l1 w1 e1 q1=>by
  obtain⟨nm,p,ρ',u,rfl,hn,hu,q1⟩:=q1
  obtain⟨t,ht,lk⟩:=hl.h nm u hu
  cases e1 with
  |cons a b =>
  cases b with
  |cons a2 b =>
  obtain⟨v,rfl,rv⟩:=a _ rfl
  obtain⟨v2,rfl,rv2⟩:=a2 _ rfl
  cases rv with
  |p rv =>
  cases rv
  cases rv2 with
  |p rv2 =>
  cases Jz rv2
  exact⟨nm,p,_,t,rfl,by rw[b.length]; exact hn,ht,lk p A ι1 _ H1 ρ' M1 D E w1 b (r.le l1) q1⟩,r.ct⟩ q⟩
end
section
variable {P:Program} {w:World} {K:PySem.W.Frag} {mg:Str->Option Value} {base:Heap}
def endX (n:Nat) (Qu:UK) (Xu:UX):UEnds:={ nx:=fun _ M'=>Qu (.p .non) M',rt:=Qu,bk:=fun τ M'=>∃nm p ρ,τ=tagU nm p ρ/\ρ.length=n/\Xu nm p M' }
theorem Fun.zX {x qual:Str} {st:Stmt} {f:Addr} {fd:FuncData} {N ps:List Str} {k:Nat} {G:List U->MM->UK->UX->Prop} (F:Fun K x qual st f fd) (S:FnScope N ps (qc st)) (len:∀us M Qu Xu,G us M Qu Xu->us.length=ps.length)
  (hbody:∀(cdv:Value) (A:Around) (outer:List Env) (s:Shared) (H:Hp) (E:XK),Room k (A.deeper (envOfC qual (qc st) s.heap.objs.size f cdv)) ->
   ∃t,QXs True (cxOf (CXe P w) P w K mg base N qual (qc st) f cdv A outer s H E) (qi st) t/\∃u,ZS t u/\∀us M Qu Xu,G us M Qu Xu->u (endX N.length Qu Xu) (jd N us) M):FnOk P w K mg base (CXe P w) (k+1) f fd ps (spX mg G):=by
 refine F.okX S (fun vs H Q E h=>?_) (fun cdv A outer s H vs Q E hr h=>?_)
 ·obtain⟨A,ι,M,us,Qu,Xu,w1,r,g,_⟩:=h
  rw[r.len]; exact len us M Qu Xu g
 ·obtain⟨B,ι,M,us,Qu,Xu,w1,r,g,kk,kx⟩:=h
  obtain⟨t,ht,u,hu,hb⟩:=hbody cdv A outer s H E hr
  refine⟨t,ht,hu.h B ι _ H _ M _ (endX N.length Qu Xu) w1 (jc r) ⟨fun ι1 σ1 H1 ρ1 M1 l1 w1 e1 q1=>kk _ M1 ι1 _ H1 l1 w1 (.p .non) q1,fun ι1 v H1 z M1 l1 w1 r1 q1=>kk z M1 ι1 v H1 l1 w1 r1 q1,fun ι1 σ1 H1 ρ1 M1 l1 w1 e1 q1=>?_,fun _ _ _ _ _ _ _ _ q=>q.elim⟩ (hb us M Qu Xu g)⟩
  obtain⟨nm,p,ρ,rfl,hn,q1⟩:=q1
  cases e1 with
  |cons a b =>
  cases b with
  |cons a2 b =>
  obtain⟨v,rfl,rv⟩:=a _ rfl
  obtain⟨v2,rfl,rv2⟩:=a2 _ rfl
  cases rv with
  |p rv =>
  cases rv
  cases rv2 with
  |p rv2 =>
  cases Jz rv2
  exact⟨nm,p,_,rfl,by rw[b.length]; exact hn,fun C d hm hp=>kx nm p C d M1 ι1 H1 hm hp l1 w1 q1⟩
end
theorem hh_nil {X:Cx} {hs:List ExceptHandler}:∀nm t C,([]:List (Str×(Option Int->TS))).lookup nm=some t->X.mg nm=some C->∀p,QH X hs C p (t p):=fun nm t C e _=>by simp at e
theorem hh_cons {X:Cx} {hs:List ExceptHandler} {x:Str} {C:Value} {t:Option Int->TS} {l:List (Str×(Option Int->TS))} (hb:X.mg x=some C) (h:∀p,QH X hs C p (t p)) (hr:∀nm t C,l.lookup nm=some t->X.mg nm=some C->∀p,QH X hs C p (t p)) :
  ∀nm t' C',((x,t)::l).lookup nm=some t'->X.mg nm=some C'->∀p,QH X hs C' p (t' p):=fun nm t' C' e hm=>by
 rw[List.lookup_cons] at e
 cases hx:(nm==x) with
 |true =>
  rw[hx] at e
  cases e
  rw[eq_of_beq hx,hb] at hm
  cases hm
  exact h
 |false=>rw[hx] at e; exact hr nm t' C' e hm
theorem Ji (n:Nat):((List.range n).map fun(k:Nat)=>((n:Int)-1 + -1*(k:Int)).toNat)=(List.range n).reverse:=by
 apply List.ext_getElem
 ·simp
 ·intro i h1 h2
  simp at h1 h2
  simp only[List.getElem_map,List.getElem_range,List.getElem_reverse,List.length_range]
  omega
theorem ixRev_eq (n:Nat):Zm n=(List.range n).reverse:=by
 rw[<-Ji]
 unfold Zm sliceRange sliceBounds
 have h0:¬((-1:Int)>0):=by decide
 simp only[Option.getD_some,h0,if_false]
 cases n with
 |zero=>rfl
 |succ m =>
  have e:(if((m+1:Nat):Int)-1 > -1 then(((m+1:Nat):Int)-1 - -1 - -1-1) / - -1 else 0).toNat=m+1:=by
   rw[if_pos (by omega)]
   simp
  rw[e]
theorem kT {α:Type}:∀xs:List α,(List.range xs.length).filterMap (fun i=>xs[i]?)=xs
 | []=>rfl
 |x::xs=>by
  rw[List.length_cons,List.range_succ_eq_map,List.filterMap_cons]
  simp only[List.getElem?_cons_zero,List.filterMap_map]
  rw[show((fun i=>(x::xs)[i]?) ∘ Nat.succ)=fun i=>xs[i]? from funext fun i=>by simp]
  rw[kT xs]
theorem pickV_eq (xs:List V):Ju xs=xs.reverse:=by
 unfold Ju
 rw[ixRev_eq,List.filterMap_reverse,kT]
theorem Paired.app {α β:Type} {F:α->β->Prop}:∀{a c:List α} {b d:List β},Paired F a b->Paired F c d->Paired F (a++c) (b++d)
 |_,_,_,_, .nil,h=>h
 |_,_,_,_, .cons x y,h=>.cons x (Paired.app y h)
section
variable {ta:TE} {ua:UE} {K:PySem.W.Frag} {M:MM} {ρ:UEnv} {Q:UK}
def RevLS (M:MM) (x:U) (Q:UK):Prop:=∃ts,sn M x=some (.lst ts)/\Q (.p (.lst ts.reverse)) M
def uRevL (ua:UE):UE:=fun ρ M Q=>ua ρ M fun x M1=>RevLS M1 x Q
theorem rev_rep {A:Addr->Prop} {H:Hp} {vs:List V} {ts:List T} (r:RepTs A H vs ts):RepTs A H vs.reverse ts.reverse:=by
 induction r with
 |nil=>exact .nil
 |cons a b ih =>
  rw[List.reverse_cons,List.reverse_cons]
  exact Paired.app ih (.cons a .nil)
theorem le_revL (ha:LE ta ua):LE (tRev K ta) (uRevL ua):=fun A ι σ H ρ M Qu Q w e q k =>
 ha A ι σ H ρ M _ _ w e q fun x M1 ι1 v H1 l1 w1 r1 ⟨ts,es,q1⟩=>by
  obtain⟨p,vs,rfl,h4,h5⟩:=(r1.sn w1 es).lst_inv
  refine⟨p,vs,rfl,SqL.of h4,fun r hr=>?_⟩
  rw[pickV_eq]
  exact k _ M1 ι1 _ _ (l1.trans (.fresh hr)) (w1.fresh hr) (.p (xo w1 hr (rev_rep h5))) q1
theorem ce_revL (ha:ZE ta ua):ZE (tRev K ta) (uRevL ua):=⟨le_revL ha.h⟩
theorem rd_revL:uRevL ua ρ M Q=ua ρ M fun x M1=>RevLS M1 x Q:=rfl
end
section
variable {K:PySem.W.Frag} {ux:UXe} {ug:UG} {f:Str}
def ke (K:PySem.W.Frag) (ux:UXe) (f:Str):UXe:=fun ρ M Q X=>ux ρ M (fun x M1=>FldS K f x M1 Q) X
def kg (ux:UXe) (ug:UG):US:=fun E ρ M=>ux ρ M (fun x M1=>ug x ρ M1 E.nx) fun nm p M1=>E.bk (tagU nm p ρ) M1
end
abbrev Cx.named (X:Cx) (a:Addr) (oe:Obj):Cx:={ X.caught a with pn:=X.pn++[(a,oe)] }
structure ExcOb (C:Addr) (d:Option Addr) (oe:Obj):Prop where
 c:oe.cls=.ref C
 d:oe.dict=d
 v:∃vs,oe.data=.fields vs
def tAsG (i:Nat) (tb:Addr->Option Addr->TS) (q:Option Int):TS:=fun D σ H=>∀a d,PartIs d H q->tb a d { D with nx:=fun σ' H'=>D.nx (σ'.set i none) H',bk:=fun _ _=>False,ct:=fun σ' H'=>D.ct (σ'.set i none) H' } (σ.set i (some (.ref a))) H
section
variable {X:Cx} {outer:List Env} {C:Addr} {Cx:Value} {x e:Str} {p pos:Pos} {hs:List ExceptHandler} {i:Nat}
theorem qh_gen {b0:Stmt} {suite:List Stmt} {tb:Addr->Option Addr->TS} {q:Option Int} (Y:Body X outer) (hm:X.mg x=some Cx) (he:PySem.W.exmOne X.K (.ref C) Cx=some true) (hN:X.N.Nodup) (hi:X.N[i]?=some e) (hie:X.env.scope.names.lookup e=some .local)
  (hb:∀a d oe,ExcOb C d oe->QSs (X.named a oe) (b0::suite) (tb a d)) (hg:Gl X x:=by rfl) (hdb:(x==("__debug__" : Str))=false:=by decide) :
  QH X (.ExceptHandler (some (.Name x p)) (some e) (b0::suite) pos::hs) (.ref C) q (tAsG i tb q):=⟨fun pins σ H1 s1 d H' s a D I F hq h=>by
 have J:=F.inv I
 refine wpAny_handleBy_cons (codeAny_handlers_test (kB (X:=X.caught a) (J.caught a) hg hm ?_ hdb)) (by intro q; cases q)
 refine PySem.W.exm_one J.kIn F.ty he _ _ _ s (fun _ _ z=>z) ?_
 show codeAny _ _ _ _ s
 refine codeAny_handlers_suite_as ?_
 obtain⟨B,a0,fl,st⟩:=F.step
 refine wpAny_mono (DK.any (xp _ _) (lands_againW fl (Q:=fun _ s2=>(Heap.FlyingW B X.stack a (.ref C) a0 s2.heap/\s.heap.UpToSlots s2.heap)/\∃h',s2={ s with heap:=h' }) (E:=fun _ _=>False) fun h' x1 x4=>⟨⟨x1,x4⟩,h',rfl⟩)) (fun _ s2 z=>?_) fun _ _ q=>q.1.elim
 obtain⟨⟨⟨fl',up⟩,h',rfl⟩,kd⟩:=z
 have F2:=st h' fl' up kd
 obtain⟨n1,n2,oe,vs,hoe,hcl,hdi,hda⟩:=F2.new
 have J2:=F2.pinned Y I hoe hda
 refine wpAny_mono (E:=fun _ _=>False) (jb J2 hN hi (.inl hie) (v:=.ref a) (u:=.ref a) rfl (Q:=fun _ s3=>Inv X (pins++[(a,oe)]) (σ.set i (some (.ref a))) H' s3) (fun s3 I3=>I3) (.inr hie)) (fun _ s3 I3=>?_) fun _ _ z=>z.elim
 have I4:=I3.caught a
 have I5:Inv (X.named a oe) pins (σ.set i (some (.ref a))) H' s3:=⟨⟨I4.ok.mod,I4.ok.kind,I4.ok.glob,I4.ok.blt,I4.ok.above,I4.ok.inj,I4.ok.has,I4.ok.cab,I4.ok.hd,I4.ok.frames,I4.ok.stk,I4.ok.exf,I4.ok.bs,I4.ok.bsz,I4.ok.noex,I4.ok.exfs,I4.ok.funs,I4.ok.frf⟩,I4.os,I4.bare,I4.base,I4.loc,I4.cell,I4.free,I4.freeC,fun p hp=>I4.pin p (by
  rcases List.mem_append.mp hp with z|z
  ·rcases List.mem_append.mp z with z|z
   ·exact List.mem_append_left _ z
   ·exact List.mem_append_right _ (List.mem_append_right _ z)
  ·exact List.mem_append_right _ (List.mem_append_left _ z)),I4.hok,I4.len⟩
 have back:∀{σ' H2 s4},Inv (X.named a oe) pins σ' H2 s4->Inv X pins σ' H2 s4:=fun I6=>⟨I.ok,I6.os,I6.bare,I6.base,I6.loc,I6.cell,I6.free,I6.freeC,fun p hp=>I6.pin p (by
  rcases List.mem_append.mp hp with z|z
  ·exact List.mem_append_left _ (List.mem_append_left _ z)
  ·exact List.mem_append_right _ z),I6.hok,I6.len⟩
 refine wpAny_mono ((hb a d oe ⟨hcl,hdi,vs,hda⟩).h pins s3 _ H' _ I5 (h a d hq)) (fun f s4 z=>?_) fun _ _ z=>z.elim
 cases f with
 |next =>
  obtain⟨σ',H2,I6,q⟩:=z
  show wpAny _ _ _ _ _ _
  exact ky (back I6) hN hi hie fun s9 I9=>⟨_,H2,I9,q⟩
 |cont =>
  obtain⟨σ',H2,I6,q⟩:=z
  show wpAny _ _ _ _ _ _
  exact ky (back I6) hN hi hie fun s9 I9=>⟨_,H2,I9,q⟩
 |brk =>
  obtain⟨σ',H2,I6,q⟩:=z
  exact q.elim
 |ret u =>
  obtain⟨v,σ',H2,I6,r,q⟩:=z
  show wpAny _ _ _ _ _ _
  exact ky (back I6) hN hi hie fun s9 I9=>⟨v,_,H2,I9,r,q⟩⟩
end
section
variable {A:Addr->Prop} {ι:List Addr} {H:Hp} {M:MM} {a:Addr} {d:Option Addr} {i:Nat}
theorem Wd.not_xd (w:Wd A ι H M) {a:Addr} {fs:List (Str×V)} (h:a∈ι):H a≠some (.xd fs):=fun z=>by
 obtain⟨k,e⟩:=List.getElem?_of_mem h
 obtain⟨o,_,r⟩:=w.al e
 cases o with
 |lst=>obtain⟨vs,e,_⟩:=r; rw[z] at e; cases e
 |tup=>obtain⟨vs,e,_⟩:=r; rw[z] at e; cases e
 |ins=>obtain⟨_,_,e,_⟩:=r; rw[z] at e; cases e
 |dK=>obtain⟨_,e,_⟩:=r; rw[z] at e; cases e
theorem PartIs.x (w:Wd A ι H M) {q:Option Int} (h:PartIs d H q):PartX ι H d q:=by
 cases q with
 |none=>exact h
 |some n =>
  obtain⟨x0,e,hx⟩:=h
  exact⟨x0,e,fun z=>w.not_xd z hx,hx⟩
def uAsG (i:Nat) (ub:Addr->Option Addr->US) (q:Option Int):US:=fun E ρ M=>∀a d,ub a d { E with nx:=fun ρ' M'=>E.nx (ρ'.set i none) M',bk:=fun _ _=>False,ct:=fun ρ' M'=>E.ct (ρ'.set i none) M' } (ρ.set i (some (.x a d q))) M
theorem cs_asG {tb:Addr->Option Addr->TS} {ub:Addr->Option Addr->US} {q:Option Int} (h:∀a d,ZS (tb a d) (ub a d)):ZS (tAsG i tb q) (uAsG i ub q):=⟨fun A ι σ H ρ M D E w e r z a d hp=>by
 have gone:∀{ι1:List Addr} {σ1:St} {H1:Hp} {ρ1:UEnv},EnvR A ι1 H1 σ1 ρ1->EnvR A ι1 H1 (σ1.set i none) (ρ1.set i none):=fun e1=>Paired.put (fun w z=>by cases z) i e1
 exact(h a d).h A ι _ H _ M _ { E with nx:=fun ρ' M'=>E.nx (ρ'.set i none) M',bk:=fun _ _=>False,ct:=fun ρ' M'=>E.ct (ρ'.set i none) M' } w (EnvR.put e i (.x (hp.x w))) ⟨fun ι1 σ1 H1 ρ1 M1 l1 w1 e1 q1=>r.nx ι1 _ H1 _ M1 l1 w1 (gone e1) q1,r.rt,fun _ _ _ _ _ _ _ _ q=>q.elim,fun ι1 σ1 H1 ρ1 M1 l1 w1 e1 q1=>r.ct ι1 _ H1 _ M1 l1 w1 (gone e1) q1⟩ (z a d)⟩
end
end L2
namespace PySem.W
open PySem PySem.Spec PyProof.Rows
section
variable {prog:Program} {w:World} {A:Around} {E:Value->Shared->Prop} {s:Shared} {K:Frag} {x C:Addr} {ox:Obj} {od:Option Obj}
theorem classX {Q:Option Value->Shared->Prop} (X:K.In s.heap) (I:InstAt s.heap x ox C od) (hga:findIn K (.ref C) "__getattribute__" = some (some (.builtin "BaseException.__getattribute__")))
  (hgt:findIn K (.ref C) "__getattr__" = some none) (hm:mroIn K C (.type "BaseException")=some true) (hdct:hasDictIn K C=true) (ha:findIn K (.ref C) "__class__" = some (some (.builtin "object.__class__")))
  (hn:specialIn K (.builtin "object.__class__") "__get__" = some (some (.builtin "getset_descriptor.__get__"))) (htk:takesIn K (.builtin "object.__class__")=some true) (hmo:mroIn K C (.type "object")=some true)
  (h:Q (some (.ref C)) { s with toks:=s.toks+1 }):wpAny (model prog w) A (getAttr? (.ref x) "__class__") Q E s:=by
 have hf:findObj K C od "__class__" = some (.bind (.builtin "getset_descriptor.__get__") (.builtin "object.__class__")):=by
  obtain⟨cd,hc,_⟩:=any_some hdct
  unfold findObj
  rw[hc,Option.bind_some,ha,Option.bind_some]
  simp[hn,htk]
 obtain⟨hp,g,d,t,os⟩:=s
 have L0:=I.type (M:=model prog w)
 have L1:=looks_findIn (M:=model prog w) X hga
 have L2:=looks_findIn (M:=model prog w) X hgt
 have L3:=looks_find (M:=model prog w) X I hf
 have L4:=looks_mroIn (M:=model prog w) X hm
 have FB:=PySem.F.excAttr_ValueError
 have f3:=FB.ga.bind (.ref x)
 have hx2:(Value.builtin "BaseException.__getattribute__" == Value.builtin "object.__getattribute__")=false:=by decide +kernel
 have hx1:(onTheHeap (Value.ref C)&&Value.builtin "BaseException.__getattribute__" == Value.builtin "object.__getattribute__")=false:=by rw[hx2]; rfl
 have ha2:=F.args_bexc_ga (.ref x) (.str "__class__" t)
 have hk:builtinKind "BaseException.__getattribute__" = some .slot:=by decide +kernel
 have hsplit:splitId "BaseException.__getattribute__" = some ("BaseException", "__getattribute__"):=by decide +kernel
 unfold getAttr? getAttrBy? getAttrBy
 refine wpAny_bind (wpAny_mkText (wpAny_bind (wpAny_attempt (wpAny_holding (wpAny_bind (L0.at (wpAny_bind (L1.at ?_))))))))
 repeat (any_goals (first|assumption|with_reducible refine L0.at ?_|with_reducible refine L2.at ?_|wp_step))
 refine codeAny_call_builtin FB.ga.plain F.entry_bexc_ga ?_
 simp only[checkBuiltinCall,hk,hsplit,List.cons_append,List.nil_append]
 refine wpAny_bind ?_
 unfold isInstance
 refine wpAny_bind (L0.at (L4.at ?_))
 repeat (any_goals (first|assumption|with_reducible refine L0.at ?_|with_reducible refine L3.at ?_|wp_step))
 refine class_get (s:=⟨hp,g,d,t+1,os⟩) (ox:=ox) (od:=od) X I hmo ?_
 refine wpAny_pure ?_
 show wpAny _ _ (handedOut _) _ _ _
 rw[handedOut_of (by rfl)]
 exact wpAny_pure (wpAny_pure h)
theorem kitx_exc (hga:findIn K (.ref C) "__getattribute__" = some (some (.builtin "BaseException.__getattribute__")))
  (hgt:findIn K (.ref C) "__getattr__" = some none) (hm:mroIn K C (.type "BaseException")=some true) (hdct:hasDictIn K C=true) (ha:findIn K (.ref C) "__class__" = some (some (.builtin "object.__class__")))
  (hn:specialIn K (.builtin "object.__class__") "__get__" = some (some (.builtin "getset_descriptor.__get__"))) (htk:takesIn K (.builtin "object.__class__")=some true) (hmo:mroIn K C (.type "object")=some true) :
  KitX K (.ref x) (.ref C) (fun h=>InstAt h x ox C od) where
 ty:=fun _ _ _ I=>I.type
 it:=fun _ _ X _=>by
  obtain⟨cdD,hcD,_⟩:=any_some hdct
  unfold clsIn at hcD
  split at hcD
  ·rename_i c' d' cd' sl' ho
   intro A' Q' E' s' k q
   unfold isType loadHead
   exact wpAny_bind (wpAny_loadPart (k _ _ (X _ _ ho)) (wpAny_pure q))
  ·cases hcD
 ne:=fun h tp dd its n sl X htp=>by
  obtain⟨cdD,hcD,_⟩:=any_some hdct
  refine Bool.eq_false_iff.mpr fun q=>?_
  have e:C=tp:=Value.ref.inj (beq_iff_eq.mp q)
  subst e
  unfold clsIn at hcD
  split at hcD
  ·rename_i c' d' cd' sl' ho
   have z:=(X _ _ ho).symm.trans htp
   cases z
  ·cases hcD
 ca:=fun X I k=>classX X I hga hgt hm hdct ha hn htk hmo k
end
end PySem.W
namespace L2
open PySem PySem.Spec PyProof.Rows
structure ExcT (K:PySem.W.Frag) (C:Addr):Prop where
 ga:PySem.W.findIn K (.ref C) "__getattribute__" = some (some (.builtin "BaseException.__getattribute__"))
 gt:PySem.W.findIn K (.ref C) "__getattr__" = some none
 mr:PySem.W.mroIn K C (.type "BaseException")=some true
 hd:PySem.W.hasDictIn K C=true
 ha:PySem.W.findIn K (.ref C) "__class__" = some (some (.builtin "object.__class__"))
 hn:PySem.W.specialIn K (.builtin "object.__class__") "__get__" = some (some (.builtin "getset_descriptor.__get__"))
 htk:PySem.W.takesIn K (.builtin "object.__class__")=some true
 hmo:PySem.W.mroIn K C (.type "object")=some true
def clsV:V->Option Value
 |.ty n=>some (.type n)
 |.ref D=>some (.ref D)
 |_=>none
theorem Xh {c:V} {cv u:Value} (h:clsV c=some cv) (r:RelV c u):u=cv:=by
 cases c with
 |ty n=>cases h; exact r
 |ref D=>cases h; exact r
 |_=>cases h
abbrev rIsX (K:PySem.W.Frag) (C a:Addr) (d:Option Addr):List V->Hp->VK->Prop:=fun xs H Q=>∃c cv b q,xs=[.ref a,c]/\clsV c=some cv/\PySem.W.kitOne K (.ref C) cv=some b/\PartIs d H q/\Q (.bl b) H
abbrev rIsXT (K:PySem.W.Frag) (C a:Addr) (d:Option Addr):List V->Hp->VK->Prop:=fun xs H Q=>∃p cs cvs b q,xs=[.ref a, .ref p]/\H p=some (.tup cs)/\cs.map clsV=cvs.map some/\PySem.W.kitAny K (.ref C) cvs=some b/\PartIs d H q/\Q (.bl b) H
section
variable {X:Cx} {K:PySem.W.Frag} {C a:Addr} {d:Option Addr} {oe:Obj}
theorem exc_at {pins:List (Addr×Obj)} {σ:St} {H:Hp} {s:Shared} {q:Option Int} (I:Inv X pins σ H s) (ob:ExcOb C d oe) (hp:(a,oe)∈X.pn) (hq:PartIs d H q):∃od,PySem.W.InstAt s.heap a oe C od:=by
 have hpin:=(I.pin (a,oe) (List.mem_append_left _ hp)).1
 obtain⟨vs,hda⟩:=ob.v
 cases q with
 |none =>
  have hq:d=none:=hq
  exact⟨none,hpin,ob.c,by unfold PySem.W.notCls; rw[hda],by rw[ob.d,hq]; trivial⟩
 |some n =>
  obtain⟨x0,ed,hx0⟩:=hq
  obtain⟨mA,hns,hrel⟩:=I.hok x0 _ hx0
  obtain⟨od,hod,hlk⟩:=Vx hns
  exact⟨some od,hpin,ob.c,by unfold PySem.W.notCls; rw[hda],by rw[ob.d,ed]; exact hod⟩
theorem Xp (hK:X.K=K) (t:ExcT K C) (ob:ExcOb C d oe) (hp:(a,oe)∈X.pn):zK X (.builtin "isinstance") (rIsX K C a d):=by
 subst hK
 intro pins s σ H xs us Q I r h
 obtain⟨c,cv,b,q,rfl,hc,e,hq,k⟩:=h
 obtain⟨u,v,rfl,ru,rv⟩:=vals2 r
 obtain rfl:u=Value.ref a:=ru
 obtain rfl:=Xh hc rv
 obtain⟨od,J⟩:=exc_at I ob hp hq
 exact PySem.W.kia_one (PySem.W.kitx_exc t.ga t.gt t.mr t.hd t.ha t.hn t.htk t.hmo) I.kIn J e (fun z=>nomatch z) fun tk=>⟨.bl b,H,I.tok tk,rfl,k⟩
theorem VH:∀{cs:List V} {cvs us:List Value},cs.map clsV=cvs.map some->Vals cs us->us=cvs
 | [], [],_,_, .nil=>rfl
 |c::cs,v::cvs,_,h, .cons r q=>by
  simp only[List.map_cons,List.cons.injEq] at h
  rw[Xh h.1 r,VH h.2 q]
 | [],_::_,_,h,_=>by simp at h
 |_::_, [],_,h,_=>by simp at h
theorem VL (hK:X.K=K) (t:ExcT K C) (ob:ExcOb C d oe) (hp:(a,oe)∈X.pn):zK X (.builtin "isinstance") (rIsXT K C a d):=by
 subst hK
 intro pins s σ H xs us Q I r h
 obtain⟨p,cs,cvs,b,q,rfl,hpp,hc,e,hq,k⟩:=h
 obtain⟨u,v,rfl,ru,rv⟩:=vals2 r
 obtain rfl:u=Value.ref a:=ru
 obtain rfl:v=Value.ref p:=rv
 obtain⟨_,its,r1,o,ho,hcl,n,hd⟩:=(show ObjOk X.prog X.w H s.heap p (.tup cs) from I.hok p _ hpp)
 obtain rfl:=VH hc r1
 obtain⟨c,dd,dt,sl⟩:=o
 simp only at hcl hd
 subst hcl hd
 obtain⟨od,J⟩:=exc_at I ob hp hq
 exact PySem.W.kia_tup (PySem.W.kitx_exc t.ga t.gt t.mr t.hd t.ha t.hn t.htk t.hmo) I.kIn J ho e (fun z=>nomatch z) fun tk=>⟨.bl b,H,I.tok tk,rfl,k⟩
end
section
variable {K:PySem.W.Frag} {C a:Addr} {d:Option Addr} {ta:TE} {ua:UE}
def uIsX (a:Addr) (d:Option Addr) (b:Bool) (ua:UE):UE:=fun ρ M Q=>ua ρ M fun x M1=>(∃q,x=.x a d q)/\Q (.p (.bl b)) M1
theorem PartX.is {ι:List Addr} {H:Hp} {q:Option Int} (h:PartX ι H d q):PartIs d H q:=by
 cases q with
 |none=>exact h
 |some n =>
  obtain⟨x0,e,_,hx⟩:=h
  exact⟨x0,e,hx⟩
theorem PartIs.fresh {H:Hp} {q:Option Int} {p:Addr} {o:HO} (h:PartIs d H q) (hp:H p=none):PartIs d (upd H p o) q:=by
 cases q with
 |none=>exact h
 |some n =>
  obtain⟨x0,e,hx⟩:=h
  exact⟨x0,e,vQ hp hx⟩
theorem ce_isX {c:V} {cv:Value} {b:Bool} (hc:clsV c=some cv) (hk:PySem.W.kitOne K (.ref C) cv=some b) (ha:ZE ta ua):ZE (tCB (rIsX K C a d) (xI ta (xI (tC c) tNil))) (uIsX a d b ua):=⟨fun A ι σ H ρ M Qu Q w e q k =>
 ha.h A ι σ H ρ M _ _ w e q fun x M1 ι1 v H1 l1 w1 r1 ⟨⟨qq,ex⟩,q1⟩=>by
  subst ex
  cases r1 with
  |x h=>exact⟨c,cv,b,qq,rfl,hc,hk,h.is,k _ M1 ι1 _ H1 l1 w1 (.p (.bl _)) q1⟩⟩
abbrev V0:List V->TA
 | []=>tNil
 |c::cs=>xI (tC c) (V0 cs)
theorem kN {σ:St} {H:Hp} {R:List V->Hp->Prop}:∀(cs:List V),R cs H->V0 cs σ H R
 | [],h=>h
 |c::cs,h=>kN (R:=fun vs H=>R (c::vs) H) cs h
theorem KJ {cs:List V} {cvs:List Value} {b:Bool} (hc:cs.map clsV=cvs.map some) (hk:PySem.W.kitAny K (.ref C) cvs=some b) (ha:ZE ta ua) (hl:cs.length<=100:=by decide):ZE (tCB (rIsXT K C a d) (xI ta (xI (tTup (V0 cs)) tNil))) (uIsX a d b ua):=⟨fun A ι σ H ρ M Qu Q w e q k =>
 ha.h A ι σ H ρ M _ _ w e q fun x M1 ι1 v H1 l1 w1 r1 ⟨⟨qq,ex⟩,q1⟩=>by
  subst ex
  cases r1 with
  |x h =>
   refine kN cs ⟨Nat.le_trans hl (by show 100<=sizeLine; decide),fun p hp=>?_⟩
   exact⟨p,cs,cvs,b,qq,rfl,upd_same,hc,hk,h.is.fresh hp,k _ M1 ι1 _ _ (l1.trans (.fresh hp)) (w1.fresh hp) (.p (.bl _)) q1⟩⟩
theorem xj {b:Bool} {ρ:UEnv} {M:MM} {Q:UK}:uIsX a d b ua ρ M Q=ua ρ M fun x M1=>(∃q,x=.x a d q)/\Q (.p (.bl b)) M1:=rfl
end
section
variable {A:Addr->Prop} {ι:List Addr} {H H':Hp} {M:MM} {ua ub:UE}
theorem Wd.ext (w:Wd A ι H M) (h:∀x o,H x=some o->H' x=some o):Wd A ι H' M:=by
 have l:Le ι H ι H':=⟨⟨[],by simp,by simp⟩,fun x o e _=>h x o e,fun x e=>by
  cases q:H x with
  |none=>exact absurd q e
  |some o=>rw[h x o q]; simp⟩
 refine⟨w.nd,w.len,fun x hx=>l.al x (w.dom x hx),w.na,fun k a o e1 e2=>?_⟩
 have r:=w.obj k a o e1 e2
 obtain⟨q,hq⟩:=r.some
 exact r.le' l (by rw[h a q hq,hq]) fun x hx=>by rw[h x _ hx,hx]
def uCmpF (neg:Bool) (ua ub:UE):UE:=fun ρ M Q=>ua ρ M fun x M1=>ub ρ M1 fun y M2=>∃a b,frzN 5 M2 x=some a/\frzN 5 M2 y=some b/\sEqL neg a b fun t=>Q (.p t) M2
theorem xP {neg:Bool} {ρ:UEnv} {Q:UK}:uCmpF neg ua ub ρ M Q=ua ρ M fun x M1=>ub ρ M1 fun y M2=>∃a b,frzN 5 M2 x=some a/\frzN 5 M2 y=some b/\sEqL neg a b fun t=>Q (.p t) M2:=rfl
end
theorem Z2 {X:Cx} {a:Addr} {oe:Obj}:(a,oe)∈(X.named a oe).pn:=List.mem_append_right _ (List.mem_singleton.mpr rfl)
theorem VS:bootBuiltins "ValueError" = some (.type "ValueError"):=by decide +kernel
section
variable {X:Cx} {K:PySem.W.Frag} {ta to:TE} {ua uo:UE} {tl:TA} {ul:UA} {n:Nat}
theorem Jy {v:Value} {o:Option Int} (h:IsPart v o):∃p:Option (Int×Tok),v=partValue p/\p.map (·.1)=o:=by
 cases h with
 |none=>exact⟨none,rfl,rfl⟩
 |int i t=>exact⟨some (i,t),rfl,rfl⟩
def rSlX:V->Option Int->Option Int->Hp->VK->Prop:=fun x lo hi H Q=>∃z,x=.str z/\z.length<=sizeLine/\Q (.str (Txt.slice z lo hi)) H
theorem xb:SlR X rSlX:=by
 intro pins s σ H x v vl vu lo hi sl Q I rx hs pl pu h
 obtain⟨z,rfl,hz,q⟩:=h
 obtain⟨t,rfl⟩:=rx
 obtain⟨l,rfl,rfl⟩:=Jy pl
 obtain⟨u,rfl,rfl⟩:=Jy pu
 refine⟨"str", _,F.slot_str_getitem.lookup,typeIs_str _ _ _, ?_⟩
 exact wpAny_getItem_str_slice (l:=l) (u:=u) (st:=none) hs rfl (post_val_or_str ⟨Nat.le_trans (Txt.slice_le z _ _) hz,fun t' k=>⟨.str _,H,I.tok _,⟨_,rfl⟩,q⟩⟩)
def SlXS (M:MM) (x:U) (l h:Option Int) (Q:UK):Prop:=∃z,x=.p (.str z)/\z.length<=sizeLine/\Q (.p (.str (Txt.slice z l h))) M
def uSlX (ua:UE) (ul uh:UO):UE:=fun ρ M Q=>ua ρ M fun x M1=>ul ρ M1 fun l M2=>uh ρ M2 fun h M3=>SlXS M3 x l h Q
theorem le_slX {t1 t2:TO} {u1 u2:UO} (ha:LE ta ua) (h1:LO t1 u1) (h2:LO t2 u2):LE (tSl rSlX ta t1 t2) (uSlX ua u1 u2):=fun A ι σ H ρ M Qu Q w e q k =>
 ha A ι σ H ρ M _ _ w e q fun x M1 ι1 v H1 l1 w1 r1 q1=>h1 A ι1 σ H1 ρ M1 _ _ w1 (e.le l1) q1 fun l M2 ι2 H2 l2 w2 q2=>h2 A ι2 σ H2 ρ M2 _ _ w2 ((e.le l1).le l2) q2 fun h M3 ι3 H3 l3 w3 ⟨z,es,nw,q3⟩=>by
  subst es
  cases r1 with
  |p r =>
  cases r
  exact⟨z,rfl,nw,k _ M3 ι3 _ _ ((l1.trans l2).trans l3) w3 (.p (.str _)) q3⟩
theorem xw {t1 t2:TO} {u1 u2:UO} (ha:ZE ta ua) (h1:ZO t1 u1) (h2:ZO t2 u2):ZE (tSl rSlX ta t1 t2) (uSlX ua u1 u2):=⟨le_slX ha.h h1.h h2.h⟩
theorem xf {u1 u2:UO} {ρ:UEnv} {M:MM} {Q:UK}:uSlX ua u1 u2 ρ M Q=ua ρ M fun x M1=>u1 ρ M1 fun l M2=>u2 ρ M2 fun h M3=>SlXS M3 x l h Q:=rfl
def sIxS:T->T->(T->Prop)->Prop:=fun a b Q=>∃z i c,a=.str z/\b=.int i/\z.length<=sizeLine/\atI z.cps.toList i=some c/\Q (.str ⟨#[c]⟩)
theorem ju:OpL rIxS sIxS:=fun A ι H M x y a b Qs Q w r1 r2 ⟨z,i,c,ea,eb,hz,hc,q⟩ k=>by
 subst ea eb
 cases r1.str_inv; cases r2.int_inv
 exact⟨z,i,c,rfl,rfl,hz,hc,k _ ι _ H (.refl _ _) w (.str _) q⟩
def rInX (neg:Bool):R2:=fun x y H Q=>∃c j,x=.str ⟨#[c]⟩/\y=.str j/\Q (.bl (if neg then !decide (c∈j.cps.toList) else decide (c∈j.cps.toList))) H
theorem op_inX:OpR X (compareOp .In) (rInX false):=fun pins s σ H x y v u Q I rx ry ⟨c,j,ex,ey,q⟩ =>
 JH pins s σ H x y v u Q I rx ry ⟨_,j,ex,ey,by rw[StrLaws.found_one]; exact q⟩
theorem Vm:OpR X (compareOp .NotIn) (rInX true):=fun pins s σ H x y v u Q I rx ry ⟨c,j,ex,ey,q⟩ =>
 Vl pins s σ H x y v u Q I rx ry ⟨_,j,ex,ey,by rw[StrLaws.found_one]; exact q⟩
def sInX (neg:Bool):T->T->(T->Prop)->Prop:=fun a b Q=>∃c j,a=.str ⟨#[c]⟩/\b=.str j/\Q (.bl (if neg then !decide (c∈j.cps.toList) else decide (c∈j.cps.toList)))
theorem Zf {neg:Bool}:OpL (rInX neg) (sInX neg):=fun A ι H M x y a b Qs Q w r1 r2 ⟨c,j,ea,eb,q⟩ k=>by
 subst ea eb
 cases r1.str_inv; cases r2.str_inv
 exact⟨c,j,rfl,rfl,k _ ι _ H (.refl _ _) w (.bl _) q⟩
def rLenX:List V->Hp->VK->Prop:=fun xs H Q=>∃z,xs=[.str z]/\z.length<=sizeLine/\Q (.int z.length) H
theorem v5:zK X (.builtin "len") rLenX:=VI
def sLenX:List T->(T->Prop)->Prop:=fun ts Q=>∃z,ts=[.str z]/\z.length<=sizeLine/\Q (.int z.length)
theorem zz:CbL rLenX sLenX:=fun A ι H M vs ts Qs Q w r ⟨z,e,hz,q⟩ k=>by
 subst e
 obtain⟨v,ev,r1⟩:=pv1 r
 subst ev
 cases r1.str_inv
 exact⟨z,rfl,hz,k _ ι _ H (.refl _ _) w (.int _) q⟩
def rIntX:List V->Hp->VK->Prop:=fun xs H Q=>∃z i,xs=[.str z]/\z.length<=640/\PySem.intText? z=some i/\Q (.int i) H
theorem VM:zK X (.type "int") rIntX:=by
 intro pins s σ H xs us Q I r h
 obtain⟨z,i,rfl,hz,hi,q⟩:=h
 obtain⟨u,rfl,t,rfl⟩:=jk r
 exact PySem.W.KIN.call_text hi hz ⟨.int _,H,I.tok _,⟨_,rfl⟩,q⟩
def sIntX:List T->(T->Prop)->Prop:=fun ts Q=>∃z i,ts=[.str z]/\z.length<=640/\PySem.intText? z=some i/\Q (.int i)
theorem Xo:CbL rIntX sIntX:=fun A ι H M vs ts Qs Q w r ⟨z,i,e,hz,hi,q⟩ k=>by
 subst e
 obtain⟨v,ev,r1⟩:=pv1 r
 subst ev
 cases r1.str_inv
 exact⟨z,i,rfl,hz,hi,k _ ι _ H (.refl _ _) w (.int _) q⟩
def Jj:V->List V->Hp->VK->Prop:=fun x xs H Q=>∃y z,x=.str y/\xs=[.str z]/\Q (.bl (Txt.startswith y z)) H
theorem J0:MtR X "str.startswith" Jj:=by
 intro pins s σ H x xs v us Q I rx r h
 obtain⟨y,z,rfl,rfl,q⟩:=h
 obtain⟨t,rfl⟩:=rx
 obtain⟨u,rfl,t',rfl⟩:=jk r
 exact SC.startswith ⟨.bl _,H,I,rfl,q⟩
def Ql (xs:List Str):List V:=xs.map V.str
def rJoin (K:PySem.W.Frag):V->List V->Hp->VK->Prop:=fun x xs H Q=>∃y p zs,x=.str y/\xs=[.ref p]/\SqL K H p (Ql zs)/\(zs.map (·.length)).sum+zs.length*y.length<=16777216/\Q (.str (Txt.join y zs)) H
theorem ZP:∀{zs:List Str} {us:List Value},Vals (Ql zs) us->StrsAre us zs
 | [],_, .nil=>.nil
 |z::zs,_, .cons r q=>by
  obtain⟨t,rfl⟩:=r
  exact .cons _ _ (ZP q)
theorem zx (h:X.K=K):MtR X "str.join" (rJoin K):=by
 subst h
 intro pins s σ H x xs v us Q I rx r h
 obtain⟨y,p,zs,rfl,rfl,hp,hz,q⟩:=h
 obtain⟨t,rfl⟩:=rx
 obtain⟨u,rfl,ru⟩:=jk r
 cases ru
 obtain⟨its,rv,pl,_⟩:=I.list hp
 exact PyProof.Rows.join_list pl.isList (ZP (by simpa using rv)) hz fun t' k=>⟨.str _,H,I.tok _,⟨_,rfl⟩,q⟩
def MbL (r:V->List V->Hp->VK->Prop) (s:Str->List T->(T->Prop)->Prop):Prop:=∀(A:Addr->Prop) (ι:List Addr) (H:Hp) (M:MM) (y:Str) (vs:List V) (ts:List T) (Qs:T->Prop) (Q:VK),Wd A ι H M->Paired (RepV (Av A ι) H) vs ts->s y ts Qs ->
 (∀t ι' v H',Le ι H ι' H'->Wd A ι' H' M->RepT (Av A ι') H' v t->Qs t->Q v H')->r (.str y) vs H Q
def BmS (s:Str->List T->(T->Prop)->Prop) (ul:UA) (ρ:UEnv) (M:MM) (x:U) (Q:UK):Prop:=∃y,x=.p (.str y)/\ul ρ M fun us M2=>∃ts,sns M2 us=some ts/\s y ts fun t=>Q (.p t) M2
def uBm (s:Str->List T->(T->Prop)->Prop) (uo:UE) (ul:UA):UE:=fun ρ M Q=>uo ρ M fun x M1=>BmS s ul ρ M1 x Q
theorem le_bm {r:V->List V->Hp->VK->Prop} {s:Str->List T->(T->Prop)->Prop} (h:MbL r s) (ho:LE to uo) (ha:LA n tl ul):LE (tBM K "str" r to tl) (uBm s uo ul):=fun A ι σ H ρ M Qu Q w e q k =>
 ho A ι σ H ρ M _ _ w e q fun x M1 ι1 v H1 l1 w1 r1 ⟨y,ex,q1⟩=>by
  subst ex
  cases r1 with
  |p r =>
  cases r
  exact⟨rfl,ha A ι1 σ H1 ρ M1 _ _ w1 (e.le l1) q1 fun us M2 ι2 vs H2 l2 w2 hn r2 ⟨ts,e2,q2⟩=>h A ι2 H2 M2 y vs ts _ Q w2 (r2.sns w2 e2) q2 fun t ι3 z H3 l3 w3 r3 q3=>k _ M2 ι3 z H3 ((l1.trans l2).trans l3) w3 (.p r3) q3⟩
theorem xU {r:V->List V->Hp->VK->Prop} {s:Str->List T->(T->Prop)->Prop} (h:MbL r s) (ho:ZE to uo) (ha:ZA n tl ul):ZE (tBM K "str" r to tl) (uBm s uo ul):=⟨le_bm h ho.h ha.h⟩
theorem km {s:Str->List T->(T->Prop)->Prop} {ρ:UEnv} {M:MM} {Q:UK}:uBm s uo ul ρ M Q=uo ρ M fun x M1=>BmS s ul ρ M1 x Q:=rfl
def Jc:Str->List T->(T->Prop)->Prop:=fun y ts Q=>∃z,ts=[.str z]/\Q (.bl (Txt.startswith y z))
theorem XF:MbL Jj Jc:=fun A ι H M y vs ts Qs Q w r ⟨z,e,q⟩ k=>by
 subst e
 obtain⟨v,ev,r1⟩:=pv1 r
 subst ev
 cases r1.str_inv
 exact⟨y,z,rfl,rfl,k _ ι _ H (.refl _ _) w (.bl _) q⟩
def sJoin:Str->List T->(T->Prop)->Prop:=fun y ts Q=>∃zs:List Str,ts=[.lst (zs.map T.str)]/\(zs.map (·.length)).sum+zs.length*y.length<=16777216/\Q (.str (Txt.join y zs))
theorem ZN {A:Addr->Prop} {H:Hp}:∀{vs:List V} {zs:List Str},RepTs A H vs (zs.map T.str)->vs=Ql zs
 | [], [], .nil=>rfl
 |_::_,z::zs, .cons r q=>by
  cases r
  rw[ZN q]
  rfl
theorem zy:MbL (rJoin K) sJoin:=fun A ι H M y vs ts Qs Q w r ⟨zs,e,hz,q⟩ k=>by
 subst e
 obtain⟨v,ev,r1⟩:=pv1 r
 subst ev
 obtain⟨p,ws,rfl,h1,h2⟩:=r1.lst_inv
 cases ZN h2
 exact⟨y,p,zs,rfl,rfl,SqL.of h1,hz,k _ ι _ H (.refl _ _) w (.str _) q⟩
theorem xk {neg:Bool} {c:Nat} {j:Str} {Q:T->Prop}:sInX neg (.str ⟨#[c]⟩) (.str j) Q=Q (.bl (if neg then !decide (c∈j.cps.toList) else decide (c∈j.cps.toList))):=propext ⟨fun⟨_,_,e,e2,h⟩=>by cases e; cases e2; exact h,fun h=>⟨c,j,rfl,rfl,h⟩⟩
theorem zm {z:Str} {Q:T->Prop}:sLenX [.str z] Q=(z.length<=sizeLine/\Q (.int z.length)):=propext ⟨fun⟨_,e,h⟩=>by cases e; exact h,fun h=>⟨z,rfl,h⟩⟩
theorem vm {y z:Str} {Q:T->Prop}:Jc y [.str z] Q=Q (.bl (Txt.startswith y z)):=propext ⟨fun⟨_,e,h⟩=>by cases e; exact h,fun h=>⟨z,rfl,h⟩⟩
theorem xl {s:Str->List T->(T->Prop)->Prop} {ρ:UEnv} {M:MM} {Q:UK} {y:Str}:BmS s ul ρ M (.p (.str y)) Q=ul ρ M fun us M2=>SnsS M2 us fun ts=>s y ts fun t=>Q (.p t) M2:=propext ⟨fun⟨_,e,h⟩=>by cases e; exact h,fun h=>⟨y,rfl,h⟩⟩
theorem zl {M:MM} {z:Str} {l h:Option Int} {Q:UK}:SlXS M (.p (.str z)) l h Q=(z.length<=sizeLine/\Q (.p (.str (Txt.slice z l h))) M):=propext ⟨fun⟨_,e,h⟩=>by cases e; exact h,fun h=>⟨z,rfl,h⟩⟩
structure GStr (mg:Str->Option Value) (nm x:Str):Prop where
 ex:∃t,mg nm=some (.str x t)
theorem Jp {x y:Str} {pos:Pos} (G:GStr X.mg x y) (hg:Gl X x) (hd:(x==("__debug__" : Str))=false:=by decide):QE X (.Name x pos) (tC (.str y)):=by
 obtain⟨t,e⟩:=G.ex
 exact⟨Ze hg e ⟨t,rfl⟩ hd⟩
end
section
variable {X:Cx} {K:PySem.W.Frag} {ta:TE} {ua:UE} {tg:Expr}
def Its (x:Str):It:=⟨fun i _=>i<x.cps.size,fun i H v H'=>H'=H/\∃c,x.cps.toList[i]?=some c/\v=.str ⟨#[c]⟩,fun i _=>x.cps.size<=i⟩
theorem turn_str {P:Program} {w:World} {x:Str} {t:Tok} {it:Addr} {ty:String} (hty:ty = "str_ascii_iterator" \/ ty = "str_iterator"):Turn P w K tg (Its x) [it] it (fun i h=>h.IsStrIter it ty x t i) where
 mem:=by simp
 obj:=fun i h st b hb=>by
  have e:b=it:=by simpa using hb
  subst e
  obtain⟨o,e,c,d⟩:=st
  exact⟨o,e,fun v z=>by rw[d] at z; cases z⟩
 keep:=fun i h h' st k=>by
  obtain⟨o,e,c,d⟩:=st
  exact⟨o,k it (by simp) o e,c,d⟩
 item:=by
  intro X hP hw hK hc i pins s σ H E I hf st hg
  subst hP hw hK
  have hi:i<x.cps.size:=hg
  have hx:x.cps[i]?=some x.cps[i]:=by simp[hi]
  obtain⟨f0,f1,f2,f3,f4,f5⟩:=hf it (by simp)
  have fin:∀h',h'.IsStrIter it ty x t (i+1)->Heap.SameBut it s.heap h'->∃u,some (Value.str ⟨#[x.cps[i]]⟩ s.toks)=some u/\wpAny (model X.prog X.w) X.A (letOwnedTupleGo tg (.ref it) u) (fun _ s2=>∃y H',Inv X pins σ H' s2/\RelV y u/\(Its x).yld i H y H'/\s2.heap.IsStrIter it ty x t (i+1)/\∀b∈[it],H' b=none) E { s with heap:=h',toks:=s.toks+1 }:=fun h' st' sb=>by
   have I1:Inv X pins σ H { s with heap:=h',toks:=s.toks+1 }:=I.turned (t':=s.toks+1) (fun b o hb e=>(sb.2 b hb).trans e) f0 f1 f3 f4 f5
   obtain⟨o,e,c,d⟩:=id st'
   exact⟨_,rfl,go_of (s:={ s with heap:=h',toks:=s.toks+1 }) e c d (by rcases hty with rfl|rfl<;>decide) ⟨.str ⟨#[x.cps[i]]⟩,H,I1,⟨_,rfl⟩,⟨rfl,_,by simp[hi],rfl⟩,st',fun b hb=>(hf b hb).1⟩⟩
  rcases hty with rfl|rfl
  ·exact wpAny_pyNext_ascii_item st hx fin
  ·exact wpAny_pyNext_wide_item st hx fin
 done:=by
  intro X hP hw hK hc i pins s σ H E I hf st hg
  subst hP hw hK
  have hi:x.cps.size<=i:=hg
  have hx:x.cps[i]?=none:=by simp[hi]
  obtain⟨f0,f1,f2,f3,f4,f5⟩:=hf it (by simp)
  rcases hty with rfl|rfl
  ·exact wpAny_pyNext_ascii_end (I.ok.hd hc) st hx fun h' eb=>⟨rfl,I.turned (t':=s.toks) (fun b o hb e=>eb b o hb e) f0 f1 f3 f4 f5⟩
  ·exact wpAny_pyNext_wide_end (I.ok.hd hc) st hx fun h' eb=>⟨rfl,I.turned (t':=s.toks) (fun b o hb e=>eb b o hb e) f0 f1 f3 f4 f5⟩
 self:=fun _ _ _ _ _ st h=>by
  rcases hty with rfl|rfl
  ·exact wpAny_pyIter_striter_ascii st h
  ·exact wpAny_pyIter_striter_wide st h
def iStr (tl:TE):TI:=fun σ H R=>tl σ H fun x H1=>∃z,x=.str z/\R (Its z) H1
theorem pi_str {l:Expr} {tl:TE} (hl:PE X l tl):PI X tg l (iStr tl):=by
 intro pins s σ H R I h
 refine thn (hl pins s σ H _ I h) fun v s1 ⟨x,H1,I1,r1,q1⟩=>?_
 obtain⟨z,e,q⟩:=q1
 subst e
 obtain⟨t,rfl⟩:=r1
 refine wpAny_pyIter_strU ?_
 refine⟨s1.heap.objs.size, [s1.heap.objs.size],_,_,H1,rfl,I1.kept (t':=s1.toks) fun b o e=>Heap.get?_push_of_some _ e,turn_str (x:=z) (t:=t) (ty:=strIterType z) (by unfold strIterType; split<;>simp),⟨_,Heap.get?_push_size _ rfl,rfl,rfl⟩,fun b hb=>?_,q⟩
 have e:b=s1.heap.objs.size:=by simpa using hb
 subst e
 exact I1.fpOk (Nat.le_refl _) (I1.hok.fresh (Nat.le_refl _))
theorem Jn {l:Expr} {tl:TE} (hl:QE X l tl):QI X tg l (iStr tl):=⟨pi_str hl.h⟩
def itX (z:Str):UIt:=⟨z.cps.size,fun _=>True,fun i u=>∃c,z.cps.toList[i]?=some c/\u=.p (.str ⟨#[c]⟩)⟩
def ItXS (x:U) (M:MM) (Q:UIt->MM->Prop):Prop:=∃z,x=.p (.str z)/\Q (itX z) M
def X3 (ua:UE):UI:=fun ρ M Q=>ua ρ M fun x M1=>ItXS x M1 Q
theorem li_str (ha:LE ta ua):LI (iStr ta) (X3 ua):=fun A ι σ H ρ M Qu R w e q k =>
 ha A ι σ H ρ M _ _ w e q fun x M1 ι1 v H1 l1 w1 r1 ⟨z,ex,q1⟩=>by
  subst ex
  cases r1 with
  |p r =>
  cases r
  refine⟨z,rfl,k _ M1 ι1 _ H1 l1 w1 ?_ q1⟩
  intro A' ι2 H2 M2 i l w2 _
  refine⟨fun hi=>⟨hi,fun x H' y=>?_⟩,fun hi=>Nat.le_of_eq hi.symm⟩
  obtain⟨rfl,c,hc,rfl⟩:=y
  exact⟨_,⟨c,hc,rfl⟩, .refl _ _,w2, .p (.str _)⟩
theorem KG (ha:ZE ta ua):ZI (iStr ta) (X3 ua):=⟨li_str ha.h⟩
theorem vE {ρ:UEnv} {M:MM} {Q:UIt->MM->Prop}:X3 ua ρ M Q=ua ρ M fun x M1=>ItXS x M1 Q:=rfl
theorem xi {z:Str} {M:MM} {Q:UIt->MM->Prop}:ItXS (.p (.str z)) M Q=Q (itX z) M:=propext ⟨fun⟨_,e,h⟩=>by cases e; exact h,fun h=>⟨z,rfl,h⟩⟩
theorem xW {z:Str} {M:MM} {ug:UG} {ut:UT} {ue:UE} {Q:UK} {ρ0:UEnv} (hz:z.cps.size<=sizeLine) (Iv:Nat->List T->MM->Prop) (h0:Iv 0 [] M) (hs:∀(i c:Nat) acc M2,z.cps.toList[i]?=some c->acc.length<=i->Iv i acc M2->ug (.p (.str ⟨#[c]⟩)) ρ0 M2 fun ρ4 M4=>ut ρ4 M4 fun b M5=>if b=true then ue ρ4 M5 fun z M6=>∃t,z=.p t/\Iv (i+1) (acc++[t]) M6 else Iv (i+1) acc M5) (hd:∀acc M2,Iv z.cps.size acc M2->Q (.p (.lst acc)) M2):XT (itX z) ug ut ue ρ0 M Q :=
 ⟨hz,Iv,h0,fun i acc M2 hi ha h=>⟨trivial,fun u hu=>by
  obtain⟨c,hc,rfl⟩:=hu
  exact hs i c acc M2 hc ha h⟩,fun acc M2 h=>⟨trivial,hd acc M2 h⟩⟩
end
mutual
def toD:T->PyData
 |.non=>.none
 |.bl b=>.bool b
 |.int i=>.int i
 |.str x=>.str x
 |.tup xs=>.tuple (toDs xs)
 |.lst xs=>.list (toDs xs)
def toDs:List T->List PyData
 | []=>[]
 |x::xs=>toD x::toDs xs
end
mutual
theorem noD:∀t:T,(toD t).hasDict=false
 |.non=>rfl
 |.bl _=>rfl
 |.int _=>rfl
 |.str _=>rfl
 |.tup xs=>noDs xs
 |.lst xs=>noDs xs
theorem noDs:∀ts:List T,PyData.hasDictAll (toDs ts)=false
 | []=>rfl
 |x::xs=>by show((toD x).hasDict||PyData.hasDictAll (toDs xs))=false; rw[noD x,noDs xs]; rfl
end
section
variable {X:Cx} {pins:List (Addr×Obj)} {σ:St} {H:Hp} {s:Shared}
theorem xc {h:Heap}:∀{vs:List V} {ts:List T} {us:List Value},Vals vs us->vs.length=ts.length->(∀(i:Nat) v t,vs[i]?=some v->ts[i]?=some t->∀u,RelV v u->∃as,Reads h u (toD t) as)->∃as,ReadsAll h us (toDs ts) as
 | [], [],_, .nil,_,_=>⟨_, .nil⟩
 |v::vs,t::ts,_, .cons r q,hl,ih=>by
  obtain⟨as,h1⟩:=ih 0 v t rfl rfl _ r
  obtain⟨bs,h2⟩:=xc q (by simpa using hl) fun i v t e1 e2=>ih (i+1) v t (by simpa using e1) (by simpa using e2)
  exact⟨_, .cons h1 h2⟩
theorem Qv {A:Addr->Prop} {v:V} {t:T} (I:Inv X pins σ H s) (r:RepT A H v t):∀u,RelV v u->∃as,Reads s.heap u (toD t) as:=by
 induction r with
 |non=>intro u e; cases e; exact⟨_, .none⟩
 |bl b=>intro u e; cases e; exact⟨_, .bool b⟩
 |int i=>intro u e; obtain⟨t,rfl⟩:=e; exact⟨_, .int i t⟩
 |str x=>intro u e; obtain⟨t,rfl⟩:=e; exact⟨_, .str x t⟩
 |tup na e l r ih =>
  intro u eu
  cases eu
  obtain⟨its,rv,⟨o,h1,h2,n,h3⟩,_⟩:=I.tuple (SqT.of e)
  obtain⟨as,q⟩:=xc (h:=s.heap) rv l ih
  exact⟨_, .tuple h1 h2 h3 (by simpa using q)⟩
 |lst na e l r ih =>
  intro u eu
  cases eu
  obtain⟨its,rv,pl,_⟩:=I.list (SqL.of e)
  obtain⟨o,h1,h2,n,h3⟩:=pl.isList
  obtain⟨as,q⟩:=xc (h:=s.heap) rv l ih
  exact⟨_, .list h1 h2 h3 (by simpa using q)⟩
structure ShowT (t:T):Prop where
 sh:(toD t).showable=true
 dp:(toD t).depth<=60
 sz:(toD t).shown.length<=sizeLine
def rRepr:List V->Hp->VK->Prop:=fun xs H Q=>∃(A:Addr->Prop) (v:V) (t:T),xs=[v]/\RepV A H v t/\ShowT t/\Q (.str (toD t).shown) H
theorem call_repr (hg:X.A.guards=some []) (hu:X.A.units+64<cLine):zK X (.builtin "repr") rRepr:=by
 intro pins s σ H xs us Q I r h
 obtain⟨A,v,t,rfl,rv,ok,q⟩:=h
 obtain⟨u,rfl,ru⟩:=jk r
 have big:∀(a:Addr) (as:List Addr),Reads s.heap (.ref a) (toD t) as->wpAny (model X.prog X.w) X.A (call (.builtin "repr") [.ref a]) (EP X pins σ Q) X.xe s:=fun a as rd =>
  repr_of_reads' rd ok.sh (PyData.noDict_hsm (noD t)) hg (by have:=ok.dp; omega) (fun _ _ e=>e) (fun h' u tk hk=>⟨.str _,H,I.kept (t':=tk) hk,⟨_,rfl⟩,q⟩) ok.sz
 cases rv with
 |of r =>
  obtain⟨as,rd⟩:=Qv I r u ru
  cases r with
  |non=>cases ru; exact PySem.P.repr_of_none ⟨.str _,H,I.tok _,⟨_,rfl⟩,q⟩
  |bl b=>cases ru; exact PySem.P.repr_of_bool ⟨.str _,H,I.tok _,⟨_,rfl⟩,q⟩
  |int i =>
   obtain⟨t,rfl⟩:=ru
   exact PySem.P.repr_of_int (of_decide_eq_true ok.sh) ⟨.str _,H,I.tok _,⟨_,rfl⟩,q⟩
  |str x =>
   obtain⟨t,rfl⟩:=ru
   exact PySem.P.repr_of_str ⟨.str _,H,I.tok _,⟨_,rfl⟩,q⟩ ok.sz
  |tup=>cases ru; exact big _ _ rd
  |lst=>cases ru; exact big _ _ rd
 |lst e rr =>
  cases ru
  obtain⟨its,rv,pl,_⟩:=I.list (SqL.of e)
  obtain⟨o,h1,h2,n,h3⟩:=pl.isList
  obtain⟨as,q⟩:=xc (h:=s.heap) rv rr.len fun i v t e1 e2=>Qv I (Paired.get2 rr e1 e2)
  exact big _ _ (.list h1 h2 h3 (by simpa using q))
 |tup e rr =>
  cases ru
  obtain⟨its,rv,⟨o,h1,h2,n,h3⟩,_⟩:=I.tuple (SqT.of e)
  obtain⟨as,q⟩:=xc (h:=s.heap) rv rr.len fun i v t e1 e2=>Qv I (Paired.get2 rr e1 e2)
  exact big _ _ (.tuple h1 h2 h3 (by simpa using q))
def sRepr:List T->(T->Prop)->Prop:=fun ts Q=>∃t,ts=[t]/\ShowT t/\Q (.str (toD t).shown)
theorem cbl_repr:CbL rRepr sRepr:=fun A ι H M vs ts Qs Q w r ⟨t,e,ok,q⟩ k=>by
 subst e
 obtain⟨v,ev,r1⟩:=pv1 r
 subst ev
 exact⟨_,v,t,rfl,r1,ok,k _ ι _ H (.refl _ _) w (.str _) q⟩
theorem rd_repr {t:T} {Q:T->Prop}:sRepr [t] Q=(ShowT t/\Q (.str (toD t).shown)):=propext ⟨fun⟨_,e,h⟩=>by cases e; exact h,fun h=>⟨t,rfl,h⟩⟩
theorem b_repr:bootBuiltins "repr" = some (.builtin "repr"):=by decide +kernel
end
section
variable {M:MM} {ue:UE} {ut:UT} {n:Nat} {ul:UA} {ua ub:UE}
def UCompN (it:UIt) (ug:UG) (ut:UT) (ue:UE) (ρ0:UEnv) (M1:MM) (Q:UK):Prop:=it.n<=sizeLine/\∃Iv:Nat->List T->MM->Prop,Iv 0 [] M1 /\
 (∀i acc M2,i<it.n->acc.length<=i->Iv i acc M2->it.ok M2/\∀u,it.item i u->ug u ρ0 M2 fun ρ4 M4=>ut ρ4 M4 fun b M5=>if b=true then ue ρ4 M5 fun z M6=>∃t,z=.p t/\Iv (i+1) (acc++[t]) M6 else Iv (i+1) acc M5) /\
 (∀acc M2,Iv it.n acc M2->it.ok M2/\Q (.m M2.length) (M2++[.lst (acc.map U.p)]))
def kf (ui:UI) (bs:List Bool) (n:Nat) (ug:UG) (ut:UT) (ue:UE):UE:=fun ρ M Q=>ui ρ M fun it M1=>ρ.length=bs.length/\UCompN it ug ut ue (Vv bs n ρ) M1 Q
def LiN (us:List U) (M:MM) (Q:UK):Prop:=∃x ys,us=[x]/\(va M x=some ys\/vP M x=some ys)/\Q (.m M.length) (M++[.lst ys])
def uListN (ul:UA):UE:=fun ρ M Q=>ul ρ M fun us M1=>LiN us M1 Q
def uCallF (G:List T->(T->Prop)->Prop) (ul:UA):UE:=fun ρ M Q=>ul ρ M fun us M1=>∃ts,frzs (frzN 6 M1) us=some ts/\G ts fun t=>(∃x,vt t=some x)/\Q (.p t) M1
def Me0S (s:List U->List U->(U->List U->Prop)->Prop) (o:U) (M:MM) (Q:UK):Prop:=∃k us,o=.m k/\M[k]?=some (.lst us)/\s us [] fun z us'=>Q z (M.set k (.lst us'))
def uMe0 (s:List U->List U->(U->List U->Prop)->Prop) (uo:UE):UE:=fun ρ M Q=>uo ρ M fun o M1=>Me0S s o M1 Q
def uCmpT (neg:Bool) (ua ub:UE):UE:=fun ρ M Q=>ua ρ M fun x M1=>ub ρ M1 fun y M2=>∃a b,frzN 6 M2 x=some a/\frzN 6 M2 y=some b/\sEqTu neg a b fun t=>Q (.p t) M2
end
theorem Inv.ledgerL {X:Cx} {pins:List (Addr×Obj)} {σ:St} {H:Hp} {s:Shared} (I:Inv X pins σ H s):∃m,Fr h00 X.env.locals s.heap m/\News h00 X.env.locals s.heap (kX s.heap X.env.locals) /\
  ∀(h':Heap) (tk:Nat) (D:Addr) (o:HO),Fr h00 X.env.locals h' m->News h00 X.env.locals h' (kX s.heap X.env.locals)->s.heap.objs.size<=D->ObjOk X.prog X.w (upd H D o) h' D o->Inv X pins σ (upd H D o) { s with heap:=h',toks:=tk }:=by
 obtain⟨m,hn,_⟩:=I.loc
 refine⟨m,⟨hn,fun b o e=>(by rw[QN] at e; cases e),Nat.zero_le _⟩,JV,fun h' tk D o F W hD new=>?_⟩
 have hf:=I.hok.fresh hD
 have na:∀b u,s.heap.get? b=some u->b≠D:=fun b u q z=>by
  have:=Heap.lt_size q
  subst z
  exact absurd (Nat.lt_of_lt_of_le this hD) (Nat.lt_irrefl _)
 have kp:∀b o,b≠X.env.locals->s.heap.get? b=some o->h'.get? b=some o:=fun b o n e=>(W _ (Z1 e n)).1
 refine I.step (ch:=[]) (fun b hb=>nomatch hb) (fun b o n _ _ e _=>kp b o n e) (fun b o n _ _ e _=>⟨o.slots,kp b o n e⟩) (fun b u _ q z=>by rw[upd_ne (na b u q)]; exact z) (fun b o _ e=>?_) (fun b xs q=>vQ hf q) (fun b _ _ q=>vQ hf q) (fun b ps q=>⟨#[],by rw[vQ hf q]; simp⟩) (fun m' hm'=>?_) (fun a u e=>?_) I.bare
 ·by_cases n:b=X.env.locals
  ·subst n
   obtain⟨o',_,_,e',_⟩:=F.ns
   exact⟨o',e'⟩
  ·exact⟨o,kp b o n e⟩
 ·have:m'=m:=funext fun x=>by
   obtain⟨o,es,ep,e1,e2,e3,e4⟩:=hm'
   obtain⟨o',es',ep',f1,f2,f3,f4⟩:=hn
   rw[e1] at f1; cases f1
   rw[e2] at f2; cases f2
   rw[<-e4, <-f4]
  rw[this]
  exact F.ns
 ·by_cases ha:a=D
  ·subst ha; rw[upd_same] at e; cases e; exact new
  ·rw[upd_ne ha] at e
   refine(I.hok a u e).stay (fun b v hb q=>kp b v ?_ q) (fun _ q=>vQ hf q) fun _ _ q=>vQ hf q
   intro z
   subst z
   have:=I.free
   rcases hb with hb|hb
   ·subst hb; rw[e] at this; cases this
   ·rw[hb] at this; cases this
section
variable {X:Cx}
def rStrX:List V->Hp->VK->Prop:=fun xs H Q=>(∃i:Int,xs=[.int i]/\i.natAbs.log2<1920/\Q (.str (Str.ofString (toString i))) H)\/∃z:Str,xs=[.str z]/\Q (.str z) H
theorem xx:zK X (.type "str") rStrX:=by
 intro pins s σ H xs us Q I r h
 rcases h with⟨i,rfl,hz,q⟩|⟨z,rfl,q⟩
 ·obtain⟨u,rfl,t,rfl⟩:=jk r
  exact PySem.P.str_of_int hz ⟨.str _,H,I.tok _,⟨_,rfl⟩,q⟩
 ·obtain⟨u,rfl,t,rfl⟩:=jk r
  exact PySem.P.str_of_str ⟨.str _,H,I,⟨_,rfl⟩,q⟩
def sStrX:List T->(T->Prop)->Prop:=fun ts Q=>(∃i:Int,ts=[.int i]/\i.natAbs.log2<1920/\Q (.str (Str.ofString (toString i))))\/∃z:Str,ts=[.str z]/\Q (.str z)
theorem jj:CbL rStrX sStrX:=fun A ι H M vs ts Qs Q w r h k=>by
 rcases h with⟨i,e,hz,q⟩|⟨z,e,q⟩
 ·subst e
  obtain⟨v,ev,r1⟩:=pv1 r
  subst ev
  cases r1.int_inv
  exact .inl ⟨i,rfl,hz,k _ ι _ H (.refl _ _) w (.str _) q⟩
 ·subst e
  obtain⟨v,ev,r1⟩:=pv1 r
  subst ev
  cases r1.str_inv
  exact .inr ⟨z,rfl,k _ ι _ H (.refl _ _) w (.str _) q⟩
theorem X7:∀{l:List (Str×Tok)} {zs:List Str},l.map (·.1)=zs->Vals (Ql zs) (strValues l)
 | [],_,rfl=>.nil
 | (z,t)::l,_,rfl=>.cons ⟨t,rfl⟩ (X7 rfl)
def Jk:V->List V->Hp->VK->Prop:=fun x xs H Q=>∃y c zs,x=.str y/\xs=[.str ⟨#[c]⟩]/\Txt.split y ⟨#[c]⟩=zs/\y.length+2<=sizeLine/\∀l,H l=none->Q (.ref l) (upd H l (.lst (Ql zs)))
theorem zN:MtR X "str.split" Jk:=by
 intro pins s σ H x xs v us Q I rx r h
 obtain⟨y,c,zs,rfl,rfl,ez,hz,q⟩:=h
 obtain⟨t,rfl⟩:=rx
 obtain⟨u,rfl,t',rfl⟩:=jk r
 obtain⟨m,F,W,fin⟩:=I.ledgerL
 have hw:=split_weight y ⟨#[c]⟩ (Nat.le_refl 1)
 rw[ez] at hw
 refine splitN1A F W rfl (fun l h' k e _ _ il F' W'=>?_) hz
 rw[ez] at e
 refine⟨.ref s.heap.objs.size,_,fin h' k _ _ F' (fun q hq=>W' q (.tail _ hq)) (Nat.le_refl _) (show ObjOk X.prog X.w _ h' _ (.lst (Ql zs)) from ?_),rfl,q _ (I.hok.fresh (Nat.le_refl _))⟩
 refine⟨?_,strValues l,0,X7 e,(W' _ (.head _)).1⟩
 unfold Ql
 rw[List.length_map]
 omega
def sSplit:Str->List T->(T->Prop)->Prop:=fun y ts Q=>∃(c:Nat) (zs:List Str),ts=[.str ⟨#[c]⟩]/\Txt.split y ⟨#[c]⟩=zs/\y.length+2<=sizeLine/\Q (.lst (zs.map T.str))
theorem Ve {A:Addr->Prop} {H:Hp}:∀zs:List Str,RepTs A H (Ql zs) (zs.map T.str)
 | []=>.nil
 |z::zs=>.cons (.str z) (Ve zs)
theorem zI:MbL Jk sSplit:=fun A ι H M y vs ts Qs Q w r ⟨c,zs,e,ez,hz,q⟩ k=>by
 subst e
 obtain⟨v,ev,r1⟩:=pv1 r
 subst ev
 cases r1.str_inv
 exact⟨y,c,zs,rfl,rfl,ez,hz,fun l hl=>k _ ι _ _ (.fresh hl) (w.fresh hl) (xo w hl (Ve zs)) q⟩
end
theorem Z4 {y:Str}:∀{l:List Str} {a:Str},(Txt.join y (a::l)).cps.toList=a.cps.toList++(l.map fun z=>y.cps.toList++z.cps.toList).flatten:=fun {l a}=>by
 show(Builtin.Str.glued y (a::l)).cps.toList=_
 rw[StrLaws.glued_eq_join]
 induction l generalizing a with
 |nil=>show a.cps.toList=_; simp
 |cons b l ih =>
  show(a++y++Str.join y (b::l)).cps.toList=_
  rw[Str.cps_append,Str.cps_append,Array.toList_append,Array.toList_append,ih]
  simp
theorem cps_inj {a b:Str} (h:a.cps.toList=b.cps.toList):a=b:=Str.ext' (Array.toList_inj.mp h)
theorem Ka {c:Nat} {y:Str} (hy:c∉y.cps.toList):∀{l:List Str},(∀z∈l,c∉z.cps.toList)->c∉(Txt.join y l).cps.toList
 | [],_=>by show c∉(Builtin.Str.glued y []).cps.toList; rw[StrLaws.glued_eq_join]; show c∉Str.empty.cps.toList; simp[Str.empty]
 |a::l,h=>by
  rw[Z4]
  intro z
  rcases List.mem_append.mp z with z|z
  ·exact h a (by simp) z
  ·obtain⟨w,hw,z⟩:=List.mem_flatten.mp z
   obtain⟨x,hx,rfl⟩:=List.mem_map.mp hw
   rcases List.mem_append.mp z with z|z
   ·exact hy z
   ·exact h x (by simp[hx]) z
theorem Vy {y:Str}:∀{l:List Str},(Txt.join y l).length<=(l.map (·.length)).sum+l.length*y.length
 | []=>by show(Builtin.Str.glued y []).length<=_; rw[StrLaws.glued_eq_join]; exact Nat.zero_le _
 |a::l=>by
  show(Builtin.Str.glued y (a::l)).length<=_
  rw[StrLaws.glued_eq_join,PyProof.Rows.len_join_cons]
  simp only[List.map_cons,List.sum_cons,List.length_cons,Nat.add_mul]
  omega
section
def SqB (b:Bool) (K:PySem.W.Frag) (H:Hp) (a:Addr) (xs:List V):Prop:=match b with
 |true=>SqL K H a xs
 |false=>SqT K H a xs
def ItB (b:Bool) (h:Heap) (it a:Addr) (i:Nat):Prop:=match b with
 |true=>h.IsListIter it a i
 |false=>h.IsTupleIter it a i
theorem ItB.at {b:Bool} {h h':Heap} {it a:Addr} {i:Nat} (x:ItB b h it a i) (k:∀o,h.get? it=some o->h'.get? it=some o):ItB b h' it a i:=by
 cases b
 ·obtain⟨o,e,r⟩:=(show h.IsTupleIter it a i from x); exact⟨o,k o e,r⟩
 ·obtain⟨o,e,r⟩:=(show h.IsListIter it a i from x); exact⟨o,k o e,r⟩
end
section
variable {M:MM}
def itemsB (b:Bool) (M:MM) (x:U):Option (List U):=match b with
 |true=>va M x
 |false=>vP M x
end
section
variable {ua ub uy:UE}
def uLenKD (ks:List (Str×List Str)) (uy:UE):UE:=fun ρ M Q=>uy ρ M fun y M1=>∃k ss,y=.p (.str k)/\ks.lookup k=some ss/\Q (.p (.int ss.length)) M1
def ZipKS (b:Bool) (ss:List Str) (x:U) (M:MM) (Q:UIt->MM->Prop):Prop:=∃ts:List T,itemsB b M x=some (ts.map U.p)/\Q ⟨min ss.length ts.length,fun M=>itemsB b M x=some (ts.map U.p),fun i z=>∃s t,ss[i]?=some s/\ts[i]?=some t/\z=.p (.tup [.str s,t])⟩ M
def uZipKD (b:Bool) (ks:List (Str×List Str)) (uy ub:UE):UI:=fun ρ M Q=>uy ρ M fun y M1=>∃k ss,y=.p (.str k)/\ks.lookup k=some ss/\ub ρ M1 fun x M2=>ZipKS b ss x M2 Q
def uInD (ks:List Str) (ua:UE):UE:=fun ρ M Q=>ua ρ M fun x M1=>∃k,x=.p (.str k)/\Q (.p (.bl (ks.contains k))) M1
end
section
variable {P:Program} {w:World} {A:Around} {E:Value->Shared->Prop} {s:Shared} {κ:Type} [DecidableEq κ]
def TextT (P:Program) (w:World) (t:Sem Value) (x:Str):Prop:=∀(A:Around) (E:Value->Shared->Prop) (s:Shared) (Q:Value->Shared->Prop),(∀tk t',Q (.str x t') { s with toks:=tk })->wpAny (model P w) A t Q E s
inductive TextPs (P:Program) (w:World):List (Sem Value×Sem Value)->List (Str×Str)->Prop
 |nil:TextPs P w [] []
 |cons {k v:Sem Value} {x y:Str} {ps:List (Sem Value×Sem Value)} {zs:List (Str×Str)} (hk:TextT P w k x) (hv:TextT P w v y) (r:TextPs P w ps zs):TextPs P w ((k,v)::ps) ((x,y)::zs)
theorem TextPs.len {ps:List (Sem Value×Sem Value)} {zs:List (Str×Str)} (h:TextPs P w ps zs):ps.length=zs.length:=by
 induction h with
 |nil=>rfl
 |cons _ _ _ ih=>rw[List.length_cons,List.length_cons,ih]
inductive TextV:List (Key×Value)->List (Str×Str)->Prop
 |nil:TextV [] []
 |cons {x y:Str} {t:Tok} {l:List (Key×Value)} {zs:List (Str×Str)} (r:TextV l zs):TextV ((.inr x, .str y t)::l) ((x,y)::zs)
theorem TextV.keys {l:List (Key×Value)} {zs:List (Str×Str)} (h:TextV l zs):l.map (·.1)=zs.map fun z=>Sum.inr z.1:=by
 induction h with
 |nil=>rfl
 |cons _ ih=>rw[List.map_cons,List.map_cons,ih]
theorem TextV.len {l:List (Key×Value)} {zs:List (Str×Str)} (h:TextV l zs):l.length=zs.length:=by
 have:=congrArg List.length h.keys
 simpa using this
end
section
variable {P:Program} {w:World} {A:Around} {E:Value->Shared->Prop} {s:Shared}
inductive ConstPs:List (Option Expr)->List Expr->List (Str×Str)->Prop
 |nil:ConstPs [] [] []
 |cons {x y:Str} {j j':Nat} {p p':Pos} {ks:List (Option Expr)} {vs:List Expr} {zs:List (Str×Str)} (r:ConstPs ks vs zs):ConstPs (some (.Constant (.str x) j p)::ks) (.Constant (.str y) j' p'::vs) ((x,y)::zs)
theorem ConstPs.all {ks:List (Option Expr)} {vs:List Expr} {zs:List (Str×Str)} (h:ConstPs ks vs zs):ks.all (·.isSome)=true/\ks.length=vs.length:=by
 induction h with
 |nil=>exact⟨rfl,rfl⟩
 |cons _ ih=>exact⟨by rw[List.all_cons,ih.1]; rfl,by rw[List.length_cons,List.length_cons,ih.2]⟩
theorem ConstPs.text {ks:List (Option Expr)} {vs:List Expr} {zs:List (Str×Str)} {env:Env} {pos:Pos} (h:ConstPs ks vs zs):TextPs P w (pairTrees ks vs env pos) zs:=by
 induction h with
 |nil=>exact .nil
 | @cons x y j j' p p' ks vs zs r ih =>
  exact .cons (fun A E s Q q=>Calls.Constant_str (q _ _)) (fun A E s Q q=>wpAny_bind (Calls.Constant_str (wpAny_bind (wpAny_standAt (wpAny_pure (q _ _)))))) ih
end
section
variable {X:Cx} {K:PySem.W.Frag} {to:TE} {uo:UE}
def rUpper:V->List V->Hp->VK->Prop:=fun x xs H Q=>∃y,x=.str y/\xs=[]/\y.length<=5000000/\Q (.str (Txt.upper y)) H
theorem XX (x:Str):(Txt.upper x).length<=3*x.length:=StrLaws.placedRaw_le3 x.cps (fun _ c=>Unicode.upperOf c) fun _ c=>StrLaws.upperOf_le3 c
theorem mt_upper:MtR X "str.upper" rUpper:=by
 intro pins s σ H x xs v us Q I rx r h
 obtain⟨y,rfl,rfl,hz,q⟩:=h
 obtain⟨t,rfl⟩:=rx
 cases r
 exact SC.upper (by have:=XX y; have:=qL (n:=999) (by decide); exact decide_eq_false (by rw[sizeLine_eq]; omega)) ⟨.str _,H,I.tok _,⟨_,rfl⟩,q⟩
def jF (uo:UE):UE:=fun ρ M Q=>uo ρ M fun x M1=>∃y,x=.p (.str y)/\y.length<=5000000/\Q (.p (.str (Txt.upper y))) M1
theorem ce_upper (ho:ZE to uo):ZE (tBM0 K "str" rUpper to) (jF uo):=⟨fun A ι σ H ρ M Qu Q w e q k =>
 ho.h A ι σ H ρ M _ _ w e q fun x M1 ι1 v H1 l1 w1 r1 ⟨y,ex,hz,q1⟩=>by
  subst ex
  cases r1 with
  |p r =>
  cases r
  exact⟨rfl,y,rfl,rfl,hz,k _ M1 ι1 _ H1 l1 w1 (.p (.str _)) q1⟩⟩
end
structure FliN (X:Cx) (outer:List Env) (a:Addr) (C:Value) (d:Option Addr) (H':Hp) (s':Shared):Prop where
 own:∀o,s'.heap.get? a=some o->o.dict=d
 os:s'.os=X.s₀.os
 bare:AllBare s'.gens
 fly:∃(B:Heap) (a0 fl:Value),B.StaysIn s'.heap/\B.get? a=none/\s'.heap.FunFrames B (X.env::outer)/\s'.heap.TracedAtW B a C a0 fl/\HOk X.prog X.w H' B/\(∀b∈frs outer,B.get? b=none)/\(∀b o,X.s₀.heap.get? b=some o->X.H₀ b=none->b∉frs outer->B.get? b=some o) /\
  ∀b o,X.s₀.heap.get? b=some o->X.H₀ b≠none->∃o',B.get? b=some o'
 up:∀b o,X.s₀.heap.get? b=some o->X.H₀ b=none->b∈frs outer->∃sl,s'.heap.get? b=some { o with slots:=sl }
 free:∀b o,X.s₀.heap.get? b=some o->X.H₀ b=none->H' b=none
 tups:∀b xs,X.H₀ b=some (.tup xs)->H' b=some (.tup xs)
 frzs:∀b o u,X.H₀ b=some (.frz o u)->H' b=some (.frz o u)
 tbls:∀b ps,X.H₀ b=some (.tbl ps)->∃more,H' b=some (.tbl (ps++more))
section
variable {M:Model} {A:Around} {R:Value->Shared->Prop} {s:Shared} {base:Heap} {env:Env} {outer:List Env} {L e:Addr} {cls a0 fl:Value}
theorem note_any {Q:Unit->Shared->Prop} (hfr:A.frames=some (env::outer)) (hl:s.heap.FunFrames base (env::outer)) (hf:env.frame=some L) (ht:s.heap.TracedAtW base e cls a0 fl) (hkb:base.StaysIn s.heap) (hen:base.get? e=none)
  (h:∀h',Heap.HeldW base (env::outer) e cls a0 L h'->s.heap.UpToSlots h'->Q () { s with heap:=h' }):wpAny M A (noteFrame (.ref e) env) Q R s:=by
 by_cases hfl:fl=rawInt L
 ·subst hfl
  exact wpAny_noteFrame_againW hf ht (h s.heap ⟨hkb,hen,hl,ht⟩ (.refl _))
 obtain⟨oe,vs,T,oT,ts,he,⟨hc,h0⟩,hd,h1,hnT,hTe,hT,hdT,h3⟩:=ht
 subst hc
 have rec':∀b o,s.heap.get? b=some o->(∀vs,o.data ≠ .fields vs)->b≠T:=fun b o hb hnf q=>by
  rw[q,hT] at hb; cases hb; exact hnf ts hdT
 have oth:∀b,b≠T->(s.heap.update T (Obj.mapFields (·.setIfInBounds 3 Value.none))).get? b=s.heap.get? b:=fun b hb=>Heap.get?_update_other _ _ (Ne.symm hb)
 unfold noteFrame
 simp only[hf]
 refine wpAny_bind (wpAny_field he hd h1 ?_)
 rw[if_pos (show(Value.ref T != Value.none)=true from by simp)]
 refine wpAny_bind (wpAny_field hT hdT h3 ?_)
 rw[if_neg (show ¬((fl==rawInt L)=true) from fun z=>hfl (eq_of_beq z))]
 refine wpAny_bind (wpAny_setField hT hdT (Array.getElem?_eq_some_iff.mp h3).1 ?_)
 refine wpAny_entryW hfr (hl.of_keeps fun b o hb hnf=>⟨o,(oth b (rec' b o hb hnf)).trans hb,rfl⟩) hf ((oth e (Ne.symm hTe)).trans he)
  (fun b o hbo=>(oth b fun q=>by rw[q,hnT] at hbo; cases hbo).trans (hkb b o hbo)) hen hd (Array.getElem?_eq_some_iff.mp h1).1 h0 fun h' hN=>?_
 obtain⟨x1,x2,x3,x4⟩:=hN
 exact h h' ⟨x1,hen,x2,x3⟩ fun b o hb hnf=>x4 b o ((oth b (rec' b o hb hnf)).trans hb) hnf
theorem J9 {Q:Unit->Shared->Prop} (hfr:A.frames=some (env::outer)) (hl:s.heap.FunFrames base (env::outer)) (hf:env.frame=some L) (ht:s.heap.TracedAtW base e cls a0 fl) (hkb:base.StaysIn s.heap) (hen:base.get? e=none)
  (h:∀h',Heap.FlyingW base outer e cls a0 h'->s.heap.UpToSlots h'->Q () { s with heap:=h' }):wpAny M A (leaving env (.ref e)) Q R s:=by
 unfold leaving
 refine wpAny_bind (note_any hfr hl hf ht hkb hen fun h1 hh up1=>?_)
 refine wpAny_landsW hh fun h' hfl up=>?_
 obtain⟨k1,k2,⟨_,_,k3⟩,k4⟩:=hfl
 exact h h' ⟨k1,k2,k3,k4⟩ (up1.trans up)
end
section
variable {X:Cx} {outer:List Env}
theorem Zs (Y:Body X outer) {a:Addr} {C:Value} {d:Option Addr} {H':Hp} {s':Shared} {E:XK} {R:Value->Shared->Prop} {M:Model} {A:Around} (hA:A.frames=some X.stack) (ok:X.Ok) (F:FliN X outer a C d H' s') (hE:E C d H') :
  wpAny M A (leaving X.env (.ref a)) (fun _ s''=>CXe X.prog X.w outer X.H₀ X.s₀ E (.ref a) s'') R s':=by
 obtain⟨B,a0,fl,st,na,ff,tr,hok,nb,kp,th⟩:=F.fly
 rw[Y.stk] at hA
 have fs:∀b,b∈frs outer↔b∈X.fs:=fun b=>by show _↔b∈frs X.outer; rw[Y.out]
 refine wpAny_mono (DK.any (jA _ _) (J9 hA ff Y.fr tr st na (Q:=fun _ s2=>(Heap.FlyingW B outer a C a0 s2.heap/\s'.heap.UpToSlots s2.heap)/\∃h',s2={ s' with heap:=h' }) fun h' x1 x4=>⟨⟨x1,x4⟩,h',rfl⟩)) (fun _ s2 z=>?_) fun _ _ q=>q.1
 obtain⟨⟨⟨x1,x4⟩,h',rfl⟩,kd⟩:=z
 refine⟨a,C,d,H',rfl,⟨?_,F.os,F.bare,⟨B,a0,x1,hok,nb,kp,th⟩, ?_,F.free,F.tups,F.frzs,F.tbls⟩,hE⟩
 ·obtain⟨o1,e1,_⟩:=tr.there
  exact fun o q=>(kd.get (d:=0) e1 q).trans (F.own o1 e1)
 ·intro b o q n hb
  obtain⟨sl,e1⟩:=F.up b o q n hb
  obtain⟨_,o',ho',hd⟩:=ok.funs.mem (show b∈X.outer.filterMap (·.frame) from(fs b).mp hb)
  rw[q] at ho'; cases ho'
  obtain⟨sl2,e2⟩:=x4 b _ e1 hd
  exact⟨sl2,e2⟩
end
section
variable {M:Model} {A:Around} {R:Value->Shared->Prop} {s:Shared} {base:Heap} {env:Env} {l:List Env} {e:Addr} {cls a0 fl:Value}
theorem note_env {x:Value} {env':Env} (h:env.frame=env'.frame):noteFrame x env=noteFrame x env':=by
 unfold noteFrame PySem.frameOf
 rw[h]
theorem pass_on {α:Type} {what:String} {Q:α->Shared->Prop} (hkb:base.StaysIn s.heap) (hl:s.heap.FunFrames base l) (ht:s.heap.TracedAtW base e cls a0 fl)
  (h:∀h' fl',base.StaysIn h'->h'.FunFrames base l->h'.TracedAtW base e cls a0 fl'->s.heap.UpToSlots h'->(∀o,h'.get? e=some o->s.heap.get? e=some o)->R (.ref e) { s with heap:=h' }):wpAny M A (PySem.passOn what (.ref e) env:Sem α) Q R s:=by
 obtain⟨oe,vs,T,oT,ts,he,hc,hd,h1,hnT,hTe,hT,hdT,h3⟩:=ht
 have hsz3:3<ts.size:=(Array.getElem?_eq_some_iff.mp h3).1
 have oth:∀(v:Value) b,b≠T->(s.heap.update T (Obj.mapFields (·.setIfInBounds 3 v))).get? b=s.heap.get? b:=fun v b hb=>Heap.get?_update_other _ _ (Ne.symm hb)
 have rec':∀b o,s.heap.get? b=some o->(∀vs,o.data ≠ .fields vs)->b≠T:=fun b o hb hnf q=>by
  rw[q,hT] at hb; cases hb; exact hnf ts hdT
 unfold PySem.passOn setFlight
 refine wpAny_bind (wpAny_field he hd h1 ?_)
 rw[if_neg (show ¬((Value.ref T==Value.none)=true) from by simp)]
 refine wpAny_bind (wpAny_bind (wpAny_field he hd h1 ?_))
 rw[if_pos (show(Value.ref T != Value.none)=true from by simp)]
 refine wpAny_setField hT hdT hsz3 (wpAny_throw ?_)
 exact h _ _ (fun b o hbo=>(oth _ b fun q=>by rw[q,hnT] at hbo; cases hbo).trans (hkb b o hbo)) (hl.of_keeps fun b o hb hnf=>⟨o,(oth _ b (rec' b o hb hnf)).trans hb,rfl⟩)
  ⟨oe,vs,T,_,_,(oth _ e (Ne.symm hTe)).trans he,hc,hd,h1,hnT,hTe,Heap.get?_update_self _ hT (Obj.isFreed_of_fields (Obj.data_mapFields hdT _)),Obj.data_mapFields hdT _,by simp[hsz3]; rfl⟩
  (fun b o hb hnf=>⟨o.slots,(oth _ b (rec' b o hb hnf)).trans hb⟩) fun o q=>((oth _ e (Ne.symm hTe)).symm.trans q)
end
section
variable {X:Cx} {outer:List Env} {pins pins':List (Addr×Obj)} {σ σ':St} {H3 H1 H':Hp} {s3 s1 s':Shared} {scope:Scope} {cl:List (Str×Addr)} {N:List Str} {fp:List Addr} {a:Addr} {C:Value} {d:Option Addr}
theorem Zy {M:Model} {A:Around} {use:Option (Value->Sem Unit)} {RR:Value->Shared->Prop} {acc:Value} (Z:Body X outer) (hA:A.frames=some X.stack) (I3:Inv X pins σ H3 s3) (f3:∀b∈fp,FpOk X pins H3 b) (J:Inv (cxC X scope cl N fp s3 H3) pins' σ' H1 s1) (F:Fli X.prog X.w X.stack H1 s1 a C d H' s')
  (hx:∀s4,FliN X outer a C d H' s4->X.xe (.ref a) s4):notedBy M A (compEnvC scope cl s3.heap.objs.size X.env) (fun x s''=>compPost M A X.xe use RR acc s3.heap.objs.size (.error x) s'') (.ref a) s':=by
 obtain⟨B,a0,fl,hok,nb,kp,th⟩:=F.fly
 have B3:Un (frs X.stack) fp H3 H1 s3.heap s1.heap:=J.base
 have hAc:A.frames=some (X.env::outer):=by rw[hA,Z.stk]
 have fl':Heap.FlyingW B (X.env::outer) a C a0 s'.heap:=by rw[<-Z.stk]; exact fl
 have frl:∀b∈frs X.stack,b<s3.heap.objs.size:=fun b hb=>by
  obtain⟨_,o,ho,_⟩:=I3.stack.mem hb
  exact Heap.lt_size ho
 have nC:s3.heap.objs.size∉frs X.stack:=fun z=>absurd (frl _ z) (Nat.lt_irrefl _)
 have s0:∀b o,X.s₀.heap.get? b=some o->b<s3.heap.objs.size:=fun b o q=>Nat.lt_of_lt_of_le (Heap.lt_size q) I3.sz
 have nfp:∀b o,X.s₀.heap.get? b=some o->b∉fp:=fun b o q hb=>by
  rcases(f3 b hb).2.2.2.1 with z|z
  ·rw[Z.ex] at z; simp at z
  ·exact absurd (Heap.lt_size q) (Nat.not_lt.mpr z)
 have nx:∀b,b∉X.ex:=fun b=>by rw[Z.ex]; simp
 have fs:∀b,b∈frs outer↔b∈X.fs:=fun b=>by show _↔b∈frs X.outer; rw[Z.out]
 have ob:∀b o,X.s₀.heap.get? b=some o->b∉frs outer->b∉frs X.stack:=fun b o q n z=>by
  rcases Z.mem z with z|z
  ·exact I3.old q z
  ·exact n z
 have jC:H1 s3.heap.objs.size=none:=J.free
 obtain⟨m,⟨oC,esC,epC,hoC,rC⟩,_⟩:=J.loc
 have bC:B.get? s3.heap.objs.size=some oC:=kp _ oC hoC jC nC
 have hC':H' s3.heap.objs.size=none:=F.free _ oC hoC jC
 unfold notedBy
 rw[note_env (env:=compEnvC scope cl s3.heap.objs.size X.env) (env':=X.env) rfl]
 refine wpAny_mono (DK.any (Zt _ _) (wpAny_looks_onW hAc Z.fr fl' (Q:=fun _ s2=>(Heap.HeldW B (X.env::outer) a C a0 X.env.locals s2.heap/\s'.heap.UpToSlots s2.heap)/\∃h',s2={ s' with heap:=h' }) fun h' x1 x2=>⟨⟨x1,x2⟩,h',rfl⟩)) (fun _ s2 z=>?_) fun _ _ q=>q.1
 obtain⟨⟨⟨⟨st2,na2,ff2,tr2⟩,up2⟩,h2,rfl⟩,kd2⟩:=z
 refine⟨m,⟨oC,esC,epC,st2 _ _ bC,rC⟩,fun h3 sb cenv _=>?_⟩
 have neq:∀b,B.get? b=none->b≠s3.heap.objs.size:=fun b hb z=>by rw[z,bC] at hb; cases hb
 have hid:∀b,B.get? b=none->(PySem.W.hideAll B [s3.heap.objs.size]).get? b=none:=fun b hb=>by
  cases q:(PySem.W.hideAll B [s3.heap.objs.size]).get? b with
  |none=>rfl
  |some o=>rw[PySem.W.of_hideAll _ q] at hb; cases hb
 have tr3:h3.TracedAtW (PySem.W.hideAll B [s3.heap.objs.size]) a C a0 (rawInt X.env.locals):=by
  obtain⟨oe,vs,T,oT,ts,he,hc,hd,h1,hnT,hTe,hT,hdT,h3'⟩:=tr2
  exact⟨oe,vs,T,oT,ts,sb.extBut _ _ (neq a na2) he,hc,hd,h1,hid T hnT,hTe,sb.extBut _ _ (neq T hnT) hT,hdT,h3'⟩
 have hget:∀b o,b≠s3.heap.objs.size->B.get? b=some o->(PySem.W.hideAll B [s3.heap.objs.size]).get? b=some o:=fun b o n q=>PySem.W.hideAll_get _ q (by simpa using n)
 have st3:(PySem.W.hideAll B [s3.heap.objs.size]).StaysIn h3:=fun b o q=>by
  have hb:=PySem.W.of_hideAll _ q
  have n:b≠s3.heap.objs.size:=fun z=>by rw[z,PySem.W.hideAll_none _ (.head _)] at q; cases q
  exact sb.extBut b o n (st2 b o hb)
 have ff3:h3.FunFrames (PySem.W.hideAll B [s3.heap.objs.size]) (X.env::outer):=by
  have f2:h3.FunFrames B (X.env::outer):=by
   have key:∀l:List Env,(∀env∈l,env∈X.env::outer)->h2.FunFrames B l->h3.FunFrames B l:=fun l=>by
    induction l with
    |nil=>exact fun _ _=>trivial
    |cons env l ih =>
     rintro hin ⟨k,⟨L,o,hf,hB,ho,hd⟩,r⟩
     exact⟨k,⟨L,o,hf,hB,sb.extBut _ _ (neq L hB) ho,hd⟩,ih (fun e he=>hin e (.tail _ he)) r⟩
   exact key _ (fun _ h=>h) ff2
  have key:∀l:List Env,h3.FunFrames B l->h3.FunFrames (PySem.W.hideAll B [s3.heap.objs.size]) l:=fun l=>by
   induction l with
   |nil=>exact fun _=>trivial
   |cons env l ih =>
    rintro⟨k,⟨L,o,hf,hB,ho,hd⟩,r⟩
    exact⟨k,⟨L,o,hf,hid L hB,ho,hd⟩,ih r⟩
  exact key _ f2
 refine pass_on (s:={ s' with heap:=h3 }) st3 ff3 tr3 fun h4 fl4 st4 ff4 tr4 up4 own4=>hx _ ⟨?_, ?_,F.bare,⟨PySem.W.hideAll B [s3.heap.objs.size],a0,fl4,st4,hid a na2,ff4,tr4, ?_, ?_, ?_, ?_⟩, ?_, ?_, ?_, ?_, ?_⟩
 ·intro o q
  have q3:=own4 o q
  have e2:h2.get? a=some o:=by
   obtain⟨o2,e2⟩:=tr2.there
   have:=sb.extBut _ _ (neq a na2) e2.1
   have q3:h3.get? a=some o:=q3
   rw[this] at q3
   cases q3
   exact e2.1
  obtain⟨o1,e1,_⟩:=fl.there
  exact(kd2.get (d:=0) e1 e2).trans (F.own o1 e1)
 ·exact F.os.trans (J.os.trans I3.os)
 ·exact hok.tracked fun b u hb q=>hget b u (fun z=>by rw[z] at hb; exact hb hC') q
 ·exact fun b hb=>hid b (nb b (Z.in_ hb))
 ·intro b o q n hb
  have e3:=I3.base.keep b o q n (fun z=>hb ((fs b).mpr z)) (nx b)
  have n3:=I3.base.free b o q n (nx b)
  have e1:=B3.keep b o e3 n3 (ob b o q hb) (nfp b o q)
  have n1:=B3.free b o e3 n3 (nfp b o q)
  exact hget b o (Nat.ne_of_lt (s0 b o q)) (kp b o e1 n1 (ob b o q hb))
 ·intro b o q n
  obtain⟨o3,e3⟩:=I3.base.there b o q (nx b)
  obtain⟨o1,e1⟩:=B3.there b o3 e3 (nfp b o q)
  have nst:b∉frs X.stack:=ob b o q fun z=>n (I3.ok.frf b ((fs b).mp z))
  cases hb:H1 b with
  |none=>exact⟨o1,hget b o1 (Nat.ne_of_lt (s0 b o q)) (kp b o1 e1 hb nst)⟩
  |some u =>
   obtain⟨o',e'⟩:=th b o1 e1 (by rw[hb]; simp)
   exact⟨o',hget b o' (Nat.ne_of_lt (s0 b o q)) e'⟩
 ·intro b o q n hb
  obtain⟨sl,e3⟩:=I3.base.slot b o q n ((fs b).mp hb) (nx b)
  have n3:=I3.base.free b o q n (nx b)
  obtain⟨sl1,e1⟩:=B3.slot b _ e3 n3 (Z.in_ hb) (nfp b o q)
  have n1:=B3.free b _ e3 n3 (nfp b o q)
  obtain⟨sl',e'⟩:=F.up b _ e1 n1 (Z.in_ hb)
  obtain⟨_,o',ho',hd⟩:=I3.ok.funs.mem (show b∈X.outer.filterMap (·.frame) from(fs b).mp hb)
  rw[q] at ho'; cases ho'
  obtain⟨sl2,e2⟩:=up2 b _ e' hd
  obtain⟨sl4,e4⟩:=up4 b _ (sb.extBut _ _ (Nat.ne_of_lt (s0 b o q)) e2) hd
  exact⟨sl4,e4⟩
 ·intro b o q n
  obtain⟨o3,e3⟩:=I3.base.there b o q (nx b)
  obtain⟨o1,e1⟩:=B3.there b o3 e3 (nfp b o q)
  exact F.free b o1 e1 (B3.free b o3 e3 (I3.base.free b o q n (nx b)) (nfp b o q))
 ·exact fun b xs q=>F.tups b xs (B3.tups b xs (I3.base.tups b xs q))
 ·exact fun b o u q=>F.frzs b o u (B3.frzs b o u (I3.base.frzs b o u q))
 ·intro b ps q
  obtain⟨m1,e1⟩:=I3.base.tbls b ps q
  obtain⟨m2,e2⟩:=B3.tbls b _ e1
  obtain⟨m3,e3⟩:=F.tbls b _ e2
  exact⟨m1++m2++m3,by rw[e3]; simp[Array.append_assoc]⟩
end
section
variable {X:Cx} {elt tg iter:Expr} {ifs:List Expr} {scope:Scope} {cl:List (Str×Addr)} {bs:List Bool} {ext:List Str} {pos:Pos} {g:TG} {tt:TT} {tx:TX}
theorem VG {outer:List Env} {E:XK} {use:Option (Value->Sem Unit)} {pins:List (Addr×Obj)} {s:Shared} {σ:St} {H:Hp} {Q:VK} {RR:Value->Shared->Prop} (Z:Body X outer) (hxE:∀a C d H' s4,E C d H'->FliN X outer a C d H' s4->X.xe (.ref a) s4) (S:CompS X scope cl bs ext) (hc:X.calm=true)
  (hg:∀fp s H,PG (cxC X scope cl (X.N++ext) fp s H) tg g) (ht:∀fp s H,PTs (cxC X scope cl (X.N++ext) fp s H) ifs tt) (he:∀fp s H xe,QXe ((cxC X scope cl (X.N++ext) fp s H).wish xe) elt tx)
  (hs:∀x,foldedSetIterable iter X.env x=pure x) (hI:wpAny (model X.prog X.w) X.A (eval iter X.env) (fun v s1=>wpAny (model X.prog X.w) X.A (pyIter v) (PIE X.nox pins σ tg fun J H1=>∀acc,H1 acc=none->XU J acc g tt (fun σ' H' Q'=>tx σ' H' Q' E) (v3 bs ext.length σ) H1 Q) (fun _ _=>False) s1) X.xe s) (ep:Pos)
  (hend:∀(acc:Addr) (s2:Shared) (H2:Hp) (fp:List Addr) (σ':St) (H':Hp) (s':Shared),Inv X pins σ H2 s2->(∀b∈fp,FpOk X pins H2 b)->Inv (cxC X scope cl (X.N++ext) fp s2 H2) [] σ' H' s'->Q (.ref acc) H' ->
   compPost (model X.prog X.w) X.A X.xe use RR (.ref acc) s2.heap.objs.size (.ok .next) s') :
  wpAny (model X.prog X.w) X.A (comprehension (.ListComp elt [⟨tg,iter,ifs,0⟩] scope pos) scope X.env ep (newList []) false (eval iter X.env) use) RR X.xe s:=by
 refine wpAny_comprehension_free (use:=use) rfl hs S.clos S.kind S.names (wpAny_mono hI (fun v s1 h1=>wpAny_mono h1 (fun itv s2 h2=>?_) fun _ _ z=>z.elim) fun _ _ z=>z)
 obtain⟨it,fp,tn,J,H2,e,I2w,T,st2,f2,hW⟩:=h2
 have I2:Inv X pins σ H2 s2:=I2w.unwish
 subst e
 refine wpAny_newList ?_ (by decide)
 have hn2:H2 s2.heap.objs.size=none:=I2.hok.fresh (Nat.le_refl _)
 obtain⟨W,⟨m0,w0⟩,turn⟩:=hW s2.heap.objs.size hn2
 have I3:=I2.lnew (its:=[]) (ys:=[]) (t':=s2.toks) .nil (Nat.zero_le _)
 generalize hs3:({ s2 with heap:=s2.heap.push { cls:=.type "list", data:=.seq ([]:List Value).toArray },toks:=s2.toks }:Shared)=s3 at I3
 have hsz3:s3.heap.objs.size=s2.heap.objs.size+1:=by rw[<-hs3]; exact Heap.size_push ..
 have k3:∀b o,s2.heap.get? b=some o->s3.heap.get? b=some o:=fun b o e=>by rw[<-hs3]; exact Heap.get?_push_of_some _ e
 have fpo:∀b∈fp,b<s2.heap.objs.size:=fun b hb=>by obtain⟨o,e,_⟩:=T.obj _ _ st2 b hb; exact Heap.lt_size e
 have f3:∀b∈fp,FpOk X pins (upd H2 s2.heap.objs.size (.lst [])) b:=fun b hb=>⟨by rw[upd_ne (Nat.ne_of_lt (fpo b hb))]; exact(f2 b hb).1,(f2 b hb).2⟩
 have fps:∀b∈fp,b<s3.heap.objs.size:=fun b hb=>by rw[hsz3]; exact Nat.lt_succ_of_lt (fpo b hb)
 have st3:tn 0 s3.heap:=T.keep _ _ _ st2 fun b hb o e=>k3 b o e
 refine wpAny_newFunctionEnv S.cell (by intro y hy; simp at hy) (fun h4 hns4 hsb4=>?_) S.kind
 have k4:∀b o,s3.heap.get? b=some o->h4.get? b=some o:=fun b o e=>hsb4.extBut b o (Nat.ne_of_lt (Heap.lt_size e)) (Heap.get?_push_of_some _ e)
 have I4:=VF (ext:=ext) (t':=s3.toks+([]:List (Str×Value)).length) S I3 f3 fps (h1:=h4) hns4 k4
 have st4:tn 0 h4:=T.keep _ _ _ st3 fun b hb o e=>k4 b o e
 generalize hs4:({ s3 with heap:=h4,toks:=s3.toks+([]:List (Str×Value)).length }:Shared)=s4 at I4 ⊢
 have st4':tn 0 s4.heap:=by rw[<-hs4]; exact st4
 -- the block
 generalize hY:cxC X scope cl (X.N++ext) fp s3 (upd H2 s2.heap.objs.size (.lst []))=Y at I4
 have hYs:∀{H':Hp},(∀b∈fp,H' b=none)->∀b∈fp,FpOk Y [] H' b:=fun hn b hb=>by
  subst hY
  refine⟨hn b hb,Nat.ne_of_lt (fps b hb),fun z=>?_, .inl hb,fun x c e=>(f3 b hb).2.2.2.2.1 x c (S.sub x c e),fun p hp=>absurd hp (by simp[cxC])⟩
  rcases List.mem_cons.mp (I3.stkSub b z) with q|q
  ·exact(f3 b hb).2.1 q
  ·exact(f3 b hb).2.2.1 q
 have hgY:PG Y tg g:=by subst hY; exact hg _ _ _
 have htY:PTs Y ifs tt:=by subst hY; exact ht _ _ _
 have heY:∀xe,QXe (Y.wish xe) elt tx:=fun xe=>by subst hY; exact he _ _ _ xe
 have hYc:Y.calm=true:=by subst hY; exact hc
 have hYm:Y.prog=X.prog/\Y.w=X.w/\Y.K=X.K/\Y.A=X.A/\Y.env=compEnvC scope cl s3.heap.objs.size X.env/\Y.xe=fun _ _=>False:=by subst hY; exact⟨rfl,rfl,rfl,rfl,rfl,rfl⟩
 obtain⟨e1,e2,e3,e4,e5,e6⟩:=hYm
 have never:∀{α:Type} {t:Sem α} {Q:α->Shared->Prop} {s:Shared} {E:Value->Shared->Prop},wpAny (model Y.prog Y.w) Y.A t Q Y.xe s->wpAny (model X.prog X.w) X.A t Q E s:=fun {α t Q s E} q=>by
  rw[e1,e2,e4,e6] at q
  exact wpAny_mono q (fun _ _ z=>z) fun _ _ z=>z.elim
 have loop:codeAny (model X.prog X.w) X.A (.compLoop (.ListComp elt [⟨tg,iter,ifs,0⟩] scope pos) 0 (.ref it) (.ref s2.heap.objs.size) (compEnvC scope cl s3.heap.objs.size X.env))
   (compPost (model X.prog X.w) X.A X.xe use RR (.ref s2.heap.objs.size) s3.heap.objs.size) s4:=by
  refine codeAny_loop rfl (fun n s'=>∃i H',Inv Y [] (v3 bs ext.length σ) H' s'/\tn i s'.heap/\(∀b∈fp,H' b=none)/\W i n H') (fun n s5 hI=>?_) m0 ⟨0,_,I4,st4',fun b hb=>(f3 b hb).1,w0⟩
  obtain⟨i,H5,I5,st5,fr5,w5⟩:=hI
  show wpAny _ X.A ((compTurn (.ListComp elt [⟨tg,iter,ifs,0⟩] scope pos) 0 (.ref it) (.ref s2.heap.objs.size) (compEnvC scope cl s3.heap.objs.size X.env)).onRaise (fun x=>do noteFrame x (compEnvC scope cl s3.heap.objs.size X.env); theTreesLotGoes x)) _ _ s5
  refine wpAny_noted ?_
  rw[compTurn_list]
  rcases turn i n H5 w5 with⟨stop,qn⟩|⟨go,N,hN,step⟩
  ·refine wpAny_bind (wpAny_standAt (wpAny_bind ?_))
   have hd:=T.done Y e1 e2 e3 hYc i [] s5 _ H5 (fun _ _=>False) I5 (hYs fr5) st5 stop
   rw[e4] at hd
   refine wpAny_mono hd (fun r s6 ⟨hr,I6⟩=>?_) fun _ _ z=>z.elim
   subst hr
   subst hY
   exact wpAny_pure (hend s2.heap.objs.size s3 _ fp _ H5 s6 I3 f3 I6 qn)
  ·refine wpAny_bind (wpAny_standAt (wpAny_bind ?_))
   have hd:=T.item Y e1 e2 e3 hYc i [] s5 _ H5 (fun _ _=>False) I5 (hYs fr5) st5 go
   rw[e4] at hd
   refine wpAny_mono hd (fun r s6 ⟨u,hr,h6⟩=>?_) fun _ _ z=>z.elim
   subst hr
   refine wpAny_bind (wpAny_mono h6 (fun _ s7 ⟨x,H7,I7,r7,y7,st7,fr7⟩=>?_) fun _ _ z=>z.elim)
   have I7':=I7.pinned (hYs fr7) (T.obj _ _ st7)
   rw[<-e5]
   refine wpAny_bind (never (thn (hgY _ s7 _ H7 x u _ I7' r7 (step x H7 y7)) fun _ s8 ⟨σ8,H8,I8,⟨hx8,hl8⟩,q8⟩=>?_))
   refine wpAny_bind (never (thn (htY _ s8 σ8 H8 _ I8 q8) fun b s9 ⟨H9,I9,q9⟩=>?_))
   have again:∀{H10:Hp} {s10:Shared} {m':Nat},Inv Y ([]++kU fp s7.heap) σ8 H10 s10->m'<n->W (i+1) m' H10->∃m,m<n/\∃i H',Inv Y [] (v3 bs ext.length σ) H' s10/\tn i s10.heap/\(∀b∈fp,H' b=none)/\W i m H':=fun {H10 s10 m'} I10 hm w10=>by
    refine⟨m',hm,i+1,H10,(I10.unpinned).weak hl8.symm hx8,T.keep _ _ _ st7 fun b hb o e=>(I10.pin (b,o) (List.mem_append_right _ (List.mem_append_right _ (zh hb e)))).1,fun b hb=>?_,w10⟩
    obtain⟨o,e,d⟩:=T.obj _ _ st7 b hb
    exact(I10.pin (b,o) (List.mem_append_right _ (List.mem_append_right _ (zh hb e)))).2.1
   cases b with
   |false =>
    rw[if_neg Bool.false_ne_true] at q9
    obtain⟨m',hm,w9⟩:=hN _ q9
    exact wpAny_pure ⟨by rw[e5],again I9 hm w9⟩
   |true =>
    rw[if_pos rfl] at q9
    have ev:=(heY (notedBy (model X.prog X.w) X.A (compEnvC scope cl s3.heap.objs.size X.env) (fun x s''=>compPost (model X.prog X.w) X.A X.xe use RR (.ref s2.heap.objs.size) s3.heap.objs.size (.error x) s''))).h _ s9 σ8 H9 _ E (fun pins' H' s' e' s'' I' hx'=>by
     obtain⟨a,C,d,H'',rfl,F,hE⟩:=hx'
     subst hY
     exact Zy Z I3.ok.frames I3 f3 I'.unwish F fun s4 hF=>hxE a C d H'' s4 hE hF) (I9.wish _) q9
    rw[show(Y.wish _).prog=X.prog from e1,show(Y.wish _).w=X.w from e2,show(Y.wish _).A=X.A from e4] at ev
    refine wpAny_bind (wpAny_bind (wpAny_mono ev (fun xv s10 ⟨y,H10,I10w,r10,ys,hys,hz,n10⟩=>?_) fun _ _ z=>by rw[e5]; exact z))
    have I10:=I10w.unwish
    obtain⟨m',hm,w10⟩:=hN _ n10
    refine wpAny_bind (never (thn (vK (X:=Y) _ s10 σ8 H10 (.ref s2.heap.objs.size) [y] (.ref s2.heap.objs.size) [xv] (fun _ H=>∃m',m'<n/\W (i+1) m' H) I10 rfl (.cons r10 .nil) ⟨_,ys,y,rfl,rfl,hys,hz,m',hm,w10⟩) fun _ s11 ⟨_,H11,I11,_,m2,hm2,w11⟩=>?_))
    exact wpAny_pure (wpAny_pure ⟨by rw[e5],again I11 hm2 w11⟩)
 exact codeAny_compStart_list loop (T.self X.A 0 s4 _ _ st4' loop)
end
abbrev NtX (X:Cx) (outer:List Env) (E:XK):Prop:=∀a C d H' s4,E C d H'->FliN X outer a C d H' s4->X.xe (.ref a) s4
structure QXc (X:Cx) (e:Expr) (t:TX):Prop where
 h:∀outer pins s σ H Q E,Body X outer->Cmp X E σ->NtX X outer E->Inv X pins σ H s->t σ H Q E->wpAny (model X.prog X.w) X.A (eval e X.env) (EP X pins σ Q) X.xe s
abbrev TXa:=St->Hp->(List V->Hp->Prop)->XK->Prop
structure QXa (X:Cx) (es:List Expr) (t:TXa):Prop where
 h:∀outer pos pins s σ H Q E,Body X outer->Cmp X E σ->NtX X outer E->Inv X pins σ H s->t σ H Q E->wpAny (model X.prog X.w) X.A (spliced (backTo pos (starEach es X.env))) (AP X pins σ Q) X.xe s
structure QXh (X:Cx) (st:Stmt) (t:TS):Prop where
 h:∀outer pins s σ H D,Body X outer->CmpD True X D->(∀σ,NtX X outer (EX X.mg D σ))->Inv X pins σ H s->t D σ H->wpAny (model X.prog X.w) X.A (exec st X.env) (SP X pins D) X.xe s
structure QXhs (X:Cx) (st:List Stmt) (t:TS):Prop where
 h:∀outer pins s σ H D,Body X outer->CmpD True X D->(∀σ,NtX X outer (EX X.mg D σ))->Inv X pins σ H s->t D σ H->wpAny (model X.prog X.w) X.A (execs st X.env) (SP X pins D) X.xe s
section
variable {X:Cx} {elt tg iter e a b c:Expr} {es:List Expr} {ifs:List Expr} {scope:Scope} {bs:List Bool} {ext:List Str} {pos p:Pos} {wi:TI} {g:TG} {tt:TT} {tx:TX} {te:TE} {tl:TXa} {st:Stmt} {rest:List Stmt} {t u:TS} {x:Str} {r:List V->Hp->VK->Prop}
def tCompX (wi:TI) (bs:List Bool) (n:Nat) (g:TG) (tt:TT) (tx:TX):TX:=fun σ H Q E=>ja wi bs n g tt (fun σ' H' Q'=>tx σ' H' Q' E) σ H Q
theorem qxc_lc (bs:List Bool) (ext:List Str) (hi:QI X.nox tg iter wi) (hg:∀fp s H,QG (cxB X scope ext fp s H) tg g) (ht:∀fp s H,QTs (cxB X scope ext fp s H) ifs tt) (he:∀fp s H xe,QXe ((cxB X scope ext fp s H).wish xe) elt tx) (hk:xr scope X.env X.N bs=true:=by rfl) (hc:X.calm=true:=by rfl) (hs:∀x,foldedSetIterable iter X.env x=pure x:=by intro _; rfl):QXc X (.ListComp elt [⟨tg,iter,ifs,0⟩] scope pos) (tCompX wi bs ext.length g tt tx):=⟨fun outer pins s σ H Q E Z _ hx I h=>by
 rw[eval_ListComp]
 refine VG (use:=none) (H:=H) (Q:=Q) (σ:=σ) (pins:=pins) Z hx (CompS.of I hk) hc (fun fp s H=>(hg fp s H).h) (fun fp s H=>(ht fp s H).h) he hs (wpAny_mono (hi.h pins s σ H _ (I.wish _) h) (fun _ _ z=>z) fun _ _ z=>z.elim) _ fun acc s2 H2 fp σ' H' s' I2 f2 J q=>?_
 obtain⟨m,hn,_⟩:=J.loc
 exact⟨m,hn,fun h' sb=>⟨.ref acc,H',Q1 I2 f2 J sb,rfl,q⟩⟩⟩
def tCompY (K:PySem.W.Frag) (ti:TX) (bs:List Bool) (n:Nat) (g:TG) (tt:TT) (tx:TX):TX:=fun σ H Q E=>ti σ H (fun x H1=>∃a,x=.ref a/\(∃xs,SqL K H1 a xs)/\∀acc,H1 acc=none->XU (Itl K a) acc g tt (fun σ' H' Q'=>tx σ' H' Q' E) (v3 bs n σ) H1 Q) E
theorem qxc_lcY {ti:TX} (bs:List Bool) (ext:List Str) (hi:QXe X iter ti) (hg:∀fp s H,QG (cxB X scope ext fp s H) tg g) (ht:∀fp s H,QTs (cxB X scope ext fp s H) ifs tt) (he:∀fp s H xe,QXe ((cxB X scope ext fp s H).wish xe) elt tx) (hk:xr scope X.env X.N bs=true:=by rfl) (hc:X.calm=true:=by rfl) (hs:∀x,foldedSetIterable iter X.env x=pure x:=by intro _; rfl):QXc X (.ListComp elt [⟨tg,iter,ifs,0⟩] scope pos) (tCompY X.K ti bs ext.length g tt tx):=⟨fun outer pins s σ H Q E Z c hx I h=>by
 rw[eval_ListComp]
 refine VG (use:=none) (H:=H) (Q:=Q) (σ:=σ) (pins:=pins) Z hx (CompS.of I hk) hc (fun fp s H=>(hg fp s H).h) (fun fp s H=>(ht fp s H).h) he hs ?_ _ fun acc s2 H2 fp σ' H' s' I2 f2 J q=>?_
 ·refine thn (hi.h pins s σ H _ E c I h) fun v s1 ⟨x,H1,I1,r1,q1⟩=>?_
  obtain⟨a,e,⟨xs,hq⟩,q⟩:=q1
  subst e
  cases r1
  obtain⟨its,rv,p,hz⟩:=I1.list hq
  refine wpAny_pyIter_list p.isList ?_
  refine⟨s1.heap.objs.size, [s1.heap.objs.size],_,_,H1,rfl,(I1.kept (t':=s1.toks) fun b o e=>Heap.get?_push_of_some _ e).wish _,Q8 a _,⟨_,Heap.get?_push_size _ rfl,rfl,rfl⟩,fun b hb=>?_,q⟩
  have e:b=s1.heap.objs.size:=by simpa using hb
  subst e
  exact(I1.wish _).fpOk (Nat.le_refl _) (I1.hok.fresh (Nat.le_refl _))
 ·obtain⟨m,hn,_⟩:=J.loc
  exact⟨m,hn,fun h' sb=>⟨.ref acc,H',Q1 I2 f2 J sb,rfl,q⟩⟩⟩
def tX0 (te:TE):TX:=fun σ H Q _=>te σ H Q
theorem jK (he:QXe X e tx):QXc X e tx:=⟨fun outer pins s σ H Q E _ k _ I h=>he.h pins s σ H Q E k I h⟩
theorem ZV (he:QE X.nox e te):QXc X e (tX0 te):=⟨fun outer pins s σ H Q E _ k _ I h=>wpAny_mono (he.h pins s σ H Q (I.wish _) h) (fun _ _ ⟨v,H',I',r,q⟩=>⟨v,H',I'.unwish,r,q⟩) fun _ _ z=>z.elim⟩
def tNilX:TXa:=fun _ H Q _=>Q [] H
def tConsX (tx:TX) (tl:TXa):TXa:=fun σ H Q E=>tx σ H (fun x H1=>tl σ H1 (fun xs H2=>Q (x::xs) H2) E) E
theorem V7:QXa X [] tNilX:=⟨fun outer pos pins s σ H Q E _ _ _ I h=>Calls.spliced_nil ⟨[],H,I, .nil,h⟩⟩
theorem Qz (ha:QXc X e tx) (hr:QXa X es tl) (hs:starEach (e::es) X.env=(false,eval e X.env)::starEach es X.env:=by rfl):QXa X (e::es) (tConsX tx tl):=⟨fun outer pos pins s σ H Q E Z k n I h=>by
 rw[hs]
 show wpAny _ _ (spliced ((false,eval e X.env)::backTo pos (starEach es X.env))) _ _ s
 refine Calls.spliced_cons (thn (ha.h outer pins s σ H _ E Z k n I h) fun u s1 ⟨x,H1,I1,r1,q1⟩=>?_)
 exact thn (hr.h outer pos pins s1 σ H1 _ E Z k n I1 q1) fun us s2 ⟨xs,H2,I2,r2,q2⟩=>⟨x::xs,H2,I2, .cons r1 r2,q2⟩⟩
def tTupX (tl:TXa):TX:=fun σ H Q E=>tl σ H (fun xs H1=>xs.length<=sizeLine/\∀p,H1 p=none->Q (.ref p) (upd H1 p (.tup xs))) E
theorem V6 {x1} (ha:QXa X es tl):QXc X (.Tuple es x1 pos) (tTupX tl):=⟨fun outer pins s σ H Q E Z k n I h=>by
 refine wpAny_Tuple_spliced (thn (ha.h outer pos pins s σ H _ E Z k n I h) fun us s1 ⟨xs,H1,I1,r,z,q⟩=>⟨by rw[<-r.length]; exact z, ?_⟩)
 have hf:H1 s1.heap.objs.size=none:=I1.hok.fresh (Nat.le_refl _)
 refine⟨.ref s1.heap.objs.size,upd H1 s1.heap.objs.size (.tup xs),I1.laid (t':=s1.toks) (fun b u e=>Heap.get?_push_of_some _ e) (Nat.le_refl _) ?_,rfl,q _ hf⟩
 exact⟨z,us,r,⟨_,Heap.get?_push_size _ rfl,rfl,_,rfl⟩⟩⟩
theorem ZU (h:QX True X st t):QXh X st t:=⟨fun outer pins s σ H D _ c _ I q=>h.h pins s σ H D c I q⟩
theorem V5 (he:QXc X e tx):QXh X (.Return (some e) pos) (tRetX tx X.mg):=⟨fun outer pins s σ H D Z c hx I h =>
 wpAny_Return_some (thn (he.h outer pins s σ H _ _ Z (c.1 σ) (hx σ) I h) fun v s1 ⟨x,H1,I1,r1,q1⟩=>⟨x,σ,H1,I1,r1,q1⟩)⟩
theorem V4 {i:Nat} {x:Str} {pos':Pos} (hN:X.N.Nodup) (hi:X.N[i]?=some x) (hx:Loc X.env.scope x) (he:QXc X e tx) (hs:swapsWith e (some (.Name x pos')) pos.line X.env=pure false:=by rfl) (hf:X.fn x=true\/X.env.scope.names.lookup x=some .local:=by first|exact .inl rfl|exact .inr rfl|assumption) :
  QXh X (.Assign [.Name x pos'] e pos) (tSetX i tx X.mg):=⟨fun outer pins s σ H D Z k n I h=>by
 refine wpAny_Assign_Name (thn (he.h outer pins s σ H _ _ Z (k.1 σ) (n σ) I h) fun v s1 ⟨y,H1,I1,r1,q1⟩=>?_) hs
 exact jb I1 hN hi hx r1 (fun s2 I2=>⟨_,H1,I2,q1⟩) hf⟩
theorem zn (h1:QXh X st t) (h2:QXhs X rest u):QXhs X (st::rest) (tSeq t u):=⟨fun outer pins s σ H D Z c hx I h=>by
 refine wpAny_execs_cons (thn (h1.h outer pins s σ H { D with nx:=u D } Z c hx I h) fun f s1 q=>?_)
 cases f with
 |next =>
  obtain⟨σ',H',I',q⟩:=q
  exact h2.h outer pins s1 σ' H' D Z c hx I' q
 |ret v=>exact q
 |brk=>exact q
 |cont=>exact q⟩
theorem Qy (h1:QXh X st t):QXhs X [st] t:=⟨fun outer pins s σ H D Z c hx I h=>by
 refine wpAny_execs_cons (thn (h1.h outer pins s σ H D Z c hx I h) fun f s1 q=>?_)
 cases f with
 |next=>exact wpAny_execs_nil q
 |ret v=>exact q
 |brk=>exact q
 |cont=>exact q⟩
end
section
variable {P:Program} {w:World} {K:PySem.W.Frag} {mg:Str->Option Value} {base:Heap}
theorem Fun.okXh {x qual:Str} {st:Stmt} {f:Addr} {fd:FuncData} {N ps:List Str} {k:Nat} {sp:Sp} (F:Fun K x qual st f fd) (S:FnScope N ps (qc st)) (len:∀vs H Q E,sp vs H Q E->vs.length=ps.length)
  (hbody:∀(cdv:Value) (A:Around) (outer:List Env) (s:Shared) (H:Hp) (vs:List V) (Q:VK) (E:XK),Room k (A.deeper (envOfC qual (qc st) s.heap.objs.size f cdv))->sp vs H Q E ->
   ∃t,QXhs (cxOf (CXe P w) P w K mg base N qual (qc st) f cdv A outer s H E) (qi st) t/\t { nx:=fun _ H'=>Q .non H',rt:=Q,bk:=bkX N.length mg E } (start N vs) H):FnOk P w K mg base (CXe P w) (k+1) f fd ps sp:=by
 obtain⟨oc,od,kV,doc,pm,an,cdv,ct,osl,rfl,lk,hcd⟩:=F.ex
 refine fn_of lk hcd S len fun A outer s H vs Q E hr hsp=>?_
 obtain⟨t,h,q⟩:=hbody cdv A outer s H vs Q E hr hsp
 refine⟨fun D σ H1=>D={ nx:=fun _ H'=>Q .non H',rt:=Q }/\t { nx:=fun _ H'=>Q .non H',rt:=Q,bk:=bkX N.length mg E } σ H1,fun pins s1 σ H1 D I hd=>?_,rfl,q⟩
 obtain⟨rfl,hd⟩:=hd
 have Y:Body (cxOf (CXe P w) P w K mg base N qual (qc st) f cdv A outer s H E) outer:=⟨rfl,rfl,rfl,rfl⟩
 refine wpAny_mono (h.h outer pins s1 σ H1 _ Y ⟨fun σ pins H s e s' I hx=>?_,fun _ pins σ H s e C d I hm h0 hx=>?_⟩ (fun σ a C d H' s4 hE hF=>Zs Y I.ok.frames I.ok hF (bkX.ex hE)) I hd) (fun fl s' z=>?_) fun _ _ z=>z
 ·exact Vn Y I I.ok.frames (hx.mono fun C d H' z=>bkX.ex z)
 ·exact kz Y I I.ok.frames hm h0 (bkX.ex hx)
 ·cases fl with
  |next=>exact z
  |ret u=>exact z
  |cont=>exact z
  |brk =>
   obtain⟨σ',H',I',nm,p,σ'',e,hl,_⟩:=z
   have:=I'.len
   rw[e,List.length_cons,List.length_cons,hl] at this
   exact absurd this (by show N.length+1+1≠N.length; omega)
theorem Fun.zXh {x qual:Str} {st:Stmt} {f:Addr} {fd:FuncData} {N ps:List Str} {k:Nat} {G:List U->MM->UK->UX->Prop} (F:Fun K x qual st f fd) (S:FnScope N ps (qc st)) (len:∀us M Qu Xu,G us M Qu Xu->us.length=ps.length)
  (hbody:∀(cdv:Value) (A:Around) (outer:List Env) (s:Shared) (H:Hp) (E:XK),Room k (A.deeper (envOfC qual (qc st) s.heap.objs.size f cdv)) ->
   ∃t,QXhs (cxOf (CXe P w) P w K mg base N qual (qc st) f cdv A outer s H E) (qi st) t/\∃u,ZS t u/\∀us M Qu Xu,G us M Qu Xu->u (endX N.length Qu Xu) (jd N us) M):FnOk P w K mg base (CXe P w) (k+1) f fd ps (spX mg G):=by
 refine F.okXh S (fun vs H Q E h=>?_) (fun cdv A outer s H vs Q E hr h=>?_)
 ·obtain⟨A,ι,M,us,Qu,Xu,w1,r,g,_⟩:=h
  rw[r.len]; exact len us M Qu Xu g
 ·obtain⟨B,ι,M,us,Qu,Xu,w1,r,g,kk,kx⟩:=h
  obtain⟨t,ht,u,hu,hb⟩:=hbody cdv A outer s H E hr
  refine⟨t,ht,hu.h B ι _ H _ M _ (endX N.length Qu Xu) w1 (jc r) ⟨fun ι1 σ1 H1 ρ1 M1 l1 w1 e1 q1=>kk _ M1 ι1 _ H1 l1 w1 (.p .non) q1,fun ι1 v H1 z M1 l1 w1 r1 q1=>kk z M1 ι1 v H1 l1 w1 r1 q1,fun ι1 σ1 H1 ρ1 M1 l1 w1 e1 q1=>?_,fun _ _ _ _ _ _ _ _ q=>q.elim⟩ (hb us M Qu Xu g)⟩
  obtain⟨nm,p,ρ,rfl,hn,q1⟩:=q1
  cases e1 with
  |cons a b =>
  cases b with
  |cons a2 b =>
  obtain⟨v,rfl,rv⟩:=a _ rfl
  obtain⟨v2,rfl,rv2⟩:=a2 _ rfl
  cases rv with
  |p rv =>
  cases rv
  cases rv2 with
  |p rv2 =>
  cases Jz rv2
  exact⟨nm,p,_,rfl,by rw[b.length]; exact hn,fun C d hm hp=>kx nm p C d M1 ι1 H1 hm hp l1 w1 q1⟩
end
section
variable {tt:TT} {ut:UT} {n:Nat}
def xZ (ui:UI) (bs:List Bool) (n:Nat) (ug:UG) (ut:UT) (ux:UXe):UXe:=fun ρ M Q Xu=>jS ui bs n ug ut (fun ρ' M' Q'=>ux ρ' M' Q' Xu) ρ M Q
theorem Qd {mg:Str->Option Value} {tx:TX} {ux:UXe} {bs:List Bool} {g:TG} {ug:UG} {A:Addr->Prop} {ι ι1:List Addr} {σ:St} {H H1:Hp} {ρ:UEnv} {M1:MM} {Qu:UK} {Xu:UX} {Q:VK} {E:XK} {it:UIt} {J:It} {acc:Addr} (hg:ZX bs n g ug) (ht:ZT tt ut) (he:ZXe mg tx ux) (e:EnvR A ι H σ ρ) (l1:Le ι H ι1 H1) (w1:Wd A ι1 H1 M1)
  (hJ:∀(A':Addr->Prop) (ι2:List Addr) (H2:Hp) (M2:MM) (i:Nat),Lea A ι1 H1 A' ι2 H2->Wd A' ι2 H2 M2->it.ok M2->(i<it.n->J.go i H2/\∀x H',J.yld i H2 x H'->∃u,it.item i u/\Le ι2 H2 ι2 H'/\Wd A' ι2 H' M2/\RepU A' ι2 H' x u)/\(i=it.n->J.stop i H2))
  (q1:ρ.length=bs.length/\XT it ug ut (fun ρ' M' Q'=>ux ρ' M' Q' Xu) (Vv bs n ρ) M1 Qu)
  (k:∀a M' ι' x H',Le ι H ι' H'->Wd A ι' H' M'->RepU A ι' H' x a->Qu a M'->Q x H') (kx:∀nm p C d M' ι' H',mg nm=some C->PartIs d H' p->Le ι H ι' H'->Wd A ι' H' M'->Xu nm p M'->E C d H') (hacc:H1 acc=none):XU J acc g tt (fun σ' H' Q'=>tx σ' H' Q' E) (v3 bs n σ) H1 Q:=by
 obtain⟨hlen,hsz,Iv,I0,It,Id⟩:=q1
 have hσ:σ.length=bs.length:=by rw[<-hlen]; exact e.len
 have e1:=e.le l1
 have na:¬Av A ι1 acc:=w1.nA hacc
 have key:∀ι2 H2,Le ι1 H1 ι2 H2->(∀x∈ι2,¬(A x\/x=acc))->Lea A ι1 H1 (fun x=>A x\/x=acc) ι2 H2:=fun ι2 H2 l h=>by
  refine⟨let⟨n,e,_⟩:=l.ext; ⟨n,e⟩,fun x o hx ex=>?_,l.xd⟩
  obtain⟨a1,a2⟩:=l.av hx ex
  refine⟨a1,fun z=>?_⟩
  rcases z with(z|z)|z
  ·exact a2 (.inl z)
  ·rw[z,hacc] at ex; cases ex
  ·exact a2 (.inr z)
 refine⟨fun i m H2=>m=it.n-i/\i<=it.n/\∃ι2 M2 at' ys,Le ι1 H1 ι2 H2/\Wd (fun x=>A x\/x=acc) ι2 H2 M2/\H2 acc=some (.lst ys)/\RepTs (Av (fun x=>A x\/x=acc) ι2) H2 ys at'/\at'.length<=i/\Iv i at' M2,
  ⟨it.n,by simp,Nat.zero_le _,ι1,M1, [], [], .fresh hacc,w1.addA hacc,upd_same, .nil,Nat.le_refl _,I0⟩, ?_⟩
 rintro i m H2 ⟨rfl,hin,ι2,M2,at',ys,l2,w2,hys,rys,hat,I2⟩
 have lea:=key ι2 H2 l2 w2.na
 by_cases hlt:i<it.n
 ·obtain⟨ok,step⟩:=It i at' M2 hlt hat I2
  obtain⟨jgo,jy⟩:=(hJ _ ι2 H2 M2 i lea w2 ok).1 hlt
  refine .inr ⟨jgo,fun H'=>∃ι2 M2 at' ys,Le ι1 H1 ι2 H'/\Wd (fun x=>A x\/x=acc) ι2 H' M2/\H' acc=some (.lst ys)/\RepTs (Av (fun x=>A x\/x=acc) ι2) H' ys at'/\at'.length<=i+1/\Iv (i+1) at' M2,fun H' h=>⟨it.n-(i+1),by omega,rfl,hlt,h⟩,fun x H3 y=>?_⟩
  obtain⟨u,hu,l3,w3,r3⟩:=jy x H3 y
  have l13:=l2.trans l3
  have nacc:∀{ι':List Addr} {H':Hp} {M':MM},Wd (fun x=>A x\/x=acc) ι' H' M'->acc∉ι':=fun w z=>w.na acc z (.inr rfl)
  have ys3:H3 acc=some (.lst ys):=l3.fr _ _ hys (nacc w2)
  have env3:EnvR (fun x=>A x\/x=acc) ι2 H3 (v3 bs n σ) (Vv bs n ρ):=(e1.mask).lea (key ι2 H3 l13 w3.na)
  refine hg.h _ ι2 σ H3 _ M2 x u _ _ hσ w3 env3 r3 (step u hu) fun ρ4 σ4 e4 x4 len4 q4=>⟨⟨x4,len4⟩, ?_⟩
  refine ht.h _ ι2 σ4 H3 ρ4 M2 _ _ w3 e4 q4 fun b M5 ι5 H5 l5 w5 q5=>?_
  have ys5:H5 acc=some (.lst ys):=l5.fr _ _ ys3 (nacc w3)
  have rys5:RepTs (Av (fun x=>A x\/x=acc) ι5) H5 ys at':=Paired.mapP rys fun _ _ q=>(q.le l3).le l5
  cases b with
  |false=>exact⟨ι5,M5,at',ys,l13.trans l5,w5,ys5,rys5,Nat.le_succ_of_le hat,q5⟩
  |true =>
   refine he.h _ ι5 σ4 H5 ρ4 M5 _ _ _ E w5 (e4.le l5) q5 (fun z M6 ι6 zv H6 l6 w6 r6 q6=>?_) (fun nm p C d M' ι' H' hm hp l' w' x'=>kx nm p C d M' ι' H' hm hp (l1.trans ((l13.trans l5).trans l')) (w'.lessA fun x hx=>.inl hx) x')
   obtain⟨t,rfl,q6⟩:=q6
   have ys6:H6 acc=some (.lst ys):=l6.fr _ _ ys5 (nacc w5)
   refine⟨ys,ys6, ?_,ι6,M6,at'++[t],ys++[zv],((l13.trans l5).trans l6).updF hacc,(w6.updA (.inr rfl) ys6).2,upd_same, ?_,by rw[List.length_append,List.length_singleton]; omega,q6⟩
   ·rw[rys.len]; omega
   ·have hl:=(w6.updA (o:=.lst (ys++[zv])) (.inr rfl) ys6).1
    cases r6 with
    |p r6=>exact Paired.app (Paired.mapP rys5 fun _ _ q=>(q.le l6).mono hl.av) (.cons (r6.mono hl.av) .nil)
 ·have ei:i=it.n:=by omega
  subst ei
  obtain⟨ok,fin⟩:=Id at' M2 I2
  refine .inl ⟨(hJ _ ι2 H2 M2 _ lea w2 ok).2 rfl,k _ M2 ι2 _ H2 (l1.trans l2) (w2.lessA fun x hx=>.inl hx) (.p (.lstP (fun z=>?_) hys (Paired.mapP rys fun _ _ q=>q.mono fun x o hx ex=>⟨ex,fun z=>hx (z.elim (fun z=>.inl (.inl z)) .inr)⟩))) fin⟩
  rcases z with z|z
  ·exact na (.inl z)
  ·exact w2.na acc z (.inr rfl)
theorem cx_comp {mg:Str->Option Value} {tx:TX} {ux:UXe} {wi:TI} {ui:UI} {bs:List Bool} {g:TG} {ug:UG} (hi:ZI wi ui) (hg:ZX bs n g ug) (ht:ZT tt ut) (he:ZXe mg tx ux):ZXe mg (tCompX wi bs n g tt tx) (xZ ui bs n ug ut ux):=⟨fun A ι σ H ρ M Qu Xu Q E w e q k kx =>
 hi.h A ι σ H ρ M _ _ w e q fun it M1 ι1 J H1 l1 w1 hJ q1 acc hacc=>Qd hg ht he e l1 w1 hJ q1 k kx hacc⟩
def jG (ui:UXe) (bs:List Bool) (n:Nat) (ug:UG) (ut:UT) (ux:UXe):UXe:=fun ρ M Q Xu=>ui ρ M (fun x M1=>IterS M1 x fun it M2=>ρ.length=bs.length/\XT it ug ut (fun ρ' M' Q'=>ux ρ' M' Q' Xu) (Vv bs n ρ) M2 Q) Xu
theorem cx_compY {K:PySem.W.Frag} {mg:Str->Option Value} {ti tx:TX} {ui ux:UXe} {bs:List Bool} {g:TG} {ug:UG} (hi:ZXe mg ti ui) (hg:ZX bs n g ug) (ht:ZT tt ut) (he:ZXe mg tx ux):ZXe mg (tCompY K ti bs n g tt tx) (jG ui bs n ug ut ux):=⟨fun A ι σ H ρ M Qu Xu Q E w e q k kx =>
 hi.h A ι σ H ρ M _ Xu _ E w e q (fun x M1 ι1 v H1 l1 w1 r1 ⟨us,eu,q1⟩=>by
  obtain⟨p,vs,rfl,h1,h2⟩:=zi w1 r1 eu
  refine⟨p,rfl,⟨vs,SqL.of h1⟩,fun acc hacc=>Qd hg ht he e l1 w1 ?_ q1 k kx hacc⟩
  intro A' ι2 H2 M2 i l w2 ok
  obtain⟨p',vs2,e2,h3,h4⟩:=zi w2 (r1.lea l) ok
  cases e2
  have hl:=h4.len
  refine⟨fun hi=>?_,fun hi=>⟨vs2,SqL.of h3,by rw[hl]; exact Nat.le_of_eq hi.symm⟩⟩
  have hx:vs2[i]?=some (vs2[i]'(by rw[hl]; exact hi)):=List.getElem?_eq_getElem _
  refine⟨⟨vs2,_,SqL.of h3,hx⟩,fun x H' y=>?_⟩
  obtain⟨rfl,y⟩:=y
  have hx2:=y vs2 (SqL.of h3)
  obtain⟨z,hz,rz⟩:=Paired.getL h4 hx2
  exact⟨z,hz, .refl _ _,w2,rz⟩) kx⟩
end
abbrev UXa:=UEnv->MM->(List U->MM->Prop)->UX->Prop
structure ZXa (mg:Str->Option Value) (n:Nat) (tl:TXa) (ul:UXa):Prop where
 h:∀(A:Addr->Prop) (ι:List Addr) (σ:St) (H:Hp) (ρ:UEnv) (M:MM) (Qu:List U->MM->Prop) (Xu:UX) (Q:List V->Hp->Prop) (E:XK),Wd A ι H M->EnvR A ι H σ ρ->ul ρ M Qu Xu ->
  (∀us M' ι' vs H',Le ι H ι' H'->Wd A ι' H' M'->us.length=n->RepUs A ι' H' vs us->Qu us M'->Q vs H')->(∀nm p C d M' ι' H',mg nm=some C->PartIs d H' p->Le ι H ι' H'->Wd A ι' H' M'->Xu nm p M'->E C d H')->tl σ H Q E
section
variable {mg:Str->Option Value} {tx:TX} {ux:UXe} {te:TE} {ue:UE} {ut:UT} {tl:TXa} {ul:UXa} {n:Nat}
def uX0 (ue:UE):UXe:=fun ρ M Q _=>ue ρ M Q
theorem cx_0 (h:ZE te ue):ZXe mg (tX0 te) (uX0 ue):=⟨fun A ι σ H ρ M Qu Xu Q E w e q k _=>h.h A ι σ H ρ M Qu Q w e q k⟩
def uOpX (s:T->T->(T->Prop)->Prop) (ua ub:UXe):UXe:=fun ρ M Q X=>ua ρ M (fun x M1=>ub ρ M1 (fun y M2=>OpS s M2 x y Q) X) X
def uIfX (ut:UT) (ua ub:UXe):UXe:=fun ρ M Q X=>ut ρ M fun b M1=>if b=true then ua ρ M1 Q X else ub ρ M1 Q X
def Qi:UXa:=fun _ M Q _=>Q [] M
def xY (ux:UXe) (ul:UXa):UXa:=fun ρ M Q X=>ux ρ M (fun x M1=>ul ρ M1 (fun xs M2=>Q (x::xs) M2) X) X
theorem Zw:ZXa mg 0 tNilX Qi:=⟨fun A ι σ H ρ M Qu Xu Q E w e q k _=>k [] M ι [] H (.refl _ _) w rfl .nil q⟩
theorem za (ha:ZXe mg tx ux) (hl:ZXa mg n tl ul):ZXa mg (n+1) (tConsX tx tl) (xY ux ul):=⟨fun A ι σ H ρ M Qu Xu Q E w e q k kx =>
 ha.h A ι σ H ρ M _ Xu _ E w e q (fun x M1 ι1 v H1 l1 w1 r1 q1=>hl.h A ι1 σ H1 ρ M1 _ Xu _ E w1 (e.le l1) q1 (fun xs M2 ι2 vs H2 l2 w2 hn r2 q2 =>
  k (x::xs) M2 ι2 (v::vs) H2 (l1.trans l2) w2 (by rw[List.length_cons,hn]) (.cons (r1.le l2) r2) q2) fun nm p C d M' ι' H' hm hp l' w' x'=>kx nm p C d M' ι' H' hm hp (l1.trans l') w' x') kx⟩
def Q7 (ul:UXa):UXe:=fun ρ M Q X=>ul ρ M (fun us M1=>PurS us fun ts=>Q (.p (.tup ts)) M1) X
theorem KD (ha:ZXa mg n tl ul) (hn:n<=1000:=by decide):ZXe mg (tTupX tl) (Q7 ul):=⟨fun A ι σ H ρ M Qu Xu Q E w e q k kx =>
 ha.h A ι σ H ρ M _ Xu _ E w e q (fun us M1 ι1 vs H1 l1 w1 hl r1 ⟨ts,et,q1⟩=>by
  have r2:=r1
  rw[zo et] at r2
  exact⟨by rw[r1.len,hl]; exact Nat.le_of_lt (qL hn),fun p hp=>k _ M1 ι1 _ _ (l1.trans (.fresh hp)) (w1.fresh hp) (.p (VB w1 hp r2.pures)) q1⟩) kx⟩
def uCbX (s:List T->(T->Prop)->Prop) (ul:UXa):UXe:=fun ρ M Q X=>ul ρ M (fun us M1=>SnsS M1 us fun ts=>s ts fun t=>Q (.p t) M1) X
end
def rMulS:R2:=fun x y H Q=>∃(i:Str) (n:Int),x=.str i/\y=.int n/\i.length<=1000 /\ -1000<=n/\n<=1000/\Q (.str (Txt.mul i n)) H
theorem jv {X:Cx}:OpR X (binaryOp .Mult) rMulS:=by
 intro pins s σ H x y v u Q I rx ry h
 obtain⟨i,n,rfl,rfl,hi,h0,h1,q⟩:=h
 obtain⟨t,rfl⟩:=rx
 obtain⟨t',rfl⟩:=ry
 refine SB.mul ⟨?_,fun h2 _ h3=>?_,fun _ _=>?_⟩ fun t' k=>⟨.str _,H,I.tok _,⟨_,rfl⟩,q⟩
 ·rw[decide_eq_false (by omega),decide_eq_false (by omega)]; rfl
 ·have hd:(1000:Int)<=(2^63-1) / n:=by
   rw[Int.le_ediv_iff_mul_le (by omega)]
   omega
  omega
 ·have:i.length*n.toNat<=1000*1000:=Nat.mul_le_mul hi (by omega)
  exact decide_eq_false (by rw[sizeLine_eq]; omega)
def sMulS:T->T->(T->Prop)->Prop:=fun a b Q=>∃(i:Str) (n:Int),a=.str i/\b=.int n/\i.length<=1000 /\ -1000<=n/\n<=1000/\Q (.str (Txt.mul i n))
theorem xD:OpL rMulS sMulS:=fun A ι H M x y a b Qs Q w r1 r2 ⟨i,n,ea,eb,c1,c2,c3,q⟩ k=>by
 subst ea eb
 exact⟨i,n,r1.str_inv,r2.int_inv,c1,c2,c3,k _ ι _ H (.refl _ _) w (.str _) q⟩
theorem mul_len {x:Str} {n:Int}:(Txt.mul x n).length<=x.length*n.toNat:=by
 unfold Txt.mul
 split
 ·exact Nat.zero_le _
 ·split
  ·rename_i h1 h2
   have h2:n=1\/x.length=0:=by simpa using h2
   rcases h2 with rfl|h2
   ·show x.length<=x.length*1; omega
   ·rw[h2]; omega
  ·have key:∀(k:Nat) (acc:Array Nat),((List.replicate k x.cps).foldl (· ++ ·) acc).size=acc.size+x.cps.size*k:=fun k=>by
    induction k with
    |zero=>intro acc; simp
    |succ k ih =>
     intro acc
     rw[List.replicate_succ,List.foldl_cons,ih,Array.size_append,Nat.mul_succ]
     omega
   show((List.replicate n.toNat x.cps).foldl (· ++ ·) #[]).size<=_
   rw[key]
   show 0+x.cps.size*n.toNat<=x.length*n.toNat
   rw[Nat.zero_add]
   exact Nat.le_refl _
section
variable {K:PySem.W.Frag} {to:TE} {uo:UE} {tl:TA} {ul:UA} {n:Nat}
theorem Vd {A:Addr->Prop} {ι:List Addr} {H:Hp}:∀zs:List Str,RepUs A ι H (Ql zs) (zs.map fun z=>U.p (.str z))
 | []=>.nil
 |z::zs=>.cons (.p (.str z)) (Vd zs)
def SplitNS (y:Str) (us:List U) (M:MM) (Q:UK):Prop:=∃(c:Nat) (zs:List Str),us=[.p (.str ⟨#[c]⟩)]/\Txt.split y ⟨#[c]⟩=zs/\y.length+2<=sizeLine/\Q (.m M.length) (M++[.lst (zs.map fun z=>U.p (.str z))])
def zY (uo:UE) (ul:UA):UE:=fun ρ M Q=>uo ρ M fun x M1=>∃y,x=.p (.str y)/\ul ρ M1 fun us M2=>SplitNS y us M2 Q
theorem KI (ho:ZE to uo) (ha:ZA n tl ul):ZE (tBM K "str" Jk to tl) (zY uo ul):=⟨fun A ι σ H ρ M Qu Q w e q k =>
 ho.h A ι σ H ρ M _ _ w e q fun x M1 ι1 v H1 l1 w1 r1 ⟨y,ex,q1⟩=>by
  subst ex
  cases r1 with
  |p r =>
  cases r
  refine⟨rfl,ha.h A ι1 σ H1 ρ M1 _ _ w1 (e.le l1) q1 fun us M2 ι2 vs H2 l2 w2 hn r2 ⟨c,zs,eu,ez,hz,q2⟩=>?_⟩
  subst eu
  cases r2 with
  |cons a b =>
  cases b
  cases a with
  |p a =>
  cases a
  exact⟨y,c,zs,rfl,rfl,ez,hz,fun l hl=>k _ _ (ι2++[l]) _ _ ((l1.trans l2).trans (.push hl)) (w2.push (mo:=.lst _) hl ⟨_,upd_same,Vd zs⟩) (.m (by rw[<-w2.len]; exact QR)) q2⟩⟩
end
def nonV:V->Bool
 |.non=>true
 |_=>false
def rInN (K:PySem.W.Frag):R2:=fun x y H Q=>∃p xs,x=.non/\y=.ref p/\SqL K H p xs/\(∀v∈xs,Ku v=true\/∃a ys,v=.ref a/\(SqL K H a ys\/SqT K H a ys))/\Q (.bl (xs.any nonV)) H
def nonU:Value->Bool
 |.none=>true
 |_=>false
theorem op_inN {X:Cx} {K:PySem.W.Frag} (h:X.K=K) (hu:X.A.units+1<cLine):OpR X (compareOp .In) (rInN K):=by
 subst h
 intro pins s σ H x y v u Q I rx ry h
 obtain⟨p,xs,rfl,rfl,hq,hx,q⟩:=h
 cases ry
 cases rx
 obtain⟨its,r,pl,hz⟩:=I.list hq
 have hun:X.A.in1.units<cLine:=Nat.lt_of_le_of_lt (show X.A.in1.units<=X.A.units+1 from Nat.le_refl _) hu
 refine SeqAt.in_listAt nonU pl.isList (fun w hw=>?_) ⟨.bl _,H,I,rfl, ?_⟩
 ·have hw:w∈its:=by simpa using hw
  obtain⟨i,hi⟩:=List.getElem?_of_mem hw
  obtain⟨x,ex,rx⟩:=Paired.getR r hi
  rcases hx x (List.mem_of_getElem? ex) with hf|⟨a,ys,rfl,ha⟩
  ·cases x with
   |non=>cases rx; exact SeqAt.EqAt.same _
   |bl b=>cases rx; exact SeqAt.EqAt.bool_none b
   |int b=>obtain⟨t,rfl⟩:=rx; exact SeqAt.EqAt.int_none b t
   |str b=>obtain⟨t,rfl⟩:=rx; exact SeqAt.EqAt.str_none b t
   |_=>exact absurd (show false=true from hf) Bool.false_ne_true
  ·cases rx
   rcases ha with ha|ha
   ·obtain⟨_,_,pl',_⟩:=I.list ha
    exact SeqAt.EqAt.list_none pl'.isList hun
   ·obtain⟨_,_,pl',_⟩:=I.tuple ha
    exact SeqAt.EqAt.tuple_none pl' hun
 ·have e:∀{xs:List V} {its:List Value},Vals xs its->its.any nonU=xs.any nonV:=fun r=>by
   induction r with
   |nil=>rfl
   |cons a _ ih =>
    rw[List.any_cons,List.any_cons,ih]
    congr 1
    rename_i x u _ _ _
    cases x with
    |non=>cases a; rfl
    |bl b=>cases a; rfl
    |ref b=>cases a; rfl
    |ty b=>cases a; rfl
    |_=>obtain⟨t,rfl⟩:=a; rfl
  rw[show its.toArray.any nonU=its.any nonU by simp,e r]
  exact q
def nonT:T->Bool
 |.non=>true
 |_=>false
def sInN:T->T->(T->Prop)->Prop:=fun a b Q=>∃ts,a=.non/\b=.lst ts/\Q (.bl (ts.any nonT))
theorem JB {K:PySem.W.Frag}:OpL (rInN K) sInN:=fun A ι H M x y a b Qs Q w r1 r2 ⟨ts,ea,eb,q⟩ k=>by
 subst ea eb
 obtain⟨p,zs,rfl,h1,h2⟩:=r2.lst_inv
 have h3:zs.any nonV=ts.any nonT:=by
  have key:∀{zs:List V} {ts:List T},RepTs (Av A ι) H zs ts->zs.any nonV=ts.any nonT:=fun h=>by
    induction h with
    |nil=>rfl
    |cons a _ ih =>
     rw[List.any_cons,List.any_cons,ih]
     congr 1
     cases a<;>rfl
  exact key h2
 refine⟨p,zs, ?_,rfl,SqL.of h1,fun v hv=>?_, ?_⟩
 ·cases r1 with
  |of r=>cases r; rfl
 ·obtain⟨i,hi⟩:=List.getElem?_of_mem hv
  obtain⟨t,ht,rt⟩:=Paired.getL h2 hi
  cases t with
  |non=>cases rt; exact .inl rfl
  |bl=>cases rt; exact .inl rfl
  |int=>cases rt; exact .inl rfl
  |str=>cases rt; exact .inl rfl
  |tup ts =>
   obtain⟨p,zs,rfl,h1,h2⟩:=(RepV.of rt).tup_inv
   exact .inr ⟨p,zs,rfl, .inr (SqT.of h1)⟩
  |lst ts =>
   obtain⟨p,zs,rfl,h1,h2⟩:=(RepV.of rt).lst_inv
   exact .inr ⟨p,zs,rfl, .inl (SqL.of h1)⟩
 ·rw[h3]
  exact k _ ι _ H (.refl _ _) w (.bl _) q
end L2
namespace Hd
open PySem PySem.W PySem.Calls PyProof.Rows
def topT (tb:String->Option Builtin) (p:Program) (w:World) (m:Nat) (an:Option Value):Nat->SharedT->Thread->Option SharedT
 |0,_,_=>none
 |k+1,s,t=>match through t with
  |true=>some s
  |false=>match stepOk m an t with
   |false=>none
   |true=>match stepT (denote tb) p w s t with
    |some (s1,t1)=>topT tb p w m an k s1 t1
    |none=>none
theorem ZL {tb:String->Option Builtin} {p:Program} {w:World} {m:Nat} {an:Option Value} :
  ∀{k:Nat} {s r:SharedT} {t:Thread},topT tb p w m an k s t=some r->topRun tb p w m an k s.abs t=some r.abs
 |0,_,_,_,h=>by cases h
 |k+1,s,r,t,h=>by
  unfold topT at h
  unfold topRun
  cases ht:through t with
  |true=>rw[ht] at h; cases h; rfl
  |false =>
   rw[ht] at h
   cases hk:stepOk m an t with
   |false=>rw[hk] at h; cases h
   |true =>
    rw[hk] at h
    cases hs:stepT (denote tb) p w s t with
    |none=>rw[hs] at h; cases h
    |some x =>
     obtain⟨s1,t1⟩:=x
     rw[hs] at h
     rw[stepT_spec hs]
     exact ZL h
noncomputable def bootT (P:Params):BT :=
 .node (boot_o_0 P) (.node (boot_o_1 P) (.node (boot_o_3 P) (.node (boot_o_7 P) .nil .nil) .nil) (.node (boot_o_5 P) (.node (boot_o_9 P) .nil .nil) .nil))
  (.node (boot_o_2 P) (.node (boot_o_4 P) (.node (boot_o_8 P) .nil .nil) .nil) (.node (boot_o_6 P) (.node (boot_o_10 P) .nil .nil) .nil))
abbrev bootL:Life:={}
theorem KN (P:Params):boot_heap P=absHeap (bootT P) 11 bootL:=by kernel_rfl
noncomputable def S0 (w:World) (os:OsState):SharedT:=⟨bootT w.params,11,bootL, #[],boot_drawn,boot_toks,os⟩
noncomputable def Look (p q:Program) (loose:List Str) (Xt:Shared->Bool) {α:Type} (Yf:Shared->α) (w:World) (s:Shared) :=
 ((staticsOk (importedModules p.main.body) (boot_heap w.params) s.heap&&namesBound p s.heap&&gensDone s&&laidKept (boot_heap w.params) s.heap),openSeen q loose (importedModules p.main.body) Xt true s,Yf s)
theorem left_of {p q:Program} {loose:List Str} {Xt:Shared->Bool} {α:Type} {Yf:Shared->α} {Ya:World->α} {N M:Nat}
  (e:opening p=plainProg p.main.scope.names) (hN:Nat.ble 600 N=true) (f:∀s,fenceModules? p s=some s) (le:Nat.ble M N=true)
  (run:∀w os,(topT treeTable p w 11 (some (.ref 6)) M (S0 w os) (topStub p)).map (fun s=>Look p q loose Xt Yf w s.abs)=some (true,openGood q loose,Ya w))
  (hs:∀P:Params,((boot_heap P).isNs mainGlobals,(boot_heap P).nsMap mainGlobals "__annotations__")=(true,some (.ref 6))):LeftO p q loose Xt Yf Ya N:=fun w=>by
 obtain⟨⟨h,gs,d,k,os⟩,e1,e2⟩:=Option.map_eq_some_iff.mp (boot_open e hN f w)
 obtain⟨rfl,rfl,rfl,rfl⟩:h=boot_heap w.params/\gs=Array.mk []/\d=boot_drawn/\k=boot_toks:=by simpa using e2
 obtain⟨z1,z3⟩:_/\_:=by simpa only[Prod.mk.injEq] using hs w.params
 obtain⟨r,r1,r2⟩:=Option.map_eq_some_iff.mp (run w os)
 obtain⟨l1,l2,l3⟩:_/\_/\_:=by simpa only[Look,Prod.mk.injEq] using r2
 have r3:=topRun_mono (N-M) _ _ _ _ (ZL r1)
 rw[show M+(N-M)=N by have:=Nat.le_of_ble_eq_true le; omega] at r3
 have a:(S0 w os).abs=⟨boot_heap w.params, #[],boot_drawn,boot_toks,os⟩:=by rw[KN]; rfl
 rw[a] at r3
 have t:topFrom treeTable p w N ⟨boot_heap w.params, #[],boot_drawn,boot_toks,os⟩=some r.abs:=by
  unfold topFrom
  dsimp only
  rw[z1,z3,show(boot_heap w.params).objs.size=11 from rfl,r3]
  show(match staticsOk (importedModules p.main.body) (boot_heap w.params) r.abs.heap&&namesBound p r.abs.heap&&gensDone r.abs&&laidKept (boot_heap w.params) r.abs.heap with|true=>_|false=>_)=_
  rw[l1]
 unfold openEnds
 rw[e1]
 show(topFrom treeTable p w N _).map _=_
 rw[t]
 exact congrArg some (Prod.ext l2 l3)
theorem four {α β δ1 δ2 δ3 δ4 ε ζ:Type} {o:Option α} {A:α->β} {S:α->δ1×δ2×δ3×δ4×ε} {C:α->ζ} {a:β} {g:δ1×δ2×δ3×δ4×ε} {c:ζ} (hA:o.map A=some a) (h1:o.map (fun s=>((S s).1,(S s).2.1,(S s).2.2.1,(S s).2.2.2.1))=some (g.1,g.2.1,g.2.2.1,g.2.2.2.1)) (h2:o.map (fun s=>(S s).2.2.2.2)=some g.2.2.2.2) (hC:o.map C=some c):o.map (fun s=>(A s,S s,C s))=some (a,g,c):=by
 cases o with
 |none=>cases hA
 |some r =>
  simp only[Option.map_some,Option.some.injEq,Prod.mk.injEq] at hA h1 h2 hC ⊢
  exact⟨hA,Prod.ext h1.1 (Prod.ext h1.2.1 (Prod.ext h1.2.2.1 (Prod.ext h1.2.2.2 h2))),hC⟩
theorem look4 {p q:Program} {loose:List Str} {Xt:Shared->Bool} {α:Type} {Yf:Shared->α} {w:World} {y:α} (o:Option SharedT)
  (hA:o.map (fun s=>staticsOk (importedModules p.main.body) (boot_heap w.params) s.abs.heap&&namesBound p s.abs.heap&&gensDone s.abs&&laidKept (boot_heap w.params) s.abs.heap)=some true)
  (hB:o.map (fun s=>((openSeen q loose (importedModules p.main.body) Xt true s.abs).1,(openSeen q loose (importedModules p.main.body) Xt true s.abs).2.1,(openSeen q loose (importedModules p.main.body) Xt true s.abs).2.2.1,(openSeen q loose (importedModules p.main.body) Xt true s.abs).2.2.2.1))=some ((openGood q loose).1,(openGood q loose).2.1,(openGood q loose).2.2.1,(openGood q loose).2.2.2.1))
  (hD:o.map (fun s=>(openSeen q loose (importedModules p.main.body) Xt true s.abs).2.2.2.2)=some (openGood q loose).2.2.2.2) (hC:o.map (fun s=>Yf s.abs)=some y):o.map (fun s=>Look p q loose Xt Yf w s.abs)=some (true,openGood q loose,y):=by
 cases o with
 |none=>cases hA
 |some r =>
  have hA:=Option.some.inj hA
  have hB:=Option.some.inj hB
  have hD:=Option.some.inj hD
  have hC:=Option.some.inj hC
  obtain⟨b1,b2⟩:=Prod.mk.inj hB
  obtain⟨b2,b3⟩:=Prod.mk.inj b2
  obtain⟨b3,b4⟩:=Prod.mk.inj b3
  exact congrArg some (Prod.ext hA (Prod.ext (Prod.ext b1 (Prod.ext b2 (Prod.ext b3 (Prod.ext b4 hD)))) hC))
theorem left_of4 {p q:Program} {loose:List Str} {Xt:Shared->Bool} {α:Type} {Yf:Shared->α} {Ya:World->α} {N M:Nat}
  (e:opening p=plainProg p.main.scope.names) (hN:Nat.ble 600 N=true) (f:∀s,fenceModules? p s=some s) (le:Nat.ble M N=true)
  (rA:∀w os,(topT treeTable p w 11 (some (.ref 6)) M (S0 w os) (topStub p)).map (fun s=>staticsOk (importedModules p.main.body) (boot_heap w.params) s.abs.heap&&namesBound p s.abs.heap&&gensDone s.abs&&laidKept (boot_heap w.params) s.abs.heap)=some true)
  (rB:∀w os,(topT treeTable p w 11 (some (.ref 6)) M (S0 w os) (topStub p)).map (fun s=>((openSeen q loose (importedModules p.main.body) Xt true s.abs).1,(openSeen q loose (importedModules p.main.body) Xt true s.abs).2.1,(openSeen q loose (importedModules p.main.body) Xt true s.abs).2.2.1,(openSeen q loose (importedModules p.main.body) Xt true s.abs).2.2.2.1))=some ((openGood q loose).1,(openGood q loose).2.1,(openGood q loose).2.2.1,(openGood q loose).2.2.2.1))
  (rD:∀w os,(topT treeTable p w 11 (some (.ref 6)) M (S0 w os) (topStub p)).map (fun s=>(openSeen q loose (importedModules p.main.body) Xt true s.abs).2.2.2.2)=some (openGood q loose).2.2.2.2)
  (rC:∀w os,(topT treeTable p w 11 (some (.ref 6)) M (S0 w os) (topStub p)).map (fun s=>Yf s.abs)=some (Ya w))
  (hs:∀P:Params,((boot_heap P).isNs mainGlobals,(boot_heap P).nsMap mainGlobals "__annotations__")=(true,some (.ref 6))):LeftO p q loose Xt Yf Ya N :=
 left_of e hN f le (fun w os=>look4 _ (rA w os) (rB w os) (rD w os) (rC w os)) hs
theorem boot_main (P:Params):((boot_heap P).isNs mainGlobals,(boot_heap P).nsMap mainGlobals "__annotations__")=(true,some (.ref 6)):=by kernel_rfl
end Hd
namespace Hd
open PySem PySem.W PySem.Calls PyProof.Rows
theorem close {r:OpenRow} {q:Program} {loose:List Str} {lv:List (Str×WData)} {H:Hook} {d:DefRec} {kwd:List (Str×Expr)} {N:Nat}
  (left:LeftO r.prog q loose (fun s=>xlAt q lv s&&recOk (RowW.records (OpenRow.toRowW r)) s) H.obs H.val N) (h1:defOf q r.name=some (d,kwd)) (h2:r.prog.theDef r.name=some (d.params,d.body,d.scope))
  (h3:kwWritten? d.params.kwonlyargs d.params.kw_defaults=some kwd) (h4:(!r.writes||r.records.isEmpty)=true) (h5:r.wellSaid=true) (h6:(chainsOk q&&opensWell r.prog&&(frees r.toRowW&&r.within.isEmpty))=true) (h7:r.prog.bare)
  (hw:r.toRowW.promised) (hc:WalkO q loose (XL q lv) H.says r.toRowW d kwd fun f vs=>PySem.call f vs):r.Holds :=
 holds_open left H.of H.keeps (fun s z=>xl_of s (Bool.and_eq_true_iff.mp z).1) XL.keeps h1 h2 h3 (fun s z=>recFacts_of (Bool.and_eq_true_iff.mp z).2) h4 h5 h6 h7 hw hc
end Hd
set_option maxHeartbeats 4000000
namespace Mw
open PySem L2 PyProof.Rows
def top (i:Nat):Stmt:=PySem.Challenge.pw_markwords_k72_texts_that_are_no_images.main.body.getD i (.Pass ⟨0,0,0,0⟩)
local macro_rules | `(tactic| walk_at "hp") => `(tactic| first|assumption|exact upd_same|(refine vQ (by assumption) ?_; walk_at "hp")|(refine jX (by first|assumption|(apply Ne.symm; assumption)) ?_; walk_at "hp"))
local macro_rules | `(tactic| walk_at "go") => `(tactic| repeat (first|(simp only[L2.start,tSeq,Qj,tAsg,tOp,tUn,tVar,tC,qS,gSub,tRet,tRetN,tIfS,Vb,tLM,tTru,jo,tBM,tBM0,tRev,jH,ja,ZR,j3,j2,Qx,j4,rd_pi,tSl,xa,Va,rd_I,rd_I0,rd_U,Qw,rd_bl,tCB,xI,tNil,tTup,tLst,tYes,tAnd,tOr,tNot,tB,tIf,Vc,tOrV,tNotV,ki,rd_l1,rd_l2,rd_lr,List.getElem?_cons_zero,List.getElem?_cons_succ,Option.some.injEq,exists_eq_left',List.set_cons_zero,List.set_cons_succ,v3,List.zip_cons_cons,List.zip_nil_left,List.zip_nil_right,List.map_cons,List.map_nil,List.length_cons,List.length_nil,List.replicate,List.append_nil,List.nil_append,List.cons_append,Bool.false_eq_true,if_true,if_false,decide_eq_true_eq,Nat.zero_add,xG,xF])|refine Kf (by walk_at "hp") rfl ?_|refine ixT_at (by walk_at "hp") rfl ?_|refine Kf (by walk_at "hp") at0 ?_|refine setL_at (by walk_at "hp") rfl ?_|refine len_at (by walk_at "hp") ?_|refine Z9 (by walk_at "hp") ?_|refine Z8 (by walk_at "hp") ?_|refine lm_at (by walk_at "hp") ?_|refine it_at (by walk_at "hp") ?_|refine Kv rfl ?_|refine ne_at rfl ?_))
section
variable {P:Program} {w:World} {K:PySem.W.Frag} {mg:Str->Option Value} {base:Heap}
abbrev sBag:Stmt:=top 25
theorem scBag:FnScope ["script", "stir", "cell"] ["script"] (qc sBag):=⟨rfl,rfl,rfl,by decide +kernel,rfl,by decide +kernel,by decide +kernel⟩
abbrev V3:Stmt:=top 26
theorem scDraw:FnScope ["bag", "many", "found"] ["bag", "many"] (qc V3):=⟨rfl,rfl,rfl,by decide +kernel,rfl,by decide +kernel,by decide +kernel⟩
structure BagAt (H:Hp) (b:Addr):Prop where
 ex:∃(c:Addr) (ns:List Int) (i a st n:Int),H b=some (.lst [.ref c, .int i, .int a, .int st, .int n])/\H c=some (.lst (ns.map V.int))/\0<=i/\i<=ns.length/\ns.length<=63/\(∀x∈ns,0<=x)/\0<=a/\0<=st/\st<2147483647
def spBag (K:PySem.W.Frag):Sp:=fun vs H Q _=>∃(a:Addr) (ns:List Int),vs=[.ref a]/\SqL K H a (ns.map V.int)/\ns.length<=63/\∀(b:Addr) (H':Hp),H b=none->Same H H'->BagAt H' b->Q (.ref b) H'
theorem cut63 (ns:List Int) (h:ns.length<=63):cutV (ns.map V.int) none (some 63)=ns.map V.int:=by
 unfold cutV
 have e1:HT.sIx (ns.map V.int).length 0 none=0:=rfl
 have e2:HT.sIx (ns.map V.int).length (ns.map V.int).length (some 63)=min 63 (ns.map V.int).length:=HT.sIx_nat _ _ 63
 rw[e1,e2]
 simp only[List.drop_zero,List.length_map]
 rw[List.take_of_length_le]
 simp; omega
theorem Z7 {ns:List Int} {i:Nat} {y:V} (h:(ns.map V.int)[i]?=some y):∃z,y=V.int z/\ns[i]?=some z:=by
 rw[List.getElem?_map] at h
 cases e:ns[i]? with
 |none=>rw[e] at h; cases h
 |some z=>rw[e] at h; exact⟨z,(Option.some.inj h).symm,rfl⟩
theorem ok_bag {f:Addr} {fd:FuncData} (F:Fun K "_law_bag" "_law_bag" sBag f fd) (N:Nms mg):FnOk P w K mg base CX0 1 f fd ["script"] (spBag K):=by
 refine F.okQ scBag (fun vs H Q E h=>?_) (fun cdv A outer s H vs Q E hr h=>?_)
 ·obtain⟨a,ns,rfl,_⟩:=h
  rfl
 ·obtain⟨a,ns,rfl,hS,hlen,k⟩:=h
  refine⟨_,(qg (qC (i:=1) scBag.nd rfl (Or.inl rfl) qe)
  (qg (jM PassesOwn.never rfl (vY (K:=K) rfl (qE (qR (K:=K) rfl) (qv 0) qN (qG qe))) (qV (i:=2) scBag.nd rfl (Or.inl rfl))
   (qp (qC (i:=1) scBag.nd rfl (Or.inl rfl) (qw zq (qw vC (qw vC (qw kW (qv 1) qe) (qw zq (qv 2) qe)) qe) qe))))
  (qp (qM (qZ (qa_c (kr [false,false,false] [] (vY (K:=K) rfl (qE (qR (K:=K) rfl) (qv 0) qN (qG qe))) (fun _ _ _=>(qV (i:=2) scBag.nd rfl (Or.inl rfl))) (fun _ _ _=>v7) (fun _ _ _=>(qw zq (qr call_abs (by rfl) N.abs b_abs (qa_c (qv 2) qd)) (qw ZY qe qe)))) (qa_c qe (qa_c qe (qa_c (qv 1) (qa_c qe qd)))))))))), ?_⟩
  refine⟨_,rfl,_,rfl,a,_,rfl,hS,fun p hp=>?_⟩
  rw[cut63 ns hlen]
  refine⟨p,rfl,⟨_,SqL.of upd_same⟩,for_list (K:=K) (a:=p) (xs:=ns.map V.int) (fun i σ H2=>∃(st:Int) (v:Option V),σ=[some (.ref a),some (.int st),v]/\0<=st/\st<2147483647/\H2=upd H p (.lst (ns.map V.int)))
   ⟨17,none,rfl,by decide,by decide,rfl⟩ (fun i σ H2 _ ⟨_,_,_,_,_,e⟩=>by rw[e]; exact SqL.of upd_same) ?_ ?_⟩
  ·rintro i y σ H2 hi ⟨st,v,rfl,h0,h1,rfl⟩
   obtain⟨z,rfl,_⟩:=Z7 hi
   (simp only[L2.start,tSeq,Qj,tAsg,tOp,tUn,tVar,tC,qS,gSub,tRet,tRetN,tIfS,Vb,tLM,tTru,jo,tBM,tBM0,tRev,jH,ja,ZR,j3,j2,Qx,j4,rd_pi,tSl,xa,Va,rd_I,rd_I0,rd_U,Qw,rd_bl,tCB,xI,tNil,tTup,tLst,tYes,tAnd,tOr,tNot,tB,tIf,Vc,tOrV,tNotV,ki,rd_l1,rd_l2,rd_lr,List.getElem?_cons_zero,List.getElem?_cons_succ,Option.some.injEq,exists_eq_left',List.set_cons_zero,List.set_cons_succ,v3,List.zip_cons_cons,List.zip_nil_left,List.zip_nil_right,List.map_cons,List.map_nil,List.length_cons,List.length_nil,List.replicate,List.append_nil,List.nil_append,List.cons_append,Bool.false_eq_true,if_true,if_false,decide_eq_true_eq,Nat.zero_add,xG,xF])
   refine⟨.inr ⟨by decide,by decide⟩,by decide,by decide,_,_,rfl,Int.emod_nonneg _ (by decide),Int.emod_lt_of_pos _ (by decide),trivial⟩
  ·rintro σ H2 ⟨st,v,rfl,h0,h1,rfl⟩
   have hS2:SqL K (upd H p (.lst (ns.map V.int))) a (ns.map V.int):=((Same.refl H).upd hp).seq hS
   refine⟨_,rfl,_,rfl,a,_,rfl,hS2,fun p2 hp2=>?_⟩
   rw[cut63 ns hlen]
   obtain⟨f2,n2⟩:=QZ hp2
   refine⟨p2,rfl,⟨_,SqL.of upd_same⟩,fun acc hacc=>?_⟩
   obtain⟨g1,n3⟩:=QZ hacc
   obtain⟨g2,n4⟩:=QZ g1
   refine KF (xs:=ns.map V.int) (fun i H3=>∃ys:List Int,H3 acc=some (.lst (ys.map V.int))/\ys.length=i/\(∀y∈ys,0<=y)/\H3 p2=some (.lst (ns.map V.int))/\Same H H3) ?_ ?_ ?_ ?_
   ·exact⟨[],upd_same,rfl,(fun _ h=>nomatch h),vQ hacc upd_same,(((Same.refl H).upd hp).upd f2).upd g2⟩
   ·rintro i H3 _ ⟨ys,_,_,_,e,_⟩
    exact SqL.of e
   ·rintro i y H3 hi ⟨ys,e1,e2,e3,e4,e5⟩
    obtain⟨z,rfl,hz⟩:=Z7 hi
    have hil:i<ns.length:=(List.getElem?_eq_some_iff.mp hz).1
    (simp only[L2.start,tSeq,Qj,tAsg,tOp,tUn,tVar,tC,qS,gSub,tRet,tRetN,tIfS,Vb,tLM,tTru,jo,tBM,tBM0,tRev,jH,ja,ZR,j3,j2,Qx,j4,rd_pi,tSl,xa,Va,rd_I,rd_I0,rd_U,Qw,rd_bl,tCB,xI,tNil,tTup,tLst,tYes,tAnd,tOr,tNot,tB,tIf,Vc,tOrV,tNotV,ki,rd_l1,rd_l2,rd_lr,List.getElem?_cons_zero,List.getElem?_cons_succ,Option.some.injEq,exists_eq_left',List.set_cons_zero,List.set_cons_succ,v3,List.zip_cons_cons,List.zip_nil_left,List.zip_nil_right,List.map_cons,List.map_nil,List.length_cons,List.length_nil,List.replicate,List.append_nil,List.nil_append,List.cons_append,Bool.false_eq_true,if_true,if_false,decide_eq_true_eq,Nat.zero_add,xG,xF])
    refine⟨⟨by(repeat (first|exact ExtS.nl|refine ExtS.sm ?_|refine ExtS.no ?_)),trivial⟩,⟨by decide,by decide,by decide⟩,by decide,ys.map V.int,e1,qL (by simp; omega),ys++[(if z<0 then -z else z) % 10^(60:Int).toNat], ?_,by simp[e2], ?_,jX n3.symm e4,e5.upd g2⟩
    ·rw[upd_same,List.map_append]; rfl
    ·intro y hy
     rcases List.mem_append.mp hy with h|h
     ·exact e3 y h
     ·rw[List.mem_singleton.mp h]; exact Int.emod_nonneg _ (by decide)
   ·rintro H3 ⟨ys,e1,e2,e3,e4,e5⟩
    rw[List.length_map] at e2
    (simp only[L2.start,tSeq,Qj,tAsg,tOp,tUn,tVar,tC,qS,gSub,tRet,tRetN,tIfS,Vb,tLM,tTru,jo,tBM,tBM0,tRev,jH,ja,ZR,j3,j2,Qx,j4,rd_pi,tSl,xa,Va,rd_I,rd_I0,rd_U,Qw,rd_bl,tCB,xI,tNil,tTup,tLst,tYes,tAnd,tOr,tNot,tB,tIf,Vc,tOrV,tNotV,ki,rd_l1,rd_l2,rd_lr,List.getElem?_cons_zero,List.getElem?_cons_succ,Option.some.injEq,exists_eq_left',List.set_cons_zero,List.set_cons_succ,v3,List.zip_cons_cons,List.zip_nil_left,List.zip_nil_right,List.map_cons,List.map_nil,List.length_cons,List.length_nil,List.replicate,List.append_nil,List.nil_append,List.cons_append,Bool.false_eq_true,if_true,if_false,decide_eq_true_eq,Nat.zero_add,xG,xF])
    refine⟨by decide,fun b hb=>?_⟩
    refine k b _ (e5.free hb) (e5.upd (e5.free hb)) ⟨acc,ys,0,0,st,0,upd_same,vQ hb e1,by decide,by omega,by omega,e3,by decide,h0,h1⟩
theorem KR {H:Hp} {b c:Addr} {ns:List Int} {i a st n:Int} (hb:H b=some (.lst [.ref c, .int i, .int a, .int st, .int n])) (hc:H c=some (.lst (ns.map V.int))):c≠b:=by
 intro e
 subst e
 rw[hb] at hc
 injection hc with hc
 injection hc with hc
 cases ns with
 |nil=>cases hc
 |cons z r=>cases hc
def jh (H:Hp) (b c:Addr):Prop:=∃r,H b=some (.lst (.ref c::r))
theorem Vz {H H':Hp} {b c:Addr} {r r':List V} (h:H b=some (.lst (.ref c::r))) (h':H' b=some (.lst (.ref c::r'))):∀c',jh H b c'->jh H' b c':=fun c' ⟨q,e⟩=>by
 rw[h] at e
 injection e with e
 injection e with e
 injection e with e _
 injection e with e
 subst e
 exact⟨r',h'⟩
theorem head_inj {H:Hp} {b c c':Addr} (h:jh H b c) (h':jh H b c'):c=c':=by
 obtain⟨q,e⟩:=h
 obtain⟨q',e'⟩:=h'
 rw[e] at e'
 injection e' with e'
 injection e' with e'
 injection e' with e' _
 injection e'
def spDraw2:Sp:=fun vs H Q _=>∃(b:Addr) (many:Int),vs=[.ref b, .int many]/\BagAt H b/\0<many/\many.natAbs.log2<9000/\∀(found:Int) (H':Hp),0<=found->found<many->BagAt H' b->(∀x,x≠b->H' x=H x)->(∀c,jh H b c->jh H' b c)->Q (.int found) H'
theorem BagAt.put {H:Hp} {b p c0:Addr} {o:HO} (h:BagAt H b) (hh:jh H b c0) (n1:p≠b) (n2:p≠c0):BagAt (L2.upd H p o) b:=by
 obtain⟨c,ns,i,a,st,n,hb,hc,r⟩:=h.ex
 have e:c0=c:=by
  obtain⟨q,e⟩:=hh
  rw[hb] at e
  injection e with e
  injection e with e
  injection e with e _
  injection e with e
  exact e.symm
 subst e
 exact⟨c0,ns,i,a,st,n,jX n1.symm hb,jX n2.symm hc,r⟩
theorem ok_draw2 {f:Addr} {fd:FuncData} (F:Fun K "_law_draw" "_law_draw" V3 f fd) (N:Nms mg):FnOk P w K mg base CX0 1 f fd ["bag", "many"] spDraw2:=by
 refine F.okQ scDraw (fun vs H Q E h=>?_) (fun cdv A outer s H vs Q E hr h=>?_)
 ·obtain⟨b,m,rfl,_⟩:=h
  rfl
 ·obtain⟨b,many,rfl,⟨c,ns,i,a,st,n,hb,hc,i0,i1,hl,hns,a0,s0,s1⟩,m0,mb,k⟩:=h
  have hcb:=KR hb hc
  refine⟨_,(qg (vG (kn (Jm (qt vW (qD (qh (K:=K) rfl) (qv 0) qe (fun _ _=>rfl)) qe (qF _)) (V9 (qt JF (qD (qh (K:=K) rfl) (qv 0) qe (fun _ _=>rfl)) (qr vg (by rfl) N.len zb (qa_c (qD (qh (K:=K) rfl) (qv 0) qe (fun _ _=>rfl)) qd)) (qF _)))))
   (qg (xM (qD (qh (K:=K) rfl) (qD (qh (K:=K) rfl) (qv 0) qe (fun _ _=>rfl)) (qD (qh (K:=K) rfl) (qv 0) qe (fun _ _=>rfl)) (fun _ _=>rfl)) (jN (qv 0) qe zt))
   (qp (xM (qw vC (qD (qh (K:=K) rfl) (qv 0) qe (fun _ _=>rfl)) qe) (jN (qv 0) qe zt))))
   (qp (vG (qt vW (qD (qh (K:=K) rfl) (qv 0) qe (fun _ _=>rfl)) qe (qF _))
    (qg (xM (qw vC (qD (qh (K:=K) rfl) (qv 0) qe (fun _ _=>rfl)) qe) (jN (qv 0) qe zt))
    (qg (xM (qw zq (qw vC (qw vC (qw vC (qw ZY (qD (qh (K:=K) rfl) (qv 0) qe (fun _ _=>rfl)) qe) (qw kW qe (qD (qh (K:=K) rfl) (qv 0) qe (fun _ _=>rfl)))) (qw kW qe (qD (qh (K:=K) rfl) (qv 0) qe (fun _ _=>rfl)))) qe) qe) (jN (qv 0) qe zt))
    (qp (qM (qw zq (qw je (qD (qh (K:=K) rfl) (qv 0) qe (fun _ _=>rfl)) qe) (qv 1))))))
    qQ)))
  (qg (qC (i:=2) scDraw.nd rfl (Or.inl rfl) (qw zq (qD (qh (K:=K) rfl) (qv 0) qe (fun _ _=>rfl)) (qv 1)))
  (qg (xM (qw je (qD (qh (K:=K) rfl) (qv 0) qe (fun _ _=>rfl)) (qv 1)) (jN (qv 0) qe zt))
  (qp (qM (qv 2)))))), ?_⟩
  walk_at "go"
  have fin:∀(z:Int) (H':Hp) (i' a' st' n':Int),0<=z->H' b=some (.lst [.ref c, .int i', .int (z / many), .int st', .int n'])->(∀x,x≠b->H' x=H x)->0<=i'->i'<=ns.length->0<=st'->st'<2147483647->Q (.int (z % many)) H':=fun z H' i' a' st' n' hz e1 e2 e3 e4 e5 e6 =>
   k _ _ (Int.emod_nonneg _ (by omega)) (Int.emod_lt_of_pos _ m0) ⟨c,ns,i',z / many,st',n',e1,by rw[e2 c hcb]; exact hc,e3,e4,hl,hns,Int.ediv_nonneg hz (by omega),e5,e6⟩ e2 (Vz hb e1)
  refine ite2 (fun ha=>?_) (fun ha=>?_)
  ·walk_at "go"
   refine ite2 (fun hi=>?_) (fun hi=>?_)
   ·rw[List.length_map] at hi
    obtain⟨j,rfl⟩:∃j:Nat,i=(j:Int):=⟨i.toNat,by omega⟩
    have hj:j<ns.length:=by omega
    walk_at "go"
    refine Kf hc (v8 (v:=.int ns[j]) (by rw[List.getElem?_map,List.getElem?_eq_getElem hj]; rfl)) ?_
    walk_at "go"
    refine⟨m0, ?_⟩
    walk_at "go"
    refine⟨⟨m0,mb⟩, ?_⟩
    walk_at "go"
    exact fin _ _ (j+1) 0 st n (hns _ (List.getElem_mem hj)) upd_same (fun x hx=>by rw[upd_ne hx,upd_ne hx,upd_ne hx]) (by omega) (by omega) s0 s1
   ·walk_at "go"
    rw[if_pos ha]
    walk_at "go"
    refine⟨⟨by decide,by decide,by omega⟩, ?_⟩
    walk_at "go"
    refine⟨.inl ⟨by decide,by decide⟩, ?_⟩
    walk_at "go"
    refine⟨.inl ⟨by decide,by decide⟩,by decide, ?_⟩
    walk_at "go"
    refine⟨⟨by decide,by decide⟩,m0, ?_⟩
    refine k _ _ (Int.emod_nonneg _ (by omega)) (Int.emod_lt_of_pos _ m0) ⟨c,ns,i,a,_,n+1,upd_same, ?_,i0,i1,hl,hns,a0,Int.emod_nonneg _ (by decide),Int.emod_lt_of_pos _ (by decide)⟩ (fun x hx=>by rw[upd_ne hx,upd_ne hx]) (Vz hb upd_same)
    walk_at "hp"
  ·walk_at "go"
   rw[if_neg ha]
   walk_at "go"
   refine⟨m0, ?_⟩
   walk_at "go"
   refine⟨⟨m0,mb⟩, ?_⟩
   walk_at "go"
   exact fin _ _ i 0 st n a0 upd_same (fun x hx=>by rw[upd_ne hx]) i0 i1 s0 s1
def MB (M:MM) (k:Nat) (o:MO) (L:List MO):MM:=M.set k o++L
theorem MB_len {M:MM} {k:Nat} {o:MO} {L:List MO}:(MB M k o L).length=M.length+L.length:=by unfold MB; rw[List.length_append,List.length_set]
theorem MB_new {M:MM} {k:Nat} {o x:MO} {L:List MO}:MB M k o L++[x]=MB M k o (L++[x]):=by unfold MB; rw[List.append_assoc]
theorem MB_get {M:MM} {k i:Nat} {o:MO} {L:List MO}:(MB M k o L)[M.length+i]?=L[i]?:=by
 unfold MB
 rw[List.getElem?_append_right (by rw[List.length_set]; omega),List.length_set,Nat.add_sub_cancel_left]
theorem K1 {M:MM} {k i:Nat} {o x:MO} {L:List MO} (h:L[i]?=some x:=by rfl):(MB M k o L)[M.length+i]?=some x:=MB_get.trans h
theorem MB_set {M:MM} {k i:Nat} {o x:MO} {L:List MO}:(MB M k o L).set (M.length+i) x=MB M k o (L.set i x):=by
 unfold MB
 rw[List.set_append_right _ _ (by rw[List.length_set]; omega),List.length_set,Nat.add_sub_cancel_left]
theorem VU {M:MM} {k:Nat} {o:MO} {L:List MO} (h:k<M.length):(MB M k o L)[k]?=some o:=by
 unfold MB
 rw[List.getElem?_append_left (by rw[List.length_set]; exact h),List.getElem?_set_self h]
theorem xy {M:MM} {k:Nat} {o o':MO} {L:List MO} (h:k<M.length):(MB M k o L).set k o'=MB M k o' L:=by
 unfold MB
 rw[List.set_append_left _ _ (by rw[List.length_set]; exact h),List.set_set]
theorem jE {M:MM} {k:Nat} {o:MO} {L:List MO}:(MB M k o L).take M.length=M.set k o:=by
 unfold MB
 rw[List.take_left' (by rw[List.length_set])]
theorem xH {M:MM} {k:Nat} {o:MO} (h:M[k]?=some o):k<M.length/\M=MB M k o []:=by
 refine⟨(List.getElem?_eq_some_iff.mp h).1, ?_⟩
 unfold MB
 rw[List.append_nil]
 obtain⟨hk,rfl⟩:=List.getElem?_eq_some_iff.mp h
 rw[List.set_getElem_self]
theorem jD {M:MM} {k:Nat} {o:MO} {L:List MO} (h:PurO o):zS M (MB M k o L):=fun i x hi e=>by
 unfold MB at e
 rw[List.getElem?_append_left (by rw[List.length_set]; exact hi)] at e
 by_cases hk:k=i
 ·subst hk
  rw[List.getElem?_set_self hi] at e
  cases e
  exact .inr h
 ·rw[List.getElem?_set_ne hk] at e
  exact .inl e
structure BagO (o:MO):Prop where
 ex:∃(ns:List Int) (i a st n:Int),o=.lst [.p (vx ns), .p (.int i), .p (.int a), .p (.int st), .p (.int n)]/\0<=i/\i<=ns.length/\ns.length<=63/\(∀x∈ns,0<=x)/\0<=a/\0<=st/\st<2147483647
theorem BagO.pur {o:MO} (h:BagO o):PurO o:=by
 obtain⟨ns,i,a,st,n,rfl,_⟩:=h.ex
 exact⟨[vx ns, .int i, .int a, .int st, .int n],rfl⟩
def QV:List U->MM->UK->Prop:=fun us M Q=>∃(k:Nat) (o:MO) (many:Int),us=[.m k, .p (.int many)]/\M[k]?=some o/\BagO o/\0<many/\many.natAbs.log2<9000/\∀(found:Int) (o':MO),0<=found->found<many->BagO o'->Q (.p (.int found)) (M.set k o')
theorem vc {M:MM} {k:Nat} {o:MO} {L:List MO} {many:Int} {Q:UK} (hk:k<M.length) (B:BagO o) (h0:0<many) (h1:many.natAbs.log2<9000) (q:∀(found:Int) (o':MO),0<=found->found<many->BagO o'->Q (.p (.int found)) (MB M k o' L)):QV [.m k, .p (.int many)] (MB M k o L) Q :=
 ⟨k,o,many,rfl,VU hk,B,h0,h1,fun f o' f0 f1 B'=>by rw[xy hk]; exact q f o' f0 f1 B'⟩
theorem ints_inv {A:Addr->Prop} {H:Hp} {v:V} {ns:List Int} (r:RepT A H v (vx ns)):∃p,v=.ref p/\¬A p/\H p=some (.lst (ns.map V.int)):=by
 obtain⟨p,vs,rfl,na,h,q⟩:=r.lst_inv
 refine⟨p,rfl,na, ?_⟩
 have:vs=ns.map V.int:=by
  clear h r na
  induction ns generalizing vs with
  |nil=>cases q; rfl
  |cons n ns ih =>
   cases q with
   |cons a b=>cases a; rw[ih _ b]; rfl
 rw[h,this]
theorem Z5 {A:Addr->Prop} {H:Hp} {p:Addr} {ns:List Int} (na:¬A p) (h:H p=some (.lst (ns.map V.int))):RepT A H (.ref p) (vx ns):=by
 refine .lstP na h ?_
 induction ns with
 |nil=>exact .nil
 |cons n ns ih=>exact .cons (.int n) (by
   clear h ih
   induction ns with
   |nil=>exact .nil
   |cons n ns ih=>exact .cons (.int n) ih)
theorem bag_obj {A:Addr->Prop} {ι:List Addr} {H:Hp} {b:Addr} {o:MO} (hb:BagO o) (r:ObjR A ι H b o):BagAt H b/\∃c,jh H b c/\¬Av A ι c/\∃ns:List Int,H c=some (.lst (ns.map V.int)):=by
 obtain⟨ns,i,a,st,n,rfl,k⟩:=hb.ex
 obtain⟨vs,h,q⟩:=r
 cases q with
 |cons q1 q =>
 cases q with
 |cons q2 q =>
 cases q with
 |cons q3 q =>
 cases q with
 |cons q4 q =>
 cases q with
 |cons q5 q =>
 cases q
 cases q1 with
 |p q1 =>
 obtain⟨c,rfl,nc,hc⟩:=ints_inv q1
 cases q2 with
 |p q2 =>
 cases q3 with
 |p q3 =>
 cases q4 with
 |p q4 =>
 cases q5 with
 |p q5 =>
 cases q2; cases q3; cases q4; cases q5
 exact⟨⟨c,ns,i,a,st,n,h,hc,k⟩,c,⟨_,h⟩,nc,ns,hc⟩
theorem Xs {A:Addr->Prop} {ι:List Addr} {H:Hp} {b c:Addr} (B:BagAt H b) (hd:jh H b c) (nc:¬Av A ι c):∃o,BagO o/\ObjR A ι H b o/\∃x,H b=some x/\∀H',H' b=some x->(∀y z,H y=some z->y≠b->H' y=some z)->ObjR A ι H' b o:=by
 obtain⟨c',ns,i,a,st,n,h,hc,k⟩:=B.ex
 have:c=c':=head_inj hd ⟨_,h⟩
 subst this
 have ncb:c≠b:=KR h hc
 refine⟨_,⟨ns,i,a,st,n,rfl,k⟩,⟨_,h, .cons (.p (Z5 nc hc)) (.cons (.p (.int _)) (.cons (.p (.int _)) (.cons (.p (.int _)) (.cons (.p (.int _)) .nil))))⟩,_,h,fun H' e f=>⟨_,e, .cons (.p (Z5 nc (f _ _ hc ncb))) (.cons (.p (.int _)) (.cons (.p (.int _)) (.cons (.p (.int _)) (.cons (.p (.int _)) .nil))))⟩⟩
theorem ok_drawU {f:Addr} {fd:FuncData} (F:Fun K "_law_draw" "_law_draw" V3 f fd) (N:Nms mg):FnOk P w K mg base CX0 1 f fd ["bag", "many"] (spU QV):=by
 refine(ok_draw2 F N).imp fun vs H Q E h=>?_
 obtain⟨A,ι,M,us,Qu,w1,r,⟨k,o,many,rfl,em,hb,h0,h1,q⟩,kk⟩:=h
 cases r with
 |cons r1 r =>
 cases r with
 |cons r2 r =>
 cases r
 cases r2 with
 |p r2 =>
 cases r2
 cases r1 with
 |m ek =>
 rename_i b
 have ro:=w1.obj k b o ek em
 obtain⟨B,c,hd,nc,ns,hcs⟩:=bag_obj hb ro
 refine⟨b,many,rfl,B,h0,h1,fun found H' f0 f1 B' fr hdk=>?_⟩
 have hd':=hdk c hd
 have hmem:=List.mem_of_getElem? ek
 obtain⟨o',hb',ro',x,hx,_⟩:=Xs (A:=A) (ι:=ι) B' hd' nc
 have eH:H'=L2.upd H b x:=by
  funext y
  by_cases z:y=b
  ·subst z; rw[L2.upd_same]; exact hx
  ·rw[L2.upd_ne z]; exact fr y z
 subst eH
 exact kk _ _ ι _ _ (.put hmem) (w1.put ek ro') (.p (.int _)) (q found o' f0 f1 hb')
theorem up1 {a:T} {R:T->Prop}:(∃t,U.p a=.p t/\R t)=R a:=propext ⟨fun⟨_,e,h⟩=>by cases e; exact h,fun h=>⟨a,rfl,h⟩⟩
theorem jz {α β:Type} {f:α->β} {l:List α} {i:Nat} {y:β} (h:(l.map f)[i]?=some y):∃x,l[i]?=some x/\y=f x:=by
 rw[List.getElem?_map] at h
 cases e:l[i]? with
 |none=>rw[e] at h; cases h
 |some n=>rw[e] at h; cases h; exact⟨n,rfl,rfl⟩
theorem t2_at {M:MM} {u a b:U} {R:U->U->Prop} (h:vP M u=some [a,b]) (q:R a b):T2S M u R:=⟨a,b,h,q⟩
theorem t3_at {M:MM} {u a b c:U} {R:U->U->U->Prop} (h:vP M u=some [a,b,c]) (q:R a b c):T3S M u R:=⟨a,b,c,h,q⟩
theorem useq {a b:US} {E:UEnds} {ρ:UEnv} {M:MM} (h:a { E with nx:=b E } ρ M):uSeq a b E ρ M:=h
local macro_rules | `(tactic| walk_at "vs") => `(tactic| simp only[jd,uNext,uAsg,X2,rd_name2,rd_name3,rd_var,rd_varS,uC,uCons,uNil,rd_op,rd_opS,rd_sI,rd_sI0,rd_eqI,rd_neI,rd_eqS,rd_neS,rd_eqB,rd_neB,uIsN,Zn,rd_intS,rd_blS,rd_neg,rd_bits,rd_b,rd_andV,rd_orV,rd_notV,uAnd,uOr,uNot,uIf,rd_chain,rd_chP,rd_ch,xh,xg,Jf,rd_tup,rd_lst,uNew,uNewT,rd_ix,rd_sns0,rd_snsC,rd_cb,rd_abs',rd_min',rd_max',rd_int',rd_intB,rd_len,rd_lenP,rd_sl,rd_slS,rd_part,Jg,rd_cat,rd_str,rd_iter,rd_iterP,rd_rng1,uFor,jS,Vv,rd_t2,rd_t3,rd_callP,rd_callS,rd_callU,rd_me,rd_app,uDrop,uRet,uRetN,uIfS,uYes,ss,uIsi,uIsi2,isU,isT,uIxK,uInK,vt,uDNew,rd_din,rd_dput,rd_idxK,rd_lrng2,rd_sub,rd_par,rd_par3,rd_p2,rd_p3,rd_name4,rd_t4,rd_fld,Jh,rd_meth,rd_make,Je,Bool.or_true,Bool.true_or,Bool.or_false,Bool.false_or,uIfC,iteT_int,iteT_str,rd_rev,rd_revP,up1,Xe,frzN_p,MO.lst.injEq,rd_dget,uPairs,MB_new,MB_len,MB_get,MB_set,Option.some.injEq,List.map_cons,List.map_nil,List.length_cons,List.length_nil,List.replicate,List.append_nil,List.nil_append,List.cons_append,List.getElem?_cons_zero,List.getElem?_cons_succ,List.set_cons_zero,List.set_cons_succ,List.zip_cons_cons,List.zip_nil_left,List.zip_nil_right,Bool.false_eq_true,if_true,if_false,decide_eq_true_eq,decide_true,decide_false,Bool.not_true,Bool.not_false,true_and,and_true,Nat.reduceAdd,Nat.reduceSub,Nat.zero_add,exists_eq_left'])
local macro_rules | `(tactic| walk_at "v") => `(tactic| repeat (first|with_reducible refine useq ?_|walk_at "vs" | ((with_reducible refine gdIx ?_); first|refine vd rfl ?_|refine vd at0 ?_|refine vd at1 ?_|refine ixt_at rfl ?_)|((with_reducible refine gdT2 ?_); refine t2_at rfl ?_)|((with_reducible refine gdT3 ?_); refine t3_at rfl ?_)|((with_reducible refine gdMe ?_); first|refine me_at rfl ?_|refine me_at K1 ?_)|((with_reducible refine gdLen ?_); first|refine J8 rfl ?_|refine J8 K1 ?_)))
abbrev jI:Stmt:=top 39
theorem Jb:FnScope ["found", "due"] ["found", "due"] (qc jI):=⟨rfl,rfl,rfl,by decide +kernel,rfl,by decide +kernel,by decide +kernel⟩
theorem ndAlike1:(["found", "due", "k"]:List Str).Nodup:=by decide +kernel
def flatA:V->Bool
 |.non=>true
 |.bl _=>true
 |.int _=>true
 |.str _=>true
 |_=>false
def AL (H:Hp):Nat->V->V->Prop
 |0,_,_=>False
 |n+1,x,y=>(x=y/\flatA x=true)\/∃(p q:Addr) (xs ys:List V),x=.ref p/\y=.ref q/\((H p=some (.lst xs)/\H q=some (.lst ys))\/(H p=some (.tup xs)/\H q=some (.tup ys)))/\xs.length=ys.length/\xs.length<=10000000/\∀(j:Nat) (x y:V),xs[j]?=some x->ys[j]?=some y->AL H n x y
theorem AL.same {H H':Hp} (s:Same H H'):∀{n:Nat} {x y:V},AL H n x y->AL H' n x y
 |0,_,_,h=>h
 |n+1,_,_,h=>by
  rcases h with h|⟨p,q,xs,ys,e1,e2,h,l1,l2,k⟩
  ·exact .inl h
  ·refine .inr ⟨p,q,xs,ys,e1,e2, ?_,l1,l2,fun j x y a b=>(k j x y a b).same s⟩
   rcases h with⟨h1,h2⟩|⟨h1,h2⟩
   ·exact .inl ⟨s _ _ h1,s _ _ h2⟩
   ·exact .inr ⟨s _ _ h1,s _ _ h2⟩
def Qn (n:Nat):Sp:=fun vs H Q _=>∃x y:V,vs=[x,y]/\AL H n x y/\∀H',Same H H'->Q (.bl true) H'
theorem ty_flat {K:PySem.W.Frag} {H:Hp} {v:V} (h:flatA v=true):∃t,TyOf K H v (.type t)/\PySem.W.kitAny K (.type t) [.type "list", .type "tuple"]=some false/\∃b i s,PySem.W.kitOne K (.type t) (.type "bool")=some b/\PySem.W.kitOne K (.type t) (.type "int")=some i/\PySem.W.kitOne K (.type t) (.type "str")=some s:=by
 cases v with
 |non=>exact⟨_,TyOf.non,rfl,_,_,_,rfl,rfl,rfl⟩
 |bl b=>exact⟨_,TyOf.bl b,rfl,_,_,_,rfl,rfl,rfl⟩
 |int i=>exact⟨_,TyOf.int i,rfl,_,_,_,rfl,rfl,rfl⟩
 |str s=>exact⟨_,TyOf.str s,rfl,_,_,_,rfl,rfl,rfl⟩
 |_=>cases h
theorem ixA_at {H:Hp} {p:Addr} {xs:List V} {i:Int} {v:V} {Q:VK} (h:SqL K H p xs\/SqT K H p xs) (e:atI xs i=some v) (q:Q v H):rIxA K (.ref p) (.int i) H Q :=
 h.elim (fun h=>.inl ⟨p,xs,i,v,rfl,rfl,h,e,q⟩) fun h=>.inr ⟨p,xs,i,v,rfl,rfl,h,e,q⟩
theorem jf {n:Nat} {f:Addr} {fd:FuncData} (F:Fun K "_law_alike" "_law_alike" jI f fd) (N:Nms mg) (DAlike:Def P w K mg base "_law_alike" (n+1) ["found", "due"] (Qn n)):FnOk P w K mg base CX0 (n+2) f fd ["found", "due"] (Qn (n+1)):=by
 refine F.okQ Jb (fun vs H Q E h=>?_) (fun cdv A outer s H vs Q E hr h=>?_)
 ·obtain⟨_,_,rfl,_⟩:=h
  rfl
 ·obtain⟨x,y,rfl,hA,k⟩:=h
  refine⟨_,(qg (vG (ko (qr (VJ (K:=K) rfl) (by rfl) N.isinstance qK (qa_c (qv 1) (qa_c (zG (qa_c (vV (v:=.ty "list") (by rfl) N.list Xv rfl) (qa_c (vV (v:=.ty "tuple") (by rfl) N.tuple KS rfl) qd))) qd))))
   (qg (vG (kn (jT (kq (ko (qr (VJ (K:=K) rfl) (by rfl) N.isinstance qK (qa_c (qv 0) (qa_c (zG (qa_c (vV (v:=.ty "list") (by rfl) N.list Xv rfl) (qa_c (vV (v:=.ty "tuple") (by rfl) N.tuple KS rfl) qd))) qd))))) (jL (qt jU (qr (v6 (K:=K) rfl) (by rfl) N.isinstance qK (qa_c (qv 0) (qa_c (vV (v:=.ty "list") (by rfl) N.list Xv rfl) qd))) (qr (v6 (K:=K) rfl) (by rfl) N.isinstance qK (qa_c (qv 1) (qa_c (vV (v:=.ty "list") (by rfl) N.list Xv rfl) qd))) (qF _)))))
    (qp (qM Vk))
    qQ)
   (qg (vG (qt jU (qr (jB (K:=K) rfl) (by rfl) N.len zb (qa_c (qv 0) qd)) (qr (jB (K:=K) rfl) (by rfl) N.len zb (qa_c (qv 1) qd)) (qF _))
    (qp (qM Vk))
    qQ)
   (qp (qM (qr (Xq rfl) (by rfl) N.all b_all (qa_c (kr [true,true] ["k"] (vH rfl N.range (qa_c (qr (jB (K:=K) rfl) (by rfl) N.len zb (qa_c (qv 1) qd)) qd)) (fun _ _ _=>(qV (i:=2) ndAlike1 rfl (Or.inl rfl))) (fun _ _ _=>v7) (fun _ _ _=>(qB DAlike (hr.mono (by first|decide|exact Nat.le_refl _)) (qa_c (qD (Kc (K:=K) rfl) (qv 0) (qv 2) (fun _ _=>rfl)) (qa_c (qD (Kc (K:=K) rfl) (qv 1) (qv 2) (fun _ _=>rfl)) qd))))) qd))))))
   qQ)
  (qg (vG (kn (jT (qt jU (qr (v6 (K:=K) rfl) (by rfl) N.isinstance qK (qa_c (qv 0) (qa_c (vV (v:=.ty "bool") (by rfl) N.bool b_bool rfl) qd))) (qr (v6 (K:=K) rfl) (by rfl) N.isinstance qK (qa_c (qv 1) (qa_c (vV (v:=.ty "bool") (by rfl) N.bool b_bool rfl) qd))) (qF _)) (jL (qt jU (qr (v6 (K:=K) rfl) (by rfl) N.isinstance qK (qa_c (qv 0) (qa_c (vV (v:=.ty "int") (by rfl) N.int XS rfl) qd))) (qr (v6 (K:=K) rfl) (by rfl) N.isinstance qK (qa_c (qv 1) (qa_c (vV (v:=.ty "int") (by rfl) N.int XS rfl) qd))) (qF _)))))
   (qp (qM Vk))
   qQ)
  (qp (qM (Jq (xm vW (qr (v6 (K:=K) rfl) (by rfl) N.isinstance qK (qa_c (qv 0) (qa_c (vV (v:=.ty "str") (by rfl) N.str ZC rfl) qd))) (qr (v6 (K:=K) rfl) (by rfl) N.isinstance qK (qa_c (qv 1) (qa_c (vV (v:=.ty "str") (by rfl) N.str ZC rfl) qd))) (qF _)) (Jo (xm vW (qv 0) (qv 1) (qF _)))))))), ?_⟩
  walk_at "go"
  refine⟨by decide,fun p1 hp1=>?_⟩
  walk_at "go"
  have s1:Same H (upd H p1 (.tup [.ty "list", .ty "tuple"])):=(Same.refl H).upd hp1
  rcases hA with⟨rfl,hf⟩|⟨p,q,xs,ys,rfl,rfl,h,l1,l2,kk⟩
  ·obtain⟨t,ty,e1,b,i,st,e2,e3,e4⟩:=ty_flat (K:=K) (H:=upd H p1 (.tup [.ty "list", .ty "tuple"])) hf
   refine⟨x,p1, ["list", "tuple"],t,false,rfl,upd_same,ty,e1, ?_⟩
   walk_at "go"
   refine jP ty e2 ?_
   refine jP ty e2 ?_
   walk_at "go"
   refine ite2 (fun hh=>absurd hh (by simp)) (fun _=>?_)
   refine jP ty e3 ?_
   refine jP ty e3 ?_
   walk_at "go"
   refine ite2 (fun hh=>absurd hh (by simp)) (fun _=>?_)
   refine jP ty e4 ?_
   refine jP ty e4 ?_
   walk_at "go"
   have hq:=k _ s1
   cases x with
   |non=>exact Kv rfl (by simpa[eqV] using hq)
   |bl b=>exact Kv rfl (by simpa[eqV] using hq)
   |int b=>exact Kv rfl (by simpa[eqV] using hq)
   |str b=>exact Kv rfl (by simpa[eqV] using hq)
   |_=>cases hf
  ·obtain⟨t,bl,tys,e1,e2⟩:∃(t:String) (bl:Bool),(∀H',Same H H'->TyOf K H' (.ref p) (.type t)/\TyOf K H' (.ref q) (.type t)/\(SqL K H' p xs\/SqT K H' p xs)/\(SqL K H' q ys\/SqT K H' q ys))/\PySem.W.kitAny K (.type t) [.type "list", .type "tuple"]=some true/\PySem.W.kitOne K (.type t) (.type "list")=some bl:=by
    rcases h with⟨h1,h2⟩|⟨h1,h2⟩
    ·exact⟨"list", true,(fun H' s=>⟨TyOf.lst (s _ _ h1),TyOf.lst (s _ _ h2), .inl (SqL.of (s _ _ h1)), .inl (SqL.of (s _ _ h2))⟩),rfl,rfl⟩
    ·exact⟨"tuple", false,(fun H' s=>⟨TyOf.tup (s _ _ h1),TyOf.tup (s _ _ h2), .inr (SqT.of (s _ _ h1)), .inr (SqT.of (s _ _ h2))⟩),rfl,rfl⟩
   refine⟨_,p1, ["list", "tuple"],t,true,rfl,upd_same,(tys _ s1).2.1,e1, ?_⟩
   walk_at "go"
   refine⟨by decide,fun p2 hp2=>?_⟩
   walk_at "go"
   have s2:=s1.trans ((Same.refl _).upd (o:=.tup [.ty "list", .ty "tuple"]) hp2)
   refine⟨_,p2, ["list", "tuple"],t,true,rfl,upd_same,(tys _ s2).1,e1, ?_⟩
   walk_at "go"
   refine ite2 (fun hh=>absurd hh (by decide)) (fun _=>?_)
   refine jP (tys _ s2).1 e2 ?_
   refine jP (tys _ s2).2.1 e2 ?_
   walk_at "go"
   refine ite2 (fun hh=>absurd hh (by simp)) (fun _=>?_)
   refine⟨p,xs,rfl,(tys _ s2).2.2.1, ?_⟩
   refine⟨q,ys,rfl,(tys _ s2).2.2.2, ?_⟩
   walk_at "go"
   refine ite2 (fun hh=>absurd hh (by simp[l1])) (fun _=>?_)
   refine⟨q,ys,rfl,(tys _ s2).2.2.2, ?_⟩
   refine rg_at (by omega) (by omega) ?_
   intro acc hacc
   generalize upd (upd H p1 (.tup [.ty "list", .ty "tuple"])) p2 (.tup [.ty "list", .ty "tuple"])=Hc at s2 hacc ⊢
   refine XQ (fun i H3=>Same Hc H3/\H3 acc=some (.lst ((List.replicate i true).map V.bl))) ?_ ?_ ?_
   ·exact⟨(Same.refl Hc).upd hacc,upd_same⟩
   ·rintro i H3 hi ⟨s3,e3⟩
    walk_at "go"
    have hi1:i<ys.length:=by omega
    have hi2:i<xs.length:=by omega
    have g1:xs[i]?=some xs[i]:=List.getElem?_eq_getElem hi2
    have g2:ys[i]?=some ys[i]:=List.getElem?_eq_getElem hi1
    have s13:=s2.trans s3
    rw[Int.zero_add]
    refine⟨⟨by(repeat (first|exact ExtS.nl|refine ExtS.sm ?_|refine ExtS.no ?_)),trivial⟩,ixA_at (tys _ s13).2.2.1 (v8 g1) (ixA_at (tys _ s13).2.2.2 (v8 g2) ?_)⟩
    refine⟨_,_,rfl,(kk i _ _ g1 g2).same s13,fun H6 s6=>?_⟩
    refine⟨_,s6 _ _ e3, ?_,(s3.trans s6).upd hacc, ?_⟩
    ·rw[List.length_map,List.length_replicate]
     have:10000000<sizeLine:=by decide
     omega
    ·rw[upd_same]
     have:(V.bl true::List.map V.bl (List.replicate i true))=List.map V.bl (List.replicate i true)++[V.bl true]:=by
      rw[List.map_replicate, <-List.replicate_succ,List.replicate_succ']
     rw[this]
   ·rintro H3 ⟨s3,e3⟩
    refine⟨acc,List.replicate (Int.toNat ys.length) true,rfl,e3, ?_⟩
    have:(List.replicate (Int.toNat ys.length) true).all id=true:=by simp
    rw[this]
    exact k H3 (s2.trans s3)
theorem JO {f:Addr} {fd:FuncData} (F:Fun K "_law_alike" "_law_alike" jI f fd):FnOk P w K mg base CX0 1 f fd ["found", "due"] (Qn 0):=by
 refine F.okQ Jb (fun vs H Q E h=>?_) (fun cdv A outer s H vs Q E hr h=>?_)
 ·obtain⟨_,_,_,h,_⟩:=h
  exact h.elim
 ·obtain⟨_,_,_,h,_⟩:=h
  exact h.elim
def depT:Nat->T->Prop
 |0,_=>False
 |n+1, .tup xs=>xs.length<=10000000/\∀x∈xs,depT n x
 |n+1, .lst xs=>xs.length<=10000000/\∀x∈xs,depT n x
 |_+1,_=>True
def Kt (n:Nat):List T->(T->Prop)->Prop:=fun ts Q=>∃t,ts=[t,t]/\depT n t/\Q (.bl true)
theorem al_of {A:Addr->Prop} {H:Hp}:∀{n:Nat} {t:T} {x y:V},depT n t->RepT A H x t->RepT A H y t->AL H n x y
 |0,_,_,_,h,_,_=>h.elim
 |n+1, .non,_,_,_, .non, .non=>.inl ⟨rfl,rfl⟩
 |n+1, .bl b,_,_,_, .bl _, .bl _=>.inl ⟨rfl,rfl⟩
 |n+1, .int b,_,_,_, .int _, .int _=>.inl ⟨rfl,rfl⟩
 |n+1, .str b,_,_,_, .str _, .str _=>.inl ⟨rfl,rfl⟩
 |n+1, .tup xs,x,y,h,r1,r2=>by
  obtain⟨p,vs,rfl,_,h1,q1⟩:=r1.tup_inv
  obtain⟨p2,vs2,rfl,_,h2,q2⟩:=r2.tup_inv
  refine .inr ⟨p,p2,vs,vs2,rfl,rfl, .inr ⟨h1,h2⟩,by rw[q1.len,q2.len],by rw[q1.len]; exact h.1,fun j a b ha hb=>?_⟩
  obtain⟨t,ht,rt⟩:=Paired.getL q1 ha
  obtain⟨t',ht',rt'⟩:=Paired.getL q2 hb
  rw[ht] at ht'; cases ht'
  exact al_of (h.2 t (List.mem_of_getElem? ht)) rt rt'
 |n+1, .lst xs,x,y,h,r1,r2=>by
  obtain⟨p,vs,rfl,_,h1,q1⟩:=r1.lst_inv
  obtain⟨p2,vs2,rfl,_,h2,q2⟩:=r2.lst_inv
  refine .inr ⟨p,p2,vs,vs2,rfl,rfl, .inl ⟨h1,h2⟩,by rw[q1.len,q2.len],by rw[q1.len]; exact h.1,fun j a b ha hb=>?_⟩
  obtain⟨t,ht,rt⟩:=Paired.getL q1 ha
  obtain⟨t',ht',rt'⟩:=Paired.getL q2 hb
  rw[ht] at ht'; cases ht'
  exact al_of (h.2 t (List.mem_of_getElem? ht)) rt rt'
theorem qY {p:Prop} [Decidable p] {a b:Prop} (h:¬p) (q:b):if p then a else b:=by rw[if_neg h]; exact q
theorem qI {p:Prop} [Decidable p] {a b:Prop} (h:p) (q:a):if p then a else b:=by rw[if_pos h]; exact q
def figL (l:List Nat):List Nat:=if l.head?=some 45 then l.tail else l
def digs:List Nat:=[48,49,50,51,52,53,54,55,56,57]
def xL (l:List Nat) (m:Int):Prop:=figL l≠[]/\((figL l).length:Int)<=m/\(∀c∈figL l,c∈digs)/\¬((figL l).head?=some 48/\1<l.length)
theorem j7:(("0123456789" : Str)).cps.toList=digs:=by decide +kernel
theorem Q0:(("-" : Str)).cps.toList=[45]:=by decide +kernel
theorem Qg:(("0" : Str)).cps.toList=[48]:=by decide +kernel
theorem qX {t:Str}:t.length=t.cps.toList.length:=by simp[Str.length]
theorem str_ext {a b:Str}:a=b↔a.cps.toList=b.cps.toList:=⟨fun h=>by rw[h],fun h=>Str.ext' (Array.toList_inj.mp h)⟩
theorem V2 {t:Str}:Txt.startswith t "-" = decide (t.cps.toList.head?=some 45):=by
 unfold Txt.startswith
 rw[StrLaws.subAt_eq,qX (t:=t),qX (t := "-"),Q0]
 cases t.cps.toList with
 |nil=>rfl
 |cons c r =>
  by_cases h:c=45
  ·subst h; simp
  ·simp[h]
theorem kP {t:Str} (h:1<=t.cps.toList.length):(Txt.slice t (some 1) none).cps.toList=t.cps.toList.tail:=by
 have hl:=qX (t:=t)
 rw[PyProof.Rows.slice_from_eq (x:=t) (i:=1) (b:=t.length) (by decide) (by omega) rfl]
 show(t.cps.toList.drop 1).take _=_
 rw[List.drop_one,List.take_of_length_le]
 rw[List.length_tail]
 omega
theorem slice_one {t:Str}:(Txt.slice t none (some 1) = "-")=(t.cps.toList.head?=some 45):=by
 by_cases h:1<=t.cps.toList.length
 ·have e:=PyProof.Rows.slice_closes_to (x:=t) (j:=1) ⟨by decide,by exact_mod_cast h⟩
  rw[beq_iff_eq] at e
  rw[e,str_ext,Q0]
  show(((t.cps.toList.drop 0).take 1)=[45])=_
  cases t.cps.toList with
  |nil=>simp
  |cons c r=>simp
 ·have e:t.cps.toList=[]:=by
   cases q:t.cps.toList with
   |nil=>rfl
   |cons c r=>rw[q] at h; simp at h
  have z:=Txt.slice_le t none (some 1)
  rw[qX,qX,e] at z
  have z2:(Txt.slice t none (some 1)).cps.toList=[]:=List.length_eq_zero_iff.mp (by simpa using z)
  rw[str_ext,z2,e,Q0]
  simp
theorem KY {l:List Nat} (h:∀c∈l,c∈digs):NumText.AllDigits l:=fun c hc=>by
 have:=h c hc
 simp[digs] at this
 omega
theorem QQ {t:Str} {m:Int} (h:xL t.cps.toList m) (hl:t.length<=640):∃i,PySem.intText? t=some i:=by
 obtain⟨h1,_,h2,_⟩:=h
 by_cases hs:t.cps.toList.head?=some 45
 ·unfold figL at h1 h2
  rw[if_pos hs] at h1 h2
  cases e:t.cps.toList with
  |nil=>rw[e] at hs; cases hs
  |cons c r =>
   rw[e] at hs h1 h2
   cases hs
   exact⟨_,intText_neg e (KY h2) h1 (by omega)⟩
 ·unfold figL at h1 h2
  rw[if_neg hs] at h1 h2
  exact⟨_,intText_digits (KY h2) h1 (by omega)⟩
theorem jV {t:Str} (h:(figL t.cps.toList).head?=some 48):(t = "0")↔¬1<t.cps.toList.length:=by
 rw[str_ext,Qg]
 unfold figL at h
 cases e:t.cps.toList with
 |nil=>rw[e] at h; simp at h
 |cons c r =>
  rw[e] at h
  cases r with
  |nil =>
   by_cases hc:c=45
   ·subst hc; simp at h
   ·simp[hc] at h
    simp[h]
  |cons d r=>simp
theorem jW {c:Nat} (h:(⟨#[c]⟩:Str) = "0"):c=48:=by
 have:=str_ext.mp h
 rw[Qg] at this
 simpa using this
theorem j6 {c:Nat} (h:c=48):(⟨#[c]⟩:Str) = "0" := by
 subst h
 exact str_ext.mpr (by rw[Qg])
abbrev vT:Stmt:=top 13
theorem Vi:FnScope ["text", "signs"] ["text", "signs"] (qc vT):=⟨rfl,rfl,rfl,by decide +kernel,rfl,by decide +kernel,by decide +kernel⟩
theorem QL:(["text", "signs", "sign"]:List Str).Nodup:=by decide +kernel
local macro_rules | `(tactic| walk_at "vx") => `(tactic| simp only[z0,jm,jR,zQ,zj,uTry,zC,zZ,ke,kg,endX,uAsG,xj,xf,km,xl,zl,vE,xi,xk,zm,vm])
local macro_rules | `(tactic| walk_at "pk") => `(tactic| (walk_at "v"; repeat ((first|walk_at "vx" |refine qY (by decide) ?_|refine qI rfl ?_); walk_at "v")))
theorem all_is {l:List Nat} {s:List Nat}:(l.map fun c=>decide (c∈s)).all id=decide (∀c∈l,c∈s):=by
 rw[Bool.eq_iff_iff,decide_eq_true_iff,List.all_eq_true]
 simp
def ji:List T->(T->Prop)->Prop:=fun ts Q=>∃t s:Str,ts=[.str t, .str s]/\t.length<=1000/\Q (.bl (decide (∀c∈t.cps.toList,c∈s.cps.toList)))
theorem Vo {f:Addr} {fd:FuncData} (F:Fun K "consists_of" "consists_of" vT f fd) (N:Nms mg):FnOk P w K mg base CX0 1 f fd ["text", "signs"] (spP ji):=by
 refine F.zP Vi (fun ts Qt h=>?_) (fun cdv A outer s H E hr=>?_)
 ·obtain⟨_,_,rfl,_⟩:=h
  rfl
 refine⟨_,(qp (qM (qr (Xq rfl) (by rfl) N.all b_all (qa_c (kr [false,true] ["sign"] (Jn (qv 0)) (fun _ _ _=>(qV (i:=2) QL rfl (Or.inl rfl))) (fun _ _ _=>v7) (fun _ _ _=>(xm op_inX (qv 2) (qv 1) (by with_unfolding_all rfl)))) qd)))),_,(qU (zW cbl_all (qa (zr (KG (qb 0)) (vy 2) xN (qk Zf (qb 2) (qb 1))) qf))),fun ts Qt h=>?_⟩
 obtain⟨t,s,rfl,hl,k⟩:=h
 walk_at "pk"
 have hz:t.cps.size<=sizeLine:=Nat.le_trans hl (by decide)
 refine xW hz (fun i acc M=>M=[]/\acc=((t.cps.toList.take i).map fun c=>T.bl (decide (c∈s.cps.toList)))) ⟨rfl,rfl⟩ (fun i c acc M2 hc hl2 hI=>?_) (fun acc M2 hI=>?_)
 ·obtain⟨rfl,rfl⟩:=hI
  walk_at "pk"
  obtain⟨hi,rfl⟩:=List.getElem?_eq_some_iff.mp hc
  rw[List.take_add_one,List.map_append,List.getElem?_eq_getElem hi]
  rfl
 ·obtain⟨rfl,rfl⟩:=hI
  walk_at "pk"
  rw[List.take_of_length_le (by simp)]
  refine⟨_,(t.cps.toList.map fun c=>decide (c∈s.cps.toList)),rfl,by rw[<-KP,List.map_map]; rfl, ?_⟩
  rw[all_is]
  exact k
abbrev zc:Stmt:=top 14
theorem scReadWhole:FnScope ["text", "most", "figures"] ["text", "most"] (qc zc):=⟨rfl,rfl,rfl,by decide +kernel,rfl,by decide +kernel,by decide +kernel⟩
def nt (n:Int):Str:=Str.ofString (toString n)
theorem nt_cps (n:Int):(nt n).cps.toList=(if n<0 then[45] else[])++(Nat.toDigits 10 n.natAbs).map Char.toNat:=by
 cases n with
 |ofNat m =>
  rw[if_neg (by simp)]
  exact PySem.W.KIN.signs_num m
 |negSucc m =>
  rw[if_pos (Int.negSucc_lt_zero m)]
  unfold nt
  rw[signs_ofString]
  show("-" ++ Nat.repr (m+1)).toList.map Char.toNat=_
  rw[String.toList_append,List.map_append,Nat.toList_repr]
  rfl
theorem Ky (m:Nat):NumText.AllDigits ((Nat.toDigits 10 m).map Char.toNat):=fun c hc=>by
 obtain⟨ch,hch,e⟩:=List.mem_map.mp hc
 have r:=digit_range (Nat.isDigit_of_mem_toDigits (by decide) (by decide) hch)
 rw[<-e]
 exact r
theorem dig_ne (m:Nat):(Nat.toDigits 10 m).map Char.toNat≠[]:=fun e=>by
 have h:=PyProof.Rows.tDigits_len_ge 10 m
 rw[List.map_eq_nil_iff.mp e] at h
 exact absurd h (by decide)
theorem dig_head (m:Nat):((Nat.toDigits 10 m).map Char.toNat).head?=some 48->((Nat.toDigits 10 m).map Char.toNat).length<=1:=fun h=>by
 have e:=NumText.toDigits_all _ (Ky m)
 rw[PySem.W.KIN.val_back] at e
 cases q:(Nat.toDigits 10 m).map Char.toNat with
 |nil=>simp
 |cons c r =>
  rw[q] at h e
  cases h
  have hl:=congrArg List.length q
  rw[List.length_map] at hl
  rw[List.dropWhile_cons_of_pos (by decide)] at e
  rw[e] at hl
  revert hl
  have hd:=(List.dropWhile_sublist (l:=r) (· == 48)).length_le
  cases z:r.dropWhile (· == 48) with
  |nil=>intro hl; simp at hl ⊢; omega
  |cons a b=>rw[z] at hd; intro hl; simp at hl hd ⊢; omega
theorem zM {n:Int} (h:n.natAbs<10^60):xL (nt n).cps.toList 60/\(nt n).length<=61/\PySem.intText? (nt n)=some n:=by
 have hl:=PyProof.Rows.digits10_le (k:=60) (by decide) h
 have hd:=Ky n.natAbs
 have hne:=dig_ne n.natAbs
 have hh:=dig_head n.natAbs
 have hv:=PySem.W.KIN.val_back n.natAbs
 have e:=nt_cps n
 have hL:(nt n).length<=61:=by
  rw[qX,e,List.length_append,List.length_map]
  split<;>simp<;>omega
 have hm:∀c∈(Nat.toDigits 10 n.natAbs).map Char.toNat,c∈digs:=fun c hc=>by
  have:=hd c hc
  simp only[digs,List.mem_cons,List.not_mem_nil,or_false]
  omega
 have hl':((Nat.toDigits 10 n.natAbs).map Char.toNat).length<=60:=by rw[List.length_map]; exact hl
 generalize(Nat.toDigits 10 n.natAbs).map Char.toNat=ds at *
 by_cases hn:n<0
 ·rw[if_pos hn,List.singleton_append] at e
  have ef:figL (nt n).cps.toList=ds:=by rw[e]; rfl
  refine⟨⟨by rw[ef]; exact hne,by rw[ef]; omega,by rw[ef]; exact hm,fun z=>?_⟩,hL, ?_⟩
  ·rw[ef] at z
   have:=hh z.1
   cases ds with
   |nil=>exact hne rfl
   |cons c r =>
    cases r with
    |nil =>
     simp at z
     rw[z.1] at hv
     have:n.natAbs=0:=by rw[<-hv]; rfl
     omega
    |cons=>simp at this
  ·rw[intText_neg e hd hne (by omega),hv]
   congr 1
   omega
 ·rw[if_neg hn,List.nil_append] at e
  have h45:ds.head?≠some 45:=by
   cases ds with
   |nil=>simp
   |cons c r =>
    intro z
    cases z
    have:=hd 45 (by simp)
    omega
  have ef:figL (nt n).cps.toList=ds:=by rw[e]; unfold figL; rw[if_neg h45]
  refine⟨⟨by rw[ef]; exact hne,by rw[ef]; omega,by rw[ef]; exact hm,fun z=>?_⟩,hL, ?_⟩
  ·rw[ef,e] at z
   have:=hh z.1
   omega
  ·rw[intText_digits (by rw[e]; exact hd) (by rw[e]; exact hne) (by omega),e,hv]
   congr 1
   omega
theorem QF {n:Int} {c:Nat} (hc:c≠45/\(c<48\/57<c)):c∉(nt n).cps.toList:=PyProof.Rows.int_text_free' c hc n
abbrev Mk3:=Str×Int×Int
def zA (m:Mk3):T:=.tup [.str m.1, .int m.2.1, .int m.2.2]
theorem sp_is:(" " : Str)=⟨#[32]⟩:=by decide +kernel
theorem nl_is:("\n" : Str)=⟨#[10]⟩:=by decide +kernel
theorem kO:(" " : Str).length=1:=by decide +kernel
def hrw (h:Str) (zs:List Str):Str:=Txt.join " " (h::zs)
def txt1:T->Str
 |.int i=>nt i
 |.str z=>z
 |_ => ""
def PtOk (t:T):Prop:=(∃i,t=.int i/\i.natAbs<10^60)\/∃z,t=.str z/\z.length<=100
theorem XJ {i:Int} (h:i.natAbs<10^60):i.natAbs.log2<1920:=by
 by_cases z:i.natAbs=0
 ·rw[z]; decide
 ·exact(Nat.log2_lt z).mpr (Nat.lt_of_lt_of_le h (Nat.le_trans (m:=2^200) (by decide) (Nat.pow_le_pow_right (by decide) (by decide))))
theorem PtOk.len {t:T} (h:PtOk t):(txt1 t).length<=100:=by
 rcases h with⟨i,rfl,h⟩|⟨z,rfl,h⟩
 ·have:=(zM h).2.1
  show(nt i).length<=100
  omega
 ·exact h
theorem PtOk.str {t:T} (h:PtOk t) {Q:T->Prop} (q:Q (.str (txt1 t))):sStrX [t] Q:=by
 rcases h with⟨i,rfl,h⟩|⟨z,rfl,h⟩
 ·exact .inl ⟨i,rfl,XJ h,q⟩
 ·exact .inr ⟨z,rfl,q⟩
theorem sum_le {l:List Nat} {n:Nat} (h:∀x∈l,x<=n):l.sum<=l.length*n:=by
 induction l with
 |nil=>simp
 |cons a l ih =>
  have h1:=h a (by simp)
  have h2:=ih fun x hx=>h x (by simp[hx])
  simp only[List.sum_cons,List.length_cons,Nat.add_mul]
  omega
theorem kA {l:List Str} {n:Nat} (h:∀x∈l,x.length<=n):(l.map (·.length)).sum<=l.length*n:=by
 have:=sum_le (l:=l.map (·.length)) (n:=n) fun x hx=>by obtain⟨y,hy,rfl⟩:=List.mem_map.mp hx; exact h y hy
 rwa [List.length_map] at this
theorem jn {α:Type} {l:List α} {i:Nat} {x:α} (h:l[i]?=some x):l.take (i+1)=l.take i++[x]:=by rw[List.take_add_one,h]; rfl
structure Im where
 bits:Int
 ms:List Mk3
 room:Int
 ws:List Int
 os:List Int
def lettersN:List Nat:=[97,98,99,100,101,102,103,104,105,106,107,108,109,110,111,112,113,114,115,116,117,118,119,120,121,122]
theorem QM:(("abcdefghijklmnopqrstuvwxyz" : Str)).cps.toList=lettersN:=by decide +kernel
def KdOk (k:Str):Prop:=1<=k.length/\k.length<=8/\∀c∈k.cps.toList,c∈lettersN
structure ImOk (im:Im):Prop where
 b:im.bits.natAbs<10^60
 r:im.room.natAbs<10^60
 ml:im.ms.length<=400
 wl:im.ws.length<=400
 ol:im.os.length<=400
 m:∀m∈im.ms,KdOk m.1/\m.2.1.natAbs<10^60/\m.2.2.natAbs<10^60
 w:∀x∈im.ws,x.natAbs<10^60
 o:∀x∈im.os,x.natAbs<10^60
def layT (bits:Int) (ms:List Mk3):T:=.tup [.int bits, .lst (ms.map zA)]
def imT (im:Im):T:=.tup [layT im.bits im.ms, .int im.room,vx im.ws,vx im.os]
def mkS (m:Mk3):Str:=hrw "mark" [m.1,nt m.2.1,nt m.2.2]
def xO (im:Im):List Str:=hrw "laying" [nt im.bits]::(im.ms.map mkS++[hrw "room" [nt im.room],hrw "words" (im.ws.map nt),hrw "outside" (im.os.map nt)])
def imS (im:Im):Str:=Txt.join "\n" (xO im)
theorem Zo {h:Str} {zs:List Str} (hh:h.length<=100) (hz:∀z∈zs,z.length<=100):(hrw h zs).length<=(zs.length+1)*101:=by
 have h1:=Vy (y := " ") (l:=h::zs)
 have h2:=kA (l:=h::zs) (n:=100) fun x hx=>by
  rcases List.mem_cons.mp hx with rfl|z
  ·exact hh
  ·exact hz x z
 rw[kO] at h1
 unfold hrw
 simp only[List.length_cons] at h1 h2 ⊢
 omega
theorem JQ {l:List Int} (h:∀x∈l,x.natAbs<10^60):∀z∈l.map nt,z.length<=100:=fun z hz=>by
 obtain⟨x,hx,rfl⟩:=List.mem_map.mp hz
 have:=(zM (h x hx)).2.1
 omega
theorem JK {n:Int} {k:Str} (hn:n.natAbs<10^60) (hk:k.length<=100):(hrw k [nt n]).length<=202:=Zo hk fun z hz=>by rw[List.mem_singleton.mp hz]; have:=(zM hn).2.1; omega
theorem ImOk.mk_len {im:Im} (h:ImOk im) {m:Mk3} (hm:m∈im.ms):(mkS m).length<=404:=by
 obtain⟨a,b,c⟩:=h.m m hm
 refine Zo (by decide +kernel) (fun z hz=>?_)
 have:=(zM b).2.1
 have:=(zM c).2.1
 have:=a.2.1
 simp only[List.mem_cons,List.not_mem_nil,or_false] at hz
 rcases hz with rfl|rfl|rfl<;>omega
theorem Z6 {l:List Int} {k:Str} (h:∀x∈l,x.natAbs<10^60) (hl:l.length<=400) (hk:k.length<=100):(hrw k (l.map nt)).length<=40501:=by
 have:=Zo hk (JQ h)
 rw[List.length_map] at this
 omega
theorem JU:("\n" : Str).length=1:=by decide +kernel
theorem ImOk.fits {im:Im} (h:ImOk im):((xO im).map (·.length)).sum+(xO im).length*("\n" : Str).length<=300000:=by
 have h1:=kA (l:=im.ms.map mkS) (n:=404) fun x hx=>by obtain⟨m,hm,rfl⟩:=List.mem_map.mp hx; exact h.mk_len hm
 have h2:=JK (k := "laying") h.b (by decide +kernel)
 have h3:=JK (k := "room") h.r (by decide +kernel)
 have h4:=Z6 (k := "words") h.w h.wl (by decide +kernel)
 have h5:=Z6 (k := "outside") h.o h.ol (by decide +kernel)
 have h6:=h.ml
 rw[JU]
 rw[List.length_map] at h1
 have h7:im.ms.length*404<=400*404:=Nat.mul_le_mul_right _ h6
 simp only[xO,List.map_cons,List.map_append,List.map_nil,List.sum_cons,List.sum_append,List.sum_nil,List.length_cons,List.length_append,List.length_map,List.length_nil]
 omega
def Qm (zs:List Str):MO:=.lst ((zs.map T.str).map U.p)
theorem sns1 {M:MM} {k:Nat} {zs:List T} {R:List T->Prop} (e:M[k]?=some (.lst (zs.map U.p))) (q:R [.lst zs]):SnsS M [.m k] R:=⟨_,by simp[sns,sn,e,zH],q⟩
def Km:List T->(T->Prop)->Prop:=fun ts Q=>∃im:Im,ts=[imT im]/\ImOk im/\Q (.str (imS im))
theorem cut1 {x:T} {xs:List T}:cutT (x::xs) (some 1) none=xs:=by
 have e1:HT.sIx (x::xs).length 0 (some 1)=1:=by
  unfold HT.sIx
  simp
 have e2:HT.sIx (x::xs).length (x::xs).length none=(x::xs).length:=rfl
 unfold cutT
 rw[e1,e2]
 simp
theorem let_free {k:Str} (h:KdOk k) {c:Nat} (hc:c∉lettersN):c∉k.cps.toList:=fun z=>hc (h.2.2 c z)
theorem QK {h:Str} {zs:List Str} (hh:10∉h.cps.toList) (hz:∀z∈zs,10∉z.cps.toList):10∉(hrw h zs).cps.toList:=by
 unfold hrw
 refine Ka (by decide +kernel) fun z hz'=>?_
 rcases List.mem_cons.mp hz' with rfl|y
 ·exact hh
 ·exact hz z y
theorem nts_nl {l:List Int}:∀z∈l.map nt,10∉z.cps.toList:=fun z hz=>by
 obtain⟨x,_,rfl⟩:=List.mem_map.mp hz
 exact QF ⟨by decide,by decide⟩
theorem ImOk.nl {im:Im} (h:ImOk im):∀z∈xO im,10∉z.cps.toList:=fun z hz=>by
 unfold xO at hz
 have one:∀{n:Int} {k:Str},10∉k.cps.toList->10∉(hrw k [nt n]).cps.toList:=fun hk=>QK hk fun z hz=>by rw[List.mem_singleton.mp hz]; exact QF ⟨by decide,by decide⟩
 rcases List.mem_cons.mp hz with rfl|hz
 ·exact one (by decide +kernel)
 rcases List.mem_append.mp hz with hz|hz
 ·obtain⟨m,hm,rfl⟩:=List.mem_map.mp hz
  refine QK (by decide +kernel) fun z hz=>?_
  simp only[List.mem_cons,List.not_mem_nil,or_false] at hz
  rcases hz with rfl|rfl|rfl
  ·exact let_free (h.m m hm).1 (by decide)
  ·exact QF ⟨by decide,by decide⟩
  ·exact QF ⟨by decide,by decide⟩
 ·simp only[List.mem_cons,List.not_mem_nil,or_false] at hz
  rcases hz with rfl|rfl|rfl
  ·exact one (by decide +kernel)
  ·exact QK (by decide +kernel) nts_nl
  ·exact QK (by decide +kernel) nts_nl
theorem sapp {a b c:Str}:a++b++c=a++(b++c):=cps_inj (by simp[Str.cps_append])
theorem hrw1 {h z:Str}:hrw h [z]=h ++ " " ++ z:=by
 unfold hrw
 show Builtin.Str.glued " " [h,z]=_
 rw[StrLaws.glued_eq_join]
 rfl
theorem la_is {z:Str}:("laying " : Str)++z=hrw "laying" [z]:=by rw[hrw1,show("laying " : Str) = "laying" ++ " " by decide +kernel]
theorem ro_is {z:Str}:("room " : Str)++z=hrw "room" [z]:=by rw[hrw1,show("room " : Str) = "room" ++ " " by decide +kernel]
theorem mk_is {m:Mk3}:("mark " : Str)++m.1 ++ " " ++ nt m.2.1 ++ " " ++ nt m.2.2=mkS m:=by
 unfold mkS hrw
 show _=Builtin.Str.glued " " ["mark", m.1,nt m.2.1,nt m.2.2]
 rw[StrLaws.glued_eq_join,show("mark " : Str) = "mark" ++ " " by decide +kernel]
 show _ = "mark" ++ " " ++ (m.1 ++ " " ++ (nt m.2.1 ++ " " ++ nt m.2.2))
 simp only[sapp]
theorem jZ {x:Str} {c:Nat}:Txt.split x ⟨#[c]⟩≠[]:=fun e=>by
 by_cases h:x.length<1
 ·unfold Txt.split at e
  rw[if_pos (by simp; exact .inl h)] at e
  cases e
 ·have hj:=StrLaws.join_split x ⟨#[c]⟩
  rw[e] at hj
  have h0:(Txt.join ⟨#[c]⟩ ([]:List Str)).length=0:=by rw[show Txt.join ⟨#[c]⟩ ([]:List Str)=Builtin.Str.glued ⟨#[c]⟩ [] from rfl,StrLaws.glued_eq_join]; rfl
  rw[<-hj] at h
  have h0':(Str.join ⟨#[c]⟩ ([]:List Str)).length=0:=rfl
  first|exact h (by rw[h0]; decide)|exact h (by rw[h0']; decide)
theorem mem_sum {l:List Nat} {n:Nat} (h:n∈l):n<=l.sum:=by
 induction l with
 |nil=>cases h
 |cons a l ih =>
  rw[List.sum_cons]
  rcases List.mem_cons.mp h with rfl|h
  ·omega
  ·have:=ih h; omega
theorem vR {x z:Str} {c:Nat} (h:z∈Txt.split x ⟨#[c]⟩):z.length<=x.length:=by
 have hw:=PyProof.Rows.split_weight x ⟨#[c]⟩ (Nat.le_refl 1)
 have h1:=mem_sum (List.mem_map.mpr ⟨z,h,rfl⟩:z.length∈(Txt.split x ⟨#[c]⟩).map (·.length))
 have h2:=List.length_pos_of_mem h
 omega
theorem zk {x:Str} {c:Nat}:(Txt.split x ⟨#[c]⟩).length<=x.length+1:=by
 have hw:=PyProof.Rows.split_weight x ⟨#[c]⟩ (Nat.le_refl 1)
 omega
def wtc (c:Nat):Nat:=if c=10 then 51 else 1
def wtl (l:List Nat):Nat:=(l.map wtc).sum
def wt (t:Str):Nat:=wtl t.cps.toList
theorem VW (a b:List Nat):wtl (a++b)=wtl a+wtl b:=by simp[wtl]
theorem XV (c:Nat):1<=wtc c/\wtc c<=51:=by unfold wtc; split<;>omega
theorem VV:∀l:List Nat,l.length<=wtl l/\wtl l<=51*l.length
 | []=>⟨Nat.le_refl _,Nat.le_refl _⟩
 |c::l=>by
  have h:=VV l
  have h2:=XV c
  have e:wtl (c::l)=wtc c+wtl l:=by simp[wtl]
  rw[e,List.length_cons]
  omega
theorem vO (t:Str):t.length<=wt t:=by rw[qX]; exact(VV _).1
theorem wt_le (t:Str):wt t<=51*t.length:=by rw[qX]; exact(VV _).2
theorem xV (a b:Str):wt (a++b)=wt a+wt b:=by
 unfold wt
 rw[<-VW]
 congr 1
 show(a.cps++b.cps).toList=_
 rw[Array.toList_append]
theorem Qh (y:Str):∀zs:List Str,zs≠[]->wt (Str.join y zs)+wt y=(zs.map wt).sum+zs.length*wt y
 | [],h=>absurd rfl h
 | [z],_=>by
  show wt z+wt y=_
  simp
 |z::z'::zs,_=>by
  have ih:=Qh y (z'::zs) (by simp)
  show wt (z++y++Str.join y (z'::zs))+wt y=_
  rw[xV,xV,List.map_cons,List.sum_cons,List.length_cons,Nat.succ_mul]
  omega
theorem j9 {y:Str} {zs:List Str}:wt (Txt.join y zs)<=(zs.map wt).sum+zs.length*wt y:=by
 show wt (Builtin.Str.glued y zs)<=_
 rw[StrLaws.glued_eq_join]
 by_cases h:zs=[]
 ·subst h
  exact Nat.zero_le _
 ·have:=Qh y zs h
  omega
theorem ZH (x:Str) (c:Nat):((Txt.split x ⟨#[c]⟩).map wt).sum+(Txt.split x ⟨#[c]⟩).length*wtc c=wt x+wtc c:=by
 have h:=Qh ⟨#[c]⟩ (Txt.split x ⟨#[c]⟩) jZ
 rw[StrLaws.join_split] at h
 have e:wt ⟨#[c]⟩=wtc c:=by simp[wt,wtl]
 rw[e] at h
 exact h.symm
theorem wtl_sub {a b:List Nat} (h:List.Sublist a b):wtl a<=wtl b:=by
 induction h with
 |slnil=>exact Nat.le_refl _
 |cons x _ ih=>simp only[wtl,List.map_cons,List.sum_cons] at ih ⊢; omega
 |cons_cons x _ ih=>simp only[wtl,List.map_cons,List.sum_cons] at ih ⊢; omega
theorem wt_to {t:Str} {j:Int} (h0:0<=j) (h1:j<=t.length):wt (Txt.slice t none (some j))=wtl (t.cps.toList.take j.toNat):=by
 have e:=PyProof.Rows.slice_closes_to (x:=t) (j:=j) ⟨h0,by rw[<-qX]; exact h1⟩
 rw[beq_iff_eq] at e
 rw[e]
 show wtl ((t.cps.toList.drop 0).take (j-0).toNat)=_
 rw[List.drop_zero,Int.sub_zero]
theorem wt_from {t:Str} {i:Int} (h0:0<=i):wt (Txt.slice t (some i) none)=wtl (t.cps.toList.drop i.toNat):=by
 rcases Int.lt_or_le (t.length:Int) i with h|h
 ·rw[PyProof.Rows.slice_beyond (Int.le_of_lt h),List.drop_of_length_le (by rw[<-qX]; omega)]
  rfl
 ·rw[PyProof.Rows.slice_from_eq (x:=t) (i:=i) (b:=t.length) h0 h rfl]
  show wtl ((t.cps.toList.drop i.toNat).take _)=_
  rw[List.take_of_length_le (by rw[List.length_drop, <-qX]; omega)]
theorem wt_cut {t:Str} {i j:Int} (h0:0<=i) (h1:i<=t.length) (h2:i<=j):wt (Txt.slice t none (some i))+wt (Txt.slice t (some j) none)<=wt t:=by
 rw[wt_to h0 h1,wt_from (by omega), <-VW]
 refine wtl_sub ?_
 have:t.cps.toList.take i.toNat++t.cps.toList.drop i.toNat=t.cps.toList:=List.take_append_drop ..
 rw[<-this]
 refine List.Sublist.append (by rw[this]; exact List.Sublist.refl _) ?_
 rw[this,show j.toNat=i.toNat+(j.toNat-i.toNat) by omega, <-List.drop_drop]
 exact List.drop_sublist ..
theorem ZQ:∀{l:List (Nat×Nat×Nat)} {c v:Nat},l.all (fun r=>decide (10<r.2.2))=true->Unicode.shifted l c=some v->v≠10
 | [],_,_,_,h=>by cases h
 | (a,b,t)::r,c,v,h,e=>by
  rw[List.all_cons,Bool.and_eq_true] at h
  unfold Unicode.shifted at e
  split at e
  ·cases e
  ·split at e
   ·cases e
    have:10<t:=by simpa using h.1
    omega
   ·exact ZQ h.2 e
theorem up_ne {c:Nat} (h:c≠10):∀d∈Unicode.upperOf c,d≠10:=fun d hd=>by
 unfold Unicode.upperOf Unicode.image at hd
 split at hd
 ·rename_i cs hl
  have:=StrLaws.lookup_all (p:=fun l=>l.all fun x=>decide (x≠10)) _ c cs (by decide +kernel) hl
  rw[List.all_eq_true] at this
  simpa using this d hd
 ·rw[List.mem_singleton] at hd
  subst hd
  cases e:Unicode.shifted UnicodeData.oneUpper c with
  |none=>exact h
  |some v=>exact ZQ (by decide +kernel) e
theorem up_wt (c:Nat):wtl (Unicode.upperOf c)<=3*wtc c:=by
 by_cases h:c=10
 ·subst h
  decide +kernel
 ·have h3:=StrLaws.upperOf_le3 c
  have h1:wtl (Unicode.upperOf c)=(Unicode.upperOf c).length:=by
   have h2:=up_ne h
   generalize Unicode.upperOf c=l at h2
   induction l with
   |nil=>rfl
   |cons x l ih =>
    have e:wtc x=1:=by unfold wtc; rw[if_neg (h2 x (by simp))]
    have:=ih fun d hd=>h2 d (by simp[hd])
    simp only[wtl,List.map_cons,List.sum_cons,List.length_cons] at this ⊢
    omega
  have:=(XV c).1
  omega
theorem wt_upper (x:Str):wt (Txt.upper x)<=3*wt x:=by
 have e:(Txt.upper x).cps.toList=x.cps.toList.flatMap Unicode.upperOf:=by
  have key:∀l:List Nat,(l.mapIdx fun _ c=>(Unicode.upperOf c).toArray).toArray.flatten.toList=l.flatMap Unicode.upperOf:=fun l=>by
   rw[Array.toList_flatten]
   have h:∀(n:Nat) (l:List Nat),(List.map (Array.toList ∘ fun x:Nat×Nat=>(Unicode.upperOf x.fst).toArray) (l.zipIdx n))=l.map Unicode.upperOf:=fun n l=>by
    induction l generalizing n with
    |nil=>rfl
    |cons a l ih=>rw[List.zipIdx_cons,List.map_cons,ih,List.map_cons]; rfl
   simp only[List.flatMap,List.mapIdx_eq_zipIdx_map,List.map_map,List.map_toArray]
   rw[<-h 0 l]
  rw[<-key]
  show(Array.mapIdx (fun _ c=>(Unicode.upperOf c).toArray) x.cps).flatten.toList=_
  congr 2
  apply Array.toList_inj.mp
  simp
 unfold wt
 rw[e]
 generalize x.cps.toList=l
 induction l with
 |nil=>exact Nat.le_refl _
 |cons c l ih =>
  rw[List.flatMap_cons,VW]
  have:=up_wt c
  have e:wtl (c::l)=wtc c+wtl l:=by simp[wtl]
  omega
local macro_rules | `(tactic| walk_at "vx") => `(tactic| simp only[z0,jm,jR,zQ,zj,uTry,zC,zZ,ke,kg,endX,uAsG,xj,xf,km,xl,zl,vE,xi,xk,zm,vm,uListN,uCallF,uCmpT,uMe0])
local macro_rules | `(tactic| walk_at "pk") => `(tactic| (walk_at "v"; repeat ((first|walk_at "vx" |refine qY (by decide) ?_|refine qI rfl ?_); walk_at "v")))
abbrev ze:Stmt:=top 29
theorem scImageText:FnScope ["image", "laying", "room", "words", "outside", "lines", "kind", "width", "pattern", "head", "some"] ["image"] (qc ze):=⟨rfl,rfl,rfl,by decide +kernel,rfl,by decide +kernel,by decide +kernel⟩
theorem Vt:(["image", "laying", "room", "words", "outside", "lines", "kind", "width", "pattern", "head", "some", "word"]:List Str).Nodup:=by decide +kernel
theorem kJ {f:Addr} {fd:FuncData} (F:Fun K "_law_image_text" "_law_image_text" ze f fd) (N:Nms mg):FnOk P w K mg base CX0 1 f fd ["image"] (spP Km):=by
 refine F.zP scImageText (fun ts Qt h=>?_) (fun cdv A outer s H E hr=>?_)
 ·obtain⟨_,rfl,_⟩:=h
  rfl
 refine⟨_,(qg (xM (qv 0) (qg_tup rfl (j5 (qV (i:=1) scImageText.nd rfl (Or.inl rfl)) (j5 (qV (i:=2) scImageText.nd rfl (Or.inl rfl)) (j5 (qV (i:=3) scImageText.nd rfl (Or.inl rfl)) (j5 (qV (i:=4) scImageText.nd rfl (Or.inl rfl)) qgs_nil))))))
  (qg (qC (i:=5) scImageText.nd rfl (Or.inl rfl) (qZ (qa_c (qw qH ql (vI xx (by rfl) N.str ZC (qa_c (qD (Zl (K:=K) rfl) (qv 1) qe (fun _ _=>rfl)) qd))) qd)))
  (qg (jM PassesOwn.never rfl (vY (K:=K) rfl (qD (Zl (K:=K) rfl) (qv 1) qe (fun _ _=>rfl))) (qg_t3K (K:=K) (i:=6) (j:=7) (k:=8) rfl scImageText.nd rfl rfl rfl rfl (Or.inl rfl) (Or.inl rfl) (Or.inl rfl) (Or.inl rfl) (Or.inl rfl) (Or.inl rfl))
   (qp (xR (Zb PySem.F.slot_list_append PySem.F.type_list_append vK (qv 5) (qa_c (qw qH (qw qH (qw qH (qw qH (qw qH ql (qv 6)) ql) (vI xx (by rfl) N.str ZC (qa_c (qv 7) qd))) ql) (vI xx (by rfl) N.str ZC (qa_c (qv 8) qd))) qd)))))
  (qg (xR (Zb PySem.F.slot_list_append PySem.F.type_list_append vK (qv 5) (qa_c (qw qH ql (vI xx (by rfl) N.str ZC (qa_c (qv 2) qd))) qd)))
  (qg (jM PassesOwn.never rfl (vY (K:=K) rfl (qZ (qa_c (zG (qa_c ql (qa_c (qv 3) qd))) (qa_c (zG (qa_c ql (qa_c (qv 4) qd))) qd)))) (qg_t2K (K:=K) (i:=9) (j:=10) rfl scImageText.nd rfl rfl rfl (Or.inl rfl) (Or.inl rfl) (Or.inl rfl) (Or.inl rfl))
   (qp (xR (Zb PySem.F.slot_list_append PySem.F.type_list_append vK (qv 5) (qa_c (xJ PySem.F.plainAttrs_str PySem.F.slot_str_join PySem.F.type_str_join (zx (K:=K) rfl) ql (qa_c (qw vZ (qZ (qa_c (qv 9) qd)) (kr [false,false,false,false,false,false,false,false,false,false,false] ["word"] (vY (K:=K) rfl (qv 10)) (fun _ _ _=>(qV (i:=11) Vt rfl (Or.inl rfl))) (fun _ _ _=>v7) (fun _ _ _=>(vI xx (by rfl) N.str ZC (qa_c (qv 11) qd))))) qd)) qd)))))
  (qp (qM (xJ PySem.F.plainAttrs_str PySem.F.slot_str_join PySem.F.type_str_join (zx (K:=K) rfl) ql (qa_c (qv 5) qd))))))))),_,(qj (qA (qb 0) (cg_name4 1 2 3 4))
   (qj (qA (Qf (qa (qk vi (ce_c (.str _)) (zW jj (qa (ce_ixT (qb 1) (ce_c (.int _))) qf))) qf)) (qo 5))
   (qj (kG (xu (ce_ixT (qb 1) (ce_c (.int _)))) (cg_name3 6 7 8)
   (xT (ZB vX (qb 5) (qa (qk vi (qk vi (qk vi (qk vi (qk vi (ce_c (.str _)) (qb 6)) (ce_c (.str _))) (zW jj (qa (qb 7) qf))) (ce_c (.str _))) (zW jj (qa (qb 8) qf))) qf))))
   (qj (xT (ZB vX (qb 5) (qa (qk vi (ce_c (.str _)) (zW jj (qa (qb 2) qf))) qf)))
   (qj (kG (xu (vq (qa (Qe (qa (ce_c (.str _)) (qa (qb 3) qf))) (qa (Qe (qa (ce_c (.str _)) (qa (qb 4) qf))) qf)))) (Xk 9 10)
   (xT (ZB vX (qb 5) (qa (xU zy (ce_c (.str _)) (qa (qk vo (vq (qa (qb 9) qf)) (zr (xu (qb 10)) (vy 11) xN (zW jj (qa (qb 11) qf)))) qf)) qf))))
   (qU (xU zy (ce_c (.str _)) (qa (qb 5) qf)))))))),fun ts Qt h=>?_⟩
 obtain⟨im,rfl,ok,q⟩:=h
 have hml:=ok.ml
 unfold imT layT
 walk_at "pk"
 have hb:=(zM ok.b).2.1
 have hrr:=(zM ok.r).2.1
 refine .inl ⟨_,rfl,XJ ok.b, ?_⟩
 walk_at "pk"
 refine⟨Nat.le_of_lt (qL (by show 7+(nt im.bits).length<=1000; omega)), ?_⟩
 rw[show("laying " : Str)++Str.ofString (toString im.bits)=hrw "laying" [nt im.bits] from la_is]
 walk_at "pk"
 refine Q6 (ts:=im.ms.map zA) (fun i ρ M=>∃x6 x7 x8,ρ=[some (.p (imT im)),some (.p (layT im.bits im.ms)),some (.p (.int im.room)),some (.p (vx im.ws)),some (.p (vx im.os)),some (.m 0),x6,x7,x8,none,none]/\M=[Qm (hrw "laying" [nt im.bits]::(im.ms.take i).map mkS)]) ⟨_,_,_,rfl,rfl⟩ ?_ ?_
 ·rintro i x ρ M' hx ⟨x6,x7,x8,rfl,rfl⟩
  obtain⟨m,hm,rfl⟩:=jz hx
  obtain⟨k1,k2,k3⟩:=ok.m m (List.mem_of_getElem? hm)
  have l1:=(zM k2).2.1
  have l2:=(zM k3).2.1
  have l3:=k1.2.1
  unfold Qm zA
  walk_at "pk"
  have e5:("mark " : Str).length=5:=by decide +kernel
  have e1:=kO
  have sz:∀{n:Nat},n<=1000->n<=sizeLine:=fun h=>Nat.le_of_lt (qL h)
  refine⟨sz (by omega),sz (by rw[Str.length_append]; omega), .inl ⟨_,rfl,XJ k2, ?_⟩⟩
  walk_at "pk"
  refine⟨sz (by show _+(nt m.2.1).length<=_; simp only[Str.length_append]; omega),sz (by show(_++nt m.2.1).length+_<=_; simp only[Str.length_append]; omega), .inl ⟨_,rfl,XJ k3, ?_⟩⟩
  walk_at "pk"
  refine⟨sz (by show(_++nt m.2.1++_).length+(nt m.2.2).length<=_; simp only[Str.length_append]; omega), ?_, ?_⟩
  ·simp
   exact qL (by omega)
  ·rw[jn hm]
   have e:=mk_is (m:=m)
   unfold nt at e
   rw[e]
   simp
 ·rintro ρ M' ⟨x6,x7,x8,rfl,rfl⟩
  rw[List.length_map,List.take_length]
  unfold Qm vx
  walk_at "pk"
  refine .inl ⟨_,rfl,XJ ok.r, ?_⟩
  walk_at "pk"
  refine⟨Nat.le_of_lt (qL (by show 5+(nt im.room).length<=1000; omega)),by simp; exact qL (by omega), ?_⟩
  rw[show("room " : Str)++Str.ofString (toString im.room)=hrw "room" [nt im.room] from ro_is]
  walk_at "pk"
  refine Q6 (ts:=[T.tup [.str "words", .lst (im.ws.map T.int)],T.tup [.str "outside", .lst (im.os.map T.int)]]) (fun i ρ M=>∃x9 x10,ρ=[some (.p (imT im)),some (.p (layT im.bits im.ms)),some (.p (.int im.room)),some (.p (vx im.ws)),some (.p (vx im.os)),some (.m 0),x6,x7,x8,x9,x10]/\M=[Qm (hrw "laying" [nt im.bits]::(im.ms.map mkS++hrw "room" [nt im.room]::[hrw "words" (im.ws.map nt),hrw "outside" (im.os.map nt)].take i))]) ?_ ?_ ?_
  ·exact⟨_,_,rfl,by simp[Qm]⟩
  ·rintro i x ρ M' hx ⟨x9,x10,rfl,rfl⟩
   obtain⟨hd,ns,rfl,hn,hnl,hi,hh⟩:∃(hd:Str) (ns:List Int),x=.tup [.str hd, .lst (ns.map T.int)]/\(∀x∈ns,x.natAbs<10^60)/\ns.length<=400/\[hrw "words" (im.ws.map nt),hrw "outside" (im.os.map nt)][i]?=some (hrw hd (ns.map nt))/\hd.length<=100:=by
    match i,hx with
    |0,hx=>cases hx; exact⟨_,_,rfl,ok.w,ok.wl,rfl,by decide +kernel⟩
    |1,hx=>cases hx; exact⟨_,_,rfl,ok.o,ok.ol,rfl,by decide +kernel⟩
    |i+2,hx=>simp at hx
   have hi2:i<2:=(List.getElem?_eq_some_iff.mp hi).1
   unfold Qm
   walk_at "pk"
   refine zB (ts:=ns.map T.int) (by rw[List.length_map]; exact Nat.le_of_lt (qL (by omega))) (fun j acc M'=>M'=[Qm (hrw "laying" [nt im.bits]::(im.ms.map mkS++hrw "room" [nt im.room]::[hrw "words" (im.ws.map nt),hrw "outside" (im.os.map nt)].take i))]/\acc=(ns.take j).map fun n=>T.str (nt n)) ⟨rfl,rfl⟩ ?_ ?_
   ·rintro j x acc M' hx _ ⟨rfl,rfl⟩
    obtain⟨n,hn',rfl⟩:=jz hx
    walk_at "pk"
    refine .inl ⟨n,rfl,XJ (hn n (List.mem_of_getElem? hn')), ?_⟩
    rw[jn hn',List.map_append]
    rfl
   ·rintro acc M' ⟨rfl,rfl⟩
    rw[List.length_map,List.take_length]
    unfold Qm
    walk_at "pk"
    have hs:=kA (l:=hd::ns.map nt) (n:=100) fun x hx=>(List.mem_cons.mp hx).elim (fun e=>by rw[e]; exact hh) (JQ hn x)
    refine⟨by rw[List.length_map]; exact Nat.le_of_lt (qL (by omega)),hd::ns.map nt,by rw[List.map_cons,List.map_map]; rfl, ?_, ?_,_,_,rfl, ?_⟩
    ·rw[kO]
     simp only[List.length_cons,List.length_map] at hs ⊢
     omega
    ·simp only[List.length_map,List.length_append,List.length_cons,List.length_take,List.length_nil]
     exact qL (by omega)
    ·rw[jn hi]
     simp
     rfl
  ·rintro ρ M' ⟨x9,x10,rfl,rfl⟩
   unfold Qm
   walk_at "pk"
   refine sns1 (zs:=(xO im).map T.str) (by simp[xO]) ⟨xO im,rfl,Nat.le_trans ok.fits (by decide),q⟩
local macro_rules | `(tactic| walk_at "vx") => `(tactic| simp only[z0,jm,jR,zQ,zj,uTry,zC,zZ,ke,kg,endX,uAsG,xj,xf,km,xl,zl,vE,xi,xk,zm,vm,uListN,uCallF,uCmpT,uMe0])
local macro_rules | `(tactic| walk_at "pk") => `(tactic| (walk_at "v"; repeat ((first|walk_at "vx" |refine qY (by decide) ?_|refine qI rfl ?_); walk_at "v")))
abbrev zg:Stmt:=top 27
theorem scAnyNumber:FnScope ["bag", "way", "some"] ["bag"] (qc zg):=⟨rfl,rfl,rfl,by decide +kernel,rfl,by decide +kernel,by decide +kernel⟩
theorem ZD {xs:List T} {j:Int} (h0:0<=j) (h1:j<xs.length):∃t,atI xs j=some t/\t∈xs:=by
 obtain⟨k,rfl⟩:∃k:Nat,j=(k:Int):=⟨j.toNat,by omega⟩
 have hk:k<xs.length:=by exact_mod_cast h1
 exact⟨xs[k],v8 (List.getElem?_eq_getElem hk),List.getElem_mem hk⟩
def gAnyN:List U->MM->UK->Prop:=fun us M Q=>∃(k:Nat) (o:MO),us=[.m k]/\M[k]?=some o/\BagO o/\∀(n:Int) (o':MO),n.natAbs<10^60->BagO o'->Q (.p (.int n)) (M.set k o')
theorem kK {f:Addr} {fd:FuncData} (F:Fun K "_law_any_number" "_law_any_number" zg f fd) (N:Nms mg) (DDraw:Def P w K mg base "_law_draw" 1 ["bag", "many"] (spU QV)):FnOk P w K mg base CX0 2 f fd ["bag"] (spU gAnyN):=by
 refine F.zV scAnyNumber (fun us M Qu h=>?_) (fun cdv A outer s H E hr=>?_)
 ·obtain⟨_,_,rfl,_⟩:=h
  rfl
 refine⟨_,(qg (qC (i:=1) scAnyNumber.nd rfl (Or.inl rfl) (qB DDraw (hr.mono (by first|decide|exact Nat.le_refl _)) (qa_c (qv 0) (qa_c qe qd))))
  (qg (qC (i:=2) scAnyNumber.nd rfl (Or.inl rfl) (qZ (qa_c (qw JD (qB DDraw (hr.mono (by first|decide|exact Nat.le_refl _)) (qa_c (qv 0) (qa_c qe qd))) qe) (qa_c (qB DDraw (hr.mono (by first|decide|exact Nat.le_refl _)) (qa_c (qv 0) (qa_c qe qd))) (qa_c (qw op_shl qe (qB DDraw (hr.mono (by first|decide|exact Nat.le_refl _)) (qa_c (qv 0) (qa_c qe qd)))) (qa_c (qB DDraw (hr.mono (by first|decide|exact Nat.le_refl _)) (qa_c (qv 0) (qa_c (qw ZY qe qe) qd))) (qa_c qe qd)))))))
  (qp (qM (qw kW (qD (qh (K:=K) rfl) (qv 2) (qv 1) (fun _ _=>rfl)) (qD (qh (K:=K) rfl) (qZ (qa_c qe (qa_c qe (qa_c qe (qa_c (qe_un Q5 qe) qd))))) (qB DDraw (hr.mono (by first|decide|exact Nat.le_refl _)) (qa_c (qv 0) (qa_c qe qd))) (fun _ _=>rfl))))))),_,(qj (qA (qu (qa (qb 0) (qa (ce_c (.int _)) qf))) (qo 1))
   (qj (qA (vq (qa (qk (ve fun _ _=>.int _) (qu (qa (qb 0) (qa (ce_c (.int _)) qf))) (ce_c (.int _))) (qa (qu (qa (qb 0) (qa (ce_c (.int _)) qf))) (qa (qk (zT fun _ _=>.int _) (ce_c (.int _)) (qu (qa (qb 0) (qa (ce_c (.int _)) qf)))) (qa (qu (qa (qb 0) (qa (qk (zT fun _ _=>.int _) (ce_c (.int _)) (ce_c (.int _))) qf))) (qa (ce_c (.int _)) qf)))))) (qo 2))
   (qU (qk (zT fun _ _=>.int _) (qy (qb 2) (qb 1)) (qy (vq (qa (ce_c (.int _)) (qa (ce_c (.int _)) (qa (ce_c (.int _)) (qa (Xm (ce_c (.int _))) qf))))) (qu (qa (qb 0) (qa (ce_c (.int _)) qf)))))))),fun us M M1 Qu e1 h=>?_⟩
 obtain⟨k,o,rfl,em,B,q⟩:=h
 obtain⟨hk,eM⟩:=xH em
 rw[eM] at e1
 subst e1
 walk_at "pk"
 refine vc hk B (by decide) (by decide) fun way o1 w0 w1 B1=>?_
 walk_at "pk"
 refine vc hk B1 (by decide) (by decide) fun d1 o2 d10 d11 B2=>?_
 walk_at "pk"
 refine vc hk B2 (by decide) (by decide) fun d2 o3 d20 d21 B3=>?_
 walk_at "pk"
 refine vc hk B3 (by decide) (by decide) fun d3 o4 d30 d31 B4=>?_
 walk_at "pk"
 refine⟨⟨by omega,by omega,by decide⟩,⟨by decide,by decide,by decide⟩, ?_⟩
 refine vc hk B4 (by decide +kernel) (by decide +kernel) fun d4 o5 d40 d41 B5=>?_
 have d41:d4<10^60:=d41
 walk_at "pk"
 obtain⟨t,ht,hm⟩:=ZD (xs:=[T.int (d1-4),T.int d2,T.int (1*2^d3.toNat),T.int d4,T.int 0]) w0 (by simpa using w1)
 obtain⟨n,rfl,hn⟩:∃n:Int,t=.int n/\n.natAbs<10^60:=by
  have hp:(2:Int)^d3.toNat<=2^33:=by
   have:=Nat.pow_le_pow_right (n:=2) (show 0<2 by decide) (show d3.toNat<=33 by omega)
   exact_mod_cast this
  have hp0:(0:Int)<2^d3.toNat:=Int.pow_pos (by decide)
  simp only[List.mem_cons,List.not_mem_nil,or_false] at hm
  rcases hm with rfl|rfl|rfl|rfl|rfl
  ·exact⟨_,rfl,by omega⟩
  ·exact⟨_,rfl,by omega⟩
  ·exact⟨_,rfl,by omega⟩
  ·exact⟨_,rfl,by omega⟩
  ·exact⟨_,rfl,by decide⟩
 refine vd ht ?_
 walk_at "pk"
 refine vc hk B5 (by decide) (by decide) fun d5 o6 d50 d51 B6=>?_
 obtain⟨t2,ht2,hm2⟩:=ZD (xs:=[T.int 1,T.int 1,T.int 1,T.int (-1)]) d50 (by simpa using d51)
 obtain⟨g,rfl,hg⟩:∃g:Int,t2=.int g/\(g=1\/g = -1):=by
  simp only[List.mem_cons,List.not_mem_nil,or_false] at hm2
  rcases hm2 with rfl|rfl|rfl|rfl
  ·exact⟨_,rfl, .inl rfl⟩
  ·exact⟨_,rfl, .inl rfl⟩
  ·exact⟨_,rfl, .inl rfl⟩
  ·exact⟨_,rfl, .inr rfl⟩
 refine vd ht2 ?_
 walk_at "pk"
 refine⟨.inr (by rcases hg with rfl|rfl<;>exact⟨by decide,by decide⟩),jD B6.pur, ?_⟩
 rw[jE]
 exact q _ _ (by rcases hg with rfl|rfl<;>simpa using hn) B6
theorem VT {M:MM} {k:Nat} {o:MO} {L:List MO} {Q:UK} (hk:k<M.length) (B:BagO o) (q:∀(n:Int) (o':MO),n.natAbs<10^60->BagO o'->Q (.p (.int n)) (MB M k o' L)):gAnyN [.m k] (MB M k o L) Q :=
 ⟨k,o,rfl,VU hk,B,fun n o' hn B'=>by rw[xy hk]; exact q n o' hn B'⟩
theorem join_one {cs:List Nat}:(Txt.join "" (cs.map fun c=>(⟨#[c]⟩:Str))).cps.toList=cs:=by
 cases cs with
 |nil=>decide +kernel
 |cons c cs =>
  rw[List.map_cons,Z4,List.map_map]
  show[c]++_=_
  have:(cs.map ((fun z:Str=>("" : Str).cps.toList++z.cps.toList) ∘ fun c=>(⟨#[c]⟩:Str)))=cs.map fun c=>[c]:=List.map_congr_left fun c _=>by
   show("" : Str).cps.toList++[c]=[c]
   rw[show("" : Str).cps.toList=[] by decide +kernel]
   rfl
  rw[this,List.singleton_append]
  congr 1
  induction cs with
  |nil=>rfl
  |cons a l ih=>simp_all
theorem lets_len:(("abcdefghijklmnopqrstuvwxyz" : Str)).length=26:=by decide +kernel
theorem let_at {d:Int} (h0:0<=d) (h1:d<26):∃c,atI (("abcdefghijklmnopqrstuvwxyz" : Str)).cps.toList d=some c/\c∈lettersN:=by
 rw[QM]
 obtain⟨k,rfl⟩:∃k:Nat,d=(k:Int):=⟨d.toNat,by omega⟩
 have hk:k<lettersN.length:=by show k<26; omega
 exact⟨lettersN[k],v8 (List.getElem?_eq_getElem hk),List.getElem_mem hk⟩
theorem kC:∀k:Str,k∈(["small", "far", "pair", "sign", "one"]:List Str)->KdOk k:=fun k hk=>by
 simp only[List.mem_cons,List.not_mem_nil,or_false] at hk
 rcases hk with rfl|rfl|rfl|rfl|rfl<;>exact⟨by decide +kernel,by decide +kernel,by decide +kernel⟩
abbrev MkOk (m:Mk3):Prop:=KdOk m.1/\m.2.1.natAbs<10^60/\m.2.2.natAbs<10^60
abbrev IsOk (l:List Int):Prop:=l.length<=400/\∀x∈l,x.natAbs<10^60
abbrev zF:Stmt:=top 28
theorem scAnyImage:FnScope ["bag", "marks", "k", "letters", "many", "word", "kind", "lists"] ["bag"] (qc zF):=⟨rfl,rfl,rfl,by decide +kernel,rfl,by decide +kernel,by decide +kernel⟩
theorem ku:(["bag", "marks", "k", "letters", "many", "word", "kind", "lists", "j"]:List Str).Nodup:=by decide +kernel
def Xb:List U->MM->UK->Prop:=fun us M Q=>∃(k:Nat) (o:MO),us=[.m k]/\M[k]?=some o/\BagO o/\∀(im:Im) (o':MO),ImOk im->im.ms.length<=400->im.ws.length<=400->BagO o'->Q (.p (imT im)) (M.set k o')
theorem QD {f:Addr} {fd:FuncData} (F:Fun K "_law_any_image" "_law_any_image" zF f fd) (N:Nms mg) (DDraw:Def P w K mg base "_law_draw" 1 ["bag", "many"] (spU QV)) (DAnyNumber:Def P w K mg base "_law_any_number" 2 ["bag"] (spU gAnyN)):FnOk P w K mg base CX0 3 f fd ["bag"] (spU Xb):=by
 refine F.zV scAnyImage (fun us M Qu h=>?_) (fun cdv A outer s H E hr=>?_)
 ·obtain⟨_,_,rfl,_⟩:=h
  rfl
 refine⟨_,(qg (qC (i:=1) scAnyImage.nd rfl (Or.inl rfl) (qZ qd))
  (qg (jM PassesOwn.never rfl (vH rfl N.range (qa_c (qD (qh (K:=K) rfl) (qZ (qa_c qe (qa_c qe (qa_c (qB DDraw (hr.mono (by first|decide|exact Nat.le_refl _)) (qa_c (qv 0) (qa_c qe qd))) (qa_c (qw kW qe (qw je (qB DDraw (hr.mono (by first|decide|exact Nat.le_refl _)) (qa_c (qv 0) (qa_c qe qd))) qe)) qd))))) (qB DDraw (hr.mono (by first|decide|exact Nat.le_refl _)) (qa_c (qv 0) (qa_c qe qd))) (fun _ _=>rfl)) qd)) (qV (i:=2) scAnyImage.nd rfl (Or.inl rfl))
   (qg (qC (i:=3) scAnyImage.nd rfl (Or.inr rfl) ql)
   (qg (qC (i:=4) scAnyImage.nd rfl (Or.inl rfl) (qw vC qe (qB DDraw (hr.mono (by first|decide|exact Nat.le_refl _)) (qa_c (qv 0) (qa_c qe qd)))))
   (qg (qC (i:=5) scAnyImage.nd rfl (Or.inl rfl) (xJ PySem.F.plainAttrs_str PySem.F.slot_str_join PySem.F.type_str_join (zx (K:=K) rfl) ql (qa_c (kr [true,false,false,true,false,false,false,false] ["j"] (vH rfl N.range (qa_c (qv 4) qd)) (fun _ _ _=>(qV (i:=8) ku rfl (Or.inl rfl))) (fun _ _ _=>v7) (fun _ _ _=>(qD Qb (qv 3) (qB DDraw (hr.mono (by first|decide|exact Nat.le_refl _)) (qa_c (qv 0) (qa_c qe qd))) (fun _ _=>rfl)))) qd)))
   (qg (qC (i:=6) scAnyImage.nd rfl (Or.inl rfl) (qD (qh (K:=K) rfl) (qZ (qa_c ql (qa_c ql (qa_c ql (qa_c ql (qa_c ql (qa_c (qv 5) qd))))))) (qB DDraw (hr.mono (by first|decide|exact Nat.le_refl _)) (qa_c (qv 0) (qa_c qe qd))) (fun _ _=>rfl)))
   (qp (xR (Zb PySem.F.slot_list_append PySem.F.type_list_append vK (qv 1) (qa_c (zG (qa_c (qv 6) (qa_c (qB DAnyNumber (hr.mono (by first|decide|exact Nat.le_refl _)) (qa_c (qv 0) qd)) (qa_c (qB DAnyNumber (hr.mono (by first|decide|exact Nat.le_refl _)) (qa_c (qv 0) qd)) qd)))) qd)))))))))
  (qg (qC (i:=7) scAnyImage.nd rfl (Or.inl rfl) (qZ qd))
  (qg (jM PassesOwn.never rfl (vH rfl N.range (qa_c qe qd)) (qV (i:=2) scAnyImage.nd rfl (Or.inl rfl))
   (qg (qC (i:=4) scAnyImage.nd rfl (Or.inl rfl) (qD (qh (K:=K) rfl) (qZ (qa_c qe (qa_c (qB DDraw (hr.mono (by first|decide|exact Nat.le_refl _)) (qa_c (qv 0) (qa_c qe qd))) (qa_c (qB DDraw (hr.mono (by first|decide|exact Nat.le_refl _)) (qa_c (qv 0) (qa_c qe qd))) (qa_c (qw kW qe (qw je (qB DDraw (hr.mono (by first|decide|exact Nat.le_refl _)) (qa_c (qv 0) (qa_c qe qd))) qe)) qd))))) (qB DDraw (hr.mono (by first|decide|exact Nat.le_refl _)) (qa_c (qv 0) (qa_c qe qd))) (fun _ _=>rfl)))
   (qp (xR (Zb PySem.F.slot_list_append PySem.F.type_list_append vK (qv 7) (qa_c (kr [true,false,false,false,false,false,false,false] ["j"] (vH rfl N.range (qa_c (qv 4) qd)) (fun _ _ _=>(qV (i:=8) ku rfl (Or.inl rfl))) (fun _ _ _=>v7) (fun _ _ _=>(qB DAnyNumber (hr.mono (by first|decide|exact Nat.le_refl _)) (qa_c (qv 0) qd)))) qd))))))
  (qp (qM (zG (qa_c (zG (qa_c (qB DAnyNumber (hr.mono (by first|decide|exact Nat.le_refl _)) (qa_c (qv 0) qd)) (qa_c (qv 1) qd))) (qa_c (qB DAnyNumber (hr.mono (by first|decide|exact Nat.le_refl _)) (qa_c (qv 0) qd)) (qa_c (qD (qh (K:=K) rfl) (qv 7) qe (fun _ _=>rfl)) (qa_c (qD (qh (K:=K) rfl) (qv 7) qe (fun _ _=>rfl)) qd))))))))))),_,(qj (qA (Qf qf) (qo 1))
   (qj (kG (xt (qa (qy (vq (qa (ce_c (.int _)) (qa (ce_c (.int _)) (qa (qu (qa (qb 0) (qa (ce_c (.int _)) qf))) (qa (qk (zT fun _ _=>.int _) (ce_c (.int _)) (qk (zT fun _ _=>.int _) (qu (qa (qb 0) (qa (ce_c (.int _)) qf))) (ce_c (.int _)))) qf))))) (qu (qa (qb 0) (qa (ce_c (.int _)) qf)))) qf)) (qo 2)
   (qj (qA (ce_c (.str _)) (qo 3))
   (qj (qA (qk (ve fun _ _=>.int _) (ce_c (.int _)) (qu (qa (qb 0) (qa (ce_c (.int _)) qf)))) (qo 4))
   (qj (qA (xU zy (ce_c (.str _)) (qa (zr (xt (qa (qb 4) qf)) (vy 8) xN (qk ju (qb 3) (qu (qa (qb 0) (qa (ce_c (.int _)) qf))))) qf)) (qo 5))
   (qj (qA (qy (vq (qa (ce_c (.str _)) (qa (ce_c (.str _)) (qa (ce_c (.str _)) (qa (ce_c (.str _)) (qa (ce_c (.str _)) (qa (qb 5) qf))))))) (qu (qa (qb 0) (qa (ce_c (.int _)) qf)))) (qo 6))
   (xT (ZB vX (qb 1) (qa (Qe (qa (qb 6) (qa (qu (qa (qb 0) qf)) (qa (qu (qa (qb 0) qf)) qf)))) qf))))))))
   (qj (qA (Qf qf) (qo 7))
   (qj (kG (xt (qa (ce_c (.int _)) qf)) (qo 2)
   (qj (qA (qy (vq (qa (ce_c (.int _)) (qa (qu (qa (qb 0) (qa (ce_c (.int _)) qf))) (qa (qu (qa (qb 0) (qa (ce_c (.int _)) qf))) (qa (qk (zT fun _ _=>.int _) (ce_c (.int _)) (qk (zT fun _ _=>.int _) (qu (qa (qb 0) (qa (ce_c (.int _)) qf))) (ce_c (.int _)))) qf))))) (qu (qa (qb 0) (qa (ce_c (.int _)) qf)))) (qo 4))
   (xT (ZB vX (qb 7) (qa (zr (xt (qa (qb 4) qf)) (vy 8) xN (qu (qa (qb 0) qf))) qf)))))
   (qU (Zz (qa (Zz (qa (qu (qa (qb 0) qf)) (qa (qb 1) qf))) (qa (qu (qa (qb 0) qf)) (qa (qy (qb 7) (ce_c (.int _))) (qa (qy (qb 7) (ce_c (.int _))) qf)))))))))),fun us M M1 Qu e1 h=>?_⟩
 obtain⟨k,o,rfl,em,B,q⟩:=h
 obtain⟨hk,eM⟩:=xH em
 rw[eM] at e1
 subst e1
 walk_at "pk"
 refine vc hk B (by decide) (by decide) fun d1 o1 d10 d11 B1=>?_
 walk_at "pk"
 refine vc hk B1 (by decide) (by decide) fun d2 o2 d20 d21 B2=>?_
 walk_at "pk"
 refine⟨⟨by decide,by decide⟩, ?_⟩
 walk_at "pk"
 have hd2:d2 / 19=0\/d2 / 19=1:=by omega
 refine⟨.inl ⟨by decide,by decide⟩, ?_⟩
 refine vc hk B2 (by decide) (by decide) fun d3 o3 d30 d31 B3=>?_
 obtain⟨t,ht,hm⟩:=ZD (xs:=[T.int 5,T.int 5,T.int d1,T.int (400*(d2 / 19))]) d30 (by simpa using d31)
 obtain⟨mm,rfl,hmm⟩:∃n:Int,t=.int n/\0<=n/\n<=400:=by
  simp only[List.mem_cons,List.not_mem_nil,or_false] at hm
  rcases hm with rfl|rfl|rfl|rfl
  ·exact⟨_,rfl,by omega⟩
  ·exact⟨_,rfl,by omega⟩
  ·exact⟨_,rfl,by omega⟩
  ·exact⟨_,rfl,by omega⟩
 refine vd ht ?_
 clear ht hm
 refine jJ (by omega) (by omega) ?_
 refine jY (fun i ρ M'=>∃o ms x2 x3 x4 x5 x6,BagO o/\ms.length=i/\(∀m∈ms,MkOk m)/\ρ=[some (.m k),some (.m (M.length+0)),x2,x3,x4,x5,x6,none]/\M'=MB M k o [.lst ((ms.map zA).map U.p)]) ⟨o3, [],_,_,_,_,_,B3,rfl,by simp,rfl,rfl⟩ ?_ ?_
 ·rintro i ρ M' hi ⟨o4,ms,x2,x3,x4,x5,x6,B4,hl,hms,rfl,rfl⟩
  walk_at "pk"
  refine vc hk B4 (by decide) (by decide) fun e1 o5 e10 e11 B5=>?_
  walk_at "pk"
  refine jJ (by omega) (by omega) ?_
  refine xX (Nat.le_of_lt (qL (by omega))) (fun j acc M'=>∃o cs,BagO o/\M'=MB M k o [.lst ((ms.map zA).map U.p)]/\cs.length=j/\(∀c∈cs,c∈lettersN)/\acc=cs.map fun c=>T.str ⟨#[c]⟩) ⟨o5, [],B5,rfl,rfl,by simp,rfl⟩ ?_ ?_
  ·rintro j acc M' hj _ ⟨o6,cs,B6,rfl,hcl,hcs,rfl⟩
   walk_at "pk"
   refine vc hk B6 (by decide) (by decide) fun e2 o7 e20 e21 B7=>?_
   walk_at "pk"
   obtain⟨c,hc,hcm⟩:=let_at e20 e21
   refine⟨_,_,c,rfl,rfl,by rw[lets_len]; decide,hc, ?_⟩
   refine⟨o7,cs++[c],B7,rfl,by simp[hcl],fun x hx=>?_,by simp⟩
   rcases List.mem_append.mp hx with z|z
   ·exact hcs x z
   ·rw[List.mem_singleton.mp z]; exact hcm
  rintro acc M' ⟨o6,cs,B6,rfl,hcl,hcs,rfl⟩
  walk_at "pk"
  have hw:=join_one (cs:=cs)
  have hwl:(Txt.join "" (cs.map fun c=>(⟨#[c]⟩:Str))).length=cs.length:=by rw[qX,hw]
  refine⟨cs.map fun c=>(⟨#[c]⟩:Str),by rw[List.map_map]; rfl, ?_, ?_⟩
  ·have:=kA (l:=cs.map fun c=>(⟨#[c]⟩:Str)) (n:=1) fun x hx=>by obtain⟨c,_,rfl⟩:=List.mem_map.mp hx; exact Nat.le_refl 1
   rw[show("" : Str).length=0 by decide +kernel]
   rw[List.length_map] at this
   omega
  have kw:KdOk (Txt.join "" (cs.map fun c=>(⟨#[c]⟩:Str))):=⟨by omega,by omega,by rw[hw]; exact hcs⟩
  generalize Txt.join "" (cs.map fun c=>(⟨#[c]⟩:Str))=word at kw hw hwl
  walk_at "pk"
  refine vc hk B6 (by decide) (by decide) fun e3 o7 e30 e31 B7=>?_
  obtain⟨t,ht,hm⟩:=ZD (xs:=[T.str "small", T.str "far", T.str "pair", T.str "sign", T.str "one", T.str word]) e30 (by simpa using e31)
  obtain⟨kd,rfl,hkd⟩:∃z:Str,t=.str z/\KdOk z:=by
   simp only[List.mem_cons,List.not_mem_nil,or_false] at hm
   rcases hm with rfl|rfl|rfl|rfl|rfl|rfl
   ·exact⟨_,rfl,kC _ (.head _)⟩
   ·exact⟨_,rfl,kC _ (.tail _ (.head _))⟩
   ·exact⟨_,rfl,kC _ (.tail _ (.tail _ (.head _)))⟩
   ·exact⟨_,rfl,kC _ (.tail _ (.tail _ (.tail _ (.head _))))⟩
   ·exact⟨_,rfl,kC _ (.tail _ (.tail _ (.tail _ (.tail _ (.head _)))))⟩
   ·exact⟨_,rfl,kw⟩
  refine vd ht ?_
  clear ht hm
  walk_at "pk"
  refine VT hk B7 fun n1 o8 hn1 B8=>?_
  walk_at "pk"
  refine VT hk B8 fun n2 o9 hn2 B9=>?_
  walk_at "pk"
  refine⟨by simp; exact qL (by omega),o9,ms++[(kd,n1,n2)],_,_,_,_,_,B9,by simp[hl],fun m hm=>?_,rfl,by simp[zA]⟩
  rcases List.mem_append.mp hm with z|z
  ·exact hms m z
  ·rw[List.mem_singleton.mp z]; exact⟨hkd,hn1,hn2⟩
 rintro ρ M' ⟨o4,ms,x2,x3,x4,x5,x6,B4,hl,hms,rfl,rfl⟩
 walk_at "pk"
 refine jJ (by decide) (by decide) ?_
 refine jY (fun i ρ M'=>∃o ls x2 x4,BagO o/\ls.length=i/\(∀l∈ls,IsOk l)/\ρ=[some (.m k),some (.m (M.length+0)),x2,x3,x4,x5,x6,some (.m (M.length+1))]/\M'=MB M k o [.lst ((ms.map zA).map U.p), .lst ((ls.map vx).map U.p)]) ⟨o4, [],_,_,B4,rfl,by simp,rfl,rfl⟩ ?_ ?_
 ·rintro i ρ M' hi ⟨o5,ls,x2,x4,B5,hll,hls,rfl,rfl⟩
  walk_at "pk"
  refine vc hk B5 (by decide) (by decide) fun f1 p1 f10 f11 C1=>?_
  walk_at "pk"
  refine vc hk C1 (by decide) (by decide) fun f2 p2 f20 f21 C2=>?_
  walk_at "pk"
  refine vc hk C2 (by decide) (by decide) fun f3 p3 f30 f31 C3=>?_
  walk_at "pk"
  refine⟨⟨by decide,by decide⟩, .inl ⟨by decide,by decide⟩, ?_⟩
  refine vc hk C3 (by decide) (by decide) fun f4 p4 f40 f41 C4=>?_
  have hf3:f3 / 19=0\/f3 / 19=1:=by omega
  obtain⟨t,ht,hm⟩:=ZD (xs:=[T.int 8,T.int f1,T.int f2,T.int (400*(f3 / 19))]) f40 (by simpa using f41)
  obtain⟨mn,rfl,hmn⟩:∃n:Int,t=.int n/\0<=n/\n<=400:=by
   simp only[List.mem_cons,List.not_mem_nil,or_false] at hm
   rcases hm with rfl|rfl|rfl|rfl
   ·exact⟨_,rfl,by omega⟩
   ·exact⟨_,rfl,by omega⟩
   ·exact⟨_,rfl,by omega⟩
   ·exact⟨_,rfl,by omega⟩
  refine vd ht ?_
  clear ht hm
  walk_at "pk"
  refine jJ (by omega) (by omega) ?_
  refine xX (Nat.le_of_lt (qL (by omega))) (fun j acc M'=>∃o ns,BagO o/\M'=MB M k o [.lst ((ms.map zA).map U.p), .lst ((ls.map vx).map U.p)]/\ns.length=j/\(∀n∈ns,n.natAbs<10^60)/\acc=ns.map T.int) ⟨p4, [],C4,rfl,rfl,by simp,rfl⟩ ?_ ?_
  ·rintro j acc M' hj _ ⟨o6,ns,B6,rfl,hnl,hns,rfl⟩
   walk_at "pk"
   refine VT hk B6 fun n1 o8 hn1 B8=>?_
   refine⟨_,rfl,o8,ns++[n1],B8,rfl,by simp[hnl],fun x hx=>?_,by simp⟩
   rcases List.mem_append.mp hx with z|z
   ·exact hns x z
   ·rw[List.mem_singleton.mp z]; exact hn1
  rintro acc M' ⟨o6,ns,B6,rfl,hnl,hns,rfl⟩
  walk_at "pk"
  refine⟨by simp; exact qL (by omega),o6,ls++[ns],_,_,B6,by simp[hll],fun l hl'=>?_,rfl,by simp[vx]⟩
  rcases List.mem_append.mp hl' with z|z
  ·exact hls l z
  ·rw[List.mem_singleton.mp z]; exact⟨by omega,hns⟩
 rintro ρ M' ⟨o5,ls,x2,x4,B5,hll,hls,rfl,rfl⟩
 match ls,hll with
 | [l1,l2],_ =>
 walk_at "pk"
 refine VT hk B5 fun bits o6 hb B6=>?_
 walk_at "pk"
 refine VT hk B6 fun room o7 hr B7=>?_
 walk_at "pk"
 have it:va (MB M k o7 [MO.lst (List.map U.p (List.map zA ms)),MO.lst [U.p (vx l1),U.p (vx l2)],MO.tup [U.p (T.int bits),U.m (List.length M+0)]]) (.m (M.length+1))=some [.p (vx l1), .p (vx l2)]:=by simp[va,MB_get]
 refine ix_at it at0 (ix_at it at1 ?_)
 walk_at "pk"
 obtain⟨a1,a2⟩:=hls l1 (by simp)
 obtain⟨c1,c2⟩:=hls l2 (by simp)
 refine⟨jD B7.pur,imT ⟨bits,ms,room,l1,l2⟩, ?_, ?_⟩
 ·have hf:frzs (frzB M.length 1 (MB M k o7 [MO.lst (List.map U.p (List.map zA ms)),MO.lst [U.p (vx l1),U.p (vx l2)],MO.tup [U.p (T.int bits),U.m (List.length M+0)],MO.tup [U.m (List.length M+2),U.p (T.int room),U.p (vx l1),U.p (vx l2)]])) ((ms.map zA).map U.p)=some (ms.map zA):=Xd (fun t=>Xe) _
  simp only[frzB,MB_get,List.getElem?_cons_succ,List.getElem?_cons_zero,Nat.le_add_right,if_true,frzs,Xe]
  rw[hf]
  rfl
 ·rw[jE]
  exact q _ _ ⟨hb,hr,by show ms.length<=400; omega,by show l1.length<=400; omega,by show l2.length<=400; omega,hms,a2,c2⟩ (by show ms.length<=400; omega) a1 B7
local macro_rules | `(tactic| walk_at "vx") => `(tactic| simp only[z0,jm,jR,zQ,zj,uTry,zC,zZ,ke,kg,endX,uAsG,xj,xf,km,xl,zl,vE,xi,xk,zm,vm,jm,zC,uIfX,uOpX,uCbX,xY,Qi,uX0,xZ,uZipKD,uLenKD,uInD,uInK,jS])
local macro_rules | `(tactic| walk_at "pk") => `(tactic| (walk_at "v"; repeat ((first|walk_at "vx" |refine qY (by decide) ?_|refine qI rfl ?_); walk_at "v")))
theorem QP {t:Str} {m:Int} (g:xL t.cps.toList m) (hm:m<=600):t.length<=640:=by
 have h:=g.2.1
 have:t.cps.toList.length<=(figL t.cps.toList).length+1:=by
  unfold figL
  split
  ·rw[List.length_tail]; omega
  ·omega
 rw[qX]
 omega
def Zp:List U->MM->UK->UX->Prop:=fun us M Q X=>∃(t:Str) (m:Int),us=[.p (.str t), .p (.int m)]/\(t.length<=10000000/\m<=600)/\(∀i,xL t.cps.toList m->PySem.intText? t=some i->Q (.p (.int i)) M)/\(¬xL t.cps.toList m->X "NoText" none M)
theorem JL {CN:Addr} {f:Addr} {fd:FuncData} (F:Fun K "read_whole" "read_whole" zc f fd) (N:Nms mg) (GFig:GStr mg "FIGURES" "0123456789") (ONoText:ExcC K mg "NoText" CN) (DConsistsOf:Def P w K mg base "consists_of" 1 ["text", "signs"] (spP ji)):FnOk P w K mg base (CXe P w) 2 f fd ["text", "most"] (spX mg Zp):=by
 refine F.zX scReadWhole (fun us M Qu Xu h=>?_) (fun cdv A outer s H E hr=>?_)
 ·obtain⟨_,_,rfl,_⟩:=h
  rfl
 refine⟨_,(zu (Vj (qC (i:=2) scReadWhole.nd rfl (Or.inl rfl) (xB (ko (xJ PySem.F.plainAttrs_str PySem.F.slot_str_startswith PySem.F.type_str_startswith J0 (qv 0) (qa_c ql qd))) (qE xb (qv 0) (qG qe) qN) (qv 0))))
  (zu (V8 (kn (jT (kq (ZW op_le op_le qe (qr v5 (by rfl) N.len zb (qa_c (qv 2) qd)) (qv 1))) (jL (kq (ko (qB DConsistsOf (hr.mono (by first|decide|exact Nat.le_refl _)) (qa_c (qv 2) (qa_c (Jp GFig rfl) qd))))))))
   (vU (zL rfl rfl ONoText (qa_c ql qd)))
   xQ)
  (zu (V8 (kn (Jm (qt vW (qD Qb (qv 2) qe (fun _ _=>rfl)) ql (qF _)) (V9 (qt jU (qv 0) ql (qF _)))))
   (vU (zL rfl rfl ONoText (qa_c ql qd)))
   xQ)
  (vU (Vj (qM (vI VM (by rfl) N.int XS (qa_c (qv 0) qd)))))))),_,(qj (qA (XR (ct_b (xU XF (qb 0) (qa (ce_c (.str _)) qf))) (xw (qb 0) (qJ (ce_c (.int _))) qP) (qb 0)) (qo 2))
   (qj (vD (kM (Qc (qx (Xn (ve fun _ _=>.bl _) (ve fun _ _=>.bl _) (ce_c (.int _)) (zW zz (qa (qb 2) qf)) (qb 1)))) (Qc (ct_b (vb (qa (qb 2) (qa (ce_c (.str _)) qf))))))
   (zO (qa (ce_c (.str _)) qf))
   qO)
   (qj (vD (ct_and (qx (qk vn (qk ju (qb 2) (ce_c (.int _))) (ce_c (.str _)))) (qx (qk jO (qb 0) (ce_c (.str _)))))
   (zO (qa (ce_c (.str _)) qf))
   qO)
   (qU (zW Xo (qa (qb 0) qf)))))),fun us M Qu Xu h=>?_⟩
 obtain⟨t,m,rfl,hl,k1,k2⟩:=h
 obtain⟨hL,hz⟩:640<=sizeLine/\t.length<=sizeLine:=⟨by decide,Nat.le_trans hl.1 (by decide)⟩
 walk_at "pk"
 have key:∀f:Str,f=(if Txt.startswith t "-" = true then Txt.slice t (some 1) none else t)->f.cps.toList=figL t.cps.toList/\f.length<=t.length:=fun f e=>by
  subst e
  rw[V2]
  unfold figL
  by_cases h:t.cps.toList.head?=some 45
  ·rw[if_pos h,decide_eq_true h,if_pos rfl]
   exact⟨kP (by cases q:t.cps.toList with
    |nil=>rw[q] at h; cases h
    |cons=>simp),Txt.slice_le ..⟩
  ·rw[if_neg h,decide_eq_false h,if_neg (by decide)]
   exact⟨rfl,Nat.le_refl _⟩
 by_cases hs:Txt.startswith t "-" = true
 ·refine qI hs ⟨hz, ?_⟩
  obtain⟨hf,hfl⟩:=key _ (if_pos hs).symm
  have hlen:=(qX).trans (congrArg List.length hf)
  have no:¬xL t.cps.toList m->1<=sizeLine/\∃nm p ρ,tagU "NoText" none [some (U.p (T.str t)),some (U.p (T.int m)),some (U.p (T.str (Txt.slice t (some 1) none)))]=tagU nm p ρ/\List.length ρ=3/\Xu nm p M:=fun g=>⟨by decide,_,_,_,rfl,rfl,k2 g⟩
  walk_at "pk"
  refine⟨Nat.le_trans hfl hz, ?_⟩
  refine ite2 (fun h1=>?_) (fun h1=>no fun g=>g.1 (List.length_eq_zero_iff.mp (by omega)))
  refine ite2 (fun h2=>no fun g=>?_) (fun h2=>?_)
  ·have g2:=g.2.1
   rw[<-hlen] at g2
   rw[decide_eq_true g2] at h2
   cases h2
  have h2':(((figL t.cps.toList).length:Nat):Int)<=m:=by
   rw[<-hlen]
   simpa using h2
  refine⟨_,_,rfl,(by have:=hl.2; omega), ?_⟩
  rw[hf,j7]
  walk_at "pk"
  by_cases h3:∀c∈figL t.cps.toList,c∈digs
  ·rw[decide_eq_true h3]
   walk_at "pk"
   cases e:figL t.cps.toList with
   |nil=>rw[e] at hlen; simp at hlen; omega
   |cons c r =>
   refine⟨_,_,c,rfl,rfl,Nat.le_trans hfl hz,by rw[hf,e]; exact at0, ?_⟩
   walk_at "pk"
   have yes:xL t.cps.toList m->sIntX [T.str t] fun t=>Qu (U.p t) M:=fun g=>by
    have h640:=QP g hl.2
    obtain⟨i,hi⟩:=QQ g h640
    exact⟨t,i,rfl,h640,hi,k1 i g hi⟩
   have hd:(figL t.cps.toList).head?=some c:=by rw[e]; rfl
   have ne:figL t.cps.toList≠[]:=by rw[e]; simp
   refine ite2 (fun h4=>?_) (fun h4=>yes ⟨ne,h2',h3,fun z=>h4 (j6 (Option.some.inj (hd.symm.trans z.1)))⟩)
   have c48:=jW h4
   subst c48
   refine ite2 (fun h5=>no fun g=>g.2.2.2 ⟨hd, ?_⟩) (fun h5=>yes ⟨ne,h2',h3,fun z=>?_⟩)
   ·by_cases h6:1<t.cps.toList.length
    ·exact h6
    ·rw[decide_eq_true ((jV hd).mpr h6)] at h5
     cases h5
   ·exact(jV hd).mp (by simpa using h5) z.2
  ·rw[decide_eq_false h3]
   walk_at "pk"
   exact no fun g=>h3 g.2.2.1
 ·refine qY hs ?_
  obtain⟨hf,hfl⟩:=key _ (if_neg hs).symm
  have hlen:=(qX).trans (congrArg List.length hf)
  have no:¬xL t.cps.toList m->1<=sizeLine/\∃nm p ρ,tagU "NoText" none [some (U.p (T.str t)),some (U.p (T.int m)),some (U.p (T.str t))]=tagU nm p ρ/\List.length ρ=3/\Xu nm p M:=fun g=>⟨by decide,_,_,_,rfl,rfl,k2 g⟩
  walk_at "pk"
  refine⟨Nat.le_trans hfl hz, ?_⟩
  refine ite2 (fun h1=>?_) (fun h1=>no fun g=>g.1 (List.length_eq_zero_iff.mp (by omega)))
  refine ite2 (fun h2=>no fun g=>?_) (fun h2=>?_)
  ·have g2:=g.2.1
   rw[<-hlen] at g2
   rw[decide_eq_true g2] at h2
   cases h2
  have h2':(((figL t.cps.toList).length:Nat):Int)<=m:=by
   rw[<-hlen]
   simpa using h2
  refine⟨_,_,rfl,(by have:=hl.2; omega), ?_⟩
  rw[show t.cps.toList=figL t.cps.toList from hf,j7]
  walk_at "pk"
  by_cases h3:∀c∈figL t.cps.toList,c∈digs
  ·rw[decide_eq_true h3]
   walk_at "pk"
   cases e:figL t.cps.toList with
   |nil=>rw[e] at hlen; simp at hlen; omega
   |cons c r =>
   refine⟨_,_,c,rfl,rfl,Nat.le_trans hfl hz,by rw[hf,e]; exact at0, ?_⟩
   walk_at "pk"
   have yes:xL t.cps.toList m->sIntX [T.str t] fun t=>Qu (U.p t) M:=fun g=>by
    have h640:=QP g hl.2
    obtain⟨i,hi⟩:=QQ g h640
    exact⟨t,i,rfl,h640,hi,k1 i g hi⟩
   have hd:(figL t.cps.toList).head?=some c:=by rw[e]; rfl
   have ne:figL t.cps.toList≠[]:=by rw[e]; simp
   refine ite2 (fun h4=>?_) (fun h4=>yes ⟨ne,h2',h3,fun z=>h4 (j6 (Option.some.inj (hd.symm.trans z.1)))⟩)
   have c48:=jW h4
   subst c48
   refine ite2 (fun h5=>no fun g=>g.2.2.2 ⟨hd, ?_⟩) (fun h5=>yes ⟨ne,h2',h3,fun z=>?_⟩)
   ·by_cases h6:1<t.cps.toList.length
    ·exact h6
    ·rw[decide_eq_true ((jV hd).mpr h6)] at h5
     cases h5
   ·exact(jV hd).mp (by simpa using h5) z.2
  ·rw[decide_eq_false h3]
   walk_at "pk"
   exact no fun g=>h3 g.2.2.1
abbrev vS:Stmt:=top 15
theorem Vh:FnScope ["text"] ["text"] (qc vS):=⟨rfl,rfl,rfl,by decide +kernel,rfl,by decide +kernel,by decide +kernel⟩
def Ko:List U->MM->UK->UX->Prop:=fun us M Q X=>∃t:Str,us=[.p (.str t)]/\t.length<=10000000/\(∀i,xL t.cps.toList 60->PySem.intText? t=some i->Q (.p (.int i)) M)/\(¬xL t.cps.toList 60->X "NoText" none M)
theorem XC {f:Addr} {fd:FuncData} (F:Fun K "read_number" "read_number" vS f fd) (GMostF:GInt mg "MOST_FIGURES" 60) (DReadWhole:DefX P w K mg base "read_whole" 2 ["text", "most"] (spX mg Zp)):FnOk P w K mg base (CXe P w) 3 f fd ["text"] (spX mg Ko):=by
 refine F.zX Vh (fun us M Qu Xu h=>?_) (fun cdv A outer s H E hr=>?_)
 ·obtain⟨_,rfl,_⟩:=h
  rfl
 refine⟨_,(vU (qx_ret (vF DReadWhole (hr.mono (by first|decide|exact Nat.le_refl _)) (qa_c (qv 0) (qa_c (Zc GMostF rfl) qd))))),_,(Q2 (vM (qa (qb 0) (qa (ce_c (.int _)) qf)))),fun us M Qu Xu h=>?_⟩
 obtain⟨t,rfl,hl,k1,k2⟩:=h
 walk_at "pk"
 exact⟨t,60,rfl,⟨hl,by decide⟩,k1,fun g=>⟨_,_,_,rfl,rfl,k2 g⟩⟩
abbrev vA:Stmt:=top 16
theorem Qr:FnScope ["text"] ["text"] (qc vA):=⟨rfl,rfl,rfl,by decide +kernel,rfl,by decide +kernel,by decide +kernel⟩
def gLetX:List U->MM->UK->UX->Prop:=fun us M Q X=>∃t:Str,us=[.p (.str t)]/\t.length<=10000000/\(KdOk t->Q (.p (.str t)) M)/\(¬KdOk t->X "NoText" none M)
theorem Zh {CN:Addr} {f:Addr} {fd:FuncData} (F:Fun K "read_letters" "read_letters" vA f fd) (N:Nms mg) (GLet:GStr mg "LETTERS" "abcdefghijklmnopqrstuvwxyz") (GMostL:GInt mg "MOST_LETTERS" 8) (ONoText:ExcC K mg "NoText" CN) (DConsistsOf:Def P w K mg base "consists_of" 1 ["text", "signs"] (spP ji)):FnOk P w K mg base (CXe P w) 2 f fd ["text"] (spX mg gLetX):=by
 refine F.zX Qr (fun us M Qu Xu h=>?_) (fun cdv A outer s H E hr=>?_)
 ·obtain⟨_,rfl,_⟩:=h
  rfl
 refine⟨_,(zu (V8 (kn (jT (kq (ZW op_le op_le qe (qr v5 (by rfl) N.len zb (qa_c (qv 0) qd)) (Zc GMostL rfl))) (jL (kq (ko (qB DConsistsOf (hr.mono (by first|decide|exact Nat.le_refl _)) (qa_c (qv 0) (qa_c (Jp GLet rfl) qd))))))))
   (vU (zL rfl rfl ONoText (qa_c ql qd)))
   xQ)
  (vU (Vj (qM (qv 0))))),_,(qj (vD (kM (Qc (qx (Xn (ve fun _ _=>.bl _) (ve fun _ _=>.bl _) (ce_c (.int _)) (zW zz (qa (qb 0) qf)) (ce_c (.int _))))) (Qc (ct_b (vb (qa (qb 0) (qa (ce_c (.str _)) qf))))))
   (zO (qa (ce_c (.str _)) qf))
   qO)
   (qU (qb 0))),fun us M Qu Xu h=>?_⟩
 obtain⟨t,rfl,hl,k1,k2⟩:=h
 have no:¬KdOk t->1<=sizeLine/\∃nm p ρ,tagU "NoText" none [some (U.p (T.str t))]=tagU nm p ρ/\List.length ρ=1/\Xu nm p M:=fun g=>⟨by decide,_,_,_,rfl,rfl,k2 g⟩
 walk_at "pk"
 refine⟨Nat.le_trans hl (by decide),ite2 (fun h1=>ite2 (fun h2=>no fun g=>?_) fun h2=>?_) fun h1=>no fun g=>h1 (by have:=g.1; omega)⟩
 ·have:=g.2.1
  rw[decide_eq_true (by omega)] at h2
  cases h2
 have h2':(t.length:Int)<=8:=by simpa using h2
 refine⟨t,_,rfl,by omega, ?_⟩
 rw[QM]
 walk_at "pk"
 by_cases h3:∀c∈t.cps.toList,c∈lettersN
 ·rw[decide_eq_true h3]
  walk_at "pk"
  exact k1 ⟨by omega,by omega,h3⟩
 ·rw[decide_eq_false h3]
  walk_at "pk"
  exact no fun g=>h3 g.2.2
local macro_rules | `(tactic| walk_at "vx") => `(tactic| simp only[z0,jm,jR,zQ,zj,uTry,zC,zZ,ke,kg,endX,uAsG,xj,xf,km,xl,zl,vE,xi,xk,zm,vm,uIfX,uOpX,uCbX,xY,Qi,uX0,xZ,uInK,jS,zY,jF,kf,jG,Q7,xg,xh,xP])
local macro_rules | `(tactic| walk_at "pk") => `(tactic| (walk_at "v"; repeat ((first|walk_at "vx" |refine qY (by decide) ?_|refine qI rfl ?_); walk_at "v")))
open Classical in
noncomputable def numR (x:Str):Option Int:=if xL x.cps.toList 60 then PySem.intText? x else none
theorem Zi {x:Str} {M:MM} {Q:UK} {X:UX} (hl:x.length<=10000000) (q:∀i,numR x=some i->Q (.p (.int i)) M) (e:numR x=none->X "NoText" none M):Ko [.p (.str x)] M Q X :=
 ⟨x,rfl,hl,fun i g hi=>q i (by unfold numR; rw[if_pos g,hi]),fun g=>e (by unfold numR; rw[if_neg g])⟩
def behR (h row:Str):Option (List Str):=match Txt.split row ⟨#[32]⟩ with | []=>none|z::zs=>if z=h then some zs else none
abbrev vB:Stmt:=top 19
theorem scPartsBehind:FnScope ["head", "row", "parts"] ["head", "row"] (qc vB):=⟨rfl,rfl,rfl,by decide +kernel,rfl,by decide +kernel,by decide +kernel⟩
def gBehX:List U->MM->UK->UX->Prop:=fun us M Q X=>∃h row:Str,us=[.p (.str h), .p (.str row)]/\row.length<=9500000/\(∀zs,behR h row=some zs->Q (.p (.lst (zs.map T.str))) M)/\(behR h row=none->X "NoText" none M)
theorem ok_behX {CN:Addr} {f:Addr} {fd:FuncData} (F:Fun K "parts_behind" "parts_behind" vB f fd) (ONoText:ExcC K mg "NoText" CN):FnOk P w K mg base (CXe P w) 1 f fd ["head", "row"] (spX mg gBehX):=by
 refine F.zX scPartsBehind (fun us M Qu Xu h=>?_) (fun cdv A outer s H E hr=>?_)
 ·obtain⟨_,_,rfl,_⟩:=h
  rfl
 refine⟨_,(zu (Vj (qC (i:=2) scPartsBehind.nd rfl (Or.inl rfl) (xJ PySem.F.plainAttrs_str PySem.F.slot_str_split PySem.F.type_str_split zN (qv 1) (qa_c ql qd))))
  (zu (V8 (qt jU (qD (qh (K:=K) rfl) (qv 2) qe (fun _ _=>rfl)) (qv 0) (qF _))
   (vU (zL rfl rfl ONoText (qa_c ql qd)))
   xQ)
  (vU (Vj (qM (qE (qR (K:=K) rfl) (qv 2) (qG qe) qN)))))),_,(qj (qA (xU zI (qb 1) (qa (ce_c (.str _)) qf)) (qo 2))
   (qj (vD (qx (qk jO (qy (qb 2) (ce_c (.int _))) (qb 0)))
   (zO (qa (ce_c (.str _)) qf))
   qO)
   (qU (zJ (qb 2) (qJ (ce_c (.int _))) qP)))),fun us M Qu Xu h=>?_⟩
 obtain⟨h,row,rfl,hl,k1,k2⟩:=h
 have hne:Txt.split row ⟨#[32]⟩≠[]:=jZ
 unfold behR at k1 k2
 walk_at "pk"
 cases ez:Txt.split row ⟨#[32]⟩ with
 |nil=>exact absurd ez hne
 |cons z zs =>
 rw[ez] at k1 k2
 refine⟨32,z::zs,by rw[sp_is],ez,Nat.le_trans (m:=10000000) (by omega) (by decide), ?_⟩
 dsimp only at k1 k2
 walk_at "pk"
 by_cases hz:z=h
 ·rw[if_pos hz] at k1 k2
  refine qY (by rw[decide_eq_true hz]; decide) ?_
  walk_at "pk"
  rw[cut1]
  exact k1 zs rfl
 ·rw[if_neg hz] at k1 k2
  exact qI (by rw[decide_eq_false hz]; rfl) ⟨by decide,_,_,_,rfl,rfl,k2 rfl⟩
noncomputable def vJ:List Str->Option (List Int)
 | []=>some []
 |t::ts=>match numR t with|none=>none|some r=>(vJ ts).map (r :: ·)
theorem ZZ {t:Str} (h:numR t=none):∀{i:Nat} {ts:List Str},ts[i]?=some t->vJ ts=none
 |_, [],h1=>by simp at h1
 |0,t'::ts,h1=>by
  have e:t'=t:=by simpa using h1
  subst e
  unfold vJ
  rw[h]
 |i+1,t'::ts,h1=>by
  unfold vJ
  rw[ZZ h (i:=i) (ts:=ts) (by simpa using h1)]
  cases numR t'<;>rfl
theorem Vq {t:Str} {r:Int} (h:numR t=some r):∀{i:Nat} {ts:List Str} {acc:List Int},ts[i]?=some t->vJ (ts.take i)=some acc->vJ (ts.take (i+1))=some (acc++[r])
 |_, [],_,h1,_=>by simp at h1
 |0,t'::ts,acc,h1,h2=>by
  have e:t'=t:=by simpa using h1
  subst e
  have:acc=[]:=by simpa[vJ] using h2.symm
  subst this
  simp[vJ,h]
 |i+1,t'::ts,acc,h1,h2=>by
  rw[List.take_succ_cons] at h2 ⊢
  unfold vJ at h2 ⊢
  cases e:numR t' with
  |none=>rw[e] at h2; cases h2
  |some q =>
   rw[e] at h2
   dsimp only at h2 ⊢
   cases e2:vJ (ts.take i) with
   |none=>rw[e2] at h2; cases h2
   |some a =>
    rw[e2] at h2
    rw[Vq h (i:=i) (ts:=ts) (acc:=a) (by simpa using h1) e2]
    cases h2
    rfl
theorem kH {h row:Str} {zs:List Str} (e:behR h row=some zs):(∀z∈zs,z.length<=row.length)/\zs.length<=row.length:=by
 unfold behR at e
 cases ez:Txt.split row ⟨#[32]⟩ with
 |nil=>rw[ez] at e; cases e
 |cons z zs' =>
  rw[ez] at e
  dsimp only at e
  split at e
  ·cases e
   have hf:=zk (x:=row) (c:=32)
   rw[ez] at hf
   exact⟨fun x hx=>vR (c:=32) (by rw[ez]; exact List.mem_cons_of_mem _ hx),by simpa using hf⟩
  ·cases e
noncomputable def zU (h row:Str):Option (List Int):=(behR h row).bind vJ
abbrev vz:Stmt:=top 20
theorem Qq:FnScope ["head", "row"] ["head", "row"] (qc vz):=⟨rfl,rfl,rfl,by decide +kernel,rfl,by decide +kernel,by decide +kernel⟩
theorem kL:(["head", "row", "part"]:List Str).Nodup:=by decide +kernel
def Xa:List U->MM->UK->UX->Prop:=fun us M Q X=>∃h row:Str,us=[.p (.str h), .p (.str row)]/\row.length<=9500000/\(∀ns,zU h row=some ns->Q (.p (vx ns)) M)/\(zU h row=none->X "NoText" none M)
theorem ok_numsX {f:Addr} {fd:FuncData} (F:Fun K "read_numbers" "read_numbers" vz f fd) (DPartsBehind:DefX P w K mg base "parts_behind" 1 ["head", "row"] (spX mg gBehX)) (DReadNumber:DefX P w K mg base "read_number" 3 ["text"] (spX mg Ko)):FnOk P w K mg base (CXe P w) 4 f fd ["head", "row"] (spX mg Xa):=by
 refine F.zXh Qq (fun us M Qu Xu h=>?_) (fun cdv A outer s H E hr=>?_)
 ·obtain⟨_,_,rfl,_⟩:=h
  rfl
 refine⟨_,(Qy (V5 (qxc_lcY [false,false] ["part"] (vF DPartsBehind (hr.mono (by first|decide|exact Nat.le_refl _)) (qa_c (qv 0) (qa_c (qv 1) qd))) (fun _ _ _=>(qV (i:=2) kL rfl (Or.inl rfl))) (fun _ _ _=>v7) (fun _ _ _ _=>(vF DReadNumber (hr.mono (by first|decide|exact Nat.le_refl _)) (qa_c (qv 2) qd)))))),_,(Q2 (cx_compY (vM (qa (qb 0) (qa (qb 1) qf))) (vy 2) xN (vM (qa (qb 2) qf)))),fun us M Qu Xu h=>?_⟩
 obtain⟨h,row,rfl,hl,k1,k2⟩:=h
 unfold zU at k1 k2
 walk_at "pk"
 refine⟨h,row,rfl,hl,fun zs hzs=>?_,fun hz=>⟨_,_,_,rfl,rfl,k2 (by rw[hz]; rfl)⟩⟩
 obtain⟨hsm,hfw⟩:=kH hzs
 rw[hzs] at k1 k2
 walk_at "pk"
 refine zB (ts:=zs.map T.str) (by rw[List.length_map]; exact Nat.le_trans (m:=10000000) (by omega) (by decide)) (fun i acc M'=>M'=M/\∃rs,vJ (zs.take i)=some rs/\acc=rs.map T.int) ⟨rfl, [],rfl,rfl⟩ ?_ ?_
 ·rintro i x acc M' hx _ ⟨rfl,rs,hrs,rfl⟩
  obtain⟨y,hy,rfl⟩:=jz hx
  walk_at "pk"
  exact Zi (Nat.le_trans (hsm y (List.mem_of_getElem? hy)) (by omega)) (fun n hn=>⟨_,rfl,rfl,rs++[n],Vq hn hy hrs,by simp⟩) fun hn=>⟨_,_,_,rfl,rfl,k2 (ZZ hn hy)⟩
 ·rintro acc M' ⟨rfl,rs,hrs,rfl⟩
  rw[List.length_map,List.take_length] at hrs
  exact k1 rs hrs
def onlyR:Option (List Int)->Option Int
 |some [n]=>some n
 |_=>none
theorem JJ {l:List Int} (h:l.length≠1):onlyR (some l)=none:=by
 match l,h with
 | [],_=>rfl
 | [_],h=>exact absurd rfl h
 |_::_::_,_=>rfl
noncomputable def oneR (h row:Str):Option Int:=onlyR (zU h row)
abbrev vk:Stmt:=top 21
theorem scReadOneNumber:FnScope ["head", "row", "numbers"] ["head", "row"] (qc vk):=⟨rfl,rfl,rfl,by decide +kernel,rfl,by decide +kernel,by decide +kernel⟩
def gOneX:List U->MM->UK->UX->Prop:=fun us M Q X=>∃h row:Str,us=[.p (.str h), .p (.str row)]/\row.length<=9500000/\(∀n,oneR h row=some n->Q (.p (.int n)) M)/\(oneR h row=none->X "NoText" none M)
theorem ok_oneX {CN:Addr} {f:Addr} {fd:FuncData} (F:Fun K "read_one_number" "read_one_number" vk f fd) (N:Nms mg) (ONoText:ExcC K mg "NoText" CN) (DReadNumbers:DefX P w K mg base "read_numbers" 4 ["head", "row"] (spX mg Xa)):FnOk P w K mg base (CXe P w) 5 f fd ["head", "row"] (spX mg gOneX):=by
 refine F.zX scReadOneNumber (fun us M Qu Xu h=>?_) (fun cdv A outer s H E hr=>?_)
 ·obtain⟨_,_,rfl,_⟩:=h
  rfl
 refine⟨_,(zu (qx_set (i:=2) scReadOneNumber.nd rfl (Or.inl rfl) (vF DReadNumbers (hr.mono (by first|decide|exact Nat.le_refl _)) (qa_c (qv 0) (qa_c (qv 1) qd))))
  (zu (V8 (qt jU (qr vg (by rfl) N.len zb (qa_c (qv 2) qd)) qe (qF _))
   (vU (zL rfl rfl ONoText (qa_c ql qd)))
   xQ)
  (vU (Vj (qM (qD (qh (K:=K) rfl) (qv 2) qe (fun _ _=>rfl))))))),_,(qj (kF (vM (qa (qb 0) (qa (qb 1) qf))))
   (qj (vD (qx (qk jO (zR (qa (qb 2) qf)) (ce_c (.int _))))
   (zO (qa (ce_c (.str _)) qf))
   qO)
   (qU (qy (qb 2) (ce_c (.int _)))))),fun us M Qu Xu h=>?_⟩
 obtain⟨h,row,rfl,hl,k1,k2⟩:=h
 unfold oneR at k1 k2
 walk_at "pk"
 refine⟨h,row,rfl,hl,fun ns hns=>?_,fun hn=>⟨_,_,_,rfl,rfl,k2 (by rw[hn]; rfl)⟩⟩
 rw[hns] at k1 k2
 unfold vx
 walk_at "pk"
 match ns,k1,k2 with
 | [],_,k2=>exact qI (by decide) ⟨by decide,_,_,_,rfl,rfl,k2 rfl⟩
 | [n],k1,_ =>
  refine qY (by simp) ?_
  walk_at "pk"
  exact k1 n rfl
 |a::b::l,_,k2=>exact qI (by simp; omega) ⟨by decide,_,_,_,rfl,rfl,k2 rfl⟩
open Classical in
noncomputable def mk3R:List Str->Option Mk3
 | [a,b,c]=>if KdOk a then(match numR b,numR c with|some m,some n=>some (a,m,n)|_,_=>none) else none
 |_=>none
noncomputable def xK (row:Str):Option Mk3:=(behR "mark" row).bind mk3R
theorem J1 {a b c:Str} (h:¬KdOk a):mk3R [a,b,c]=none:=by unfold mk3R; exact if_neg h
theorem J3 {a b c:Str} (h:KdOk a):mk3R [a,b,c]=match numR b,numR c with|some m,some n=>some (a,m,n)|_,_=>none:=by unfold mk3R; exact if_pos h
abbrev zD:Stmt:=top 22
theorem scReadMark:FnScope ["row", "parts"] ["row"] (qc zD):=⟨rfl,rfl,rfl,by decide +kernel,rfl,by decide +kernel,by decide +kernel⟩
def Kp:List U->MM->UK->UX->Prop:=fun us M Q X=>∃row:Str,us=[.p (.str row)]/\row.length<=9500000/\(∀m,xK row=some m->Q (.p (zA m)) M)/\(xK row=none->X "NoText" none M)
theorem ok_markX {CN:Addr} {f:Addr} {fd:FuncData} (F:Fun K "read_mark" "read_mark" zD f fd) (N:Nms mg) (ONoText:ExcC K mg "NoText" CN) (DPartsBehind:DefX P w K mg base "parts_behind" 1 ["head", "row"] (spX mg gBehX)) (DReadLetters:DefX P w K mg base "read_letters" 2 ["text"] (spX mg gLetX)) (DReadNumber:DefX P w K mg base "read_number" 3 ["text"] (spX mg Ko)):FnOk P w K mg base (CXe P w) 4 f fd ["row"] (spX mg Kp):=by
 refine F.zXh scReadMark (fun us M Qu Xu h=>?_) (fun cdv A outer s H E hr=>?_)
 ·obtain⟨_,rfl,_⟩:=h
  rfl
 refine⟨_,(zn (V4 (i:=1) scReadMark.nd rfl (Or.inl rfl) (jK (vF DPartsBehind (hr.mono (by first|decide|exact Nat.le_refl _)) (qa_c ql (qa_c (qv 0) qd)))))
  (zn (ZU (V8 (qt jU (qr vg (by rfl) N.len zb (qa_c (qv 1) qd)) qe (qF _))
   (vU (zL rfl rfl ONoText (qa_c ql qd)))
   xQ))
  (Qy (V5 (V6 (Qz (jK (vF DReadLetters (hr.mono (by first|decide|exact Nat.le_refl _)) (qa_c (qD (qh (K:=K) rfl) (qv 1) qe (fun _ _=>rfl)) qd))) (Qz (jK (vF DReadNumber (hr.mono (by first|decide|exact Nat.le_refl _)) (qa_c (qD (qh (K:=K) rfl) (qv 1) qe (fun _ _=>rfl)) qd))) (Qz (jK (vF DReadNumber (hr.mono (by first|decide|exact Nat.le_refl _)) (qa_c (qD (qh (K:=K) rfl) (qv 1) qe (fun _ _=>rfl)) qd))) V7)))))))),_,(qj (kF (vM (qa (ce_c (.str _)) (qa (qb 0) qf))))
   (qj (vD (qx (qk jO (zR (qa (qb 1) qf)) (ce_c (.int _))))
   (zO (qa (ce_c (.str _)) qf))
   qO)
   (Q2 (KD (za (vM (qa (qy (qb 1) (ce_c (.int _))) qf)) (za (vM (qa (qy (qb 1) (ce_c (.int _))) qf)) (za (vM (qa (qy (qb 1) (ce_c (.int _))) qf)) Zw))))))),fun us M Qu Xu h=>?_⟩
 obtain⟨row,rfl,hl,k1,k2⟩:=h
 unfold xK at k1 k2
 walk_at "pk"
 refine⟨_,row,rfl,hl,fun zs hzs=>?_,fun hz=>⟨_,_,_,rfl,rfl,k2 (by rw[hz]; rfl)⟩⟩
 obtain⟨hsm,hfw⟩:=kH hzs
 rw[hzs] at k1 k2
 have k1:∀m,mk3R zs=some m->Qu (U.p (zA m)) M:=k1
 have k2:mk3R zs=none->Xu "NoText" none M:=k2
 walk_at "pk"
 have no:mk3R zs=none->1<=sizeLine/\∃nm p ρ,tagU "NoText" none [some (U.p (T.str row)),some (U.p (T.lst (List.map T.str zs)))]=tagU nm p ρ/\List.length ρ=2/\Xu nm p M:=fun z=>⟨by decide,_,_,_,rfl,rfl,k2 z⟩
 match zs,hsm,k1,k2,no with
 | [],_,_,_,no=>exact qI (by decide) (no rfl)
 | [_],_,_,_,no=>exact qI (by simp) (no rfl)
 | [_,_],_,_,_,no=>exact qI (by simp) (no rfl)
 |_::_::_::_::l,_,_,_,no=>exact qI (by simp; omega) (no rfl)
 | [a,b,c],hsm,k1,k2,_ =>
  refine qY (by simp) ?_
  have sm:∀z∈[a,b,c],z.length<=10000000:=fun z hz=>Nat.le_trans (hsm z hz) (by omega)
  refine vd (t:=.str a) rfl ?_
  refine⟨a,rfl,sm a (by simp),fun ka=>?_,fun ka=>⟨_,_,_,rfl,rfl,k2 (J1 ka)⟩⟩
  rw[J3 ka] at k1 k2
  refine vd (t:=.str b) rfl ?_
  refine Zi (sm b (by simp)) (fun m hm=>?_) fun hm=>⟨_,_,_,rfl,rfl,k2 (by rw[hm])⟩
  rw[hm] at k1 k2
  refine vd (t:=.str c) rfl ?_
  refine Zi (sm c (by simp)) (fun n hn=>?_) fun hn=>⟨_,_,_,rfl,rfl,k2 (by rw[hn])⟩
  rw[hn] at k1 k2
  walk_at "pk"
  exact k1 (a,m,n) rfl
local macro_rules | `(tactic| walk_at "vx") => `(tactic| simp only[z0,jm,jR,zQ,zj,uTry,zC,zZ,ke,kg,endX,uAsG,xj,xf,km,xl,zl,vE,xi,xk,zm,vm,uIfX,uOpX,uCbX,xY,Qi,uX0,xZ,uInK,jS,zY,jF,kf,jG,Q7,xg,xh,xP])
local macro_rules | `(tactic| walk_at "pk") => `(tactic| (walk_at "v"; repeat ((first|walk_at "vx" |refine qY (by decide) ?_|refine qI rfl ?_); walk_at "v")))
theorem cutR {α:Type} {f:α->T} {xs:List α} {a b:Nat} (h1:a<=b) (h2:b<=xs.length):cutT (xs.map f) (some (a:Int)) (some (b:Int))=((xs.drop a).take (b-a)).map f:=by
 unfold cutT
 have e1:HT.sIx (xs.map f).length 0 (some (a:Int))=min a (xs.map f).length:=HT.sIx_nat _ _ a
 have e2:HT.sIx (xs.map f).length (xs.map f).length (some (b:Int))=min b (xs.map f).length:=HT.sIx_nat _ _ b
 rw[e1,e2]
 simp only[List.length_map]
 rw[Nat.min_eq_left (show a<=xs.length by omega),Nat.min_eq_left h2,List.map_take,List.map_drop]
noncomputable def vp:List Str->Option (List Mk3)
 | []=>some []
 |t::ts=>match xK t with|none=>none|some r=>(vp ts).map (r :: ·)
theorem Vw {t:Str} (h:xK t=none):∀{i:Nat} {ts:List Str},ts[i]?=some t->vp ts=none
 |_, [],h1=>by simp at h1
 |0,t'::ts,h1=>by
  have e:t'=t:=by simpa using h1
  subst e
  unfold vp
  rw[h]
 |i+1,t'::ts,h1=>by
  unfold vp
  rw[Vw h (i:=i) (ts:=ts) (by simpa using h1)]
  cases xK t'<;>rfl
theorem kZ {t:Str} {r:Mk3} (h:xK t=some r):∀{i:Nat} {ts:List Str} {acc:List Mk3},ts[i]?=some t->vp (ts.take i)=some acc->vp (ts.take (i+1))=some (acc++[r])
 |_, [],_,h1,_=>by simp at h1
 |0,t'::ts,acc,h1,h2=>by
  have e:t'=t:=by simpa using h1
  subst e
  have:acc=[]:=by simpa[vp] using h2.symm
  subst this
  simp[vp,h]
 |i+1,t'::ts,acc,h1,h2=>by
  rw[List.take_succ_cons] at h2 ⊢
  unfold vp at h2 ⊢
  cases e:xK t' with
  |none=>rw[e] at h2; cases h2
  |some q =>
   rw[e] at h2
   dsimp only at h2 ⊢
   cases e2:vp (ts.take i) with
   |none=>rw[e2] at h2; cases h2
   |some a =>
    rw[e2] at h2
    rw[kZ h (i:=i) (ts:=ts) (acc:=a) (by simpa using h1) e2]
    cases h2
    rfl
def comb:Option Int->Option (List Mk3)->Option Int->Option (List Int)->Option (List Int)->Option Im
 |some b,some ms,some r,some ws,some os=>some ⟨b,ms,r,ws,os⟩
 |_,_,_,_,_=>none
theorem comb1 {a b c d}:comb none a b c d=none:=by cases a<;>rfl
theorem comb2 {a b c d}:comb a none b c d=none:=by cases a<;>rfl
theorem comb3 {a b c d}:comb a b none c d=none:=by cases a<;>cases b<;>rfl
theorem comb4 {a b c d}:comb a b c none d=none:=by cases a<;>cases b<;>cases c<;>rfl
theorem comb5 {a b c d}:comb a b c d none=none:=by cases a<;>cases b<;>cases c<;>cases d<;>rfl
noncomputable def xn (rows:List Str):Option Im:=if rows.length<4 then none else comb (oneR "laying" (rows.getD 0 "")) (vp ((rows.drop 1).take (rows.length-4))) (oneR "room" (rows.getD (rows.length-3) "")) (zU "words" (rows.getD (rows.length-2) "")) (zU "outside" (rows.getD (rows.length-1) ""))
theorem kj {rows:List Str} (h:¬rows.length<4):∃r0 mid a b c,rows=r0::(mid++[a,b,c]):=by
 match rows,h with
 | [],h=>simp at h
 |r0::rest,h =>
  have h3:3<=rest.length:=by simp at h; omega
  refine⟨r0,rest.take (rest.length-3),rest[rest.length-3]'(by omega),rest[rest.length-2]'(by omega),rest[rest.length-1]'(by omega), ?_⟩
  congr 1
  have e:rest.drop (rest.length-3)=[rest[rest.length-3]'(by omega),rest[rest.length-2]'(by omega),rest[rest.length-1]'(by omega)]:=by
   apply List.ext_getElem
   ·simp; omega
   ·intro i h1 h2
    simp only[List.length_cons,List.length_nil] at h2
    rw[List.getElem_drop]
    match i,h2 with
    |0,_=>rfl
    |1,_=>simp only[List.getElem_cons_succ,List.getElem_cons_zero]; congr 1; omega
    |2,_=>simp only[List.getElem_cons_succ,List.getElem_cons_zero]; congr 1; omega
  rw[<-e,List.take_append_drop]
theorem kE {r0 a b c:Str} {mid:List Str}:xn (r0::(mid++[a,b,c]))=comb (oneR "laying" r0) (vp mid) (oneR "room" a) (zU "words" b) (zU "outside" c):=by
 unfold xn
 have hl:(r0::(mid++[a,b,c])).length=mid.length+4:=by simp
 rw[if_neg (by rw[hl]; omega),hl]
 have g:∀j x, [a,b,c][j]?=some x->(r0::(mid++[a,b,c])).getD (mid.length+1+j) "" = x:=fun j x hx=>by
  rw[List.getD_eq_getElem?_getD,show mid.length+1+j=(mid.length+j)+1 by omega,List.getElem?_cons_succ,List.getElem?_append_right (by omega),show mid.length+j-mid.length=j by omega,hx]
  rfl
 rw[show mid.length+4-3=mid.length+1+0 by omega,show mid.length+4-2=mid.length+1+1 by omega,show mid.length+4-1=mid.length+1+2 by omega,g 0 a rfl,g 1 b rfl,g 2 c rfl]
 simp
abbrev zd:Stmt:=top 23
theorem scReadImage:FnScope ["text", "rows", "behind", "laying", "room"] ["text"] (qc zd):=⟨rfl,rfl,rfl,by decide +kernel,rfl,by decide +kernel,by decide +kernel⟩
theorem Vs:(["text", "rows", "behind", "laying", "room", "row"]:List Str).Nodup:=by decide +kernel
def gImX:List U->MM->UK->UX->Prop:=fun us M Q X=>∃t:Str,us=[.p (.str t)]/\t.length<=9500000/\(∀im,xn (Txt.split t ⟨#[10]⟩)=some im->Q (.p (imT im)) M)/\(xn (Txt.split t ⟨#[10]⟩)=none->X "NoText" none M)
theorem ok_imX {CN:Addr} {f:Addr} {fd:FuncData} (F:Fun K "read_image" "read_image" zd f fd) (N:Nms mg) (GRows:GInt mg "ROWS_BEHIND_MARKS" 3) (ONoText:ExcC K mg "NoText" CN) (DReadOneNumber:DefX P w K mg base "read_one_number" 5 ["head", "row"] (spX mg gOneX)) (DReadMark:DefX P w K mg base "read_mark" 4 ["row"] (spX mg Kp)) (DReadNumbers:DefX P w K mg base "read_numbers" 4 ["head", "row"] (spX mg Xa)):FnOk P w K mg base (CXe P w) 6 f fd ["text"] (spX mg gImX):=by
 refine F.zXh scReadImage (fun us M Qu Xu h=>?_) (fun cdv A outer s H E hr=>?_)
 ·obtain⟨_,rfl,_⟩:=h
  rfl
 refine⟨_,(zn (ZU (Vj (qC (i:=1) scReadImage.nd rfl (Or.inl rfl) (xJ PySem.F.plainAttrs_str PySem.F.slot_str_split PySem.F.type_str_split zN (qv 0) (qa_c ql qd)))))
  (zn (ZU (Vj (qC (i:=2) scReadImage.nd rfl (Or.inl rfl) (qw JD (qr vg (by rfl) N.len zb (qa_c (qv 1) qd)) (Zc GRows rfl)))))
  (zn (ZU (V8 (qt JF (qv 2) qe (qF _))
   (vU (zL rfl rfl ONoText (qa_c ql qd)))
   xQ))
  (zn (V4 (i:=3) scReadImage.nd rfl (Or.inl rfl) (V6 (Qz (jK (vF DReadOneNumber (hr.mono (by first|decide|exact Nat.le_refl _)) (qa_c ql (qa_c (qD (qh (K:=K) rfl) (qv 1) qe (fun _ _=>rfl)) qd)))) (Qz (qxc_lc [false,false,false,false,false] ["row"] (vY (K:=K) rfl (qE (qR (K:=K) rfl) (qv 1) (qG qe) (qG (qv 2)))) (fun _ _ _=>(qV (i:=5) Vs rfl (Or.inl rfl))) (fun _ _ _=>v7) (fun _ _ _ _=>(vF DReadMark (hr.mono (by first|decide|exact Nat.le_refl _)) (qa_c (qv 5) qd)))) V7))))
  (zn (V4 (i:=4) scReadImage.nd rfl (Or.inl rfl) (jK (vF DReadOneNumber (hr.mono (by first|decide|exact Nat.le_refl _)) (qa_c ql (qa_c (qD (qh (K:=K) rfl) (qv 1) (qv 2) (fun _ _=>rfl)) qd)))))
  (Qy (V5 (V6 (Qz (ZV (qv 3)) (Qz (ZV (qv 4)) (Qz (jK (vF DReadNumbers (hr.mono (by first|decide|exact Nat.le_refl _)) (qa_c ql (qa_c (qD (qh (K:=K) rfl) (qv 1) (qw vC (qv 2) qe) (fun _ _=>rfl)) qd)))) (Qz (jK (vF DReadNumbers (hr.mono (by first|decide|exact Nat.le_refl _)) (qa_c ql (qa_c (qD (qh (K:=K) rfl) (qv 1) (qw vC (qv 2) qe) (fun _ _=>rfl)) qd)))) V7)))))))))))),_,(qj (qA (xU zI (qb 0) (qa (ce_c (.str _)) qf)) (qo 1))
   (qj (qA (qk (ve fun _ _=>.int _) (zR (qa (qb 1) qf)) (ce_c (.int _))) (qo 2))
   (qj (vD (qx (qk (ve fun _ _=>.bl _) (qb 2) (ce_c (.int _))))
   (zO (qa (ce_c (.str _)) qf))
   qO)
   (qj (kF (KD (za (vM (qa (ce_c (.str _)) (qa (qy (qb 1) (ce_c (.int _))) qf))) (za (cx_comp (xu (zJ (qb 1) (qJ (ce_c (.int _))) (qJ (qb 2)))) (vy 5) xN (vM (qa (qb 5) qf))) Zw))))
   (qj (kF (vM (qa (ce_c (.str _)) (qa (qy (qb 1) (qb 2)) qf))))
   (Q2 (KD (za (cx_0 (qb 3)) (za (cx_0 (qb 4)) (za (vM (qa (ce_c (.str _)) (qa (qy (qb 1) (qk (ve fun _ _=>.int _) (qb 2) (ce_c (.int _)))) qf))) (za (vM (qa (ce_c (.str _)) (qa (qy (qb 1) (qk (ve fun _ _=>.int _) (qb 2) (ce_c (.int _)))) qf))) Zw))))))))))),fun us M Qu Xu h=>?_⟩
 obtain⟨t,rfl,hl,k1,k2⟩:=h
 have hfw:=zk (x:=t) (c:=10)
 have hsm:∀x∈Txt.split t ⟨#[10]⟩,x.length<=9500000:=fun x hx=>Nat.le_trans (vR hx) (by omega)
 walk_at "pk"
 refine⟨10,_,by rw[nl_is],rfl,Nat.le_trans (m:=10000000) (by omega) (by decide), ?_⟩
 generalize Txt.split t ⟨#[10]⟩=rows at k1 k2 hfw hsm ⊢
 walk_at "pk"
 rw[List.length_map]
 by_cases h4:rows.length<4
 ·refine qI (by omega) ⟨by decide,_,_,_,rfl,rfl,k2 ?_⟩
  unfold xn
  rw[if_pos h4]
 refine qY (by omega) ?_
 obtain⟨r0,mid,a,b,c,rfl⟩:=kj h4
 rw[kE] at k1 k2
 have hlen:(r0::(mid++[a,b,c])).length=mid.length+4:=by simp
 have eb:(((r0::(mid++[a,b,c])).length:Nat):Int)-3=((mid.length+1:Nat):Int):=by rw[hlen]; push_cast; omega
 rw[eb]
 have r1:((r0::(mid++[a,b,c])).map T.str)[mid.length+1]?=some (.str a):=by simp
 have r2:((r0::(mid++[a,b,c])).map T.str)[mid.length+2]?=some (.str b):=by simp
 have r3:((r0::(mid++[a,b,c])).map T.str)[mid.length+3]?=some (.str c):=by simp
 have hc:cutT ((r0::(mid++[a,b,c])).map T.str) (some 1) (some ((mid.length+1:Nat):Int))=mid.map T.str:=by
  rw[show(some (1:Int))=some ((1:Nat):Int) from rfl,cutR (by omega) (by simp)]
  simp
 rw[List.map_cons] at hc r1 r2 r3
 walk_at "pk"
 refine⟨_,r0,rfl,hsm r0 (by simp),fun bits hb=>?_,fun hb=>⟨_,_,_,rfl,rfl,k2 (by rw[hb,comb1])⟩⟩
 rw[hb] at k1 k2
 rw[hc]
 have hmid:∀y∈mid,y.length<=9500000:=fun y hy=>hsm y (by simp[hy])
 refine zB (ts:=mid.map T.str) (by rw[List.length_map]; exact Nat.le_trans (m:=10000000) (by rw[hlen] at hfw; omega) (by decide)) (fun i acc M'=>M'=M/\∃ms,vp (mid.take i)=some ms/\acc=ms.map zA) ⟨rfl, [],rfl,rfl⟩ ?_ ?_
 ·rintro i x acc M' hx _ ⟨rfl,ms,hms,rfl⟩
  obtain⟨y,hy,rfl⟩:=jz hx
  walk_at "pk"
  exact⟨y,rfl,hmid y (List.mem_of_getElem? hy),fun m hm=>⟨zA m,rfl,rfl,ms++[m],kZ hm hy hms,by simp⟩,fun hm=>⟨_,_,_,rfl,rfl,k2 (by rw[Vw hm hy,comb2])⟩⟩
 rintro acc M' ⟨rfl,ms,hms,rfl⟩
 rw[List.length_map,List.take_length] at hms
 rw[hms] at k1 k2
 walk_at "pk"
 refine vd (v8 r1) ?_
 refine⟨_,a,rfl,hsm a (by simp),fun room hr2=>?_,fun hr2=>⟨_,_,_,rfl,rfl,k2 (by rw[hr2,comb3])⟩⟩
 rw[hr2] at k1 k2
 walk_at "pk"
 rw[show((mid.length+1:Nat):Int)+1=((mid.length+2:Nat):Int) by push_cast; omega]
 refine vd (v8 r2) ?_
 refine⟨_,b,rfl,hsm b (by simp),fun ws hws=>?_,fun hws=>⟨_,_,_,rfl,rfl,k2 (by rw[hws,comb4])⟩⟩
 rw[hws] at k1 k2
 walk_at "pk"
 rw[show((mid.length+1:Nat):Int)+2=((mid.length+3:Nat):Int) by push_cast; omega]
 refine vd (v8 r3) ?_
 refine⟨_,c,rfl,hsm c (by simp),fun os hos=>?_,fun hos=>⟨_,_,_,rfl,rfl,k2 (by rw[hos,comb5])⟩⟩
 rw[hos] at k1 k2
 walk_at "pk"
 exact k1 _ rfl
local macro_rules | `(tactic| walk_at "vx") => `(tactic| simp only[z0,jm,jR,zQ,zj,uTry,zC,zZ,ke,kg,endX,uAsG,xj,xf,km,xl,zl,vE,xi,xk,zm,vm,uIfX,uOpX,uCbX,xY,Qi,uX0,xZ,uInK,jS,zY,jF,kf,jG,Q7,xg,xh,xP])
local macro_rules | `(tactic| walk_at "pk") => `(tactic| (walk_at "v"; repeat ((first|walk_at "vx" |refine qY (by decide) ?_|refine qI rfl ?_); walk_at "v")))
def nod (c:Nat):Bool:=!decide (c∈digs)
def one1 (c:Nat):T:=.str ⟨#[c]⟩
theorem Z0 {l:List Nat} {i c:Nat} (h:l[i]?=some c):((l.take (i+1)).filter nod).map one1=((l.take i).filter nod).map one1++(if nod c then[one1 c] else[]):=by
 obtain⟨hi,rfl⟩:=List.getElem?_eq_some_iff.mp h
 rw[List.take_add_one,List.filter_append,List.map_append,List.getElem?_eq_getElem hi]
 show _++(List.filter nod [l[i]]).map one1=_
 cases e:nod l[i]<;>simp[e]
theorem JR {l:List Nat} {i c:Nat} (h:l[i]?=some c) (e:(!decide (c∈digs))=true):((l.take i).filter nod).map one1++[.str ⟨#[c]⟩]=((l.take (i+1)).filter nod).map one1:=by
 rw[Z0 h,show nod c=true from e]
 rfl
theorem nod_no {l:List Nat} {i c:Nat} (h:l[i]?=some c) (e:¬(!decide (c∈digs))=true):((l.take i).filter nod).map one1=((l.take (i+1)).filter nod).map one1:=by
 rw[Z0 h,show nod c=false from by simpa[nod] using e]
 simp
theorem JS {l:List Nat} (h:∀c∈l,c∈digs):(l.filter nod).map one1=[]:=by
 rw[List.map_eq_nil_iff,List.filter_eq_nil_iff]
 intro c hc
 simp[nod,h c hc]
theorem nod_ne {l:List Nat} (h:¬ ∀c∈l,c∈digs):((l.filter nod).map one1).length≠([]:List T).length:=fun z=>h fun c hc=>by
 have e:l.filter nod=[]:=by simpa using z
 have:=List.filter_eq_nil_iff.mp e c hc
 simpa[nod] using this
def nol (c:Nat):Bool:=!decide (c∈lettersN)
theorem nol_take {l:List Nat} {i c:Nat} (h:l[i]?=some c):((l.take (i+1)).filter nol).map one1=((l.take i).filter nol).map one1++(if nol c then[one1 c] else[]):=by
 rw[List.take_add_one,h]
 simp only[Option.toList,List.filter_append,List.map_append]
 congr 1
 cases e:nol c<;>simp[List.filter,e]
theorem nol_nil {l:List Nat} (h:∀c∈l,c∈lettersN):(l.filter nol).map one1=[]:=by
 rw[List.filter_eq_nil_iff.mpr fun c hc=>by simp[nol,h c hc]]
 rfl
theorem nol_ne {l:List Nat} (h:¬ ∀c∈l,c∈lettersN):((l.filter nol).map one1).length≠([]:List T).length:=fun z=>h fun c hc=>by
 have e:l.filter nol=[]:=by simpa using z
 have:=List.filter_eq_nil_iff.mp e c hc
 simpa[nol] using this
theorem num_no {t:Str} (h:¬xL t.cps.toList 60):numR t=none:=by unfold numR; rw[if_neg h]
theorem num_yes {t:Str} {i:Int} (h:xL t.cps.toList 60) (e:PySem.intText? t=some i):numR t=some i:=by unfold numR; rw[if_pos h,e]
abbrev kR:Stmt:=top 35
theorem scValue:FnScope ["text", "figures"] ["text"] (qc kR):=⟨rfl,rfl,rfl,by decide +kernel,rfl,by decide +kernel,by decide +kernel⟩
theorem ndValue1:(["text", "figures", "sign"]:List Str).Nodup:=by decide +kernel
def gVal:List T->(T->Prop)->Prop:=fun ts Q=>∃t:Str,ts=[.str t]/\t.length<=10000000/\(∀i,numR t=some i->Q (.int i))/\(numR t=none->Q .non)
theorem ok_val72 {f:Addr} {fd:FuncData} (F:Fun K "_law_value" "_law_value" kR f fd) (N:Nms mg):FnOk P w K mg base CX0 1 f fd ["text"] (spP gVal):=by
 refine F.zP scValue (fun ts Qt h=>?_) (fun cdv A outer s H E hr=>?_)
 ·obtain⟨_,rfl,_⟩:=h
  rfl
 refine⟨_,(qg (qC (i:=1) scValue.nd rfl (Or.inl rfl) (xB (qt vW (qE xb (qv 0) qN (qG qe)) ql (qF _)) (qE xb (qv 0) (qG qe) qN) (qv 0)))
  (qg (vG (kn (jT (qt vW (qv 1) ql (qF _)) (jT (qt op_gt (qr v5 (by rfl) N.len zb (qa_c (qv 1) qd)) qe (qF _)) (jL (qt (JE (K:=K) rfl hr.units) (kr [false,false] ["sign"] (Jn (qv 1)) (fun _ _ _=>(qV (i:=2) ndValue1 rfl (Or.inl rfl))) (fun _ _ _=>Za (qt Vm (qv 2) ql (by with_unfolding_all rfl))) (fun _ _ _=>(qv 2))) (qZ qd) (qF _))))))
   (qp (qM zw))
   qQ)
  (qp (qM (xB (kn (Jm (qt vW (qD Qb (qv 1) qe (fun _ _=>rfl)) ql (qF _)) (V9 (qt op_gt (qr v5 (by rfl) N.len zb (qa_c (qv 0) qd)) qe (qF _))))) zw (vI VM (by rfl) N.int XS (qa_c (qv 0) qd))))))),_,(qj (qA (XR (qx (qk vn (xw (qb 0) qP (qJ (ce_c (.int _)))) (ce_c (.str _)))) (xw (qb 0) (qJ (ce_c (.int _))) qP) (qb 0)) (qo 1))
   (qj (vD (kM (qx (qk vn (qb 1) (ce_c (.str _)))) (kM (qx (qk (ve fun _ _=>.bl _) (zW zz (qa (qb 1) qf)) (ce_c (.int _)))) (qx (qk JA (zr (KG (qb 1)) (vy 2) (qx (qk Zf (qb 2) (ce_c (.str _)))) (qb 2)) (vq qf)))))
   (qU (ce_c .non))
   qO)
   (qU (XR (ct_and (qx (qk vn (qk ju (qb 1) (ce_c (.int _))) (ce_c (.str _)))) (qx (qk (ve fun _ _=>.bl _) (zW zz (qa (qb 0) qf)) (ce_c (.int _))))) (ce_c .non) (zW Xo (qa (qb 0) qf)))))),fun ts Qt h=>?_⟩
 obtain⟨t,rfl,hl,k1,k2⟩:=h
 have hz:t.length<=sizeLine:=Nat.le_trans hl (by decide)
 have no:¬xL t.cps.toList 60->Qt T.non:=fun g=>k2 (num_no g)
 have yes:xL t.cps.toList 60->sIntX [T.str t] fun t=>Qt t:=fun g=>by
  have h640:=QP g (by decide)
  obtain⟨i,hi⟩:=QQ g h640
  exact⟨t,i,rfl,h640,hi,k1 i (num_yes g hi)⟩
 walk_at "pk"
 refine⟨hz, ?_⟩
 have key:∀f:Str,f=(if Txt.slice t none (some 1) = "-" then Txt.slice t (some 1) none else t)->f.cps.toList=figL t.cps.toList/\f.length<=t.length:=fun f e=>by
  subst e
  unfold figL
  by_cases h:t.cps.toList.head?=some 45
  ·rw[if_pos h,if_pos (slice_one.symm▸h)]
   exact⟨kP (by cases q:t.cps.toList with
    |nil=>rw[q] at h; cases h
    |cons=>simp),Txt.slice_le ..⟩
  ·rw[if_neg h,if_neg (slice_one.symm▸h)]
   exact⟨rfl,Nat.le_refl _⟩
 by_cases hs:Txt.slice t none (some 1) = "-"
 ·refine qI hs ⟨hz, ?_⟩
  obtain⟨hf,hfl⟩:=key _ (if_pos hs).symm
  have hlen:=(qX).trans (congrArg List.length hf)
  walk_at "pk"
  refine ite2 (fun h1=>no fun g=>g.1 (by rw[<-hf,h1]; decide +kernel)) (fun h1=>?_)
  refine⟨Nat.le_trans hfl hz, ?_⟩
  refine ite2 (fun h2=>no fun g=>?_) (fun h2=>?_)
  ·have g2:=g.2.1
   rw[<-hlen] at g2
   omega
  have h2':(((figL t.cps.toList).length:Nat):Int)<=60:=by
   rw[<-hlen]
   omega
  walk_at "pk"
  refine xW (Nat.le_trans hfl hz) (fun i acc M=>M=[]/\acc=(((Txt.slice t (some 1) none).cps.toList.take i).filter nod).map one1) ⟨rfl,rfl⟩ (fun i c acc M2 hc hl2 hI=>?_) (fun acc M2 hI=>?_)
  ·obtain⟨rfl,rfl⟩:=hI
   walk_at "pk"
   rw[j7]
   refine ite2 (fun h7=>JR hc h7) (fun h7=>nod_no hc h7)
  obtain⟨rfl,rfl⟩:=hI
  rw[List.take_of_length_le (by simp),show(Txt.slice t (some 1) none).cps.toList=figL t.cps.toList from hf]
  walk_at "pk"
  by_cases h3:∀c∈figL t.cps.toList,c∈digs
  rotate_left
  ·refine⟨_,_,rfl,rfl, .inl ⟨nod_ne h3, ?_⟩⟩
   walk_at "pk"
   exact no fun g=>h3 g.2.2.1
  rw[JS h3]
  refine eqBls (ns:=[]) (ms:=[]) ?_
  walk_at "pk"
  cases e:figL t.cps.toList with
  |nil=>exact absurd (str_ext.mpr (by rw[hf,e]; decide +kernel)) h1
  |cons c r =>
  have hd:(figL t.cps.toList).head?=some c:=by rw[e]; rfl
  have ne:figL t.cps.toList≠[]:=by rw[e]; simp
  refine⟨_,_,c,rfl,rfl,Nat.le_trans hfl hz,by rw[hf,e]; exact at0, ?_⟩
  clear e
  walk_at "pk"
  refine ite2 (fun h4=>?_) (fun h4=>?_)
  ·have c48:=jW h4
   subst c48
   refine⟨hz, ?_⟩
   refine ite2 (fun h5=>no fun g=>g.2.2.2 ⟨hd, ?_⟩) (fun h5=>?_)
   ·rw[<-qX]
    omega
   ·exact yes ⟨ne,h2',h3,fun z=>by rw[<-qX] at z; omega⟩
  ·exact yes ⟨ne,h2',h3,fun z=>h4 (j6 (Option.some.inj (hd.symm.trans z.1)))⟩
 ·refine qY hs ?_
  obtain⟨hf,hfl⟩:=key _ (if_neg hs).symm
  have hlen:=(qX).trans (congrArg List.length hf)
  walk_at "pk"
  refine ite2 (fun h1=>no fun g=>g.1 (by rw[<-hf,h1]; decide +kernel)) (fun h1=>?_)
  refine⟨Nat.le_trans hfl hz, ?_⟩
  refine ite2 (fun h2=>no fun g=>?_) (fun h2=>?_)
  ·have g2:=g.2.1
   rw[<-hlen] at g2
   omega
  have h2':(((figL t.cps.toList).length:Nat):Int)<=60:=by
   rw[<-hlen]
   omega
  walk_at "pk"
  refine xW (Nat.le_trans hfl hz) (fun i acc M=>M=[]/\acc=(((t).cps.toList.take i).filter nod).map one1) ⟨rfl,rfl⟩ (fun i c acc M2 hc hl2 hI=>?_) (fun acc M2 hI=>?_)
  ·obtain⟨rfl,rfl⟩:=hI
   walk_at "pk"
   rw[j7]
   refine ite2 (fun h7=>JR hc h7) (fun h7=>nod_no hc h7)
  obtain⟨rfl,rfl⟩:=hI
  rw[List.take_of_length_le (by simp),show(t).cps.toList=figL t.cps.toList from hf]
  walk_at "pk"
  by_cases h3:∀c∈figL t.cps.toList,c∈digs
  rotate_left
  ·refine⟨_,_,rfl,rfl, .inl ⟨nod_ne h3, ?_⟩⟩
   walk_at "pk"
   exact no fun g=>h3 g.2.2.1
  rw[JS h3]
  refine eqBls (ns:=[]) (ms:=[]) ?_
  walk_at "pk"
  cases e:figL t.cps.toList with
  |nil=>exact absurd (str_ext.mpr (by rw[hf,e]; decide +kernel)) h1
  |cons c r =>
  have hd:(figL t.cps.toList).head?=some c:=by rw[e]; rfl
  have ne:figL t.cps.toList≠[]:=by rw[e]; simp
  refine⟨_,_,c,rfl,rfl,Nat.le_trans hfl hz,by rw[hf,e]; exact at0, ?_⟩
  clear e
  walk_at "pk"
  refine ite2 (fun h4=>?_) (fun h4=>?_)
  ·have c48:=jW h4
   subst c48
   refine⟨hz, ?_⟩
   refine ite2 (fun h5=>no fun g=>g.2.2.2 ⟨hd, ?_⟩) (fun h5=>?_)
   ·rw[<-qX]
    omega
   ·exact yes ⟨ne,h2',h3,fun z=>by rw[<-qX] at z; omega⟩
  ·exact yes ⟨ne,h2',h3,fun z=>h4 (j6 (Option.some.inj (hd.symm.trans z.1)))⟩
theorem xq {α:Type} {f:α->T} {l:List α} {j:Int} (h0:0<=j):cutT (l.map f) none (some j)=(l.take j.toNat).map f:=by
 unfold cutT
 have e:HT.sIx (l.map f).length (l.map f).length (some j)=min j.toNat l.length:=by
  show(if j<0 then _ else min j.toNat (l.map f).length)=_
  rw[if_neg (by omega),List.length_map]
 rw[e,HT.sIx_none,List.drop_zero,Nat.sub_zero,List.map_take]
 rcases Nat.le_total j.toNat l.length with h|h
 ·rw[Nat.min_eq_left h]
 ·rw[Nat.min_eq_right h,List.take_of_length_le (by rw[List.length_map]; exact Nat.le_refl _),List.take_of_length_le (by rw[List.length_map]; exact h)]
theorem vN {α:Type} {f:α->T} {l:List α} {j:Int} (h0:0<=j):cutT (l.map f) (some j) none=(l.drop j.toNat).map f:=by
 unfold cutT
 have e:HT.sIx (l.map f).length 0 (some j)=min j.toNat l.length:=by
  show(if j<0 then _ else min j.toNat (l.map f).length)=_
  rw[if_neg (by omega),List.length_map]
 rw[e,HT.sIx_none,List.take_of_length_le (by rw[List.length_drop]; exact Nat.le_refl _),List.map_drop]
 rcases Nat.le_total j.toNat l.length with h|h
 ·rw[Nat.min_eq_left h]
 ·rw[Nat.min_eq_right h,List.drop_of_length_le (by rw[List.length_map]; exact Nat.le_refl _),List.drop_of_length_le (by rw[List.length_map]; exact h)]
noncomputable def valT (x:Str):T:=match numR x with|some n=>.int n|none=>.non
theorem val_at {x:Str} {Q:T->Prop} (hl:x.length<=10000000) (q:Q (valT x)):gVal [.str x] Q:=⟨x,rfl,hl,fun i hi=>by unfold valT at q; rw[hi] at q; exact q,fun hi=>by unfold valT at q; rw[hi] at q; exact q⟩
theorem kb:∀{ts:List Str} {rs:List Int},vJ ts=some rs->ts.map valT=rs.map T.int
 | [],rs,h=>by
  have:rs=[]:=by simpa[vJ] using h.symm
  subst this
  rfl
 |t::ts,rs,h=>by
  unfold vJ at h
  cases e:numR t with
  |none=>rw[e] at h; cases h
  |some r =>
   rw[e] at h
   dsimp only at h
   cases e2:vJ ts with
   |none=>rw[e2] at h; cases h
   |some a =>
    rw[e2] at h
    cases h
    rw[List.map_cons,List.map_cons,kb e2]
    unfold valT
    rw[e]
theorem Q3:∀{ts:List Str},vJ ts=none->(ts.map valT).any nonT=true
 | [],h=>by simp[vJ] at h
 |t::ts,h=>by
  unfold vJ at h
  rw[List.map_cons,List.any_cons]
  cases e:numR t with
  |none =>
   unfold valT
   rw[e]
   rfl
  |some r =>
   rw[e] at h
   dsimp only at h
   cases e2:vJ ts with
   |none=>rw[Q3 e2]; simp
   |some a=>rw[e2] at h; cases h
theorem ints_no {rs:List Int}:(rs.map T.int).any nonT=false:=by
 rw[List.any_map]
 exact List.any_eq_false.mpr fun r _=>by simp[nonT]
def optT {α:Type} (f:α->T):Option α->T
 |some a=>f a
 |none=>.non
noncomputable def behN (k:Nat) (h row:Str):Option (List Int):=match Txt.split row ⟨#[32]⟩ with | []=>none|z::zs=>if z=h then vJ (zs.drop k) else none
abbrev jr:Stmt:=top 36
theorem scBehind:FnScope ["line", "head", "first", "words", "found"] ["line", "head", "first"] (qc jr):=⟨rfl,rfl,rfl,by decide +kernel,rfl,by decide +kernel,by decide +kernel⟩
theorem JZ:(["line", "head", "first", "words", "found", "word"]:List Str).Nodup:=by decide +kernel
def Ks:List T->(T->Prop)->Prop:=fun ts Q=>∃(row h:Str) (k:Nat),ts=[.str row, .str h, .int ((k:Int)+1)]/\row.length<=9500000/\Q (optT vx (behN k h row))
theorem ok_behL {f:Addr} {fd:FuncData} (F:Fun K "_law_behind" "_law_behind" jr f fd) (DValue:Def P w K mg base "_law_value" 1 ["text"] (spP gVal)):FnOk P w K mg base CX0 2 f fd ["line", "head", "first"] (spP Ks):=by
 refine F.zP scBehind (fun ts Qt h=>?_) (fun cdv A outer s H E hr=>?_)
 ·obtain⟨_,_,_,rfl,_⟩:=h
  rfl
 refine⟨_,(qg (qC (i:=3) scBehind.nd rfl (Or.inl rfl) (xJ PySem.F.plainAttrs_str PySem.F.slot_str_split PySem.F.type_str_split zN (qv 0) (qa_c ql qd)))
  (qg (vG (qt jU (qD (qh (K:=K) rfl) (qv 3) qe (fun _ _=>rfl)) (qv 1) (qF _))
   (qp (qM zw))
   qQ)
  (qg (qs_lc (i:=4) [false,false,false,false,false] ["word"] scBehind.nd rfl rfl (vY (K:=K) rfl (qE (qR (K:=K) rfl) (qv 3) (qG (qv 2)) qN)) (fun _ _ _=>(qV (i:=5) JZ rfl (Or.inl rfl))) (fun _ _ _=>v7) (fun _ _ _=>(qB DValue (hr.mono (by first|decide|exact Nat.le_refl _)) (qa_c (qv 5) qd))))
  (qp (qM (xB (qt (op_inN (K:=K) rfl (hu_of hr)) zw (qv 4) (by with_unfolding_all rfl)) zw (qv 4))))))),_,(qj (qA (xU zI (qb 0) (qa (ce_c (.str _)) qf)) (qo 3))
   (qj (vD (qx (qk jO (qy (qb 3) (ce_c (.int _))) (qb 1)))
   (qU (ce_c .non))
   qO)
   (qj (qA (zr (xu (zJ (qb 3) (qJ (qb 2)) qP)) (vy 5) xN (vb (qa (qb 5) qf))) (qo 4))
   (qU (XR (qx (qk JB (ce_c .non) (qb 4))) (ce_c .non) (qb 4)))))),fun ts Qt h=>?_⟩
 obtain⟨row,h,k,rfl,hl,q⟩:=h
 have hne:Txt.split row ⟨#[32]⟩≠[]:=jZ
 have hfw:=zk (x:=row) (c:=32)
 have hsm:∀x∈Txt.split row ⟨#[32]⟩,x.length<=10000000:=fun x hx=>Nat.le_trans (vR hx) (by omega)
 unfold behN at q
 walk_at "pk"
 cases ez:Txt.split row ⟨#[32]⟩ with
 |nil=>exact absurd ez hne
 |cons z zs =>
 rw[ez] at q hfw hsm
 refine⟨32,z::zs,by rw[sp_is],ez,Nat.le_trans (m:=10000000) (by omega) (by decide), ?_⟩
 dsimp only at q
 walk_at "pk"
 by_cases hz:z=h
 rotate_left
 ·rw[if_neg hz] at q
  exact qI (by rw[decide_eq_false hz]; rfl) q
 rw[if_pos hz] at q
 refine qY (by rw[decide_eq_true hz]; decide) ?_
 walk_at "pk"
 rw[<-List.map_cons,vN (by omega),show((k:Int)+1).toNat=k+1 by omega,List.drop_succ_cons]
 have hsm':∀x∈zs.drop k,x.length<=10000000:=fun x hx=>hsm x (List.mem_cons_of_mem _ (List.mem_of_mem_drop hx))
 have hdl:(zs.drop k).length<=10000000:=by rw[List.length_drop]; simp only[List.length_cons] at hfw; omega
 generalize zs.drop k=ys at q hsm' hdl ⊢
 refine zB (ts:=ys.map T.str) (by rw[List.length_map]; exact Nat.le_trans hdl (by decide)) (fun i acc M'=>M'=[]/\acc=(ys.take i).map valT) ⟨rfl,rfl⟩ ?_ ?_
 ·rintro i x acc M' hx _ ⟨rfl,rfl⟩
  obtain⟨y,hy,rfl⟩:=jz hx
  walk_at "pk"
  refine val_at (hsm' y (List.mem_of_getElem? hy)) ?_
  rw[jn hy,List.map_append]
  rfl
 rintro acc M' ⟨rfl,rfl⟩
 rw[List.length_map,List.take_length]
 refine⟨_,_,rfl,rfl,_,rfl,rfl, ?_⟩
 cases e:vJ ys with
 |none =>
  rw[e] at q
  rw[Q3 e]
  walk_at "pk"
  exact q
 |some ns =>
  rw[e] at q
  rw[kb e,ints_no]
  walk_at "pk"
  exact q
theorem behN0 {h row:Str}:behN 0 h row=zU h row:=by
 unfold behN zU behR
 cases Txt.split row ⟨#[32]⟩ with
 |nil=>rfl
 |cons z zs =>
  dsimp only
  split<;>rfl
theorem kI {row h:Str} {k:Nat} {j:Int} {Q:T->Prop} (e:j=(k:Int)+1) (hl:row.length<=9500000) (q:Q (optT vx (behN k h row))):Ks [.str row, .str h, .int j] Q:=⟨row,h,k,by rw[e],hl,q⟩
theorem Vp {ts:List Str} {rs:List Int} (h:vJ ts=some rs):rs.length=ts.length:=by
 have:=congrArg List.length (kb h)
 simpa using this.symm
theorem XH {row:Str} (h:behN 1 "mark" row=none):xK row=none:=by
 unfold behN at h
 unfold xK behR
 cases ez:Txt.split row ⟨#[32]⟩ with
 |nil=>rfl
 |cons z zs =>
  rw[ez] at h
  dsimp only at h ⊢
  by_cases hz:z = "mark"
  ·rw[if_pos hz] at h ⊢
   show mk3R zs=none
   match zs,h with
   | [],_=>rfl
   | [_],_=>rfl
   | [_,_],_=>rfl
   | [a,b,c],h =>
    have h:vJ [b,c]=none:=h
    by_cases ka:KdOk a
    ·rw[J3 ka]
     cases e1:numR b with
     |none=>rfl
     |some m =>
      cases e2:numR c with
      |none=>rfl
      |some n=>simp[vJ,e1,e2] at h
    ·exact J1 ka
   |_::_::_::_::_,_=>rfl
  ·rw[if_neg hz]
   rfl
theorem XG {row:Str} {ns:List Int} (h:behN 1 "mark" row=some ns):∃zs:List Str,Txt.split row ⟨#[32]⟩=("mark" : Str)::zs/\xK row=mk3R zs/\(ns.length≠2->mk3R zs=none)/\∀m n,ns=[m,n]->∃a b c,zs=[a,b,c]/\numR b=some m/\numR c=some n:=by
 unfold behN at h
 unfold xK behR
 cases ez:Txt.split row ⟨#[32]⟩ with
 |nil=>rw[ez] at h; cases h
 |cons z zs =>
  rw[ez] at h
  dsimp only at h ⊢
  by_cases hz:z = "mark"
  rotate_left
  ·rw[if_neg hz] at h; cases h
  rw[if_pos hz] at h ⊢
  have hl:=Vp h
  refine⟨zs,by rw[hz],rfl,fun h2=>?_,fun m n e=>?_⟩
  ·match zs,hl with
   | [],_=>rfl
   | [_],_=>rfl
   | [_,_],_=>rfl
   | [a,b,c],hl=>exact absurd hl h2
   |_::_::_::_::_,_=>rfl
  ·subst e
   match zs,hl,h with
   | [],hl,_=>simp at hl
   | [_],hl,_=>simp at hl
   | [_,_],hl,_=>simp at hl
   | [a,b,c],_,h =>
    have h:vJ [b,c]=some [m,n]:=h
    refine⟨a,b,c,rfl, ?_⟩
    cases e1:numR b with
    |none=>simp[vJ,e1] at h
    |some m' =>
     cases e2:numR c with
     |none=>simp[vJ,e1,e2] at h
     |some n' =>
      simp[vJ,e1,e2] at h
      exact⟨by rw[h.1],by rw[h.2]⟩
   |_::_::_::_::_,hl,_=>simp at hl
abbrev jq:Stmt:=top 37
theorem scMarkOf:FnScope ["line", "words", "numbers"] ["line"] (qc jq):=⟨rfl,rfl,rfl,by decide +kernel,rfl,by decide +kernel,by decide +kernel⟩
theorem JY:(["line", "words", "numbers", "sign"]:List Str).Nodup:=by decide +kernel
def Kq:List T->(T->Prop)->Prop:=fun ts Q=>∃row:Str,ts=[.str row]/\row.length<=9500000/\Q (optT zA (xK row))
theorem ok_markL {f:Addr} {fd:FuncData} (F:Fun K "_law_mark_of" "_law_mark_of" jq f fd) (N:Nms mg) (DBehind:Def P w K mg base "_law_behind" 2 ["line", "head", "first"] (spP Ks)):FnOk P w K mg base CX0 3 f fd ["line"] (spP Kq):=by
 refine F.zP scMarkOf (fun ts Qt h=>?_) (fun cdv A outer s H E hr=>?_)
 ·obtain⟨_,rfl,_⟩:=h
  rfl
 refine⟨_,(qg (qC (i:=1) scMarkOf.nd rfl (Or.inl rfl) (xJ PySem.F.plainAttrs_str PySem.F.slot_str_split PySem.F.type_str_split zN (qv 0) (qa_c ql qd)))
  (qg (qC (i:=2) scMarkOf.nd rfl (Or.inl rfl) (qB DBehind (hr.mono (by first|decide|exact Nat.le_refl _)) (qa_c (qv 0) (qa_c ql (qa_c qe qd)))))
  (qg (vG (kn (jT (qt JG (qv 2) zw (qF _)) (jT (qt jU (qr vg (by rfl) N.len zb (qa_c (qv 2) qd)) qe (qF _)) (jT (qt JF (qr v5 (by rfl) N.len zb (qa_c (qD (qh (K:=K) rfl) (qv 1) qe (fun _ _=>rfl)) qd)) qe (qF _)) (jL (qt op_gt (qr v5 (by rfl) N.len zb (qa_c (qD (qh (K:=K) rfl) (qv 1) qe (fun _ _=>rfl)) qd)) qe (qF _)))))))
   (qp (qM zw))
   qQ)
  (qg (vG (qt (JE (K:=K) rfl hr.units) (kr [false,false,false] ["sign"] (Jn (qD (qh (K:=K) rfl) (qv 1) qe (fun _ _=>rfl))) (fun _ _ _=>(qV (i:=3) JY rfl (Or.inl rfl))) (fun _ _ _=>Za (qt Vm (qv 3) ql (by with_unfolding_all rfl))) (fun _ _ _=>(qv 3))) (qZ qd) (qF _))
   (qp (qM zw))
   qQ)
  (qp (qM (zG (qa_c (qD (qh (K:=K) rfl) (qv 1) qe (fun _ _=>rfl)) (qa_c (qD (qh (K:=K) rfl) (qv 2) qe (fun _ _=>rfl)) (qa_c (qD (qh (K:=K) rfl) (qv 2) qe (fun _ _=>rfl)) qd)))))))))),_,(qj (qA (xU zI (qb 0) (qa (ce_c (.str _)) qf)) (qo 1))
   (qj (qA (vb (qa (qb 0) (qa (ce_c (.str _)) (qa (ce_c (.int _)) qf)))) (qo 2))
   (qj (vD (kM (qx (KK (qb 2))) (kM (qx (qk jO (zR (qa (qb 2) qf)) (ce_c (.int _)))) (kM (qx (qk (ve fun _ _=>.bl _) (zW zz (qa (qy (qb 1) (ce_c (.int _))) qf)) (ce_c (.int _)))) (qx (qk (ve fun _ _=>.bl _) (zW zz (qa (qy (qb 1) (ce_c (.int _))) qf)) (ce_c (.int _)))))))
   (qU (ce_c .non))
   qO)
   (qj (vD (qx (qk JA (zr (KG (qy (qb 1) (ce_c (.int _)))) (vy 3) (qx (qk Zf (qb 3) (ce_c (.str _)))) (qb 3)) (vq qf)))
   (qU (ce_c .non))
   qO)
   (qU (Qe (qa (qy (qb 1) (ce_c (.int _))) (qa (qy (qb 2) (ce_c (.int _))) (qa (qy (qb 2) (ce_c (.int _))) qf))))))))),fun ts Qt h=>?_⟩
 obtain⟨row,rfl,hl,q⟩:=h
 have hfw:=zk (x:=row) (c:=32)
 have hsm:∀x∈Txt.split row ⟨#[32]⟩,x.length<=10000000:=fun x hx=>Nat.le_trans (vR hx) (by omega)
 walk_at "pk"
 refine⟨32,_,by rw[sp_is],rfl,Nat.le_trans (m:=10000000) (by omega) (by decide), ?_⟩
 walk_at "pk"
 refine kI (k:=1) (by decide) hl ?_
 cases eb:behN 1 "mark" row with
 |none =>
  rw[XH eb] at q
  unfold optT
  walk_at "pk"
  exact q
 |some ns =>
  obtain⟨zs,ez,em,h1,h2⟩:=XG eb
  rw[ez] at hsm ⊢
  rw[em] at q
  unfold optT vx
  walk_at "pk"
  by_cases hn:ns.length=2
  rotate_left
  ·rw[h1 hn] at q
   exact qI (by rw[List.length_map,decide_eq_false (by omega)]; rfl) q
  obtain⟨m,n,rfl⟩:∃m n,ns=[m,n]:=by
   match ns,hn with
   | [m,n],_=>exact⟨m,n,rfl⟩
  obtain⟨a,b,c,rfl,hb,hc⟩:=h2 m n rfl
  refine qY (by simp) ?_
  have ha:=hsm a (by simp)
  have hz:a.length<=sizeLine:=Nat.le_trans ha (by decide)
  refine vd (t:=.str a) rfl ?_
  walk_at "pk"
  have no:¬KdOk a->Qt .non:=fun g=>by rw[J1 g] at q; exact q
  refine⟨hz,ite2 (fun h3=>no fun g=>?_) fun h3=>?_⟩
  ·have:=g.1; omega
  refine vd (t:=.str a) rfl ?_
  walk_at "pk"
  refine⟨hz,ite2 (fun h4=>no fun g=>?_) fun h4=>?_⟩
  ·have:=g.2.1; omega
  walk_at "pk"
  refine xW hz (fun i acc M=>M=[]/\acc=((a.cps.toList.take i).filter nol).map one1) ⟨rfl,rfl⟩ (fun i c acc M2 hc hl2 hI=>?_) (fun acc2 M2 hI=>?_)
  ·obtain⟨rfl,rfl⟩:=hI
   walk_at "pk"
   rw[QM,nol_take hc]
   by_cases h7:c∈lettersN
   ·rw[decide_eq_true h7]
    refine qY (by decide) ?_
    simp[nol,h7]
   ·rw[decide_eq_false h7]
    refine qI rfl ?_
    simp[nol,h7,one1]
  obtain⟨rfl,rfl⟩:=hI
  rw[List.take_of_length_le (by simp)]
  walk_at "pk"
  refine eqNil ?_
  walk_at "pk"
  by_cases h5:∀c∈a.cps.toList,c∈lettersN
  ·rw[nol_nil h5]
   refine qY (by decide) ?_
   rw[J3 ⟨by omega,by omega,h5⟩,hb,hc] at q
   walk_at "pk"
   exact q
  ·exact qI (by
    have:=nol_ne h5
    cases e:List.map one1 (List.filter nol a.cps.toList) with
    |nil=>rw[e] at this; exact absurd rfl this
    |cons=>rfl) (no fun g=>h5 g.2.2)
local macro_rules | `(tactic| walk_at "vx") => `(tactic| simp only[z0,jm,jR,zQ,zj,uTry,zC,zZ,ke,kg,endX,uAsG,xj,xf,km,xl,zl,vE,xi,xk,zm,vm,uIfX,uOpX,uCbX,xY,Qi,uX0,xZ,uInK,jS,zY,jF,kf,jG,Q7,xg,xh,xP])
local macro_rules | `(tactic| walk_at "pk") => `(tactic| (walk_at "v"; repeat ((first|walk_at "vx" |refine qY (by decide) ?_|refine qI rfl ?_); walk_at "v")))
noncomputable def mrkT (x:Str):T:=optT zA (xK x)
theorem jw:∀{ts:List Str} {rs:List Mk3},vp ts=some rs->ts.map mrkT=rs.map zA
 | [],rs,h=>by
  have:rs=[]:=by simpa[vp] using h.symm
  subst this
  rfl
 |t::ts,rs,h=>by
  unfold vp at h
  cases e:xK t with
  |none=>rw[e] at h; cases h
  |some r =>
   rw[e] at h
   dsimp only at h
   cases e2:vp ts with
   |none=>rw[e2] at h; cases h
   |some a =>
    rw[e2] at h
    cases h
    rw[List.map_cons,List.map_cons,jw e2]
    unfold mrkT optT
    rw[e]
theorem kY:∀{ts:List Str},vp ts=none->(ts.map mrkT).any nonT=true
 | [],h=>by simp[vp] at h
 |t::ts,h=>by
  unfold vp at h
  rw[List.map_cons,List.any_cons]
  cases e:xK t with
  |none =>
   unfold mrkT optT
   rw[e]
   rfl
  |some r =>
   rw[e] at h
   dsimp only at h
   cases e2:vp ts with
   |none=>rw[kY e2]; simp
   |some a=>rw[e2] at h; cases h
theorem mks_no {rs:List Mk3}:(rs.map zA).any nonT=false:=by
 rw[List.any_map]
 exact List.any_eq_false.mpr fun r _=>by simp[zA,nonT]
theorem optT_non {o:Option (List Int)}:nonT (optT vx o)=o.isNone:=by cases o<;>rfl
abbrev xz:Stmt:=top 38
theorem scImageOf:FnScope ["text", "lines", "bits", "marks", "room", "words", "outside"] ["text"] (qc xz):=⟨rfl,rfl,rfl,by decide +kernel,rfl,by decide +kernel,by decide +kernel⟩
theorem XE:(["text", "lines", "bits", "marks", "room", "words", "outside", "line"]:List Str).Nodup:=by decide +kernel
def gImL:List T->(T->Prop)->Prop:=fun ts Q=>∃t:Str,ts=[.str t]/\t.length<=9500000/\Q (optT imT (xn (Txt.split t ⟨#[10]⟩)))
theorem ok_imL {f:Addr} {fd:FuncData} (F:Fun K "_law_image_of" "_law_image_of" xz f fd) (N:Nms mg) (DBehind:Def P w K mg base "_law_behind" 2 ["line", "head", "first"] (spP Ks)) (DMarkOf:Def P w K mg base "_law_mark_of" 3 ["line"] (spP Kq)):FnOk P w K mg base CX0 4 f fd ["text"] (spP gImL):=by
 refine F.zP scImageOf (fun ts Qt h=>?_) (fun cdv A outer s H E hr=>?_)
 ·obtain⟨_,rfl,_⟩:=h
  rfl
 refine⟨_,(qg (qC (i:=1) scImageOf.nd rfl (Or.inl rfl) (xJ PySem.F.plainAttrs_str PySem.F.slot_str_split PySem.F.type_str_split zN (qv 0) (qa_c ql qd)))
  (qg (vG (qt JF (qr vg (by rfl) N.len zb (qa_c (qv 1) qd)) qe (qF _))
   (qp (qM zw))
   qQ)
  (qg (qC (i:=2) scImageOf.nd rfl (Or.inl rfl) (qB DBehind (hr.mono (by first|decide|exact Nat.le_refl _)) (qa_c (qD (qh (K:=K) rfl) (qv 1) qe (fun _ _=>rfl)) (qa_c ql (qa_c qe qd)))))
  (qg (qs_lc (i:=3) [false,false,false,false,false,false,false] ["line"] scImageOf.nd rfl rfl (vY (K:=K) rfl (qE (qR (K:=K) rfl) (qv 1) (qG qe) (qG (qw JD (qr vg (by rfl) N.len zb (qa_c (qv 1) qd)) qe)))) (fun _ _ _=>(qV (i:=7) XE rfl (Or.inl rfl))) (fun _ _ _=>v7) (fun _ _ _=>(qB DMarkOf (hr.mono (by first|decide|exact Nat.le_refl _)) (qa_c (qv 7) qd))))
  (qg (qC (i:=4) scImageOf.nd rfl (Or.inl rfl) (qB DBehind (hr.mono (by first|decide|exact Nat.le_refl _)) (qa_c (qD (qh (K:=K) rfl) (qv 1) (qe_un Q5 qe) (fun _ _=>rfl)) (qa_c ql (qa_c qe qd)))))
  (qg (qC (i:=5) scImageOf.nd rfl (Or.inl rfl) (qB DBehind (hr.mono (by first|decide|exact Nat.le_refl _)) (qa_c (qD (qh (K:=K) rfl) (qv 1) (qe_un Q5 qe) (fun _ _=>rfl)) (qa_c ql (qa_c qe qd)))))
  (qg (qC (i:=6) scImageOf.nd rfl (Or.inl rfl) (qB DBehind (hr.mono (by first|decide|exact Nat.le_refl _)) (qa_c (qD (qh (K:=K) rfl) (qv 1) (qe_un Q5 qe) (fun _ _=>rfl)) (qa_c ql (qa_c qe qd)))))
  (qg (vG (kn (jT (qt (op_inN (K:=K) rfl (hu_of hr)) zw (qw vZ (qv 3) (qZ (qa_c (qv 2) (qa_c (qv 4) (qa_c (qv 5) (qa_c (qv 6) qd)))))) (by with_unfolding_all rfl)) (jT (qt jU (qr vg (by rfl) N.len zb (qa_c (qv 2) qd)) qe (qF _)) (jL (qt jU (qr vg (by rfl) N.len zb (qa_c (qv 4) qd)) qe (qF _))))))
   (qp (qM zw))
   qQ)
  (qp (qM (zG (qa_c (zG (qa_c (qD (qh (K:=K) rfl) (qv 2) qe (fun _ _=>rfl)) (qa_c (qv 3) qd))) (qa_c (qD (qh (K:=K) rfl) (qv 4) qe (fun _ _=>rfl)) (qa_c (qv 5) (qa_c (qv 6) qd))))))))))))))),_,(qj (qA (xU zI (qb 0) (qa (ce_c (.str _)) qf)) (qo 1))
   (qj (vD (qx (qk (ve fun _ _=>.bl _) (zR (qa (qb 1) qf)) (ce_c (.int _))))
   (qU (ce_c .non))
   qO)
   (qj (qA (vb (qa (qy (qb 1) (ce_c (.int _))) (qa (ce_c (.str _)) (qa (ce_c (.int _)) qf)))) (qo 2))
   (qj (qA (zr (xu (zJ (qb 1) (qJ (ce_c (.int _))) (qJ (qk (ve fun _ _=>.int _) (zR (qa (qb 1) qf)) (ce_c (.int _)))))) (vy 7) xN (vb (qa (qb 7) qf))) (qo 3))
   (qj (qA (vb (qa (qy (qb 1) (Xm (ce_c (.int _)))) (qa (ce_c (.str _)) (qa (ce_c (.int _)) qf)))) (qo 4))
   (qj (qA (vb (qa (qy (qb 1) (Xm (ce_c (.int _)))) (qa (ce_c (.str _)) (qa (ce_c (.int _)) qf)))) (qo 5))
   (qj (qA (vb (qa (qy (qb 1) (Xm (ce_c (.int _)))) (qa (ce_c (.str _)) (qa (ce_c (.int _)) qf)))) (qo 6))
   (qj (vD (kM (qx (qk JB (ce_c .non) (qk vo (qb 3) (vq (qa (qb 2) (qa (qb 4) (qa (qb 5) (qa (qb 6) qf)))))))) (kM (qx (qk jO (zR (qa (qb 2) qf)) (ce_c (.int _)))) (qx (qk jO (zR (qa (qb 4) qf)) (ce_c (.int _))))))
   (qU (ce_c .non))
   qO)
   (qU (Qe (qa (Qe (qa (qy (qb 2) (ce_c (.int _))) (qa (qb 3) qf))) (qa (qy (qb 4) (ce_c (.int _))) (qa (qb 5) (qa (qb 6) qf)))))))))))))),fun ts Qt h=>?_⟩
 obtain⟨t,rfl,hl,q⟩:=h
 have hfw:=zk (x:=t) (c:=10)
 have hsm:∀x∈Txt.split t ⟨#[10]⟩,x.length<=9500000:=fun x hx=>Nat.le_trans (vR hx) (by omega)
 walk_at "pk"
 refine⟨10,_,by rw[nl_is],rfl,Nat.le_trans (m:=10000000) (by omega) (by decide), ?_⟩
 generalize Txt.split t ⟨#[10]⟩=rows at q hfw hsm ⊢
 walk_at "pk"
 rw[List.length_map]
 by_cases h4:rows.length<4
 ·unfold xn at q
  rw[if_pos h4] at q
  exact qI (by omega) q
 refine qY (by omega) ?_
 obtain⟨r0,mid,a,b,c,rfl⟩:=kj h4
 rw[kE] at q
 have hlen:(r0::(mid++[a,b,c])).length=mid.length+4:=by simp
 have r1:((r0::(mid++[a,b,c])).map T.str)[mid.length+1]?=some (.str a):=by simp
 have r2:((r0::(mid++[a,b,c])).map T.str)[mid.length+2]?=some (.str b):=by simp
 have r3:((r0::(mid++[a,b,c])).map T.str)[mid.length+3]?=some (.str c):=by simp
 have hc:cutT ((r0::(mid++[a,b,c])).map T.str) (some 1) (some ((mid.length+1:Nat):Int))=mid.map T.str:=by
  rw[show(some (1:Int))=some ((1:Nat):Int) from rfl,cutR (by omega) (by simp)]
  simp
 have hml:((r0::(mid++[a,b,c])).map T.str).length=mid.length+4:=by simp
 have ix:∀(j:Nat) (x:Str),((r0::(mid++[a,b,c])).map T.str)[mid.length+j+1]?=some (.str x)->j<3->atI ((r0::(mid++[a,b,c])).map T.str) ((j:Int)-3)=some (T.str x):=fun j x hx hj=>by
  unfold atI ixN
  rw[hml,if_neg (by omega),if_pos (by omega),show((j:Int)-3+((mid.length+4:Nat):Int)).toNat=mid.length+j+1 by omega]
  exact hx
 have i1:atI ((r0::(mid++[a,b,c])).map T.str) (-3)=some (T.str a):=ix 0 a r1 (by decide)
 have i2:atI ((r0::(mid++[a,b,c])).map T.str) (-2)=some (T.str b):=ix 1 b r2 (by decide)
 have i3:atI ((r0::(mid++[a,b,c])).map T.str) (-1)=some (T.str c):=ix 2 c r3 (by decide)
 have hbd:(((List.map T.str (mid++[a,b,c])).length+1:Nat):Int)-3=((mid.length+1:Nat):Int):=by simp; omega
 rw[List.map_cons] at hc i1 i2 i3
 walk_at "pk"
 refine kI (k:=0) (by decide) (hsm r0 (by simp)) ?_
 rw[behN0]
 walk_at "pk"
 rw[hbd,hc]
 have hmid:∀y∈mid,y.length<=9500000:=fun y hy=>hsm y (by simp[hy])
 refine zB (ts:=mid.map T.str) (by rw[List.length_map]; exact Nat.le_trans (m:=10000000) (by rw[hlen] at hfw; omega) (by decide)) (fun i acc M'=>M'=[]/\acc=(mid.take i).map mrkT) ⟨rfl,rfl⟩ ?_ ?_
 ·rintro i x acc M' hx _ ⟨rfl,rfl⟩
  obtain⟨y,hy,rfl⟩:=jz hx
  walk_at "pk"
  refine⟨y,rfl,hmid y (List.mem_of_getElem? hy), ?_⟩
  rw[jn hy,List.map_append]
  rfl
 rintro acc M' ⟨rfl,rfl⟩
 rw[List.length_map,List.take_length]
 walk_at "pk"
 refine vd i1 ?_
 walk_at "pk"
 refine kI (k:=0) (by decide) (hsm a (by simp)) ?_
 rw[behN0]
 walk_at "pk"
 refine vd i2 ?_
 walk_at "pk"
 refine kI (k:=0) (by decide) (hsm b (by simp)) ?_
 rw[behN0]
 walk_at "pk"
 refine vd i3 ?_
 walk_at "pk"
 refine kI (k:=0) (by decide) (hsm c (by simp)) ?_
 rw[behN0]
 unfold oneR at q
 generalize zU "laying" r0=o1 at q ⊢
 generalize zU "room" a=o2 at q ⊢
 generalize zU "words" b=o3 at q ⊢
 generalize zU "outside" c=o4 at q ⊢
 walk_at "pk"
 refine⟨by simp only[List.length_map,List.length_cons,List.length_nil]; exact Nat.le_trans (m:=10000000) (by rw[hlen] at hfw; omega) (by decide),_,rfl,rfl, ?_⟩
 have any4:((mid.map mrkT)++[optT vx o1,optT vx o2,optT vx o3,optT vx o4]).any nonT=((mid.map mrkT).any nonT||(o1.isNone||(o2.isNone||(o3.isNone||o4.isNone)))):=by
  rw[List.any_append]
  simp[optT_non]
 rw[any4]
 cases em:vp mid with
 |none =>
  rw[kY em]
  rw[em,comb2] at q
  walk_at "pk"
  exact q
 |some ms =>
 rw[jw em,mks_no]
 rw[em] at q
 cases o1 with
 |none =>
  walk_at "pk"
  rw[show onlyR none=none from rfl,comb1] at q
  exact q
 |some l1 =>
 cases o2 with
 |none =>
  walk_at "pk"
  rw[show onlyR none=none from rfl,comb3] at q
  exact q
 |some l2 =>
 cases o3 with
 |none =>
  walk_at "pk"
  rw[comb4] at q
  exact q
 |some l3 =>
 cases o4 with
 |none =>
  walk_at "pk"
  rw[comb5] at q
  exact q
 |some l4 =>
 unfold optT vx
 walk_at "pk"
 refine qY (by simp) ?_
 by_cases h1:l1.length=1
 rotate_left
 ·refine qI (by rw[List.length_map,decide_eq_false (by omega)]; rfl) ?_
  rw[JJ h1,comb1] at q
  exact q
 by_cases h2:l2.length=1
 rotate_left
 ·refine qY (by rw[List.length_map,decide_eq_true (by omega)]; decide) (qI (by rw[List.length_map,decide_eq_false (by omega)]; rfl) ?_)
  rw[JJ h2,comb3] at q
  exact q
 obtain⟨bits,rfl⟩:∃x,l1=[x]:=by
  match l1,h1 with
  | [x],_=>exact⟨x,rfl⟩
 obtain⟨room,rfl⟩:∃x,l2=[x]:=by
  match l2,h2 with
  | [x],_=>exact⟨x,rfl⟩
 refine qY (by simp) (qY (by simp) ?_)
 walk_at "pk"
 exact q
abbrev Xz:Stmt:=top 40
theorem scRead:FnScope ["text", "found", "told", "e"] ["text"] (qc Xz):=⟨rfl,rfl,rfl,by decide +kernel,rfl,by decide +kernel,by decide +kernel⟩
def gRd:List T->(T->Prop)->Prop:=fun ts Q=>∃t:Str,ts=[.str t]/\t.length<=9500000/\(∀im,xn (Txt.split t ⟨#[10]⟩)=some im->Q (.tup [imT im, .lst []]))/\(xn (Txt.split t ⟨#[10]⟩)=none->Q (.tup [.non, .lst [.bl true, .bl true, .bl false, .bl false]]))
theorem ok_rdU {CENoText CEWordError CEWk CENought CENoRoom CEFaulty CENotFormed:Addr} {f:Addr} {fd:FuncData} (F:Fun K "_law_read" "_law_read" Xz f fd) (N:Nms mg) (NVE:mg "ValueError" = none) (BWordError:mg "WordError" = some (.ref CEWordError)) (BNoText:mg "NoText" = some (.ref CENoText)) (BWk:mg "WrongKind" = some (.ref CEWk)) (BNought:mg "Nought" = some (.ref CENought)) (BNoRoom:mg "NoRoom" = some (.ref CENoRoom)) (BFaulty:mg "Faulty" = some (.ref CEFaulty)) (BNotFormed:mg "NotFormed" = some (.ref CENotFormed))
  (ENoText_WordError:PySem.W.exmOne K (.ref CENoText) (.ref CEWordError)=some true) (TNoText:ExcT K CENoText) (INoText_ValueError:PySem.W.kitOne K (.ref CENoText) (.type "ValueError")=some true) (INoText_NoText:PySem.W.kitOne K (.ref CENoText) (.ref CENoText)=some true)
  (INoText_NotFormed_Faulty_NoRoom:PySem.W.kitAny K (.ref CENoText) [.ref CENotFormed, .ref CEFaulty, .ref CENoRoom]=some false) (INoText_Nought_Wk:PySem.W.kitAny K (.ref CENoText) [.ref CENought, .ref CEWk]=some false)
  (DReadImage:DefX P w K mg base "read_image" 6 ["text"] (spX mg gImX)):FnOk P w K mg base CX0 7 f fd ["text"] (spP gRd):=by
 refine F.zP scRead (fun ts Qt h=>?_) (fun cdv A outer s H E hr=>?_)
 ·obtain⟨_,rfl,_⟩:=h
  rfl
 refine⟨_,(qg (qC (i:=1) scRead.nd rfl (Or.inl rfl) zw)
  (qg (qC (i:=2) scRead.nd rfl (Or.inl rfl) (qZ qd))
  (qg (qs_try (l:=[("NoText", _)]) ⟨rfl,rfl,rfl,rfl⟩ (fun _ _ =>
   (vU (qx_set (i:=1) scRead.nd rfl (Or.inl rfl) (vF DReadImage (hr.mono (by first|decide|exact Nat.le_refl _)) (qa_c (qv 0) qd)))))
   (hh_cons BNoText (fun _=>(qh_gen (i:=3) ⟨rfl,rfl,rfl,rfl⟩ BWordError ENoText_WordError scRead.nd rfl rfl (fun _ _ _ ob=>(qg (qC (i:=2) scRead.nd rfl (Or.inl rfl) (qZ (qa_c (qr (Xp (K:=K) rfl TNoText ob Z2) (by rfl) N.isinstance qK (qa_c (qv 3) (qa_c (vV (v:=.ty "ValueError") (by rfl) NVE VS rfl) qd))) (qa_c (qr (Xp (K:=K) rfl TNoText ob Z2) (by rfl) N.isinstance qK (qa_c (qv 3) (qa_c (js (v:=.ref CENoText) rfl BNoText rfl) qd))) (qa_c (qr (VL (K:=K) rfl TNoText ob Z2) (by rfl) N.isinstance qK (qa_c (qv 3) (qa_c (zG (qa_c (js (v:=.ref CENotFormed) rfl BNotFormed rfl) (qa_c (js (v:=.ref CEFaulty) rfl BFaulty rfl) (qa_c (js (v:=.ref CENoRoom) rfl BNoRoom rfl) qd)))) qd))) qd)))))
   (qp (xR (Zb PySem.F.slot_list_append PySem.F.type_list_append vK (qv 2) (qa_c (qr (VL (K:=K) rfl TNoText ob Z2) (by rfl) N.isinstance qK (qa_c (qv 3) (qa_c (zG (qa_c (js (v:=.ref CENought) rfl BNought rfl) (qa_c (js (v:=.ref CEWk) rfl BWk rfl) qd))) qd))) qd)))))))) hh_nil))
  (qp (qM (zG (qa_c (qv 1) (qa_c (qv 2) qd)))))))),_,(qj (qA (ce_c .non) (qo 1))
   (qj (qA (Qf qf) (qo 2))
   (qj (cs_try (kF (vM (qa (qb 0) qf))) (zh_cons (fun _=>(cs_asG (fun _ _=>(qj (qA (Qf (qa (ce_isX (c:=.ty "ValueError") (cv:=.type "ValueError") rfl INoText_ValueError (qb 3)) (qa (ce_isX (c:=.ref CENoText) (cv:=.ref CENoText) rfl INoText_NoText (qb 3)) (qa (KJ (cs:=[.ref CENotFormed, .ref CEFaulty, .ref CENoRoom]) (cvs:=[.ref CENotFormed, .ref CEFaulty, .ref CENoRoom]) rfl INoText_NotFormed_Faulty_NoRoom (qb 3) (by simp)) qf)))) (qo 2))
   (xT (ZB vX (qb 2) (qa (KJ (cs:=[.ref CENought, .ref CEWk]) (cvs:=[.ref CENought, .ref CEWk]) rfl INoText_Nought_Wk (qb 3) (by simp)) qf))))))) zh_nil))
   (qU (Zz (qa (qb 1) (qa (qb 2) qf))))))),fun ts Qt h=>?_⟩
 obtain⟨t,rfl,hl,k1,k2⟩:=h
 walk_at "pk"
 refine⟨t,rfl,hl,fun im hi=>?_,fun g=>?_⟩
 ·walk_at "pk"
  exact⟨_,rfl,k1 im hi⟩
 ·walk_at "pk"
  refine⟨_,_,_,_,rfl,rfl,rfl,fun a d=>?_⟩
  walk_at "pk"
  refine⟨⟨_,rfl⟩,⟨_,rfl⟩,⟨_,rfl⟩, ?_⟩
  refine me_at rfl ?_
  walk_at "pk"
  exact⟨⟨_,rfl⟩,by decide,_,rfl,k2 g⟩
theorem XD {f:Addr} {fd:FuncData} (F:Fun K "_law_alike" "_law_alike" jI f fd) (N:Nms mg) (hm:mg "_law_alike" = some (.ref f)) (hk:PySem.W.keepIn K (.ref f)=true) (hb:Binds K fd ["found", "due"] []):FnOk P w K mg base CX0 6 f fd ["found", "due"] (spP (Kt 5)):=by
 refine(jf F N ⟨f,fd,hm,hk,hb,jf F N ⟨f,fd,hm,hk,hb,jf F N ⟨f,fd,hm,hk,hb,jf F N ⟨f,fd,hm,hk,hb,jf F N ⟨f,fd,hm,hk,hb,JO F⟩⟩⟩⟩⟩:FnOk P w K mg base CX0 6 f fd ["found", "due"] (Qn 5)).imp fun vs H Q E h=>?_
 obtain⟨A,ts,Qt,hd,r,⟨t,rfl,hdep,q⟩,k⟩:=h
 cases r with
 |cons r1 r =>
 cases r with
 |cons r2 r =>
 cases r
 exact⟨_,_,rfl,al_of hdep r1 r2,fun H' s=>k _ _ H' s (.bl true) q⟩
theorem Vr {h row:Str} {ns:List Int} (e:zU h row=some ns):ns.length<=row.length:=by
 unfold zU at e
 cases eb:behR h row with
 |none=>rw[eb] at e; cases e
 |some zs =>
  rw[eb] at e
  have:=(kH eb).2
  have h2:=Vp e
  omega
theorem XM {t:Str} {im:Im} (hl:t.length<=9500000) (h:xn (Txt.split t ⟨#[10]⟩)=some im):depT 5 (imT im):=by
 have hfw:=zk (x:=t) (c:=10)
 have hsm:∀x∈Txt.split t ⟨#[10]⟩,x.length<=9500000:=fun x hx=>Nat.le_trans (vR hx) (by omega)
 generalize Txt.split t ⟨#[10]⟩=rows at h hfw hsm
 by_cases h4:rows.length<4
 ·unfold xn at h
  rw[if_pos h4] at h
  cases h
 obtain⟨r0,mid,a,b,c,rfl⟩:=kj h4
 rw[kE] at h
 cases e1:oneR "laying" r0 with
 |none=>rw[e1,comb1] at h; cases h
 |some bits =>
 cases e2:vp mid with
 |none=>rw[e2,comb2] at h; cases h
 |some ms =>
 cases e3:oneR "room" a with
 |none=>rw[e3,comb3] at h; cases h
 |some room =>
 cases e4:zU "words" b with
 |none=>rw[e4,comb4] at h; cases h
 |some ws =>
 cases e5:zU "outside" c with
 |none=>rw[e5,comb5] at h; cases h
 |some os =>
 rw[e1,e2,e3,e4,e5] at h
 cases h
 have l1:=congrArg List.length (jw e2)
 have l2:=Vr e4
 have l3:=Vr e5
 have s2:=hsm b (by simp)
 have s3:=hsm c (by simp)
 have hlen:(r0::(mid++[a,b,c])).length=mid.length+4:=by simp
 simp only[List.length_map] at l1
 have hints:∀l:List Int,l.length<=10000000->depT 4 (vx l):=fun l hl=>⟨by rw[List.length_map]; exact hl,fun x hx=>by
  obtain⟨y,_,rfl⟩:=List.mem_map.mp hx
  trivial⟩
 refine⟨by show 4<=10000000; decide,fun x hx=>?_⟩
 simp only[List.mem_cons,List.not_mem_nil,or_false] at hx
 rcases hx with rfl|rfl|rfl|rfl
 ·refine⟨by show 2<=10000000; decide,fun x hx=>?_⟩
  simp only[List.mem_cons,List.not_mem_nil,or_false] at hx
  rcases hx with rfl|rfl
  ·trivial
  ·refine⟨by rw[List.length_map]; omega,fun x hx=>?_⟩
   obtain⟨m,_,rfl⟩:=List.mem_map.mp hx
   refine⟨by show 3<=10000000; decide,fun x hx=>?_⟩
   simp only[List.mem_cons,List.not_mem_nil,or_false] at hx
   rcases hx with rfl|rfl|rfl<;>trivial
 ·trivial
 ·exact hints _ (by omega)
 ·exact hints _ (by omega)
abbrev kS:Stmt:=top 41
theorem scRight:FnScope ["text", "due", "found", "told"] ["text"] (qc kS):=⟨rfl,rfl,rfl,by decide +kernel,rfl,by decide +kernel,by decide +kernel⟩
def Kn:List T->(T->Prop)->Prop:=fun ts Q=>∃t:Str,ts=[.str t]/\t.length<=9500000/\Q (.bl true)
theorem XB {f:Addr} {fd:FuncData} (F:Fun K "_law_right" "_law_right" kS f fd) (DImageOf:Def P w K mg base "_law_image_of" 4 ["text"] (spP gImL)) (DRead:Def P w K mg base "_law_read" 7 ["text"] (spP gRd)) (DAlike:Def P w K mg base "_law_alike" 6 ["found", "due"] (spP (Kt 5))):FnOk P w K mg base CX0 8 f fd ["text"] (spP Kn):=by
 refine F.zP scRight (fun ts Qt h=>?_) (fun cdv A outer s H E hr=>?_)
 ·obtain⟨_,rfl,_⟩:=h
  rfl
 refine⟨_,(qg (qC (i:=1) scRight.nd rfl (Or.inl rfl) (qB DImageOf (hr.mono (by first|decide|exact Nat.le_refl _)) (qa_c (qv 0) qd)))
  (qg (xM (qB DRead (hr.mono (by first|decide|exact Nat.le_refl _)) (qa_c (qv 0) qd)) (qg_t2K (K:=K) (i:=2) (j:=3) rfl scRight.nd rfl rfl rfl (Or.inl rfl) (Or.inl rfl) (Or.inl rfl) (Or.inl rfl)))
  (qg (vG (qt JG (qv 1) zw (qF _))
   (qp (qM (Jq (xm JG (qv 2) zw (qF _)) (Jo (xm (JI (K:=K) rfl hr.units) (qv 3) (qZ (qa_c Vk (qa_c Vk (qa_c Vk (qa_c Vk qd))))) (qF _))))))
   qQ)
  (qp (qM (Jq (xm (JI (K:=K) rfl hr.units) (qv 3) (qZ qd) (qF _)) (Jo (qB DAlike (hr.mono (by first|decide|exact Nat.le_refl _)) (qa_c (qv 2) (qa_c (qv 1) qd)))))))))),_,(qj (qA (vb (qa (qb 0) qf)) (qo 1))
   (qj (qA (vb (qa (qb 0) qf)) (Xk 2 3))
   (qj (vD (qx (KK (qb 1)))
   (qU (KL (KK (qb 2)) (qk JC (qb 3) (vq (qa (ce_c (.bl _)) (qa (ce_c (.bl _)) (qa (ce_c (.bl _)) (qa (ce_c (.bl _)) qf))))))))
   qO)
   (qU (KL (qk JC (qb 3) (vq qf)) (vb (qa (qb 2) (qa (qb 1) qf)))))))),fun ts Qt h=>?_⟩
 obtain⟨t,rfl,hl,q⟩:=h
 walk_at "pk"
 refine⟨t,rfl,hl, ?_⟩
 walk_at "pk"
 refine⟨t,rfl,hl,fun im hi=>?_,fun hi=>?_⟩
 ·rw[hi]
  have hd:=XM hl hi
  unfold optT
  unfold imT at hd ⊢
  walk_at "pk"
  refine eqNil ?_
  walk_at "pk"
  exact⟨_,rfl,hd,q⟩
 ·rw[hi]
  unfold optT
  walk_at "pk"
  refine eqBls (ns:=[true,true,false,false]) (ms:=[true,true,false,false]) ?_
  walk_at "pk"
  exact q
local macro_rules | `(tactic| walk_at "vx") => `(tactic| simp only[z0,jm,jR,zQ,zj,uTry,zC,zZ,ke,kg,endX,uAsG,xj,xf,km,xl,zl,vE,xi,xk,zm,vm,uIfX,uOpX,uCbX,xY,Qi,uX0,xZ,uInK,jS,zY,jF,kf,jG,Q7,xg,xh,xP])
local macro_rules | `(tactic| walk_at "pk") => `(tactic| (walk_at "v"; repeat ((first|walk_at "vx" |refine qY (by decide) ?_|refine qI rfl ?_); walk_at "v")))
theorem at_ex {α:Type} {l:List α} {i:Int} (h0:0<=i) (h1:i<l.length):∃c,atI l i=some c:=by
 have e:l[i.toNat]?=some (l[i.toNat]'(by omega)):=List.getElem?_eq_getElem _
 have:=v8 (j:=i.toNat) e
 rw[show((i.toNat:Nat):Int)=i by omega] at this
 exact⟨_,this⟩
theorem Kb {z:Str} {i:Int} (h0:0<=i) (h1:i<z.length):∃c,atI z.cps.toList i=some c:=at_ex h0 (by rw[<-qX]; exact h1)
def Kl:List U->MM->UK->Prop:=fun us M Q=>∃(k:Nat) (o:MO),us=[.m k]/\M[k]?=some o/\BagO o/\∀(c:Nat) (o':MO),BagO o'->Q (.p (.str ⟨#[c]⟩)) (M.set k o')
theorem Qp {M:MM} {k:Nat} {o:MO} {L:List MO} {Q:UK} (hk:k<M.length) (B:BagO o) (q:∀(c:Nat) (o':MO),BagO o'->Q (.p (.str ⟨#[c]⟩)) (MB M k o' L)):Kl [.m k] (MB M k o L) Q :=
 ⟨k,o,rfl,VU hk,B,fun x o' B'=>by rw[xy hk]; exact q x o' B'⟩
def gBlot:List U->MM->UK->Prop:=fun us M Q=>∃(k:Nat) (o:MO),us=[.m k]/\M[k]?=some o/\BagO o/\∀(z:Str) (o':MO),z.length<=50->BagO o'->Q (.p (.str z)) (M.set k o')
theorem KQ {M:MM} {k:Nat} {o:MO} {L:List MO} {Q:UK} (hk:k<M.length) (B:BagO o) (q:∀(z:Str) (o':MO),z.length<=50->BagO o'->Q (.p (.str z)) (MB M k o' L)):gBlot [.m k] (MB M k o L) Q :=
 ⟨k,o,rfl,VU hk,B,fun n o' hn B'=>by rw[xy hk]; exact q n o' hn B'⟩
theorem Xy:wt (" " : Str)=1:=by decide +kernel
theorem Zk {zs:List Str} {y:Str} (h1:y.length=1) (h2:wt y=1):(zs.map (·.length)).sum+zs.length*y.length<=(zs.map wt).sum+zs.length*wt y:=by
 rw[h1,h2]
 have:(zs.map (·.length)).sum<=(zs.map wt).sum:=by
  induction zs with
  |nil=>exact Nat.le_refl _
  |cons z zs ih=>have:=vO z; simp only[List.map_cons,List.sum_cons]; omega
 omega
abbrev signsX:Str:=("0123456789- \nabcdefghijklmnopqrstuvwxyzABCDEFGHIJKLMNOPQRSTUVWXYZ" : Str)++("!\"#$&'()*+,./:;<=>?\x40[\\]^_`{|}~" : Str)
theorem kQ:signsX.length=95:=by decide +kernel
abbrev xA:Stmt:=top 30
theorem scAnySign:FnScope ["bag", "some"] ["bag"] (qc xA):=⟨rfl,rfl,rfl,by decide +kernel,rfl,by decide +kernel,by decide +kernel⟩
theorem QC {f:Addr} {fd:FuncData} (F:Fun K "_law_any_sign" "_law_any_sign" xA f fd) (N:Nms mg) (DDraw:Def P w K mg base "_law_draw" 1 ["bag", "many"] (spU QV)):FnOk P w K mg base CX0 2 f fd ["bag"] (spU Kl):=by
 refine F.zV scAnySign (fun us M Qu h=>?_) (fun cdv A outer s H E hr=>?_)
 ·obtain⟨_,_,rfl,_⟩:=h
  rfl
 refine⟨_,(qg (qC (i:=1) scAnySign.nd rfl (Or.inl rfl) ql)
  (qg (qC (i:=1) scAnySign.nd rfl (Or.inl rfl) (qw qH (qv 1) ql))
  (qg (vG (qt vW (qB DDraw (hr.mono (by first|decide|exact Nat.le_refl _)) (qa_c (qv 0) (qa_c qe qd))) qe (qF _))
   (qp (qM (qD Qb (qv 1) (qB DDraw (hr.mono (by first|decide|exact Nat.le_refl _)) (qa_c (qv 0) (qa_c qe qd))) (fun _ _=>rfl))))
   qQ)
  (qp (qM (qD Qb (qv 1) (qB DDraw (hr.mono (by first|decide|exact Nat.le_refl _)) (qa_c (qv 0) (qa_c qe qd))) (fun _ _=>rfl))))))),_,(qj (qA (ce_c (.str _)) (qo 1))
   (qj (qA (qk vi (qb 1) (ce_c (.str _))) (qo 1))
   (qj (vD (qx (qk vn (qu (qa (qb 0) (qa (ce_c (.int _)) qf))) (ce_c (.int _))))
   (qU (qk ju (qb 1) (qu (qa (qb 0) (qa (ce_c (.int _)) qf)))))
   qO)
   (qU (qk ju (qb 1) (qu (qa (qb 0) (qa (ce_c (.int _)) qf)))))))),fun us M M1 Qu e1 h=>?_⟩
 obtain⟨k,o,rfl,em,hB,post⟩:=h
 obtain⟨hkl,eM⟩:=xH em
 rw[e1.trans eM]
 have fin:∀(c:Nat) (o':MO),BagO o'->zS M (MB M k o' [])/\Qu (.p (.str ⟨#[c]⟩)) (List.take (List.length M) (MB M k o' [])):=fun z o' B=>⟨jD B.pur,by rw[jE]; exact post z o' B⟩
 walk_at "pk"
 refine⟨by decide +kernel, ?_⟩
 walk_at "pk"
 refine vc hkl hB (by decide) (by decide) fun d1 o1 d10 d11 B1=>?_
 walk_at "pk"
 refine ite2 (fun _=>?_) (fun _=>?_)
 ·refine vc hkl B1 (by decide) (by decide) fun d2 o2 d20 d21 B2=>?_
  obtain⟨c,hc⟩:=Kb (z:=signsX) (i:=d2) d20 (by rw[kQ]; omega)
  walk_at "pk"
  refine⟨_,_,c,rfl,rfl,by decide +kernel,hc, ?_⟩
  walk_at "pk"
  exact fin c o2 B2
 walk_at "pk"
 refine vc hkl B1 (by decide) (by decide) fun d2 o2 d20 d21 B2=>?_
 obtain⟨c,hc⟩:=Kb (z:=signsX) (i:=d2) d20 (by rw[kQ]; omega)
 walk_at "pk"
 refine⟨_,_,c,rfl,rfl,by decide +kernel,hc, ?_⟩
 walk_at "pk"
 exact fin c o2 B2
abbrev XA:Stmt:=top 31
theorem scBlot:FnScope ["bag", "way", "many"] ["bag"] (qc XA):=⟨rfl,rfl,rfl,by decide +kernel,rfl,by decide +kernel,by decide +kernel⟩
theorem ndBlot1:(["bag", "way", "many", "k"]:List Str).Nodup:=by decide +kernel
theorem JM {f:Addr} {fd:FuncData} (F:Fun K "_law_blot" "_law_blot" XA f fd) (N:Nms mg) (DDraw:Def P w K mg base "_law_draw" 1 ["bag", "many"] (spU QV)) (DAnySign:Def P w K mg base "_law_any_sign" 2 ["bag"] (spU Kl)):FnOk P w K mg base CX0 3 f fd ["bag"] (spU gBlot):=by
 refine F.zV scBlot (fun us M Qu h=>?_) (fun cdv A outer s H E hr=>?_)
 ·obtain⟨_,_,rfl,_⟩:=h
  rfl
 refine⟨_,(qg (qC (i:=1) scBlot.nd rfl (Or.inl rfl) (qB DDraw (hr.mono (by first|decide|exact Nat.le_refl _)) (qa_c (qv 0) (qa_c qe qd))))
  (qg (qC (i:=2) scBlot.nd rfl (Or.inl rfl) (qB DDraw (hr.mono (by first|decide|exact Nat.le_refl _)) (qa_c (qv 0) (qa_c qe qd))))
  (qg (vG (qt vW (qv 1) qe (qF _))
   (qp (qM (qw jv ql (qv 2))))
   qQ)
  (qg (vG (qt vW (qv 1) qe (qF _))
   (qp (qM (qw jv (qB DAnySign (hr.mono (by first|decide|exact Nat.le_refl _)) (qa_c (qv 0) qd)) (qv 2))))
   qQ)
  (qp (qM (xJ PySem.F.plainAttrs_str PySem.F.slot_str_join PySem.F.type_str_join (zx (K:=K) rfl) ql (qa_c (kr [true,false,false] ["k"] (vH rfl N.range (qa_c (qv 2) qd)) (fun _ _ _=>(qV (i:=3) ndBlot1 rfl (Or.inl rfl))) (fun _ _ _=>v7) (fun _ _ _=>(qB DAnySign (hr.mono (by first|decide|exact Nat.le_refl _)) (qa_c (qv 0) qd)))) qd)))))))),_,(qj (qA (qu (qa (qb 0) (qa (ce_c (.int _)) qf))) (qo 1))
   (qj (qA (qu (qa (qb 0) (qa (ce_c (.int _)) qf))) (qo 2))
   (qj (vD (qx (qk vn (qb 1) (ce_c (.int _))))
   (qU (qk xD (ce_c (.str _)) (qb 2)))
   qO)
   (qj (vD (qx (qk vn (qb 1) (ce_c (.int _))))
   (qU (qk xD (qu (qa (qb 0) qf)) (qb 2)))
   qO)
   (qU (xU zy (ce_c (.str _)) (qa (zr (xt (qa (qb 2) qf)) (vy 3) xN (qu (qa (qb 0) qf))) qf))))))),fun us M M1 Qu e1 h=>?_⟩
 obtain⟨k,o,rfl,em,B,q⟩:=h
 obtain⟨hk,eM⟩:=xH em
 rw[eM] at e1
 subst e1
 have fin:∀(z:Str) (o':MO) (L:List MO),BagO o'->z.length<=50->zS M (MB M k o' L)/\Qu (.p (.str z)) (List.take (List.length M) (MB M k o' L)):=fun z o' L B h1=>⟨jD B.pur,by rw[jE]; exact q z o' h1 B⟩
 walk_at "pk"
 refine vc hk B (by decide) (by decide) fun way o1 w0 w1 B1=>?_
 walk_at "pk"
 refine vc hk B1 (by decide) (by decide) fun many o2 m0 m1 B2=>?_
 walk_at "pk"
 have ml:∀z:Str,z.length=1->(Txt.mul z many).length<=50:=fun z hz=>by
  have:=mul_len (x:=z) (n:=many)
  rw[hz] at this
  omega
 refine ite2 (fun hw=>?_) (fun hw=>?_)
 ·exact⟨_,_,rfl,rfl,by decide +kernel,by omega,by omega,fin _ _ _ B2 (ml _ (by decide +kernel))⟩
 walk_at "pk"
 refine ite2 (fun hw2=>?_) (fun hw2=>?_)
 ·refine Qp hk B2 fun c o3 B3=>?_
  walk_at "pk"
  exact⟨_,_,rfl,rfl,by show 1<=1000; decide,by omega,by omega,fin _ _ _ B3 (ml _ rfl)⟩
 ·refine jJ (by omega) (by omega) ?_
  refine xX (Nat.le_of_lt (qL (by omega))) (fun j acc M'=>∃o cs,BagO o/\M'=MB M k o []/\cs.length=j/\acc=cs.map fun c=>T.str ⟨#[c]⟩) ⟨o2, [],B2,rfl,rfl,rfl⟩ ?_ ?_
  ·rintro j acc M' hj _ ⟨o3,cs,B3,rfl,hl,rfl⟩
   walk_at "pk"
   refine Qp hk B3 fun c o4 B4=>?_
   walk_at "pk"
   exact⟨o4,cs++[c],B4,rfl,by simp[hl],by simp⟩
  ·rintro acc M' ⟨o3,cs,B3,rfl,hl,rfl⟩
   walk_at "pk"
   have hw:((cs.map fun c=>(⟨#[c]⟩:Str)).map (·.length)).sum+(cs.map fun c=>(⟨#[c]⟩:Str)).length*("" : Str).length<=20:=by
    have:=kA (l:=cs.map fun c=>(⟨#[c]⟩:Str)) (n:=1) fun x hx=>by obtain⟨c,_,rfl⟩:=List.mem_map.mp hx; exact Nat.le_refl 1
    rw[show("" : Str).length=0 by decide +kernel]
    rw[List.length_map] at this
    omega
   refine⟨cs.map fun c=>(⟨#[c]⟩:Str),by rw[List.map_map]; rfl,Nat.le_trans hw (by decide),fin _ _ _ B3 (Nat.le_trans Vy (Nat.le_trans hw (by decide)))⟩
structure PkOk (a b c d:Int):Prop where
 a:0<=a/\a<15
 b:0<=b/\b<1000000
 c:0<=c/\c<64
 d:0<=d/\d<17
abbrev pkT (a b c d:Int):T:=.lst [.int a, .int b, .int c, .int d]
abbrev zE:Stmt:=top 32
theorem scBentText:FnScope ["text", "pick", "bag", "at", "starts", "gone"] ["text", "pick", "bag"] (qc zE):=⟨rfl,rfl,rfl,by decide +kernel,rfl,by decide +kernel,by decide +kernel⟩
theorem Zj:(["text", "pick", "bag", "at", "starts", "gone", "k"]:List Str).Nodup:=by decide +kernel
def Kr:List U->MM->UK->Prop:=fun us M Q=>∃(k:Nat) (o:MO) (t:Str) (a b c d:Int),us=[.p (.str t), .p (pkT a b c d), .m k]/\M[k]?=some o/\BagO o/\PkOk a b c d/\wt t<=3000000/\∀(z:Str) (o':MO),wt z<=3*wt t+6000->BagO o'->Q (.p (.str z)) (M.set k o')
theorem ok_bentT {f:Addr} {fd:FuncData} (F:Fun K "_law_bent_text" "_law_bent_text" zE f fd) (N:Nms mg) (DAnySign:Def P w K mg base "_law_any_sign" 2 ["bag"] (spU Kl)) (DBlot:Def P w K mg base "_law_blot" 3 ["bag"] (spU gBlot)):FnOk P w K mg base CX0 4 f fd ["text", "pick", "bag"] (spU Kr):=by
 refine F.zV scBentText (fun us M Qu h=>?_) (fun cdv A outer s H E hr=>?_)
 ·obtain⟨_,_,_,_,_,_,_,rfl,_⟩:=h
  rfl
 refine⟨_,(qg (qC (i:=3) scBentText.nd rfl (Or.inl rfl) (qw zq (qD (qh (K:=K) rfl) (qv 1) qe (fun _ _=>rfl)) (qw vC (qr v5 (by rfl) N.len zb (qa_c (qv 0) qd)) qe)))
  (qg (vG (qt vW (qD (qh (K:=K) rfl) (qv 1) qe (fun _ _=>rfl)) qe (qF _))
   (qp (qM (qw qH (qw qH (qE xb (qv 0) qN (qG (qv 3))) (qB DAnySign (hr.mono (by first|decide|exact Nat.le_refl _)) (qa_c (qv 2) qd))) (qE xb (qv 0) (qG (qv 3)) qN))))
   qQ)
  (qg (vG (qt vW (qD (qh (K:=K) rfl) (qv 1) qe (fun _ _=>rfl)) qe (qF _))
   (qp (qM (qw qH (qE xb (qv 0) qN (qG (qv 3))) (qE xb (qv 0) (qG (qw vC (qv 3) qe)) qN))))
   qQ)
  (qg (vG (qt vW (qD (qh (K:=K) rfl) (qv 1) qe (fun _ _=>rfl)) qe (qF _))
   (qp (qM (qw qH (qw qH (qE xb (qv 0) qN (qG (qv 3))) (qB DAnySign (hr.mono (by first|decide|exact Nat.le_refl _)) (qa_c (qv 2) qd))) (qE xb (qv 0) (qG (qw vC (qv 3) qe)) qN))))
   qQ)
  (qg (vG (qt vW (qD (qh (K:=K) rfl) (qv 1) qe (fun _ _=>rfl)) qe (qF _))
   (qg (qC (i:=4) scBentText.nd rfl (Or.inl rfl) (qw vZ (qZ (qa_c qe qd)) (kr [true,false,false,false,false,false] ["k"] (vH rfl N.range (qa_c (qr v5 (by rfl) N.len zb (qa_c (qv 0) qd)) qd)) (fun _ _ _=>(qV (i:=6) Zj rfl (Or.inl rfl))) (fun _ _ _=>Za (qt vW (qD Qb (qv 0) (qv 6) (fun _ _=>rfl)) ql (qF _))) (fun _ _ _=>(qw vC (qv 6) qe)))))
   (qp (qC (i:=3) scBentText.nd rfl (Or.inl rfl) (qD (qh (K:=K) rfl) (qv 4) (qw zq (qD (qh (K:=K) rfl) (qv 1) qe (fun _ _=>rfl)) (qr vg (by rfl) N.len zb (qa_c (qv 4) qd))) (fun _ _=>rfl)))))
   qQ)
  (qg (qC (i:=5) scBentText.nd rfl (Or.inl rfl) (qD (qh (K:=K) rfl) (qZ (qa_c qe (qa_c qe (qa_c (qw zq (qw je (qD (qh (K:=K) rfl) (qv 1) qe (fun _ _=>rfl)) qe) qe) qd)))) (qw zq (qD (qh (K:=K) rfl) (qv 1) qe (fun _ _=>rfl)) qe) (fun _ _=>rfl)))
  (qp (qM (qw qH (qw qH (qE xb (qv 0) qN (qG (qv 3))) (qB DBlot (hr.mono (by first|decide|exact Nat.le_refl _)) (qa_c (qv 2) qd))) (qE xb (qv 0) (qG (qw vC (qv 3) (qv 5))) qN)))))))))),_,(qj (qA (qk (zT fun _ _=>.int _) (qy (qb 1) (ce_c (.int _))) (qk (ve fun _ _=>.int _) (zW zz (qa (qb 0) qf)) (ce_c (.int _)))) (qo 3))
   (qj (vD (qx (qk vn (qy (qb 1) (ce_c (.int _))) (ce_c (.int _))))
   (qU (qk vi (qk vi (xw (qb 0) qP (qJ (qb 3))) (qu (qa (qb 2) qf))) (xw (qb 0) (qJ (qb 3)) qP)))
   qO)
   (qj (vD (qx (qk vn (qy (qb 1) (ce_c (.int _))) (ce_c (.int _))))
   (qU (qk vi (xw (qb 0) qP (qJ (qb 3))) (xw (qb 0) (qJ (qk (ve fun _ _=>.int _) (qb 3) (ce_c (.int _)))) qP)))
   qO)
   (qj (vD (qx (qk vn (qy (qb 1) (ce_c (.int _))) (ce_c (.int _))))
   (qU (qk vi (qk vi (xw (qb 0) qP (qJ (qb 3))) (qu (qa (qb 2) qf))) (xw (qb 0) (qJ (qk (ve fun _ _=>.int _) (qb 3) (ce_c (.int _)))) qP)))
   qO)
   (qj (vD (qx (qk vn (qy (qb 1) (ce_c (.int _))) (ce_c (.int _))))
   (qj (qA (qk vo (vq (qa (ce_c (.int _)) qf)) (zr (xt (qa (zW zz (qa (qb 0) qf)) qf)) (vy 6) (qx (qk vn (qk ju (qb 0) (qb 6)) (ce_c (.str _)))) (qk (ve fun _ _=>.int _) (qb 6) (ce_c (.int _))))) (qo 4))
   (qA (qy (qb 4) (qk (zT fun _ _=>.int _) (qy (qb 1) (ce_c (.int _))) (zR (qa (qb 4) qf)))) (qo 3)))
   qO)
   (qj (qA (qy (vq (qa (ce_c (.int _)) (qa (ce_c (.int _)) (qa (qk (zT fun _ _=>.int _) (qk (zT fun _ _=>.int _) (qy (qb 1) (ce_c (.int _))) (ce_c (.int _))) (ce_c (.int _))) qf)))) (qk (zT fun _ _=>.int _) (qy (qb 1) (ce_c (.int _))) (ce_c (.int _)))) (qo 5))
   (qU (qk vi (qk vi (xw (qb 0) qP (qJ (qb 3))) (qu (qa (qb 2) qf))) (xw (qb 0) (qJ (qk (ve fun _ _=>.int _) (qb 3) (qb 5))) qP))))))))),fun us M M1 Qu e1 h=>?_⟩
 obtain⟨k,o,t,a,b,c,d,rfl,em,B,pk,hw,q⟩:=h
 obtain⟨hk,eM⟩:=xH em
 rw[eM] at e1
 subst e1
 have fin:∀(z:Str) (o':MO) (L:List MO),BagO o'->wt z<=3*wt t+6000->zS M (MB M k o' L)/\Qu (.p (.str z)) (List.take (List.length M) (MB M k o' L)):=fun z o' L B h1=>⟨jD B.pur,by rw[jE]; exact q z o' h1 B⟩
 have hl:=vO t
 have hL:10000000<=sizeLine:=by decide
 have hpa:=pk.a
 have hpb:=pk.b
 have hpc:=pk.c
 walk_at "pk"
 have h0:0<=b % ((t.length:Int)+1):=Int.emod_nonneg _ (by omega)
 have h1:b % ((t.length:Int)+1)<(t.length:Int)+1:=Int.emod_lt_of_pos _ (by omega)
 generalize b % ((t.length:Int)+1)=at_ at h0 h1 ⊢
 refine⟨by omega,by omega, ?_⟩
 have cut:∀(i j:Int) (y:Str),0<=i->i<=t.length->i<=j->y.length<=50->(Txt.slice t none (some i)).length+y.length<=sizeLine/\(Txt.slice t none (some i)++y).length+(Txt.slice t (some j) none).length<=sizeLine/\wt (Txt.slice t none (some i)++y++Txt.slice t (some j) none)<=3*wt t+6000:=fun i j y i0 i1 ij hy=>by
  have e1:=wt_cut (t:=t) i0 i1 ij
  have e2:=vO (Txt.slice t none (some i))
  have e3:=vO (Txt.slice t (some j) none)
  have e4:=wt_le y
  rw[Str.length_append,xV,xV]
  omega
 walk_at "pk"
 by_cases ha0:a=0
 ·refine qI ha0 ?_
  walk_at "pk"
  refine⟨by omega,Qp hk B fun ch o1 B1=>?_⟩
  obtain⟨c1,c2,c3⟩:=cut at_ at_ ⟨#[ch]⟩ h0 (by omega) (by omega) (by show 1<=50; decide)
  walk_at "pk"
  exact⟨c1,by omega,c2,fin _ _ _ B1 c3⟩
 refine qY ha0 ?_
 walk_at "pk"
 by_cases ha1:a=1
 ·refine qI ha1 ?_
  walk_at "pk"
  have e1:=wt_cut (t:=t) (i:=at_) (j:=at_+1) h0 (by omega) (by omega)
  have e2:=vO (Txt.slice t none (some at_))
  have e3:=vO (Txt.slice t (some (at_+1)) none)
  exact⟨by omega,by omega,by omega,fin _ _ _ B (by rw[xV]; omega)⟩
 refine qY ha1 ?_
 walk_at "pk"
 by_cases ha2:a=2
 ·refine qI ha2 ?_
  walk_at "pk"
  refine⟨by omega,Qp hk B fun ch o1 B1=>?_⟩
  obtain⟨c1,c2,c3⟩:=cut at_ (at_+1) ⟨#[ch]⟩ h0 (by omega) (by omega) (by show 1<=50; decide)
  walk_at "pk"
  exact⟨c1,by omega,c2,fin _ _ _ B1 c3⟩
 refine qY ha2 ?_
 walk_at "pk"
 obtain⟨gn,hgn,g0,g1⟩:∃gn:Int,atI [T.int 0,T.int 0,T.int (c / 3 % 13)] (c % 3)=some (T.int gn)/\0<=gn/\gn<13:=by
  rcases(show c % 3=0\/c % 3=1\/c % 3=2 by omega) with e|e|e<;>rw[e]
  ·exact⟨_,rfl,by omega,by omega⟩
  ·exact⟨_,rfl,by omega,by omega⟩
  ·exact⟨_,rfl,by omega,by omega⟩
 by_cases ha3:a=3
 ·refine qI ha3 ?_
  walk_at "pk"
  refine⟨by omega,jJ (by omega) (by omega) ?_⟩
  refine xX (m:=(t.length:Int).toNat) (by rw[Int.toNat_natCast]; omega) (fun i acc M'=>M'=MB M k o []/\∃ns:List Int,acc=ns.map T.int/\ns.length<=i/\∀n∈ns,0<=n/\n<=t.length) ⟨rfl, [],rfl,Nat.le_refl _,fun n hn=>nomatch hn⟩ ?_ ?_
  ·rintro i acc M' hi _ ⟨rfl,ns,rfl,hnl,hns⟩
   rw[Int.toNat_natCast] at hi
   obtain⟨ch,hch⟩:=Kb (z:=t) (i:=(i:Int)) (by omega) (by omega)
   walk_at "pk"
   refine⟨_,_,ch,rfl,rfl,by omega,hch, ?_⟩
   walk_at "pk"
   refine ite2 (fun _=>⟨ns++[(i:Int)+1],by simp,by simp; omega,fun n hn=>?_⟩) (fun _=>⟨ns,rfl,by omega,hns⟩)
   rcases List.mem_append.mp hn with z|z
   ·exact hns n z
   ·rw[List.mem_singleton.mp z]; omega
  rintro acc M' ⟨rfl,ns,rfl,hnl,hns⟩
  rw[Int.toNat_natCast] at hnl
  walk_at "pk"
  refine⟨by rw[List.length_map]; omega,vd (t:=.int b) rfl ?_⟩
  walk_at "pk"
  rw[List.length_map]
  have i0:0<=b % ((ns.length+1:Nat):Int):=Int.emod_nonneg _ (by omega)
  have i1:b % ((ns.length+1:Nat):Int)<((ns.length+1:Nat):Int):=Int.emod_lt_of_pos _ (by omega)
  generalize b % ((ns.length+1:Nat):Int)=j at i0 i1 ⊢
  obtain⟨x,hx,hxm⟩:=ZD (xs:=T.int 0::ns.map T.int) i0 (by simpa using i1)
  obtain⟨at2,rfl,t0,t1⟩:∃n:Int,x=.int n/\0<=n/\n<=t.length:=by
   rcases List.mem_cons.mp hxm with rfl|hxm
   ·exact⟨0,rfl,by omega,by omega⟩
   ·obtain⟨n,hn,rfl⟩:=List.mem_map.mp hxm
    exact⟨n,rfl,hns n hn⟩
  refine⟨by omega,vd hx ?_⟩
  walk_at "pk"
  refine⟨⟨by decide,by decide⟩,by decide, ?_⟩
  refine vd (t:=.int c) rfl ?_
  walk_at "pk"
  refine⟨by decide,vd hgn ⟨by omega,KQ hk B fun y o4 hy B4=>?_⟩⟩
  obtain⟨c1,c2,c3⟩:=cut at2 (at2+gn) y (by omega) (by omega) (by omega) hy
  walk_at "pk"
  exact⟨c1,by omega,c2,fin _ _ _ B4 c3⟩
 refine qY ha3 ?_
 walk_at "pk"
 refine⟨⟨by decide,by decide⟩,by decide, ?_⟩
 refine vd (t:=.int c) rfl ?_
 walk_at "pk"
 refine⟨by decide,vd hgn ⟨by omega,KQ hk B fun y o4 hy B4=>?_⟩⟩
 obtain⟨c1,c2,c3⟩:=cut at_ (at_+gn) y (by omega) (by omega) (by omega) hy
 walk_at "pk"
 exact⟨c1,by omega,c2,fin _ _ _ B4 c3⟩
local macro_rules | `(tactic| walk_at "vx") => `(tactic| simp only[z0,jm,jR,zQ,zj,uTry,zC,zZ,ke,kg,endX,uAsG,xj,xf,km,xl,zl,vE,xi,xk,zm,vm,uIfX,uOpX,uCbX,xY,Qi,uX0,xZ,uInK,jS,zY,jF,kf,jG,Q7,xg,xh,xP])
local macro_rules | `(tactic| walk_at "pk") => `(tactic| (walk_at "v"; repeat ((first|walk_at "vx" |refine qY (by decide) ?_|refine qI rfl ?_); walk_at "v")))
local macro_rules | `(tactic| walk_at "dk") => `(tactic| repeat ((first|refine qY (by omega) ?_|refine qI (by omega) ?_); walk_at "pk"))
theorem nl_wt:wt ("\n" : Str)=51:=by decide +kernel
theorem wt_sum {zs:List Str} {t:Str} (h:Txt.split t ⟨#[10]⟩=zs):(zs.map wt).sum+zs.length*51=wt t+51:=by
 have:=ZH t 10
 rw[h] at this
 exact this
abbrev lnsU (zs:List Str):List U:=zs.map fun z=>U.p (.str z)
theorem lnsU_eq (zs:List Str):lnsU zs=(zs.map T.str).map U.p:=by rw[List.map_map]; rfl
theorem lns_at {zs:List Str} {j:Int} (h0:0<=j) (h1:j<zs.length):∃z,zs[j.toNat]?=some z/\atI (lnsU zs) j=some (.p (.str z))/\ixN (lnsU zs).length j=some j.toNat:=by
 have e:zs[j.toNat]?=some (zs[j.toNat]'(by omega)):=List.getElem?_eq_getElem _
 have e2:(lnsU zs)[j.toNat]?=some (.p (.str (zs[j.toNat]'(by omega)))):=by rw[List.getElem?_map,e]; rfl
 have:=v8 e2
 rw[show((j.toNat:Nat):Int)=j by omega] at this
 refine⟨_,e,this, ?_⟩
 unfold ixN
 rw[if_pos h0,if_pos (by rw[List.length_map]; exact h1)]
theorem X6 {l:List Str} {x:Str} (h:x∈l):wt x<=(l.map wt).sum:=by
 induction l with
 |nil=>cases h
 |cons a l ih =>
  simp only[List.map_cons,List.sum_cons]
  rcases List.mem_cons.mp h with rfl|h
  ·omega
  ·have:=ih h; omega
theorem Qk {y x:Str}:∀{l:List Str} {j:Nat},l[j]?=some x->((l.set j y).map wt).sum+wt x=(l.map wt).sum+wt y
 | [],_,h=>by simp at h
 |a::l,0,h=>by
  have:a=x:=by simpa using h
  subst this
  simp only[List.set_cons_zero,List.map_cons,List.sum_cons]
  omega
 |a::l,j+1,h=>by
  have:=Qk (y:=y) (l:=l) (j:=j) (by simpa using h)
  simp only[List.set_cons_succ,List.map_cons,List.sum_cons]
  omega
theorem V1 (l:List Str) (n:Nat):((l.take n).map wt).sum+((l.drop n).map wt).sum=(l.map wt).sum:=by rw[<-List.sum_append, <-List.map_append,List.take_append_drop]
theorem sn0 {zs:List Str} {R:MM}:sn (MO.lst (lnsU zs)::R) (.m 0)=some (.lst (zs.map T.str)):=by
 unfold sn
 simp only[List.getElem?_cons_zero]
 rw[lnsU_eq,zH]
 rfl
theorem VY {zs:List Str} {a:Int} {R:T->Prop} (ha:a=0\/a=1) (hw:(zs.map wt).sum+zs.length*51<=9500000) (q:∀z,wt z<=(zs.map wt).sum+zs.length*51+51->R (.str z)) :
  sMulS (T.str "\n") (T.int a) fun t=>sJoin "\n" [.lst (zs.map T.str)] fun t1=>sStr t t1 fun t=>R t:=by
 have w1:wt (Txt.mul "\n" a)<=51:=by rcases ha with rfl|rfl<;>decide +kernel
 have hj:wt (Txt.join "\n" zs)<=(zs.map wt).sum+zs.length*51:=by
  have:=j9 (y := "\n") (zs:=zs)
  rw[nl_wt] at this
  exact this
 have hl:=vO (Txt.join "\n" zs)
 have l1:=vO (Txt.mul "\n" a)
 have sz:10000000<=sizeLine:=by decide
 have hz:(zs.map (·.length)).sum<=(zs.map wt).sum:=by
  clear hw q hj hl
  induction zs with
  |nil=>exact Nat.le_refl _
  |cons z zs ih=>have:=vO z; simp only[List.map_cons,List.sum_cons]; omega
 refine⟨_,_,rfl,rfl,by decide +kernel,by omega,by omega,zs,rfl, ?_,_,_,rfl,rfl,by omega,q _ ?_⟩
 ·rw[JU,Nat.mul_one]; omega
 ·rw[xV]; omega
theorem Q9 {MM0:MM} {u:U} {zs:List Str} {a:Int} {R:T->Prop} (hs:sn MM0 u=some (.lst (zs.map T.str))) (ha:a=0\/a=1) (hw:(zs.map wt).sum+zs.length*51<=9500000) (q:∀z,wt z<=(zs.map wt).sum+zs.length*51+51->R (.str z)) :
  sMulS (T.str "\n") (T.int a) fun t=>SnsS MM0 [u] fun ts=>sJoin "\n" ts fun t1=>sStr t t1 fun t=>R t:=by
 obtain⟨i,n,h1,h2,h3,h4,h5,h6⟩:=VY ha hw q
 exact⟨i,n,h1,h2,h3,h4,h5,_,by simp only[sns,hs],h6⟩
theorem kh {z1:Str} {b:Int} {R:T->Prop} (hb:b=0\/b=1) (hw:wt z1<=9600000) (q:∀z,wt z<=wt z1+51->R (.str z)) :
  sMulS (T.str "\n") (T.int b) fun t2=>sStr (.str z1) t2 fun t=>R t:=by
 have w1:wt (Txt.mul "\n" b)<=51:=by rcases hb with rfl|rfl<;>decide +kernel
 have l1:=vO (Txt.mul "\n" b)
 have l2:=vO z1
 have sz:10000000<=sizeLine:=by decide
 exact⟨_,_,rfl,rfl,by decide +kernel,by omega,by omega,_,_,rfl,rfl,by omega,q _ (by rw[xV]; omega)⟩
def words17:List Str:=(["laying", "mark", "room", "words", "outside", "small", "abcdefgh", "abcdefghi", "", "0", "-1", "00", "-0"]:List Str)++[Txt.mul "9" 60,Txt.mul "1" 61, "A", "far"]
theorem Xw {d:Int} (h0:0<=d) (h1:d<17):∃z:Str,atI (words17.map T.str) d=some (.str z)/\wt z<=70:=by
 obtain⟨t,ht,hm⟩:=ZD (xs:=words17.map T.str) h0 h1
 obtain⟨z,hz,rfl⟩:=List.mem_map.mp hm
 have key:∀z∈words17,wt z<=70:=by decide +kernel
 exact⟨z,ht,key z hz⟩
abbrev zf:Stmt:=top 33
theorem scBentLines:FnScope ["text", "pick", "lines", "at", "some", "k", "words", "word", "rest", "other"] ["text", "pick"] (qc zf):=⟨rfl,rfl,rfl,by decide +kernel,rfl,by decide +kernel,by decide +kernel⟩
theorem Vu:(["text", "pick", "lines", "at", "some", "k", "words", "word", "rest", "other", "line"]:List Str).Nodup:=by decide +kernel
def Zq:List T->(T->Prop)->Prop:=fun ts Q=>∃(t:Str) (a b c d:Int),ts=[.str t,pkT a b c d]/\PkOk a b c d/\5<=a/\wt t<=3000000/\∀z:Str,wt z<=3*wt t+6000->Q (.str z)
theorem JN {f:Addr} {fd:FuncData} (F:Fun K "_law_bent_lines" "_law_bent_lines" zf f fd) (N:Nms mg):FnOk P w K mg base CX0 1 f fd ["text", "pick"] (spP Zq):=by
 refine F.zP scBentLines (fun ts Qt h=>?_) (fun cdv A outer s H E hr=>?_)
 ·obtain⟨_,_,_,_,_,rfl,_⟩:=h
  rfl
 refine⟨_,(qg (qC (i:=2) scBentLines.nd rfl (Or.inl rfl) (xJ PySem.F.plainAttrs_str PySem.F.slot_str_split PySem.F.type_str_split zN (qv 0) (qa_c ql qd)))
  (qg (qC (i:=3) scBentLines.nd rfl (Or.inl rfl) (qw zq (qD (qh (K:=K) rfl) (qv 1) qe (fun _ _=>rfl)) (qr vg (by rfl) N.len zb (qa_c (qv 2) qd))))
  (qg (qC (i:=4) scBentLines.nd rfl (Or.inl rfl) (xJ PySem.F.plainAttrs_str PySem.F.slot_str_split PySem.F.type_str_split zN (qD (qh (K:=K) rfl) (qv 2) (qv 3) (fun _ _=>rfl)) (qa_c ql qd)))
  (qg (qC (i:=5) scBentLines.nd rfl (Or.inl rfl) (qw zq (qD (qh (K:=K) rfl) (qv 1) qe (fun _ _=>rfl)) (qw vC (qr vg (by rfl) N.len zb (qa_c (qv 4) qd)) qe)))
  (qg (qC (i:=6) scBentLines.nd rfl (Or.inl rfl) (qZ (qa_c ql (qa_c ql (qa_c ql (qa_c ql (qa_c ql (qa_c ql (qa_c ql (qa_c ql (qa_c ql (qa_c ql (qa_c ql (qa_c ql (qa_c ql qd)))))))))))))))
  (qg (qC (i:=6) scBentLines.nd rfl (Or.inl rfl) (qw vZ (qv 6) (qZ (qa_c (qw jv ql qe) (qa_c (qw jv ql qe) (qa_c ql (qa_c ql qd)))))))
  (qg (qC (i:=7) scBentLines.nd rfl (Or.inl rfl) (qD (qh (K:=K) rfl) (qv 6) (qD (qh (K:=K) rfl) (qv 1) qe (fun _ _=>rfl)) (fun _ _=>rfl)))
  (qg (vG (qt vW (qD (qh (K:=K) rfl) (qv 1) qe (fun _ _=>rfl)) qe (qF _))
   (qp (qC (i:=2) scBentLines.nd rfl (Or.inl rfl) (qw vZ (qE (qR (K:=K) rfl) (qv 2) qN (qG (qv 3))) (qE (qR (K:=K) rfl) (qv 2) (qG (qw vC (qv 3) qe)) qN))))
   qQ)
  (qg (vG (qt vW (qD (qh (K:=K) rfl) (qv 1) qe (fun _ _=>rfl)) qe (qF _))
   (qg (qC (i:=8) scBentLines.nd rfl (Or.inl rfl) (qw vZ (qE (qR (K:=K) rfl) (qv 2) qN (qG (qv 3))) (qE (qR (K:=K) rfl) (qv 2) (qG (qw vC (qv 3) qe)) qN)))
   (qg (qC (i:=9) scBentLines.nd rfl (Or.inl rfl) (qw zq (qD (qh (K:=K) rfl) (qv 1) qe (fun _ _=>rfl)) (qr vg (by rfl) N.len zb (qa_c (qv 2) qd))))
   (qp (qC (i:=2) scBentLines.nd rfl (Or.inl rfl) (qw vZ (qw vZ (qE (qR (K:=K) rfl) (qv 8) qN (qG (qv 9))) (qZ (qa_c (qD (qh (K:=K) rfl) (qv 2) (qv 3) (fun _ _=>rfl)) qd))) (qE (qR (K:=K) rfl) (qv 8) (qG (qv 9)) qN))))))
   qQ)
  (qg (vG (qt vW (qD (qh (K:=K) rfl) (qv 1) qe (fun _ _=>rfl)) qe (qF _))
   (qp (qC (i:=2) scBentLines.nd rfl (Or.inl rfl) (qw vZ (qw vZ (qE (qR (K:=K) rfl) (qv 2) qN (qG (qv 3))) (qZ (qa_c (qD (qh (K:=K) rfl) (qv 2) (qv 3) (fun _ _=>rfl)) qd))) (qE (qR (K:=K) rfl) (qv 2) (qG (qv 3)) qN))))
   qQ)
  (qg (vG (qt vW (qD (qh (K:=K) rfl) (qv 1) qe (fun _ _=>rfl)) qe (qF _))
   (qp (xM (xJ PySem.F.plainAttrs_str PySem.F.slot_str_join PySem.F.type_str_join (zx (K:=K) rfl) ql (qa_c (qw vZ (qw vZ (qE (qR (K:=K) rfl) (qv 4) qN (qG (qv 5))) (qZ (qa_c (qv 7) qd))) (qE (qR (K:=K) rfl) (qv 4) (qG (qv 5)) qN)) qd)) (jN (qv 2) (qv 3) zt)))
   qQ)
  (qg (vG (qt vW (qD (qh (K:=K) rfl) (qv 1) qe (fun _ _=>rfl)) qe (qF _))
   (qp (xM (xJ PySem.F.plainAttrs_str PySem.F.slot_str_join PySem.F.type_str_join (zx (K:=K) rfl) ql (qa_c (qw vZ (qE (qR (K:=K) rfl) (qv 4) qN (qG (qv 5))) (qE (qR (K:=K) rfl) (qv 4) (qG (qw vC (qv 5) qe)) qN)) qd)) (jN (qv 2) (qv 3) zt)))
   qQ)
  (qg (vG (qt vW (qD (qh (K:=K) rfl) (qv 1) qe (fun _ _=>rfl)) qe (qF _))
   (qp (xM (xJ PySem.F.plainAttrs_str PySem.F.slot_str_join PySem.F.type_str_join (zx (K:=K) rfl) ql (qa_c (qw vZ (qw vZ (qE (qR (K:=K) rfl) (qv 4) qN (qG (qv 5))) (qZ (qa_c (qv 7) qd))) (qE (qR (K:=K) rfl) (qv 4) (qG (qw vC (qv 5) qe)) qN)) qd)) (jN (qv 2) (qv 3) zt)))
   qQ)
  (qg (vG (qt vW (qD (qh (K:=K) rfl) (qv 1) qe (fun _ _=>rfl)) qe (qF _))
   (qp (qC (i:=2) scBentLines.nd rfl (Or.inl rfl) (qw vZ (qw vZ (qE (qR (K:=K) rfl) (qv 2) qN (qG (qv 3))) (qZ (qa_c (qw qH ql (qD (qh (K:=K) rfl) (qZ (qa_c ql (qa_c ql (qa_c ql (qa_c (qw qH (qv 7) ql) qd))))) (qw zq (qD (qh (K:=K) rfl) (qv 1) qe (fun _ _=>rfl)) qe) (fun _ _=>rfl))) qd))) (qE (qR (K:=K) rfl) (qv 2) (qG (qv 3)) qN))))
   qQ)
  (qg (vG (qt vW (qD (qh (K:=K) rfl) (qv 1) qe (fun _ _=>rfl)) qe (qF _))
   (qp (qC (i:=2) scBentLines.nd rfl (Or.inl rfl) (xB (qt vW (qw zq (qD (qh (K:=K) rfl) (qv 1) qe (fun _ _=>rfl)) qe) qe (qF _)) (kr [false,false,false,false,false,false,false,false,false,false] ["line"] (vY (K:=K) rfl (qv 2)) (fun _ _ _=>(qV (i:=10) Vu rfl (Or.inl rfl))) (fun _ _ _=>v7) (fun _ _ _=>(qe_bm0 PySem.F.plainAttrs_str PySem.F.slot_str_upper PySem.F.type_str_upper mt_upper (qv 10)))) (qe_rev (K:=K) rfl (qv 2)))))
   qQ)
  (qp (qM (qw qH (qw qH (qw jv ql (vI VN (by rfl) N.int XS (qa_c (xm vW (qD (qh (K:=K) rfl) (qv 1) qe (fun _ _=>rfl)) qe (qF _)) qd))) (xJ PySem.F.plainAttrs_str PySem.F.slot_str_join PySem.F.type_str_join (zx (K:=K) rfl) ql (qa_c (qv 2) qd))) (qw jv ql (vI VN (by rfl) N.int XS (qa_c (xm vW (qD (qh (K:=K) rfl) (qv 1) qe (fun _ _=>rfl)) qe (qF _)) qd))))))))))))))))))))),_,(qj (qA (KI (qb 0) (qa (ce_c (.str _)) qf)) (qo 2))
   (qj (qA (qk (zT fun _ _=>.int _) (qy (qb 1) (ce_c (.int _))) (zR (qa (qb 2) qf))) (qo 3))
   (qj (qA (xU zI (qy (qb 2) (qb 3)) (qa (ce_c (.str _)) qf)) (qo 4))
   (qj (qA (qk (zT fun _ _=>.int _) (qy (qb 1) (ce_c (.int _))) (qk (ve fun _ _=>.int _) (zR (qa (qb 4) qf)) (ce_c (.int _)))) (qo 5))
   (qj (qA (vq (qa (ce_c (.str _)) (qa (ce_c (.str _)) (qa (ce_c (.str _)) (qa (ce_c (.str _)) (qa (ce_c (.str _)) (qa (ce_c (.str _)) (qa (ce_c (.str _)) (qa (ce_c (.str _)) (qa (ce_c (.str _)) (qa (ce_c (.str _)) (qa (ce_c (.str _)) (qa (ce_c (.str _)) (qa (ce_c (.str _)) qf)))))))))))))) (qo 6))
   (qj (qA (qk vo (qb 6) (vq (qa (qk xD (ce_c (.str _)) (ce_c (.int _))) (qa (qk xD (ce_c (.str _)) (ce_c (.int _))) (qa (ce_c (.str _)) (qa (ce_c (.str _)) qf)))))) (qo 6))
   (qj (qA (qy (qb 6) (qy (qb 1) (ce_c (.int _)))) (qo 7))
   (qj (vD (qx (qk vn (qy (qb 1) (ce_c (.int _))) (ce_c (.int _))))
   (qA (qk vo (zJ (qb 2) qP (qJ (qb 3))) (zJ (qb 2) (qJ (qk (ve fun _ _=>.int _) (qb 3) (ce_c (.int _)))) qP)) (qo 2))
   qO)
   (qj (vD (qx (qk vn (qy (qb 1) (ce_c (.int _))) (ce_c (.int _))))
   (qj (qA (qk vo (zJ (qb 2) qP (qJ (qb 3))) (zJ (qb 2) (qJ (qk (ve fun _ _=>.int _) (qb 3) (ce_c (.int _)))) qP)) (qo 8))
   (qj (qA (qk (zT fun _ _=>.int _) (qy (qb 1) (ce_c (.int _))) (zR (qa (qb 2) qf))) (qo 9))
   (qA (qk vo (qk vo (zJ (qb 8) qP (qJ (qb 9))) (vq (qa (qy (qb 2) (qb 3)) qf))) (zJ (qb 8) (qJ (qb 9)) qP)) (qo 2))))
   qO)
   (qj (vD (qx (qk vn (qy (qb 1) (ce_c (.int _))) (ce_c (.int _))))
   (qA (qk vo (qk vo (zJ (qb 2) qP (qJ (qb 3))) (vq (qa (qy (qb 2) (qb 3)) qf))) (zJ (qb 2) (qJ (qb 3)) qP)) (qo 2))
   qO)
   (qj (vD (qx (qk vn (qy (qb 1) (ce_c (.int _))) (ce_c (.int _))))
   (qA (xU zy (ce_c (.str _)) (qa (qk vo (qk vo (zJ (qb 4) qP (qJ (qb 5))) (vq (qa (qb 7) qf))) (zJ (qb 4) (qJ (qb 5)) qP)) qf)) (KH (qb 2) (qb 3)))
   qO)
   (qj (vD (qx (qk vn (qy (qb 1) (ce_c (.int _))) (ce_c (.int _))))
   (qA (xU zy (ce_c (.str _)) (qa (qk vo (zJ (qb 4) qP (qJ (qb 5))) (zJ (qb 4) (qJ (qk (ve fun _ _=>.int _) (qb 5) (ce_c (.int _)))) qP)) qf)) (KH (qb 2) (qb 3)))
   qO)
   (qj (vD (qx (qk vn (qy (qb 1) (ce_c (.int _))) (ce_c (.int _))))
   (qA (xU zy (ce_c (.str _)) (qa (qk vo (qk vo (zJ (qb 4) qP (qJ (qb 5))) (vq (qa (qb 7) qf))) (zJ (qb 4) (qJ (qk (ve fun _ _=>.int _) (qb 5) (ce_c (.int _)))) qP)) qf)) (KH (qb 2) (qb 3)))
   qO)
   (qj (vD (qx (qk vn (qy (qb 1) (ce_c (.int _))) (ce_c (.int _))))
   (qA (qk vo (qk vo (zJ (qb 2) qP (qJ (qb 3))) (vq (qa (qk vi (ce_c (.str _)) (qy (vq (qa (ce_c (.str _)) (qa (ce_c (.str _)) (qa (ce_c (.str _)) (qa (qk vi (qb 7) (ce_c (.str _))) qf))))) (qk (zT fun _ _=>.int _) (qy (qb 1) (ce_c (.int _))) (ce_c (.int _))))) qf))) (zJ (qb 2) (qJ (qb 3)) qP)) (qo 2))
   qO)
   (qj (vD (qx (qk vn (qy (qb 1) (ce_c (.int _))) (ce_c (.int _))))
   (qA (XR (qx (qk vn (qk (zT fun _ _=>.int _) (qy (qb 1) (ce_c (.int _))) (ce_c (.int _))) (ce_c (.int _)))) (zr (xu (qb 2)) (vy 10) xN (ce_upper (qb 10))) (ce_revL (qb 2))) (qo 2))
   qO)
   (qU (qk vi (qk vi (qk xD (ce_c (.str _)) (zW KM (qa (qk vn (qy (qb 1) (ce_c (.int _))) (ce_c (.int _))) qf))) (xU zy (ce_c (.str _)) (qa (qb 2) qf))) (qk xD (ce_c (.str _)) (zW KM (qa (qk vn (qy (qb 1) (ce_c (.int _))) (ce_c (.int _))) qf)))))))))))))))))))),fun ts Qt h=>?_⟩
 obtain⟨t,a,b,c,d,rfl,pk,ha,hw,q⟩:=h
 have hl:=vO t
 unfold pkT
 have hne:Txt.split t ⟨#[10]⟩≠[]:=jZ
 have hL:10000000<=sizeLine:=by decide
 have hpa:=pk.a
 have hpb:=pk.b
 have hpc:=pk.c
 have hpd:=pk.d
 walk_at "pk"
 refine⟨t,rfl,10,_,by rw[nl_is],rfl,Nat.le_trans (m:=10000000) (by omega) (by decide), ?_⟩
 have hs:=wt_sum (t:=t) rfl
 have hfw:=zk (x:=t) (c:=10)
 generalize Txt.split t ⟨#[10]⟩=zs at hs hne hfw ⊢
 have hzp:1<=zs.length:=List.length_pos_iff.mpr hne
 walk_at "pk"
 rw[List.length_map]
 have r0:0<=b % (zs.length:Int):=Int.emod_nonneg _ (by omega)
 have r1:b % (zs.length:Int)<zs.length:=Int.emod_lt_of_pos _ (by omega)
 generalize b % (zs.length:Int)=row at r0 r1 ⊢
 refine⟨by omega, ?_⟩
 obtain⟨line,hl1,hl2,hl3⟩:=lns_at r0 r1
 have hlw:=X6 (List.mem_of_getElem? hl1)
 have hll:=vO line
 walk_at "pk"
 refine⟨_,_,_,rfl,rfl,hl2, ?_⟩
 walk_at "pk"
 refine⟨32,_,by rw[sp_is],rfl,Nat.le_trans (m:=10000000) (by omega) (by decide), ?_⟩
 have hsw:((Txt.split line ⟨#[32]⟩).map wt).sum+(Txt.split line ⟨#[32]⟩).length=wt line+1:=by
  have:=ZH line 32
  rw[show wtc 32=1 from rfl,Nat.mul_one] at this
  exact this
 generalize Txt.split line ⟨#[32]⟩=ys at hsw ⊢
 walk_at "pk"
 rw[List.length_map]
 have k0:0<=c % ((ys.length:Int)+1):=Int.emod_nonneg _ (by omega)
 have k1:c % ((ys.length:Int)+1)<(ys.length:Int)+1:=Int.emod_lt_of_pos _ (by omega)
 generalize c % ((ys.length:Int)+1)=k at k0 k1 ⊢
 refine⟨by omega, ?_⟩
 walk_at "pk"
 refine⟨_,_,rfl,rfl,by decide +kernel,by decide,by decide, ?_⟩
 refine⟨_,_,rfl,rfl,by decide +kernel,by decide,by decide, ?_⟩
 walk_at "pk"
 refine⟨by decide, ?_⟩
 obtain⟨wd,hwd,hwl⟩:=Xw hpd.1 hpd.2
 walk_at "pk"
 refine vd (show atI (words17.map T.str) d=_ from hwd) ?_
 walk_at "pk"
 have hc:=V1 zs row.toNat
 have hd2:((zs.drop (row.toNat+1)).map wt).sum<=((zs.drop row.toNat).map wt).sum:=by
  rw[<-List.drop_drop]
  cases zs.drop row.toNat with
  |nil=>simp
  |cons y ys=>simp
 have kc:=V1 ys k.toNat
 have kd:((ys.drop (k.toNat+1)).map wt).sum<=((ys.drop k.toNat).map wt).sum:=by
  rw[<-List.drop_drop]
  cases ys.drop k.toNat with
  |nil=>simp
  |cons y ys=>simp
 have hset:∀y,(lnsU zs).set row.toNat (.p (.str y))=lnsU (zs.set row.toNat y):=fun y=>by simp[lnsU,List.map_set]
 rcases(show a=5\/a=6\/a=7\/a=8\/a=9\/a=10\/a=11\/a=12\/a=13\/a=14 by omega) with hd|hd|hd|hd|hd|hd|hd|hd|hd|hd
 all_goals walk_at "dk"
 ·refine⟨_,sn0,_,sn0, ?_⟩
  rw[xq r0,vN (show 0<=row+1 by omega),show(row+1).toNat=row.toNat+1 by omega]
  walk_at "pk"
  refine⟨by simp only[List.length_map,List.length_take,List.length_drop]; omega, ?_⟩
  rw[<-List.map_append]
  walk_at "pk"
  walk_at "dk"
  refine VY (zs:=zs.take row.toNat++zs.drop (row.toNat+1)) (by split<;>simp) ?_ fun z1 hz1=>?_
  ·simp only[List.map_append,List.map_cons,List.map_nil,List.sum_append,List.sum_cons,List.sum_nil,List.length_append,List.length_cons,List.length_nil,List.length_take,List.length_drop]; omega
  simp only[List.map_append,List.map_cons,List.map_nil,List.sum_append,List.sum_cons,List.sum_nil,List.length_append,List.length_cons,List.length_nil,List.length_take,List.length_drop] at hz1
  walk_at "pk"
  refine kh (by split<;>simp) (by omega) fun z hz=>q z (by omega)
 ·refine⟨_,sn0,_,sn0, ?_⟩
  rw[xq r0,vN (show 0<=row+1 by omega),show(row+1).toNat=row.toNat+1 by omega]
  walk_at "pk"
  refine⟨by simp only[List.length_map,List.length_take,List.length_drop]; omega, ?_⟩
  rw[<-List.map_append]
  have hrl:(zs.take row.toNat++zs.drop (row.toNat+1)).length+1=zs.length:=by simp only[List.length_append,List.length_take,List.length_drop]; omega
  have hrs:((zs.take row.toNat++zs.drop (row.toNat+1)).map wt).sum<=(zs.map wt).sum:=by rw[List.map_append,List.sum_append]; omega
  generalize zs.take row.toNat++zs.drop (row.toNat+1)=rs at hrl hrs ⊢
  walk_at "pk"
  rw[List.length_map]
  have o0:0<=c % (zs.length:Int):=Int.emod_nonneg _ (by omega)
  generalize c % (zs.length:Int)=oth at o0 ⊢
  refine⟨by omega, ?_⟩
  walk_at "pk"
  refine⟨_,_,_,rfl,rfl,hl2, ?_⟩
  walk_at "pk"
  rw[xq o0,vN o0,show(List.map T.str (rs.take oth.toNat))++[T.str line]=(rs.take oth.toNat++[line]).map T.str by simp]
  have rc:=V1 rs oth.toNat
  refine⟨by simp only[List.length_map,List.length_take]; omega, ?_⟩
  refine⟨by simp only[List.length_map,List.length_append,List.length_take,List.length_drop,List.length_cons,List.length_nil]; omega, ?_⟩
  rw[<-List.map_append]
  walk_at "pk"
  walk_at "dk"
  refine VY (zs:=rs.take oth.toNat++[line]++rs.drop oth.toNat) (by split<;>simp) ?_ fun z1 hz1=>?_
  ·simp only[List.map_append,List.map_cons,List.map_nil,List.sum_append,List.sum_cons,List.sum_nil,List.length_append,List.length_cons,List.length_nil,List.length_take,List.length_drop]; omega
  simp only[List.map_append,List.map_cons,List.map_nil,List.sum_append,List.sum_cons,List.sum_nil,List.length_append,List.length_cons,List.length_nil,List.length_take,List.length_drop] at hz1
  walk_at "pk"
  refine kh (by split<;>simp) (by omega) fun z hz=>q z (by omega)
 ·refine⟨_,sn0,_,_,_,rfl,rfl,hl2, ?_⟩
  rw[xq r0]
  walk_at "pk"
  refine⟨by simp only[List.length_map,List.length_take]; omega,_,sn0, ?_⟩
  rw[vN r0,show(List.map T.str (zs.take row.toNat))++[T.str line]=(zs.take row.toNat++[line]).map T.str by simp]
  walk_at "pk"
  refine⟨by simp only[List.length_map,List.length_append,List.length_take,List.length_drop,List.length_cons,List.length_nil]; omega, ?_⟩
  rw[<-List.map_append]
  walk_at "pk"
  walk_at "dk"
  refine VY (zs:=zs.take row.toNat++[line]++zs.drop row.toNat) (by split<;>simp) ?_ fun z1 hz1=>?_
  ·simp only[List.map_append,List.map_cons,List.map_nil,List.sum_append,List.sum_cons,List.sum_nil,List.length_append,List.length_cons,List.length_nil,List.length_take,List.length_drop]; omega
  simp only[List.map_append,List.map_cons,List.map_nil,List.sum_append,List.sum_cons,List.sum_nil,List.length_append,List.length_cons,List.length_nil,List.length_take,List.length_drop] at hz1
  walk_at "pk"
  refine kh (by split<;>simp) (by omega) fun z hz=>q z (by omega)
 ·rw[xq k0,vN k0]
  refine⟨by simp only[List.length_map,List.length_append,List.length_take,List.length_drop,List.length_cons,List.length_nil]; omega,by simp only[List.length_map,List.length_append,List.length_take,List.length_drop,List.length_cons,List.length_nil]; omega, ?_⟩
  have hj:((ys.take k.toNat++[wd]++ys.drop k.toNat).map wt).sum+(ys.take k.toNat++[wd]++ys.drop k.toNat).length*wt (" " : Str)<=wt line+100:=by
   rw[Xy]
   simp only[List.map_append,List.map_cons,List.map_nil,List.sum_append,List.sum_cons,List.sum_nil,List.length_append,List.length_cons,List.length_nil,List.length_take,List.length_drop]
   omega
  refine⟨ys.take k.toNat++[wd]++ys.drop k.toNat,by simp,Nat.le_trans (Zk kO Xy) (Nat.le_trans hj (by omega)), ?_⟩
  have hy:=Nat.le_trans (j9 (y := " ")) hj
  generalize Txt.join " " (ys.take k.toNat++[wd]++ys.drop k.toNat)=y at hy ⊢
  refine⟨_,_,_,_,rfl,rfl,rfl,hl3, ?_⟩
  have hsum:=Qk (y:=y) hl1
  walk_at "pk"
  walk_at "dk"
  refine Q9 (zs:=zs.set row.toNat y) (by show sn [MO.lst ((lnsU zs).set row.toNat (.p (.str y)))] _=_; rw[hset]; exact sn0) (by split<;>simp) (by rw[List.length_set]; omega) fun z1 hz1=>?_
  rw[List.length_set] at hz1
  walk_at "pk"
  refine kh (by split<;>simp) (by omega) fun z hz=>q z (by omega)
 ·rw[xq k0,vN (show 0<=k+1 by omega),show(k+1).toNat=k.toNat+1 by omega]
  refine⟨by simp only[List.length_map,List.length_append,List.length_take,List.length_drop,List.length_cons,List.length_nil]; omega, ?_⟩
  have hj:((ys.take k.toNat++ys.drop (k.toNat+1)).map wt).sum+(ys.take k.toNat++ys.drop (k.toNat+1)).length*wt (" " : Str)<=wt line+100:=by
   rw[Xy]
   simp only[List.map_append,List.map_cons,List.map_nil,List.sum_append,List.sum_cons,List.sum_nil,List.length_append,List.length_cons,List.length_nil,List.length_take,List.length_drop]
   omega
  refine⟨ys.take k.toNat++ys.drop (k.toNat+1),by simp,Nat.le_trans (Zk kO Xy) (Nat.le_trans hj (by omega)), ?_⟩
  have hy:=Nat.le_trans (j9 (y := " ")) hj
  generalize Txt.join " " (ys.take k.toNat++ys.drop (k.toNat+1))=y at hy ⊢
  refine⟨_,_,_,_,rfl,rfl,rfl,hl3, ?_⟩
  have hsum:=Qk (y:=y) hl1
  walk_at "pk"
  walk_at "dk"
  refine Q9 (zs:=zs.set row.toNat y) (by show sn [MO.lst ((lnsU zs).set row.toNat (.p (.str y)))] _=_; rw[hset]; exact sn0) (by split<;>simp) (by rw[List.length_set]; omega) fun z1 hz1=>?_
  rw[List.length_set] at hz1
  walk_at "pk"
  refine kh (by split<;>simp) (by omega) fun z hz=>q z (by omega)
 ·rw[xq k0,vN (show 0<=k+1 by omega),show(k+1).toNat=k.toNat+1 by omega]
  refine⟨by simp only[List.length_map,List.length_append,List.length_take,List.length_drop,List.length_cons,List.length_nil]; omega,by simp only[List.length_map,List.length_append,List.length_take,List.length_drop,List.length_cons,List.length_nil]; omega, ?_⟩
  have hj:((ys.take k.toNat++[wd]++ys.drop (k.toNat+1)).map wt).sum+(ys.take k.toNat++[wd]++ys.drop (k.toNat+1)).length*wt (" " : Str)<=wt line+100:=by
   rw[Xy]
   simp only[List.map_append,List.map_cons,List.map_nil,List.sum_append,List.sum_cons,List.sum_nil,List.length_append,List.length_cons,List.length_nil,List.length_take,List.length_drop]
   omega
  refine⟨ys.take k.toNat++[wd]++ys.drop (k.toNat+1),by simp,Nat.le_trans (Zk kO Xy) (Nat.le_trans hj (by omega)), ?_⟩
  have hy:=Nat.le_trans (j9 (y := " ")) hj
  generalize Txt.join " " (ys.take k.toNat++[wd]++ys.drop (k.toNat+1))=y at hy ⊢
  refine⟨_,_,_,_,rfl,rfl,rfl,hl3, ?_⟩
  have hsum:=Qk (y:=y) hl1
  walk_at "pk"
  walk_at "dk"
  refine Q9 (zs:=zs.set row.toNat y) (by show sn [MO.lst ((lnsU zs).set row.toNat (.p (.str y)))] _=_; rw[hset]; exact sn0) (by split<;>simp) (by rw[List.length_set]; omega) fun z1 hz1=>?_
  rw[List.length_set] at hz1
  walk_at "pk"
  refine kh (by split<;>simp) (by omega) fun z hz=>q z (by omega)
 ·refine Q9 (zs:=zs) sn0 (by split<;>simp) ?_ fun z1 hz1=>?_
  ·omega
  skip
  walk_at "pk"
  refine kh (by split<;>simp) (by omega) fun z hz=>q z (by omega)
 ·refine Q9 (zs:=zs) sn0 (by split<;>simp) ?_ fun z1 hz1=>?_
  ·omega
  skip
  walk_at "pk"
  refine kh (by split<;>simp) (by omega) fun z hz=>q z (by omega)
 ·have hwl2:=vO wd
  have e11:(" 1 1" : Str).length=4:=by decide +kernel
  refine⟨_,sn0,by rw[e11]; omega,vd (t:=.int d) rfl ?_⟩
  walk_at "pk"
  obtain⟨y,hy,hyw⟩:∃y,atI [T.str "far 2 1", T.str "small 2 -1", T.str "q 0 0", T.str (wd ++ " 1 1")] (d % 4)=some (.str y)/\wt y<=80:=by
   rcases(show d % 4=0\/d % 4=1\/d % 4=2\/d % 4=3 by omega) with e|e|e|e<;>rw[e]
   ·exact⟨_,rfl,by decide +kernel⟩
   ·exact⟨_,rfl,by decide +kernel⟩
   ·exact⟨_,rfl,by decide +kernel⟩
   ·exact⟨_,rfl,by rw[xV,show wt " 1 1" = 4 by decide +kernel]; omega⟩
  have hyl:=vO y
  refine⟨by decide,vd hy ?_⟩
  rw[xq r0]
  walk_at "pk"
  refine⟨by rw[show("mark " : Str).length=5 by decide +kernel]; omega, ?_⟩
  have hmw:wt ("mark " ++ y)<=85:=by rw[xV,show wt "mark " = 5 by decide +kernel]; omega
  generalize("mark " : Str)++y=ml at hmw ⊢
  walk_at "pk"
  refine⟨by simp only[List.length_map,List.length_take]; omega,_,sn0, ?_⟩
  rw[vN r0,show(List.map T.str (zs.take row.toNat))++[T.str ml]=(zs.take row.toNat++[ml]).map T.str by simp]
  walk_at "pk"
  refine⟨by simp only[List.length_map,List.length_append,List.length_take,List.length_drop,List.length_cons,List.length_nil]; omega, ?_⟩
  rw[<-List.map_append]
  walk_at "pk"
  walk_at "dk"
  refine VY (zs:=zs.take row.toNat++[ml]++zs.drop row.toNat) (by split<;>simp) ?_ fun z1 hz1=>?_
  ·simp only[List.map_append,List.map_cons,List.map_nil,List.sum_append,List.sum_cons,List.sum_nil,List.length_append,List.length_cons,List.length_nil,List.length_take,List.length_drop]; omega
  simp only[List.map_append,List.map_cons,List.map_nil,List.sum_append,List.sum_cons,List.sum_nil,List.length_append,List.length_cons,List.length_nil,List.length_take,List.length_drop] at hz1
  walk_at "pk"
  refine kh (by split<;>simp) (by omega) fun z hz=>q z (by omega)
 ·refine⟨by decide,ite2 (fun hc8=>?_) fun hc8=>?_⟩
  ·refine⟨_,rfl, ?_⟩
   refine⟨by show(lnsU zs).length<=_; rw[List.length_map]; omega,fun i acc M2=>M2=[MO.lst (lnsU zs)]/\acc=((zs.take i).map Txt.upper).map T.str,⟨rfl,rfl⟩, ?_, ?_⟩
   ·rintro i acc M2 hi _ ⟨rfl,rfl⟩
    refine⟨rfl,fun u hu=>?_⟩
    have hu:(lnsU zs)[i]?=some u:=hu
    rw[List.getElem?_map] at hu
    cases e:zs[i]? with
    |none=>rw[e] at hu; cases hu
    |some x =>
    rw[e] at hu
    cases hu
    have hxw:=X6 (List.mem_of_getElem? e)
    have hxl:=vO x
    walk_at "pk"
    refine⟨x,rfl,by omega, ?_⟩
    rw[jn e]
    simp
   rintro acc M2 ⟨rfl,rfl⟩
   refine⟨rfl, ?_⟩
   have eT:zs.take (lnsU zs).length=zs:=by rw[List.length_map,List.take_length]
   have hup:((zs.map Txt.upper).map wt).sum<=3*(zs.map wt).sum:=by
    clear hs hne hfw hzp hl1 hl2 hl3 hlw hc hd2 hset eT r1
    induction zs with
    |nil=>exact Nat.le_refl _
    |cons z zs ih=>have:=wt_upper z; simp only[List.map_cons,List.sum_cons]; omega
   rw[show(itU (U.m 0) (List.map (fun z=>U.p (T.str z)) zs)).n=(lnsU zs).length from rfl,eT]
   walk_at "pk"
   refine VY (zs:=zs.map Txt.upper) (by split<;>simp) (by rw[List.length_map]; omega) fun z1 hz1=>?_
   rw[List.length_map] at hz1
   walk_at "pk"
   refine kh (by split<;>simp) (by omega) fun z hz=>q z (by omega)
  ·rw[rd_revL]
   walk_at "pk"
   refine⟨_,sn0, ?_⟩
   rw[<-List.map_reverse]
   walk_at "pk"
   have hrv:(zs.reverse.map wt).sum=(zs.map wt).sum:=by rw[List.map_reverse,List.sum_reverse]
   refine VY (zs:=zs.reverse) (by split<;>simp) (by rw[List.length_reverse]; omega) fun z1 hz1=>?_
   rw[List.length_reverse] at hz1
   walk_at "pk"
   refine kh (by split<;>simp) (by omega) fun z hz=>q z (by omega)
abbrev jp:Stmt:=top 34
theorem scSpoilt:FnScope ["text", "pick", "bag"] ["text", "pick", "bag"] (qc jp):=⟨rfl,rfl,rfl,by decide +kernel,rfl,by decide +kernel,by decide +kernel⟩
def QU:List U->MM->UK->Prop:=fun us M Q=>∃(k:Nat) (o:MO) (t:Str) (a b c d:Int),us=[.p (.str t), .p (pkT a b c d), .m k]/\M[k]?=some o/\BagO o/\PkOk a b c d/\wt t<=3000000/\∀(z:Str) (o':MO),wt z<=3*wt t+6000->BagO o'->Q (.p (.str z)) (M.set k o')
theorem Zg {f:Addr} {fd:FuncData} (F:Fun K "_law_spoilt" "_law_spoilt" jp f fd) (DBentText:Def P w K mg base "_law_bent_text" 4 ["text", "pick", "bag"] (spU Kr)) (DBentLines:Def P w K mg base "_law_bent_lines" 1 ["text", "pick"] (spP Zq)):FnOk P w K mg base CX0 5 f fd ["text", "pick", "bag"] (spU QU):=by
 refine F.zV scSpoilt (fun us M Qu h=>?_) (fun cdv A outer s H E hr=>?_)
 ·obtain⟨_,_,_,_,_,_,_,rfl,_⟩:=h
  rfl
 refine⟨_,(qp (qM (xB (qt JF (qD (qh (K:=K) rfl) (qv 1) qe (fun _ _=>rfl)) qe (qF _)) (qB DBentText (hr.mono (by first|decide|exact Nat.le_refl _)) (qa_c (qv 0) (qa_c (qv 1) (qa_c (qv 2) qd)))) (qB DBentLines (hr.mono (by first|decide|exact Nat.le_refl _)) (qa_c (qv 0) (qa_c (qv 1) qd)))))),_,(qU (XR (qx (qk (ve fun _ _=>.bl _) (qy (qb 1) (ce_c (.int _))) (ce_c (.int _)))) (qu (qa (qb 0) (qa (qb 1) (qa (qb 2) qf)))) (vb (qa (qb 0) (qa (qb 1) qf))))),fun us M M1 Qu e1 h=>?_⟩
 obtain⟨k,o,t,a,b,c,d,rfl,em,B,pk,hw,q⟩:=h
 obtain⟨hk,eM⟩:=xH em
 rw[eM] at e1
 subst e1
 have fin:∀(z:Str) (o':MO) (L:List MO),BagO o'->wt z<=3*wt t+6000->zS M (MB M k o' L)/\Qu (.p (.str z)) (List.take (List.length M) (MB M k o' L)):=fun z o' L B h1=>⟨jD B.pur,by rw[jE]; exact q z o' h1 B⟩
 walk_at "pk"
 refine ite2 (fun h5=>?_) (fun h5=>?_)
 ·refine⟨k,o,t,a,b,c,d,rfl,VU hk,B,pk,hw,fun z o' hz B'=>?_⟩
  rw[xy hk]
  walk_at "pk"
  exact fin z o' _ B' hz
 ·refine⟨t,a,b,c,d,rfl,pk,by omega,hw,fun z hz=>?_⟩
  walk_at "pk"
  exact fin z o _ B hz
def X9 (K:PySem.W.Frag):Sp:=fun vs H Q _=>∃(a:Addr) (ns:List Int),vs=[.ref a]/\SqL K H a (ns.map V.int)/\ns.length<=63/\∀H',Q (.bl true) H'
theorem law_okU {st:Stmt} {f:Addr} {fd:FuncData} {N:List Str} {k:Nat} (F:Fun K "law" "law" st f fd) (S:FnScope N ["script"] (qc st)) (hN:2<=N.length)
  (hbody:∀(cdv:Value) (A:Around) (outer:List Env) (s:Shared) (H:Hp) (E:XK),Room k (A.deeper (envOfC "law" (qc st) s.heap.objs.size f cdv)) ->
   ∃tR,QSs (cxOf CX0 P w K mg base N "law" (qc st) f cdv A outer s H E).nox (qi st) (tSeq (tAsg (jo (spBag K) [] E0 (xI (tVar 0) tNil)) (qS 1)) tR)/\∃uR,ZS tR uR/\∀o,BagO o->uR { nx:=fun _ _=>False,rt:=fun z _=>z=.p (.bl true) } (none::some (.m 0)::List.replicate (N.length-2) none) [o]):FnOk P w K mg base CX0 (k+1) f fd ["script"] (X9 K):=by
 refine F.okQ S (fun vs H Q E h=>?_) (fun cdv A outer s H vs Q E hr h=>?_)
 ·obtain⟨_,_,rfl,_⟩:=h
  rfl
 ·obtain⟨a,ns,rfl,hS,hlen,k⟩:=h
  obtain⟨tR,hT,uR,hU,hq⟩:=hbody cdv A outer s H E hr
  refine⟨_,hT, ?_⟩
  have hN2:L2.start N [.ref a]=some (.ref a)::none::List.replicate (N.length-2) none:=by
   unfold L2.start
   obtain⟨m,hm⟩:∃m,N.length=m+2:=⟨N.length-2,by omega⟩
   rw[hm]
   rfl
  rw[hN2]
  simp only[tSeq,tAsg,jo,xI,tNil,tVar,qS,List.getElem?_cons_zero,Option.some.injEq,exists_eq_left',List.append_nil,List.set_cons_zero,List.set_cons_succ]
  refine⟨a,ns,rfl,hS,hlen,fun b H1 hb s1 B1=>?_⟩
  obtain⟨c,ns',i,a',st',n,hbb,hcc,r⟩:=id B1.ex
  have ncb:c≠b:=KR hbb hcc
  obtain⟨o,hbo,ro,_⟩:=Xs (A:=fun _=>False) (ι:=[b]) B1 ⟨_,hbb⟩ (fun z=>z.elim id fun z=>ncb (by simpa using z))
  have w1:L2.Wd (fun _=>False) [b] H1 [o]:=⟨by simp,rfl,fun x hx=>hx.elim,fun x _ z=>z,fun k a2 o2 e1 e2=>by
   match k,e1,e2 with
   |0,e1,e2=>cases e1; cases e2; exact ro
   |k+1,e1,_=>simp at e1⟩
  have env:EnvR (fun _=>False) [b] H1 (some (.ref a)::some (.ref b)::List.replicate (N.length-2) none) (none::some (.m 0)::List.replicate (N.length-2) none):=by
   refine .cons (fun u e=>by cases e) (.cons (fun u e=>by cases e; exact⟨_,rfl, .m rfl⟩) ?_)
   generalize N.length-2=m
   induction m with
   |zero=>exact .nil
   |succ m ih=>exact .cons (fun u e=>by cases e) ih
  refine hU.h (fun _=>False) [b] _ H1 _ [o] _ { nx:=fun _ _=>False,rt:=fun z _=>z=.p (.bl true) } w1 env ⟨fun _ _ _ _ _ _ _ _ q=>q.elim,fun ι v H2 u M _ _ ru q=>?_,fun _ _ _ _ _ _ _ _ q=>q.elim,fun _ _ _ _ _ _ _ _ q=>q.elim⟩ (hq o hbo)
  have q:u=.p (.bl true):=q
  subst q
  cases ru with
  |p r=>cases r; exact k H2
theorem Kw {o:MO} {L:List MO} {many:Int} {Q:UK} (B:BagO o) (h0:0<many) (h1:many.natAbs.log2<9000) (q:∀(found:Int) (o':MO),0<=found->found<many->BagO o'->Q (.p (.int found)) (o'::L)):QV [.m 0, .p (.int many)] (o::L) Q :=
 ⟨0,o,many,rfl,rfl,B,h0,h1,fun f o' f0 f1 B'=>q f o' f0 f1 B'⟩
local macro_rules | `(tactic| walk_at "vx") => `(tactic| simp only[z0,jm,jR,zQ,zj,uTry,zC,zZ,ke,kg,endX,uAsG,xj,xf,km,xl,zl,vE,xi,xk,zm,vm,uIfX,uOpX,uCbX,xY,Qi,uX0,xZ,uInK,jS,zY,jF,kf,jG,Q7,xg,xh,xP])
local macro_rules | `(tactic| walk_at "pk") => `(tactic| (walk_at "v"; repeat ((first|walk_at "vx" |refine qY (by decide) ?_|refine qI rfl ?_); walk_at "v")))
theorem wt_flat {t:Str} (h:10∉t.cps.toList):wt t=t.length:=by
 unfold wt
 rw[qX]
 generalize t.cps.toList=l at h
 induction l with
 |nil=>rfl
 |cons c l ih =>
  have e:wtc c=1:=by unfold wtc; rw[if_neg fun z=>h (by simp[z])]
  have:=ih fun z=>h (by simp[z])
  simp only[wtl,List.map_cons,List.sum_cons,List.length_cons] at this ⊢
  omega
def bnd:Nat->Nat
 |0=>330000
 |n+1=>3*bnd n+6000
theorem im_wt {im:Im} (ok:ImOk im):wt (imS im)<=330000:=by
 have h:=j9 (y := "\n") (zs:=xO im)
 rw[nl_wt] at h
 have hf:=ok.fits
 rw[JU] at hf
 have hn:(xO im).length<=404:=by
  have:=ok.ml
  simp[xO]
  omega
 have h2:((xO im).map wt).sum=((xO im).map (·.length)).sum:=by
  have hnl:=ok.nl
  generalize xO im=rs at hnl
  induction rs with
  |nil=>rfl
  |cons r rs ih =>
   have h1:=wt_flat (hnl r (by simp))
   have:=ih fun x hx=>hnl x (by simp[hx])
   simp only[List.map_cons,List.sum_cons]
   omega
 unfold imS
 omega
theorem spl72 {o:MO} {R:List MO} {t:Str} {a b c d:Int} {Q:UK} (B:BagO o) (pk:PkOk a b c d) (h:wt t<=3000000) (q:∀(z:Str) (o':MO),wt z<=3*wt t+6000->BagO o'->Q (.p (.str z)) (o'::R)):QU [.p (.str t), .p (pkT a b c d), .m 0] (o::R) Q:=⟨0,o,t,a,b,c,d,rfl,rfl,B,pk,h,q⟩
theorem anyIm {o:MO} {R:List MO} {Q:UK} (B:BagO o) (q:∀(im:Im) (o':MO),ImOk im->BagO o'->Q (.p (imT im)) (o'::R)):Xb [.m 0] (o::R) Q:=⟨0,o,rfl,rfl,B,fun im o' ok _ _ B'=>q im o' ok B'⟩
abbrev sLaw:Stmt:=top 42
theorem scLaw:FnScope ["script", "bag", "picks", "k", "good", "text", "pick"] ["script"] (qc sLaw):=⟨rfl,rfl,rfl,by decide +kernel,rfl,by decide +kernel,by decide +kernel⟩
theorem ok_lawU {f:Addr} {fd:FuncData} (F:Fun K "law" "law" sLaw f fd) (N:Nms mg) (DBag:Def P w K mg base "_law_bag" 1 ["script"] (spBag K)) (DDraw:Def P w K mg base "_law_draw" 1 ["bag", "many"] (spU QV)) (DAnyImage:Def P w K mg base "_law_any_image" 3 ["bag"] (spU Xb)) (DImageText:Def P w K mg base "_law_image_text" 1 ["image"] (spP Km)) (DSpoilt:Def P w K mg base "_law_spoilt" 5 ["text", "pick", "bag"] (spU QU)) (DRight:Def P w K mg base "_law_right" 8 ["text"] (spP Kn)):FnOk P w K mg base CX0 9 f fd ["script"] (X9 K):=by
 refine law_okU F scLaw (by decide) (fun cdv A outer s H E hr=>?_)
 refine⟨_,(qg (qC (i:=1) scLaw.nd rfl (Or.inl rfl) (qB DBag (hr.mono (by first|decide|exact Nat.le_refl _)) (qa_c (qv 0) qd)))
  (qg (qC (i:=2) scLaw.nd rfl (Or.inl rfl) (qZ qd))
  (qg (jM PassesOwn.never rfl (vH rfl N.range (qa_c (qB DDraw (hr.mono (by first|decide|exact Nat.le_refl _)) (qa_c (qv 1) (qa_c qe qd))) qd)) (qV (i:=3) scLaw.nd rfl (Or.inl rfl))
   (qp (xR (Zb PySem.F.slot_list_append PySem.F.type_list_append vK (qv 2) (qa_c (qZ (qa_c (qB DDraw (hr.mono (by first|decide|exact Nat.le_refl _)) (qa_c (qv 1) (qa_c qe qd))) (qa_c (qB DDraw (hr.mono (by first|decide|exact Nat.le_refl _)) (qa_c (qv 1) (qa_c (qw ZY qe qe) qd))) (qa_c (qB DDraw (hr.mono (by first|decide|exact Nat.le_refl _)) (qa_c (qv 1) (qa_c qe qd))) (qa_c (qB DDraw (hr.mono (by first|decide|exact Nat.le_refl _)) (qa_c (qv 1) (qa_c qe qd))) qd))))) qd)))))
  (qg (qC (i:=4) scLaw.nd rfl (Or.inl rfl) (qB DImageText (hr.mono (by first|decide|exact Nat.le_refl _)) (qa_c (qB DAnyImage (hr.mono (by first|decide|exact Nat.le_refl _)) (qa_c (qv 1) qd)) qd)))
  (qg (qC (i:=5) scLaw.nd rfl (Or.inl rfl) (qv 4))
  (qg (jM PassesOwn.never rfl (vY (K:=K) rfl (qv 2)) (qV (i:=6) scLaw.nd rfl (Or.inl rfl))
   (qp (qC (i:=5) scLaw.nd rfl (Or.inl rfl) (qB DSpoilt (hr.mono (by first|decide|exact Nat.le_refl _)) (qa_c (qv 5) (qa_c (qv 6) (qa_c (qv 1) qd)))))))
  (qg (jM PassesOwn.never rfl (vH rfl N.range (qa_c qe qd)) (qV (i:=3) scLaw.nd rfl (Or.inl rfl))
   (qp (vG (kn (jT (kq (ko (qB DRight (hr.mono (by first|decide|exact Nat.le_refl _)) (qa_c (qv 5) qd)))) (jL (kq (ko (qB DRight (hr.mono (by first|decide|exact Nat.le_refl _)) (qa_c (qv 4) qd)))))))
    (qp (qM Vk))
    qQ)))
  (qp (qM (qB DRight (hr.mono (by first|decide|exact Nat.le_refl _)) (qa_c ql qd))))))))))),_,(qj (qA (Qf qf) (qo 2))
   (qj (kG (xt (qa (qu (qa (qb 1) (qa (ce_c (.int _)) qf))) qf)) (qo 3)
   (xT (ZB vX (qb 2) (qa (vq (qa (qu (qa (qb 1) (qa (ce_c (.int _)) qf))) (qa (qu (qa (qb 1) (qa (qk (zT fun _ _=>.int _) (ce_c (.int _)) (ce_c (.int _))) qf))) (qa (qu (qa (qb 1) (qa (ce_c (.int _)) qf))) (qa (qu (qa (qb 1) (qa (ce_c (.int _)) qf))) qf))))) qf))))
   (qj (qA (vb (qa (qu (qa (qb 1) qf)) qf)) (qo 4))
   (qj (qA (qb 4) (qo 5))
   (qj (kG (xu (qb 2)) (qo 6)
   (qA (qu (qa (qb 5) (qa (qb 6) (qa (qb 1) qf)))) (qo 5)))
   (qj (kG (xt (qa (ce_c (.int _)) qf)) (qo 3)
   (vD (kM (Qc (ct_b (vb (qa (qb 5) qf)))) (Qc (ct_b (vb (qa (qb 4) qf)))))
   (qU (ce_c (.bl _)))
   qO))
   (qU (vb (qa (ce_c (.str _)) qf))))))))),fun o hB=>?_⟩
 show uSeq _ _ _ [none,some (.m 0),none,none,none,none,none] _
 walk_at "pk"
 refine Kw hB (by decide) (by decide) fun sp o1 s0 s1 B1=>?_
 walk_at "pk"
 refine jJ (by omega) (by omega) ?_
 refine jY (m:=sp.toNat) (fun i ρ M=>∃o ps x3,BagO o/\ρ=[none,some (.m 0),some (.m 1),x3,none,none,none]/\M=[o, .lst (ps.map U.p)]/\ps.length=i/\∀p∈ps,∃a b c d,p=pkT a b c d/\PkOk a b c d) ⟨o1, [],_,B1,rfl,rfl,rfl,fun p hp=>nomatch hp⟩ (fun i ρ2 M2 hi hI=>?_) (fun ρ2 M2 hI=>?_)
 ·obtain⟨o2,ps,x3,B2,rfl,rfl,hl,hp⟩:=hI
  walk_at "pk"
  refine Kw B2 (by decide) (by decide) fun a o3 a0 a1 B3=>?_
  walk_at "pk"
  refine⟨⟨by decide,by decide,by decide⟩, ?_⟩
  refine Kw B3 (by decide) (by decide) fun b o4 b0 b1 B4=>?_
  walk_at "pk"
  refine Kw B4 (by decide) (by decide) fun c o5 c0 c1 B5=>?_
  walk_at "pk"
  refine Kw B5 (by decide) (by decide) fun d o6 d0 d1 B6=>?_
  walk_at "pk"
  refine⟨by rw[List.length_map]; exact qL (by omega),o6,ps++[pkT a b c d],_,B6,rfl,by simp,by simp[hl],fun p hpp=>?_⟩
  rcases List.mem_append.mp hpp with z|z
  ·exact hp p z
  ·exact⟨a,b,c,d,List.mem_singleton.mp z,⟨a0,a1⟩,⟨b0,b1⟩,⟨c0,c1⟩,⟨d0,d1⟩⟩
 obtain⟨o2,ps,x3,B2,rfl,rfl,hl,hp⟩:=hI
 walk_at "pk"
 refine anyIm B2 fun im o3 ok B3=>?_
 walk_at "pk"
 refine⟨im,rfl,ok, ?_⟩
 have hg:=im_wt ok
 generalize imS im=good at hg ⊢
 walk_at "pk"
 refine⟨_,rfl, ?_⟩
 refine ufor_mut (xs:=ps.map U.p) (fun i ρ M=>∃o t x6,BagO o/\ρ=[none,some (.m 0),some (.m 1),x3,some (.p (.str good)),some (.p (.str t)),x6]/\M=[o, .lst (ps.map U.p)]/\wt t<=bnd i) ⟨o3,good,_,B3,rfl,rfl,hg⟩ (fun i ρ M hI=>?_) (fun i z ρ2 M2 hz hI=>?_) (fun ρ2 M2 hI=>?_)
 ·obtain⟨o4,t,x6,B4,rfl,rfl,ht⟩:=hI
  rfl
 ·obtain⟨o4,t,x6,B4,rfl,rfl,ht⟩:=hI
  rw[List.getElem?_map] at hz
  cases e:ps[i]? with
  |none=>rw[e] at hz; cases hz
  |some p =>
  rw[e] at hz
  cases hz
  obtain⟨a,b,c,d,rfl,pk⟩:=hp p (List.mem_of_getElem? e)
  have hi:=(List.getElem?_eq_some_iff.mp e).1
  have hb:bnd i<=3000000:=by
   rcases(show i=0\/i=1\/i=2 by omega) with rfl|rfl|rfl<;>decide
  walk_at "pk"
  refine spl72 B4 pk (by omega) fun z o5 hz B5=>?_
  walk_at "pk"
  exact⟨o5,z,_,B5,rfl,rfl,by show wt z<=3*bnd i+6000; omega⟩
 obtain⟨o4,t,x6,B4,rfl,rfl,ht⟩:=hI
 rw[List.length_map,hl] at ht
 have hb:bnd sp.toNat<=9500000:=by
  rcases(show sp.toNat=0\/sp.toNat=1\/sp.toNat=2\/sp.toNat=3 by omega) with e|e|e|e<;>rw[e]<;>decide
 have hl1:=vO t
 have hl2:=vO good
 walk_at "pk"
 refine jJ (by decide) (by decide) ?_
 refine jY (m:=2) (fun i ρ M=>∃x3,ρ=[none,some (.m 0),some (.m 1),x3,some (.p (.str good)),some (.p (.str t)),x6]/\M=[o4, .lst (ps.map U.p)]) ⟨_,rfl,rfl⟩ (fun i ρ2 M2 hi hI=>?_) (fun ρ2 M2 hI=>?_)
 ·obtain⟨x3,rfl,rfl⟩:=hI
  walk_at "pk"
  refine⟨t,rfl,by omega, ?_⟩
  walk_at "pk"
  refine⟨good,rfl,by omega, ?_⟩
  walk_at "pk"
  exact⟨_,rfl⟩
 obtain⟨x3,rfl,rfl⟩:=hI
 walk_at "pk"
 exact⟨"", rfl,by decide +kernel,rfl⟩
end
end Mw
namespace Mw
open PySem L2
theorem all_mk {l:PySem.W.OpenLaw} {w:World} {K:PySem.W.Frag} {h:Heap} {mg:Str->Option Value} {fa f1 f2 f3 f4 f5 f6 f7 f8 f9 f10 f11 f12 f13 f14 f15 f16 f17 f18 f19 f20 f21 f22 f23 f24 f25 f26 f27  CENoText CEWordError CEWk CENought CENoRoom CEFaulty CENotFormed:Addr} (X:K.In h) (G:h.Ns mainGlobals mg) (hfa:mg "law" = some (.ref fa))
  {od1 an1 od2 an2 od3 an3 od4 an4 od5 an5 od6 an6 od7 an7 od8 an8 od9 an9 od10 an10 od11 an11 od12 an12 od13 an13 od14 an14 od15 an15 od16 an16 od17 an17 od18 an18 od19 an19 od20 an20 od21 an21 od22 an22 od23 an23 od24 an24 od25 an25 od26 an26 od27 an27:Option Addr} {sl1 sl2 sl3 sl4 sl5 sl6 sl7 sl8 sl9 sl10 sl11 sl12 sl13 sl14 sl15 sl16 sl17 sl18 sl19 sl20 sl21 sl22 sl23 sl24 sl25 sl26 sl27:Array (Option Value)} {oc1 kV1 dc1 pm1 cdd1 ct1 oc2 kV2 dc2 pm2 cdd2 ct2 oc3 kV3 dc3 pm3 cdd3 ct3 oc4 kV4 dc4 pm4 cdd4 ct4 oc5 kV5 dc5 pm5 cdd5 ct5 oc6 kV6 dc6 pm6 cdd6 ct6 oc7 kV7 dc7 pm7 cdd7 ct7 oc8 kV8 dc8 pm8 cdd8 ct8 oc9 kV9 dc9 pm9 cdd9 ct9 oc10 kV10 dc10 pm10 cdd10 ct10 oc11 kV11 dc11 pm11 cdd11 ct11 oc12 kV12 dc12 pm12 cdd12 ct12 oc13 kV13 dc13 pm13 cdd13 ct13 oc14 kV14 dc14 pm14 cdd14 ct14 oc15 kV15 dc15 pm15 cdd15 ct15 oc16 kV16 dc16 pm16 cdd16 ct16 oc17 kV17 dc17 pm17 cdd17 ct17 oc18 kV18 dc18 pm18 cdd18 ct18 oc19 kV19 dc19 pm19 cdd19 ct19 oc20 kV20 dc20 pm20 cdd20 ct20 oc21 kV21 dc21 pm21 cdd21 ct21 oc22 kV22 dc22 pm22 cdd22 ct22 oc23 kV23 dc23 pm23 cdd23 ct23 oc24 kV24 dc24 pm24 cdd24 ct24 oc25 kV25 dc25 pm25 cdd25 ct25 oc26 kV26 dc26 pm26 cdd26 ct26 oc27 kV27 dc27 pm27 cdd27 ct27:Value} {gk1:Tok} {gk2:Tok} {gk3:Tok} {gt1:Tok} {gt2:Tok}
  (xaNoText:PySem.W.nsIn K mainGlobals "NoText" = some (some (.ref CENoText)))
  (xaWordError:PySem.W.nsIn K mainGlobals "WordError" = some (some (.ref CEWordError)))
  (xaWk:PySem.W.nsIn K mainGlobals "WrongKind" = some (some (.ref CEWk)))
  (xaNought:PySem.W.nsIn K mainGlobals "Nought" = some (some (.ref CENought)))
  (xaNoRoom:PySem.W.nsIn K mainGlobals "NoRoom" = some (some (.ref CENoRoom)))
  (xaFaulty:PySem.W.nsIn K mainGlobals "Faulty" = some (some (.ref CEFaulty)))
  (xaNotFormed:PySem.W.nsIn K mainGlobals "NotFormed" = some (some (.ref CENotFormed)))
  (xoNoText:PySem.W.excIn K CENoText [.type "ValueError", .type "Exception", .type "BaseException", .type "object"] "ValueError.__new__" = true)
  (ENoText_WordError:PySem.W.exmOne K (.ref CENoText) (.ref CEWordError)=some true)
  (a1:PySem.W.nsIn K mainGlobals "_law_bag" = some (some (.ref f1)))
  (l1:K.lookup f1=some ⟨oc1,od1, .func (PySem.W.fnOf "_law_bag" "_law_bag" (qm sBag) (qi sBag) (qc sBag) .none kV1 dc1 pm1 an1 cdd1 ct1),sl1⟩)
  (c1:PySem.W.codeIn K cdd1 "_law_bag" = true)
  (k1:PySem.W.keepIn K (.ref f1)=true)
  (a2:PySem.W.nsIn K mainGlobals "_law_draw" = some (some (.ref f2)))
  (l2:K.lookup f2=some ⟨oc2,od2, .func (PySem.W.fnOf "_law_draw" "_law_draw" (qm V3) (qi V3) (qc V3) .none kV2 dc2 pm2 an2 cdd2 ct2),sl2⟩)
  (c2:PySem.W.codeIn K cdd2 "_law_draw" = true)
  (k2:PySem.W.keepIn K (.ref f2)=true)
  (a3:PySem.W.nsIn K mainGlobals "consists_of" = some (some (.ref f3)))
  (l3:K.lookup f3=some ⟨oc3,od3, .func (PySem.W.fnOf "consists_of" "consists_of" (qm vT) (qi vT) (qc vT) .none kV3 dc3 pm3 an3 cdd3 ct3),sl3⟩)
  (c3:PySem.W.codeIn K cdd3 "consists_of" = true)
  (k3:PySem.W.keepIn K (.ref f3)=true)
  (a4:PySem.W.nsIn K mainGlobals "read_whole" = some (some (.ref f4)))
  (l4:K.lookup f4=some ⟨oc4,od4, .func (PySem.W.fnOf "read_whole" "read_whole" (qm zc) (qi zc) (qc zc) .none kV4 dc4 pm4 an4 cdd4 ct4),sl4⟩)
  (c4:PySem.W.codeIn K cdd4 "read_whole" = true)
  (k4:PySem.W.keepIn K (.ref f4)=true)
  (a5:PySem.W.nsIn K mainGlobals "read_number" = some (some (.ref f5)))
  (l5:K.lookup f5=some ⟨oc5,od5, .func (PySem.W.fnOf "read_number" "read_number" (qm vS) (qi vS) (qc vS) .none kV5 dc5 pm5 an5 cdd5 ct5),sl5⟩)
  (c5:PySem.W.codeIn K cdd5 "read_number" = true)
  (k5:PySem.W.keepIn K (.ref f5)=true)
  (a6:PySem.W.nsIn K mainGlobals "read_letters" = some (some (.ref f6)))
  (l6:K.lookup f6=some ⟨oc6,od6, .func (PySem.W.fnOf "read_letters" "read_letters" (qm vA) (qi vA) (qc vA) .none kV6 dc6 pm6 an6 cdd6 ct6),sl6⟩)
  (c6:PySem.W.codeIn K cdd6 "read_letters" = true)
  (k6:PySem.W.keepIn K (.ref f6)=true)
  (a7:PySem.W.nsIn K mainGlobals "parts_behind" = some (some (.ref f7)))
  (l7:K.lookup f7=some ⟨oc7,od7, .func (PySem.W.fnOf "parts_behind" "parts_behind" (qm vB) (qi vB) (qc vB) .none kV7 dc7 pm7 an7 cdd7 ct7),sl7⟩)
  (c7:PySem.W.codeIn K cdd7 "parts_behind" = true)
  (k7:PySem.W.keepIn K (.ref f7)=true)
  (a8:PySem.W.nsIn K mainGlobals "read_numbers" = some (some (.ref f8)))
  (l8:K.lookup f8=some ⟨oc8,od8, .func (PySem.W.fnOf "read_numbers" "read_numbers" (qm vz) (qi vz) (qc vz) .none kV8 dc8 pm8 an8 cdd8 ct8),sl8⟩)
  (c8:PySem.W.codeIn K cdd8 "read_numbers" = true)
  (k8:PySem.W.keepIn K (.ref f8)=true)
  (a9:PySem.W.nsIn K mainGlobals "read_one_number" = some (some (.ref f9)))
  (l9:K.lookup f9=some ⟨oc9,od9, .func (PySem.W.fnOf "read_one_number" "read_one_number" (qm vk) (qi vk) (qc vk) .none kV9 dc9 pm9 an9 cdd9 ct9),sl9⟩)
  (c9:PySem.W.codeIn K cdd9 "read_one_number" = true)
  (k9:PySem.W.keepIn K (.ref f9)=true)
  (a10:PySem.W.nsIn K mainGlobals "read_mark" = some (some (.ref f10)))
  (l10:K.lookup f10=some ⟨oc10,od10, .func (PySem.W.fnOf "read_mark" "read_mark" (qm zD) (qi zD) (qc zD) .none kV10 dc10 pm10 an10 cdd10 ct10),sl10⟩)
  (c10:PySem.W.codeIn K cdd10 "read_mark" = true)
  (k10:PySem.W.keepIn K (.ref f10)=true)
  (a11:PySem.W.nsIn K mainGlobals "read_image" = some (some (.ref f11)))
  (l11:K.lookup f11=some ⟨oc11,od11, .func (PySem.W.fnOf "read_image" "read_image" (qm zd) (qi zd) (qc zd) .none kV11 dc11 pm11 an11 cdd11 ct11),sl11⟩)
  (c11:PySem.W.codeIn K cdd11 "read_image" = true)
  (k11:PySem.W.keepIn K (.ref f11)=true)
  (a12:PySem.W.nsIn K mainGlobals "_law_any_number" = some (some (.ref f12)))
  (l12:K.lookup f12=some ⟨oc12,od12, .func (PySem.W.fnOf "_law_any_number" "_law_any_number" (qm zg) (qi zg) (qc zg) .none kV12 dc12 pm12 an12 cdd12 ct12),sl12⟩)
  (c12:PySem.W.codeIn K cdd12 "_law_any_number" = true)
  (k12:PySem.W.keepIn K (.ref f12)=true)
  (a13:PySem.W.nsIn K mainGlobals "_law_any_image" = some (some (.ref f13)))
  (l13:K.lookup f13=some ⟨oc13,od13, .func (PySem.W.fnOf "_law_any_image" "_law_any_image" (qm zF) (qi zF) (qc zF) .none kV13 dc13 pm13 an13 cdd13 ct13),sl13⟩)
  (c13:PySem.W.codeIn K cdd13 "_law_any_image" = true)
  (k13:PySem.W.keepIn K (.ref f13)=true)
  (a14:PySem.W.nsIn K mainGlobals "_law_image_text" = some (some (.ref f14)))
  (l14:K.lookup f14=some ⟨oc14,od14, .func (PySem.W.fnOf "_law_image_text" "_law_image_text" (qm ze) (qi ze) (qc ze) .none kV14 dc14 pm14 an14 cdd14 ct14),sl14⟩)
  (c14:PySem.W.codeIn K cdd14 "_law_image_text" = true)
  (k14:PySem.W.keepIn K (.ref f14)=true)
  (a15:PySem.W.nsIn K mainGlobals "_law_any_sign" = some (some (.ref f15)))
  (l15:K.lookup f15=some ⟨oc15,od15, .func (PySem.W.fnOf "_law_any_sign" "_law_any_sign" (qm xA) (qi xA) (qc xA) .none kV15 dc15 pm15 an15 cdd15 ct15),sl15⟩)
  (c15:PySem.W.codeIn K cdd15 "_law_any_sign" = true)
  (k15:PySem.W.keepIn K (.ref f15)=true)
  (a16:PySem.W.nsIn K mainGlobals "_law_blot" = some (some (.ref f16)))
  (l16:K.lookup f16=some ⟨oc16,od16, .func (PySem.W.fnOf "_law_blot" "_law_blot" (qm XA) (qi XA) (qc XA) .none kV16 dc16 pm16 an16 cdd16 ct16),sl16⟩)
  (c16:PySem.W.codeIn K cdd16 "_law_blot" = true)
  (k16:PySem.W.keepIn K (.ref f16)=true)
  (a17:PySem.W.nsIn K mainGlobals "_law_bent_text" = some (some (.ref f17)))
  (l17:K.lookup f17=some ⟨oc17,od17, .func (PySem.W.fnOf "_law_bent_text" "_law_bent_text" (qm zE) (qi zE) (qc zE) .none kV17 dc17 pm17 an17 cdd17 ct17),sl17⟩)
  (c17:PySem.W.codeIn K cdd17 "_law_bent_text" = true)
  (k17:PySem.W.keepIn K (.ref f17)=true)
  (a18:PySem.W.nsIn K mainGlobals "_law_bent_lines" = some (some (.ref f18)))
  (l18:K.lookup f18=some ⟨oc18,od18, .func (PySem.W.fnOf "_law_bent_lines" "_law_bent_lines" (qm zf) (qi zf) (qc zf) .none kV18 dc18 pm18 an18 cdd18 ct18),sl18⟩)
  (c18:PySem.W.codeIn K cdd18 "_law_bent_lines" = true)
  (k18:PySem.W.keepIn K (.ref f18)=true)
  (a19:PySem.W.nsIn K mainGlobals "_law_spoilt" = some (some (.ref f19)))
  (l19:K.lookup f19=some ⟨oc19,od19, .func (PySem.W.fnOf "_law_spoilt" "_law_spoilt" (qm jp) (qi jp) (qc jp) .none kV19 dc19 pm19 an19 cdd19 ct19),sl19⟩)
  (c19:PySem.W.codeIn K cdd19 "_law_spoilt" = true)
  (k19:PySem.W.keepIn K (.ref f19)=true)
  (a20:PySem.W.nsIn K mainGlobals "_law_value" = some (some (.ref f20)))
  (l20:K.lookup f20=some ⟨oc20,od20, .func (PySem.W.fnOf "_law_value" "_law_value" (qm kR) (qi kR) (qc kR) .none kV20 dc20 pm20 an20 cdd20 ct20),sl20⟩)
  (c20:PySem.W.codeIn K cdd20 "_law_value" = true)
  (k20:PySem.W.keepIn K (.ref f20)=true)
  (a21:PySem.W.nsIn K mainGlobals "_law_behind" = some (some (.ref f21)))
  (l21:K.lookup f21=some ⟨oc21,od21, .func (PySem.W.fnOf "_law_behind" "_law_behind" (qm jr) (qi jr) (qc jr) .none kV21 dc21 pm21 an21 cdd21 ct21),sl21⟩)
  (c21:PySem.W.codeIn K cdd21 "_law_behind" = true)
  (k21:PySem.W.keepIn K (.ref f21)=true)
  (a22:PySem.W.nsIn K mainGlobals "_law_mark_of" = some (some (.ref f22)))
  (l22:K.lookup f22=some ⟨oc22,od22, .func (PySem.W.fnOf "_law_mark_of" "_law_mark_of" (qm jq) (qi jq) (qc jq) .none kV22 dc22 pm22 an22 cdd22 ct22),sl22⟩)
  (c22:PySem.W.codeIn K cdd22 "_law_mark_of" = true)
  (k22:PySem.W.keepIn K (.ref f22)=true)
  (a23:PySem.W.nsIn K mainGlobals "_law_image_of" = some (some (.ref f23)))
  (l23:K.lookup f23=some ⟨oc23,od23, .func (PySem.W.fnOf "_law_image_of" "_law_image_of" (qm xz) (qi xz) (qc xz) .none kV23 dc23 pm23 an23 cdd23 ct23),sl23⟩)
  (c23:PySem.W.codeIn K cdd23 "_law_image_of" = true)
  (k23:PySem.W.keepIn K (.ref f23)=true)
  (a24:PySem.W.nsIn K mainGlobals "_law_alike" = some (some (.ref f24)))
  (l24:K.lookup f24=some ⟨oc24,od24, .func (PySem.W.fnOf "_law_alike" "_law_alike" (qm jI) (qi jI) (qc jI) .none kV24 dc24 pm24 an24 cdd24 ct24),sl24⟩)
  (c24:PySem.W.codeIn K cdd24 "_law_alike" = true)
  (k24:PySem.W.keepIn K (.ref f24)=true)
  (a25:PySem.W.nsIn K mainGlobals "_law_read" = some (some (.ref f25)))
  (l25:K.lookup f25=some ⟨oc25,od25, .func (PySem.W.fnOf "_law_read" "_law_read" (qm Xz) (qi Xz) (qc Xz) .none kV25 dc25 pm25 an25 cdd25 ct25),sl25⟩)
  (c25:PySem.W.codeIn K cdd25 "_law_read" = true)
  (k25:PySem.W.keepIn K (.ref f25)=true)
  (a26:PySem.W.nsIn K mainGlobals "_law_right" = some (some (.ref f26)))
  (l26:K.lookup f26=some ⟨oc26,od26, .func (PySem.W.fnOf "_law_right" "_law_right" (qm kS) (qi kS) (qc kS) .none kV26 dc26 pm26 an26 cdd26 ct26),sl26⟩)
  (c26:PySem.W.codeIn K cdd26 "_law_right" = true)
  (k26:PySem.W.keepIn K (.ref f26)=true)
  (a27:PySem.W.nsIn K mainGlobals "law" = some (some (.ref f27)))
  (l27:K.lookup f27=some ⟨oc27,od27, .func (PySem.W.fnOf "law" "law" (qm sLaw) (qi sLaw) (qc sLaw) .none kV27 dc27 pm27 an27 cdd27 ct27),sl27⟩)
  (c27:PySem.W.codeIn K cdd27 "law" = true)
  (k27:PySem.W.keepIn K (.ref f27)=true)
  (xt1NoText:PySem.W.findIn K (.ref CENoText) "__getattribute__" = some (some (.builtin "BaseException.__getattribute__")))
  (xt2NoText:PySem.W.findIn K (.ref CENoText) "__getattr__" = some none)
  (xt3NoText:PySem.W.mroIn K CENoText (.type "BaseException")=some true)
  (xt4NoText:PySem.W.hasDictIn K CENoText=true)
  (xt5NoText:PySem.W.findIn K (.ref CENoText) "__class__" = some (some (.builtin "object.__class__")))
  (xt6NoText:PySem.W.specialIn K (.builtin "object.__class__") "__get__" = some (some (.builtin "getset_descriptor.__get__")))
  (xt7NoText:PySem.W.takesIn K (.builtin "object.__class__")=some true)
  (xt8NoText:PySem.W.mroIn K CENoText (.type "object")=some true)
  (INoText_ValueError:PySem.W.kitOne K (.ref CENoText) (.type "ValueError")=some true)
  (INoText_NoText:PySem.W.kitOne K (.ref CENoText) (.ref CENoText)=some true)
  (INoText_NotFormed_Faulty_NoRoom:PySem.W.kitAny K (.ref CENoText) [.ref CENotFormed, .ref CEFaulty, .ref CENoRoom]=some false)
  (INoText_Nought_Wk:PySem.W.kitAny K (.ref CENoText) [.ref CENought, .ref CEWk]=some false)
  (ynNVE:PySem.W.nsIn K mainGlobals "ValueError" = some none)
  (z1:PySem.W.nsIn K mainGlobals "abs" = some none)
  (z2:PySem.W.nsIn K mainGlobals "len" = some none)
  (z3:PySem.W.nsIn K mainGlobals "min" = some none)
  (z4:PySem.W.nsIn K mainGlobals "max" = some none)
  (z5:PySem.W.nsIn K mainGlobals "sum" = some none)
  (z6:PySem.W.nsIn K mainGlobals "sorted" = some none)
  (z7:PySem.W.nsIn K mainGlobals "all" = some none)
  (z8:PySem.W.nsIn K mainGlobals "any" = some none)
  (z9:PySem.W.nsIn K mainGlobals "isinstance" = some none)
  (z10:PySem.W.nsIn K mainGlobals "range" = some none)
  (z11:PySem.W.nsIn K mainGlobals "int" = some none)
  (z12:PySem.W.nsIn K mainGlobals "list" = some none)
  (z13:PySem.W.nsIn K mainGlobals "str" = some none)
  (z14:PySem.W.nsIn K mainGlobals "bool" = some none)
  (z15:PySem.W.nsIn K mainGlobals "tuple" = some none)
  (z16:PySem.W.nsIn K mainGlobals "zip" = some none)
  (z17:PySem.W.nsIn K mainGlobals "enumerate" = some none)
  (z18:PySem.W.nsIn K mainGlobals "dict" = some none)
  (g1:PySem.W.nsIn K mainGlobals "MOST_FIGURES" = some (some (.int 60 gk1)))
  (g2:PySem.W.nsIn K mainGlobals "MOST_LETTERS" = some (some (.int 8 gk2)))
  (g3:PySem.W.nsIn K mainGlobals "ROWS_BEHIND_MARKS" = some (some (.int 3 gk3)))
  (gs1:PySem.W.nsIn K mainGlobals "FIGURES" = some (some (.str "0123456789" gt1)))
  (gs2:PySem.W.nsIn K mainGlobals "LETTERS" = some (some (.str "abcdefghijklmnopqrstuvwxyz" gt2))) :
  ∃fd:FuncData,(∀(s:Shared) (v:Value),BindsTo s fd ⟨[v], []⟩ [("script", v)])/\∀base:Heap,K.In base->base.Ns mainGlobals mg->FnOk l.prog w K mg base CX0 9 fa fd ["script"] (X9 K):=by
 have e:=hfa.symm.trans (PySem.W.mg_of X G a27)
 cases e
 have N:Nms mg:=⟨PySem.W.mg_none_of X G z1,PySem.W.mg_none_of X G z2,PySem.W.mg_none_of X G z3,PySem.W.mg_none_of X G z4,PySem.W.mg_none_of X G z5,PySem.W.mg_none_of X G z6,PySem.W.mg_none_of X G z7,PySem.W.mg_none_of X G z8,PySem.W.mg_none_of X G z9,PySem.W.mg_none_of X G z10,PySem.W.mg_none_of X G z11,PySem.W.mg_none_of X G z12,PySem.W.mg_none_of X G z13,PySem.W.mg_none_of X G z14,PySem.W.mg_none_of X G z15,PySem.W.mg_none_of X G z16,PySem.W.mg_none_of X G z17,PySem.W.mg_none_of X G z18⟩
 have GMostF:GInt mg "MOST_FIGURES" 60:=⟨_,PySem.W.mg_of X G g1⟩
 have GMostL:GInt mg "MOST_LETTERS" 8:=⟨_,PySem.W.mg_of X G g2⟩
 have GRows:GInt mg "ROWS_BEHIND_MARKS" 3:=⟨_,PySem.W.mg_of X G g3⟩
 have GFig:GStr mg "FIGURES" "0123456789" := ⟨_,PySem.W.mg_of X G gs1⟩
 have GLet:GStr mg "LETTERS" "abcdefghijklmnopqrstuvwxyz" := ⟨_,PySem.W.mg_of X G gs2⟩
 have ONoText:ExcC K mg "NoText" CENoText:=⟨PySem.W.mg_of X G xaNoText,xoNoText⟩
 have BWordError:=PySem.W.mg_of X G xaWordError
 have BWk:=PySem.W.mg_of X G xaWk
 have BNought:=PySem.W.mg_of X G xaNought
 have BNoRoom:=PySem.W.mg_of X G xaNoRoom
 have BFaulty:=PySem.W.mg_of X G xaFaulty
 have BNotFormed:=PySem.W.mg_of X G xaNotFormed
 have BNoText:=PySem.W.mg_of X G xaNoText
 have TNoText:ExcT K CENoText:=⟨xt1NoText,xt2NoText,xt3NoText,xt4NoText,xt5NoText,xt6NoText,xt7NoText,xt8NoText⟩
 have NVE:=PySem.W.mg_none_of X G ynNVE
 have F1:=vf (st:=sBag) l1 c1 k1
 have b1:=F1.binds (ps:=["script"]) fun _ _ _ _ _ _ us hl=>match us,hl with | [_],_=>rfl
 have F2:=vf (st:=V3) l2 c2 k2
 have b2:=F2.binds (ps:=["bag", "many"]) fun _ _ _ _ _ _ us hl=>match us,hl with | [_,_],_=>rfl
 have F3:=vf (st:=vT) l3 c3 k3
 have b3:=F3.binds (ps:=["text", "signs"]) fun _ _ _ _ _ _ us hl=>match us,hl with | [_,_],_=>rfl
 have F4:=vf (st:=zc) l4 c4 k4
 have b4:=F4.binds (ps:=["text", "most"]) fun _ _ _ _ _ _ us hl=>match us,hl with | [_,_],_=>rfl
 have F5:=vf (st:=vS) l5 c5 k5
 have b5:=F5.binds (ps:=["text"]) fun _ _ _ _ _ _ us hl=>match us,hl with | [_],_=>rfl
 have F6:=vf (st:=vA) l6 c6 k6
 have b6:=F6.binds (ps:=["text"]) fun _ _ _ _ _ _ us hl=>match us,hl with | [_],_=>rfl
 have F7:=vf (st:=vB) l7 c7 k7
 have b7:=F7.binds (ps:=["head", "row"]) fun _ _ _ _ _ _ us hl=>match us,hl with | [_,_],_=>rfl
 have F8:=vf (st:=vz) l8 c8 k8
 have b8:=F8.binds (ps:=["head", "row"]) fun _ _ _ _ _ _ us hl=>match us,hl with | [_,_],_=>rfl
 have F9:=vf (st:=vk) l9 c9 k9
 have b9:=F9.binds (ps:=["head", "row"]) fun _ _ _ _ _ _ us hl=>match us,hl with | [_,_],_=>rfl
 have F10:=vf (st:=zD) l10 c10 k10
 have b10:=F10.binds (ps:=["row"]) fun _ _ _ _ _ _ us hl=>match us,hl with | [_],_=>rfl
 have F11:=vf (st:=zd) l11 c11 k11
 have b11:=F11.binds (ps:=["text"]) fun _ _ _ _ _ _ us hl=>match us,hl with | [_],_=>rfl
 have F12:=vf (st:=zg) l12 c12 k12
 have b12:=F12.binds (ps:=["bag"]) fun _ _ _ _ _ _ us hl=>match us,hl with | [_],_=>rfl
 have F13:=vf (st:=zF) l13 c13 k13
 have b13:=F13.binds (ps:=["bag"]) fun _ _ _ _ _ _ us hl=>match us,hl with | [_],_=>rfl
 have F14:=vf (st:=ze) l14 c14 k14
 have b14:=F14.binds (ps:=["image"]) fun _ _ _ _ _ _ us hl=>match us,hl with | [_],_=>rfl
 have F15:=vf (st:=xA) l15 c15 k15
 have b15:=F15.binds (ps:=["bag"]) fun _ _ _ _ _ _ us hl=>match us,hl with | [_],_=>rfl
 have F16:=vf (st:=XA) l16 c16 k16
 have b16:=F16.binds (ps:=["bag"]) fun _ _ _ _ _ _ us hl=>match us,hl with | [_],_=>rfl
 have F17:=vf (st:=zE) l17 c17 k17
 have b17:=F17.binds (ps:=["text", "pick", "bag"]) fun _ _ _ _ _ _ us hl=>match us,hl with | [_,_,_],_=>rfl
 have F18:=vf (st:=zf) l18 c18 k18
 have b18:=F18.binds (ps:=["text", "pick"]) fun _ _ _ _ _ _ us hl=>match us,hl with | [_,_],_=>rfl
 have F19:=vf (st:=jp) l19 c19 k19
 have b19:=F19.binds (ps:=["text", "pick", "bag"]) fun _ _ _ _ _ _ us hl=>match us,hl with | [_,_,_],_=>rfl
 have F20:=vf (st:=kR) l20 c20 k20
 have b20:=F20.binds (ps:=["text"]) fun _ _ _ _ _ _ us hl=>match us,hl with | [_],_=>rfl
 have F21:=vf (st:=jr) l21 c21 k21
 have b21:=F21.binds (ps:=["line", "head", "first"]) fun _ _ _ _ _ _ us hl=>match us,hl with | [_,_,_],_=>rfl
 have F22:=vf (st:=jq) l22 c22 k22
 have b22:=F22.binds (ps:=["line"]) fun _ _ _ _ _ _ us hl=>match us,hl with | [_],_=>rfl
 have F23:=vf (st:=xz) l23 c23 k23
 have b23:=F23.binds (ps:=["text"]) fun _ _ _ _ _ _ us hl=>match us,hl with | [_],_=>rfl
 have F24:=vf (st:=jI) l24 c24 k24
 have b24:=F24.binds (ps:=["found", "due"]) fun _ _ _ _ _ _ us hl=>match us,hl with | [_,_],_=>rfl
 have F25:=vf (st:=Xz) l25 c25 k25
 have b25:=F25.binds (ps:=["text"]) fun _ _ _ _ _ _ us hl=>match us,hl with | [_],_=>rfl
 have F26:=vf (st:=kS) l26 c26 k26
 have b26:=F26.binds (ps:=["text"]) fun _ _ _ _ _ _ us hl=>match us,hl with | [_],_=>rfl
 have F27:=vf (st:=sLaw) l27 c27 k27
 refine⟨PySem.W.fnOf "law" "law" (qm sLaw) (qi sLaw) (qc sLaw) .none kV27 dc27 pm27 an27 cdd27 ct27,fun s v=>.of_eq rfl,fun base _ _=>?_⟩
 have DBag:Def l.prog w K mg base "_law_bag" 1 ["script"] (spBag K):=⟨f1,_,PySem.W.mg_of X G a1,k1,b1,ok_bag F1 N⟩
 have DDraw:Def l.prog w K mg base "_law_draw" 1 ["bag", "many"] (spU QV):=⟨f2,_,PySem.W.mg_of X G a2,k2,b2,ok_drawU F2 N⟩
 have DConsistsOf:Def l.prog w K mg base "consists_of" 1 ["text", "signs"] (spP ji):=⟨f3,_,PySem.W.mg_of X G a3,k3,b3,Vo F3 N⟩
 have DReadWhole:DefX l.prog w K mg base "read_whole" 2 ["text", "most"] (spX mg Zp):=⟨f4,_,PySem.W.mg_of X G a4,k4,b4,JL F4 N GFig ONoText DConsistsOf⟩
 have DReadNumber:DefX l.prog w K mg base "read_number" 3 ["text"] (spX mg Ko):=⟨f5,_,PySem.W.mg_of X G a5,k5,b5,XC F5 GMostF DReadWhole⟩
 have DReadLetters:DefX l.prog w K mg base "read_letters" 2 ["text"] (spX mg gLetX):=⟨f6,_,PySem.W.mg_of X G a6,k6,b6,Zh F6 N GLet GMostL ONoText DConsistsOf⟩
 have DPartsBehind:DefX l.prog w K mg base "parts_behind" 1 ["head", "row"] (spX mg gBehX):=⟨f7,_,PySem.W.mg_of X G a7,k7,b7,ok_behX F7 ONoText⟩
 have DReadNumbers:DefX l.prog w K mg base "read_numbers" 4 ["head", "row"] (spX mg Xa):=⟨f8,_,PySem.W.mg_of X G a8,k8,b8,ok_numsX F8 DPartsBehind DReadNumber⟩
 have DReadOneNumber:DefX l.prog w K mg base "read_one_number" 5 ["head", "row"] (spX mg gOneX):=⟨f9,_,PySem.W.mg_of X G a9,k9,b9,ok_oneX F9 N ONoText DReadNumbers⟩
 have DReadMark:DefX l.prog w K mg base "read_mark" 4 ["row"] (spX mg Kp):=⟨f10,_,PySem.W.mg_of X G a10,k10,b10,ok_markX F10 N ONoText DPartsBehind DReadLetters DReadNumber⟩
 have DReadImage:DefX l.prog w K mg base "read_image" 6 ["text"] (spX mg gImX):=⟨f11,_,PySem.W.mg_of X G a11,k11,b11,ok_imX F11 N GRows ONoText DReadOneNumber DReadMark DReadNumbers⟩
 have DAnyNumber:Def l.prog w K mg base "_law_any_number" 2 ["bag"] (spU gAnyN):=⟨f12,_,PySem.W.mg_of X G a12,k12,b12,kK F12 N DDraw⟩
 have DAnyImage:Def l.prog w K mg base "_law_any_image" 3 ["bag"] (spU Xb):=⟨f13,_,PySem.W.mg_of X G a13,k13,b13,QD F13 N DDraw DAnyNumber⟩
 have DImageText:Def l.prog w K mg base "_law_image_text" 1 ["image"] (spP Km):=⟨f14,_,PySem.W.mg_of X G a14,k14,b14,kJ F14 N⟩
 have DAnySign:Def l.prog w K mg base "_law_any_sign" 2 ["bag"] (spU Kl):=⟨f15,_,PySem.W.mg_of X G a15,k15,b15,QC F15 N DDraw⟩
 have DBlot:Def l.prog w K mg base "_law_blot" 3 ["bag"] (spU gBlot):=⟨f16,_,PySem.W.mg_of X G a16,k16,b16,JM F16 N DDraw DAnySign⟩
 have DBentText:Def l.prog w K mg base "_law_bent_text" 4 ["text", "pick", "bag"] (spU Kr):=⟨f17,_,PySem.W.mg_of X G a17,k17,b17,ok_bentT F17 N DAnySign DBlot⟩
 have DBentLines:Def l.prog w K mg base "_law_bent_lines" 1 ["text", "pick"] (spP Zq):=⟨f18,_,PySem.W.mg_of X G a18,k18,b18,JN F18 N⟩
 have DSpoilt:Def l.prog w K mg base "_law_spoilt" 5 ["text", "pick", "bag"] (spU QU):=⟨f19,_,PySem.W.mg_of X G a19,k19,b19,Zg F19 DBentText DBentLines⟩
 have DValue:Def l.prog w K mg base "_law_value" 1 ["text"] (spP gVal):=⟨f20,_,PySem.W.mg_of X G a20,k20,b20,ok_val72 F20 N⟩
 have DBehind:Def l.prog w K mg base "_law_behind" 2 ["line", "head", "first"] (spP Ks):=⟨f21,_,PySem.W.mg_of X G a21,k21,b21,ok_behL F21 DValue⟩
 have DMarkOf:Def l.prog w K mg base "_law_mark_of" 3 ["line"] (spP Kq):=⟨f22,_,PySem.W.mg_of X G a22,k22,b22,ok_markL F22 N DBehind⟩
 have DImageOf:Def l.prog w K mg base "_law_image_of" 4 ["text"] (spP gImL):=⟨f23,_,PySem.W.mg_of X G a23,k23,b23,ok_imL F23 N DBehind DMarkOf⟩
 have DAlike:Def l.prog w K mg base "_law_alike" 6 ["found", "due"] (spP (Kt 5)):=⟨f24,_,PySem.W.mg_of X G a24,k24,b24,XD F24 N (PySem.W.mg_of X G a24) k24 b24⟩
 have DRead:Def l.prog w K mg base "_law_read" 7 ["text"] (spP gRd):=⟨f25,_,PySem.W.mg_of X G a25,k25,b25,ok_rdU F25 N NVE BWordError BNoText BWk BNought BNoRoom BFaulty BNotFormed ENoText_WordError TNoText INoText_ValueError INoText_NoText INoText_NotFormed_Faulty_NoRoom INoText_Nought_Wk DReadImage⟩
 have DRight:Def l.prog w K mg base "_law_right" 8 ["text"] (spP Kn):=⟨f26,_,PySem.W.mg_of X G a26,k26,b26,XB F26 DImageOf DRead DAlike⟩
 exact ok_lawU F27 N DBag DDraw DAnyImage DImageText DSpoilt DRight
theorem walk {l:PySem.W.OpenLaw} {q:Program} {loose:List Str} {XP:(Str->Option Value)->Heap->Prop} {YP:World->Heap->Prop} {d:DefRec} {K:Params->PySem.W.Frag} (hn:l.most=some 63) (hdf:d.params.defaults=[])
  (hY:∀(w:World) (h:Heap),YP w h->(K w.params).In h)
  (F:∀(w:World) (mg:Str->Option Value) (fa:Addr) (h:Heap),(K w.params).In h->h.Ns mainGlobals mg->mg d.name=some (.ref fa) ->
   ∃fd:FuncData,(∀(s:Shared) (u:Value),BindsTo s fd ⟨[u], []⟩ [("script", u)])/\∀base:Heap,(K w.params).In base->base.Ns mainGlobals mg->FnOk l.prog w (K w.params) mg base CX0 9 fa fd ["script"] (X9 (K w.params))) :
  PySem.W.WalkO q loose XP YP l.row.toRowW d [] (fun f vs=>PySem.call f vs) :=
 L2.walk_of (n:=63) (k:=9) (x := "script") (CX:=fun _=>CX0) (sp:=fun w=>X9 (K w.params)) hn (by decide) hdf ⟨rfl,by decide,by decide,rfl⟩ hY F (fun _ _ a ns hl _ hS=>⟨a,ns,rfl,hS,hl,fun _=>rfl⟩) fun _ _ _ _ _ z=>z
end Mw
theorem PySem.W.Fast.te16148747032443467598:True:=True.intro
namespace Mw
open PySem PySem.W PySem.Calls PyProof.Rows L2
abbrev oE (P:Params) (n:Str) (t:Nat) (v:Value):DictEntry:=⟨PyData.keyHash P n, .str n t,v⟩
noncomputable def K:Params->Frag:=fun P =>
(nat_lit 2,⟨.none,none,(.dict #[] 0), #[]⟩) ::
(nat_lit 3,⟨.type "dict", none,(.dict [oE P "__name__" 165 (.str "law_markwords_k72_texts_that_are_no_images" 404),oE P "__doc__" 166 (.none),oE P "__package__" 167 (.none),oE P "__loader__" 168 (.builtin "__main__.__loader__#opaque"),oE P "__spec__" 169 (.none),oE P "__annotations__" 170 (.ref 6),oE P "__builtins__" 171 (.ref 4),oE P "__file__" 173 (.str "/claim/cut.py" 172),oE P "__cached__" 174 (.none),oE P "WordError" 206 (.ref 24),oE P "WrongKind" 231 (.ref 44),oE P "Nought" 247 (.ref 56),oE P "NoRoom" 263 (.ref 68),oE P "Faulty" 290 (.ref 87),oE P "NoText" 306 (.ref 99),oE P "NotFormed" 322 (.ref 111),oE P "MOST_FIGURES" 326 (.int (60) 325),oE P "MOST_LETTERS" 328 (.int (8) 327),oE P "FIGURES" 330 (.str "0123456789" 329),oE P "LETTERS" 332 (.str "abcdefghijklmnopqrstuvwxyz" 331),oE P "consists_of" 338 (.ref 118),oE P "read_whole" 347 (.ref 125),oE P "read_number" 354 (.ref 132),oE P "read_letters" 361 (.ref 139),oE P "ROWS_BEHIND_MARKS" 365 (.int (3) 364),oE P "parts_behind" 374 (.ref 146),oE P "read_numbers" 380 (.ref 151),oE P "read_one_number" 389 (.ref 158),oE P "read_mark" 397 (.ref 165),oE P "read_image" 403 (.ref 170),oE P "_law_bag" 411 (.ref 175),oE P "_law_draw" 420 (.ref 182),oE P "_law_any_number" 429 (.ref 189),oE P "_law_any_image" 435 (.ref 194),oE P "_law_image_text" 441 (.ref 199),oE P "_law_any_sign" 449 (.ref 206),oE P "_law_blot" 455 (.ref 211),oE P "_law_bent_text" 461 (.ref 216),oE P "_law_bent_lines" 467 (.ref 221),oE P "_law_spoilt" 476 (.ref 228),oE P "_law_value" 482 (.ref 233),oE P "_law_behind" 488 (.ref 238),oE P "_law_mark_of" 494 (.ref 243),oE P "_law_image_of" 500 (.ref 248),oE P "_law_alike" 506 (.ref 253),oE P "_law_read" 516 (.ref 260),oE P "_law_right" 526 (.ref 267),oE P "law" 539 (.ref 274)].toArray 48), #[]⟩) ::
(nat_lit 15,⟨.type "tuple", none,(.seq #[.type "ValueError"] 0), #[]⟩) ::
(nat_lit 22,⟨.type "tuple", none,(.seq #[] 0), #[]⟩) ::
(nat_lit 23,⟨.type "dict", none,(.dict [oE P "__module__" 196 (.str "markwords.errors" 187),oE P "__firstlineno__" 200 (.int (2) 199),oE P "__static_attributes__" 201 (.ref 22),oE P "__weakref__" 203 (.ref 25),oE P "__doc__" 204 (.none)].toArray 3), #[]⟩) ::
(nat_lit 24,⟨.type "type", none,(.cls ({ name := "WordError", bases:=[.type "ValueError"],mro:=[.ref 24, .type "ValueError", .type "Exception", .type "BaseException", .type "object"],ns:=23,qualname := "WordError", hasDict:=true,slotNames:=[],subclasses:=[.ref 44, .ref 56, .ref 68, .ref 87, .ref 99, .ref 111],abstract:=false,collection:=none,hasDel:=false }:ClassData)), #[(some (.ref 15)),none,(some (.str "WordError" 189)),(some (.str "WordError" 197)),(some (.builtin "ValueError.__new__")),(some (.bool true))]⟩) ::
(nat_lit 25,⟨.type "getset_descriptor", none,(.fields #[.str "__weakref__" 202, .ref 24, .builtin "ExceptionGroup.__weakref__", .none]), #[]⟩) ::
(nat_lit 28,⟨.type "tuple", none,(.seq #[.ref 24] 0), #[]⟩) ::
(nat_lit 35,⟨.type "tuple", none,(.seq #[] 0), #[]⟩) ::
(nat_lit 37,⟨.type "tuple", none,(.seq #[.str "self" 222, .str "part" 223] 0), #[]⟩) ::
(nat_lit 38,⟨.type "tuple", none,(.seq #[] 0), #[]⟩) ::
(nat_lit 40,⟨.type "code", none,(.fields #[.str "__init__" 219, .str "WrongKind.__init__" 220, .str "/claim/cut.py" 221, .int (6) 0, .int (2) 0, .int (0) 0, .int (0) 0, .int (3) 0, .ref 35, .bool true, .int (181) 0, .ref 36, .none, .ref 37, .ref 38, .ref 39, .int (224) 0, .int (6) 0, .str "/claim/cut.py" 225]), #[]⟩) ::
(nat_lit 41,⟨.type "function", none,(.func (PySem.W.fnOf "__init__" "WrongKind.__init__" (qm (jx (top 2) 0)) (qi (jx (top 2) 0)) (qc (jx (top 2) 0)) (.none) (.none) (.none) (.str "markwords.errors" 187) none (.ref 40) (.none))), #[]⟩) ::
(nat_lit 42,⟨.type "tuple", none,(.seq #[.str "part" 227] 0), #[]⟩) ::
(nat_lit 43,⟨.type "dict", none,(.dict [oE P "__module__" 214 (.str "markwords.errors" 187),oE P "__firstlineno__" 218 (.int (4) 217),oE P "__init__" 226 (.ref 41),oE P "__static_attributes__" 228 (.ref 42),oE P "__doc__" 229 (.none)].toArray 2), #[]⟩) ::
(nat_lit 44,⟨.type "type", none,(.cls ({ name := "WrongKind", bases:=[.ref 24],mro:=[.ref 44, .ref 24, .type "ValueError", .type "Exception", .type "BaseException", .type "object"],ns:=43,qualname := "WrongKind", hasDict:=true,slotNames:=[],subclasses:=[],abstract:=false,collection:=none,hasDel:=false }:ClassData)), #[(some (.ref 28)),none,(some (.str "WrongKind" 207)),(some (.str "WrongKind" 215)),(some (.builtin "ValueError.__new__")),(some (.bool true))]⟩) ::
(nat_lit 47,⟨.type "tuple", none,(.seq #[.ref 24] 0), #[]⟩) ::
(nat_lit 54,⟨.type "tuple", none,(.seq #[] 0), #[]⟩) ::
(nat_lit 55,⟨.type "dict", none,(.dict [oE P "__module__" 239 (.str "markwords.errors" 187),oE P "__firstlineno__" 243 (.int (9) 242),oE P "__static_attributes__" 244 (.ref 54),oE P "__doc__" 245 (.none)].toArray 2), #[]⟩) ::
(nat_lit 56,⟨.type "type", none,(.cls ({ name := "Nought", bases:=[.ref 24],mro:=[.ref 56, .ref 24, .type "ValueError", .type "Exception", .type "BaseException", .type "object"],ns:=55,qualname := "Nought", hasDict:=true,slotNames:=[],subclasses:=[],abstract:=false,collection:=none,hasDel:=false }:ClassData)), #[(some (.ref 47)),none,(some (.str "Nought" 232)),(some (.str "Nought" 240)),(some (.builtin "ValueError.__new__")),(some (.bool true))]⟩) ::
(nat_lit 59,⟨.type "tuple", none,(.seq #[.ref 24] 0), #[]⟩) ::
(nat_lit 66,⟨.type "tuple", none,(.seq #[] 0), #[]⟩) ::
(nat_lit 67,⟨.type "dict", none,(.dict [oE P "__module__" 255 (.str "markwords.errors" 187),oE P "__firstlineno__" 259 (.int (11) 258),oE P "__static_attributes__" 260 (.ref 66),oE P "__doc__" 261 (.none)].toArray 2), #[]⟩) ::
(nat_lit 68,⟨.type "type", none,(.cls ({ name := "NoRoom", bases:=[.ref 24],mro:=[.ref 68, .ref 24, .type "ValueError", .type "Exception", .type "BaseException", .type "object"],ns:=67,qualname := "NoRoom", hasDict:=true,slotNames:=[],subclasses:=[],abstract:=false,collection:=none,hasDel:=false }:ClassData)), #[(some (.ref 59)),none,(some (.str "NoRoom" 248)),(some (.str "NoRoom" 256)),(some (.builtin "ValueError.__new__")),(some (.bool true))]⟩) ::
(nat_lit 71,⟨.type "tuple", none,(.seq #[.ref 24] 0), #[]⟩) ::
(nat_lit 78,⟨.type "tuple", none,(.seq #[] 0), #[]⟩) ::
(nat_lit 80,⟨.type "tuple", none,(.seq #[.str "self" 279, .str "word" 280, .str "k" 281] 0), #[]⟩) ::
(nat_lit 81,⟨.type "tuple", none,(.seq #[] 0), #[]⟩) ::
(nat_lit 83,⟨.type "code", none,(.fields #[.str "__init__" 276, .str "Faulty.__init__" 277, .str "/claim/cut.py" 278, .int (15) 0, .int (3) 0, .int (0) 0, .int (0) 0, .int (3) 0, .ref 78, .bool true, .int (181) 0, .ref 79, .none, .ref 80, .ref 81, .ref 82, .int (282) 0, .int (15) 0, .str "/claim/cut.py" 283]), #[]⟩) ::
(nat_lit 84,⟨.type "function", none,(.func (PySem.W.fnOf "__init__" "Faulty.__init__" (qm (jx (top 5) 0)) (qi (jx (top 5) 0)) (qc (jx (top 5) 0)) (.none) (.none) (.none) (.str "markwords.errors" 187) none (.ref 83) (.none))), #[]⟩) ::
(nat_lit 85,⟨.type "tuple", none,(.seq #[.str "k" 285, .str "word" 286] 0), #[]⟩) ::
(nat_lit 86,⟨.type "dict", none,(.dict [oE P "__module__" 271 (.str "markwords.errors" 187),oE P "__firstlineno__" 275 (.int (13) 274),oE P "__init__" 284 (.ref 84),oE P "__static_attributes__" 287 (.ref 85),oE P "__doc__" 288 (.none)].toArray 2), #[]⟩) ::
(nat_lit 87,⟨.type "type", none,(.cls ({ name := "Faulty", bases:=[.ref 24],mro:=[.ref 87, .ref 24, .type "ValueError", .type "Exception", .type "BaseException", .type "object"],ns:=86,qualname := "Faulty", hasDict:=true,slotNames:=[],subclasses:=[],abstract:=false,collection:=none,hasDel:=false }:ClassData)), #[(some (.ref 71)),none,(some (.str "Faulty" 264)),(some (.str "Faulty" 272)),(some (.builtin "ValueError.__new__")),(some (.bool true))]⟩) ::
(nat_lit 90,⟨.type "tuple", none,(.seq #[.ref 24] 0), #[]⟩) ::
(nat_lit 97,⟨.type "tuple", none,(.seq #[] 0), #[]⟩) ::
(nat_lit 98,⟨.type "dict", none,(.dict [oE P "__module__" 298 (.str "markwords.errors" 187),oE P "__firstlineno__" 302 (.int (19) 301),oE P "__static_attributes__" 303 (.ref 97),oE P "__doc__" 304 (.none)].toArray 2), #[]⟩) ::
(nat_lit 99,⟨.type "type", none,(.cls ({ name := "NoText", bases:=[.ref 24],mro:=[.ref 99, .ref 24, .type "ValueError", .type "Exception", .type "BaseException", .type "object"],ns:=98,qualname := "NoText", hasDict:=true,slotNames:=[],subclasses:=[],abstract:=false,collection:=none,hasDel:=false }:ClassData)), #[(some (.ref 90)),none,(some (.str "NoText" 291)),(some (.str "NoText" 299)),(some (.builtin "ValueError.__new__")),(some (.bool true))]⟩) ::
(nat_lit 102,⟨.type "tuple", none,(.seq #[.ref 24] 0), #[]⟩) ::
(nat_lit 109,⟨.type "tuple", none,(.seq #[] 0), #[]⟩) ::
(nat_lit 110,⟨.type "dict", none,(.dict [oE P "__module__" 314 (.str "markwords.errors" 187),oE P "__firstlineno__" 318 (.int (21) 317),oE P "__static_attributes__" 319 (.ref 109),oE P "__doc__" 320 (.none)].toArray 2), #[]⟩) ::
(nat_lit 111,⟨.type "type", none,(.cls ({ name := "NotFormed", bases:=[.ref 24],mro:=[.ref 111, .ref 24, .type "ValueError", .type "Exception", .type "BaseException", .type "object"],ns:=110,qualname := "NotFormed", hasDict:=true,slotNames:=[],subclasses:=[],abstract:=false,collection:=none,hasDel:=false }:ClassData)), #[(some (.ref 102)),none,(some (.str "NotFormed" 307)),(some (.str "NotFormed" 315)),(some (.builtin "ValueError.__new__")),(some (.bool true))]⟩) ::
(nat_lit 114,⟨.type "tuple", none,(.seq #[] 0), #[]⟩) ::
(nat_lit 117,⟨.type "code", none,(.fields #[.str "consists_of" 333, .str "consists_of" 334, .str "/claim/cut.py" 335, .int (28) 0, .int (2) 0, .int (0) 0, .int (0) 0, .int (3) 0, .ref 114, .bool true, .int (181) 0, .ref 115, .none, .none, .none, .ref 116, .int (336) 0, .int (28) 0, .str "/claim/cut.py" 337]), #[]⟩) ::
(nat_lit 118,⟨.type "function", none,(.func (PySem.W.fnOf "consists_of" "consists_of" (qm (top 13)) (qi (top 13)) (qc (top 13)) (.none) (.none) (.none) (.str "markwords.scripts" 323) none (.ref 117) (.none))), #[]⟩) ::
(nat_lit 119,⟨.type "tuple", none,(.seq #[] 0), #[]⟩) ::
(nat_lit 121,⟨.type "tuple", none,(.seq #[.str "text" 342, .str "most" 343, .str "figures" 344] 0), #[]⟩) ::
(nat_lit 122,⟨.type "tuple", none,(.seq #[] 0), #[]⟩) ::
(nat_lit 124,⟨.type "code", none,(.fields #[.str "read_whole" 339, .str "read_whole" 340, .str "/claim/cut.py" 341, .int (30) 0, .int (2) 0, .int (0) 0, .int (0) 0, .int (3) 0, .ref 119, .bool true, .int (181) 0, .ref 120, .none, .ref 121, .ref 122, .ref 123, .int (345) 0, .int (30) 0, .str "/claim/cut.py" 346]), #[]⟩) ::
(nat_lit 125,⟨.type "function", none,(.func (PySem.W.fnOf "read_whole" "read_whole" (qm (top 14)) (qi (top 14)) (qc (top 14)) (.none) (.none) (.none) (.str "markwords.scripts" 323) none (.ref 124) (.none))), #[]⟩) ::
(nat_lit 126,⟨.type "tuple", none,(.seq #[] 0), #[]⟩) ::
(nat_lit 128,⟨.type "tuple", none,(.seq #[.str "text" 351] 0), #[]⟩) ::
(nat_lit 129,⟨.type "tuple", none,(.seq #[] 0), #[]⟩) ::
(nat_lit 131,⟨.type "code", none,(.fields #[.str "read_number" 348, .str "read_number" 349, .str "/claim/cut.py" 350, .int (37) 0, .int (1) 0, .int (0) 0, .int (0) 0, .int (3) 0, .ref 126, .bool true, .int (181) 0, .ref 127, .none, .ref 128, .ref 129, .ref 130, .int (352) 0, .int (37) 0, .str "/claim/cut.py" 353]), #[]⟩) ::
(nat_lit 132,⟨.type "function", none,(.func (PySem.W.fnOf "read_number" "read_number" (qm (top 15)) (qi (top 15)) (qc (top 15)) (.none) (.none) (.none) (.str "markwords.scripts" 323) none (.ref 131) (.none))), #[]⟩) ::
(nat_lit 133,⟨.type "tuple", none,(.seq #[] 0), #[]⟩) ::
(nat_lit 135,⟨.type "tuple", none,(.seq #[.str "text" 358] 0), #[]⟩) ::
(nat_lit 136,⟨.type "tuple", none,(.seq #[] 0), #[]⟩) ::
(nat_lit 138,⟨.type "code", none,(.fields #[.str "read_letters" 355, .str "read_letters" 356, .str "/claim/cut.py" 357, .int (39) 0, .int (1) 0, .int (0) 0, .int (0) 0, .int (3) 0, .ref 133, .bool true, .int (181) 0, .ref 134, .none, .ref 135, .ref 136, .ref 137, .int (359) 0, .int (39) 0, .str "/claim/cut.py" 360]), #[]⟩) ::
(nat_lit 139,⟨.type "function", none,(.func (PySem.W.fnOf "read_letters" "read_letters" (qm (top 16)) (qi (top 16)) (qc (top 16)) (.none) (.none) (.none) (.str "markwords.scripts" 323) none (.ref 138) (.none))), #[]⟩) ::
(nat_lit 140,⟨.type "tuple", none,(.seq #[] 0), #[]⟩) ::
(nat_lit 142,⟨.type "tuple", none,(.seq #[.str "head" 369, .str "row" 370, .str "parts" 371] 0), #[]⟩) ::
(nat_lit 143,⟨.type "tuple", none,(.seq #[] 0), #[]⟩) ::
(nat_lit 145,⟨.type "code", none,(.fields #[.str "parts_behind" 366, .str "parts_behind" 367, .str "/claim/cut.py" 368, .int (45) 0, .int (2) 0, .int (0) 0, .int (0) 0, .int (3) 0, .ref 140, .bool true, .int (181) 0, .ref 141, .none, .ref 142, .ref 143, .ref 144, .int (372) 0, .int (45) 0, .str "/claim/cut.py" 373]), #[]⟩) ::
(nat_lit 146,⟨.type "function", none,(.func (PySem.W.fnOf "parts_behind" "parts_behind" (qm (top 19)) (qi (top 19)) (qc (top 19)) (.none) (.none) (.none) (.str "markwords.books" 362) none (.ref 145) (.none))), #[]⟩) ::
(nat_lit 147,⟨.type "tuple", none,(.seq #[] 0), #[]⟩) ::
(nat_lit 150,⟨.type "code", none,(.fields #[.str "read_numbers" 375, .str "read_numbers" 376, .str "/claim/cut.py" 377, .int (50) 0, .int (2) 0, .int (0) 0, .int (0) 0, .int (3) 0, .ref 147, .bool true, .int (181) 0, .ref 148, .none, .none, .none, .ref 149, .int (378) 0, .int (50) 0, .str "/claim/cut.py" 379]), #[]⟩) ::
(nat_lit 151,⟨.type "function", none,(.func (PySem.W.fnOf "read_numbers" "read_numbers" (qm (top 20)) (qi (top 20)) (qc (top 20)) (.none) (.none) (.none) (.str "markwords.books" 362) none (.ref 150) (.none))), #[]⟩) ::
(nat_lit 152,⟨.type "tuple", none,(.seq #[] 0), #[]⟩) ::
(nat_lit 154,⟨.type "tuple", none,(.seq #[.str "head" 384, .str "row" 385, .str "numbers" 386] 0), #[]⟩) ::
(nat_lit 155,⟨.type "tuple", none,(.seq #[] 0), #[]⟩) ::
(nat_lit 157,⟨.type "code", none,(.fields #[.str "read_one_number" 381, .str "read_one_number" 382, .str "/claim/cut.py" 383, .int (52) 0, .int (2) 0, .int (0) 0, .int (0) 0, .int (3) 0, .ref 152, .bool true, .int (181) 0, .ref 153, .none, .ref 154, .ref 155, .ref 156, .int (387) 0, .int (52) 0, .str "/claim/cut.py" 388]), #[]⟩) ::
(nat_lit 158,⟨.type "function", none,(.func (PySem.W.fnOf "read_one_number" "read_one_number" (qm (top 21)) (qi (top 21)) (qc (top 21)) (.none) (.none) (.none) (.str "markwords.books" 362) none (.ref 157) (.none))), #[]⟩) ::
(nat_lit 159,⟨.type "tuple", none,(.seq #[] 0), #[]⟩) ::
(nat_lit 161,⟨.type "tuple", none,(.seq #[.str "row" 393, .str "parts" 394] 0), #[]⟩) ::
(nat_lit 162,⟨.type "tuple", none,(.seq #[] 0), #[]⟩) ::
(nat_lit 164,⟨.type "code", none,(.fields #[.str "read_mark" 390, .str "read_mark" 391, .str "/claim/cut.py" 392, .int (57) 0, .int (1) 0, .int (0) 0, .int (0) 0, .int (3) 0, .ref 159, .bool true, .int (181) 0, .ref 160, .none, .ref 161, .ref 162, .ref 163, .int (395) 0, .int (57) 0, .str "/claim/cut.py" 396]), #[]⟩) ::
(nat_lit 165,⟨.type "function", none,(.func (PySem.W.fnOf "read_mark" "read_mark" (qm (top 22)) (qi (top 22)) (qc (top 22)) (.none) (.none) (.none) (.str "markwords.books" 362) none (.ref 164) (.none))), #[]⟩) ::
(nat_lit 166,⟨.type "tuple", none,(.seq #[] 0), #[]⟩) ::
(nat_lit 169,⟨.type "code", none,(.fields #[.str "read_image" 398, .str "read_image" 399, .str "/claim/cut.py" 400, .int (62) 0, .int (1) 0, .int (0) 0, .int (0) 0, .int (3) 0, .ref 166, .bool true, .int (181) 0, .ref 167, .none, .none, .none, .ref 168, .int (401) 0, .int (62) 0, .str "/claim/cut.py" 402]), #[]⟩) ::
(nat_lit 170,⟨.type "function", none,(.func (PySem.W.fnOf "read_image" "read_image" (qm (top 23)) (qi (top 23)) (qc (top 23)) (.none) (.none) (.none) (.str "markwords.books" 362) none (.ref 169) (.none))), #[]⟩) ::
(nat_lit 171,⟨.type "tuple", none,(.seq #[] 0), #[]⟩) ::
(nat_lit 174,⟨.type "code", none,(.fields #[.str "_law_bag" 406, .str "_law_bag" 407, .str "/claim/cut.py" 408, .int (71) 0, .int (1) 0, .int (0) 0, .int (0) 0, .int (3) 0, .ref 171, .bool true, .int (181) 0, .ref 172, .none, .none, .none, .ref 173, .int (409) 0, .int (71) 0, .str "/claim/cut.py" 410]), #[]⟩) ::
(nat_lit 175,⟨.type "function", none,(.func (PySem.W.fnOf "_law_bag" "_law_bag" (qm (top 25)) (qi (top 25)) (qc (top 25)) (.none) (.none) (.none) (.str "law_markwords_k72_texts_that_are_no_images" 404) none (.ref 174) (.none))), #[]⟩) ::
(nat_lit 176,⟨.type "tuple", none,(.seq #[] 0), #[]⟩) ::
(nat_lit 178,⟨.type "tuple", none,(.seq #[.str "bag" 415, .str "many" 416, .str "found" 417] 0), #[]⟩) ::
(nat_lit 179,⟨.type "tuple", none,(.seq #[] 0), #[]⟩) ::
(nat_lit 181,⟨.type "code", none,(.fields #[.str "_law_draw" 412, .str "_law_draw" 413, .str "/claim/cut.py" 414, .int (76) 0, .int (2) 0, .int (0) 0, .int (0) 0, .int (3) 0, .ref 176, .bool true, .int (181) 0, .ref 177, .none, .ref 178, .ref 179, .ref 180, .int (418) 0, .int (76) 0, .str "/claim/cut.py" 419]), #[]⟩) ::
(nat_lit 182,⟨.type "function", none,(.func (PySem.W.fnOf "_law_draw" "_law_draw" (qm (top 26)) (qi (top 26)) (qc (top 26)) (.none) (.none) (.none) (.str "law_markwords_k72_texts_that_are_no_images" 404) none (.ref 181) (.none))), #[]⟩) ::
(nat_lit 183,⟨.type "tuple", none,(.seq #[] 0), #[]⟩) ::
(nat_lit 185,⟨.type "tuple", none,(.seq #[.str "bag" 424, .str "way" 425, .str "some" 426] 0), #[]⟩) ::
(nat_lit 186,⟨.type "tuple", none,(.seq #[] 0), #[]⟩) ::
(nat_lit 188,⟨.type "code", none,(.fields #[.str "_law_any_number" 421, .str "_law_any_number" 422, .str "/claim/cut.py" 423, .int (87) 0, .int (1) 0, .int (0) 0, .int (0) 0, .int (3) 0, .ref 183, .bool true, .int (181) 0, .ref 184, .none, .ref 185, .ref 186, .ref 187, .int (427) 0, .int (87) 0, .str "/claim/cut.py" 428]), #[]⟩) ::
(nat_lit 189,⟨.type "function", none,(.func (PySem.W.fnOf "_law_any_number" "_law_any_number" (qm (top 27)) (qi (top 27)) (qc (top 27)) (.none) (.none) (.none) (.str "law_markwords_k72_texts_that_are_no_images" 404) none (.ref 188) (.none))), #[]⟩) ::
(nat_lit 190,⟨.type "tuple", none,(.seq #[] 0), #[]⟩) ::
(nat_lit 193,⟨.type "code", none,(.fields #[.str "_law_any_image" 430, .str "_law_any_image" 431, .str "/claim/cut.py" 432, .int (91) 0, .int (1) 0, .int (0) 0, .int (0) 0, .int (3) 0, .ref 190, .bool true, .int (181) 0, .ref 191, .none, .none, .none, .ref 192, .int (433) 0, .int (91) 0, .str "/claim/cut.py" 434]), #[]⟩) ::
(nat_lit 194,⟨.type "function", none,(.func (PySem.W.fnOf "_law_any_image" "_law_any_image" (qm (top 28)) (qi (top 28)) (qc (top 28)) (.none) (.none) (.none) (.str "law_markwords_k72_texts_that_are_no_images" 404) none (.ref 193) (.none))), #[]⟩) ::
(nat_lit 195,⟨.type "tuple", none,(.seq #[] 0), #[]⟩) ::
(nat_lit 198,⟨.type "code", none,(.fields #[.str "_law_image_text" 436, .str "_law_image_text" 437, .str "/claim/cut.py" 438, .int (104) 0, .int (1) 0, .int (0) 0, .int (0) 0, .int (3) 0, .ref 195, .bool true, .int (181) 0, .ref 196, .none, .none, .none, .ref 197, .int (439) 0, .int (104) 0, .str "/claim/cut.py" 440]), #[]⟩) ::
(nat_lit 199,⟨.type "function", none,(.func (PySem.W.fnOf "_law_image_text" "_law_image_text" (qm (top 29)) (qi (top 29)) (qc (top 29)) (.none) (.none) (.none) (.str "law_markwords_k72_texts_that_are_no_images" 404) none (.ref 198) (.none))), #[]⟩) ::
(nat_lit 200,⟨.type "tuple", none,(.seq #[] 0), #[]⟩) ::
(nat_lit 202,⟨.type "tuple", none,(.seq #[.str "bag" 445, .str "some" 446] 0), #[]⟩) ::
(nat_lit 203,⟨.type "tuple", none,(.seq #[] 0), #[]⟩) ::
(nat_lit 205,⟨.type "code", none,(.fields #[.str "_law_any_sign" 442, .str "_law_any_sign" 443, .str "/claim/cut.py" 444, .int (113) 0, .int (1) 0, .int (0) 0, .int (0) 0, .int (3) 0, .ref 200, .bool true, .int (181) 0, .ref 201, .none, .ref 202, .ref 203, .ref 204, .int (447) 0, .int (113) 0, .str "/claim/cut.py" 448]), #[]⟩) ::
(nat_lit 206,⟨.type "function", none,(.func (PySem.W.fnOf "_law_any_sign" "_law_any_sign" (qm (top 30)) (qi (top 30)) (qc (top 30)) (.none) (.none) (.none) (.str "law_markwords_k72_texts_that_are_no_images" 404) none (.ref 205) (.none))), #[]⟩) ::
(nat_lit 207,⟨.type "tuple", none,(.seq #[] 0), #[]⟩) ::
(nat_lit 210,⟨.type "code", none,(.fields #[.str "_law_blot" 450, .str "_law_blot" 451, .str "/claim/cut.py" 452, .int (119) 0, .int (1) 0, .int (0) 0, .int (0) 0, .int (3) 0, .ref 207, .bool true, .int (181) 0, .ref 208, .none, .none, .none, .ref 209, .int (453) 0, .int (119) 0, .str "/claim/cut.py" 454]), #[]⟩) ::
(nat_lit 211,⟨.type "function", none,(.func (PySem.W.fnOf "_law_blot" "_law_blot" (qm (top 31)) (qi (top 31)) (qc (top 31)) (.none) (.none) (.none) (.str "law_markwords_k72_texts_that_are_no_images" 404) none (.ref 210) (.none))), #[]⟩) ::
(nat_lit 212,⟨.type "tuple", none,(.seq #[] 0), #[]⟩) ::
(nat_lit 215,⟨.type "code", none,(.fields #[.str "_law_bent_text" 456, .str "_law_bent_text" 457, .str "/claim/cut.py" 458, .int (127) 0, .int (3) 0, .int (0) 0, .int (0) 0, .int (3) 0, .ref 212, .bool true, .int (181) 0, .ref 213, .none, .none, .none, .ref 214, .int (459) 0, .int (127) 0, .str "/claim/cut.py" 460]), #[]⟩) ::
(nat_lit 216,⟨.type "function", none,(.func (PySem.W.fnOf "_law_bent_text" "_law_bent_text" (qm (top 32)) (qi (top 32)) (qc (top 32)) (.none) (.none) (.none) (.str "law_markwords_k72_texts_that_are_no_images" 404) none (.ref 215) (.none))), #[]⟩) ::
(nat_lit 217,⟨.type "tuple", none,(.seq #[] 0), #[]⟩) ::
(nat_lit 220,⟨.type "code", none,(.fields #[.str "_law_bent_lines" 462, .str "_law_bent_lines" 463, .str "/claim/cut.py" 464, .int (140) 0, .int (2) 0, .int (0) 0, .int (0) 0, .int (3) 0, .ref 217, .bool true, .int (181) 0, .ref 218, .none, .none, .none, .ref 219, .int (465) 0, .int (140) 0, .str "/claim/cut.py" 466]), #[]⟩) ::
(nat_lit 221,⟨.type "function", none,(.func (PySem.W.fnOf "_law_bent_lines" "_law_bent_lines" (qm (top 33)) (qi (top 33)) (qc (top 33)) (.none) (.none) (.none) (.str "law_markwords_k72_texts_that_are_no_images" 404) none (.ref 220) (.none))), #[]⟩) ::
(nat_lit 222,⟨.type "tuple", none,(.seq #[] 0), #[]⟩) ::
(nat_lit 224,⟨.type "tuple", none,(.seq #[.str "text" 471, .str "pick" 472, .str "bag" 473] 0), #[]⟩) ::
(nat_lit 225,⟨.type "tuple", none,(.seq #[] 0), #[]⟩) ::
(nat_lit 227,⟨.type "code", none,(.fields #[.str "_law_spoilt" 468, .str "_law_spoilt" 469, .str "/claim/cut.py" 470, .int (167) 0, .int (3) 0, .int (0) 0, .int (0) 0, .int (3) 0, .ref 222, .bool true, .int (181) 0, .ref 223, .none, .ref 224, .ref 225, .ref 226, .int (474) 0, .int (167) 0, .str "/claim/cut.py" 475]), #[]⟩) ::
(nat_lit 228,⟨.type "function", none,(.func (PySem.W.fnOf "_law_spoilt" "_law_spoilt" (qm (top 34)) (qi (top 34)) (qc (top 34)) (.none) (.none) (.none) (.str "law_markwords_k72_texts_that_are_no_images" 404) none (.ref 227) (.none))), #[]⟩) ::
(nat_lit 229,⟨.type "tuple", none,(.seq #[] 0), #[]⟩) ::
(nat_lit 232,⟨.type "code", none,(.fields #[.str "_law_value" 477, .str "_law_value" 478, .str "/claim/cut.py" 479, .int (169) 0, .int (1) 0, .int (0) 0, .int (0) 0, .int (3) 0, .ref 229, .bool true, .int (181) 0, .ref 230, .none, .none, .none, .ref 231, .int (480) 0, .int (169) 0, .str "/claim/cut.py" 481]), #[]⟩) ::
(nat_lit 233,⟨.type "function", none,(.func (PySem.W.fnOf "_law_value" "_law_value" (qm (top 35)) (qi (top 35)) (qc (top 35)) (.none) (.none) (.none) (.str "law_markwords_k72_texts_that_are_no_images" 404) none (.ref 232) (.none))), #[]⟩) ::
(nat_lit 234,⟨.type "tuple", none,(.seq #[] 0), #[]⟩) ::
(nat_lit 237,⟨.type "code", none,(.fields #[.str "_law_behind" 483, .str "_law_behind" 484, .str "/claim/cut.py" 485, .int (174) 0, .int (3) 0, .int (0) 0, .int (0) 0, .int (3) 0, .ref 234, .bool true, .int (181) 0, .ref 235, .none, .none, .none, .ref 236, .int (486) 0, .int (174) 0, .str "/claim/cut.py" 487]), #[]⟩) ::
(nat_lit 238,⟨.type "function", none,(.func (PySem.W.fnOf "_law_behind" "_law_behind" (qm (top 36)) (qi (top 36)) (qc (top 36)) (.none) (.none) (.none) (.str "law_markwords_k72_texts_that_are_no_images" 404) none (.ref 237) (.none))), #[]⟩) ::
(nat_lit 239,⟨.type "tuple", none,(.seq #[] 0), #[]⟩) ::
(nat_lit 242,⟨.type "code", none,(.fields #[.str "_law_mark_of" 489, .str "_law_mark_of" 490, .str "/claim/cut.py" 491, .int (180) 0, .int (1) 0, .int (0) 0, .int (0) 0, .int (3) 0, .ref 239, .bool true, .int (181) 0, .ref 240, .none, .none, .none, .ref 241, .int (492) 0, .int (180) 0, .str "/claim/cut.py" 493]), #[]⟩) ::
(nat_lit 243,⟨.type "function", none,(.func (PySem.W.fnOf "_law_mark_of" "_law_mark_of" (qm (top 37)) (qi (top 37)) (qc (top 37)) (.none) (.none) (.none) (.str "law_markwords_k72_texts_that_are_no_images" 404) none (.ref 242) (.none))), #[]⟩) ::
(nat_lit 244,⟨.type "tuple", none,(.seq #[] 0), #[]⟩) ::
(nat_lit 247,⟨.type "code", none,(.fields #[.str "_law_image_of" 495, .str "_law_image_of" 496, .str "/claim/cut.py" 497, .int (188) 0, .int (1) 0, .int (0) 0, .int (0) 0, .int (3) 0, .ref 244, .bool true, .int (181) 0, .ref 245, .none, .none, .none, .ref 246, .int (498) 0, .int (188) 0, .str "/claim/cut.py" 499]), #[]⟩) ::
(nat_lit 248,⟨.type "function", none,(.func (PySem.W.fnOf "_law_image_of" "_law_image_of" (qm (top 38)) (qi (top 38)) (qc (top 38)) (.none) (.none) (.none) (.str "law_markwords_k72_texts_that_are_no_images" 404) none (.ref 247) (.none))), #[]⟩) ::
(nat_lit 249,⟨.type "tuple", none,(.seq #[] 0), #[]⟩) ::
(nat_lit 252,⟨.type "code", none,(.fields #[.str "_law_alike" 501, .str "_law_alike" 502, .str "/claim/cut.py" 503, .int (200) 0, .int (2) 0, .int (0) 0, .int (0) 0, .int (3) 0, .ref 249, .bool true, .int (181) 0, .ref 250, .none, .none, .none, .ref 251, .int (504) 0, .int (200) 0, .str "/claim/cut.py" 505]), #[]⟩) ::
(nat_lit 253,⟨.type "function", none,(.func (PySem.W.fnOf "_law_alike" "_law_alike" (qm (top 39)) (qi (top 39)) (qc (top 39)) (.none) (.none) (.none) (.str "law_markwords_k72_texts_that_are_no_images" 404) none (.ref 252) (.none))), #[]⟩) ::
(nat_lit 254,⟨.type "tuple", none,(.seq #[] 0), #[]⟩) ::
(nat_lit 256,⟨.type "tuple", none,(.seq #[.str "text" 510, .str "found" 511, .str "told" 512, .str "e" 513] 0), #[]⟩) ::
(nat_lit 257,⟨.type "tuple", none,(.seq #[] 0), #[]⟩) ::
(nat_lit 259,⟨.type "code", none,(.fields #[.str "_law_read" 507, .str "_law_read" 508, .str "/claim/cut.py" 509, .int (210) 0, .int (1) 0, .int (0) 0, .int (0) 0, .int (3) 0, .ref 254, .bool true, .int (181) 0, .ref 255, .none, .ref 256, .ref 257, .ref 258, .int (514) 0, .int (210) 0, .str "/claim/cut.py" 515]), #[]⟩) ::
(nat_lit 260,⟨.type "function", none,(.func (PySem.W.fnOf "_law_read" "_law_read" (qm (top 40)) (qi (top 40)) (qc (top 40)) (.none) (.none) (.none) (.str "law_markwords_k72_texts_that_are_no_images" 404) none (.ref 259) (.none))), #[]⟩) ::
(nat_lit 261,⟨.type "tuple", none,(.seq #[] 0), #[]⟩) ::
(nat_lit 263,⟨.type "tuple", none,(.seq #[.str "text" 520, .str "due" 521, .str "found" 522, .str "told" 523] 0), #[]⟩) ::
(nat_lit 264,⟨.type "tuple", none,(.seq #[] 0), #[]⟩) ::
(nat_lit 266,⟨.type "code", none,(.fields #[.str "_law_right" 517, .str "_law_right" 518, .str "/claim/cut.py" 519, .int (219) 0, .int (1) 0, .int (0) 0, .int (0) 0, .int (3) 0, .ref 261, .bool true, .int (181) 0, .ref 262, .none, .ref 263, .ref 264, .ref 265, .int (524) 0, .int (219) 0, .str "/claim/cut.py" 525]), #[]⟩) ::
(nat_lit 267,⟨.type "function", none,(.func (PySem.W.fnOf "_law_right" "_law_right" (qm (top 41)) (qi (top 41)) (qc (top 41)) (.none) (.none) (.none) (.str "law_markwords_k72_texts_that_are_no_images" 404) none (.ref 266) (.none))), #[]⟩) ::
(nat_lit 268,⟨.type "tuple", none,(.seq #[] 0), #[]⟩) ::
(nat_lit 270,⟨.type "tuple", none,(.seq #[.str "script" 530, .str "bag" 531, .str "picks" 532, .str "k" 533, .str "good" 534, .str "text" 535, .str "pick" 536] 0), #[]⟩) ::
(nat_lit 271,⟨.type "tuple", none,(.seq #[] 0), #[]⟩) ::
(nat_lit 273,⟨.type "code", none,(.fields #[.str "law" 527, .str "law" 528, .str "/claim/cut.py" 529, .int (225) 0, .int (1) 0, .int (0) 0, .int (0) 0, .int (3) 0, .ref 268, .bool true, .int (181) 0, .ref 269, .none, .ref 270, .ref 271, .ref 272, .int (537) 0, .int (225) 0, .str "/claim/cut.py" 538]), #[]⟩) ::
(nat_lit 274,⟨.type "function", none,(.func (PySem.W.fnOf "law" "law" (qm (top 42)) (qi (top 42)) (qc (top 42)) (.none) (.none) (.none) (.str "law_markwords_k72_texts_that_are_no_images" 404) none (.ref 273) (.none))), #[]⟩) ::
[]
def KA:List Addr:=[2,3,15,22,23,24,25,28,35,37,38,40,41,42,43,44,47,54,55,56,59,66,67,68,71,78,80,81,83,84,85,86,87,90,97,98,99,102,109,110,111,114,117,118,119,121,122,124,125,126,128,129,131,132,133,135,136,138,139,140,142,143,145,146,147,150,151,152,154,155,157,158,159,161,162,164,165,166,169,170,171,174,175,176,178,179,181,182,183,185,186,188,189,190,193,194,195,198,199,200,202,203,205,206,207,210,211,212,215,216,217,220,221,222,224,225,227,228,229,232,233,234,237,238,239,242,243,244,247,248,249,252,253,254,256,257,259,260,261,263,264,266,267,268,270,271,273,274]
theorem K_as:∀P,KA=(K P).map (·.1):=fun _=>by kernel_rfl
noncomputable def vw:Program:=PySem.W.view PySem.Challenge.pw_markwords_k72_texts_that_are_no_images [1,2,3,4,5,6,7,9,10,11,12,13,14,15,16,18,19,20,21,22,23,25,26,27,28,29,30,31,32,33,34,35,36,37,38,39,40,41,42]
def ls:List Str:=[]
def lv:List (Str×WData):=[]
noncomputable def Xt (s:Shared):Bool:=xlAt vw lv s&&recOk (RowW.records (OpenRow.toRowW (OpenLaw.row PySem.Challenge.rw_markwords_k72_texts_that_are_no_images))) s
noncomputable def Lf (w:World) (os:OsState):=(Hd.topT treeTable PySem.Challenge.pw_markwords_k72_texts_that_are_no_images w 11 (some (.ref 6)) 4882 (Hd.S0 w os) (topStub PySem.Challenge.pw_markwords_k72_texts_that_are_no_images)).map (fun s=>Hd.Look PySem.Challenge.pw_markwords_k72_texts_that_are_no_images vw ls Xt (kHook K KA K_as).obs w s.abs)
noncomputable def Rt (w:World) (_:OsState):=some (true,openGood vw ls,(kHook K KA K_as).val w)
theorem Lf_is:Lf=Lf:=rfl
theorem Rt_is:Rt=Rt:=rfl
name_quick MwLq for Lf by Lf_is
name_quick MwRq for Rt by Rt_is
theorem run (w:World):(fun os=>Lf (w) os)=fun os=>Rt (w) os :=
 (congrFun PySem.W.Fast.MwLq_eq (w)).trans (Eq.trans (by kernel_rfl:PySem.W.Fast.MwLq (w)=PySem.W.Fast.MwRq (w)) (congrFun PySem.W.Fast.MwRq_eq (w)).symm)
theorem hLf9:LeftO PySem.Challenge.pw_markwords_k72_texts_that_are_no_images vw ls Xt (kHook K KA K_as).obs (kHook K KA K_as).val 4882 :=
 Hd.left_of (M:=4882) (by kernel_rfl) (by decide) (fun _=>by kernel_rfl) (by decide) (fun w os=>congrFun (run w) os) Hd.boot_main
end Mw
open PySem PySem.W PyProof.Rows
set_option maxRecDepth 100000 in
set_option maxHeartbeats 0 in
theorem PySem.Challenge.cw_markwords_k72_texts_that_are_no_images_holds : PySem.Challenge.rw_markwords_k72_texts_that_are_no_images.Holds := by
 w_on; o_law
 refine Hd.close (q:=Mw.vw) (loose:=Mw.ls) (lv:=Mw.lv) (H:=kHook Mw.K Mw.KA Mw.K_as) (N:=4882) Mw.hLf9 (by rfl) (by rfl) (by rfl) (by rfl) (by assumption) (by decide +kernel) ⟨rfl,rfl,rfl,rfl,rfl,by decide +kernel⟩ ?hw ?hc
 case hw=>w_witness2
 k_fill
 refine Mw.walk (l:=PySem.Challenge.rw_markwords_k72_texts_that_are_no_images) rfl rfl (fun w h Y=>PySem.W.kIn_of Y) ?F
 case F =>
  intro w mg fa h KX G hmg
  refine' Mw.all_mk KX G hmg ?xaNoText ?xaWordError ?xaWk ?xaNought ?xaNoRoom ?xaFaulty ?xaNotFormed ?xoNoText ?ENoText_WordError ?a1 ?l1 ?c1 ?k1 ?a2 ?l2 ?c2 ?k2 ?a3 ?l3 ?c3 ?k3 ?a4 ?l4 ?c4 ?k4 ?a5 ?l5 ?c5 ?k5 ?a6 ?l6 ?c6 ?k6 ?a7 ?l7 ?c7 ?k7 ?a8 ?l8 ?c8 ?k8 ?a9 ?l9 ?c9 ?k9 ?a10 ?l10 ?c10 ?k10 ?a11 ?l11 ?c11 ?k11 ?a12 ?l12 ?c12 ?k12 ?a13 ?l13 ?c13 ?k13 ?a14 ?l14 ?c14 ?k14 ?a15 ?l15 ?c15 ?k15 ?a16 ?l16 ?c16 ?k16 ?a17 ?l17 ?c17 ?k17 ?a18 ?l18 ?c18 ?k18 ?a19 ?l19 ?c19 ?k19 ?a20 ?l20 ?c20 ?k20 ?a21 ?l21 ?c21 ?k21 ?a22 ?l22 ?c22 ?k22 ?a23 ?l23 ?c23 ?k23 ?a24 ?l24 ?c24 ?k24 ?a25 ?l25 ?c25 ?k25 ?a26 ?l26 ?c26 ?k26 ?a27 ?l27 ?c27 ?k27 ?xt1NoText ?xt2NoText ?xt3NoText ?xt4NoText ?xt5NoText ?xt6NoText ?xt7NoText ?xt8NoText ?INoText_ValueError ?INoText_NoText ?INoText_NotFormed_Faulty_NoRoom ?INoText_Nought_Wk ?ynNVE ?z1 ?z2 ?z3 ?z4 ?z5 ?z6 ?z7 ?z8 ?z9 ?z10 ?z11 ?z12 ?z13 ?z14 ?z15 ?z16 ?z17 ?z18 ?g1 ?g2 ?g3 ?gs1 ?gs2
  (case xaNoText=>k_is)
  (case xaWordError=>k_is)
  (case xaWk=>k_is)
  (case xaNought=>k_is)
  (case xaNoRoom=>k_is)
  (case xaFaulty=>k_is)
  (case xaNotFormed=>k_is)
  (case xoNoText=>kernel_rfl)
  (case ENoText_WordError=>kernel_rfl)
  (case a1=>k_is)
  (case l1=>k_is)
  (case c1=>k_is)
  (case k1=>k_is)
  (case a2=>k_is)
  (case l2=>k_is)
  (case c2=>k_is)
  (case k2=>k_is)
  (case a3=>k_is)
  (case l3=>k_is)
  (case c3=>k_is)
  (case k3=>k_is)
  (case a4=>k_is)
  (case l4=>k_is)
  (case c4=>k_is)
  (case k4=>k_is)
  (case a5=>k_is)
  (case l5=>k_is)
  (case c5=>k_is)
  (case k5=>k_is)
  (case a6=>k_is)
  (case l6=>k_is)
  (case c6=>k_is)
  (case k6=>k_is)
  (case a7=>k_is)
  (case l7=>k_is)
  (case c7=>k_is)
  (case k7=>k_is)
  (case a8=>k_is)
  (case l8=>k_is)
  (case c8=>k_is)
  (case k8=>k_is)
  (case a9=>k_is)
  (case l9=>k_is)
  (case c9=>k_is)
  (case k9=>k_is)
  (case a10=>k_is)
  (case l10=>k_is)
  (case c10=>k_is)
  (case k10=>k_is)
  (case a11=>k_is)
  (case l11=>k_is)
  (case c11=>k_is)
  (case k11=>k_is)
  (case a12=>k_is)
  (case l12=>k_is)
  (case c12=>k_is)
  (case k12=>k_is)
  (case a13=>k_is)
  (case l13=>k_is)
  (case c13=>k_is)
  (case k13=>k_is)
  (case a14=>k_is)
  (case l14=>k_is)
  (case c14=>k_is)
  (case k14=>k_is)
  (case a15=>k_is)
  (case l15=>k_is)
  (case c15=>k_is)
  (case k15=>k_is)
  (case a16=>k_is)
  (case l16=>k_is)
  (case c16=>k_is)
  (case k16=>k_is)
  (case a17=>k_is)
  (case l17=>k_is)
  (case c17=>k_is)
  (case k17=>k_is)
  (case a18=>k_is)
  (case l18=>k_is)
  (case c18=>k_is)
  (case k18=>k_is)
  (case a19=>k_is)
  (case l19=>k_is)
  (case c19=>k_is)
  (case k19=>k_is)
  (case a20=>k_is)
  (case l20=>k_is)
  (case c20=>k_is)
  (case k20=>k_is)
  (case a21=>k_is)
  (case l21=>k_is)
  (case c21=>k_is)
  (case k21=>k_is)
  (case a22=>k_is)
  (case l22=>k_is)
  (case c22=>k_is)
  (case k22=>k_is)
  (case a23=>k_is)
  (case l23=>k_is)
  (case c23=>k_is)
  (case k23=>k_is)
  (case a24=>k_is)
  (case l24=>k_is)
  (case c24=>k_is)
  (case k24=>k_is)
  (case a25=>k_is)
  (case l25=>k_is)
  (case c25=>k_is)
  (case k25=>k_is)
  (case a26=>k_is)
  (case l26=>k_is)
  (case c26=>k_is)
  (case k26=>k_is)
  (case a27=>k_is)
  (case l27=>k_is)
  (case c27=>k_is)
  (case k27=>k_is)
  (case xt1NoText=>kernel_rfl)
  (case xt2NoText=>kernel_rfl)
  (case xt3NoText=>kernel_rfl)
  (case xt4NoText=>kernel_rfl)
  (case xt5NoText=>kernel_rfl)
  (case xt6NoText=>kernel_rfl)
  (case xt7NoText=>kernel_rfl)
  (case xt8NoText=>kernel_rfl)
  (case INoText_ValueError=>kernel_rfl)
  (case INoText_NoText=>kernel_rfl)
  (case INoText_NotFormed_Faulty_NoRoom=>kernel_rfl)
  (case INoText_Nought_Wk=>kernel_rfl)
  (case ynNVE=>k_is)
  (case z1=>k_is)
  (case z2=>k_is)
  (case z3=>k_is)
  (case z4=>k_is)
  (case z5=>k_is)
  (case z6=>k_is)
  (case z7=>k_is)
  (case z8=>k_is)
  (case z9=>k_is)
  (case z10=>k_is)
  (case z11=>k_is)
  (case z12=>k_is)
  (case z13=>k_is)
  (case z14=>k_is)
  (case z15=>k_is)
  (case z16=>k_is)
  (case z17=>k_is)
  (case z18=>k_is)
  (case g1=>k_is)
  (case g2=>k_is)
  (case g3=>k_is)
  (case gs1=>k_is)
  (case gs2=>k_is)
